/- Several texts in one. -/
import Derived.Test.YtjdijlaoeoikhaaGreatDoorG07
import Derived.Deep.RegionLaw
import Derived.Laws.BitsAllLaws
set_option linter.unusedVariables false
/- Bytes that a call owns, and appends onto. -/
namespace Go.Proofs.YtjdijlaoeoikhaaGreatDoor.esc
open Go.RowKit

/-- Bytes that a call owns. -/
abbrev OwnB (w : World) (B : Nat) (v : Value) (acc : List UInt8) : Prop := w.ownsRow B 5 1 v acc.length (Lib.byteCells acc)

theorem own_push {w : World} {B : Nat} {v : Value} {acc l : List UInt8} {n : Nat} {xs : List Value} (h : w.ownsRow B 5 1 v (acc.length + n) (Lib.byteCells acc ++ xs)) (hn : l.length = n) (hx : Lib.byteCells l = xs) : OwnB w B v (acc ++ l) := by
  subst hn hx
  show w.ownsRow _ _ _ _ (acc ++ l).length _
  rw [List.length_append, Lib.byteCells_append]
  exact h

/-- What is told of a function that writes bytes behind those that it is handed. -/
abbrev Wrote (B : Nat) (w : World) (acc l : List UInt8) (e : Ending) (w' : World) : Prop := ∃ v', e = .returned v' ∧ OwnB w' B v' (acc ++ l) ∧ Below B w w'

theorem below_drew {B : Nat} {w0 w : World} (h : Below B w0 w) : Below B w0 w.drew := h.trans ⟨rfl, rfl, rfl, Nat.le_refl _, fun k hk => rfl⟩

theorem byteCells_one (c : UInt8) : Lib.byteCells [c] = [.int .u8 (c.toNat : Int)] := by simp [Lib.byteCells]


/-- append onto a row that the call owns, as one step of a region that draws its order. -/
theorem step_append_own {P : Program} {ops : Array Oper} {o : Oper} {a : Act} {w : World} {K : Act → World → Prop} {Q : Exit → Act → World → Prop} {E : Prop}
    (hg : o.guard = none) (s x : Operand) (t : TypeId) (hop : o.op = Op.call { callee := Callee.builtin Builtin.append, args := #[s, x], argTypes := #[t, t] })
    (base : Nat) (e : TypeId) (i : TypeInfo) (z : Value) (size bytes : Nat) (h1 : P.underlying t = some (.slice e)) (h2 : P.info? e = some i) (h3 : i.zero = some z) (h4 : i.size = size) (h5 : i.bytes = bytes) (h6 : z.cells.size = size) (h7 : 0 < size)
    (v : Value) (n : Nat) (xs : List Value) (hs : a.eval s = v) (hown : w.ownsRow base e size v n xs)
    (ad : Addr) (m c : Nat) (news : List Value) (hx : a.eval x = .slice (some ad) m c) (hn : news.length = m * size) (hc : ∀ j u, news[j]? = some u → w.cell? (ad.add j) = some u) (h1c : ∀ u ∈ news, u.oneCell' = true)
    (b1 : n + m ≤ maxLen) (b2 : (n + m) * bytes ≤ 140737488355328) (hbase : base ≤ w.heap.size)
    (hK : ∀ v' w', w'.ownsRow base e size v' (n + m) (xs ++ news) → w.grownBy w' v.ownBlock → K (a.put o.dst v') w') :
    if Region.wanted o (yielded ops a.tmps) = true then Oper.wp P o a w K Q else E := by
  have hw : Region.wanted o (yielded ops a.tmps) = true := by simp [Region.wanted, hg]
  rw [if_pos hw]
  obtain ⟨v', w', hrun, r1, r2, _⟩ := run_append_own (P := P) w base t o.type e i z size bytes h1 h2 h3 h4 h5 h6 h7 v n xs hown ad m c news hn hc h1c b1 b2 hbase
  unfold Oper.wp
  simp [execOp, hop, resolve, invoke, builtin, hs, hx, hrun, Result.andThen]
  exact hK v' w' r1 r2

end Go.Proofs.YtjdijlaoeoikhaaGreatDoor.esc

/- What escape's Unescape answers, of any text. -/
namespace Go.Proofs.YtjdijlaoeoikhaaGreatDoor.esc
open Go.RowKit

theorem lookup_mem : ∀ (t : List (List UInt8 × List UInt8)) (x v : List UInt8), t.lookup x = some v → (x, v) ∈ t
  | [], x, v, h => by simp at h
  | (a, b) :: t, x, v, h => by
    rw [List.lookup_cons] at h
    split at h
    · rename_i e
      simp only [Option.some.injEq] at h
      subst h
      have : x = a := by simpa using e
      subst this
      simp
    · exact List.mem_cons_of_mem _ (lookup_mem t x v h)

theorem table_len : ∀ q ∈ table, q.2.length ≤ q.1.length + 2 := by decide

theorem nameT_len (x : List UInt8) : (nameT x).length ≤ x.length + 2 := by
  unfold nameT
  cases h : table.lookup x with
  | none => simp
  | some v => exact table_len (x, v) (lookup_mem table x v h)

theorem lt_of_get {l : List UInt8} {k : Nat} {c : UInt8} (h : l[k]? = some c) : k < l.length := (List.getElem?_eq_some_iff.1 h).1

theorem nameE_len (l : List UInt8) : (nameE l).1.length ≤ (nameE l).2 ∧ (nameE l).2 ≤ l.length := by
  unfold nameE
  split
  · rename_i h
    have h1 := lt_of_get h.1
    have h2 := nameT_len ((l.drop 1).takeWhile alnum)
    refine ⟨?_, ?_⟩ <;> dsimp only <;> omega
  · simp
theorem numE_len (l : List UInt8) (start base most : Nat) (hs : 2 ≤ start) : (numE l start base most).1.length ≤ (numE l start base most).2 ∧ (numE l start base most).2 ≤ l.length := by
  unfold numE
  split
  · rename_i h
    have h1 := lt_of_get h.2
    have h2 := enc_len (charN (readN base most (l.drop start) 0).2)
    have h3 := h.1
    refine ⟨?_, ?_⟩ <;> dsimp only <;> omega
  · simp
theorem entity_len (l : List UInt8) : (entity l).1.length ≤ (entity l).2 ∧ (entity l).2 ≤ l.length := by
  unfold entity
  split
  · split
    · split
      · exact numE_len l 3 16 6 (by omega)
      · exact numE_len l 2 10 7 (by omega)
    · exact nameE_len l
  · simp

theorem unesc_byte (s : ByteArray) (p : Nat) (h : p < s.size) (hn : ¬ (s[p].toNat = 92 ∧ ∃ h1 : p + 1 < s.size, markN s[p + 1].toNat = true)) :
    unesc (s.data.toList.drop p) = if 0 < (entity (s.data.toList.drop p)).2 then (entity (s.data.toList.drop p)).1 ++ unesc (s.data.toList.drop (p + (entity (s.data.toList.drop p)).2)) else s[p] :: unesc (s.data.toList.drop (p + 1)) := by
  rw [← List.drop_drop, drop_byte s p h, unesc_cons, if_neg]
  rintro ⟨h1, h2, h3⟩
  have hlt : p + 1 < s.size := by
    rw [← len_data]
    have := List.length_pos_iff.2 h2
    rw [List.length_drop] at this
    omega
  refine hn ⟨h1, hlt, ?_⟩
  rw [drop_byte s (p + 1) hlt] at h3
  exact h3

theorem unesc_two (s : ByteArray) (p : Nat) (h : p + 1 < s.size) (h1 : s[p] = 92) (h2 : markN s[p + 1].toNat = true) :
    unesc (s.data.toList.drop p) = s[p + 1] :: unesc (s.data.toList.drop (p + 2)) := by
  rw [drop_byte s p (by omega), drop_byte s (p + 1) h, h1, unesc_mark _ _ h2]

set_option maxHeartbeats 4000000 in
set_option maxRecDepth 100000 in
theorem unesc_any (s : ByteArray) (w : World) (hs : s.size ≤ 140737488351232) :
    Calls Tryz.prog 130 #[.string s] w fun e w' => e = .returned (.string ⟨(unesc s.data.toList).toArray⟩) ∧ Below w.heap.size w w' := by
  obtain ⟨i0, hi, hz0, hz1, hz2⟩ := info_parts info5
  have hm : s.size ≤ maxLen := by unfold maxLen; omega
  go_enter Tryz.func130, Tryz.ntmps130
  go_wp2_with (at_make; refine wpList_make_own _ rfl _ _ 47 rfl w.heap.size 5 i0 (.int .u8 0) 1 Tryz.underlying47 hi hz0 hz1 _ _ _ s.size rfl rfl rfl ?b1 hm (Nat.le_refl _) ?_)
  case b1 => rw [hz2]; omega
  intro w1 hown0 hgr0
  have hb1 : Below w.heap.size w w1 := (Below.refl _ _).grown hgr0 (Nat.le_refl _) (fun k hk => by cases hk)
  clear hgr0
  go_wp2
  go_loopw [3, 4] (fun v t wr => ∃ (p : Nat) (acc : List UInt8), OwnB wr w.heap.size v acc ∧ t = .int .i64 (p : Int) ∧ p ≤ s.size ∧ Below w.heap.size w wr ∧ Hid (acc ++ unesc (s.data.toList.drop p) = unesc s.data.toList) ∧ acc.length ≤ p) (fun _ t _ => s.size - (intOf t).toNat)
  case atStart => exact ⟨0, [], hown0, rfl, by omega, hb1, rfl, by simp⟩
  case round =>
    obtain ⟨p, acc, hown, rfl, hp, hbw, HA, hal⟩ := hrel
    have hsz := hbw.size
    clear hown0 hb1
    by_cases hlt : p < s.size
    · by_cases hmk : s[p] = 92 ∧ ∃ h1 : p + 1 < s.size, markN s[p + 1].toNat = true
      · obtain ⟨h92, h1, hmk⟩ := hmk
        have HA' : Hid ((acc ++ [s[p + 1]]) ++ unesc (s.data.toList.drop (p + 2)) = unesc s.data.toList) := by
          show _ = _
          rw [List.append_assoc, ← HA.out, unesc_two s p h1 h92 hmk]
          rfl
        have q92 : ((s[p].toNat : Int) == 92) = true := by rw [h92]; rfl
        have cm := mark_any s[p + 1].toNat
        rw [hmk] at cm
        clear HA h92 hmk
        go_wp2_with (first | (go_at_call 30; refine (cm _).mono ?_; rintro e w' ⟨rfl, rfl⟩) | (at_builtin; refine wpList_append_own _ rfl _ _ 47 rfl w.heap.size 5 i0 (.int .u8 0) 1 1 Tryz.underlying47 hi hz0 hz1 hz2 rfl (by decide) _ _ _ rfl (hown.alloc _) ⟨_, 0, none⟩ 1 1 [.int .u8 (s[p + 1].toNat : Int)] rfl rfl (lit_cells _ _ _) ?c2 ?c3 ?c4 ?c5 ?_))
        case c2 => intro u hu; simp at hu; subst hu; rfl
        case c3 => unfold maxLen; omega
        case c4 => omega
        case c5 => simp; omega
        intro v2 w2 hown2 hgrow _
        have hown2' := own_push (l := [s[p + 1]]) hown2 rfl (byteCells_one _)
        have hb2 := below_grown hbw hsz hown hgrow
        clear hown2 hgrow
        go_wp2
        go_roundw
        case rel => exact ⟨p + 2, acc ++ [s[p + 1]], hown2', by go_num, by omega, hb2, HA', by rw [List.length_append]; simp; omega⟩
        case measure => simp [intOf]; omega
      · have hub := unesc_byte s p hlt (fun h => hmk ⟨u8_eq (n := 92) h.1, h.2⟩)
        have hel := entity_len (s.data.toList.drop p)
        rw [List.length_drop, len_data] at hel
        have hext := extract_end s p
        have hen := entity_any (s.extract p s.size) (by rw [hext, size_list, List.length_drop, len_data]; omega)
        have hed : (s.extract p s.size).data.toList = s.data.toList.drop p := by rw [hext]
        rw [hed] at hen
        have h92n : ¬ s[p] = 92 ∨ (s[p] = 92 ∧ s.size ≤ p + 1) ∨ (s[p] = 92 ∧ ∃ h1 : p + 1 < s.size, markN s[p + 1].toNat = false) := by
          by_cases h92 : s[p] = 92
          · right
            by_cases h1 : p + 1 < s.size
            · right
              refine ⟨h92, h1, ?_⟩
              cases hm2 : markN s[p + 1].toNat with
              | true => exact absurd ⟨h92, h1, hm2⟩ hmk
              | false => rfl
            · left; exact ⟨h92, by omega⟩
          · left; exact h92
        have hca := HA.out
        rw [hub] at hca
        have hnone : s[p] = 92 → (entity (s.data.toList.drop p)).2 = 0 := by
          intro h92
          rw [drop_byte s p hlt, entity_other _ _ (by rw [h92]; decide)]
        generalize entity (s.data.toList.drop p) = E at *
        obtain ⟨t, n⟩ := E
        simp only at hca hel hen hnone
        clear hub hmk hext hed HA
        obtain ⟨ht, hn⟩ := hel
        by_cases hn0 : n = 0
        · subst hn0
          clear hnone
          have HA' : Hid ((acc ++ [s[p]]) ++ unesc (s.data.toList.drop (p + 1)) = unesc s.data.toList) := by
            show _ = _
            rw [if_neg (by omega)] at hca
            rw [List.append_assoc]
            exact hca
          clear hca
          rcases h92n with h92 | ⟨h92, hle⟩ | ⟨h92, h1, hmf⟩
          · have q92 : ((s[p].toNat : Int) == 92) = false := by rw [beq_eq_false_iff_ne]; intro h; exact h92 (u8_eq (n := 92) (by omega))
            clear h92
            go_wp2_with (first | (go_at_call 36; refine (hen _).mono ?_; rintro e w' ⟨rfl, rfl⟩) | (at_builtin; refine wpList_append_own _ rfl _ _ 47 rfl w.heap.size 5 i0 (.int .u8 0) 1 1 Tryz.underlying47 hi hz0 hz1 hz2 rfl (by decide) _ _ _ rfl (hown.alloc _) ⟨_, 0, none⟩ 1 1 [.int .u8 (s[p].toNat : Int)] rfl rfl (lit_cells _ _ _) ?c2 ?c3 ?c4 ?c5 ?_))
            case c2 => intro u hu; simp at hu; subst hu; rfl
            case c3 => unfold maxLen; omega
            case c4 => omega
            case c5 => simp; omega
            intro v2 w2 hown2 hgrow _
            have hown2' := own_push (l := [s[p]]) hown2 rfl (byteCells_one _)
            have hb2 := below_grown hbw hsz hown hgrow
            clear hown2 hgrow
            go_wp2
            go_roundw
            case rel => exact ⟨p + 1, acc ++ [s[p]], hown2', by go_num, by omega, hb2, HA', by rw [List.length_append]; simp; omega⟩
            case measure => simp [intOf]; omega
          · have q92 : ((s[p].toNat : Int) == 92) = true := by rw [h92]; rfl
            have hd : decide ((p : Int) + 1 < (s.size : Int)) = false := by simp; omega
            clear h92
            go_wp2_with (first | (go_at_call 36; refine (hen _).mono ?_; rintro e w' ⟨rfl, rfl⟩) | (at_builtin; refine wpList_append_own _ rfl _ _ 47 rfl w.heap.size 5 i0 (.int .u8 0) 1 1 Tryz.underlying47 hi hz0 hz1 hz2 rfl (by decide) _ _ _ rfl (hown.alloc _) ⟨_, 0, none⟩ 1 1 [.int .u8 (s[p].toNat : Int)] rfl rfl (lit_cells _ _ _) ?c2 ?c3 ?c4 ?c5 ?_))
            case c2 => intro u hu; simp at hu; subst hu; rfl
            case c3 => unfold maxLen; omega
            case c4 => omega
            case c5 => simp; omega
            intro v2 w2 hown2 hgrow _
            have hown2' := own_push (l := [s[p]]) hown2 rfl (byteCells_one _)
            have hb2 := below_grown hbw hsz hown hgrow
            clear hown2 hgrow
            go_wp2
            go_roundw
            case rel => exact ⟨p + 1, acc ++ [s[p]], hown2', by go_num, by omega, hb2, HA', by rw [List.length_append]; simp; omega⟩
            case measure => simp [intOf]; omega
          · have q92 : ((s[p].toNat : Int) == 92) = true := by rw [h92]; rfl
            have cm := mark_any s[p + 1].toNat
            rw [hmf] at cm
            clear h92 hmf
            go_wp2_with (first | (go_at_call 30; refine (cm _).mono ?_; rintro e w' ⟨rfl, rfl⟩) | (go_at_call 36; refine (hen _).mono ?_; rintro e w' ⟨rfl, rfl⟩) | (at_builtin; refine wpList_append_own _ rfl _ _ 47 rfl w.heap.size 5 i0 (.int .u8 0) 1 1 Tryz.underlying47 hi hz0 hz1 hz2 rfl (by decide) _ _ _ rfl (hown.alloc _) ⟨_, 0, none⟩ 1 1 [.int .u8 (s[p].toNat : Int)] rfl rfl (lit_cells _ _ _) ?c2 ?c3 ?c4 ?c5 ?_))
            case c2 => intro u hu; simp at hu; subst hu; rfl
            case c3 => unfold maxLen; omega
            case c4 => omega
            case c5 => simp; omega
            intro v2 w2 hown2 hgrow _
            have hown2' := own_push (l := [s[p]]) hown2 rfl (byteCells_one _)
            have hb2 := below_grown hbw hsz hown hgrow
            clear hown2 hgrow
            go_wp2
            go_roundw
            case rel => exact ⟨p + 1, acc ++ [s[p]], hown2', by go_num, by omega, hb2, HA', by rw [List.length_append]; simp; omega⟩
            case measure => simp [intOf]; omega
        · have HA' : Hid ((acc ++ t) ++ unesc (s.data.toList.drop (p + n)) = unesc s.data.toList) := by
            show _ = _
            rw [if_pos (by omega)] at hca
            rw [List.append_assoc]
            exact hca
          have hn1 : 0 < n := by omega
          have hts := size_list t
          clear hca
          rcases h92n with h92 | ⟨h92, hle⟩ | ⟨h92, h1, hmf⟩
          · have q92 : ((s[p].toNat : Int) == 92) = false := by rw [beq_eq_false_iff_ne]; intro h; exact h92 (u8_eq (n := 92) (by omega))
            clear h92 hnone
            go_wp2_with (first | (go_at_call 36; refine (hen _).mono ?_; rintro e w' ⟨rfl, rfl⟩) | (at_builtin; refine Lib.wpList_append_own_string _ rfl _ _ 47 9 rfl w.heap.size 5 i0 Tryz.underlying47 Tryz.underlying9 hi hz0 hz1 hz2 _ _ _ rfl hown ⟨t.toArray⟩ rfl ?c1 ?c2 hsz ?_))
            case c1 => unfold maxLen; rw [hts]; omega
            case c2 => rw [hts]; omega
            intro v2 w2 hown2 hgrow _
            have hown2' := own_push (l := t) hown2 hts.symm (strCells_list t).symm
            have hb2 := below_grown0 hbw hsz hown hgrow
            clear hown2 hgrow
            go_wp2
            go_roundw
            case rel => exact ⟨p + n, acc ++ t, hown2', by go_num, by omega, hb2, HA', by rw [List.length_append]; omega⟩
            case measure => simp [intOf]; omega
          · exact absurd (hnone h92) hn0
          · exact absurd (hnone h92) hn0
    · have hcv := own_string hown
      have hfin := HA.out
      rw [drop_past s p (by omega), unesc_nil, List.append_nil] at hfin
      have HF : Hid (Ending.returned (.string ⟨acc.toArray⟩) = .returned (.string ⟨(unesc s.data.toList).toArray⟩)) := by show _ = _; rw [hfin]
      clear hfin HA hown
      go_wp2
      go_ret
      exact ⟨HF.out, hbw⟩

end Go.Proofs.YtjdijlaoeoikhaaGreatDoor.esc
