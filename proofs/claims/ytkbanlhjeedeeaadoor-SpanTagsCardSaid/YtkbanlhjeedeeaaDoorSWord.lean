/- A row of bytes that a conversion laid, or an append behind it: it may bear the conversion's mark behind its last cell. -/
import Derived.Test.YtkbanlhjeedeeaaDoorSWithout
import Derived.Laws.IdiomCopy
set_option linter.unusedVariables false
namespace Go.Proofs.YtkbanlhjeedeeaaDoor
open Go.RowKit

/-- Bytes that a call owns, in a block that may bear a mark behind its last cell. -/
def OwnM (w : World) (B : Nat) (v : Value) (l : List UInt8) : Prop :=
  ∃ (g cap : Nat) (cur : Array Value) (fz : Nat × Nat), v = .slice (some ⟨g, 0, none⟩) l.length cap ∧ B ≤ g ∧ w.heap[g]? = some (.cells cur 5 fz) ∧ (∀ j, j < cur.size → ¬ (fz.1 ≤ j ∧ j < fz.2)) ∧ l.length ≤ cap ∧ cap ≤ maxLen ∧ cur.size = cap ∧ cur.toList.take l.length = Lib.byteCells l

theorem OwnM.slice {w : World} {B : Nat} {v : Value} {l : List UInt8} (h : OwnM w B v l) : ∃ a c, v = .slice a l.length c := by
  obtain ⟨g, cap, cur, fz, rfl, _⟩ := h
  exact ⟨_, _, rfl⟩

theorem OwnM.lt {w : World} {B : Nat} {v : Value} {l : List UInt8} (h : OwnM w B v l) : ∀ k, v.ownBlock = some k → B ≤ k ∧ k < w.heap.size := by
  intro k hk
  obtain ⟨g, cap, cur, fz, rfl, hb, hg, _⟩ := h
  simp [Value.ownBlock] at hk
  subst hk
  exact ⟨hb, (Array.getElem?_eq_some_iff.1 hg).1⟩

theorem OwnM.alloc {w : World} {B : Nat} {v : Value} {l : List UInt8} (h : OwnM w B v l) (o : Obj) : OwnM (w.alloc o) B v l := by
  obtain ⟨g, cap, cur, fz, hv, hb, hg, rest⟩ := h
  exact ⟨g, cap, cur, fz, hv, hb, ((World.grownBy_alloc w o none).block g (Array.getElem?_eq_some_iff.1 hg).1 (by simp)).trans hg, rest⟩

theorem row_cell {w : World} {g : Nat} {cur : Array Value} {e : TypeId} {fz : Nat × Nat} (h : w.heap[g]? = some (.cells cur e fz)) {j : Nat} {u : Value} (hu : cur[j]? = some u) : w.cell? ⟨g, j, none⟩ = some u := by
  simp [World.cell?, h, hu]

theorem add_lit' (g j : Nat) : (⟨g, 0, none⟩ : Addr).add j = ⟨g, j, none⟩ := by unfold Addr.add; split <;> simp_all

/-- What a conversion lays. -/
theorem own_conv (w : World) (s : ByteArray) (hs : s.size ≤ maxLen) : OwnM (Lib.bytesWorld w 5 s) w.heap.size (.slice (some ⟨w.heap.size, 0, none⟩) s.size (grownCap w s.size 0 5)) s.data.toList ∧ Below w.heap.size w (Lib.bytesWorld w 5 s) := by
  have hge := grownCap_ge w s.size 0 5
  have hsz : (Lib.bytesCells w 5 s).size = grownCap w s.size 0 5 := by simp [Lib.bytesCells]; omega
  refine ⟨⟨w.heap.size, _, _, _, by rw [len_data], Nat.le_refl _, Lib.bytesWorld_at_new w 5 s, fun j hj => by simp; omega, by rw [len_data]; exact hge, grownCap_le_maxLen w s.size 0 5 hs, hsz, ?_⟩, ?_⟩
  · rw [len_data]
    unfold Lib.bytesCells
    rw [Array.toList_append, List.take_append_of_le_length (by simp)]
    rw [List.take_of_length_le (by simp)]
    simp [Lib.byteCells]
  · refine ⟨rfl, rfl, rfl, by rw [Lib.bytesWorld_size]; omega, fun k hk => Lib.bytesWorld_at_old w 5 s k hk⟩

theorem set_mark {w : World} {b : Nat} {cs : Array Value} {t : TypeId} {fz : Nat × Nat} (h : w.heap[b]? = some (.cells cs t fz)) (i : Nat) (u : Value) : (w.setCell ⟨b, i, none⟩ u).heap[b]? = some (.cells (cs.setIfInBounds i u) t fz) := by
  have hlt := (Array.getElem?_eq_some_iff.1 h).1
  have h' : w.heap[b] = .cells cs t fz := by simpa [Array.getElem?_eq_getElem hlt] using h
  show (w.heap.modify b _)[b]? = _
  rw [Array.getElem?_eq_getElem (by simpa using hlt), Array.getElem_modify_self, h']
  rfl
theorem set_other {w : World} {b k : Nat} (i : Nat) (u : Value) (hk : k ≠ b) : (w.setCell ⟨b, i, none⟩ u).heap[k]? = w.heap[k]? := by
  show (w.heap.modify b _)[k]? = _
  rw [Array.getElem?_modify, if_neg (fun e => hk e.symm)]

/-- One byte more. -/
theorem run_append_M (w : World) (ty : TypeId) (i0 : TypeInfo) (hi : Tryd.prog.info? 5 = some i0) (hz0 : i0.zero = some (.int .u8 0)) (hz1 : i0.size = 1) (hz2 : i0.bytes = 1)
    (B : Nat) (v : Value) (l : List UInt8) (hown : OwnM w B v l) (hl : l.length ≤ 3000) (hB : B ≤ w.heap.size) (c : UInt8) (a : Addr) (cc : Nat) (hc : w.cell? a = some (.int .u8 (c.toNat : Int))) (ha : a.spot = none) :
    ∃ v' w', (Builtin.append_ #[30, 30] ty #[v, .slice (some a) 1 cc]).run Tryd.prog w = .ok v' w' ∧ OwnM w' B v' (l ++ [c]) ∧ w.grownBy w' v.ownBlock := by
  obtain ⟨g, cap, cur, fz, rfl, hb, hg, hfz, hlc, hcm, hcs, htk⟩ := hown
  have hnews : ∀ j u, [Value.int .u8 (c.toNat : Int)][j]? = some u → w.cell? (a.add j) = some u := by
    intro j u hu
    match j with
    | 0 =>
      simp at hu
      subst hu
      have : a.add 0 = a := by cases a; unfold Addr.add; simp_all
      rw [this]; exact hc
    | j + 1 => simp at hu
  have hbl : (l ++ [c]).length = l.length + 1 := by simp
  have hbc : Lib.byteCells (l ++ [c]) = Lib.byteCells l ++ [.int .u8 (c.toNat : Int)] := by rw [Lib.byteCells_append, byteCells_one]
  by_cases hroom : l.length + 1 ≤ cap
  · have hlt : l.length < cur.size := by omega
    have hf := run_firstCells_some (P := Tryd.prog) w i0.size 1 a 1 cc [Value.int .u8 (c.toNat : Int)] (by rw [hz1]; rfl) hnews
    have hst := run_storeCells_cells (P := Tryd.prog) g l.length [Value.int .u8 (c.toNat : Int)] 0 w (by
      intro j hj
      simp at hj
      subst hj
      rw [row_cell hg (show cur[l.length + 0 + 0]? = some cur[l.length] from by simp [hlt])]
      rfl) (by
      intro j hj
      simp at hj
      subst hj
      have := hfz l.length hlt
      simp only [World.frozen?, hg]
      simp
      omega) (by intro u hu; simp at hu; subst hu; rfl)
    refine ⟨.slice (some ⟨g, 0, none⟩) (l.length + 1) cap, w.setCell ⟨g, l.length, none⟩ (.int .u8 (c.toNat : Int)), ?_, ?_, ?_⟩
    · have hst2 : (storeCells ⟨g, l.length, none⟩ [Value.int .u8 (c.toNat : Int)] 0).run Tryd.prog w = .ok () (w.setCell ⟨g, l.length, none⟩ (.int .u8 (c.toNat : Int))) := hst
      rw [hz1] at hf
      simp [Builtin.append_, run_underlying Tryd.underlying30, sizeOf, typeInfo, hi, Builtin.lenOf, hroom, hf, hz1, Addr.add_lit, hst2]
    · refine ⟨g, cap, _, fz, by rw [hbl], hb, set_mark hg _ _, fun j hj => hfz j (by simpa using hj), by omega, hcm, by simpa using hcs, ?_⟩
      rw [hbl, hbc, ← htk, Array.toList_setIfInBounds, List.take_succ_eq_append_getElem (by simpa using hlt), List.getElem_set_self, List.take_set_of_le (Nat.le_refl _)]
    · exact ⟨rfl, rfl, rfl, Nat.le_of_eq (by show _ = (w.heap.modify g _).size; simp), fun k _ hk => set_other _ _ (fun e => hk (by simp [Value.ownBlock, e]))⟩
  · have holds : ∀ j u, (Lib.byteCells l)[j]? = some u → w.cell? ((⟨g, 0, none⟩ : Addr).add j) = some u := by
      intro j u hu
      rw [add_lit', row_cell hg]
      rw [← htk, List.getElem?_take] at hu
      split at hu
      · simpa using hu
      · cases hu
    have hr := run_append_grow (P := Tryd.prog) w 30 ty 5 i0 (.int .u8 0) Tryd.underlying30 hi hz0 ⟨g, 0, none⟩ l.length cap (Lib.byteCells l) (by rw [hz1]; simp [Lib.byteCells]) holds a 1 cc [Value.int .u8 (c.toNat : Int)] (by rw [hz1]; rfl) hnews (by omega) (by omega) (growslice_fits (by omega) (by rw [hz2]; omega))
    have hge := grownCap_ge w (l.length + 1) cap 5
    refine ⟨_, _, hr, ⟨w.heap.size, _, _, (0, 0), by rw [hbl], hB, (show (w.heap.push _)[w.heap.size]? = some _ from Array.getElem?_push_size), fun j _ => by simp, by omega, grownCap_le_maxLen w _ cap 5 (by unfold maxLen; omega), ?_, ?_⟩, ⟨rfl, rfl, rfl, by simp, fun k hk _ => (World.grownBy_alloc w.drew _ none).block k hk (by simp)⟩⟩
    · simp [size_zeroCells, Value.cells, Lib.byteCells]
      omega
    · rw [hbl, hbc]
      simp only [Array.toList_append, List.append_assoc]
      rw [← List.append_assoc, List.take_left' (by simp [Lib.byteCells])]

theorem wpList_append_M {ops : Array Oper} {rest : List Oper} {o : Oper} {a : Act} {Q : Exit → Act → World → Prop} (w : World) (hgd : o.guard = none) (s x : Operand)
    (ho : o.op = .call { callee := .builtin .append, args := #[s, x], argTypes := #[30, 30] })
    (i0 : TypeInfo) (hi : Tryd.prog.info? 5 = some i0) (hz0 : i0.zero = some (.int .u8 0)) (hz1 : i0.size = 1) (hz2 : i0.bytes = 1)
    (B : Nat) (v : Value) (l : List UInt8) (hs : a.eval s = v) (hown : OwnM w B v l) (hl : l.length ≤ 3000) (hB : B ≤ w.heap.size) (c : UInt8) (ad : Addr) (cc : Nat) (hx : a.eval x = .slice (some ad) 1 cc) (hc : w.cell? ad = some (.int .u8 (c.toNat : Int))) (ha : ad.spot = none)
    (h : ∀ v' w', OwnM w' B v' (l ++ [c]) → w.grownBy w' v.ownBlock → wpList Tryd.prog ops Q rest (a.put o.dst v') w') : wpList Tryd.prog ops Q (o :: rest) a w :=
  wpList_plain hgd fun _ hK => by
    obtain ⟨v', w', hr, h2, h3⟩ := run_append_M w o.type i0 hi hz0 hz1 hz2 B v l hown hl hB c ad cc hc ha
    unfold Oper.wp execOp
    simp only [ho, resolve, invoke, builtin, Sem.run_bind, Sem.run_pure, Result.andThen_ok, List.map_toArray, List.map_cons, List.map_nil, hs, hx, hr]
    exact hK _ _ (h v' w' h2 h3)

/-- Bytes that a call owns, made into a string. -/
theorem ownM_string {w : World} {B : Nat} {v : Value} {l : List UInt8} (h : OwnM w B v l) : (convert 30 9 v).run Tryd.prog w = .ok (.string ⟨l.toArray⟩) w := by
  obtain ⟨g, cap, cur, fz, rfl, _, hg, _, _, _, _, htk⟩ := h
  refine run_convert_bytes_back w 30 9 5 ⟨g, 0, none⟩ cap l Tryd.underlying30 Tryd.underlying5 Tryd.underlying9 ?_
  intro j hj
  rw [add_lit', row_cell hg]
  have hu : (Lib.byteCells l)[j]? = some (.int .u8 (l[j].toNat : Int)) := by simp [Lib.byteCells, hj]
  rw [← htk, List.getElem?_take, if_pos hj] at hu
  simpa using hu

theorem below_grownM {w0 w w' : World} {B : Nat} {v : Value} {l : List UInt8} (hb : Below B w0 w) (hB : B ≤ w.heap.size) (h : OwnM w B v l) {o : Obj} (hg : (w.alloc o).grownBy w' v.ownBlock) : Below B w0 w' :=
  (hb.alloc hB o).grown hg (by simp; omega) (fun k hk => (h.lt k hk).1)

theorem word_cases (c : UInt8) : (wordC c = true ∧ ((97 ≤ c.toNat ∧ c.toNat ≤ 122) ∨ (c.toNat < 97 ∧ 48 ≤ c.toNat ∧ c.toNat ≤ 57))) ∨ (wordC c = false ∧ (c.toNat < 48 ∨ (57 < c.toNat ∧ c.toNat < 97) ∨ 122 < c.toNat)) := by
  unfold wordC
  by_cases h1 : 97 ≤ c.toNat ∧ c.toNat ≤ 122
  · left; exact ⟨by simp [h1], .inl h1⟩
  · by_cases h2 : 48 ≤ c.toNat ∧ c.toNat ≤ 57
    · left; exact ⟨by simp [h2], .inr ⟨by omega, h2⟩⟩
    · right
      refine ⟨?_, by omega⟩
      rw [Bool.eq_false_iff]
      simp
      omega

set_option maxHeartbeats 4000000 in
set_option maxRecDepth 4000 in
theorem word_any (f s : ByteArray) (hf : f.size ≤ 9) (hs : (s.size : Int) ≤ 140737488351232) (most : Nat) (hmost : most ≤ 2000) (hfm : f.size ≤ most) (w : World) (hm : ML w) :
    Calls Tryd.prog 18 #[.string f, .string s, .int .i64 (most : Int)] w fun e w' => ∃ l : List UInt8, e = .returned (.string ⟨(f.data.toList ++ l).toArray⟩) ∧ AllW l ∧ f.size + l.length ≤ most ∧ Below w.heap.size w w' := by
  obtain ⟨i0, hi, hz0, hz1, hz2⟩ := info_parts info5
  have hfd := len_data f
  obtain ⟨hown0, hbw0⟩ := own_conv w f (by unfold maxLen; omega)
  have hcv := Lib.run_convert_string_bytes (P := Tryd.prog) w 9 30 5 f Tryd.underlying9 Tryd.underlying30 Tryd.underlying5
  have HO := (show Hid _ from hown0)
  have HB0 := (show Hid _ from hbw0)
  clear hown0 hbw0
  go_enter Tryd.func18, Tryd.ntmps18
  go_wp2
  go_loopw [7, 8] (fun v i wr => ∃ (k : Nat) (l : List UInt8), i = .int .i64 (k : Int) ∧ k ≤ s.size ∧ f.size + l.length ≤ most ∧ OwnM wr w.heap.size v (f.data.toList ++ l) ∧ Hid (AllW l) ∧ Hid (Below w.heap.size w wr)) (fun _ i _ => s.size - (intOf i).toNat)
  case atStart => exact ⟨0, [], rfl, by omega, by simpa using hfm, by rw [List.append_nil]; exact HO.out, (fun c hc => by cases hc), HB0.out⟩
  case round =>
    clear HO HB0 hcv
    obtain ⟨k, l, rfl, hk, hll, hown, hla, hbw⟩ := hrel
    obtain ⟨ad, cp, rfl⟩ := hown.slice
    have hfl : (f.data.toList ++ l).length = f.size + l.length := by rw [List.length_append, len_data]
    rw [hfl] at hown ⊢
    have hcon := ownM_string hown
    by_cases hks : k < s.size
    · have g1 : (k : Int) < (s.size : Int) := by omega
      by_cases hlm : f.size + l.length < most
      · have g2 : ((f.size : Int) + (l.length : Int)) < (most : Int) := by omega
        obtain ⟨c, hc⟩ : ∃ c, s[k] = c := ⟨_, rfl⟩
        clear hcon
        rcases word_cases c with ⟨hw, ⟨h1, h2⟩ | ⟨h1, h2, h3⟩⟩ | ⟨hw, h1 | ⟨h1, h2⟩ | h1⟩
        · have hsz := hbw.out.size
          go_wp2_with (at_builtin; refine wpList_append_M _ rfl _ _ rfl i0 hi hz0 hz1 hz2 w.heap.size _ (f.data.toList ++ l) rfl (hown.alloc _) (by omega) (by simp; omega) c ⟨wr.heap.size, 0, none⟩ 1 rfl (by simp) rfl ?_)
          intro v' w2 hown' hgrow
          have R1 : OwnM w2 w.heap.size v' (f.data.toList ++ (l ++ [c])) := by first | exact hown' | (rw [← List.append_assoc]; exact hown')
          have R2 := below_grownM hbw.out hsz hown hgrow
          go_wp2
          go_roundw
          case rel => exact ⟨k + 1, l ++ [c], by go_num, by omega, by simp; omega, R1, (fun x hx => by
            rcases List.mem_append.1 hx with h | h
            · exact hla.out x h
            · simp only [List.mem_cons, List.not_mem_nil, or_false] at h
              rw [h]; exact hw), R2⟩
          case measure => simp [intOf]; omega
        · have hsz := hbw.out.size
          go_wp2_with (at_builtin; refine wpList_append_M _ rfl _ _ rfl i0 hi hz0 hz1 hz2 w.heap.size _ (f.data.toList ++ l) rfl (hown.alloc _) (by omega) (by simp; omega) c ⟨wr.heap.size, 0, none⟩ 1 rfl (by simp) rfl ?_)
          intro v' w2 hown' hgrow
          have R1 : OwnM w2 w.heap.size v' (f.data.toList ++ (l ++ [c])) := by first | exact hown' | (rw [← List.append_assoc]; exact hown')
          have R2 := below_grownM hbw.out hsz hown hgrow
          go_wp2
          go_roundw
          case rel => exact ⟨k + 1, l ++ [c], by go_num, by omega, by simp; omega, R1, (fun x hx => by
            rcases List.mem_append.1 hx with h | h
            · exact hla.out x h
            · simp only [List.mem_cons, List.not_mem_nil, or_false] at h
              rw [h]; exact hw), R2⟩
          case measure => simp [intOf]; omega
        · go_wp2
          go_roundw
          case rel => exact ⟨k + 1, l, by go_num, by omega, hll, hown, hla, hbw⟩
          case measure => simp [intOf]; omega
        · go_wp2
          go_roundw
          case rel => exact ⟨k + 1, l, by go_num, by omega, hll, hown, hla, hbw⟩
          case measure => simp [intOf]; omega
        · go_wp2
          go_roundw
          case rel => exact ⟨k + 1, l, by go_num, by omega, hll, hown, hla, hbw⟩
          case measure => simp [intOf]; omega
      · have g2 : ¬ ((f.size : Int) + (l.length : Int)) < (most : Int) := by omega
        have g3 : decide (((f.size : Int) + (l.length : Int)) < (most : Int)) = false := by simpa using g2
        go_wp2
        go_ret
        exact ⟨l, rfl, hla.out, hll, hbw.out⟩
    · have g1 : ¬ (k : Int) < (s.size : Int) := by omega
      go_wp2
      go_ret
      exact ⟨l, rfl, hla.out, hll, hbw.out⟩

end Go.Proofs.YtkbanlhjeedeeaaDoor
