/- Several texts in one. -/
import Derived.Test.YtcbojffcnlkejaaGreatDoorBAdd
import Derived.Test.YtcbojffcnlkejaaGreatDoorG08
import Derived.Test.YtcbojffcnlkejaaGreatDoorQKDefine
import Derived.Test.YtcbojffcnlkejaaGreatDoorG33
set_option linter.unusedVariables false
/- Definitions are taken off a paragraph's front. -/
namespace Go.Proofs.YtcbojffcnlkejaaGreatDoor
open Go.RowKit
open cur (cell_blk free_blk set_blk blk_below)

def strLen : Value → Nat
  | .string s => s.size
  | _ => 0

theorem OwnN.refl {O : Nat → Prop} {w : World} {g : Nat} (h : O g) (hg : g < w.heap.size) : OwnN O w w g := .inl ⟨hg, h⟩
theorem OwnN.mono {O : Nat → Prop} {w a b : World} {g : Nat} (h : OwnN O w a g) (hs : a.heap.size ≤ b.heap.size) : OwnN O w b g := by
  rcases h with h | ⟨h1, h2⟩
  · exact .inl h
  · exact .inr ⟨h1, Nat.lt_of_lt_of_le h2 hs⟩
theorem OwnN.join {O : Nat → Prop} {w a b : World} {g : Nat} (h : OwnN (OwnN O w a) a b g) (hs : a.heap.size ≤ b.heap.size) (hw : w.heap.size ≤ a.heap.size) : OwnN O w b g := by
  rcases h with ⟨_, h⟩ | ⟨h1, h2⟩
  · exact h.mono hs
  · exact .inr ⟨by omega, h2⟩

theorem DefsV.mono {w : World} {O O' : Nat → Prop} {vd vm : Value} {d : List Df} {N N' : Nat} (h : DefsV w O vd vm d N) (hO : ∀ g, g < w.heap.size → O g → O' g) (hN : N ≤ N') : DefsV w O' vd vm d N' := by
  obtain ⟨h1, h2, h3⟩ := h
  refine ⟨h1, fun g hg => hO g (World.ownsRow.lt h1 g hg).2 (h2 g hg), ?_⟩
  rcases h3 with h3 | ⟨m, n, cnt, a1, a2, a3, a4, a5⟩
  · exact .inl h3
  · exact .inr ⟨m, n, cnt, a1, hO m (map_lt a3) a2, a3, Nat.le_trans a4 hN, a5⟩
theorem DefsV.below {w w' : World} {O : Nat → Prop} {vd vm : Value} {d : List Df} {N : Nat} (h : DefsV w O vd vm d N) (hb : Below w.heap.size w w') : DefsV w' O vd vm d N := by
  obtain ⟨h1, h2, h3⟩ := h
  refine ⟨row_below h1 hb, h2, ?_⟩
  rcases h3 with h3 | ⟨m, n, cnt, a1, a2, a3, a4⟩
  · exact .inl h3
  · exact .inr ⟨m, n, cnt, a1, a2, map_keeps a3 (hb.block m (map_lt a3)), a4⟩
theorem DefsR.below {w w' : World} {O : Nat → Prop} {r : Nat} {vo : Value} {on : Nat} {d : List Df} {N : Nat} (h : DefsR w O r vo on d N) (hb : Below w.heap.size w w') : DefsR w' O r vo on d N := by
  obtain ⟨vd, vm, h1, h2⟩ := h
  exact ⟨vd, vm, blk_below h1 hb, h2.below hb⟩
theorem DefsR.mono {w : World} {O O' : Nat → Prop} {r : Nat} {vo : Value} {on : Nat} {d : List Df} {N N' : Nat} (h : DefsR w O r vo on d N) (hO : ∀ g, g < w.heap.size → O g → O' g) (hN : N ≤ N') : DefsR w O' r vo on d N' := by
  obtain ⟨vd, vm, h1, h2⟩ := h
  exact ⟨vd, vm, h1, h2.mono hO hN⟩

/-- What a round keeps. -/
def OffW (w : World) (O : Nat → Prop) (r : Nat) (vo : Value) (on : Nat) (d' : List Df) (N' : Nat) (wr : World) : Prop := DefsR wr (OwnN O w wr) r vo on d' N' ∧ Fr O w wr
theorem OffW.below {w : World} {O : Nat → Prop} {r : Nat} {vo : Value} {on : Nat} {d' : List Df} {N' : Nat} {a b : World} (h : OffW w O r vo on d' N' a) (hb : Below a.heap.size a b) : OffW w O r vo on d' N' b :=
  ⟨(h.1.below hb).mono (fun g _ q => q.mono hb.size) (Nat.le_refl _), h.2.trans (Fr.of_below hb)⟩
theorem OffW.next {w : World} {O : Nat → Prop} {r : Nat} {vo : Value} {on : Nat} {d' d'' : List Df} {N' N'' : Nat} {a b : World} (h : OffW w O r vo on d' N' a) (hd : DefsR b (OwnN (OwnN O w a) a b) r vo on d'' N'') (hf : Fr (OwnN O w a) a b) : OffW w O r vo on d'' N'' b :=
  ⟨hd.mono (fun g _ q => q.join hf.size h.2.size) (Nat.le_refl _), h.2.trans' hf (fun i hi q => by
    rcases q with ⟨_, q⟩ | ⟨q, _⟩
    · exact q
    · omega)⟩

theorem DefsR.keeps {w w' : World} {O : Nat → Prop} {r : Nat} {vo : Value} {on : Nat} {d : List Df} {N : Nat} (h : DefsR w O r vo on d N) (hr : O r) (hk : ∀ g, g < w.heap.size → O g → w'.heap[g]? = w.heap[g]?) : DefsR w' O r vo on d N := by
  obtain ⟨vd, vm, h1, h2⟩ := h
  exact ⟨vd, vm, (hk r (lt_of_block h1) hr).trans h1, h2.keeps (fun _ q => q) hk⟩
/-- The same, with the paragraph's block turned. -/
def OffP (w : World) (O : Nat → Prop) (bp r : Nat) (vo : Value) (on : Nat) (d' : List Df) (N' : Nat) (wr : World) : Prop := DefsR wr (OwnN O w wr) r vo on d' N' ∧ Fr (fun g => O g ∨ g = bp) w wr
section
variable {w : World} {O : Nat → Prop} {bp r : Nat} {vo : Value} {on : Nat} {d' : List Df} {N' : Nat} {a b : World}
theorem own_not (hO : ¬ O bp) (hb : bp < w.heap.size) {g : Nat} (h : OwnN O w a g) : g ≠ bp := by
  intro e
  subst e
  rcases h with ⟨_, h⟩ | ⟨h, _⟩
  · exact hO h
  · omega
theorem OffP.set2 (h : OffP w O bp r vo on d' N' a) (hr : O r) (hO : ¬ O bp) (hb : bp < w.heap.size) (i : Nat) (u : Value) : OffP w O bp r vo on d' N' (a.setCell ⟨bp, i, none⟩ u) := by
  have hrl : OwnN O w a r := by
    rcases Nat.lt_or_ge r w.heap.size with x | x
    · exact .inl ⟨x, hr⟩
    · obtain ⟨_, _, q, _⟩ := h.1
      exact .inr ⟨x, lt_of_block q⟩
  refine ⟨(h.1.keeps hrl (fun g _ hg => Below.heap_setCell _ _ _ _ (by simpa using own_not hO hb hg))).mono (fun g _ q => q.mono (by simp [World.setCell])) (Nat.le_refl _), h.2.set (.inr rfl) i u⟩
theorem OffW.set (h : OffW w O r vo on d' N' a) (hr : O r) (hO : ¬ O bp) (hb : bp < w.heap.size) (i : Nat) (u : Value) : OffP w O bp r vo on d' N' (a.setCell ⟨bp, i, none⟩ u) :=
  OffP.set2 ⟨h.1, h.2.mono (fun _ q => .inl q)⟩ hr hO hb i u
theorem OffP.below2 (h : OffP w O bp r vo on d' N' a) (hb : Below a.heap.size a b) : OffP w O bp r vo on d' N' b :=
  ⟨(h.1.below hb).mono (fun g _ q => q.mono hb.size) (Nat.le_refl _), h.2.trans (Fr.of_below hb)⟩
end

set_option maxHeartbeats 4000000 in
set_option maxRecDepth 20000 in
theorem btakeOff_any {w : World} {O : Nat → Prop} {r on N : Nat} {vo : Value} {d : List Df} {A : Nat → Prop} {bp k : Nat} {x : Body} {v : Value} (hdr : DefsR w O r vo on d N) (hr : O r) (hp : w.heap[bp]? = some (.cells (partCs (.para x k) v).toArray 115 (0, 0))) (hrow : RowsV w A v x.rows) (hO : ¬ O bp)
    (hN : N + bulkL x.rows ≤ 1099511627776) (hl : d.length + bulkL x.rows ≤ 1099511627776) :
    Calls Tryz.prog 57 #[dptr r, ptrV bp] w fun e w' => e = .returned (.tuple #[]) ∧ DefsR w' (OwnN O w w') r vo on (off (joinL x.rows) d).2 (N + bulkL x.rows) ∧
      (∃ v', w'.heap[bp]? = some (.cells (partCs (.para { x with rows := offRows x.rows d } k) v').toArray 115 (0, 0)) ∧ w'.ownsRow 0 9 1 v' (offRows x.rows d).length (strCs (offRows x.rows d)) ∧ ∀ g, v'.ownBlock = some g → w.heap.size ≤ g) ∧ Fr (fun g => O g ∨ g = bp) w w' := by
  obtain ⟨a, c, rfl, hc⟩ := row_slice hrow.1
  have HJ : Hid (Calls Tryz.prog 84 #[.slice a x.rows.length c, .string ⟨#[10]⟩] w fun e w' => e = .returned (strV (joinL x.rows)) ∧ Below w.heap.size w w') := bjoin_any hrow.1 (by omega)
  have hjl := join_len x.rows
  have c2 := cell_blk hp (i := 2) rfl
  simp only [partCs, List.getElem_toArray, List.getElem_cons_zero, List.getElem_cons_succ] at c2
  have HP := (show Hid _ from hp)
  have HD0 : Hid (OffW w O r vo on d N w) := ⟨hdr.mono (fun g hg q => .inl ⟨hg, q⟩) (Nat.le_refl _), Fr.refl _ _⟩
  have hrlt : r < w.heap.size := by obtain ⟨_, _, q, _⟩ := hdr; exact lt_of_block q
  have hbl := lt_of_block hp
  clear hdr hp hrow
  generalize hT0 : joinL x.rows = T0 at *
  go_enter Tryz.func57, Tryz.ntmps57
  go_wp2_with (go_at_call 84; refine HJ.out.mono ?_; rintro e u ⟨rfl, hu⟩)
  have HU := (show Hid _ from hu)
  clear hu c2 HJ
  go_loopw [4] (fun t wr => ∃ (T : Str) (d' : List Df) (N' : Nat), t = strV T ∧ Hid (off T d' = off T0 d) ∧ N' + T.length ≤ N + T0.length ∧ d'.length + T.length ≤ d.length + T0.length ∧ Hid (OffW w O r vo on d' N' wr)) (fun t _ => strLen t)
  case atStart => exact ⟨T0, d, N, rfl, rfl, Nat.le_refl _, Nat.le_refl _, HD0.out.below HU.out⟩
  case round =>
    obtain ⟨T, d', N', rfl, HT, hN', hl', hw⟩ := hrel
    obtain ⟨q1, q2, q3, n, hdef⟩ : ∃ q1 q2 q3 n, lnk.defR T = ((q1, q2, q3), n) := ⟨_, _, _, _, rfl⟩
    have HK := (show Hid _ from fun w => lnk.kdefine_at ⟨T.toArray⟩ (by rw [size_list]; omega) q1 q2 q3 n (by show _ = _; rw [list_data]; exact hdef) w)
    have hnl : n ≤ T.length := by have := defR_len T; rw [hdef] at this; exact this
    have hq1 : q1.length ≤ 4995 := by have := defR_label T; rw [hdef] at this; exact this
    by_cases h0 : n = 0
    · subst h0
      have hstop := off_stop d' (t := T) (by rw [hdef])
      rw [HT.out] at hstop
      have HS := (show Hid _ from hstop)
      clear hdef hstop
      have hbr : wr.heap[bp]? = some (.cells (partCs (.para x k) (.slice a x.rows.length c)).toArray 115 (0, 0)) := hw.out.2.keeps HP.out hO
      have HBR := (show Hid _ from hbr)
      clear hbr
      cases hTe : List.isEmpty T
      · go_wp2_with (go_at_call 85; refine (HK.out _).mono ?_; rintro e u2 ⟨rfl, hu2⟩; have hb2 := blk_below (blk_below HBR.out hu2) ((Below.refl _ _).alloc (Nat.le_refl _) (.cells #[strV q1, strV q2, strV q3] 41)); have c2 := cell_blk hb2 (i := 2) rfl; have f2 := free_blk hb2 2; simp only [partCs, List.getElem_toArray, List.getElem_cons_zero, List.getElem_cons_succ] at c2; have HB2 := (show Hid _ from hb2); have HU2 := (show Hid _ from hu2); have hb3 := set_blk hb2 2 (.slice none 0 0); have c4 := (fun o => cell_blk (blk_below hb3 ((Below.refl _ _).alloc (Nat.le_refl _) o)) (i := 2) rfl); have f4 := (fun o => free_blk (blk_below hb3 ((Below.refl _ _).alloc (Nat.le_refl _) o)) 2); have HB3 := (show Hid _ from hb3); clear hb2 hu2 hb3)
        go_end0
        have hTn : T ≠ [] := fun e => by rw [e] at hTe; cases hTe
        have hrows : offRows x.rows d = [T] := by unfold offRows; rw [hT0, HS.out]; exact if_neg hTn
        have X0 := (hw.out.below HU2.out).below ((Below.refl _ _).alloc (Nat.le_refl _) (.cells #[strV q1, strV q2, strV q3] 41))
        have hXe : (u2.alloc (.cells #[strV q1, strV q2, strV q3] 41)).heap.size = u2.heap.size + 1 := by simp
        generalize u2.alloc (.cells #[strV q1, strV q2, strV q3] 41) = X at *
        rw [← hXe]
        have hXs := X0.2.size
        have X1 := (X0.set hr hO hbl 2 (.slice none 0 0)).below2 ((Below.refl _ _).alloc (Nat.le_refl _) (.cells #[strV T] 9))
        have hnew := new_blk (X.setCell ⟨bp, 2, none⟩ (.slice none 0 0)) #[strV T] 9
        have hb4 := blk_below HB3.out ((Below.refl _ _).alloc (Nat.le_refl _) (.cells #[strV T] 9))
        have hsz : (X.setCell ⟨bp, 2, none⟩ (.slice none 0 0)).heap.size = X.heap.size := by simp [World.setCell]
        rw [hsz] at hnew
        have X2 := X1.set2 hr hO hbl 2 (.slice (some ⟨X.heap.size, 0, none⟩) 1 1)
        refine ⟨rfl, ?_, ⟨.slice (some ⟨X.heap.size, 0, none⟩) 1 1, ?_, ?_, ?_⟩, X2.2⟩
        · rw [HS.out]
          exact X2.1.mono (fun g _ q => q) (show N' ≤ N + bulkL x.rows by have h1 := hN'; have h2 := hjl; omega)
        · rw [hrows]
          have q := set_blk hb4 2 (.slice (some ⟨X.heap.size, 0, none⟩) 1 1)
          simpa [partCs] using q
        · rw [hrows]
          exact ⟨rfl, .inr ⟨X.heap.size, 1, #[strV T], rfl, Nat.zero_le _, (Below.heap_setCell _ _ _ _ (by show X.heap.size ≠ bp; omega)).trans hnew, Nat.le_refl _, by decide, rfl, rfl⟩⟩
        · intro g hg
          cases hg
          exact hXs
      · go_wp2_with (go_at_call 85; refine (HK.out _).mono ?_; rintro e u2 ⟨rfl, hu2⟩; have hb2 := blk_below (blk_below HBR.out hu2) ((Below.refl _ _).alloc (Nat.le_refl _) (.cells #[strV q1, strV q2, strV q3] 41)); have c2 := cell_blk hb2 (i := 2) rfl; have f2 := free_blk hb2 2; simp only [partCs, List.getElem_toArray, List.getElem_cons_zero, List.getElem_cons_succ] at c2; have HB2 := (show Hid _ from hb2); have HU2 := (show Hid _ from hu2); have hb3 := set_blk hb2 2 (.slice none 0 0); have c4 := (fun o => cell_blk (blk_below hb3 ((Below.refl _ _).alloc (Nat.le_refl _) o)) (i := 2) rfl); have f4 := (fun o => free_blk (blk_below hb3 ((Below.refl _ _).alloc (Nat.le_refl _) o)) 2); have HB3 := (show Hid _ from hb3); clear hb2 hu2 hb3)
        go_end0
        have hTn : T = [] := List.isEmpty_iff.1 hTe
        have hrows : offRows x.rows d = [] := by unfold offRows; rw [hT0, HS.out]; exact if_pos hTn
        have X0 := (hw.out.below HU2.out).below ((Below.refl _ _).alloc (Nat.le_refl _) (.cells #[strV q1, strV q2, strV q3] 41))
        have X1 := X0.set hr hO hbl 2 (.slice none 0 0)
        refine ⟨rfl, ?_, ⟨.slice none 0 0, ?_, ?_, fun g hg => by cases hg⟩, X1.2⟩
        · rw [HS.out]
          exact X1.1.mono (fun g _ q => q) (show N' ≤ N + bulkL x.rows by have h1 := hN'; have h2 := hjl; omega)
        · rw [hrows]
          exact HB3.out
        · rw [hrows]
          exact World.ownsRow_nil _ _ _ _
    · have h0' : ¬ (n : Int) = 0 := by omega
      have hnext := off_next d' (t := T) (by rw [hdef]; exact h0)
      rw [hdef, HT.out] at hnext
      have HS := (show Hid _ from hnext)
      have hxt : (ByteArray.mk T.toArray).extract n (List.length T) = ⟨(T.drop n).toArray⟩ := by
        have := extract_end ⟨T.toArray⟩ n
        rw [list_data, size_list] at this
        exact this
      have hni : (n : Int) ≤ ((ByteArray.mk T.toArray).size : Int) := by rw [size_list]; omega
      clear hdef hnext
      go_wp2_with (first
        | (go_at_call 85; refine (HK.out _).mono ?_; rintro e u2 ⟨rfl, hu2⟩; have hw2 := (hw.out.below hu2).below ((Below.refl _ _).alloc (Nat.le_refl _) (.cells #[strV q1, strV q2, strV q3] 41)); have HW2 := (show Hid _ from hw2); clear hw2 hu2)
        | (go_at_call 86; go_loud (obtain ⟨⟨vd2, vm2, hh1, hh2⟩, hf2⟩ := HW2.out; refine (badd_any hh1 (.inl ⟨hrlt, hr⟩) hh2 (q1, q2, q3) (by show q1.length ≤ _; omega) (by omega) (by omega)).mono ?_; rintro e u3 ⟨rfl, hd3, hf3⟩; have HW3 := (show Hid _ from OffW.next HW2.out hd3 hf3); clear hd3 hf3 hh1 hh2 hf2)))
      go_roundw
      case rel => exact ⟨T.drop n, addD d' (q1, q2, q3), N' + 1, rfl, by show _ = _; exact HS.out.symm, by rw [List.length_drop]; omega, by have := addD_len d' (q1, q2, q3); rw [List.length_drop]; omega, HW3.out⟩
      case measure => simp [strLen, size_list]; omega

end Go.Proofs.YtcbojffcnlkejaaGreatDoor

/- Definitions are taken off a paragraph that is open. -/
namespace Go.Proofs.YtcbojffcnlkejaaGreatDoor
open Go.RowKit
open cur (cell_blk free_blk set_blk blk_below)

theorem DefsV.fine {w : World} {O : Nat → Prop} {vd vm : Value} {d : List Df} {N : Nat} (h : DefsV w O vd vm d N) {e : TypeId} {s n : Nat} {vo : Value} {xs : List Value} (ho : w.ownsRow 0 e s vo n xs) (he : e ≠ 41) : DefsV w (fun g => O g ∧ vo.ownBlock ≠ some g) vd vm d N := by
  obtain ⟨h1, h2, h3⟩ := h
  refine ⟨h1, fun g hg => ⟨h2 g hg, fun q => ?_⟩, ?_⟩
  · obtain ⟨c1, x1⟩ := row_block h1 hg
    obtain ⟨c2, x2⟩ := row_block ho q
    rw [x1] at x2
    cases x2
    exact he rfl
  · rcases h3 with h3 | ⟨m, n, cnt, a1, a2, a3, a4⟩
    · exact .inl h3
    · exact .inr ⟨m, n, cnt, a1, ⟨a2, map_row a3 ho⟩, a3, a4⟩

theorem zip_set {l : List Part} {bs : List Nat} {i : Nat} {p p' : Part} (h : l[i]? = some p) (hp : partP p' = partP p) : List.zipWith partI (l.set i p') bs = List.zipWith partI l bs := by
  apply List.ext_getElem?
  intro j
  rw [List.getElem?_zipWith, List.getElem?_zipWith]
  by_cases hj : j = i
  · subst hj
    have hlt : j < l.length := (List.getElem?_eq_some_iff.1 h).1
    rw [List.getElem?_set_self hlt, h]
    cases bs[j]? with
    | none => rfl
    | some b => show some (Value.iface (partP p') _) = some (Value.iface (partP p) _); rw [hp]
  · rw [List.getElem?_set_ne (Ne.symm hj)]

/-- Whose blocks are when a part has got a new row, and the reader perhaps others. -/
def ownRow (own : Nat → Nat) (w w' : World) (i : Nat) (v' : Value) (g : Nat) : Nat := if g < w.heap.size then own g else if v'.ownBlock = some g then 2 * i + 2 else if g < w'.heap.size then 1 else 0

theorem ownRow_old {own : Nat → Nat} {w w' : World} {i : Nat} {v' : Value} {g : Nat} (h : g < w.heap.size) : ownRow own w w' i v' g = own g := if_pos h

theorem off_rep {w w' : World} {r : Nat} {own : Nat → Nat} {N N' : Nat} {bs : List Nat} {vo vd vm : Value} {s : St} (h : RepR w r own N bs vo vd vm s) {i b k : Nat} {x : Body} (hp : s.opens[i]? = some (.para x k)) (hb : bs[i]? = some b) {d' : List Df} {rows : List Str} {v' : Value}
    (hD : DefsR w' (OwnN (fun g => own g = 1 ∧ vo.ownBlock ≠ some g) w w') r vo s.on d' N') (hP : w'.heap[b]? = some (.cells (partCs (.para { x with rows := rows } k) v').toArray 115 (0, 0))) (hR : w'.ownsRow 0 9 1 v' rows.length (strCs rows)) (hv : ∀ g, v'.ownBlock = some g → w.heap.size ≤ g)
    (hF : Fr (fun g => (own g = 1 ∧ vo.ownBlock ≠ some g) ∨ g = b) w w') :
    ∃ own' vd' vm', RepR w' r own' N' bs vo vd' vm' { s with opens := s.opens.set i (.para { x with rows := rows } k), defs := d' } ∧ Step w own w' own' := by
  obtain ⟨vd', vm', hD1, hD2⟩ := hD
  obtain ⟨hb1, hb2⟩ := h.part i b _ hb hp
  have hbo : own b = 2 * i + 2 := hb1
  have hlt : i < s.opens.length := (List.getElem?_eq_some_iff.1 hp).1
  refine ⟨ownRow own w w' i v', vd', vm', ⟨hD1, ?_, ?_, ?_, ?_, ?_, ?_⟩, ?_, ?_⟩
  · rw [ownRow_old (lt_of_block h.rd)]; exact h.rown
  · show w'.ownsRow 0 _ 1 vo (s.opens.set i _).length (List.zipWith partI (s.opens.set i _) bs)
    rw [List.length_set, zip_set (p' := .para { x with rows := rows } k) hp rfl]
    refine row_keeps h.opens (fun g hg => hF.block g (World.ownsRow.lt h.opens g hg).2 ?_)
    rintro (⟨_, q⟩ | q)
    · exact q hg
    · have := h.oown g hg; rw [q] at this; omega
  · intro g hg
    rw [ownRow_old (World.ownsRow.lt h.opens g hg).2]
    exact h.oown g hg
  · have hD3 := hD2.fine hR (by decide)
    refine hD3.mono (fun g hg ⟨q, qn⟩ => ?_) (Nat.le_refl _)
    show ownRow own w w' i v' g = 1
    rcases q with ⟨q1, q2⟩ | ⟨q1, q2⟩
    · rw [ownRow_old q1]; exact q2.1
    · unfold ownRow
      rw [if_neg (by omega), if_neg qn, if_pos q2]
  · show bs.length = (s.opens.set i _).length
    rw [List.length_set]; exact h.len
  · intro j b' p' hb' hp'
    by_cases hj : j = i
    · subst hj
      have hp' : (s.opens.set j (.para { x with rows := rows } k))[j]? = some p' := hp'
      rw [List.getElem?_set_self hlt] at hp'
      cases hp'
      rw [hb] at hb'
      cases hb'
      refine ⟨?_, v', hP, hR, fun g hg => ?_⟩
      · show ownRow own w w' j v' b = _
        rw [ownRow_old (by obtain ⟨_, q, _⟩ := hb2; exact lt_of_block q)]
        exact hb1
      · show ownRow own w w' j v' g = _
        unfold ownRow
        have := hv g hg
        rw [if_neg (by omega), if_pos hg]
    · have hp' : (s.opens.set i (.para { x with rows := rows } k))[j]? = some p' := hp'
      rw [List.getElem?_set_ne (Ne.symm hj)] at hp'
      obtain ⟨z1, vz, z2, z3⟩ := h.part j b' p' hb' hp'
      have keep : ∀ g, g < w.heap.size → (own g = 2 * j + 2 ∨ own g = 2 * j + 3) → w'.heap[g]? = w.heap[g]? := fun g hg q => hF.block g hg (by
        rintro (⟨q1, _⟩ | q1)
        · omega
        · rw [q1] at q; omega)
      have old : PartR w' (fun g => g < w.heap.size ∧ own g = 2 * j + 2) (fun g => g < w.heap.size ∧ own g = 2 * j + 3) b' p' := by
        have hz : PartR w (fun g => g < w.heap.size ∧ own g = 2 * j + 2) (fun g => g < w.heap.size ∧ own g = 2 * j + 3) b' p' := ⟨⟨lt_of_block z2, z1⟩, vz, z2, partV_lt z3⟩
        exact hz.keeps (fun _ q => q) (fun _ q => q) (fun g hg q => keep g hg (.inl q.2)) (fun g hg q => keep g hg (.inr q.2))
      exact old.keeps (fun g q => by show ownRow own w w' i v' g = _; rw [ownRow_old q.1]; exact q.2) (fun g q => by show ownRow own w w' i v' g = _; rw [ownRow_old q.1]; exact q.2) (fun _ _ _ => rfl) (fun _ _ _ => rfl)
  · exact hF.mono (fun g q => by
      rcases q with ⟨q, _⟩ | q
      · show own g ≠ 0; omega
      · show own g ≠ 0; rw [q, hbo]; omega)
  · intro g hg h0
    rw [ownRow_old hg]; exact h0

end Go.Proofs.YtcbojffcnlkejaaGreatDoor
