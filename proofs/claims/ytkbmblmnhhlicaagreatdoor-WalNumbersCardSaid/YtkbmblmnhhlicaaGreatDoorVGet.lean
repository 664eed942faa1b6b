/- Get, walked. -/
import Derived.Test.YtkbmblmnhhlicaaGreatDoorVLoad
import Derived.Test.YtkbmblmnhhlicaaGreatDoorV04
set_option linter.unusedVariables false
namespace Go.Proofs.YtkbmblmnhhlicaaGreatDoor
open Go.RowKit

/-- What Get tells of a record that is there. -/
def GetIs (w : World) (d : Dk) (n : Nm) (P Q : Nat) (e : Ending) (w' : World) : Prop :=
  (findV d n ≠ 0 → e = .returned (.tuple #[.slice none 0 0, .int .i64 (findV d n : Int)])) ∧
  (findV d n = 0 → (theF d n).bs.length < Q → e = .returned (.tuple #[.slice none 0 0, .int .i64 16])) ∧
  (findV d n = 0 → Q ≤ (theF d n).bs.length → ∃ a c, e = .returned (.tuple #[.slice a (Q - (P + 8)) c, .int .i64 0]) ∧ BRow w' a (Q - (P + 8)) c (((theF d n).bs.drop (P + 8)).take (Q - (P + 8)))) ∧ Below w.heap.size w w'

set_option maxHeartbeats 1000000 in
set_option maxRecDepth 20000 in
theorem get_out {w : World} {p b : Nat} {T : Nat → Prop} {vs : Value} {q qr ql : Sgs} {y0 yl : Sg × Value} (h : LgW w p b T vs q) (h0 : q = y0 :: qr) (hl : q = ql ++ [yl]) (i : Int) (hi : i < (y0.1.num : Int) ∨ (yl.1.next : Int) ≤ i) :
    Calls Tryz.prog 23 #[dptr p, .int .i64 i] w fun e w' => e = .returned (.tuple #[.slice none 0 0, .int .i64 17]) ∧ Below w.heap.size w w' := by
  have hF := first_any (h0 ▸ h)
  have hL := lastn_any (hl ▸ h)
  obtain ⟨A, hA⟩ : ∃ A : Int, (y0.1.num : Int) = A := ⟨_, rfl⟩
  obtain ⟨Z, hZ⟩ : ∃ Z : Int, (yl.1.next : Int) - 1 = Z := ⟨_, rfl⟩
  rw [hA] at hF
  rw [hZ] at hL
  have hi2 : i < A ∨ Z < i := by omega
  clear h h0 hl hi hA hZ
  by_cases h1 : i < A
  · go_enter Tryz.func23, Tryz.ntmps23
    go_wp2_with (fail)
    refine hF.mono ?_
    rintro e w1 ⟨rfl, hw⟩
    subst hw
    clear hF hL
    go_wp2_with (fail)
    go_ret2
    exact ⟨rfl, Below.refl _ _⟩
  · have h2 : Z < i := by omega
    clear hi2
    go_enter Tryz.func23, Tryz.ntmps23
    go_wp2_with (fail)
    refine hF.mono ?_
    rintro e w1 ⟨rfl, hw⟩
    subst hw
    clear hF
    go_wp2_with (fail)
    refine hL.mono ?_
    rintro e w2 ⟨rfl, hb⟩
    have HB : Hid (Below w1.heap.size w1 w2) := hb
    clear hL hb
    go_wp2_with (fail)
    go_ret2
    exact ⟨rfl, HB.out⟩

set_option maxHeartbeats 8000000 in
set_option maxRecDepth 40000 in
theorem get_in {w0 w : World} {b m : Nat} {S : Nat → Prop} {d : Dk} {p : Nat} {T : Nat → Prop} {vs : Value} {q qr ql : Sgs} {y0 yl : Sg × Value} (h : Wl w0 w b m S d p T vs q) (hr : RiseQ q) (h0 : q = y0 :: qr) (hl : q = ql ++ [yl]) (i J : Nat) (hi0 : y0.1.num ≤ i) (hil : i < yl.1.next) (hi : i ≤ 1000000) (hJ : upto q i = J + 1) (N : Nat) (pl : List Nat) (xv : Value) (hx : q[J]? = some (⟨N, pl⟩, xv))
    (hin : N ≤ i) (hin2 : i + 1 < N + pl.length) (P Q : Nat) (hP : pl.getD (i - N) 0 = P) (hQ : pl.getD (i + 1 - N) 0 = Q) (hPQ : P + 8 ≤ Q) (hQb : Q ≤ 1099511627776) (hu : usedL d.files ≤ 1099511627776) :
    Calls Tryz.prog 23 #[dptr p, .int .i64 (i : Int)] w fun e w' => GetIs w d (nameL N) P Q e w' := by
  have hF := first_any (w := w) (h0 ▸ h.lg)
  have hL := lastn_any (w := w) (hl ▸ h.lg)
  have hmem := List.mem_of_getElem? hx
  have hH := holding_any (w := w) h.lg hr i J (by omega) hJ _ hx
  have hox := h.lg.pls _ hmem
  have hnum : N ≤ 999999 := h.lg.num _ hmem
  have hplen := h.lg.len _ hmem
  have hHB : ∀ u, Below w.heap.size w u → Calls Tryz.prog 76 #[dptr p, .int .i64 (i : Int)] u fun e w' => e = .returned (sgV N xv) ∧ Below u.heap.size u w' := fun u hu => holding_any (h.same hu).lg hr i J (by omega) hJ _ hx
  have hbl : (theF d (nameL N)).bs.length ≤ 1099511627776 := by
    obtain ⟨sl, hd⟩ := h.lv.dk
    exact Nat.le_trans (theF_len hd.ok _) hu
  obtain ⟨g, c, hxv, hc, hgl, _, _⟩ := ownI_form hox (h.lg.ne _ hmem)
  simp only at hox hplen hxv hc hgl
  subst hxv
  obtain ⟨pn, hpn⟩ : ∃ pn, pl.length = pn := ⟨_, rfl⟩
  rw [hpn] at hHB hox hin2 hplen hH
  obtain ⟨A, hA⟩ : ∃ A : Int, (y0.1.num : Int) = A := ⟨_, rfl⟩
  obtain ⟨Z, hZ⟩ : ∃ Z : Int, (yl.1.next : Int) - 1 = Z := ⟨_, rfl⟩
  rw [hA] at hF
  rw [hZ] at hL
  have q1 : ¬ (i : Int) < A := by omega
  have q2 : ¬ Z < (i : Int) := by omega
  have HW : Hid (Wl w0 w b m S d p T vs q) := h
  have HO : Hid (OwnI w 0 (.slice (some ⟨g, 0, none⟩) pn c) pl) := hox
  have HN : Hid (N ≤ 999999 ∧ N ≤ i ∧ i + 1 < N + pn ∧ i ≤ 1000000 ∧ pl.length = pn ∧ g < w.heap.size) := ⟨hnum, hin, hin2, hi, hpn, by have := hgl; omega⟩
  have HPQ : Hid (pl.getD (i - N) 0 = P ∧ pl.getD (i + 1 - N) 0 = Q ∧ P + 8 ≤ Q ∧ Q ≤ 1099511627776) := ⟨hP, hQ, hPQ, hQb⟩
  have HH : Hid (∀ u, Below w.heap.size w u → Calls Tryz.prog 76 #[dptr p, .int .i64 (i : Int)] u fun e w' => e = .returned (sgV N (.slice (some ⟨g, 0, none⟩) pn c)) ∧ Below u.heap.size u w') := hHB
  obtain ⟨fv, hfv⟩ : ∃ fv, findV d (nameL N) = fv := ⟨_, rfl⟩
  obtain ⟨bs, hbs⟩ : ∃ bs, (theF d (nameL N)).bs = bs := ⟨_, rfl⟩
  obtain ⟨len, hlen⟩ : ∃ len, bs.length = len := ⟨_, rfl⟩
  have HFV : Hid (findV d (nameL N) = fv ∧ (theF d (nameL N)).bs = bs ∧ bs.length = len) := ⟨hfv, hbs, hlen⟩
  rw [hbs, hlen] at hbl
  have bl : (len : Int) ≤ 1099511627776 := by omega
  have bQ : (Q : Int) ≤ 1099511627776 := by omega
  have bi : (i : Int) ≤ 1000000 := by omega
  clear h hr h0 hl hi0 hil hi hJ hx hin hin2 hP hQ hPQ hQb hu hmem hH hox hnum hplen hHB hbl hc hgl hpn hA hZ hfv hbs hlen
  go_enter Tryz.func23, Tryz.ntmps23
  go_wp2_with (fail)
  refine hF.mono ?_
  rintro e w1 ⟨rfl, hw⟩
  subst hw
  clear hF
  go_wp2_with (fail)
  refine hL.mono ?_
  rintro e w2 ⟨rfl, hb2⟩
  have HB2 : Hid (Below w1.heap.size w1 w2) := hb2
  clear hL hb2 
  go_wp2_with (fail)
  refine (HH.out w2 HB2.out).mono ?_
  rintro e w3 ⟨rfl, hb3⟩
  have HB3 : Hid (Below w1.heap.size w1 w3) := HB2.out.trans (hb3.mono HB2.out.size)
  clear hb3 HB2 HH q1 q2
  obtain ⟨sb, hsb⟩ : ∃ sb, sb = w3.heap.size := ⟨_, rfl⟩
  obtain ⟨w4, hw4⟩ : ∃ w4, w4 = w3.alloc (.cells #[.int .i64 (N : Int), .slice (some ⟨g, 0, none⟩) pn c] 101) := ⟨_, rfl⟩
  have hb4 : Below w3.heap.size w3 w4 := by rw [hw4]; exact (Below.refl _ _).alloc (Nat.le_refl _) _
  have HB4 : Hid (Below w1.heap.size w1 w4) := HB3.out.trans (hb4.mono HB3.out.size)
  have HSb : Hid (w4.heap[sb]? = some (.cells #[.int .i64 (N : Int), .slice (some ⟨g, 0, none⟩) pn c] 101 (0, 0))) := by show _ = _; rw [hw4, hsb]; exact heap_alloc_new _ _
  have HW4 : Hid (Wl w0 w4 b m S d p T vs q) := HW.out.same HB4.out
  have HPS : Hid (w4.heap[p]? = some (.cells #[dptr b, vs] 99 (0, 0)) ∧ w4.heap[sb]? = some (.cells #[.int .i64 (N : Int), .slice (some ⟨g, 0, none⟩) pn c] 101 (0, 0))) := ⟨HW4.out.lg.blk, HSb.out⟩
  have n0 : ∀ w' : World, w'.heap[p]? = some (.cells #[dptr b, vs] 99 (0, 0)) ∧ w'.heap[sb]? = some (.cells #[.int .i64 (N : Int), .slice (some ⟨g, 0, none⟩) pn c] 101 (0, 0)) → w'.cell? ⟨p, 0, none⟩ = some (dptr b) := fun w' hw => cell_blk hw.1 rfl
  have m0 : ∀ w' : World, w'.heap[p]? = some (.cells #[dptr b, vs] 99 (0, 0)) ∧ w'.heap[sb]? = some (.cells #[.int .i64 (N : Int), .slice (some ⟨g, 0, none⟩) pn c] 101 (0, 0)) → w'.cell? ⟨sb, 0, none⟩ = some (.int .i64 (N : Int)) := fun w' hw => cell_blk hw.2 rfl
  have m1 : ∀ w' : World, w'.heap[p]? = some (.cells #[dptr b, vs] 99 (0, 0)) ∧ w'.heap[sb]? = some (.cells #[.int .i64 (N : Int), .slice (some ⟨g, 0, none⟩) pn c] 101 (0, 0)) → w'.cell? ⟨sb, 1, none⟩ = some (.slice (some ⟨g, 0, none⟩) pn c) := fun w' hw => cell_blk hw.2 rfl
  have FN : Hid (∀ u, Below w4.heap.size w4 u → Calls Tryz.prog 69 #[sgV N (.slice (some ⟨g, 0, none⟩) pn c)] u fun e w' => e = .returned (strN (nameL N)) ∧ Below u.heap.size u w') := fun u hu => name_any (HW4.out.same hu).tabs _ (by have := HN.out; omega) _
  have FR : Hid (∀ u, Below w4.heap.size w4 u → Calls Tryz.prog 41 #[dptr b, strN (nameL N)] u fun e w' => ∃ a c, e = .returned (.tuple #[.slice a len c, .int .i64 (fv : Int)]) ∧ OwnB w' u.heap.size (.slice a len c) bs ∧ Below u.heap.size u w') := fun u hu => by
    have := readB (HW4.out.same hu).lv (nameL N) (by rw [nameL_length]; omega)
    rw [HFV.out.1, HFV.out.2.1, HFV.out.2.2] at this
    exact this
  clear hb4
  go_wp2_with (fail)
  (try rw [← hsb])
  (try rw [← hw4])
  clear hw4 hsb
  refine regionC (fun (w' : World) => w'.heap[p]? = some (.cells #[dptr b, vs] 99 (0, 0)) ∧ w'.heap[sb]? = some (.cells #[.int .i64 (N : Int), .slice (some ⟨g, 0, none⟩) pn c] 101 (0, 0))) 11 (by kernel_rfl) ?_
  (try (change wpAnyC _ _ _ _ _ _ _ _ _ (World.drew _)))
  refine nameW (fun W0 hW0 => ?_)
  have hC : Hid (W0.heap[p]? = some (.cells #[dptr b, vs] 99 (0, 0)) ∧ W0.heap[sb]? = some (.cells #[.int .i64 (N : Int), .slice (some ⟨g, 0, none⟩) pn c] 101 (0, 0))) := by show _ ∧ _; rw [hW0]; exact HPS.out
  have hB : Hid (Below w4.heap.size w4 W0) := by show Below _ _ _; rw [hW0]; exact ⟨rfl, rfl, rfl, Nat.le_refl _, fun _ _ => rfl⟩
  clear hW0
  refine takeC (i := 0) (v := ?_) rfl (by kernel_rfl) (by kernel_rfl) (by kernel_rfl) (by kernel_rfl) (by kernel_rfl) (fun _ _ _ h => h) hC.out (Or.inl ⟨by rfl, ?_⟩) ?_
  rotate_left 1
  · intro w' hw'
    skip
    go_simp
    first | done | with_reducible rfl
  (try simp only [Act.put])
  (try simp only [List.setIfInBounds_toArray])
  (try simp only [List.set_cons_succ])
  (try simp only [List.set_cons_zero])
  refine takeC (i := 1) (v := ?_) rfl (by kernel_rfl) (by kernel_rfl) (by kernel_rfl) (by kernel_rfl) (by kernel_rfl) (fun _ _ _ h => h) hC.out (Or.inl ⟨by rfl, ?_⟩) ?_
  rotate_left 1
  · intro w' hw'
    skip
    go_simp
    first | done | with_reducible rfl
  (try simp only [Act.put])
  (try simp only [List.setIfInBounds_toArray])
  (try simp only [List.set_cons_succ])
  (try simp only [List.set_cons_zero])
  refine takeC (i := 2) (v := ?_) rfl (by kernel_rfl) (by kernel_rfl) (by kernel_rfl) (by kernel_rfl) (by kernel_rfl) (fun _ _ _ h => h) hC.out (Or.inl ⟨by rfl, ?_⟩) ?_
  rotate_left 1
  · intro w' hw'
    skip
    go_simp
    first | done | with_reducible rfl
  (try simp only [Act.put])
  (try simp only [List.setIfInBounds_toArray])
  (try simp only [List.set_cons_succ])
  (try simp only [List.set_cons_zero])
  refine takeC (i := 3) (v := ?_) rfl (by kernel_rfl) (by kernel_rfl) (by kernel_rfl) (by kernel_rfl) (by kernel_rfl) (fun _ _ _ h => h) hC.out (Or.inl ⟨by rfl, ?_⟩) ?_
  rotate_left 1
  · intro w' hw'
    have z0 := n0 w' hw'; have z1 := m0 w' hw'; have z2 := m1 w' hw'
    go_simp
    first | done | with_reducible rfl
  (try simp only [Act.put])
  (try simp only [List.setIfInBounds_toArray])
  (try simp only [List.set_cons_succ])
  (try simp only [List.set_cons_zero])
  refine takeC (i := 4) (v := ?_) rfl (by kernel_rfl) (by kernel_rfl) (by kernel_rfl) (by kernel_rfl) (by kernel_rfl) (fun _ _ _ h => h) hC.out (Or.inl ⟨by rfl, ?_⟩) ?_
  rotate_left 1
  · intro w' hw'
    have z0 := n0 w' hw'; have z1 := m0 w' hw'; have z2 := m1 w' hw'
    go_simp
    first | done | with_reducible rfl
  (try simp only [Act.put])
  (try simp only [List.setIfInBounds_toArray])
  (try simp only [List.set_cons_succ])
  (try simp only [List.set_cons_zero])
  refine readyC (rs := [5]) (by kernel_rfl) (by simp) ?_
  refine ReadyC.cons rfl (fun K hK => ?_) ReadyC.nil
  refine stepV_call rfl 69 #[sgV N (.slice (some ⟨g, 0, none⟩) pn c)] (by kernel_rfl) (FN.out W0 hB.out) (fun e w' h => ⟨_, h.1⟩) ?_
  intro v1 W1 hq
  obtain ⟨hv1, hq⟩ := hq
  have hv1' := Ending.returned.inj hv1
  subst hv1'
  have hq2 : Below w4.heap.size w4 W1 := hB.out.trans (hq.mono hB.out.size)
  have hq3 : W1.heap[p]? = some (.cells #[dptr b, vs] 99 (0, 0)) ∧ W1.heap[sb]? = some (.cells #[.int .i64 (N : Int), .slice (some ⟨g, 0, none⟩) pn c] 101 (0, 0)) := ⟨(hq2.block _ (lt_blk HPS.out.1)).trans HPS.out.1, (hq2.block _ (lt_blk HPS.out.2)).trans HPS.out.2⟩
  refine hK _ _ (fun _ => hq3) ?_
  clear hK K
  (try simp only [Act.put])
  (try simp only [List.setIfInBounds_toArray])
  (try simp only [List.set_cons_succ])
  (try simp only [List.set_cons_zero])
  replace hC : Hid (W1.heap[p]? = some (.cells #[dptr b, vs] 99 (0, 0)) ∧ W1.heap[sb]? = some (.cells #[.int .i64 (N : Int), .slice (some ⟨g, 0, none⟩) pn c] 101 (0, 0))) := hq3
  replace hB : Hid (Below w4.heap.size w4 W1) := hq2
  clear hv1 hq hq2 hq3
  refine readyC (rs := [6]) (by kernel_rfl) (by simp) ?_
  refine ReadyC.cons rfl (fun K hK => ?_) ReadyC.nil
  refine stepV_call rfl 41 #[dptr b, strN (nameL N)] (by kernel_rfl) (FR.out W1 hB.out) (fun e w' h => by obtain ⟨_, _, h, _⟩ := h; exact ⟨_, h⟩) ?_
  intro v1 W2 hq
  obtain ⟨ra, rc, hv1, hoe, hq⟩ := hq
  have hv1' := Ending.returned.inj hv1
  subst hv1'
  have hq2 : Below w4.heap.size w4 W2 := hB.out.trans (hq.mono hB.out.size)
  have hq3 : W2.heap[p]? = some (.cells #[dptr b, vs] 99 (0, 0)) ∧ W2.heap[sb]? = some (.cells #[.int .i64 (N : Int), .slice (some ⟨g, 0, none⟩) pn c] 101 (0, 0)) := ⟨(hq2.block _ (lt_blk HPS.out.1)).trans HPS.out.1, (hq2.block _ (lt_blk HPS.out.2)).trans HPS.out.2⟩
  refine hK _ _ (fun _ => hq3) ?_
  clear hK K
  (try simp only [Act.put])
  (try simp only [List.setIfInBounds_toArray])
  (try simp only [List.set_cons_succ])
  (try simp only [List.set_cons_zero])
  have HOR : Hid (OwnB W2 0 (.slice ra len rc) bs) := ⟨hoe.1, hoe.2.imp id (fun ⟨g, cap, cur, h1, h2, h3⟩ => ⟨g, cap, cur, h1, Nat.zero_le _, h3⟩)⟩
  clear hoe
  replace hC : Hid (W2.heap[p]? = some (.cells #[dptr b, vs] 99 (0, 0)) ∧ W2.heap[sb]? = some (.cells #[.int .i64 (N : Int), .slice (some ⟨g, 0, none⟩) pn c] 101 (0, 0))) := hq3
  replace hB : Hid (Below w4.heap.size w4 W2) := hq2
  clear hv1 hq hq2 hq3
  refine takeC (i := 7) (v := ?_) rfl (by kernel_rfl) (by kernel_rfl) (by kernel_rfl) (by kernel_rfl) (by kernel_rfl) (fun _ _ _ h => h) hC.out (Or.inl ⟨by rfl, ?_⟩) ?_
  rotate_left 1
  · intro w' hw'
    skip
    go_simp
    first | done | with_reducible rfl
  (try simp only [Act.put])
  (try simp only [List.setIfInBounds_toArray])
  (try simp only [List.set_cons_succ])
  (try simp only [List.set_cons_zero])
  refine takeC (i := 8) (v := ?_) rfl (by kernel_rfl) (by kernel_rfl) (by kernel_rfl) (by kernel_rfl) (by kernel_rfl) (fun _ _ _ h => h) hC.out (Or.inl ⟨by rfl, ?_⟩) ?_
  rotate_left 1
  · intro w' hw'
    skip
    go_simp
    first | done | with_reducible rfl
  (try simp only [Act.put])
  (try simp only [List.setIfInBounds_toArray])
  (try simp only [List.set_cons_succ])
  (try simp only [List.set_cons_zero])
  refine takeC (i := 9) (v := ?_) rfl (by kernel_rfl) (by kernel_rfl) (by kernel_rfl) (by kernel_rfl) (by kernel_rfl) (fun _ _ _ h => h) hC.out (Or.inl ⟨by rfl, ?_⟩) ?_
  rotate_left 1
  · intro w' hw'
    skip
    go_simp
    first | done | with_reducible rfl
  (try simp only [Act.put])
  (try simp only [List.setIfInBounds_toArray])
  (try simp only [List.set_cons_succ])
  (try simp only [List.set_cons_zero])
  refine readyC (rs := [10]) (by kernel_rfl) (by simp) ?_
  refine ReadyC.cons rfl (fun K hK => ?_) ReadyC.nil
  go_simp
  refine hK _ _ (fun _ => hC.out) ?_
  clear hK K
  (try simp only [Act.put])
  (try simp only [List.setIfInBounds_toArray])
  (try simp only [List.set_cons_succ])
  (try simp only [List.set_cons_zero])
  refine readyC (rs := [11]) (by kernel_rfl) (by simp) ?_
  refine ReadyC.cons rfl (fun K hK => ?_) ReadyC.nil
  go_simp
  refine hK _ _ (fun _ => hC.out) ?_
  clear hK K
  (try simp only [Act.put])
  (try simp only [List.setIfInBounds_toArray])
  (try simp only [List.set_cons_succ])
  (try simp only [List.set_cons_zero])
  refine doneC (by kernel_rfl) ?_ _
  clear n0 FN FR
  obtain ⟨w5, hw5⟩ : ∃ w5, w5 = W2 := ⟨_, rfl⟩
  subst hw5
  have HB5 : Hid (Below w1.heap.size w1 w5) := HB4.out.trans (hB.out.mono HB4.out.size)
  clear HPS
  have HPS : Hid (w5.heap[p]? = some (.cells #[dptr b, vs] 99 (0, 0)) ∧ w5.heap[sb]? = some (.cells #[.int .i64 (N : Int), .slice (some ⟨g, 0, none⟩) pn c] 101 (0, 0))) := hC.out
  clear hB hC
  by_cases hz : fv = 0
  · subst hz
    obtain ⟨F1, hF1⟩ : ∃ F1, P + 8 = F1 := ⟨_, rfl⟩
    have eF : (P : Int) + 8 = (F1 : Int) := by omega
    have bF : (F1 : Int) ≤ 1099511627776 := by have := HPQ.out; omega
    have bP : (P : Int) ≤ 1099511627776 := by omega
    obtain ⟨I1, hI1⟩ : ∃ I1, i + 1 = I1 := ⟨_, rfl⟩
    have eI : (i : Int) + 1 = (I1 : Int) := by omega
    have bI : (I1 : Int) ≤ 1000001 := by omega
    have wF : IntKind.i64.wrap (F1 : Int) = (F1 : Int) := by rw [IntKind.wrap_i64]; omega
    have wI : IntKind.i64.wrap (I1 : Int) = (I1 : Int) := by rw [IntKind.wrap_i64]; omega
    have FP : Hid (∀ u, Below w5.heap.size w5 u → Calls Tryz.prog 77 #[sgV N (.slice (some ⟨g, 0, none⟩) pn c), .int .i64 (i : Int)] u fun e w' => e = .returned (.int .i64 (P : Int)) ∧ Below u.heap.size u w') := fun u hu =>
      place_any u N i g pn c P HN.out.2.1 (by have := HN.out; omega) (by have := HN.out; omega) (by
        have h1 := ownI_cell (ownI_below HO.out HB5.out) (i - N) (by have := HN.out; omega)
        rw [HPQ.out.1] at h1
        rw [hu.cell (by have := HN.out; exact Nat.lt_of_lt_of_le this.2.2.2.2.2 HB5.out.size)]
        exact h1)
    have FQ : Hid (∀ u, Below w5.heap.size w5 u → Calls Tryz.prog 77 #[sgV N (.slice (some ⟨g, 0, none⟩) pn c), .int .i64 (I1 : Int)] u fun e w' => e = .returned (.int .i64 (Q : Int)) ∧ Below u.heap.size u w') := fun u hu =>
      place_any u N I1 g pn c Q (by have := HN.out; omega) (by have := HN.out; omega) (by have := HN.out; omega) (by
        have h1 := ownI_cell (ownI_below HO.out HB5.out) (i + 1 - N) (by have := HN.out; omega)
        rw [HPQ.out.2.1, hI1] at h1
        rw [hu.cell (by have := HN.out; exact Nat.lt_of_lt_of_le this.2.2.2.2.2 HB5.out.size)]
        exact h1)
    have HFe : Hid (P + 8 = F1) := hF1
    clear hF1 hI1
    go_wp2_with (fail)
    refine regionC (fun (w' : World) => w'.heap[p]? = some (.cells #[dptr b, vs] 99 (0, 0)) ∧ w'.heap[sb]? = some (.cells #[.int .i64 (N : Int), .slice (some ⟨g, 0, none⟩) pn c] 101 (0, 0))) 9 (by kernel_rfl) ?_
    (try (change wpAnyC _ _ _ _ _ _ _ _ _ (World.drew _)))
    refine nameW (fun W0 hW0 => ?_)
    have hC : Hid (W0.heap[p]? = some (.cells #[dptr b, vs] 99 (0, 0)) ∧ W0.heap[sb]? = some (.cells #[.int .i64 (N : Int), .slice (some ⟨g, 0, none⟩) pn c] 101 (0, 0))) := by show _ ∧ _; rw [hW0]; exact HPS.out
    have hB : Hid (Below w5.heap.size w5 W0) := by show Below _ _ _; rw [hW0]; exact ⟨rfl, rfl, rfl, Nat.le_refl _, fun _ _ => rfl⟩
    clear hW0
    refine takeC (i := 0) (v := ?_) rfl (by kernel_rfl) (by kernel_rfl) (by kernel_rfl) (by kernel_rfl) (by kernel_rfl) (fun _ _ _ h => h) hC.out (Or.inl ⟨by rfl, ?_⟩) ?_
    rotate_left 1
    · intro w' hw'
      have z0 := m0 w' hw'; have z1 := m1 w' hw'
      go_simp
      first | done | with_reducible rfl
    (try simp only [Act.put])
    (try simp only [List.setIfInBounds_toArray])
    (try simp only [List.set_cons_succ])
    (try simp only [List.set_cons_zero])
    refine takeC (i := 1) (v := ?_) rfl (by kernel_rfl) (by kernel_rfl) (by kernel_rfl) (by kernel_rfl) (by kernel_rfl) (fun _ _ _ h => h) hC.out (Or.inl ⟨by rfl, ?_⟩) ?_
    rotate_left 1
    · intro w' hw'
      skip
      go_simp
      first | done | with_reducible rfl
    (try simp only [Act.put])
    (try simp only [List.setIfInBounds_toArray])
    (try simp only [List.set_cons_succ])
    (try simp only [List.set_cons_zero])
    refine takeC (i := 4) (v := ?_) rfl (by kernel_rfl) (by kernel_rfl) (by kernel_rfl) (by kernel_rfl) (by kernel_rfl) (fun _ _ _ h => h) hC.out (Or.inl ⟨by rfl, ?_⟩) ?_
    rotate_left 1
    · intro w' hw'
      have z0 := m0 w' hw'; have z1 := m1 w' hw'
      go_simp
      first | done | with_reducible rfl
    (try simp only [Act.put])
    (try simp only [List.setIfInBounds_toArray])
    (try simp only [List.set_cons_succ])
    (try simp only [List.set_cons_zero])
    refine takeC (i := 5) (v := ?_) rfl (by kernel_rfl) (by kernel_rfl) (by kernel_rfl) (by kernel_rfl) (by kernel_rfl) (fun _ _ _ h => h) hC.out (Or.inl ⟨by rfl, ?_⟩) ?_
    rotate_left 1
    · intro w' hw'
      skip
      go_simp
      first | done | with_reducible rfl
    (try simp only [Act.put])
    (try simp only [List.setIfInBounds_toArray])
    (try simp only [List.set_cons_succ])
    (try simp only [List.set_cons_zero])
    refine takeC (i := 6) (v := ?_) rfl (by kernel_rfl) (by kernel_rfl) (by kernel_rfl) (by kernel_rfl) (by kernel_rfl) (fun _ _ _ h => h) hC.out (Or.inl ⟨by rfl, ?_⟩) ?_
    rotate_left 1
    · intro w' hw'
      skip
      go_simp
      first | done | with_reducible rfl
    (try simp only [Act.put])
    (try simp only [List.setIfInBounds_toArray])
    (try simp only [List.set_cons_succ])
    (try simp only [List.set_cons_zero])
    refine readyC (rs := [2]) (by kernel_rfl) (by simp) ?_
    refine ReadyC.cons rfl (fun K hK => ?_) ReadyC.nil
    refine stepV_call rfl 77 #[sgV N (.slice (some ⟨g, 0, none⟩) pn c), .int .i64 (i : Int)] (by kernel_rfl) (FP.out W0 hB.out) (fun e w' h => ⟨_, h.1⟩) ?_
    intro v1 W1 hq
    obtain ⟨hv1, hq⟩ := hq
    have hv1' := Ending.returned.inj hv1
    subst hv1'
    have hq2 : Below w5.heap.size w5 W1 := hB.out.trans (hq.mono hB.out.size)
    have hq3 : W1.heap[p]? = some (.cells #[dptr b, vs] 99 (0, 0)) ∧ W1.heap[sb]? = some (.cells #[.int .i64 (N : Int), .slice (some ⟨g, 0, none⟩) pn c] 101 (0, 0)) := ⟨(hq2.block _ (lt_blk HPS.out.1)).trans HPS.out.1, (hq2.block _ (lt_blk HPS.out.2)).trans HPS.out.2⟩
    refine hK _ _ (fun _ => hq3) ?_
    clear hK K
    (try simp only [Act.put])
    (try simp only [List.setIfInBounds_toArray])
    (try simp only [List.set_cons_succ])
    (try simp only [List.set_cons_zero])
    replace hC : Hid (W1.heap[p]? = some (.cells #[dptr b, vs] 99 (0, 0)) ∧ W1.heap[sb]? = some (.cells #[.int .i64 (N : Int), .slice (some ⟨g, 0, none⟩) pn c] 101 (0, 0))) := hq3
    replace hB : Hid (Below w5.heap.size w5 W1) := hq2
    clear hv1 hq hq2 hq3
    refine takeC (i := 3) (v := ?_) rfl (by kernel_rfl) (by kernel_rfl) (by kernel_rfl) (by kernel_rfl) (by kernel_rfl) (fun _ _ _ h => h) hC.out (Or.inl ⟨by rfl, ?_⟩) ?_
    rotate_left 1
    · intro w' hw'
      skip
      go_simp
      first | done | with_reducible rfl
    (try simp only [Act.put])
    (try simp only [List.setIfInBounds_toArray])
    (try simp only [List.set_cons_succ])
    (try simp only [List.set_cons_zero])
    refine readyC (rs := [7]) (by kernel_rfl) (by simp) ?_
    refine ReadyC.cons rfl (fun K hK => ?_) ReadyC.nil
    refine stepV_call rfl 77 #[sgV N (.slice (some ⟨g, 0, none⟩) pn c), .int .i64 (I1 : Int)] (by kernel_rfl) (FQ.out W1 hB.out) (fun e w' h => ⟨_, h.1⟩) ?_
    intro v1 W2 hq
    obtain ⟨hv1, hq⟩ := hq
    have hv1' := Ending.returned.inj hv1
    subst hv1'
    have hq2 : Below w5.heap.size w5 W2 := hB.out.trans (hq.mono hB.out.size)
    have hq3 : W2.heap[p]? = some (.cells #[dptr b, vs] 99 (0, 0)) ∧ W2.heap[sb]? = some (.cells #[.int .i64 (N : Int), .slice (some ⟨g, 0, none⟩) pn c] 101 (0, 0)) := ⟨(hq2.block _ (lt_blk HPS.out.1)).trans HPS.out.1, (hq2.block _ (lt_blk HPS.out.2)).trans HPS.out.2⟩
    refine hK _ _ (fun _ => hq3) ?_
    clear hK K
    (try simp only [Act.put])
    (try simp only [List.setIfInBounds_toArray])
    (try simp only [List.set_cons_succ])
    (try simp only [List.set_cons_zero])
    replace hC : Hid (W2.heap[p]? = some (.cells #[dptr b, vs] 99 (0, 0)) ∧ W2.heap[sb]? = some (.cells #[.int .i64 (N : Int), .slice (some ⟨g, 0, none⟩) pn c] 101 (0, 0))) := hq3
    replace hB : Hid (Below w5.heap.size w5 W2) := hq2
    clear hv1 hq hq2 hq3
    refine readyC (rs := [8]) (by kernel_rfl) (by simp) ?_
    refine ReadyC.cons rfl (fun K hK => ?_) ReadyC.nil
    go_simp
    refine hK _ _ (fun _ => hC.out) ?_
    clear hK K
    (try simp only [Act.put])
    (try simp only [List.setIfInBounds_toArray])
    (try simp only [List.set_cons_succ])
    (try simp only [List.set_cons_zero])
    refine readyC (rs := [9]) (by kernel_rfl) (by simp) ?_
    refine ReadyC.cons rfl (fun K hK => ?_) ReadyC.nil
    go_simp
    refine hK _ _ (fun _ => hC.out) ?_
    clear hK K
    (try simp only [Act.put])
    (try simp only [List.setIfInBounds_toArray])
    (try simp only [List.set_cons_succ])
    (try simp only [List.set_cons_zero])
    refine doneC (by kernel_rfl) ?_ _
    clear m0 m1 FP FQ eF eI wF wI bI
    obtain ⟨w6, hw6⟩ : ∃ w6, w6 = W2 := ⟨_, rfl⟩
    subst hw6
    have HB6 : Hid (Below w1.heap.size w1 w6) := HB5.out.trans (hB.out.mono HB5.out.size)
    have hbb := own_brow (w := w6) (B := 0) (a := ra) (cap := rc) (l := bs) (by rw [HFV.out.2.2]; exact own_below2 HOR.out hB.out)
    rw [HFV.out.2.2] at hbb
    have HBR : Hid (BRow w6 ra len rc bs) := hbb
    have hcap := own_cap HOR.out
    clear hB hC hbb
    by_cases hQl : len < Q
    · have q5 : (len : Int) < (Q : Int) := by omega
      have HQl : Hid (len < Q) := hQl
      clear hQl hcap
      go_wp2_with (fail)
      go_ret2
      exact ⟨fun e => absurd HFV.out.1 e, fun _ _ => rfl, fun _ e => absurd HQl.out (by rw [HFV.out.2.1, HFV.out.2.2] at e; omega), HB6.out⟩
    · have q5 : ¬ (len : Int) < (Q : Int) := by omega
      obtain ⟨a', c', hsl, hpart⟩ := part_lhm ra len rc F1 Q (by have := HPQ.out; have := HFe.out; omega) (by omega) hcap
      have HQl : Hid (Q ≤ len) := by show _ ≤ _; omega
      have z1 := hsl w6
      have HPt : Hid (BRow w6 a' (Q - F1) c' ((bs.drop F1).take (Q - F1))) := hpart w6 bs HBR.out
      clear hQl hcap hsl hpart
      go_wp2_with (fail)
      go_ret2
      refine ⟨fun e => absurd HFV.out.1 e, fun _ e => absurd HQl.out (by rw [HFV.out.2.1, HFV.out.2.2] at e; omega), fun _ _ => ⟨a', c', by rw [HFe.out]; rfl, ?_⟩, HB6.out⟩
      rw [HFe.out, HFV.out.2.1]
      exact HPt.out
  · have q9 : ((fv : Int) != 0) = true := by simp; omega
    have q8 : ((fv : Int) == 0) = false := by simp; omega
    have HZ : Hid (fv ≠ 0) := hz
    clear hz
    go_wp2_with (fail)
    go_ret2
    exact ⟨fun _ => by rw [HFV.out.1]; rfl, fun e => absurd (HFV.out.1.symm.trans e) HZ.out, fun e => absurd (HFV.out.1.symm.trans e) HZ.out, HB5.out⟩
end Go.Proofs.YtkbmblmnhhlicaaGreatDoor
