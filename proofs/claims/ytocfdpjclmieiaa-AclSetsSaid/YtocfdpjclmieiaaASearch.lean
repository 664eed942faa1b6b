/- BinarySearchFunc by order; walked. -/
import Derived.Test.YtocfdpjclmieiaaARight
set_option linter.unusedVariables false
namespace Go.Proofs.Ytocfdpjclmieiaa
open Go.RowKit

theorem pos_iff {l : List GrA} (hs : Asc l) {g a : GrA} {i : Nat} (ha : l[i]? = some a) : ordL a g < 0 ↔ i < posL l g := by
  constructor
  · intro h
    rcases Nat.lt_or_ge i (posL l g) with q | q
    · exact q
    · exact absurd h (pos_ge hs q ha)
  · exact fun h => pos_lt h ha
abbrev ordV : Value := .func (.func 23) #[] #[]

set_option maxHeartbeats 4000000 in
set_option maxRecDepth 8000 in
theorem asearch_any (l : List GrA) (hl : l.length ≤ 64) (hs : Asc l) (g : GrA) (v : Value) (w : World) (hv : GrsAt w v l) : Calls Try.prog 26 #[v, aggA g, ordV] w fun e w' => e = .returned (.tuple #[.int .i64 (posL l g : Int), .bool (hasL l g)]) ∧ Below w.heap.size w w' := by
  obtain ⟨a, cap, rfl, hc⟩ := hv
  obtain ⟨P, hP⟩ : ∃ P, P = posL l g := ⟨_, rfl⟩
  have hPl : P ≤ l.length := by rw [hP]; exact pos_le l g
  have HI : Hid (∀ i x, l[i]? = some x → (ordL x g < 0 ↔ i < P)) := fun i x hx => by rw [hP]; exact pos_iff hs hx
  have HH : Hid (hasL l g = match l[P]? with
    | some a => ordL a g == 0
    | none => false) := by rw [hP]; rfl
  have HC := (show Hid (∀ i g, l[i]? = some g → ∃ b o, a = some ⟨b, o, none⟩ ∧ b < w.heap.size ∧ w.cell? ⟨b, o + i * 3, none⟩ = some (strA g.tenant) ∧ w.cell? ⟨b, o + i * 3 + 1, none⟩ = some (strA g.who) ∧ w.cell? ⟨b, o + i * 3 + 2, none⟩ = some (.int .i64 g.right)) from hc)
  have HOr0 : Hid (∀ x u, Calls Try.prog 23 #[aggA x, aggA g] u fun e w' => e = .returned (.int .i64 (ordL x g)) ∧ Below u.heap.size u w') := fun x u => aorder_any x g u
  rw [← hP]
  obtain ⟨t, h, r⟩ := g
  generalize hasL l ⟨t, h, r⟩ = hb at *
  obtain ⟨W1, hW1⟩ : ∃ W1, W1 = w.alloc (.cells #[strA t, strA h, .int .i64 r] 33) := ⟨_, rfl⟩
  have HBW : Hid (Below w.heap.size w W1) := by show Below _ _ _; rw [hW1]; exact (Below.refl _ _).alloc (Nat.le_refl _) _
  have HK : Hid (W1.heap[w.heap.size]? = some (.cells #[strA t, strA h, .int .i64 r] 33 (0, 0))) := by show _ = _; rw [hW1]; exact blk_new _ _ _
  clear hc hs hP
  go_enter Try.func26, Try.ntmps26
  go_wp2
  rw [← hW1]
  clear hW1
  go_loopw [9, 10] (fun i j wr => ∃ lo hi : Nat, i = .int .i64 (lo : Int) ∧ j = .int .i64 (hi : Int) ∧ lo ≤ P ∧ P ≤ hi ∧ hi ≤ l.length ∧ Hid (Below W1.heap.size W1 wr)) (fun i j _ => (intOf j).toNat - (intOf i).toNat)
  case atStart => exact ⟨0, l.length, rfl, rfl, Nat.zero_le _, hPl, Nat.le_refl _, Below.refl _ _⟩
  case round =>
    obtain ⟨lo, hi, rfl, rfl, hlo, hhi, hhl, HB⟩ := hrel
    by_cases hlt : lo < hi
    · have hlt1 : (lo : Int) < (hi : Int) := by omega
      obtain ⟨m, hm⟩ : ∃ m : Nat, m = (lo + hi) / 2 := ⟨_, rfl⟩
      have hmi : ((lo : Int) + (hi : Int)) / 2 = (m : Int) := by omega
      have hm1 : lo ≤ m := by omega
      have hm2 : m < hi := by omega
      have hml : (m : Int) < (l.length : Int) := by omega
      obtain ⟨x, hx⟩ : ∃ x, l[m]? = some x := ⟨_, List.getElem?_eq_getElem (by omega)⟩
      have hiff := HI.out m x hx
      clear hm HH
      obtain ⟨b, o, ha, hbw, c0, c1, c2⟩ := HC.out m x hx
      subst ha
      have HU : ∀ u : BwA wr, Below W1.heap.size W1 u.wo := fun u => HB.out.trans (u.is.mono HB.out.size)
      have HV : ∀ u : BwA wr, Below w.heap.size w u.wo := fun u => HBW.out.trans ((HU u).mono HBW.out.size)
      have x0 : ∀ u : BwA wr, u.wo.cell? ⟨w.heap.size, 0, none⟩ = some (strA t) := fun u => cell_blkA (blk_belowA HK.out (HU u)) rfl
      have x1 : ∀ u : BwA wr, u.wo.cell? ⟨w.heap.size, 1, none⟩ = some (strA h) := fun u => cell_blkA (blk_belowA HK.out (HU u)) rfl
      have x2 : ∀ u : BwA wr, u.wo.cell? ⟨w.heap.size, 2, none⟩ = some (.int .i64 r) := fun u => cell_blkA (blk_belowA HK.out (HU u)) rfl
      have y0 : ∀ u : BwA wr, u.wo.cell? ⟨b, o + m * 3, none⟩ = some (strA x.tenant) := fun u => ((HV u).cell (p := ⟨b, o + m * 3, none⟩) hbw).trans c0
      have y1 : ∀ u : BwA wr, u.wo.cell? ⟨b, o + m * 3 + 1, none⟩ = some (strA x.who) := fun u => ((HV u).cell (p := ⟨b, o + m * 3 + 1, none⟩) hbw).trans c1
      have y2 : ∀ u : BwA wr, u.wo.cell? ⟨b, o + m * 3 + 2, none⟩ = some (.int .i64 x.right) := fun u => ((HV u).cell (p := ⟨b, o + m * 3 + 2, none⟩) hbw).trans c2
      have HOr1 : Hid (∀ u : BwA wr, Calls Try.prog 23 #[aggA x, aggA ⟨t, h, r⟩] u.wo fun e w' => e = .returned (.int .i64 (ordL x ⟨t, h, r⟩)) ∧ ∃ u' : BwA wr, w' = u'.wo) := fun u => (HOr0.out x u.wo).mono fun e w' q => ⟨q.1, BwA.of (u.is.trans (q.2.mono u.is.size)), rfl⟩
      generalize ordL x ⟨t, h, r⟩ = O at *
      obtain ⟨t', h', r'⟩ := x
      have HOj : Hid (∀ u : BwA wr, Calls Try.prog 23 #[.agg #[strA t', strA h', .int .i64 r'], .agg #[strA t, strA h, .int .i64 r]] u.wo fun e w' => e = .returned (.int .i64 O) ∧ ∃ u' : BwA wr, w' = u'.wo) := HOr1
      have HUU := (show Hid (∀ u : BwA wr, Below W1.heap.size W1 u.wo) from HU)
      clear HU HV HOr1 HOr0 c0 c1 c2 HC HI HK HB hx
      by_cases hO : O < 0
      · have hmP : m < P := hiff.1 hO
        clear hiff
        go_wp2
        refine region_classA (fun w' => ∃ u : BwA wr, w' = u.wo) (by kernel_rfl) (by kernel_rfl) (BwA.first wr) ?_
        haveI := BwA.some wr
        repeat (go_big_quiet_step (first | (go_at_call 23; exact HOj.out _) | (go_at_fn 23; exact HOj.out _) | exact rfl))
        refine wpQuiet_nil ?_
        intro w5 hw5
        obtain ⟨u, hu⟩ := hw5
        subst hu
        have HB2 := (show Hid (Below W1.heap.size W1 u.wo) from HUU.out u)
        clear x0 x1 x2 y0 y1 y2 HOj HUU
        generalize u.wo = w6 at *
        go_wp2
        exact ⟨⟨m + 1, hi, by go_num, rfl, by omega, hhi, hhl, HB2⟩, by (simp [intOf]) <;> omega⟩
      · have hmP : P ≤ m := by
          rcases Nat.lt_or_ge m P with q | q
          · exact absurd (hiff.2 q) hO
          · exact q
        clear hiff
        go_wp2
        refine region_classA (fun w' => ∃ u : BwA wr, w' = u.wo) (by kernel_rfl) (by kernel_rfl) (BwA.first wr) ?_
        haveI := BwA.some wr
        repeat (go_big_quiet_step (first | (go_at_call 23; exact HOj.out _) | (go_at_fn 23; exact HOj.out _) | exact rfl))
        refine wpQuiet_nil ?_
        intro w5 hw5
        obtain ⟨u, hu⟩ := hw5
        subst hu
        have HB2 := (show Hid (Below W1.heap.size W1 u.wo) from HUU.out u)
        clear x0 x1 x2 y0 y1 y2 HOj HUU
        generalize u.wo = w6 at *
        go_wp2
        exact ⟨⟨lo, m, rfl, by go_num, hlo, hmP, by omega, HB2⟩, by (simp [intOf]) <;> omega⟩
    · obtain rfl : lo = P := by omega
      have hlt1 : ¬ (lo : Int) < (hi : Int) := by omega
      by_cases hlast : lo < l.length
      · have hl1 : (lo : Int) < (l.length : Int) := by omega
        obtain ⟨x, hx⟩ : ∃ x, l[lo]? = some x := ⟨_, List.getElem?_eq_getElem hlast⟩
        have hh := HH.out
        rw [hx] at hh
        simp only at hh
        have HHB := (show Hid (hb = (ordL x ⟨t, h, r⟩ == 0)) from hh)
        clear hh HH
        obtain ⟨b, o, ha, hbw, c0, c1, c2⟩ := HC.out lo x hx
        subst ha
        have HU : ∀ u : BwA wr, Below W1.heap.size W1 u.wo := fun u => HB.out.trans (u.is.mono HB.out.size)
        have HV : ∀ u : BwA wr, Below w.heap.size w u.wo := fun u => HBW.out.trans ((HU u).mono HBW.out.size)
        have x0 : ∀ u : BwA wr, u.wo.cell? ⟨w.heap.size, 0, none⟩ = some (strA t) := fun u => cell_blkA (blk_belowA HK.out (HU u)) rfl
        have x1 : ∀ u : BwA wr, u.wo.cell? ⟨w.heap.size, 1, none⟩ = some (strA h) := fun u => cell_blkA (blk_belowA HK.out (HU u)) rfl
        have x2 : ∀ u : BwA wr, u.wo.cell? ⟨w.heap.size, 2, none⟩ = some (.int .i64 r) := fun u => cell_blkA (blk_belowA HK.out (HU u)) rfl
        have y0 : ∀ u : BwA wr, u.wo.cell? ⟨b, o + lo * 3, none⟩ = some (strA x.tenant) := fun u => ((HV u).cell (p := ⟨b, o + lo * 3, none⟩) hbw).trans c0
        have y1 : ∀ u : BwA wr, u.wo.cell? ⟨b, o + lo * 3 + 1, none⟩ = some (strA x.who) := fun u => ((HV u).cell (p := ⟨b, o + lo * 3 + 1, none⟩) hbw).trans c1
        have y2 : ∀ u : BwA wr, u.wo.cell? ⟨b, o + lo * 3 + 2, none⟩ = some (.int .i64 x.right) := fun u => ((HV u).cell (p := ⟨b, o + lo * 3 + 2, none⟩) hbw).trans c2
        have HOr1 : Hid (∀ u : BwA wr, Calls Try.prog 23 #[aggA x, aggA ⟨t, h, r⟩] u.wo fun e w' => e = .returned (.int .i64 (ordL x ⟨t, h, r⟩)) ∧ ∃ u' : BwA wr, w' = u'.wo) := fun u => (HOr0.out x u.wo).mono fun e w' q => ⟨q.1, BwA.of (u.is.trans (q.2.mono u.is.size)), rfl⟩
        generalize ordL x ⟨t, h, r⟩ = O at *
        obtain ⟨t', h', r'⟩ := x
        have HOj : Hid (∀ u : BwA wr, Calls Try.prog 23 #[.agg #[strA t', strA h', .int .i64 r'], .agg #[strA t, strA h, .int .i64 r]] u.wo fun e w' => e = .returned (.int .i64 O) ∧ ∃ u' : BwA wr, w' = u'.wo) := HOr1
        have HUU := (show Hid (∀ u : BwA wr, Below W1.heap.size W1 u.wo) from HU)
        clear HU HV HOr1 HOr0 c0 c1 c2 HC HI HK HB hx
        go_wp2
        refine region_classA (fun w' => ∃ u : BwA wr, w' = u.wo) (by kernel_rfl) (by kernel_rfl) (BwA.first wr) ?_
        haveI := BwA.some wr
        repeat (go_big_quiet_step (first | (go_at_call 23; exact HOj.out _) | (go_at_fn 23; exact HOj.out _) | exact rfl))
        refine wpQuiet_nil ?_
        intro w5 hw5
        obtain ⟨u, hu⟩ := hw5
        subst hu
        have HB2 := (show Hid (Below W1.heap.size W1 u.wo) from HUU.out u)
        clear x0 x1 x2 y0 y1 y2 HOj HUU
        generalize u.wo = w6 at *
        go_wp2
        go_ret2
        refine ⟨?_, HBW.out.trans (HB2.out.mono HBW.out.size)⟩
        have hh : hb = (O == 0) := HHB.out
        rw [hh]
        rfl
      · have hl1 : ¬ (lo : Int) < (l.length : Int) := by omega
        have hx : l[lo]? = none := List.getElem?_eq_none (by omega)
        have hh := HH.out
        rw [hx] at hh
        have HHB := (show Hid (hb = false) from hh)
        have HBF := (show Hid (Below w.heap.size w wr) from HBW.out.trans (HB.out.mono HBW.out.size))
        clear hh HH HC HI hx
        have hh : hb = false := HHB.out
        subst hh
        go_wp2
        go_region
        go_wp2
        go_ret2
        exact ⟨rfl, below_drewA HBF.out⟩
end Go.Proofs.Ytocfdpjclmieiaa
