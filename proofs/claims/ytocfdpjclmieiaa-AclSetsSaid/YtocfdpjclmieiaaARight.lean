/- Right; walked. -/
import Derived.Test.YtocfdpjclmieiaaAFits
set_option linter.unusedVariables false
namespace Go.Proofs.Ytocfdpjclmieiaa
open Go.RowKit

/-- A row of grants in memory. -/
def GrsAt (w : World) (v : Value) (l : List GrA) : Prop := ∃ a cap, v = .slice a l.length cap ∧ ∀ i g, l[i]? = some g → ∃ b o, a = some ⟨b, o, none⟩ ∧ b < w.heap.size ∧ w.cell? ⟨b, o + i * 3, none⟩ = some (strA g.tenant) ∧ w.cell? ⟨b, o + i * 3 + 1, none⟩ = some (strA g.who) ∧ w.cell? ⟨b, o + i * 3 + 2, none⟩ = some (.int .i64 g.right)
theorem GrsAt.below {w w' : World} {v : Value} {l : List GrA} (h : GrsAt w v l) (hb : Below w.heap.size w w') : GrsAt w' v l := by
  obtain ⟨a, cap, hv, hc⟩ := h
  refine ⟨a, cap, hv, fun i g hg => ?_⟩
  obtain ⟨b, o, h1, h2, h3, h4, h5⟩ := hc i g hg
  exact ⟨b, o, h1, Nat.lt_of_lt_of_le h2 hb.size, (hb.cell (p := ⟨b, o + i * 3, none⟩) h2).trans h3, (hb.cell (p := ⟨b, o + i * 3 + 1, none⟩) h2).trans h4, (hb.cell (p := ⟨b, o + i * 3 + 2, none⟩) h2).trans h5⟩
def Lens (l : List GrA) : Prop := ∀ g ∈ l, g.who.length ≤ 9223372036854775000

theorem region_classA {P : Program} {id : Nat} {Q : Exit → Act → World → Prop} {a : Act} {w : World} {l : List Oper} (C : World → Prop) (hm : P.follows .mixedOrders = true) (hB : Region.lexB .any l.toArray = true) (hC : C w.drew)
    (h : wpQuiet P l.toArray C (fun a' => ∀ w', C w' → Q .normal a' w') l a) : (Code.region id l.toArray true).wp P Q a w :=
  wp_region_quiet (C := C) hm hB hC (by simpa using h)
/-- The first k grants are as they may be. -/
def RtP (l : List GrA) (k : Nat) : Prop := ∀ i g, i < k → l[i]? = some g → fitsA g 1 = true ∧ ∀ p, 0 < i → l[i - 1]? = some p → ordL p g < 0
theorem getD_of {l : List GrA} {i : Nat} {g : GrA} (h : l[i]? = some g) : l.getD i {} = g := by rw [List.getD_eq_getElem?_getD, h]; rfl
theorem right_all {l : List GrA} (hl : l.length ≤ 64) (h : RtP l l.length) : rightA l = true := by
  unfold rightA
  simp only [Bool.and_eq_true, decide_eq_true_eq]
  refine ⟨⟨hl, ?_⟩, fun i hi h0 => ?_⟩
  · rw [List.all_eq_true]
    intro g hg
    obtain ⟨i, hi⟩ := List.mem_iff_getElem?.1 hg
    exact (h i g (List.getElem?_eq_some_iff.1 hi).1 hi).1
  · obtain ⟨g, hg⟩ : ∃ g, l[i]? = some g := ⟨_, List.getElem?_eq_getElem hi⟩
    obtain ⟨p, hp⟩ : ∃ p, l[i - 1]? = some p := ⟨_, List.getElem?_eq_getElem (by omega)⟩
    rw [getD_of hg, getD_of hp]
    exact (h i g hi hg).2 p h0 hp
theorem right_not {l : List GrA} {k : Nat} {g : GrA} (hg : l[k]? = some g) (h : fitsA g 1 = false ∨ ∃ p, 0 < k ∧ l[k - 1]? = some p ∧ ¬ ordL p g < 0) : rightA l = false := by
  rw [Bool.eq_false_iff]
  intro e
  have hk := (List.getElem?_eq_some_iff.1 hg).1
  unfold rightA at e
  simp only [Bool.and_eq_true, decide_eq_true_eq] at e
  rcases h with h | ⟨p, h0, hp, hn⟩
  · have := List.all_eq_true.1 e.1.2 g (List.mem_of_getElem? hg)
    rw [h] at this
    cases this
  · have := e.2 k hk h0
    rw [getD_of hg, getD_of hp] at this
    exact hn this
theorem rtp_next {l : List GrA} {k : Nat} {g : GrA} (h : RtP l k) (hg : l[k]? = some g) (h1 : fitsA g 1 = true) (h2 : ∀ p, 0 < k → l[k - 1]? = some p → ordL p g < 0) : RtP l (k + 1) := by
  intro i x hi hx
  by_cases he : i = k
  · subst he
    rw [hg] at hx
    cases hx
    exact ⟨h1, h2⟩
  · exact h i x (by omega) hx

set_option maxHeartbeats 4000000 in
set_option maxRecDepth 8000 in
theorem aright_any (l : List GrA) (hle : Lens l) (v : Value) (w : World) (hv : GrsAt w v l) : Calls Try.prog 11 #[v] w fun e w' => e = .returned (.bool (rightA l)) ∧ Below w.heap.size w w' := by
  obtain ⟨a, cap, rfl, hc⟩ := hv
  by_cases h64 : 64 < l.length
  · have hi : (64 : Int) < (l.length : Int) := by omega
    go_enter Try.func11, Try.ntmps11
    go_wp2
    go_ret
    exact ⟨ret_bool (by unfold rightA; rw [decide_eq_false (by omega)]; rfl), Below.refl _ _⟩
  · have hi : ¬ (64 : Int) < (l.length : Int) := by omega
    have HC := (show Hid (∀ i g, l[i]? = some g → ∃ b o, a = some ⟨b, o, none⟩ ∧ b < w.heap.size ∧ w.cell? ⟨b, o + i * 3, none⟩ = some (strA g.tenant) ∧ w.cell? ⟨b, o + i * 3 + 1, none⟩ = some (strA g.who) ∧ w.cell? ⟨b, o + i * 3 + 2, none⟩ = some (.int .i64 g.right)) from hc)
    have HLe := (show Hid (Lens l) from hle)
    clear hc hle
    go_enter Try.func11, Try.ntmps11
    go_wp2
    go_loopw [10] (fun i wr => ∃ k : Nat, i = .int .i64 (k : Int) ∧ k ≤ l.length ∧ Hid (RtP l k) ∧ Hid (Below w.heap.size w wr)) (fun i _ => l.length - (intOf i).toNat)
    case atStart => exact ⟨0, rfl, Nat.zero_le _, (fun i g h => absurd h (Nat.not_lt_zero _)), Below.refl _ _⟩
    case round =>
      obtain ⟨k, rfl, hk, HP, HB⟩ := hrel
      by_cases hlt : k < l.length
      · have hlt1 : (k : Int) < (l.length : Int) := by omega
        obtain ⟨g, hg⟩ : ∃ g, l[k]? = some g := ⟨_, List.getElem?_eq_getElem hlt⟩
        obtain ⟨b, o, ha, hbw, c0, c1, c2⟩ := HC.out k g hg
        subst ha
        have d0 := (show _ = _ from (HB.out.cell (p := ⟨b, o + k * 3, none⟩) hbw).trans c0)
        have d1 := (show _ = _ from (HB.out.cell (p := ⟨b, o + k * 3 + 1, none⟩) hbw).trans c1)
        have d2 := (show _ = _ from (HB.out.cell (p := ⟨b, o + k * 3 + 2, none⟩) hbw).trans c2)
        have hgl := HLe.out g (List.mem_of_getElem? hg)
        have HFi0 : Hid (∀ u, Calls Try.prog 22 #[aggA g, .int .i64 1] u fun e w' => e = .returned (.bool (fitsA g 1)) ∧ Below u.heap.size u w') := fun u => afits_any g hgl 1 u
        have HNo := (show Hid (fitsA g 1 = false ∨ (∃ p, 0 < k ∧ l[k - 1]? = some p ∧ ¬ ordL p g < 0) → rightA l = false) from right_not hg)
        have HNx := (show Hid (fitsA g 1 = true → (∀ p, 0 < k → l[k - 1]? = some p → ordL p g < 0) → RtP l (k + 1)) from rtp_next HP.out hg)
        have HBA : Hid (∀ o, Below w.heap.size w (wr.alloc o).drew) := fun o => below_drewA (HB.out.alloc HB.out.size o)
        clear HP hg c0 c1 c2 HLe hgl
        cases hf : fitsA g 1
        · rw [hf] at HFi0
          have HRR := (show Hid (rightA l = false) from HNo.out (.inl hf))
          clear HNo HNx hf HC
          obtain ⟨t, h, r⟩ := g
          have HFi : Hid (∀ u, Calls Try.prog 22 #[.agg #[strA t, strA h, .int .i64 r], .int .i64 1] u fun e w' => e = .returned (.bool false) ∧ Below u.heap.size u w') := HFi0
          clear HFi0
          obtain ⟨W1, hW1⟩ : ∃ W1, W1 = wr.alloc (.cells #[strA t, strA h, .int .i64 r] 33) := ⟨_, rfl⟩
          have HBW : Hid (Below w.heap.size w W1) := by show Below _ _ _; rw [hW1]; exact HB.out.alloc HB.out.size _
          have kk : W1.heap[wr.heap.size]? = some (.cells #[strA t, strA h, .int .i64 r] 33 (0, 0)) := by rw [hW1]; exact blk_new _ _ _
          have x0 : ∀ u : BwA W1, u.wo.cell? ⟨wr.heap.size, 0, none⟩ = some (strA t) := fun u => cell_blkA (blk_belowA kk u.is) rfl
          have x1 : ∀ u : BwA W1, u.wo.cell? ⟨wr.heap.size, 1, none⟩ = some (strA h) := fun u => cell_blkA (blk_belowA kk u.is) rfl
          have x2 : ∀ u : BwA W1, u.wo.cell? ⟨wr.heap.size, 2, none⟩ = some (.int .i64 r) := fun u => cell_blkA (blk_belowA kk u.is) rfl
          have HFj : Hid (∀ u : BwA W1, Calls Try.prog 22 #[.agg #[strA t, strA h, .int .i64 r], .int .i64 1] u.wo fun e w' => e = .returned (.bool _) ∧ ∃ u' : BwA W1, w' = u'.wo) := fun u => (HFi.out u.wo).mono fun e w' q => ⟨q.1, BwA.of (u.is.trans (q.2.mono u.is.size)), rfl⟩
          clear kk HFi HBA HB
          go_wp2
          rw [← hW1]
          refine region_classA (fun w' => ∃ u : BwA W1, w' = u.wo) (by kernel_rfl) (by kernel_rfl) (BwA.first W1) ?_
          haveI := BwA.some W1
          repeat (go_big_quiet_step (first | (go_at_call 22; exact HFj.out _) | exact rfl))
          refine wpQuiet_nil ?_
          intro w5 hw5
          obtain ⟨u, hu⟩ := hw5
          subst hu
          have HB2 := (show Hid (Below w.heap.size w u.wo) from HBW.out.trans (u.is.mono HBW.out.size))
          clear x0 x1 x2 HFj HBW hW1
          generalize u.wo = w6 at *
          go_wp2
          go_ret
          exact ⟨ret_bool HRR.out.symm, HB2.out⟩
        · rw [hf] at HFi0
          by_cases hk0 : k = 0
          · subst hk0
            have HNx2 : Hid (RtP l (0 + 1)) := HNx.out hf (fun p h => absurd h (Nat.lt_irrefl _))
            clear HNo HNx hf HC
            obtain ⟨t, h, r⟩ := g
            have HFi : Hid (∀ u, Calls Try.prog 22 #[.agg #[strA t, strA h, .int .i64 r], .int .i64 1] u fun e w' => e = .returned (.bool true) ∧ Below u.heap.size u w') := HFi0
            clear HFi0
            simp only [Nat.zero_mul, Nat.add_zero] at d0 d1 d2
            obtain ⟨W1, hW1⟩ : ∃ W1, W1 = wr.alloc (.cells #[strA t, strA h, .int .i64 r] 33) := ⟨_, rfl⟩
            have HBW : Hid (Below w.heap.size w W1) := by show Below _ _ _; rw [hW1]; exact HB.out.alloc HB.out.size _
            have kk : W1.heap[wr.heap.size]? = some (.cells #[strA t, strA h, .int .i64 r] 33 (0, 0)) := by rw [hW1]; exact blk_new _ _ _
            have x0 : ∀ u : BwA W1, u.wo.cell? ⟨wr.heap.size, 0, none⟩ = some (strA t) := fun u => cell_blkA (blk_belowA kk u.is) rfl
            have x1 : ∀ u : BwA W1, u.wo.cell? ⟨wr.heap.size, 1, none⟩ = some (strA h) := fun u => cell_blkA (blk_belowA kk u.is) rfl
            have x2 : ∀ u : BwA W1, u.wo.cell? ⟨wr.heap.size, 2, none⟩ = some (.int .i64 r) := fun u => cell_blkA (blk_belowA kk u.is) rfl
            have HFj : Hid (∀ u : BwA W1, Calls Try.prog 22 #[.agg #[strA t, strA h, .int .i64 r], .int .i64 1] u.wo fun e w' => e = .returned (.bool _) ∧ ∃ u' : BwA W1, w' = u'.wo) := fun u => (HFi.out u.wo).mono fun e w' q => ⟨q.1, BwA.of (u.is.trans (q.2.mono u.is.size)), rfl⟩
            clear kk HFi HBA HB
            go_wp2
            rw [← hW1]
            refine region_classA (fun w' => ∃ u : BwA W1, w' = u.wo) (by kernel_rfl) (by kernel_rfl) (BwA.first W1) ?_
            haveI := BwA.some W1
            repeat (go_big_quiet_step (first | (go_at_call 22; exact HFj.out _) | exact rfl))
            refine wpQuiet_nil ?_
            intro w5 hw5
            obtain ⟨u, hu⟩ := hw5
            subst hu
            have HB2 := (show Hid (Below w.heap.size w u.wo) from HBW.out.trans (u.is.mono HBW.out.size))
            clear x0 x1 x2 HFj HBW hW1
            generalize u.wo = w6 at *
            go_wp2
            exact ⟨⟨0 + 1, by go_num, by omega, HNx2, HB2⟩, by (simp [intOf]) <;> omega⟩
          · obtain ⟨j, rfl⟩ : ∃ j, k = j + 1 := ⟨k - 1, by omega⟩
            rw [Nat.add_sub_cancel] at HNo HNx
            obtain ⟨pv, hpv⟩ : ∃ pv, l[j]? = some pv := ⟨_, List.getElem?_eq_getElem (by omega)⟩
            obtain ⟨b', o', ha', hb', p0, p1, p2⟩ := HC.out j pv hpv
            have eb : b' = b := by cases ha'; rfl
            have eo : o' = o := by cases ha'; rfl
            rw [eb, eo] at p0 p1 p2
            clear ha' hb' eb eo
            have HOr0 : Hid (∀ u, Calls Try.prog 23 #[aggA pv, aggA g] u fun e w' => e = .returned (.int .i64 (ordL pv g)) ∧ Below u.heap.size u w') := fun u => aorder_any pv g u
            have hjz : (0 : Int) < ((j : Int) + 1) := by omega
            by_cases hO : ordL pv g < 0
            · have HNx2 : Hid (RtP l (j + 1 + 1)) := HNx.out hf (fun p _ hp => by rw [hpv] at hp; cases hp; exact hO)
              generalize ordL pv g = O at *
              clear HNo HNx hf HC hpv
              obtain ⟨t, h, r⟩ := g
              obtain ⟨t', h', r'⟩ := pv
              have HFi : Hid (∀ u, Calls Try.prog 22 #[.agg #[strA t, strA h, .int .i64 r], .int .i64 1] u fun e w' => e = .returned (.bool true) ∧ Below u.heap.size u w') := HFi0
              have HOr : Hid (∀ u, Calls Try.prog 23 #[.agg #[strA t', strA h', .int .i64 r'], .agg #[strA t, strA h, .int .i64 r]] u fun e w' => e = .returned (.int .i64 O) ∧ Below u.heap.size u w') := HOr0
              clear HFi0 HOr0
              obtain ⟨W1, hW1⟩ : ∃ W1, W1 = wr.alloc (.cells #[strA t, strA h, .int .i64 r] 33) := ⟨_, rfl⟩
              have HBW : Hid (Below w.heap.size w W1) := by show Below _ _ _; rw [hW1]; exact HB.out.alloc HB.out.size _
              have kk : W1.heap[wr.heap.size]? = some (.cells #[strA t, strA h, .int .i64 r] 33 (0, 0)) := by rw [hW1]; exact blk_new _ _ _
              have x0 : ∀ u : BwA W1, u.wo.cell? ⟨wr.heap.size, 0, none⟩ = some (strA t) := fun u => cell_blkA (blk_belowA kk u.is) rfl
              have x1 : ∀ u : BwA W1, u.wo.cell? ⟨wr.heap.size, 1, none⟩ = some (strA h) := fun u => cell_blkA (blk_belowA kk u.is) rfl
              have x2 : ∀ u : BwA W1, u.wo.cell? ⟨wr.heap.size, 2, none⟩ = some (.int .i64 r) := fun u => cell_blkA (blk_belowA kk u.is) rfl
              have HFj : Hid (∀ u : BwA W1, Calls Try.prog 22 #[.agg #[strA t, strA h, .int .i64 r], .int .i64 1] u.wo fun e w' => e = .returned (.bool _) ∧ ∃ u' : BwA W1, w' = u'.wo) := fun u => (HFi.out u.wo).mono fun e w' q => ⟨q.1, BwA.of (u.is.trans (q.2.mono u.is.size)), rfl⟩
              have hcu : ∀ u : BwA W1, Below w.heap.size w u.wo := fun u => HBW.out.trans (u.is.mono HBW.out.size)
              have y0 : ∀ u : BwA W1, u.wo.cell? ⟨b, o + j * 3, none⟩ = some (strA t') := fun u => ((hcu u).cell (p := ⟨b, o + j * 3, none⟩) hbw).trans p0
              have y1 : ∀ u : BwA W1, u.wo.cell? ⟨b, o + j * 3 + 1, none⟩ = some (strA h') := fun u => ((hcu u).cell (p := ⟨b, o + j * 3 + 1, none⟩) hbw).trans p1
              have y2 : ∀ u : BwA W1, u.wo.cell? ⟨b, o + j * 3 + 2, none⟩ = some (.int .i64 r') := fun u => ((hcu u).cell (p := ⟨b, o + j * 3 + 2, none⟩) hbw).trans p2
              have HOj : Hid (∀ u : BwA W1, Calls Try.prog 23 #[.agg #[strA t', strA h', .int .i64 r'], .agg #[strA t, strA h, .int .i64 r]] u.wo fun e w' => e = .returned (.int .i64 O) ∧ ∃ u' : BwA W1, w' = u'.wo) := fun u => (HOr.out u.wo).mono fun e w' q => ⟨q.1, BwA.of (u.is.trans (q.2.mono u.is.size)), rfl⟩
              clear hcu p0 p1 p2 HOr
              clear kk HFi HBA HB
              go_wp2
              rw [← hW1]
              refine region_classA (fun w' => ∃ u : BwA W1, w' = u.wo) (by kernel_rfl) (by kernel_rfl) (BwA.first W1) ?_
              haveI := BwA.some W1
              repeat (go_big_quiet_step (first | (go_at_call 22; exact HFj.out _) | (go_at_call 23; exact HOj.out _) | exact rfl))
              refine wpQuiet_nil ?_
              intro w5 hw5
              obtain ⟨u, hu⟩ := hw5
              subst hu
              have HB2 := (show Hid (Below w.heap.size w u.wo) from HBW.out.trans (u.is.mono HBW.out.size))
              clear x0 x1 x2 HFj HBW hW1 y0 y1 y2 HOj
              generalize u.wo = w6 at *
              go_wp2
              exact ⟨⟨j + 1 + 1, by go_num, by omega, HNx2, HB2⟩, by (simp [intOf]) <;> omega⟩
            · have HRR := (show Hid (rightA l = false) from HNo.out (.inr ⟨pv, by omega, hpv, hO⟩))
              have hO2 : 0 ≤ ordL pv g := by omega
              generalize ordL pv g = O at *
              clear HNo HNx hf HC hpv hO
              obtain ⟨t, h, r⟩ := g
              obtain ⟨t', h', r'⟩ := pv
              have HFi : Hid (∀ u, Calls Try.prog 22 #[.agg #[strA t, strA h, .int .i64 r], .int .i64 1] u fun e w' => e = .returned (.bool true) ∧ Below u.heap.size u w') := HFi0
              have HOr : Hid (∀ u, Calls Try.prog 23 #[.agg #[strA t', strA h', .int .i64 r'], .agg #[strA t, strA h, .int .i64 r]] u fun e w' => e = .returned (.int .i64 O) ∧ Below u.heap.size u w') := HOr0
              clear HFi0 HOr0
              obtain ⟨W1, hW1⟩ : ∃ W1, W1 = wr.alloc (.cells #[strA t, strA h, .int .i64 r] 33) := ⟨_, rfl⟩
              have HBW : Hid (Below w.heap.size w W1) := by show Below _ _ _; rw [hW1]; exact HB.out.alloc HB.out.size _
              have kk : W1.heap[wr.heap.size]? = some (.cells #[strA t, strA h, .int .i64 r] 33 (0, 0)) := by rw [hW1]; exact blk_new _ _ _
              have x0 : ∀ u : BwA W1, u.wo.cell? ⟨wr.heap.size, 0, none⟩ = some (strA t) := fun u => cell_blkA (blk_belowA kk u.is) rfl
              have x1 : ∀ u : BwA W1, u.wo.cell? ⟨wr.heap.size, 1, none⟩ = some (strA h) := fun u => cell_blkA (blk_belowA kk u.is) rfl
              have x2 : ∀ u : BwA W1, u.wo.cell? ⟨wr.heap.size, 2, none⟩ = some (.int .i64 r) := fun u => cell_blkA (blk_belowA kk u.is) rfl
              have HFj : Hid (∀ u : BwA W1, Calls Try.prog 22 #[.agg #[strA t, strA h, .int .i64 r], .int .i64 1] u.wo fun e w' => e = .returned (.bool _) ∧ ∃ u' : BwA W1, w' = u'.wo) := fun u => (HFi.out u.wo).mono fun e w' q => ⟨q.1, BwA.of (u.is.trans (q.2.mono u.is.size)), rfl⟩
              have hcu : ∀ u : BwA W1, Below w.heap.size w u.wo := fun u => HBW.out.trans (u.is.mono HBW.out.size)
              have y0 : ∀ u : BwA W1, u.wo.cell? ⟨b, o + j * 3, none⟩ = some (strA t') := fun u => ((hcu u).cell (p := ⟨b, o + j * 3, none⟩) hbw).trans p0
              have y1 : ∀ u : BwA W1, u.wo.cell? ⟨b, o + j * 3 + 1, none⟩ = some (strA h') := fun u => ((hcu u).cell (p := ⟨b, o + j * 3 + 1, none⟩) hbw).trans p1
              have y2 : ∀ u : BwA W1, u.wo.cell? ⟨b, o + j * 3 + 2, none⟩ = some (.int .i64 r') := fun u => ((hcu u).cell (p := ⟨b, o + j * 3 + 2, none⟩) hbw).trans p2
              have HOj : Hid (∀ u : BwA W1, Calls Try.prog 23 #[.agg #[strA t', strA h', .int .i64 r'], .agg #[strA t, strA h, .int .i64 r]] u.wo fun e w' => e = .returned (.int .i64 O) ∧ ∃ u' : BwA W1, w' = u'.wo) := fun u => (HOr.out u.wo).mono fun e w' q => ⟨q.1, BwA.of (u.is.trans (q.2.mono u.is.size)), rfl⟩
              clear hcu p0 p1 p2 HOr
              clear kk HFi HBA HB
              go_wp2
              rw [← hW1]
              refine region_classA (fun w' => ∃ u : BwA W1, w' = u.wo) (by kernel_rfl) (by kernel_rfl) (BwA.first W1) ?_
              haveI := BwA.some W1
              repeat (go_big_quiet_step (first | (go_at_call 22; exact HFj.out _) | (go_at_call 23; exact HOj.out _) | exact rfl))
              refine wpQuiet_nil ?_
              intro w5 hw5
              obtain ⟨u, hu⟩ := hw5
              subst hu
              have HB2 := (show Hid (Below w.heap.size w u.wo) from HBW.out.trans (u.is.mono HBW.out.size))
              clear x0 x1 x2 HFj HBW hW1 y0 y1 y2 HOj
              generalize u.wo = w6 at *
              go_wp2
              go_ret
              exact ⟨ret_bool HRR.out.symm, HB2.out⟩
      · have hlt1 : ¬ (k : Int) < (l.length : Int) := by omega
        have hkl : k = l.length := by omega
        have HRR := (show Hid (rightA l = true) from right_all (by omega) (by rw [← hkl]; exact HP.out))
        clear hkl HC HLe
        go_wp2
        go_ret
        exact ⟨ret_bool HRR.out.symm, HB.out⟩
end Go.Proofs.Ytocfdpjclmieiaa
