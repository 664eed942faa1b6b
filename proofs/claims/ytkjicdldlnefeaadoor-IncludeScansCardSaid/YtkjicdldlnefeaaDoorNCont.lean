/- slices.Contains at texts and at Refs; walked. -/
import Derived.Test.YtkjicdldlnefeaaDoorNScan
set_option linter.unusedVariables false
namespace Go.Proofs.YtkjicdldlnefeaaDoor
open Go.RowKit

/-- A row of texts in memory. -/
def StrsN (w : World) (v : Value) (l : List StrA) : Prop := ∃ a cap, v = .slice a l.length cap ∧ ∀ i s, l[i]? = some s → ∃ b o, a = some ⟨b, o, none⟩ ∧ b < w.heap.size ∧ w.cell? ⟨b, o + i, none⟩ = some (strA s)
theorem StrsN.below {w w' : World} {v : Value} {l : List StrA} (h : StrsN w v l) (hb : Below w.heap.size w w') : StrsN w' v l := by
  obtain ⟨a, cap, rfl, hc⟩ := h
  refine ⟨a, cap, rfl, fun i s hs => ?_⟩
  obtain ⟨b, o, e, hbw, q⟩ := hc i s hs
  exact ⟨b, o, e, Nat.lt_of_lt_of_le hbw hb.size, (hb.cell (p := ⟨b, o + i, none⟩) hbw).trans q⟩
/-- A row of Refs in memory. -/
def RfsN (w : World) (v : Value) (l : List RfA) : Prop := ∃ a cap, v = .slice a l.length cap ∧ ∀ i r, l[i]? = some r → ∃ b o, a = some ⟨b, o, none⟩ ∧ b < w.heap.size ∧ w.cell? ⟨b, o + i * 3, none⟩ = some (strA r.tenant) ∧ w.cell? ⟨b, o + i * 3 + 1, none⟩ = some (strA r.doc) ∧ w.cell? ⟨b, o + i * 3 + 2, none⟩ = some (.int .i64 r.ver)
theorem RfsN.below {w w' : World} {v : Value} {l : List RfA} (h : RfsN w v l) (hb : Below w.heap.size w w') : RfsN w' v l := by
  obtain ⟨a, cap, rfl, hc⟩ := h
  refine ⟨a, cap, rfl, fun i s hs => ?_⟩
  obtain ⟨b, o, e, hbw, q0, q1, q2⟩ := hc i s hs
  exact ⟨b, o, e, Nat.lt_of_lt_of_le hbw hb.size, (hb.cell (p := ⟨b, o + i * 3, none⟩) hbw).trans q0, (hb.cell (p := ⟨b, o + i * 3 + 1, none⟩) hbw).trans q1, (hb.cell (p := ⟨b, o + i * 3 + 2, none⟩) hbw).trans q2⟩
theorem below_drewM {B : Nat} {w0 w : World} (h : Below B w0 w) : Below B w0 w.drew := h.trans ⟨rfl, rfl, rfl, Nat.le_refl _, fun k hk => rfl⟩

theorem hasS_next {l : List StrA} {k : Nat} {s x : StrA} (hs : l[k]? = some s) (h : hasS (l.take k) x = false) : hasS (l.take (k + 1)) x = (s == x) := by
  unfold hasS at h ⊢
  rw [List.take_add_one, hs, List.any_append, h]
  simp
theorem hasS_hit {l : List StrA} {k : Nat} {s x : StrA} (hs : l[k]? = some s) (h : (s == x) = true) : hasS l x = true := by
  unfold hasS
  rw [List.any_eq_true]
  exact ⟨s, List.mem_of_getElem? hs, h⟩
set_option maxHeartbeats 4000000 in
theorem nidxS_any (l : List StrA) (x : StrA) (hl : l.length ≤ 9223372036854775000) (v : Value) (w : World) (hv : StrsN w v l) : Calls Tryd.prog 73 #[v, strA x] w fun e w' => (∃ z, e = .returned (.int .i64 z) ∧ decide (0 ≤ z) = hasS l x) ∧ w' = w := by
  obtain ⟨a, cap, rfl, hc⟩ := hv
  have HC := (show Hid (∀ i s, l[i]? = some s → ∃ b o, a = some ⟨b, o, none⟩ ∧ b < w.heap.size ∧ w.cell? ⟨b, o + i, none⟩ = some (strA s)) from hc)
  have hli : (l.length : Int) ≤ 9223372036854775000 := by omega
  clear hc
  go_enter Tryd.func73, Tryd.ntmps73
  go_wp2
  go_loopw [8] (fun i wr => ∃ k : Nat, i = .int .i64 (k : Int) ∧ k ≤ l.length ∧ Hid (hasS (l.take k) x = false) ∧ wr = w) (fun i _ => l.length - (intOf i).toNat)
  case atStart => exact ⟨0, rfl, Nat.zero_le _, (by show _ = _; rw [List.take_zero]; rfl), rfl⟩
  case round =>
    obtain ⟨k, rfl, hk, HA, hw⟩ := hrel
    subst hw
    by_cases hlt : k < l.length
    · have hlt1 : (k : Int) < (l.length : Int) := by omega
      obtain ⟨s, hs⟩ : ∃ s, l[k]? = some s := ⟨_, List.getElem?_eq_getElem hlt⟩
      obtain ⟨b, o, ha, hb, p0⟩ := HC.out k s hs
      subst ha
      have HN := (show Hid (hasS (l.take (k + 1)) x = (s == x)) from hasS_next hs HA.out)
      have HH := (show Hid ((s == x) = true → hasS l x = true) from hasS_hit hs)
      have hsw : (x == s) = (s == x) := by rw [Bool.eq_iff_iff]; simp; exact eq_comm
      clear HA HC hs
      cases hq : (s == x)
      · rw [hq] at HN hsw
        clear hq HH
        go_wp2
        go_roundw
        case rel => exact ⟨k + 1, by go_num, by omega, HN, by first | rfl | trivial⟩
        case measure => (simp [intOf]) <;> omega
      · rw [hq] at hsw
        have HF := (show Hid (hasS l x = true) from HH.out hq)
        clear hq HH HN
        go_wp2
        go_ret
        refine ⟨⟨(k : Int), rfl, ?_⟩, rfl⟩
        rw [HF.out]
        simp
    · have hlt1 : ¬ (k : Int) < (l.length : Int) := by omega
      obtain rfl : k = l.length := by omega
      have HF : Hid (hasS l x = false) := by have := HA.out; rw [List.take_of_length_le (Nat.le_refl _)] at this; exact this
      clear HA HC
      go_wp2
      go_ret
      refine ⟨⟨-1, rfl, ?_⟩, rfl⟩
      rw [HF.out]
      decide
theorem ncontS_any (l : List StrA) (x : StrA) (hl : l.length ≤ 9223372036854775000) (v : Value) (w : World) (hv : StrsN w v l) : Calls Tryd.prog 59 #[v, strA x] w fun e w' => e = .returned (.bool (hasS l x)) ∧ w' = w := by
  have HI := (show Hid _ from nidxS_any l x hl v w hv)
  obtain ⟨a, cap, rfl, hc⟩ := hv
  clear hc
  go_enter Tryd.func59, Tryd.ntmps59
  go_wp2_with (go_at_call 73; refine Calls.mono HI.out ?_; rintro e w1 ⟨⟨z, rfl, hz⟩, hw⟩; subst hw; have HZ := (show Hid (decide (0 ≤ z) = hasS l x) from hz); clear hz)
  go_ret
  exact ⟨by rw [← HZ.out]; rfl, rfl⟩

theorem hasR_next {l : List RfA} {k : Nat} {s x : RfA} (hs : l[k]? = some s) (h : hasR (l.take k) x = false) : hasR (l.take (k + 1)) x = eqR s x := by
  unfold hasR at h ⊢
  rw [List.take_add_one, hs, List.any_append, h]
  simp
theorem hasR_hit {l : List RfA} {k : Nat} {s x : RfA} (hs : l[k]? = some s) (h : eqR s x = true) : hasR l x = true := by
  unfold hasR
  rw [List.any_eq_true]
  exact ⟨s, List.mem_of_getElem? hs, h⟩
set_option maxHeartbeats 4000000 in
theorem nidxR_any (l : List RfA) (x : RfA) (hl : l.length ≤ 9223372036854775000) (v : Value) (w : World) (hv : RfsN w v l) : Calls Tryd.prog 75 #[v, aggR x] w fun e w' => (∃ z, e = .returned (.int .i64 z) ∧ decide (0 ≤ z) = hasR l x) ∧ Below w.heap.size w w' := by
  obtain ⟨a, cap, rfl, hc⟩ := hv
  have HC := (show Hid (∀ i r, l[i]? = some r → ∃ b o, a = some ⟨b, o, none⟩ ∧ b < w.heap.size ∧ w.cell? ⟨b, o + i * 3, none⟩ = some (strA r.tenant) ∧ w.cell? ⟨b, o + i * 3 + 1, none⟩ = some (strA r.doc) ∧ w.cell? ⟨b, o + i * 3 + 2, none⟩ = some (.int .i64 r.ver)) from hc)
  have hli : (l.length : Int) ≤ 9223372036854775000 := by omega
  obtain ⟨x0, hx0⟩ : ∃ x0, x0 = x := ⟨_, rfl⟩
  rw [← hx0]
  obtain ⟨t, d, r⟩ := x
  rw [hx0]
  show Calls Tryd.prog 75 #[.slice a l.length cap, .agg #[strA t, strA d, .int .i64 r]] w fun e w' => (∃ z, e = .returned (.int .i64 z) ∧ decide (0 ≤ z) = hasR l ⟨t, d, r⟩) ∧ Below w.heap.size w w'
  rw [← hx0]
  have HX0 := (show Hid (x0 = ⟨t, d, r⟩) from hx0)
  obtain ⟨W, hW⟩ : ∃ W, W = w.alloc (.cells #[strA t, strA d, .int .i64 r] 24) := ⟨_, rfl⟩
  have HA1 : Hid (Below w.heap.size w W) := by show Below _ _ _; rw [hW]; exact (Below.refl _ _).alloc (Nat.le_refl _) _
  have HKB : Hid (W.heap[w.heap.size]? = some (.cells #[strA t, strA d, .int .i64 r] 24 (0, 0))) := by show _ = _; rw [hW]; exact blk_newN _ _ _
  clear hc hx0
  go_enter Tryd.func75, Tryd.ntmps75
  go_wp2
  rw [← hW]
  go_loopw [8] (fun i wr => ∃ k : Nat, i = .int .i64 (k : Int) ∧ k ≤ l.length ∧ Hid (hasR (l.take k) x0 = false) ∧ Hid (Below W.heap.size W wr)) (fun i _ => l.length - (intOf i).toNat)
  case atStart => exact ⟨0, rfl, Nat.zero_le _, (by show _ = _; rw [List.take_zero]; rfl), Below.refl _ _⟩
  case round =>
    obtain ⟨k, rfl, hk, HA, HB⟩ := hrel
    have HBw := (show Hid (Below w.heap.size w wr) from HA1.out.trans (HB.out.mono HA1.out.size))
    by_cases hlt : k < l.length
    · have hlt1 : (k : Int) < (l.length : Int) := by omega
      obtain ⟨s, hs⟩ : ∃ s, l[k]? = some s := ⟨_, List.getElem?_eq_getElem hlt⟩
      obtain ⟨b, o, ha, hb, p0, p1, p2⟩ := HC.out k s hs
      subst ha
      have HN := (show Hid (hasR (l.take (k + 1)) x0 = eqR s x0) from hasR_next hs HA.out)
      have HH := (show Hid (eqR s x0 = true → hasR l x0 = true) from hasR_hit hs)
      have d0 : wr.drew.cell? ⟨b, o + k * 3, none⟩ = some (strA s.tenant) := (HBw.out.cell (p := ⟨b, o + k * 3, none⟩) hb).trans p0
      have d1 : wr.drew.cell? ⟨b, o + k * 3 + 1, none⟩ = some (strA s.doc) := (HBw.out.cell (p := ⟨b, o + k * 3 + 1, none⟩) hb).trans p1
      have d2 : wr.drew.cell? ⟨b, o + k * 3 + 2, none⟩ = some (.int .i64 s.ver) := (HBw.out.cell (p := ⟨b, o + k * 3 + 2, none⟩) hb).trans p2
      have hkk := blk_belowN HKB.out HB.out
      have g0 : wr.drew.cell? ⟨w.heap.size, 0, none⟩ = some (strA t) := cell_blkN hkk (i := 0) rfl
      have g1 : wr.drew.cell? ⟨w.heap.size, 1, none⟩ = some (strA d) := cell_blkN hkk (i := 1) rfl
      have g2 : wr.drew.cell? ⟨w.heap.size, 2, none⟩ = some (.int .i64 r) := cell_blkN hkk (i := 2) rfl
      have HEq : Hid (eqR s x0 = ((t == s.tenant) && (d == s.doc) && (r == s.ver))) := by
        show _ = _
        rw [HX0.out]
        unfold eqR
        rw [show (s.tenant == t) = (t == s.tenant) by rw [Bool.eq_iff_iff]; simp; exact eq_comm, show (s.doc == d) = (d == s.doc) by rw [Bool.eq_iff_iff]; simp; exact eq_comm, show (s.ver == r) = (r == s.ver) by rw [Bool.eq_iff_iff]; simp; exact eq_comm]
      clear HA HC hs p0 p1 p2 hkk HBw HX0 hW
      obtain ⟨st, sd, sv⟩ := s
      simp only at d0 d1 d2 HEq
      generalize eqR ⟨st, sd, sv⟩ x0 = EQ at *
      have hsplit : ∃ q1 q2 q3, (t == st) = q1 ∧ (d == sd) = q2 ∧ (r == sv) = q3 := ⟨_, _, _, rfl, rfl, rfl⟩
      obtain ⟨q1, q2, q3, e1, e2, e3⟩ := hsplit
      rw [e1, e2, e3] at HEq
      cases hq : (q1 && q2 && q3)
      · rw [hq] at HEq
        rw [HEq.out] at HN
        have h3 : q1 = false ∨ (q1 = true ∧ q2 = false) ∨ (q1 = true ∧ q2 = true ∧ q3 = false) := by revert hq; cases q1 <;> cases q2 <;> cases q3 <;> simp
        clear HEq HH hq
        rcases h3 with rfl | ⟨rfl, rfl⟩ | ⟨rfl, rfl, rfl⟩
        all_goals
          go_wp2
          go_region
          all_goals (go_wp2_with fail)
          all_goals exact ⟨⟨k + 1, by go_num, by omega, HN, below_drewM HB.out⟩, by (simp [intOf]) <;> omega⟩
      · rw [hq] at HEq
        have HF := (show Hid (hasR l x0 = true) from HH.out HEq.out)
        have HBf := (show Hid (Below w.heap.size w wr.drew) from below_drewM (HA1.out.trans (HB.out.mono HA1.out.size)))
        have h3 : q1 = true ∧ q2 = true ∧ q3 = true := by revert hq; cases q1 <;> cases q2 <;> cases q3 <;> simp
        obtain ⟨rfl, rfl, rfl⟩ := h3
        clear HEq HH HN HB HA1 HKB hq
        go_wp2
        go_region
        all_goals (go_wp2_with fail)
        all_goals go_ret
        all_goals exact ⟨⟨(k : Int), rfl, by rw [HF.out]; simp⟩, HBf.out⟩
    · have hlt1 : ¬ (k : Int) < (l.length : Int) := by omega
      obtain rfl : k = l.length := by omega
      have HF : Hid (hasR l x0 = false) := by have := HA.out; rw [List.take_of_length_le (Nat.le_refl _)] at this; exact this
      clear HA HC HB hW
      go_wp2
      go_ret
      refine ⟨⟨-1, rfl, ?_⟩, HBw.out⟩
      rw [HF.out]
      decide
theorem ncontR_any (l : List RfA) (x : RfA) (hl : l.length ≤ 9223372036854775000) (v : Value) (w : World) (hv : RfsN w v l) : Calls Tryd.prog 61 #[v, aggR x] w fun e w' => e = .returned (.bool (hasR l x)) ∧ Below w.heap.size w w' := by
  have HA1 : Hid (∀ o, Below w.heap.size w (w.alloc o)) := fun o => (Below.refl _ _).alloc (Nat.le_refl _) _
  have HI0 : Hid (∀ u, Below w.heap.size w u → Calls Tryd.prog 75 #[v, aggR x] u fun e w' => (∃ z, e = .returned (.int .i64 z) ∧ decide (0 ≤ z) = hasR l x) ∧ Below u.heap.size u w') := fun u hu => nidxR_any l x hl v u (hv.below hu)
  obtain ⟨a, cap, rfl, hc⟩ := hv
  generalize hasR l x = H at *
  obtain ⟨t, d, r⟩ := x
  have HI : Hid (∀ u, Below w.heap.size w u → Calls Tryd.prog 75 #[.slice a l.length cap, .agg #[strA t, strA d, .int .i64 r]] u fun e w' => (∃ z, e = .returned (.int .i64 z) ∧ decide (0 ≤ z) = H) ∧ Below u.heap.size u w') := HI0
  clear hc HI0
  show Calls Tryd.prog 61 #[.slice a l.length cap, .agg #[strA t, strA d, .int .i64 r]] w fun e w' => e = .returned (.bool H) ∧ Below w.heap.size w w'
  go_enter Tryd.func61, Tryd.ntmps61
  go_wp2_with (go_at_call 75; refine Calls.mono (HI.out _ (HA1.out _)) ?_)
  rintro e w1 ⟨⟨z, rfl, hz⟩, hb1⟩
  have HB1 := (show Hid (Below w.heap.size w w1) from (HA1.out _).trans (hb1.mono (HA1.out _).size))
  have HZ := (show Hid (decide (0 ≤ z) = H) from hz)
  clear hz hb1 HI HA1
  go_wp2
  go_ret
  exact ⟨by rw [← HZ.out]; rfl, HB1.out⟩
end Go.Proofs.YtkjicdldlnefeaaDoor
