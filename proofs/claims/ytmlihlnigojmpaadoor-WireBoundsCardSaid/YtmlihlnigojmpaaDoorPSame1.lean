/- Are two groups the same: walked. -/
import Derived.Test.YtmlihlnigojmpaaDoorPMay2
import Derived.BigQuiet
import Derived.Deep.QuietTactic
set_option linter.unusedVariables false
namespace Go.Proofs.YtmlihlnigojmpaaDoor
open Go.RowKit

set_option maxHeartbeats 8000000 in
set_option maxRecDepth 40000 in
theorem sameNodes_any {w : World} {a b : Option Addr} {n m c d : Nat} {zs ys : List Int} (h : NRow w a zs) (k : NRow w b ys) (hn : zs.length = n) (hm : ys.length = m) (hn2 : n ≤ 140737488355328) (hm2 : m ≤ 140737488355328) :
    Calls Tryd.prog 61 #[.slice a n c, .slice b m d] w fun e w' => e = .returned (.bool (decide (zs = ys))) ∧ Below w.heap.size w w' := by
  obtain ⟨R, hR⟩ : ∃ R, decide (zs = ys) = R := ⟨_, rfl⟩
  rw [hR]
  have bn : (n : Int) ≤ 140737488355328 := by omega
  have bm : (m : Int) ≤ 140737488355328 := by omega
  by_cases hnm : n = m
  · subst hnm
    have HZ : Hid (NRow w a zs ∧ NRow w b ys ∧ zs.length = n ∧ ys.length = n ∧ decide (zs = ys) = R) := ⟨h, k, hn, hm, hR⟩
    clear h k hn hm hn2 hm2 hR
    go_enter Tryd.func61, Tryd.ntmps61
    go_wp2_with fail
    go_loopw [5] (fun i wr => ∃ (j : Nat), i = .int .i64 (j : Int) ∧ j ≤ n ∧ Hid (zs.take j = ys.take j) ∧ Hid (Below w.heap.size w wr)) (fun i _ => n - (intOf i).toNat)
    case atStart => exact ⟨0, rfl, Nat.zero_le _, by simp [Hid], Below.refl _ _⟩
    case round =>
      obtain ⟨j, rfl, hj, HG, HB⟩ := hrel
      by_cases hlt : j < n
      · obtain ⟨z, hz⟩ : ∃ z, zs[j]? = some z := ⟨zs[j]'(by have := HZ.out; omega), List.getElem?_eq_getElem _⟩
        obtain ⟨y, hy⟩ : ∃ y, ys[j]? = some y := ⟨ys[j]'(by have := HZ.out; omega), List.getElem?_eq_getElem _⟩
        obtain ⟨g, o, hx, hc⟩ := (HZ.out.1.below HB.out) j z hz
        obtain ⟨g2, o2, hx2, hc2⟩ := (HZ.out.2.1.below HB.out) j y hy
        subst hx
        subst hx2
        have hwb := HB.out
        by_cases he : z = y
        · have q1 : (z != y) = false := by simp [he]
          have HG2 : Hid (zs.take (j + 1) = ys.take (j + 1)) := by
            show _ = _
            have h1 := (List.getElem?_eq_some_iff.1 hz)
            have h2 := (List.getElem?_eq_some_iff.1 hy)
            rw [List.take_succ_eq_append_getElem h1.1, List.take_succ_eq_append_getElem h2.1, HG.out, h1.2, h2.2, he]
          clear hz hy he HG
          go_wp2_with fail
          go_quiet (fail)
          go_wp2_with fail
          go_roundw
          case rel => exact ⟨j + 1, by first | rfl | go_num, by omega, HG2, hwb.trans ⟨rfl, rfl, rfl, Nat.le_refl _, fun _ _ => rfl⟩⟩
          case measure => simp [intOf]; omega
        · have q1 : (z != y) = true := by simp [he]
          have HF : Hid (R = false) := by
            show R = false
            rw [← HZ.out.2.2.2.2]
            simp
            intro e
            rw [e, hy] at hz
            exact he (Option.some.inj hz).symm
          clear hz hy he HG
          go_wp2_with fail
          go_quiet (fail)
          go_wp2_with fail
          go_ret
          exact ⟨by rw [HF.out]; rfl, hwb.trans ⟨rfl, rfl, rfl, Nat.le_refl _, fun _ _ => rfl⟩⟩
      · have hjn : j = n := by omega
        subst hjn
        have HF : Hid (R = true) := by
          show R = true
          rw [← HZ.out.2.2.2.2]
          have h1 := HG.out
          rw [List.take_of_length_le (by have := HZ.out; omega), List.take_of_length_le (by have := HZ.out; omega)] at h1
          simp [h1]
        clear HG
        go_wp2_with fail
        go_ret
        exact ⟨by rw [HF.out]; rfl, HB.out⟩
  · have q1 : ((n : Int) != (m : Int)) = true := by simp; omega
    have HF : Hid (R = false) := by
      show R = false
      rw [← hR]
      simp
      intro e
      rw [e, hm] at hn
      exact hnm hn.symm
    clear hR h k hn hm hn2 hm2
    go_enter Tryd.func61, Tryd.ntmps61
    go_wp2_with fail
    go_ret
    exact ⟨by rw [HF.out]; rfl, Below.refl _ _⟩
end Go.Proofs.YtmlihlnigojmpaaDoor
