/- Who of the document's answer (layer 11); walked. -/
import Derived.Test.YtocfdpjclmieiaaXName
set_option linter.unusedVariables false
namespace Go.Proofs.Ytocfdpjclmieiaa
open Go.RowKit

theorem tw_at : ∀ (l : StrA) (k : Nat), (∀ i c, i < k → l[i]? = some c → c ≠ 47) → l[k]? = some 47 → l.takeWhile (· != 47) = l.take k
  | [], k, _, h => by cases h
  | b :: r, 0, _, h => by
    have : b = 47 := by simpa using h
    subst this
    rfl
  | b :: r, k + 1, hp, h => by
    have hb : b ≠ 47 := hp 0 b (by omega) rfl
    rw [List.takeWhile_cons_of_pos (by simpa using hb), List.take_succ_cons, tw_at r k (fun i c hi hc => hp (i + 1) c (by omega) (by simpa using hc)) (by simpa using h)]
theorem tw_none : ∀ (l : StrA), (∀ i c, i < l.length → l[i]? = some c → c ≠ 47) → l.takeWhile (· != 47) = l
  | [], _ => rfl
  | b :: r, hp => by
    have hb : b ≠ 47 := hp 0 b (by simp) rfl
    rw [List.takeWhile_cons_of_pos (by simpa using hb), tw_none r (fun i c hi hc => hp (i + 1) c (by simp; omega) (by simpa using hc))]
theorem cut_at {l : StrA} {k : Nat} (h : ∀ i c, i < k → l[i]? = some c → c ≠ 47) (hk : l[k]? = some 47) : cutA l = (l.take k, l.drop (k + 1)) := by
  have hlt := (List.getElem?_eq_some_iff.1 hk).1
  unfold cutA
  rw [tw_at l k h hk, List.length_take, Nat.min_eq_left (by omega), List.drop_drop]
theorem cut_none {l : StrA} (h : ∀ i c, i < l.length → l[i]? = some c → c ≠ 47) : whoT l = ([], [], false) := by
  rw [whoT_is]
  have : cutA l = (l, []) := by unfold cutA; rw [tw_none l h]; simp
  rw [this, if_neg (by rintro ⟨_, q⟩; exact absurd q (show ¬ nameA [] = true by decide))]

set_option maxHeartbeats 4000000 in
set_option maxRecDepth 8000 in
theorem xwho_any (l : StrA) (hll : l.length ≤ 9223372036854775000) (w : World) : Calls Try.prog 7 #[strA l] w fun e w' => e = .returned (.tuple #[strA (whoT l).1, strA (whoT l).2.1, .bool (whoT l).2.2]) ∧ Below w.heap.size w w' := by
  have hli : (l.length : Int) ≤ 9223372036854775000 := by omega
  go_enter Try.func7, Try.ntmps7
  go_wp2
  go_loopw [5] (fun i wr => ∃ k : Nat, i = .int .i64 (k : Int) ∧ k ≤ l.length ∧ Hid (∀ i c, i < k → l[i]? = some c → c ≠ 47) ∧ Hid (Below w.heap.size w wr)) (fun i _ => l.length - (intOf i).toNat)
  case atStart => exact ⟨0, rfl, Nat.zero_le _, (fun i c h => absurd h (Nat.not_lt_zero _)), Below.refl _ _⟩
  case round =>
    obtain ⟨k, rfl, hk, HA, HB⟩ := hrel
    by_cases hlt : k < l.length
    · have hlt1 : (k : Int) < (l.length : Int) := by omega
      obtain ⟨z, hz⟩ : ∃ z, l[k]? = some z := ⟨_, List.getElem?_eq_getElem hlt⟩
      have hsz : k < (ByteArray.mk l.toArray).size := by rw [size_list]; exact hlt
      have hby : (ByteArray.mk l.toArray)[k]'hsz = z := by
        rw [byte_at, list_data, List.getD_eq_getElem?_getD, hz]
        rfl
      by_cases h47 : z = 47
      · subst h47
        have HW : Hid (whoT l = if nameA (l.take k) = true ∧ nameA (l.drop (k + 1)) = true then (l.take k, l.drop (k + 1), true) else ([], [], false)) := by show _ = _; rw [whoT_is, cut_at HA.out hz]
        have e1 : (ByteArray.mk l.toArray).extract 0 k = ⟨(l.take k).toArray⟩ := by rw [extract_eq, list_data]; simp
        have e2 : (ByteArray.mk l.toArray).extract (k + 1) (ByteArray.mk l.toArray).size = ⟨(l.drop (k + 1)).toArray⟩ := by rw [extract_end, list_data]
        have H1 : Hid (∀ u, Calls Try.prog 20 #[.string ((ByteArray.mk l.toArray).extract 0 k)] u fun e w' => e = .returned (.bool (nameA (l.take k))) ∧ Below u.heap.size u w') := fun u => by rw [e1]; exact xname_any _ (by rw [List.length_take]; omega) u
        have H2 : Hid (∀ u, Calls Try.prog 20 #[.string ((ByteArray.mk l.toArray).extract (k + 1) (ByteArray.mk l.toArray).size)] u fun e w' => e = .returned (.bool (nameA (l.drop (k + 1)))) ∧ Below u.heap.size u w') := fun u => by rw [e2]; exact xname_any _ (by rw [List.length_drop]; omega) u
        have E1 := (show Hid ((ByteArray.mk l.toArray).extract 0 k = ⟨(l.take k).toArray⟩) from e1)
        have E2 := (show Hid ((ByteArray.mk l.toArray).extract (k + 1) (ByteArray.mk l.toArray).size = ⟨(l.drop (k + 1)).toArray⟩) from e2)
        have hs1 : ((ByteArray.mk l.toArray).size : Int) = (l.length : Int) := by rw [size_list]
        clear e1 e2 hz HA
        generalize nameA (l.take k) = n1 at *
        generalize nameA (l.drop (k + 1)) = n2 at *
        go_wp2_with (go_at_call 20; refine Calls.mono (H1.out _) ?_)
        rintro e u1 ⟨rfl, hb1⟩
        have HB1 := (show Hid (Below w.heap.size w u1) from HB.out.trans (hb1.mono HB.out.size))
        clear hb1 H1
        go_wp2_with (go_at_call 20; refine Calls.mono (H2.out _) ?_)
        rintro e u2 ⟨rfl, hb2⟩
        have HB2 := (show Hid (Below w.heap.size w u2) from HB1.out.trans (hb2.mono HB1.out.size))
        clear hb2 H2
        cases n1
        · have HR : Hid (whoT l = ([], [], false)) := by show _ = _; rw [HW.out]; simp
          clear HW
          go_wp2
          go_ret3
          exact ⟨by rw [HR.out]; rfl, HB2.out⟩
        · cases n2
          · have HR : Hid (whoT l = ([], [], false)) := by show _ = _; rw [HW.out]; simp
            clear HW
            go_wp2
            go_ret3
            exact ⟨by rw [HR.out]; rfl, HB2.out⟩
          · have HR : Hid (whoT l = (l.take k, l.drop (k + 1), true)) := by show _ = _; rw [HW.out]; simp
            clear HW
            have c1 : (0 : Int) ≤ (k : Int) := by omega
            have c2 : (k : Int) ≤ (((ByteArray.mk l.toArray).size : Nat) : Int) := by omega
            have c3 : (0 : Int) ≤ (k : Int) + 1 := by omega
            have c4 : (k : Int) + 1 ≤ (((ByteArray.mk l.toArray).size : Nat) : Int) := by omega
            go_wp2
            go_region
            go_wp2
            go_ret3
            refine ⟨Eq.trans (b := Ending.returned (.tuple #[.string ((ByteArray.mk l.toArray).extract 0 k), .string ((ByteArray.mk l.toArray).extract (k + 1) (ByteArray.mk l.toArray).size), .bool true])) rfl ?_, below_drewA HB2.out⟩
            rw [E1.out, E2.out, HR.out]
      · have hzn : ((z.toNat : Int) == 47) = false := by rw [beq_eq_false_iff_ne]; intro h; exact h47 (UInt8.toNat_inj.1 (by have : (47 : UInt8).toNat = 47 := rfl; omega))
        have hzn2 : ((z.toNat : Int) != 47) = true := by simpa using hzn
        have HP : Hid (∀ i c, i < k + 1 → l[i]? = some c → c ≠ 47) := fun i c hi hc => by
          rcases Nat.lt_or_ge i k with h2 | h2
          · exact HA.out i c h2 hc
          · have : i = k := by omega
            subst this
            rw [hz] at hc
            cases hc
            exact h47
        clear hz HA h47
        go_wp2
        go_roundw
        case rel => exact ⟨k + 1, by go_num, by omega, HP, HB⟩
        case measure => (simp [intOf]) <;> omega
    · have hlt1 : ¬ (k : Int) < (l.length : Int) := by omega
      obtain rfl : k = l.length := by omega
      have HR : Hid (whoT l = ([], [], false)) := cut_none HA.out
      clear HA
      go_wp2
      go_ret3
      exact ⟨by rw [HR.out]; rfl, HB.out⟩
end Go.Proofs.Ytocfdpjclmieiaa
