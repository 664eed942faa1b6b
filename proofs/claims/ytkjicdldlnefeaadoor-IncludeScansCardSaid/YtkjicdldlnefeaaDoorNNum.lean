/- number (include); walked. -/
import Derived.Test.YtkjicdldlnefeaaDoorNCut
set_option linter.unusedVariables false
namespace Go.Proofs.YtkjicdldlnefeaaDoor
open Go.RowKit

theorem numV_next (l : StrA) {k : Nat} {z : UInt8} (hz : l[k]? = some z) : numV 0 (l.take (k + 1)) = 10 * numV 0 (l.take k) + ((z.toNat : Int) - 48) := by
  unfold numV
  rw [List.take_add_one, hz, List.foldl_append]
  rfl
theorem digA_iff {z : UInt8} : digA z = true ↔ 48 ≤ z.toNat ∧ z.toNat ≤ 57 := by unfold digA; simp
theorem numV_bound : ∀ (k : Nat) (l : StrA), (l.take k).all digA = true → 0 ≤ numV 0 (l.take k) ∧ numV 0 (l.take k) + 1 ≤ (10 ^ k : Nat)
  | 0, l, _ => by rw [List.take_zero]; exact ⟨Int.le_refl _, by decide⟩
  | k + 1, l, h => by
    rcases Nat.lt_or_ge k l.length with hk | hk
    · have hz : l[k]? = some l[k] := List.getElem?_eq_getElem hk
      rw [List.take_add_one, hz, List.all_append] at h
      simp only [Bool.and_eq_true] at h
      obtain ⟨i1, i2⟩ := numV_bound k l h.1
      have hd : digA l[k] = true := by simpa using h.2
      have hd2 := digA_iff.1 hd
      rw [numV_next l hz, Nat.pow_succ]
      refine ⟨by omega, ?_⟩
      push_cast at i2 ⊢
      omega
    · rw [List.take_of_length_le (by omega)] at h ⊢
      have h2 : (l.take k).all digA = true := by rw [List.take_of_length_le hk]; exact h
      obtain ⟨i1, i2⟩ := numV_bound k l h2
      rw [List.take_of_length_le hk] at i1 i2
      refine ⟨i1, ?_⟩
      have : 10 ^ k ≤ 10 ^ (k + 1) := Nat.pow_le_pow_right (by decide) (by omega)
      omega
theorem numV_small {l : StrA} {k : Nat} (hk : k ≤ 6) (h : (l.take k).all digA = true) : 0 ≤ numV 0 (l.take k) ∧ numV 0 (l.take k) ≤ 999999 := by
  obtain ⟨h1, h2⟩ := numV_bound k l h
  have : 10 ^ k ≤ 10 ^ 6 := Nat.pow_le_pow_right (by decide) hk
  omega

set_option maxHeartbeats 4000000 in
set_option maxRecDepth 8000 in
theorem nnumber_any (s : StrA) (w : World) : Calls Tryd.prog 24 #[strA s] w fun e w' => e = .returned (.tuple #[.int .i64 (numberA s).1, .bool (numberA s).2]) ∧ w' = w := by
  cases s with
  | nil =>
    go_enter Tryd.func24, Tryd.ntmps24
    go_wp2
    go_ret2
    exact ⟨rfl, rfl⟩
  | cons a r =>
    obtain ⟨l, hl⟩ : ∃ l, l = a :: r := ⟨_, rfl⟩
    rw [← hl]
    have h1 : 1 ≤ l.length := by rw [hl, List.length_cons]; omega
    have hne : (l == []) = false := by rw [hl]; rfl
    have hg0 : l.getD 0 0 = a := by rw [hl]; rfl
    have hby0 : (ByteArray.mk l.toArray)[0]'(by rw [size_list]; omega) = a := by rw [byte_at, list_data, hg0]
    have hne2 : l ≠ [] := by rw [hl]; simp
    clear hl
    by_cases h6 : 6 < l.length
    · have hi : (6 : Int) < (l.length : Int) := by omega
      have HR : Hid (numberA l = (0, false)) := by show _ = _; unfold numberA; rw [if_pos (.inr (.inl h6))]
      clear hg0
      go_enter Tryd.func24, Tryd.ntmps24
      go_wp2
      go_ret2
      exact ⟨by rw [HR.out]; rfl, rfl⟩
    · have hi : ¬ (6 : Int) < (l.length : Int) := by omega
      have hp : (0 : Int) < (l.length : Int) := by omega
      have h48 : ((a.toNat : Int) == 48) = (a == 48) := by rw [Bool.eq_iff_iff]; simp; constructor; (· intro h; exact UInt8.toNat_inj.1 (by have : (48 : UInt8).toNat = 48 := rfl; omega)); (· rintro rfl; rfl)
      cases ha : (a == 48)
      · rw [ha] at h48
        have ha2 : a ≠ 48 := by simpa using ha
        have HR : Hid (numberA l = if l.all digA = true then (numV 0 l, true) else (0, false)) := by
          show _ = _
          unfold numberA
          rw [if_neg (by rw [hg0]; rintro (e | e | e); (· exact hne2 e); (· omega); (· exact ha2 e))]
        clear ha ha2 hg0
        go_enter Tryd.func24, Tryd.ntmps24
        go_wp2
        go_loopw [4, 20] (fun x i wr => ∃ k : Nat, i = .int .i64 (k : Int) ∧ k ≤ l.length ∧ (∃ V, x = .int .i64 V ∧ Hid (V = numV 0 (l.take k)) ∧ 0 ≤ V ∧ V ≤ 999999) ∧ Hid ((l.take k).all digA = true) ∧ wr = w) (fun _ i _ => l.length - (intOf i).toNat)
        case atStart => exact ⟨0, rfl, Nat.zero_le _, ⟨0, rfl, (by show _ = _; rw [List.take_zero]; rfl), by omega, by omega⟩, (by show _ = _; rw [List.take_zero]; rfl), rfl⟩
        case round =>
          obtain ⟨k, rfl, hk, ⟨V, rfl, HV, hv0, hv1⟩, HA, hw⟩ := hrel
          subst hw
          by_cases hlt : k < l.length
          · have hlt1 : (k : Int) < (l.length : Int) := by omega
            obtain ⟨z, hz⟩ : ∃ z, l[k]? = some z := ⟨_, List.getElem?_eq_getElem hlt⟩
            have hsz : k < (ByteArray.mk l.toArray).size := by rw [size_list]; exact hlt
            have hby : (ByteArray.mk l.toArray)[k]'hsz = z := by
              rw [byte_at, list_data, List.getD_eq_getElem?_getD, hz]
              rfl
            have HDz : Hid (∀ u, Calls Tryd.prog 27 #[.int .u8 (z.toNat : Int)] u fun e w' => e = .returned (.bool (digA z)) ∧ w' = u) := fun u => adigit_any z u
            have HN : Hid ((l.take (k + 1)).all digA = digA z) := by
              show _ = _
              rw [List.take_add_one, hz, List.all_append, HA.out]
              simp
            have HF : Hid (digA z = false → numberA l = (0, false)) := fun h => by
              rw [HR.out, if_neg]
              rw [List.all_eq_true]
              intro q
              rw [q z (List.mem_of_getElem? hz)] at h
              cases h
            have HV2 := (show Hid (numV 0 (l.take (k + 1)) = 10 * numV 0 (l.take k) + ((z.toNat : Int) - 48)) from numV_next l hz)
            have HS : Hid ((l.take (k + 1)).all digA = true → 0 ≤ numV 0 (l.take (k + 1)) ∧ numV 0 (l.take (k + 1)) ≤ 999999) := fun q => numV_small (by omega) q
            have HDg : Hid (digA z = true → 48 ≤ z.toNat ∧ z.toNat ≤ 57) := fun q => digA_iff.1 q
            clear hz hby0 HR
            generalize digA z = B at *
            cases B
            · have HFF := (show Hid (numberA l = (0, false)) from HF.out rfl)
              clear HF HN HV2 HS HDg
              go_wp2_with (go_at_call 27; refine Calls.mono (HDz.out _) ?_; rintro e u2 ⟨rfl, hu⟩; subst hu)
              go_ret2
              exact ⟨by rw [HFF.out]; rfl, rfl⟩
            · obtain ⟨d1, d2⟩ := HDg.out rfl
              obtain ⟨s1, s2⟩ := HS.out HN.out
              have hd1 : (48 : Int) ≤ (z.toNat : Int) := by omega
              have hd2 : (z.toNat : Int) ≤ 57 := by omega
              have hw8 : IntKind.u8.wrap ((z.toNat : Int) - 48) = (z.toNat : Int) - 48 := by rw [IntKind.wrap_u8]; omega
              have hw9 : IntKind.i64.wrap ((z.toNat : Int) - 48) = (z.toNat : Int) - 48 := by rw [IntKind.wrap_i64]; omega
              have hvv : 10 * V + ((z.toNat : Int) - 48) = numV 0 (l.take (k + 1)) := by rw [HV2.out, ← HV.out]
              rw [← hvv] at s1 s2
              clear HF HS HDg d1 d2 hvv
              go_wp2_with (go_at_call 27; refine Calls.mono (HDz.out _) ?_; rintro e u2 ⟨rfl, hu⟩; subst hu)
              go_roundw
              case rel => exact ⟨k + 1, by go_num, by omega, ⟨_, rfl, (by show _ = _; rw [HV2.out, ← HV.out]), by omega, by omega⟩, HN, by first | rfl | trivial⟩
              case measure => (simp [intOf]) <;> omega
          · have hlt1 : ¬ (k : Int) < (l.length : Int) := by omega
            obtain rfl : k = l.length := by omega
            have HRR : Hid (numberA l = (V, true)) := by
              show _ = _
              have e : l.take l.length = l := List.take_of_length_le (Nat.le_refl _)
              have h1 := HA.out
              have h2 := HV.out
              rw [e] at h1 h2
              rw [HR.out, if_pos h1, h2]
            clear HR HA HV
            go_wp2
            go_ret2
            exact ⟨by rw [HRR.out]; rfl, rfl⟩
      · rw [ha] at h48
        have ha2 : a = 48 := by simpa using ha
        have HR : Hid (numberA l = (0, false)) := by show _ = _; unfold numberA; rw [if_pos (.inr (.inr (by rw [hg0]; exact ha2)))]
        clear hg0 ha ha2
        go_enter Tryd.func24, Tryd.ntmps24
        go_wp2
        go_ret2
        exact ⟨by rw [HR.out]; rfl, rfl⟩
end Go.Proofs.YtkjicdldlnefeaaDoor
