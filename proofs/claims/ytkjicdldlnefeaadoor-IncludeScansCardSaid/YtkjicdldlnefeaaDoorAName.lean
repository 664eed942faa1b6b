/- letter, digit, Name of include; Cut and Who; walked. -/
import Derived.Test.YtkjicdldlnefeaaDoorBase
import Derived.Test.YtkjicdldlnefeaaDoorShelf
import Derived.Test.YtkjicdldlnefeaaDoorPlainAcl
import Derived.Lib.Bytealg
set_option linter.unusedVariables false
namespace Go.Proofs.YtkjicdldlnefeaaDoor
open Go.RowKit

abbrev strA (l : StrA) : Value := .string ⟨l.toArray⟩
theorem aletter_any (c : UInt8) (w : World) : Calls Tryd.prog 26 #[.int .u8 (c.toNat : Int)] w fun e w' => e = .returned (.bool (letA c)) ∧ w' = w := by
  have hc : (c.toNat : Int) < 97 ∨ (97 ≤ (c.toNat : Int) ∧ (c.toNat : Int) ≤ 122) ∨ (97 ≤ (c.toNat : Int) ∧ 122 < (c.toNat : Int)) := by omega
  rcases hc with h | ⟨h, h'⟩ | ⟨h, h'⟩
  all_goals
    go_enter Tryd.func26, Tryd.ntmps26
    go_wp2
    go_ret
    exact ⟨ret_bool (by unfold letA; rw [Bool.eq_iff_iff]; simp; omega), rfl⟩
theorem adigit_any (c : UInt8) (w : World) : Calls Tryd.prog 27 #[.int .u8 (c.toNat : Int)] w fun e w' => e = .returned (.bool (digA c)) ∧ w' = w := by
  have hc : (c.toNat : Int) < 48 ∨ (48 ≤ (c.toNat : Int) ∧ (c.toNat : Int) ≤ 57) ∨ (48 ≤ (c.toNat : Int) ∧ 57 < (c.toNat : Int)) := by omega
  rcases hc with h | ⟨h, h'⟩ | ⟨h, h'⟩
  all_goals
    go_enter Tryd.func27, Tryd.ntmps27
    go_wp2
    go_ret
    exact ⟨ret_bool (by unfold digA; rw [Bool.eq_iff_iff]; simp; omega), rfl⟩

set_option maxHeartbeats 4000000 in
set_option maxRecDepth 8000 in
theorem aname_any (s : StrA) (w : World) : Calls Tryd.prog 12 #[strA s] w fun e w' => e = .returned (.bool (nameA s)) ∧ w' = w := by
  cases s with
  | nil =>
    go_enter Tryd.func12, Tryd.ntmps12
    go_wp2
    go_ret
    exact ⟨rfl, rfl⟩
  | cons a r =>
    obtain ⟨l, hl⟩ : ∃ l, l = a :: r := ⟨_, rfl⟩
    rw [← hl]
    have h1 : 1 ≤ l.length := by rw [hl, List.length_cons]; omega
    have hne : (l == []) = false := by rw [hl]; rfl
    have hg0 : l.getD 0 0 = a := by rw [hl]; rfl
    have HL : Hid (∀ u, Calls Tryd.prog 26 #[.int .u8 (a.toNat : Int)] u fun e w' => e = .returned (.bool (letA a)) ∧ w' = u) := fun u => aletter_any a u
    have hby0 : (ByteArray.mk l.toArray)[0]'(by rw [size_list]; omega) = a := by rw [byte_at, list_data, hg0]
    have hne2 : l ≠ [] := by rw [hl]; simp
    clear hl
    by_cases h16 : 16 < l.length
    · have hi : (16 : Int) < (l.length : Int) := by omega
      go_enter Tryd.func12, Tryd.ntmps12
      go_wp2
      go_ret
      exact ⟨ret_bool (by unfold nameA; rw [Bool.eq_iff_iff]; simp; intro _ h; omega), rfl⟩
    · have hi : ¬ (16 : Int) < (l.length : Int) := by omega
      have hp : (0 : Int) < (l.length : Int) := by omega
      go_enter Tryd.func12, Tryd.ntmps12
      go_wp2_with (go_at_call 26; refine Calls.mono (HL.out _) ?_; rintro e u ⟨rfl, hu⟩; subst hu; have hla : letA a = true ∨ letA a = false := (by cases letA a <;> simp); rcases hla with hla | hla <;> rw [hla])
      · go_loopw [19] (fun i wr => ∃ k : Nat, i = .int .i64 (k : Int) ∧ k ≤ l.length ∧ Hid ((l.take k).all nmC = true) ∧ wr = u) (fun i _ => l.length - (intOf i).toNat)
        case atStart => exact ⟨0, rfl, Nat.zero_le _, (by show _ = _; rw [List.take_zero]; rfl), rfl⟩
        case round =>
          obtain ⟨k, rfl, hk, HA, hw⟩ := hrel
          subst hw
          by_cases hlt : k < l.length
          · have hlt1 : (k : Int) < (l.length : Int) := by omega
            obtain ⟨z, hz⟩ : ∃ z, l[k]? = some z := ⟨_, List.getElem?_eq_getElem hlt⟩
            have hsz : k < (ByteArray.mk l.toArray).size := by rw [size_list]; exact hlt
            have hby : (ByteArray.mk l.toArray)[k]'hsz = z := by
              rw [byte_at, list_data, List.getD_eq_getElem?_getD, hz]
              rfl
            have HN : Hid ((l.take (k + 1)).all nmC = nmC z) := by
              show _ = _
              rw [List.take_add_one, hz, List.all_append, HA.out]
              simp
            have HZ : Hid (nmC z = false → nameA l = false) := fun h => by
              unfold nameA
              have : l.all nmC = false := by
                rw [List.all_eq_false]
                exact ⟨z, List.mem_of_getElem? hz, by rw [h]; decide⟩
              rw [this, Bool.and_false]
            have HLz : Hid (∀ u, Calls Tryd.prog 26 #[.int .u8 (z.toNat : Int)] u fun e w' => e = .returned (.bool (letA z)) ∧ w' = u) := fun u => aletter_any z u
            have HDz : Hid (∀ u, Calls Tryd.prog 27 #[.int .u8 (z.toNat : Int)] u fun e w' => e = .returned (.bool (digA z)) ∧ w' = u) := fun u => adigit_any z u
            have HC : Hid (nmC z = (letA z || digA z || z == 45)) := rfl
            have h45 : ((z.toNat : Int) == 45) = (z == 45) := by rw [Bool.eq_iff_iff]; simp; constructor; (· intro h; exact UInt8.toNat_inj.1 (by have : (45 : UInt8).toNat = 45 := rfl; omega)); (· rintro rfl; rfl)
            clear hz HA HL hby0 hg0
            generalize letA z = L1 at *
            generalize digA z = L2 at *
            generalize nmC z = L4 at *
            cases L1
            · cases L2
              · cases h5 : (z == 45)
                · rw [h5] at h45 HC
                  have h45b : ¬ (z.toNat : Int) = 45 := by simpa using h45
                  have h46 : ((z.toNat : Int) != 45) = true := by simpa using h45b
                  have hL4 : L4 = false := HC.out
                  subst hL4
                  clear h5 h45
                  go_wp2_with (first | (go_at_call 26; refine Calls.mono (HLz.out _) ?_; rintro e u2 ⟨rfl, hu⟩; subst hu) | (go_at_call 27; refine Calls.mono (HDz.out _) ?_; rintro e u2 ⟨rfl, hu⟩; subst hu))
                  go_ret
                  exact ⟨ret_bool (HZ.out trivial).symm, rfl⟩
                · rw [h5] at h45 HC
                  have h45b : (z.toNat : Int) = 45 := by simpa using h45
                  have h46 : ((z.toNat : Int) != 45) = false := by simpa using h45b
                  have hL4 : L4 = true := HC.out
                  subst hL4
                  clear h5 h45 h45b
                  go_wp2_with (first | (go_at_call 26; refine Calls.mono (HLz.out _) ?_; rintro e u2 ⟨rfl, hu⟩; subst hu) | (go_at_call 27; refine Calls.mono (HDz.out _) ?_; rintro e u2 ⟨rfl, hu⟩; subst hu))
                  go_roundw
                  case rel => exact ⟨k + 1, by go_num, by omega, HN, by first | rfl | trivial⟩
                  case measure => (simp [intOf]) <;> omega
              · have hL4 : L4 = true := by rw [HC.out]; simp
                subst hL4
                clear h45
                go_wp2_with (first | (go_at_call 26; refine Calls.mono (HLz.out _) ?_; rintro e u2 ⟨rfl, hu⟩; subst hu) | (go_at_call 27; refine Calls.mono (HDz.out _) ?_; rintro e u2 ⟨rfl, hu⟩; subst hu))
                go_roundw
                case rel => exact ⟨k + 1, by go_num, by omega, HN, by first | rfl | trivial⟩
                case measure => (simp [intOf]) <;> omega
            · have hL4 : L4 = true := by rw [HC.out]; simp
              subst hL4
              clear h45
              go_wp2_with (go_at_call 26; refine Calls.mono (HLz.out _) ?_; rintro e u2 ⟨rfl, hu⟩; subst hu)
              go_roundw
              case rel => exact ⟨k + 1, by go_num, by omega, HN, by first | rfl | trivial⟩
              case measure => (simp [intOf]) <;> omega
          · have hlt1 : ¬ (k : Int) < (l.length : Int) := by omega
            have hkl : l.take k = l := List.take_of_length_le (by omega)
            have HA2 : Hid (l.all nmC = true) := by have := HA.out; rw [hkl] at this; exact this
            have HN : Hid (nameA l = true) := by
              show _ = _
              unfold nameA
              rw [hg0, hla, HA2.out]
              simp
              exact ⟨hne2, by omega⟩
            clear hkl HA HA2
            go_wp2
            go_ret
            exact ⟨ret_bool HN.out.symm, rfl⟩
      · go_ret
        exact ⟨ret_bool (by unfold nameA; rw [hg0, hla]; simp), rfl⟩
end Go.Proofs.YtkjicdldlnefeaaDoor
