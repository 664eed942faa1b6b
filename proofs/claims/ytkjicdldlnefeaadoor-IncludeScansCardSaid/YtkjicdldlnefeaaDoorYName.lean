/- Name of the document's answer (layer 10); walked. -/
import Derived.Test.YtkjicdldlnefeaaDoorNShown2
set_option linter.unusedVariables false
namespace Go.Proofs.YtkjicdldlnefeaaDoor
open Go.RowKit

/-- The first k bytes stand as they may. -/
def nmP (l : StrA) (k : Nat) : Prop := ∀ i c, i < k → l[i]? = some c → letA c = true ∨ (0 < i ∧ nmC c = true)
theorem nmP_no {l : StrA} {k : Nat} {z : UInt8} (hz : l[k]? = some z) (h1 : letA z = false) (h2 : k = 0 ∨ nmC z = false) : nameA l = false := by
  unfold nameA
  rcases h2 with rfl | h2
  · have : l.getD 0 0 = z := by rw [List.getD_eq_getElem?_getD, hz]; rfl
    rw [this, h1]; simp
  · have : l.all nmC = false := by
      rw [List.all_eq_false]
      exact ⟨z, List.mem_of_getElem? hz, by rw [h2]; decide⟩
    rw [this, Bool.and_false]
theorem nmP_all {l : StrA} (h : nmP l l.length) : nameA l = decide (1 ≤ l.length ∧ l.length ≤ 16) := by
  have hall : l.all nmC = true := by
    rw [List.all_eq_true]
    intro c hc
    obtain ⟨i, hi⟩ := List.getElem?_of_mem hc
    rcases h i c (List.getElem?_eq_some_iff.1 hi).1 hi with q | q
    · unfold nmC; rw [q]; rfl
    · exact q.2
  unfold nameA
  rw [hall, Bool.and_true]
  cases l with
  | nil => rfl
  | cons a r =>
    have h0 : letA a = true := by
      rcases h 0 a (by simp) rfl with q | q
      · exact q
      · exact absurd q.1 (Nat.lt_irrefl _)
    show (decide _ && letA a) = _
    rw [h0, Bool.and_true, Bool.eq_iff_iff]
    simp
theorem nmP_next {l : StrA} {k : Nat} {z : UInt8} (h : nmP l k) (hz : l[k]? = some z) (h1 : letA z = true ∨ (0 < k ∧ nmC z = true)) : nmP l (k + 1) := by
  intro i c hi hc
  rcases Nat.lt_or_ge i k with h2 | h2
  · exact h i c h2 hc
  · have : i = k := by omega
    subst this
    rw [hz] at hc
    cases hc
    exact h1

set_option maxHeartbeats 4000000 in
set_option maxRecDepth 8000 in
theorem xname_any (l : StrA) (hll : l.length ≤ 9223372036854775000) (w : World) : Calls Tryd.prog 13 #[strA l] w fun e w' => e = .returned (.bool (nameA l)) ∧ Below w.heap.size w w' := by
  have hli : (l.length : Int) ≤ 9223372036854775000 := by omega
  go_enter Tryd.func13, Tryd.ntmps13
  go_wp2
  go_loopw [3] (fun i wr => ∃ k : Nat, i = .int .i64 (k : Int) ∧ k ≤ l.length ∧ Hid (nmP l k) ∧ Hid (Below w.heap.size w wr)) (fun i _ => l.length - (intOf i).toNat)
  case atStart => exact ⟨0, rfl, Nat.zero_le _, (fun i c h => absurd h (Nat.not_lt_zero _)), Below.refl _ _⟩
  case round =>
    obtain ⟨k, rfl, hk, HA, HB⟩ := hrel
    by_cases hlt : k < l.length
    · have hlt1 : (k : Int) < (l.length : Int) := by omega
      obtain ⟨z, hz⟩ : ∃ z, l[k]? = some z := ⟨_, List.getElem?_eq_getElem hlt⟩
      have hsz : k < (ByteArray.mk l.toArray).size := by rw [size_list]; exact hlt
      have hby : (ByteArray.mk l.toArray)[k]'hsz = z := by
        rw [byte_at, list_data, List.getD_eq_getElem?_getD, hz]
        rfl
      have HX : Hid ((letA z = true ∨ (0 < k ∧ nmC z = true)) → nmP l (k + 1)) := nmP_next HA.out hz
      have HN : Hid (letA z = false → (k = 0 ∨ nmC z = false) → nameA l = false) := nmP_no hz
      have HD : Hid (nmC z = (letA z || digA z || z == 45)) := rfl
      have HLd : Hid (letA z = decide (97 ≤ z.toNat ∧ z.toNat ≤ 122)) := rfl
      have HDd : Hid (digA z = decide (48 ≤ z.toNat ∧ z.toNat ≤ 57)) := rfl
      have H45 : Hid ((z == 45) = decide (z.toNat = 45)) := by show _ = _; rw [Bool.eq_iff_iff]; simp; constructor; (· rintro rfl; rfl); (· intro h; exact UInt8.toNat_inj.1 h)
      clear hz HA
      have hc : (97 ≤ (z.toNat : Int) ∧ (z.toNat : Int) ≤ 122) ∨ ((z.toNat : Int) < 97 ∨ 122 < (z.toNat : Int)) := by omega
      rcases hc with ⟨c1, c2⟩ | hc
      · have HP : Hid (nmP l (k + 1)) := HX.out (Or.inl (by rw [HLd.out]; simp; omega))
        clear HX HN HD HLd HDd H45
        go_wp2
        go_roundw
        case rel => exact ⟨k + 1, by go_num, by omega, HP, HB⟩
        case measure => (simp [intOf]) <;> omega
      · have hl0 : letA z = false := by rw [HLd.out]; simp; omega
        by_cases hk0 : k = 0
        · have HR : Hid (nameA l = false) := HN.out hl0 (Or.inl hk0)
          subst hk0
          clear HX HN HD HLd HDd H45
          rcases hc with c1 | c1
          all_goals
            go_wp2
            all_goals first | (go_ret; exact ⟨ret_bool HR.out.symm, HB.out⟩) | (exfalso; rename_i h; simp at h; omega)
        · have hk1 : ((k : Int) == 0) = false := by rw [beq_eq_false_iff_ne]; omega
          have hx : ((z.toNat : Int) < 48 ∧ (z.toNat : Int) = 45) ∨ ((z.toNat : Int) < 48 ∧ (z.toNat : Int) ≠ 45) ∨ (48 ≤ (z.toNat : Int) ∧ (z.toNat : Int) ≤ 57) ∨ (57 < (z.toNat : Int) ∧ (z.toNat : Int) < 97) ∨ 122 < (z.toNat : Int) := by omega
          rcases hx with ⟨c1, c2⟩ | ⟨c1, c2⟩ | ⟨c1, c2⟩ | ⟨c1, c2⟩ | c1
          · have HP : Hid (nmP l (k + 1)) := HX.out (Or.inr ⟨by omega, by rw [HD.out, H45.out, Bool.or_eq_true]; right; simp; omega⟩)
            have c3 : ((z.toNat : Int) == 45) = true := by rw [beq_iff_eq]; exact c2
            have c4 : (z.toNat : Int) < 97 := by omega
            clear HX HN HD HLd HDd H45 hc c2 hl0
            go_wp2
            go_roundw
            case rel => exact ⟨k + 1, by go_num, by omega, HP, HB⟩
            case measure => (simp [intOf]) <;> omega
          · have HR : Hid (nameA l = false) := HN.out hl0 (Or.inr (by rw [HD.out, H45.out, HDd.out, hl0]; simp; omega))
            have c3 : ((z.toNat : Int) == 45) = false := by rw [beq_eq_false_iff_ne]; exact c2
            have c4 : (z.toNat : Int) < 97 := by omega
            clear HX HN HD HLd HDd H45 hc c2 hl0
            go_wp2
            go_ret
            exact ⟨ret_bool HR.out.symm, HB.out⟩
          · have HP : Hid (nmP l (k + 1)) := HX.out (Or.inr ⟨by omega, by rw [HD.out, HDd.out]; simp; omega⟩)
            have c4 : (z.toNat : Int) < 97 := by omega
            clear HX HN HD HLd HDd H45 hc hl0
            go_wp2
            go_roundw
            case rel => exact ⟨k + 1, by go_num, by omega, HP, HB⟩
            case measure => (simp [intOf]) <;> omega
          · have HR : Hid (nameA l = false) := HN.out hl0 (Or.inr (by rw [HD.out, H45.out, HDd.out, hl0]; simp; omega))
            have c3 : ((z.toNat : Int) == 45) = false := by rw [beq_eq_false_iff_ne]; omega
            have c4 : (48 : Int) ≤ (z.toNat : Int) := by omega
            clear HX HN HD HLd HDd H45 hc hl0
            go_wp2
            all_goals first | (go_ret; exact ⟨ret_bool HR.out.symm, HB.out⟩) | (exfalso; rename_i h; simp at h; omega)
          · have HR : Hid (nameA l = false) := HN.out hl0 (Or.inr (by rw [HD.out, H45.out, HDd.out, hl0]; simp; omega))
            have c3 : ((z.toNat : Int) == 45) = false := by rw [beq_eq_false_iff_ne]; omega
            have c4 : (48 : Int) ≤ (z.toNat : Int) := by omega
            have c5 : (57 : Int) < (z.toNat : Int) := by omega
            have c6 : (97 : Int) ≤ (z.toNat : Int) := by omega
            clear HX HN HD HLd HDd H45 hc hl0
            go_wp2
            all_goals first | (go_ret; exact ⟨ret_bool HR.out.symm, HB.out⟩) | (exfalso; rename_i h; simp at h; omega)
    · have hlt1 : ¬ (k : Int) < (l.length : Int) := by omega
      obtain rfl : k = l.length := by omega
      have HN : Hid (nameA l = decide (1 ≤ l.length ∧ l.length ≤ 16)) := nmP_all HA.out
      clear HA
      go_wp2
      all_goals go_ret
      all_goals exact ⟨ret_bool (by rw [HN.out, Bool.eq_iff_iff]; simp; omega), HB.out⟩
end Go.Proofs.YtkjicdldlnefeaaDoor
