/- The document's answer for span: letter, digit, among, run, gap, walked. -/
import Derived.Test.YtegjpfhpkkffiaaDoorSOwn
set_option linter.unusedVariables false
namespace Go.Proofs.YtegjpfhpkkffiaaDoor
open Go.RowKit

theorem rletter_any (c : Nat) (w : World) :
    Calls Tryd.prog 28 #[.int .u8 (c : Int)] w fun e w' => e = .returned (.bool (letN c)) ∧ w' = w := by
  have hc : c < 65 ∨ (65 ≤ c ∧ c ≤ 90) ∨ (90 < c ∧ c < 97) ∨ (97 ≤ c ∧ c ≤ 122) ∨ 122 < c := by omega
  rcases hc with h | ⟨h, h'⟩ | ⟨h, h'⟩ | ⟨h, h'⟩ | h
  all_goals
    go_enter Tryd.func28, Tryd.ntmps28
    go_wp2
    go_ret
    exact ⟨ret_bool (by unfold letN; rw [Bool.eq_iff_iff]; simp; omega), rfl⟩

theorem rdigit_any (c : Nat) (w : World) :
    Calls Tryd.prog 29 #[.int .u8 (c : Int)] w fun e w' => e = .returned (.bool (digN c)) ∧ w' = w := by
  have hc : c < 48 ∨ (48 ≤ c ∧ c ≤ 57) ∨ 57 < c := by omega
  rcases hc with h | ⟨h, h'⟩ | h
  all_goals
    go_enter Tryd.func29, Tryd.ntmps29
    go_wp2
    go_ret
    exact ⟨ret_bool (by unfold digN; rw [Bool.eq_iff_iff]; simp; omega), rfl⟩

theorem ramong_any (s : ByteArray) (hs : s.size ≤ 200) (c : UInt8) (r : Bool) (hr : s.data.toList.elem c = r) (w : World) :
    Calls Tryd.prog 30 #[.int .u8 (c.toNat : Int), .string s] w fun e w' => e = .returned (.bool r) ∧ w' = w := by
  have hl := len_data s
  have HR := (show Hid _ from hr)
  clear hr
  go_enter Tryd.func30, Tryd.ntmps30
  go_wp2
  go_loop [5] (fun i => ∃ k : Nat, i = .int .i64 (k : Int) ∧ k ≤ s.size ∧ Hid (∀ j, j < k → s.data.toList[j]? ≠ some c)) (fun i => s.size - (intOf i).toNat)
  case atStart => exact ⟨0, rfl, by omega, fun j hj => by omega⟩
  case round =>
    obtain ⟨k, rfl, hk, hno⟩ := hrel
    by_cases hlt : k < s.size
    · have g1 : (k : Int) < (s.size : Int) := by omega
      obtain ⟨b, hb⟩ : ∃ b, s[k] = b := ⟨_, rfl⟩
      have HG : Hid (s.data.toList[k]? = some b) := by show _ = _; rw [List.getElem?_eq_getElem (by omega)]; exact congrArg some hb
      by_cases hbc : b = c
      · have q : (b.toNat : Int) = (c.toNat : Int) := by rw [hbc]
        go_wp2
        go_ret
        refine ⟨ret_bool ?_, rfl⟩
        rw [← HR.out]
        symm
        rw [List.elem_iff]
        rw [hbc] at HG
        exact List.mem_of_getElem? HG.out
      · have q : ¬ (b.toNat : Int) = (c.toNat : Int) := fun e => hbc (UInt8.toNat_inj.1 (by omega))
        go_wp2
        go_round
        case rel =>
          refine ⟨k + 1, by go_num, by omega, fun j hj => ?_⟩
          rcases Nat.lt_or_ge j k with h | h
          · exact hno.out j h
          · have : j = k := by omega
            subst this
            rw [HG.out]
            simpa using hbc
        case measure => simp [intOf]; omega
    · go_wp2
      go_ret
      refine ⟨ret_bool ?_, rfl⟩
      rw [← HR.out]
      symm
      rw [Bool.eq_false_iff]
      intro h
      obtain ⟨j, hj⟩ := List.getElem?_of_mem (List.elem_iff.1 h)
      have hjl : j < s.data.toList.length := (List.getElem?_eq_some_iff.1 hj).1
      exact hno.out j (by omega) hj

theorem rrun_any (s : ByteArray) (hs : s.size ≤ 9223372036854775000) (l : List UInt8) (hl : Suf s l) (z : Int) (hz : z = (pos s l : Int)) (w : World) :
    Calls Tryd.prog 22 #[.string s, .int .i64 z] w fun e w' => e = .returned (.int .i64 (runL l : Int)) ∧ w' = w := by
  subst hz
  have hle := pos_le s l
  go_enter Tryd.func22, Tryd.ntmps22
  go_wp2
  go_loop [5] (fun A => ∃ l' : List UInt8, A = .int .i64 (pos s l' : Int) ∧ Hid (Suf s l') ∧ Hid (pos s l' + runL l' = pos s l + runL l)) (fun A => s.size - (intOf A).toNat)
  case atStart => exact ⟨l, rfl, hl, rfl⟩
  case round =>
    obtain ⟨l', rfl, h1, h2⟩ := hrel
    have hle' := pos_le s l'
    cases l' with
    | nil =>
      have hp : pos s [] = s.size := pos_nil s
      go_wp2
      go_ret
      exact ⟨ret_int (by have := h2.out; simp only [runL, hp] at this; omega), rfl⟩
    | cons b t =>
      have hlt := h1.out.lt
      have hb := h1.out.byte hlt
      have hge : (pos s l : Int) ≤ (pos s (b :: t) : Int) + (runL (b :: t) : Int) := by have := h2.out; omega
      have hsu := (show Hid _ from h1.out.succ)
      by_cases h96 : b = 96
      · subst h96
        go_wp2
        go_round
        case rel =>
          refine ⟨t, ?_, h1.out.tail, ?_⟩
          · rw [hsu.out]; go_num
          · show _ = _
            have e := h2.out
            have e2 := hsu.out
            simp only [runL, if_true] at e
            omega
        case measure => simp [intOf]; omega
      · have q : ¬ (b.toNat : Int) = 96 := fun e => h96 (UInt8.toNat_inj.1 (by show b.toNat = 96; omega))
        have hr0 : runL (b :: t) = 0 := by simp [runL, h96]
        have HE : Hid ((pos s (b :: t) : Int) = (pos s l : Int) + (runL l : Int)) := by have := h2.out; rw [hr0] at this; show _ = _; omega
        have hlo : (pos s l : Int) ≤ (pos s (b :: t) : Int) := by have := HE.out; omega
        clear hge hr0
        go_wp2
        go_ret
        exact ⟨ret_int (by have := HE.out; omega), rfl⟩

end Go.Proofs.YtegjpfhpkkffiaaDoor
