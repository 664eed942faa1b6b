/- Package link: a byte at a place, a step, what is enclosed; walked. -/
import Derived.Test.YtadghfgjdfgopaaDoorSPos
import Derived.Test.YtadghfgjdfgopaaDoorPlainLink7
import Derived.Test.YtadghfgjdfgopaaDoorRunAll
import Derived.Test.YtadghfgjdfgopaaDoorEscAll
import Derived.Deep.QuietTactic
import Derived.BigQuiet
import Derived.Deep.RegionWith
set_option linter.unusedVariables false
namespace Go.Proofs.YtadghfgjdfgopaaDoor
open Go.RowKit

def hdB (l : List UInt8) (c : UInt8) : Bool := match l with
  | [] => false
  | b :: _ => b == c

theorem khas_any (s : ByteArray) (l : List UInt8) (hl : Suf s l) (z : Int) (hz : z = (pos s l : Int)) (c : UInt8) (y : Int) (hy : y = (c.toNat : Int)) (w : World) :
    Calls Tryd.prog 24 #[.string s, .int .i64 z, .int .u8 y] w fun e w' => e = .returned (.bool (hdB l c)) ∧ w' = w := by
  subst hz
  subst hy
  cases l with
  | nil =>
    have hp : pos s [] = s.size := pos_nil s
    go_enter Tryd.func24, Tryd.ntmps24
    go_wp2
    go_ret
    exact ⟨rfl, rfl⟩
  | cons b t =>
    have hlt := hl.lt
    have hb := hl.byte hlt
    go_enter Tryd.func24, Tryd.ntmps24
    go_wp2
    go_ret
    refine ⟨ret_bool ?_, rfl⟩
    show _ = (b == c)
    rw [Bool.eq_iff_iff]
    simp only [beq_iff_eq]
    constructor
    · intro h; exact UInt8.toNat_inj.1 (by omega)
    · rintro rfl; rfl

theorem kmark_any (c : UInt8) (w : World) :
    Calls Tryd.prog 40 #[.int .u8 (c.toNat : Int)] w fun e w' => e = .returned (.bool (markN c.toNat)) ∧ w' = w := esc.mark_any c.toNat w

/-- How many bytes to go on by. -/
def stepL : List UInt8 → Nat
  | b :: c :: _ => if b = 92 ∧ markN c.toNat = true then 2 else 1
  | _ => 1

set_option maxHeartbeats 1000000 in
theorem kstep_any (s : ByteArray) (hs : s.size ≤ 9223372036854775000) (b : UInt8) (t : List UInt8) (hl : Suf s (b :: t)) (w : World) :
    Calls Tryd.prog 26 #[.string s, .int .i64 (pos s (b :: t) : Int)] w fun e w' => e = .returned (.int .i64 (stepL (b :: t) : Int)) ∧ w' = w := by
  have hlt := hl.lt
  have hb := hl.byte hlt
  by_cases h92 : b = 92
  · subst h92
    have hc : ((92 : UInt8).toNat : Int) = 92 := rfl
    have hn := (show Hid _ from hl.succ)
    cases t with
    | nil =>
      have hp : ¬ (pos s [92] : Int) + 1 < (s.size : Int) := by have := hl.sum; simp at this; omega
      go_enter Tryd.func26, Tryd.ntmps26
      go_wp2
      go_ret
      exact ⟨rfl, rfl⟩
    | cons c u =>
      have hlt2 := hl.tail.lt
      have hb2 := hl.tail.byte hlt2
      have e2 := hl.succ
      have hlt3 : pos s (92 :: c :: u) + 1 < s.size := by omega
      have hb3 : s[pos s (92 :: c :: u) + 1] = c := by rw [← hb2]; congr 1; exact e2.symm
      have hp : (pos s (92 :: c :: u) : Int) + 1 < (s.size : Int) := by omega
      have hp2 : 0 ≤ (pos s (92 :: c :: u) : Int) + 1 := by omega
      clear hb2 hlt2 hn e2
      have HS : Hid (stepL (92 :: c :: u) = if markN c.toNat = true then 2 else 1) := by show _ = _; simp [stepL]
      cases hm : markN c.toNat
      all_goals
        rw [hm] at HS
        have HM := (show Hid _ from fun w => kmark_any c w)
        rw [hm] at HM
        clear hm
        go_enter Tryd.func26, Tryd.ntmps26
        go_wp2_with (go_at_call 40; refine (HM.out _).mono ?_; rintro e w' ⟨rfl, rfl⟩)
        go_ret
        exact ⟨ret_int (by rw [HS.out]; rfl), rfl⟩
  · have hn : ¬ (b.toNat : Int) = 92 := by intro h; exact h92 (UInt8.toNat_inj.1 (by show _ = 92; omega))
    have hn2 : ((b.toNat : Int) == 92) = false := by simpa using hn
    have HS : Hid (stepL (b :: t) = 1) := by
      show _ = _
      cases t with
      | nil => rfl
      | cons c u => simp only [stepL]; rw [if_neg (fun x => h92 x.1)]
    go_enter Tryd.func26, Tryd.ntmps26
    go_wp2
    go_ret
    exact ⟨ret_int (by rw [HS.out]; rfl), rfl⟩

/-! ### A byte among some -/

theorem back8 (c : UInt8) : (c.toNat : Int).toNat.toUInt8 = c := by simp

theorem idx_neg (l : List UInt8) (c : UInt8) : c ∉ l → Lib.indexByte l c = -1 := by
  induction l with
  | nil => intro _; rfl
  | cons b t ih =>
    intro h
    simp only [List.mem_cons, not_or] at h
    unfold Lib.indexByte
    rw [ih h.2, if_neg (by simpa using fun e => h.1 e.symm)]
    rfl
theorem idx_pos (l : List UInt8) (c : UInt8) : c ∈ l → ∃ k : Nat, Lib.indexByte l c = k ∧ k < l.length := by
  induction l with
  | nil => intro h; cases h
  | cons b t ih =>
    intro h
    unfold Lib.indexByte
    by_cases hb : b = c
    · rw [if_pos (by rw [hb]; simp)]; exact ⟨0, rfl, by simp⟩
    · rw [if_neg (by simpa using hb)]
      rcases List.mem_cons.1 h with e | h
      · exact absurd e.symm hb
      · obtain ⟨k, hk, hl⟩ := ih h
        rw [hk, if_neg (by simp)]
        exact ⟨k + 1, by omega, by simp; omega⟩


/-- Is a byte in a text of the program's? As IndexByte tells. -/
theorem kamong_any (s : ByteArray) (c : UInt8) (w : World) :
    Calls Tryd.prog 41 #[.string s, .int .u8 (c.toNat : Int)] w fun e w' => (∃ k : Int, e = .returned (.int .i64 k) ∧ (s.data.toList.elem c = true → 0 ≤ k) ∧ (s.data.toList.elem c = false → k < 0)) ∧ w' = w := by
  refine (esc.indexByte_any s c.toNat w).mono ?_
  rintro e w' ⟨rfl, rfl⟩
  rw [back8]
  refine ⟨⟨_, rfl, fun h => ?_, fun h => ?_⟩, rfl⟩
  · obtain ⟨k, hk, _⟩ := idx_pos _ _ (List.elem_iff.1 h)
    omega
  · rw [idx_neg _ _ (fun x => by rw [List.elem_iff.2 x] at h; cases h)]
    omega

end Go.Proofs.YtadghfgjdfgopaaDoor
