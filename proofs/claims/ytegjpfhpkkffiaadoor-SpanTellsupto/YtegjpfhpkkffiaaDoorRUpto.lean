/- The document's answer for span: upto, walked. -/
import Derived.Test.YtegjpfhpkkffiaaDoorRVal
set_option linter.unusedVariables false
namespace Go.Proofs.YtegjpfhpkkffiaaDoor
open Go.RowKit

/-- What upto tells of what stands behind a place. -/
def upZ (s : ByteArray) (e l : List UInt8) : Nat := match upL e l with
  | none => 0
  | some n => pos s l + n

theorem upZ_short {s : ByteArray} {e : List UInt8} : ∀ {l : List UInt8}, l.length < e.length → upL e l = none
  | [], _ => rfl
  | b :: t, h => by
    have h1 : e.isPrefixOf (b :: t) = false := by
      cases hp : e.isPrefixOf (b :: t)
      · rfl
      · have := (List.isPrefixOf_iff_prefix.1 hp).length_le; omega
    simp only [upL]
    rw [h1, upZ_short (s := s) (by simp at h; omega)]
    rfl
theorem upZ_yes {s : ByteArray} {e : List UInt8} {b : UInt8} {t : List UInt8} (h : e.isPrefixOf (b :: t) = true) : upZ s e (b :: t) = pos s (b :: t) + e.length := by
  simp only [upZ, upL]
  rw [if_pos h]
theorem upZ_no {s : ByteArray} {e : List UInt8} {b : UInt8} {t : List UInt8} (hl : Suf s (b :: t)) (h : e.isPrefixOf (b :: t) = false) : upZ s e (b :: t) = upZ s e t := by
  simp only [upZ, upL]
  rw [if_neg (by rw [h]; decide)]
  have := hl.succ
  cases upL e t with
  | none => rfl
  | some n => show pos s (b :: t) + (n + 1) = pos s t + n; omega

theorem piece_eq {s e : ByteArray} {l : List UInt8} (hl : Suf s l) (hle : e.size ≤ l.length) (r : Bool) (hr : e.data.toList.isPrefixOf l = r) : decide (s.extract (pos s l) (pos s l + e.size) = e) = r := by
  have h2 := (hl.drop e.size)
  have hp : pos s (l.drop e.size) = pos s l + e.size := by
    have := hl.sum; have := h2.sum
    rw [List.length_drop] at this
    omega
  have hb := hl.between h2
  rw [hp, List.length_drop, show l.length - (l.length - e.size) = e.size by omega] at hb
  rw [hb, ← hr, Bool.eq_iff_iff, decide_eq_true_eq, List.isPrefixOf_iff_prefix, List.prefix_iff_eq_take, len_data]
  constructor
  · intro h; exact congrArg (fun x : ByteArray => x.data.toList) h.symm
  · intro h
    rw [← h]

theorem same_bytes (x y : ByteArray) (r : Bool) (h : decide (x = y) = r) : (x.toList == y.toList) = r := by
  rw [← h, Bool.eq_iff_iff, beq_iff_eq, decide_eq_true_eq, ByteArray.toList_eq, ByteArray.toList_eq]
  exact ⟨fun h => ByteArray.ext (Array.toList_inj.mp h), fun h => by rw [h]⟩

set_option maxHeartbeats 2000000 in
theorem rupto_any (s e : ByteArray) (hs : s.size ≤ 9223372036854775000) (he : e.size ≤ 100) (he2 : 0 < e.size) (l : List UInt8) (hl : Suf s l) (z : Int) (hz : z = (pos s l : Int)) (w : World) :
    Calls Tryd.prog 41 #[.string s, .int .i64 z, .string e] w fun e' w' => e' = .returned (.int .i64 (upZ s e.data.toList l : Nat)) ∧ w' = w := by
  subst hz
  have HE : Hid (e.data.toList.length = e.size) := len_data e
  go_enter Tryd.func41, Tryd.ntmps41
  go_wp2
  go_loop [7] (fun A => ∃ l' : List UInt8, A = .int .i64 (pos s l' : Int) ∧ Hid (Suf s l') ∧ Hid (upZ s e.data.toList l' = upZ s e.data.toList l)) (fun A => s.size - (intOf A).toNat)
  case atStart => exact ⟨l, rfl, hl, rfl⟩
  case round =>
    obtain ⟨l', rfl, h1, h2⟩ := hrel
    have hsum := (show Hid _ from h1.out.sum)
    have hpl := pos_le s l'
    by_cases hfit : (pos s l' : Int) + (e.size : Int) ≤ (s.size : Int)
    · cases l' with
      | nil => have hp : pos s [] = s.size := pos_nil s; omega
      | cons b t =>
        have hlt := h1.out.lt
        have hsu := (show Hid _ from h1.out.succ)
        have hle1 : (pos s (b :: t) : Int) + 1 ≤ (s.size : Int) := by omega
        have HP := (show Hid _ from fun r hr => piece_eq (e := e) h1.out (by have := hsum.out; omega) r hr)
        cases hpre : e.data.toList.isPrefixOf (b :: t)
        · have q1 := same_bytes _ _ _ (HP.out _ hpre)
          have HN : Hid (upZ s e.data.toList t = upZ s e.data.toList l) := by show _ = _; rw [← upZ_no h1.out hpre, h2.out]
          go_wp2
          go_round
          case rel =>
            refine ⟨t, ?_, h1.out.tail, HN.out⟩
            rw [hsu.out]; go_num
          case measure => simp [intOf]; omega
        · have q1 := same_bytes _ _ _ (HP.out _ hpre)
          have HN : Hid (upZ s e.data.toList l = pos s (b :: t) + e.size) := by show _ = _; rw [← h2.out, upZ_yes hpre, HE.out]
          go_wp2
          go_ret
          refine ⟨ret_int ?_, rfl⟩
          rw [HN.out]; go_num
    · go_wp2
      go_ret
      refine ⟨ret_int ?_, rfl⟩
      rw [← h2.out]
      unfold upZ
      rw [upZ_short (s := s) (by have := hsum.out; have := HE.out; omega)]
      rfl
end Go.Proofs.YtegjpfhpkkffiaaDoor
