/- Auto in package span, walked. -/
import Derived.Test.YtjdijlaoeoikhaaGreatDoorG41
import Derived.OwnWalk
set_option linter.unusedVariables false
namespace Go.Proofs.YtjdijlaoeoikhaaGreatDoor
open Go.RowKit

/-- What Auto tells. -/
def autoV (o : Option (List UInt8 × List UInt8 × Nat)) : Value := match o with
  | none => .tuple #[.string ⟨#[]⟩, .string ⟨#[]⟩, .int .i64 0]
  | some (d, u, n) => .tuple #[.string ⟨d.toArray⟩, .string ⟨u.toArray⟩, .int .i64 (n : Int)]

theorem ext_mid {s : ByteArray} {a : UInt8} {u r : List UInt8} (e : s.data.toList = a :: (u ++ r)) : s.extract 1 (u.length + 1) = ⟨u.toArray⟩ := by
  rw [extract_eq, e]
  simp

set_option maxHeartbeats 4000000 in
/-- Auto, of a text in which not too much stands ahead of the first sign. -/
theorem auto_at (s : ByteArray) (hs : s.size ≤ 9223372036854775000) (hq : ∀ u y, s.data.toList = 60 :: (u ++ 62 :: y) → 62 ∉ u → u.length < 4294967281) (w : World) (hm : ML w) :
    Calls Tryz.prog 34 #[.string s] w fun e w' => e = .returned (autoV (autoL s.data.toList)) ∧ Below w.heap.size w w' := by
  have hlen := len_data s
  have h0 : (0 : Int) = (pos s s.data.toList : Int) := by rw [pos_whole]; rfl
  have hhas := (show Hid _ from fun w => has_any s s.data.toList (Suf.whole s) 0 h0 60 60 rfl w)
  clear h0
  cases hL : s.data.toList with
  | nil =>
    rw [hL] at hhas
    have hd : hdB [] 60 = false := rfl
    clear hq hm hlen hL
    go_enter Tryz.func34, Tryz.ntmps34
    go_wp2_with (go_at_call 48; refine (hhas.out _).mono ?_; rintro e w1 ⟨rfl, hw⟩; subst w1)
    go_ret3
    exact ⟨rfl, Below.refl _ _⟩
  | cons a t =>
    rw [hL] at hhas
    by_cases ha : a = 60
    · subst ha
      have hd : hdB (60 :: t) 60 = true := rfl
      rcases part_first 62 t with hn | ⟨u, y, rfl, hu⟩
      · have HI := (show Hid _ from fun w => index_at s 62 62 rfl (-1) (by rw [hL]; exact idx_neg _ _ (by simp; exact hn)) w)
        have HE := (show Hid _ from auto_none hn)
        clear hq hm hlen hL hn
        go_enter Tryz.func34, Tryz.ntmps34
        go_wp2_with (first
          | (go_at_call 48; refine (hhas.out _).mono ?_; rintro e w1 ⟨rfl, hw⟩; subst w1)
          | (go_at_call 49; refine (HI.out _).mono ?_; rintro e w1 ⟨rfl, hw⟩; subst w1))
        go_ret3
        exact ⟨by rw [HE.out]; rfl, Below.refl _ _⟩
      · have HI := (show Hid _ from fun w => index_at s 62 62 rfl ((u.length : Int) + 1) (by
          rw [hL]
          have := idx_first (c := 62) (h := 60 :: u) (by simp; exact hu) y
          rw [show (60 :: (u ++ 62 :: y)) = (60 :: u) ++ 62 :: y from rfl, this]
          simp) w)
        have hus := hq u y hL hu
        have hsz : u.length + 2 + y.length = s.size := by rw [← hlen, hL]; simp; omega
        have hext := ext_mid hL
        have HE := (show Hid _ from auto_code hu y)
        have t1 : ¬ ((u.length : Int) + 1 < 0) := by omega
        have t2 : (u.length : Int) + 1 ≤ (s.size : Int) := by omega
        have t3 : (u.length : Int) + 1 + 1 ≤ (s.size : Int) := by omega
        obtain ⟨T, hT⟩ : ∃ T : ByteArray, T = ⟨u.toArray⟩ := ⟨_, rfl⟩
        have hTd : T.data.toList = u := by rw [hT]
        have hTs : T.size = u.length := by rw [← len_data, hTd]
        rw [← hT] at hext
        have HPl := (show Hid _ from fun w => place_any T (by omega) w)
        have HMl : Hid (∀ w, ML w → Calls Tryz.prog 51 #[.string T] w fun e w' => e = .returned (.bool (mailP u)) ∧ Below w.heap.size w w') := fun w hm => by rw [← hTd]; exact mail_any T (by omega) w hm
        rw [hTd] at HPl
        have HT := (show Hid _ from hT)
        have hTb : T.size + 2 ≤ s.size := by omega
        have hsl : ∀ w, (Instr.slice 9 (.string s) (some (.int .i64 1)) (some (.int .i64 ((u.length : Int) + 1))) none).run Tryz.prog w = .ok (.string T) w := fun w => by
          rw [run_slice_string w 9 s .i64 .i64 _ _ Tryz.underlying9 (by omega) (by omega) (by omega), show ((1 : Int)).toNat = 1 from rfl, show ((u.length : Int) + 1).toNat = u.length + 1 by omega, hext]
        clear hq hlen hL hT hTd hTs hsz hus hu hext
        cases hpl : placeP u
        · cases hml : mailP u
          · rw [hpl, hml] at HE
            go_enter Tryz.func34, Tryz.ntmps34
            go_wp2_with (first
              | (go_at_call 48; refine (hhas.out _).mono ?_; rintro e w1 ⟨rfl, hw⟩; subst w1)
              | (go_at_call 49; refine (HI.out _).mono ?_; rintro e w1 ⟨rfl, hw⟩; subst w1)
              | (go_at_call 50; refine (HPl.out _).mono ?_; rintro e w1 ⟨rfl, hw⟩; subst w1)
              | (go_at_call 51; refine (HMl.out _ hm).mono ?_; rintro e w1 ⟨rfl, hb1⟩))
            go_ret3
            exact ⟨by rw [HE.out]; rfl, hb1⟩
          · rw [hpl, hml] at HE
            go_enter Tryz.func34, Tryz.ntmps34
            go_wp2_with (first
              | (go_at_call 48; refine (hhas.out _).mono ?_; rintro e w1 ⟨rfl, hw⟩; subst w1)
              | (go_at_call 49; refine (HI.out _).mono ?_; rintro e w1 ⟨rfl, hw⟩; subst w1)
              | (go_at_call 50; refine (HPl.out _).mono ?_; rintro e w1 ⟨rfl, hw⟩; subst w1)
              | (go_at_call 51; refine (HMl.out _ hm).mono ?_; rintro e w1 ⟨rfl, hb1⟩))
            go_ret3
            refine ⟨?_, hb1⟩
            rw [HE.out, HT.out]
            show Ending.returned (.tuple #[.string (ByteArray.mk #[109, 97, 105, 108, 116, 111, 58] ++ ByteArray.mk u.toArray), .string ⟨u.toArray⟩, .int .i64 _]) = .returned (.tuple #[.string ⟨([109, 97, 105, 108, 116, 111, 58] ++ u).toArray⟩, .string ⟨u.toArray⟩, .int .i64 ((u.length + 2 : Nat) : Int)])
            rw [show ByteArray.mk #[109, 97, 105, 108, 116, 111, 58] ++ ByteArray.mk u.toArray = ⟨([109, 97, 105, 108, 116, 111, 58] ++ u).toArray⟩ from cat_eq [109, 97, 105, 108, 116, 111, 58] u]
            rw [show ((u.length + 2 : Nat) : Int) = (u.length : Int) + 1 + 1 by omega]
        · rw [hpl] at HE
          go_enter Tryz.func34, Tryz.ntmps34
          go_wp2_with (first
            | (go_at_call 48; refine (hhas.out _).mono ?_; rintro e w1 ⟨rfl, hw⟩; subst w1)
            | (go_at_call 49; refine (HI.out _).mono ?_; rintro e w1 ⟨rfl, hw⟩; subst w1)
            | (go_at_call 50; refine (HPl.out _).mono ?_; rintro e w1 ⟨rfl, hw⟩; subst w1))
          go_ret3
          refine ⟨?_, Below.refl _ _⟩
          rw [HE.out, HT.out]
          show _ = Ending.returned (.tuple #[.string ⟨u.toArray⟩, .string ⟨u.toArray⟩, .int .i64 ((u.length + 2 : Nat) : Int)])
          rw [show ((u.length + 2 : Nat) : Int) = (u.length : Int) + 1 + 1 by omega]
          rfl
    · have hd : hdB (a :: t) 60 = false := by simpa [hdB] using ha
      have HE : Hid (autoL (a :: t) = none) := by show _ = _; simp [autoL, ha]
      clear hq hm hlen hL
      go_enter Tryz.func34, Tryz.ntmps34
      go_wp2_with (go_at_call 48; refine (hhas.out _).mono ?_; rintro e w1 ⟨rfl, hw⟩; subst w1)
      go_ret3
      exact ⟨by rw [HE.out]; rfl, Below.refl _ _⟩

theorem auto_any (s : ByteArray) (hs : s.size < 4294967281) (w : World) (hm : ML w) :
    Calls Tryz.prog 34 #[.string s] w fun e w' => e = .returned (autoV (autoL s.data.toList)) ∧ Below w.heap.size w w' :=
  auto_at s (by omega) (fun u y e _ => by have := congrArg List.length e; rw [len_data] at this; simp at this; omega) w hm

end Go.Proofs.YtjdijlaoeoikhaaGreatDoor
