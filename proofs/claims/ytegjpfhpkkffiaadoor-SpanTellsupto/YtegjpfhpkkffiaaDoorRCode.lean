/- The document's answer for span: Code, walked. -/
import Derived.Test.YtegjpfhpkkffiaaDoorRInner
import Derived.Test.YtegjpfhpkkffiaaDoorSCode2
set_option linter.unusedVariables false
namespace Go.Proofs.YtegjpfhpkkffiaaDoor
open Go.RowKit

set_option maxHeartbeats 4000000 in
/-- Code, of any text. -/
theorem rcode_any (s : ByteArray) (hs : s.size < 4294967281) (w : World) :
    Calls Tryd.prog 11 #[.string s] w fun e w' => e = .returned (codeV (codeL s.data.toList)) ∧ Below w.heap.size w w' := by
  obtain ⟨L, hL⟩ : ∃ L, s.data.toList = L := ⟨_, rfl⟩
  have hsL : Suf s L := by rw [← hL]; exact Suf.whole s
  have h0 : (0 : Int) = (pos s L : Int) := by rw [← hL, pos_whole]; rfl
  obtain ⟨k, hk⟩ : ∃ k, k = runL L := ⟨_, rfl⟩
  have hac0 : Hid (∀ w, Calls Tryd.prog 22 #[.string s, .int .i64 0] w fun e w' => e = .returned (.int .i64 (k : Int)) ∧ w' = w) := fun w => by rw [hk]; exact rrun_any s (by omega) L hsL 0 h0 w
  rw [hL]
  have hkl := run_le L
  rw [← hk] at hkl
  have hll : L.length = s.size := by rw [← hL, len_data]
  rcases Nat.eq_zero_or_pos k with hk0 | hk0
  · have HC : Hid (codeL L = none) := by show _ = _; unfold codeL; rw [if_pos (by omega)]
    clear hk h0
    subst hk0
    go_enter Tryd.func11, Tryd.ntmps11
    go_wp2_with (go_at_call 22; refine (hac0.out _).mono ?_; rintro e w1 ⟨rfl, hw⟩; subst w1)
    go_ret2
    exact ⟨by rw [HC.out]; rfl, Below.refl _ _⟩
  · obtain ⟨R, hR⟩ : ∃ R, R = L.drop k := ⟨_, rfl⟩
    have hsR : Suf s R := by rw [hR]; exact hsL.drop k
    have hRl : R.length + k = s.size := by rw [hR, List.length_drop]; omega
    have hpR : pos s R = k := by have := hsR.sum; omega
    have HC : Hid (codeL L = match scanC k 0 R with | none => none | some m => some (innerL (R.take (m - k)), k + m)) := by
      show _ = _
      unfold codeL
      rw [if_neg (by omega), ← hk, ← hR]
      rfl
    have hne : ((k : Int) == 0) = false := by rw [beq_eq_false_iff_ne]; omega
    have hne2 : ¬ (k : Int) = 0 := by omega
    have HRL := (show Hid _ from hRl)
    have HPR := (show Hid _ from hpR)
    clear hk h0 hR hL hll hkl hRl hpR
    have hle : (k : Int) ≤ s.size := by have := HRL.out; omega
    go_enter Tryd.func11, Tryd.ntmps11
    go_wp2_with (go_at_call 22; refine (hac0.out _).mono ?_; rintro e w1 ⟨rfl, hw⟩; subst w1)
    go_loop [5] (fun A => ∃ l' : List UInt8, A = .int .i64 (pos s l' : Int) ∧ Hid (Suf s l') ∧ Hid (l'.length ≤ R.length ∧ scanC k 0 R = (scanC k 0 l').map (· + (R.length - l'.length)))) (fun A => s.size - (intOf A).toNat)
    case atStart => exact ⟨R, by rw [HPR.out], hsR, Nat.le_refl _, by simp⟩
    case round =>
      obtain ⟨l', rfl, h1, h2⟩ := hrel
      cases hl' : l' with
      | nil =>
        subst hl'
        have hp : pos s [] = s.size := pos_nil s
        have HE : Hid (codeL L = none) := by
          show _ = _
          have h3 : scanC k 0 [] = none := by simp only [scanC]; rw [if_neg (by omega)]
          rw [HC.out, h2.out.2, h3]
          rfl
        go_wp2
        go_ret2
        exact ⟨by rw [HE.out]; rfl, Below.refl _ _⟩
      | cons b t =>
        rw [← hl']
        have hnil : l' ≠ [] := by rw [hl']; simp
        have hlt : pos s l' < s.size := by have := h1.out; rw [hl'] at this ⊢; exact this.lt
        have hrl := run_le l'
        have hsum := h1.out.sum
        have HS := (show Hid _ from scan_step k hk0 l')
        obtain ⟨r, hr⟩ : ∃ r, r = runL l' := ⟨_, rfl⟩
        rw [← hr] at hrl HS
        have hac : Hid (∀ w, Calls Tryd.prog 22 #[.string s, .int .i64 (pos s l' : Int)] w fun e w' => e = .returned (.int .i64 (r : Int)) ∧ w' = w) := fun w => by rw [hr]; exact rrun_any s (by omega) l' h1.out _ rfl w
        have hb : (pos s l' : Int) + (r : Int) ≤ (s.size : Int) := by omega
        clear hr hl'
        by_cases hrk : r = k
        · subst hrk
          have hkp : (r : Int) ≤ (pos s l' : Int) := by have := HRL.out; have := h2.out.1; omega
          have hpp : r = pos s R := HPR.out.symm
          obtain ⟨T, hT⟩ : ∃ T, T = s.extract r (pos s l') := ⟨_, rfl⟩
          have hTe : T = ⟨(R.take (R.length - l'.length)).toArray⟩ := by
            rw [hT]
            conv => lhs; rw [hpp]
            exact hsR.between h1.out
          have hTs : T.size ≤ s.size := by rw [hT, ByteArray.size_extract]; omega
          obtain ⟨X, hX⟩ : ∃ X : ByteArray, X = ⟨(innerL T.data.toList).toArray⟩ := ⟨_, rfl⟩
          have hct : Hid (Calls Tryd.prog 23 #[.string (s.extract r (pos s l'))] w fun e w' => e = .returned (.string X) ∧ Below w.heap.size w w') := by rw [hX, ← hT]; exact rinner_any T (by omega) w
          have HX := (show Hid _ from hX)
          have HE : Hid (codeL L = some (innerL T.data.toList, pos s l' + r)) := by
            show _ = _
            rw [HC.out, h2.out.2, HS.out, if_pos rfl, hTe]
            simp only [Option.map_some]
            have h3 := HRL.out
            have h4 := h2.out.1
            rw [show r + (R.length - l'.length) - r = R.length - l'.length by omega, show r + (r + (R.length - l'.length)) = pos s l' + r by omega]
          clear hTe hpp hTs hX hT
          go_wp2_with (first
            | (go_at_call 22; refine (hac.out _).mono ?_; rintro e w1 ⟨rfl, hw⟩; subst w1)
            | (go_at_call 23; refine hct.out.mono ?_; rintro e w1 ⟨rfl, hb1⟩))
          go_ret2
          exact ⟨by rw [HE.out, HX.out]; rfl, hb1⟩
        · have t1 : ¬ (r : Int) = (k : Int) := by omega
          have t2 : ((r : Int) == (k : Int)) = false := by rw [beq_eq_false_iff_ne]; exact t1
          have HS2 : Hid (scanC k 0 R = (scanC k 0 (l'.drop (max r 1))).map (· + (R.length - (l'.drop (max r 1)).length)) ∧ (l'.drop (max r 1)).length ≤ R.length ∧ pos s (l'.drop (max r 1)) = pos s l' + max r 1) := by
            have h3 := h2.out.1
            have hm1 : max r 1 ≤ l'.length := by
              have : 0 < l'.length := List.length_pos_iff.2 hnil
              omega
            refine ⟨?_, by rw [List.length_drop]; omega, by unfold pos; rw [List.length_drop]; omega⟩
            rw [h2.out.2, HS.out, if_neg hrk, if_neg hnil, Option.map_map]
            congr 1
            funext x
            simp only [Function.comp_apply, List.length_drop]
            omega
          clear hrk HS
          rcases Nat.eq_zero_or_pos r with h0 | h0
          · subst h0
            go_wp2_with (go_at_call 22; refine (hac.out _).mono ?_; rintro e w1 ⟨rfl, hw⟩; subst w1)
            go_round
            case rel =>
              refine ⟨l'.drop (max 0 1), ?_, h1.out.drop _, HS2.out.2.1, HS2.out.1⟩
              rw [HS2.out.2.2]
              go_num
            case measure => simp [intOf]; omega
          · have t3 : (1 : Int) ≤ (r : Int) := by omega
            have t4 : ¬ (r : Int) = 0 := by omega
            go_wp2_with (go_at_call 22; refine (hac.out _).mono ?_; rintro e w1 ⟨rfl, hw⟩; subst w1)
            all_goals
              go_round
              case rel =>
                refine ⟨l'.drop (max r 1), ?_, h1.out.drop _, HS2.out.2.1, HS2.out.1⟩
                rw [HS2.out.2.2]
                first | go_num | (congr 1; omega)
              case measure => simp [intOf]; omega

end Go.Proofs.YtegjpfhpkkffiaaDoor
