/- Package link: enclosed, inside; walked. -/
import Derived.Test.YtadghfgjdfgopaaDoorKBase
set_option linter.unusedVariables false
namespace Go.Proofs.YtadghfgjdfgopaaDoor
open Go.RowKit

theorem scan_bad {stop : UInt8} {bad : UInt8 → Bool} {b : UInt8} (h1 : b ≠ stop) (h2 : bad b = true) : ∀ t, scanU stop bad (b :: t) = none
  | [] => by simp [scanU, h1]
  | c :: t => by simp [scanU, h1, h2]

theorem scan_step {stop : UInt8} {bad : UInt8 → Bool} {b : UInt8} (h1 : b ≠ stop) (h2 : bad b = false) : ∀ t, scanU stop bad (b :: t) = scanU stop bad ((b :: t).drop (stepL (b :: t)))
  | [] => by simp [scanU, h1, stepL]
  | c :: t => by
    by_cases h3 : b = 92 ∧ markN c.toNat = true
    · rw [scan_two h1 h2 h3]
      simp only [stepL]
      rw [if_pos h3]
      rfl
    · rw [scan_next h1 h2 h3]
      simp only [stepL]
      rw [if_neg h3]
      rfl

theorem step_le : ∀ (b : UInt8) (t : List UInt8), 1 ≤ stepL (b :: t) ∧ stepL (b :: t) ≤ (b :: t).length
  | b, [] => by simp [stepL]
  | b, c :: t => by
    simp only [stepL]
    split <;> simp

theorem pos_drop {s : ByteArray} {l : List UInt8} (h : Suf s l) {n : Nat} (hn : n ≤ l.length) : pos s (l.drop n) = pos s l + n := by
  have := h.le
  unfold pos
  rw [List.length_drop]
  omega

set_option maxHeartbeats 2000000 in
set_option maxRecDepth 8000 in
theorem kencl_any (s : ByteArray) (hs : s.size ≤ 9223372036854775000) (first last : UInt8) (x y : Int) (hx : x = (first.toNat : Int)) (hy : y = (last.toNat : Int)) (never : ByteArray) (bad : UInt8 → Bool) (hb : ∀ b, never.data.toList.elem b = bad b) (w : World) :
    Calls Tryd.prog 21 #[.string s, .int .u8 x, .int .u8 y, .string never] w fun e w' => e = .returned (.int .i64 (enclL first last bad s.data.toList : Int)) ∧ w' = w := by
  subst hx
  subst hy
  have HB : Hid (∀ b, never.data.toList.elem b = bad b) := hb
  clear hb
  cases hl : s.data.toList with
  | nil =>
    have H0 := (show Hid _ from fun w => khas_any s [] (Suf.nil s) 0 (by rw [pos_nil]; have := len_data s; rw [hl] at this; simp at this; omega) first _ rfl w)
    clear hl
    go_enter Tryd.func21, Tryd.ntmps21
    go_wp2_with (go_at_call 24; refine (H0.out _).mono ?_; rintro e w' ⟨rfl, rfl⟩)
    go_ret
    exact ⟨rfl, rfl⟩
  | cons a t =>
    have hw : Suf s (a :: t) := Suf.head hl
    have hp0 : pos s (a :: t) = 0 := pos_of (p := []) hl
    have H0 := (show Hid _ from fun w => khas_any s (a :: t) hw 0 (by rw [hp0]; rfl) first _ rfl w)
    have HE : Hid (enclL first last bad (a :: t) = if a = first then (match scanU last bad t with
      | none => 0
      | some r => t.length - r.length + 1) else 0) := rfl
    have HL : Hid (s.size = t.length + 1) := by show _ = _; rw [← len_data, hl]; rfl
    by_cases ha : a = first
    · have hh : hdB (a :: t) first = true := by simp [hdB, ha]
      rw [hh] at H0
      have HW : Hid (Suf s t) := hw.tail
      have HP : Hid (pos s t = 1) := by show _ = _; rw [hw.succ, hp0]
      have HF : Hid (enclL first last bad (a :: t) = match scanU last bad t with
        | none => 0
        | some r => t.length - r.length + 1) := by show _ = _; rw [HE.out, if_pos ha]
      clear hl hp0 hh ha HE
      go_enter Tryd.func21, Tryd.ntmps21
      go_wp2_with (go_at_call 24; refine (H0.out _).mono ?_; rintro e w' ⟨rfl, hw'⟩; subst w')
      go_loopw [9] (fun A wr => ∃ l' : List UInt8, A = .int .i64 (pos s l' : Int) ∧ Hid (wr = w) ∧ Hid (Suf s l') ∧ Hid (scanU last bad t = scanU last bad l')) (fun A _ => s.size - (intOf A).toNat)
      case atStart => exact ⟨t, by rw [HP.out]; rfl, rfl, HW.out, rfl⟩
      case round =>
        obtain ⟨l', rfl, hbw, h1, h2⟩ := hrel
        cases l' with
        | nil =>
          have hp : pos s [] = s.size := pos_nil s
          go_wp2
          go_ret
          refine ⟨ret_int ?_, hbw.out⟩
          rw [HF.out, h2.out]
          rfl
        | cons b u =>
          have hlt := h1.out.lt
          have hbb := h1.out.byte hlt
          by_cases hstop : b = last
          · subst hstop
            have hle : (pos s (b :: u) : Int) + 1 ≤ (s.size : Int) := by omega
            go_wp2
            go_ret
            refine ⟨ret_int ?_, hbw.out⟩
            rw [HF.out, h2.out, scan_one]
            have e1 := h1.out.sum
            have e2 := HL.out
            simp only [List.length_cons] at e1
            show (pos s (b :: u) : Int) + 1 = ((t.length - u.length + 1 : Nat) : Int)
            omega
          · have q : ((b.toNat : Int) == (last.toNat : Int)) = false := by
              rw [beq_eq_false_iff_ne]
              intro h
              exact hstop (UInt8.toNat_inj.1 (by omega))
            cases hbad : bad b
            · have HI : Hid (never.data.toList.elem b = false) := by show _ = _; rw [HB.out, hbad]
              have HS := (show Hid _ from fun w => kstep_any s hs b u h1.out w)
              have hst := step_le b u
              have e1 := h1.out.sum
              have HN : Hid (scanU last bad t = scanU last bad ((b :: u).drop (stepL (b :: u)))) := h2.out.trans (scan_step hstop hbad u)
              have HD : Hid (pos s ((b :: u).drop (stepL (b :: u))) = pos s (b :: u) + stepL (b :: u)) := pos_drop h1.out hst.2
              generalize stepL (b :: u) = k at *
              clear hbad hstop
              have hk1 : (pos s (b :: u) : Int) + (k : Int) ≤ (s.size : Int) := by omega
              have hk2 : 1 ≤ (k : Int) := by omega
              go_wp2_with (first
                | (go_at_call 41; refine (kamong_any _ _ _).mono ?_; rintro e w' ⟨⟨i, rfl, _, hi⟩, rfl⟩; have hi2 := hi HI.out; clear hi)
                | (go_at_call 26; refine (HS.out _).mono ?_; rintro e w' ⟨rfl, rfl⟩))
              go_roundw
              case rel =>
                refine ⟨(b :: u).drop k, ?_, hbw, h1.out.drop k, HN⟩
                rw [HD.out]
                go_num
              case measure => simp [intOf]; omega
            · have HI : Hid (never.data.toList.elem b = true) := by show _ = _; rw [HB.out, hbad]
              go_wp2_with (go_at_call 41; refine (kamong_any _ _ _).mono ?_; rintro e w' ⟨⟨i, rfl, hi, _⟩, rfl⟩; have hi2 := hi HI.out; clear hi)
              go_ret
              refine ⟨ret_int ?_, hbw.out⟩
              rw [HF.out, h2.out, scan_bad hstop hbad]
              rfl
    · have hh : hdB (a :: t) first = false := by simp [hdB, ha]
      rw [hh] at H0
      have HF : Hid (enclL first last bad (a :: t) = 0) := by show _ = _; rw [HE.out, if_neg ha]
      clear hl hp0 hh ha HE HL
      go_enter Tryd.func21, Tryd.ntmps21
      go_wp2_with (go_at_call 24; refine (H0.out _).mono ?_; rintro e w' ⟨rfl, rfl⟩)
      go_ret
      exact ⟨ret_int (by rw [HF.out]; rfl), rfl⟩

/-- What stands between, unescaped. -/
theorem kinside_any (s : ByteArray) (hs : s.size ≤ 9223372036854775000) (n : Nat) (hm : n ≤ 140737488351232) (hn : n ≤ s.size) (h2 : n = 0 ∨ 2 ≤ n) (w : World) :
    Calls Tryd.prog 25 #[.string s, .int .i64 (n : Int)] w fun e w' => e = .returned (.string ⟨(if n = 0 then [] else unesc ((s.data.toList.drop 1).take (n - 2))).toArray⟩) ∧ Below w.heap.size w w' := by
  rcases h2 with rfl | h2
  · go_enter Tryd.func25, Tryd.ntmps25
    go_wp2
    go_ret
    exact ⟨rfl, Below.refl _ _⟩
  · have hx : s.extract 1 (n - 1) = ⟨((s.data.toList.drop 1).take (n - 2)).toArray⟩ := by rw [extract_eq, show n - 1 - 1 = n - 2 by omega]
    have hz : (s.extract 1 (n - 1)).size ≤ 140737488351232 := by rw [ByteArray.size_extract]; omega
    have HU := (show Hid _ from fun w => esc.unesc_any (s.extract 1 (n - 1)) w hz)
    have HV : Hid ((s.extract 1 (n - 1)).data.toList = (s.data.toList.drop 1).take (n - 2)) := by show _ = _; rw [hx]
    rw [HV.out] at HU
    have hq : ((n : Int) == 0) = false := by simp; omega
    have hq2 : (n : Int) - 1 = ((n - 1 : Nat) : Int) := by omega
    have hq3 : 1 ≤ n - 1 := by omega
    have hq4 : n - 1 ≤ s.size := by omega
    rw [if_neg (by omega)]
    clear hx hz HV
    generalize unesc ((s.data.toList.drop 1).take (n - 2)) = U at *
    go_enter Tryd.func25, Tryd.ntmps25
    go_wp2_with (go_at_call 27; refine (HU.out _).mono ?_; rintro e w' ⟨rfl, hb⟩)
    go_ret
    exact ⟨rfl, hb⟩

end Go.Proofs.YtadghfgjdfgopaaDoor
