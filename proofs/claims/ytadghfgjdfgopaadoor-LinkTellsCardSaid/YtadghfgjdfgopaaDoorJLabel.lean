/- The document's escaped and Label in layer 6; walked. -/
import Derived.Test.YtadghfgjdfgopaaDoorKDefine
import Derived.Test.YtadghfgjdfgopaaDoorRunRef
import Derived.Test.YtadghfgjdfgopaaDoorEscRef
set_option linter.unusedVariables false
namespace Go.Proofs.YtadghfgjdfgopaaDoor
open Go.RowKit

theorem jmark_any (c : UInt8) (w : World) :
    Calls Tryd.prog 44 #[.int .i64 (c.toNat : Int)] w fun e w' => e = .returned (.bool (markN c.toNat)) ∧ w' = w := by
  refine (run.refmark_any (c.toNat : Int) w).mono ?_
  rintro e w' ⟨rfl, h⟩
  refine ⟨ret_bool ?_, h.symm⟩
  rw [Bool.eq_iff_iff]
  simp only [run.markB, markN, decide_eq_true_eq]
  omega

def escB (l : List UInt8) : Bool := decide (stepL l = 2)

set_option maxHeartbeats 1000000 in
theorem jesc_any (s : ByteArray) (hs : s.size ≤ 9223372036854775000) (b : UInt8) (t : List UInt8) (hl : Suf s (b :: t)) (w : World) :
    Calls Tryd.prog 23 #[.string s, .int .i64 (pos s (b :: t) : Int)] w fun e w' => e = .returned (.bool (escB (b :: t))) ∧ w' = w := by
  have hlt := hl.lt
  have hb := hl.byte hlt
  by_cases h92 : b = 92
  · subst h92
    have hc : ((92 : UInt8).toNat : Int) = 92 := rfl
    cases t with
    | nil =>
      have hp : ¬ (pos s [92] : Int) + 1 < (s.size : Int) := by have := hl.sum; simp at this; omega
      go_enter Tryd.func23, Tryd.ntmps23
      go_wp2
      go_ret
      exact ⟨rfl, rfl⟩
    | cons c u =>
      have hlt2 := hl.tail.lt
      have hb2 := hl.tail.byte hlt2
      have e2 := hl.succ
      have hlt3 : pos s (92 :: c :: u) + 1 < s.size := by omega
      have hb3 : s[pos s (92 :: c :: u) + 1] = c := by rw [← hb2]; congr 1; exact e2.symm
      have hp : (pos s (92 :: c :: u) : Int) + 1 < (s.size : Int) := by omega
      have hp2 : 0 ≤ (pos s (92 :: c :: u) : Int) + 1 := by omega
      have hcb : (c.toNat : Int) ≤ 255 := by have := c.toNat_lt; omega
      have hcb0 : 0 ≤ (c.toNat : Int) := by omega
      clear hb2 hlt2 e2
      have HS : Hid (escB (92 :: c :: u) = markN c.toNat) := by
        show _ = _
        have e : stepL (92 :: c :: u) = if markN c.toNat = true then 2 else 1 := by simp [stepL]
        unfold escB
        rw [e]
        cases markN c.toNat <;> rfl
      have HM := (show Hid _ from fun w => jmark_any c w)
      generalize markN c.toNat = m at *
      cases m
      all_goals
        go_enter Tryd.func23, Tryd.ntmps23
        go_wp2_with (go_at_call 44; refine (HM.out _).mono ?_; rintro e w' ⟨rfl, hw'⟩; subst w')
        go_ret
        exact ⟨ret_bool HS.out.symm, rfl⟩
  · have hn : ¬ (b.toNat : Int) = 92 := by intro h; exact h92 (UInt8.toNat_inj.1 (by show _ = 92; omega))
    have hn2 : ((b.toNat : Int) == 92) = false := by simpa using hn
    have HS : Hid (escB (b :: t) = false) := by
      show _ = _
      unfold escB
      cases t with
      | nil => rfl
      | cons c u =>
        have e : stepL (b :: c :: u) = 1 := by simp only [stepL]; rw [if_neg (fun x => h92 x.1)]
        rw [e]
        rfl
    go_enter Tryd.func23, Tryd.ntmps23
    go_wp2
    go_ret
    exact ⟨ret_bool HS.out.symm, rfl⟩

theorem esc_cases (b : UInt8) (t : List UInt8) : (escB (b :: t) = false ∧ stepL (b :: t) = 1) ∨ (escB (b :: t) = true ∧ stepL (b :: t) = 2 ∧ 2 ≤ (b :: t).length) := by
  have h := step_le b t
  unfold escB
  have h2 : stepL (b :: t) = 1 ∨ stepL (b :: t) = 2 := by
    cases t with
    | nil => exact .inl rfl
    | cons c u => simp only [stepL]; split <;> simp
  rcases h2 with e | e
  · exact .inl ⟨by rw [e]; rfl, e⟩
  · exact .inr ⟨by rw [e]; rfl, e, by omega⟩

set_option maxHeartbeats 4000000 in
set_option maxRecDepth 8000 in
theorem jlabel_at (s : ByteArray) (hs : s.size ≤ 9223372036854775000) (v : List UInt8) (z : Nat) (h : Hid (pairL (labelL s.data.toList) = (v, z))) (w : World) :
    Calls Tryd.prog 10 #[.string s] w fun e w' => e = .returned (.tuple #[.string ⟨v.toArray⟩, .int .i64 (z : Int)]) ∧ Below w.heap.size w w' := by
  cases hl : s.data.toList with
  | nil =>
    have he : s.toList.isEmpty = true := nil_text s _ (by rw [hl]; rfl)
    have HV : Hid ((v, z) = (([] : List UInt8), 0)) := by have := h.out; rw [hl] at this; exact this.symm
    clear hl h
    go_enter Tryd.func10, Tryd.ntmps10
    go_wp2
    go_ret2
    exact ⟨two_none HV, Below.refl _ _⟩
  | cons a t =>
    have he : s.toList.isEmpty = false := nil_text s _ (by rw [hl]; rfl)
    have hw : Suf s (a :: t) := Suf.head hl
    have hp0 : pos s (a :: t) = 0 := pos_of (p := []) hl
    have hz : 0 < s.size := by rw [← len_data, hl]; simp
    have hb0 : s[0] = a := by have := hw.byte (by rw [hp0]; exact hz); simpa [hp0] using this
    have HL : Hid (s.size = t.length + 1) := by show _ = _; rw [← len_data, hl]; rfl
    have HA : Hid (s.data.toList = a :: t) := hl
    have hd := h.out
    rw [hl] at hd
    clear h hl
    by_cases ha : a = 91
    · subst ha
      have HD : Hid ((v, z) = pairL (match scanU 93 (· == 91) t with
        | none => none
        | some r => if 1 ≤ t.length - (r.length + 1) ∧ t.length - (r.length + 1) ≤ 999 ∧ fold (t.take (t.length - (r.length + 1))) ≠ [] then some (t.take (t.length - (r.length + 1)), t.length - r.length + 1) else none)) := by
        show _ = _
        rw [← hd]
        rfl
      have HW : Hid (Suf s t) := hw.tail
      have HP : Hid (pos s t = 1) := by show _ = _; rw [hw.succ, hp0]
      clear hd hp0 hw
      go_enter Tryd.func10, Tryd.ntmps10
      go_wp2
      go_loopw [4] (fun A wr => ∃ l' : List UInt8, A = .int .i64 (pos s l' : Int) ∧ Hid (wr = w) ∧ Hid (1 ≤ pos s l') ∧ Hid (Suf s l') ∧ Hid (scanU 93 (· == 91) t = scanU 93 (· == 91) l')) (fun A _ => s.size - (intOf A).toNat)
      case atStart => exact ⟨t, by rw [HP.out]; rfl, rfl, by rw [HP.out]; exact Nat.le_refl 1, HW.out, rfl⟩
      case round =>
        obtain ⟨l', rfl, hbw, hp1, h1, h2⟩ := hrel
        have hwr := hbw.out
        subst hwr
        have hp1' := hp1.out
        cases l' with
        | nil =>
          have hp : pos s [] = s.size := pos_nil s
          have HV : Hid ((v, z) = (([] : List UInt8), 0)) := by show _ = _; rw [HD.out, h2.out]; rfl
          go_wp2
          go_ret2
          exact ⟨two_none HV, Below.refl _ _⟩
        | cons b u =>
          have hlt := h1.out.lt
          have hbb := h1.out.byte hlt
          have hle : ¬ (s.size : Int) ≤ (pos s (b :: u) : Int) := by omega
          have hle2 : (pos s (b :: u) : Int) + 1 ≤ (s.size : Int) := by omega
          have hcase : b = 93 ∨ b = 91 ∨ (b ≠ 93 ∧ b ≠ 91) := by
            by_cases c1 : b = 93
            · exact .inl c1
            · by_cases c2 : b = 91
              · exact .inr (.inl c2)
              · exact .inr (.inr ⟨c1, c2⟩)
          rcases hcase with rfl | rfl | ⟨n1, n2⟩
          · -- the end
            have e1 := h1.out.sum
            have e2 := HL.out
            simp only [List.length_cons] at e1
            have hn : t.length - (u.length + 1) = pos s (93 :: u) - 1 := by omega
            have hn2 : t.length - u.length + 1 = pos s (93 :: u) + 1 := by omega
            have HV : Hid ((v, z) = pairL (if 1 ≤ pos s (93 :: u) - 1 ∧ pos s (93 :: u) - 1 ≤ 999 ∧ fold (t.take (pos s (93 :: u) - 1)) ≠ [] then some (t.take (pos s (93 :: u) - 1), pos s (93 :: u) + 1) else none)) := by
              show _ = _
              rw [HD.out, h2.out, scan_one]
              simp only
              rw [hn, hn2]
            clear hn hn2 e1 e2
            by_cases k1 : pos s (93 :: u) = 1
            · have HV2 : Hid ((v, z) = (([] : List UInt8), 0)) := by show _ = _; rw [HV.out, if_neg (by rintro ⟨x, _, _⟩; omega)]; rfl
              have t1 : (pos s (93 :: u) : Int) - 1 < 1 := by omega
              have t0 : 0 ≤ (pos s (93 :: u) : Int) - 1 := by omega
              clear k1
              go_wp2
              go_ret2
              exact ⟨two_none HV2, Below.refl _ _⟩
            · have t1 : ¬ (pos s (93 :: u) : Int) - 1 < 1 := by omega
              by_cases k2 : 1000 < pos s (93 :: u)
              · have HV2 : Hid ((v, z) = (([] : List UInt8), 0)) := by show _ = _; rw [HV.out, if_neg (by rintro ⟨_, x, _⟩; omega)]; rfl
                have t2 : 999 < (pos s (93 :: u) : Int) - 1 := by omega
                clear k1 k2
                go_wp2
                go_ret2
                exact ⟨two_none HV2, Below.refl _ _⟩
              · have t2 : ¬ 999 < (pos s (93 :: u) : Int) - 1 := by omega
                obtain ⟨q, hq⟩ : ∃ q, s.extract 1 (pos s (93 :: u)) = q := ⟨_, rfl⟩
                have hql : q = ⟨(t.take (pos s (93 :: u) - 1)).toArray⟩ := by rw [← hq, extract_eq, HA.out]; rfl
                have HF := (show Hid _ from fun w => run.reffold_any q w (by rw [← hq, ByteArray.size_extract]; omega))
                have hqd : q.data.toList = t.take (pos s (93 :: u) - 1) := by rw [hql]
                rw [hqd] at HF
                have HQ := (show Hid _ from hql)
                have t3 : (1 : Int) ≤ (pos s (93 :: u) : Int) := by omega
                cases hfo : fold (t.take (pos s (93 :: u) - 1)) with
                | nil =>
                  rw [hfo] at HF
                  have HV2 : Hid ((v, z) = (([] : List UInt8), 0)) := by show _ = _; rw [HV.out, if_neg (by rintro ⟨_, _, x⟩; exact x hfo)]; rfl
                  clear hfo k1 k2 hql hqd
                  go_wp2_with (go_at_call 17; refine (HF.out _).mono ?_; rintro e w1 ⟨rfl, hb1⟩)
                  go_ret2
                  exact ⟨two_none HV2, hb1⟩
                | cons x y =>
                  rw [hfo] at HF
                  have HV2 : Hid ((v, z) = (t.take (pos s (93 :: u) - 1), pos s (93 :: u) + 1)) := by show _ = _; rw [HV.out, if_pos ⟨by omega, by omega, by rw [hfo]; simp⟩]; rfl
                  generalize hG : ByteArray.mk (x :: y).toArray = G at *
                  have hGe : G.toList.isEmpty = false := nil_text G _ (by rw [← hG]; rfl)
                  clear hfo k1 k2 hql hqd hG
                  go_wp2_with (go_at_call 17; refine (HF.out _).mono ?_; rintro e w1 ⟨rfl, hb1⟩)
                  go_ret2
                  exact ⟨two_some HV2 HQ.out rfl, hb1⟩
          · have HV : Hid ((v, z) = (([] : List UInt8), 0)) := by show _ = _; rw [HD.out, h2.out, scan_bad (by decide) (by decide)]; rfl
            go_wp2
            go_ret2
            exact ⟨two_none HV, Below.refl _ _⟩
          · have m1 : ((b.toNat : Int) == 93) = false := by rw [beq_eq_false_iff_ne]; intro x; exact n1 (UInt8.toNat_inj.1 (by show _ = 93; omega))
            have m1' : ¬ (b.toNat : Int) = 93 := by simpa using m1
            have m1'' : ((b.toNat : Int) != 93) = true := by simpa using m1'
            have m2 : ((b.toNat : Int) == 91) = false := by rw [beq_eq_false_iff_ne]; intro x; exact n2 (UInt8.toNat_inj.1 (by show _ = 91; omega))
            have HN : Hid (scanU 93 (· == 91) t = scanU 93 (· == 91) ((b :: u).drop (stepL (b :: u)))) := h2.out.trans (scan_step n1 (by simpa using n2) u)
            have HS := (show Hid _ from fun w => jesc_any s hs b u h1.out w)
            have e1 := h1.out.sum
            rcases esc_cases b u with ⟨c1, c2⟩ | ⟨c1, c2, c3⟩
            · rw [c1] at HS
              rw [c2] at HN
              have HD2 : Hid (pos s ((b :: u).drop 1) = pos s (b :: u) + 1) := pos_drop h1.out (by simp)
              clear c1 c2 n1 n2 e1
              go_wp2_with (go_at_call 23; refine (HS.out _).mono ?_; rintro e w' ⟨rfl, hw'⟩; subst w')
              go_roundw
              case rel =>
                refine ⟨(b :: u).drop 1, ?_, by first | exact trivial | rfl, ?_, h1.out.drop 1, HN⟩
                · rw [HD2.out]; go_num
                · show 1 ≤ _; rw [HD2.out]; omega
              case measure => simp [intOf]; omega
            · rw [c1] at HS
              rw [c2] at HN
              have HD2 : Hid (pos s ((b :: u).drop 2) = pos s (b :: u) + 2) := pos_drop h1.out c3
              have hle3 : (pos s (b :: u) : Int) + 1 + 1 ≤ (s.size : Int) := by omega
              clear c1 c2 c3 n1 n2 e1
              go_wp2_with (go_at_call 23; refine (HS.out _).mono ?_; rintro e w' ⟨rfl, hw'⟩; subst w')
              go_roundw
              case rel =>
                refine ⟨(b :: u).drop 2, ?_, by first | exact trivial | rfl, ?_, h1.out.drop 2, HN⟩
                · rw [HD2.out]; go_num
                · show 1 ≤ _; rw [HD2.out]; omega
              case measure => simp [intOf]; omega
    · have HV : Hid ((v, z) = (([] : List UInt8), 0)) := by
        show _ = _
        rw [← hd]
        simp only [labelL]
        rw [if_neg ha]
        rfl
      have m1 : ((a.toNat : Int) == 91) = false := by rw [beq_eq_false_iff_ne]; intro x; exact ha (UInt8.toNat_inj.1 (by show _ = 91; omega))
      have m1' : ¬ (a.toNat : Int) = 91 := by simpa using m1
      have m1'' : ((a.toNat : Int) != 91) = true := by simpa using m1'
      clear hd ha hp0 hw
      go_enter Tryd.func10, Tryd.ntmps10
      go_wp2
      go_ret2
      exact ⟨two_none HV, Below.refl _ _⟩

end Go.Proofs.YtadghfgjdfgopaaDoor
