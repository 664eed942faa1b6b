/- The document's Title in layer 6; walked. -/
import Derived.Test.YtadghfgjdfgopaaDoorJDest
set_option linter.unusedVariables false
namespace Go.Proofs.YtadghfgjdfgopaaDoor
open Go.RowKit

def nextE (e : Bool) (b : UInt8) : Bool := if b = 10 then true else if b = 32 ∨ b = 9 then e else false

theorem title_bad {stop : UInt8} {e : Bool} {b : UInt8} (h1 : b ≠ stop) (h2 : (b = 40 ∧ stop = 41) ∨ (b = 10 ∧ e = true)) : ∀ u, titleS stop e (b :: u) = none
  | [] => by simp [titleS, h1]
  | c :: t => by simp only [titleS]; rw [if_neg h1, if_pos h2]

theorem title_step {stop : UInt8} {e : Bool} {b : UInt8} (h1 : b ≠ stop) (h2 : ¬ ((b = 40 ∧ stop = 41) ∨ (b = 10 ∧ e = true))) : ∀ u, titleS stop e (b :: u) = titleS stop (nextE e b) ((b :: u).drop (stepL (b :: u)))
  | [] => by simp [titleS, h1, stepL]
  | c :: t => by
    by_cases h3 : b = 92 ∧ markN c.toNat = true
    · rw [title_two h1 h2 h3]
      have e1 : stepL (b :: c :: t) = 2 := by simp only [stepL]; rw [if_pos h3]
      have e2 : nextE e b = false := by unfold nextE; rw [h3.1]; rfl
      rw [e1, e2]
      rfl
    · rw [title_next h1 h2 h3]
      have e1 : stepL (b :: c :: t) = 1 := by simp only [stepL]; rw [if_neg h3]
      rw [e1]
      rfl

set_option maxHeartbeats 8000000 in
set_option maxRecDepth 8000 in
theorem jtitle_34 (s : ByteArray) (hs : s.size ≤ 140737488351232) (t : List UInt8) (hl : s.data.toList = 34 :: t) (v : List UInt8) (z : Nat) (h : Hid (pairL (titleL s.data.toList) = (v, z))) (w : World) :
    Calls Tryd.prog 14 #[.string s] w fun e w' => e = .returned (.tuple #[.string ⟨v.toArray⟩, .int .i64 (z : Int)]) ∧ Below w.heap.size w w' := by
  have he : s.toList.isEmpty = false := nil_text s _ (by rw [hl]; rfl)
  have hw : Suf s (34 :: t) := Suf.head hl
  have hp0 : pos s (34 :: t) = 0 := pos_of (p := []) hl
  have hz : 0 < s.size := by rw [← len_data, hl]; simp
  have hb0 : s[0] = 34 := by have := hw.byte (by rw [hp0]; exact hz); simpa [hp0] using this
  have HL : Hid (s.size = t.length + 1) := by show _ = _; rw [← len_data, hl]; rfl
  have HA : Hid (s.data.toList = 34 :: t) := hl
  have HD : Hid ((v, z) = pairL (match titleS 34 false t with
    | none => none
    | some r => some (unesc (t.take (t.length - (r.length + 1))), t.length - r.length + 1))) := by
    have hd := h.out
    rw [hl] at hd
    show _ = _
    rw [← hd]
    rfl
  have HW : Hid (Suf s t) := hw.tail
  have HP : Hid (pos s t = 1) := by show _ = _; rw [hw.succ, hp0]
  clear hp0 hw hl h
  go_enter Tryd.func14, Tryd.ntmps14
  go_wp2
  go_loopw [5, 6] (fun E A wr => ∃ (l' : List UInt8) (em : Bool), A = .int .i64 (pos s l' : Int) ∧ E = .bool em ∧ Hid (wr = w) ∧ Hid (1 ≤ pos s l') ∧ Hid (Suf s l') ∧ Hid (titleS 34 false t = titleS 34 em l')) (fun _ A _ => s.size - (intOf A).toNat)
  case atStart => exact ⟨t, false, by rw [HP.out]; rfl, rfl, rfl, by rw [HP.out]; exact Nat.le_refl 1, HW.out, rfl⟩
  case round =>
    obtain ⟨l', em, rfl, rfl, hbw, hp1, h1, h2⟩ := hrel
    have hwr := hbw.out
    subst hwr
    have hp1' := hp1.out
    cases l' with
    | nil =>
      have hp : pos s [] = s.size := pos_nil s
      have HV : Hid ((v, z) = (([] : List UInt8), 0)) := by show _ = _; rw [HD.out, h2.out]; rfl
      go_wp2
      go_ret2
      exact ⟨two_none HV, Below.refl _ _⟩
    | cons b u =>
      have hlt := h1.out.lt
      have hbb := h1.out.byte hlt
      have hle : ¬ (s.size : Int) ≤ (pos s (b :: u) : Int) := by omega
      have hle2 : (pos s (b :: u) : Int) + 1 ≤ (s.size : Int) := by omega
      have HS := (show Hid _ from fun w => jesc_any s (by omega) b u h1.out w)
      have e1 := h1.out.sum
      have hcase : b = 34 ∨ b = 40 ∨ b = 10 ∨ b = 32 ∨ b = 9 ∨ (b ≠ 34 ∧ b ≠ 40 ∧ b ≠ 10 ∧ b ≠ 32 ∧ b ≠ 9) := by
        by_cases c1 : b = 34
        · exact .inl c1
        · by_cases c2 : b = 40
          · exact .inr (.inl c2)
          · by_cases c3 : b = 10
            · exact .inr (.inr (.inl c3))
            · by_cases c4 : b = 32
              · exact .inr (.inr (.inr (.inl c4)))
              · by_cases c5 : b = 9
                · exact .inr (.inr (.inr (.inr (.inl c5))))
                · exact .inr (.inr (.inr (.inr (.inr ⟨c1, c2, c3, c4, c5⟩))))
      rcases hcase with rfl | rfl | rfl | rfl | rfl | ⟨n1, n2, n3, n4, n5⟩
      · have e2 := HL.out
        simp only [List.length_cons] at e1
        have hn : t.length - (u.length + 1) = pos s (34 :: u) - 1 := by omega
        have hn2 : t.length - u.length + 1 = pos s (34 :: u) + 1 := by omega
        have HV : Hid ((v, z) = (unesc (t.take (pos s (34 :: u) - 1)), pos s (34 :: u) + 1)) := by
          show _ = _
          rw [HD.out, h2.out, title_one]
          simp only
          rw [hn, hn2]
          rfl
        obtain ⟨q, hq⟩ : ∃ q, s.extract 1 (pos s (34 :: u)) = q := ⟨_, rfl⟩
        have hqd : q.data.toList = t.take (pos s (34 :: u) - 1) := by rw [← hq, extract_eq, HA.out]; rfl
        have HU := (show Hid _ from fun w => esc.refunesc_any q w (by rw [← hq, ByteArray.size_extract]; omega))
        rw [hqd] at HU
        have t3 : (1 : Int) ≤ (pos s (34 :: u) : Int) := by omega
        clear hn hn2 e1 e2 hqd
        go_wp2_with (go_at_call 28; refine (HU.out _).mono ?_; rintro e w1 ⟨rfl, hb1⟩)
        go_ret2
        exact ⟨two_some HV rfl rfl, hb1⟩
      · have HN : Hid (titleS 34 false t = titleS 34 false ((40 :: u).drop (stepL (40 :: u)))) := by
          refine h2.out.trans ((title_step (by decide) (by rintro (x | x); exact absurd x.2 (by decide); exact absurd x.1 (by decide)) u).trans ?_)
          rfl
        clear e1
        have e1 : escB (40 :: u) = false := by cases u <;> rfl
        have e2 : stepL (40 :: u) = 1 := by cases u <;> rfl
        rw [e1] at HS
        rw [e2] at HN
        have HD2 : Hid (pos s ((40 :: u).drop 1) = pos s (40 :: u) + 1) := pos_drop h1.out (by simp)
        clear e1 e2
        go_wp2_with (go_at_call 23; refine (HS.out _).mono ?_; rintro e w' ⟨rfl, hw'⟩; subst w')
        go_roundw
        case rel =>
          refine ⟨(40 :: u).drop 1, false, ?_, rfl, by first | exact trivial | rfl, ?_, h1.out.drop 1, HN⟩
          · rw [HD2.out]; go_num
          · show 1 ≤ _; rw [HD2.out]; omega
        case measure => simp [intOf]; omega
      · cases em
        · have HN : Hid (titleS 34 false t = titleS 34 true ((10 :: u).drop (stepL (10 :: u)))) := h2.out.trans (title_step (by decide) (by decide) u)
          clear e1
          have e1 : escB (10 :: u) = false := by cases u <;> rfl
          have e2 : stepL (10 :: u) = 1 := by cases u <;> rfl
          rw [e1] at HS
          rw [e2] at HN
          have HD2 : Hid (pos s ((10 :: u).drop 1) = pos s (10 :: u) + 1) := pos_drop h1.out (by simp)
          clear e1 e2
          go_wp2_with (go_at_call 23; refine (HS.out _).mono ?_; rintro e w' ⟨rfl, hw'⟩; subst w')
          go_roundw
          case rel =>
            refine ⟨(10 :: u).drop 1, true, ?_, rfl, by first | exact trivial | rfl, ?_, h1.out.drop 1, HN⟩
            · rw [HD2.out]; go_num
            · show 1 ≤ _; rw [HD2.out]; omega
          case measure => simp [intOf]; omega

        · have HV : Hid ((v, z) = (([] : List UInt8), 0)) := by show _ = _; rw [HD.out, h2.out, title_bad (by decide) (.inr ⟨rfl, rfl⟩)]; rfl
          go_wp2
          go_ret2
          exact ⟨two_none HV, Below.refl _ _⟩
      · have HN : Hid (titleS 34 false t = titleS 34 em ((32 :: u).drop (stepL (32 :: u)))) := h2.out.trans (title_step (by decide) (by rintro (x | x); exact absurd x.1 (by decide); exact absurd x.1 (by decide)) u)
        clear e1
        cases em
        · have e1 : escB (32 :: u) = false := by cases u <;> rfl
          have e2 : stepL (32 :: u) = 1 := by cases u <;> rfl
          rw [e1] at HS
          rw [e2] at HN
          have HD2 : Hid (pos s ((32 :: u).drop 1) = pos s (32 :: u) + 1) := pos_drop h1.out (by simp)
          clear e1 e2
          go_wp2_with (go_at_call 23; refine (HS.out _).mono ?_; rintro e w' ⟨rfl, hw'⟩; subst w')
          go_roundw
          case rel =>
            refine ⟨(32 :: u).drop 1, false, ?_, rfl, by first | exact trivial | rfl, ?_, h1.out.drop 1, HN⟩
            · rw [HD2.out]; go_num
            · show 1 ≤ _; rw [HD2.out]; omega
          case measure => simp [intOf]; omega

        · have e1 : escB (32 :: u) = false := by cases u <;> rfl
          have e2 : stepL (32 :: u) = 1 := by cases u <;> rfl
          rw [e1] at HS
          rw [e2] at HN
          have HD2 : Hid (pos s ((32 :: u).drop 1) = pos s (32 :: u) + 1) := pos_drop h1.out (by simp)
          clear e1 e2
          go_wp2_with (go_at_call 23; refine (HS.out _).mono ?_; rintro e w' ⟨rfl, hw'⟩; subst w')
          go_roundw
          case rel =>
            refine ⟨(32 :: u).drop 1, true, ?_, rfl, by first | exact trivial | rfl, ?_, h1.out.drop 1, HN⟩
            · rw [HD2.out]; go_num
            · show 1 ≤ _; rw [HD2.out]; omega
          case measure => simp [intOf]; omega

      · have HN : Hid (titleS 34 false t = titleS 34 em ((9 :: u).drop (stepL (9 :: u)))) := h2.out.trans (title_step (by decide) (by rintro (x | x); exact absurd x.1 (by decide); exact absurd x.1 (by decide)) u)
        clear e1
        cases em
        · have e1 : escB (9 :: u) = false := by cases u <;> rfl
          have e2 : stepL (9 :: u) = 1 := by cases u <;> rfl
          rw [e1] at HS
          rw [e2] at HN
          have HD2 : Hid (pos s ((9 :: u).drop 1) = pos s (9 :: u) + 1) := pos_drop h1.out (by simp)
          clear e1 e2
          go_wp2_with (go_at_call 23; refine (HS.out _).mono ?_; rintro e w' ⟨rfl, hw'⟩; subst w')
          go_roundw
          case rel =>
            refine ⟨(9 :: u).drop 1, false, ?_, rfl, by first | exact trivial | rfl, ?_, h1.out.drop 1, HN⟩
            · rw [HD2.out]; go_num
            · show 1 ≤ _; rw [HD2.out]; omega
          case measure => simp [intOf]; omega

        · have e1 : escB (9 :: u) = false := by cases u <;> rfl
          have e2 : stepL (9 :: u) = 1 := by cases u <;> rfl
          rw [e1] at HS
          rw [e2] at HN
          have HD2 : Hid (pos s ((9 :: u).drop 1) = pos s (9 :: u) + 1) := pos_drop h1.out (by simp)
          clear e1 e2
          go_wp2_with (go_at_call 23; refine (HS.out _).mono ?_; rintro e w' ⟨rfl, hw'⟩; subst w')
          go_roundw
          case rel =>
            refine ⟨(9 :: u).drop 1, true, ?_, rfl, by first | exact trivial | rfl, ?_, h1.out.drop 1, HN⟩
            · rw [HD2.out]; go_num
            · show 1 ≤ _; rw [HD2.out]; omega
          case measure => simp [intOf]; omega

      · have m1 : ((b.toNat : Int) == 34) = false := by rw [beq_eq_false_iff_ne]; intro x; exact n1 (UInt8.toNat_inj.1 (by show _ = 34; omega))
        have m1' : ((b.toNat : Int) != 34) = true := by simpa using m1
        have m2 : ((b.toNat : Int) == 40) = false := by rw [beq_eq_false_iff_ne]; intro x; exact n2 (UInt8.toNat_inj.1 (by show _ = 40; omega))
        have m3 : ((b.toNat : Int) == 10) = false := by rw [beq_eq_false_iff_ne]; intro x; exact n3 (UInt8.toNat_inj.1 (by show _ = 10; omega))
        have m4 : ((b.toNat : Int) == 32) = false := by rw [beq_eq_false_iff_ne]; intro x; exact n4 (UInt8.toNat_inj.1 (by show _ = 32; omega))
        have m4' : ((b.toNat : Int) != 32) = true := by simpa using m4
        have m5 : ((b.toNat : Int) == 9) = false := by rw [beq_eq_false_iff_ne]; intro x; exact n5 (UInt8.toNat_inj.1 (by show _ = 9; omega))
        have m5' : ((b.toNat : Int) != 9) = true := by simpa using m5
        have HN : Hid (titleS 34 false t = titleS 34 false ((b :: u).drop (stepL (b :: u)))) := by
          refine h2.out.trans ((title_step n1 (by rintro (x | x); exact n2 x.1; exact n3 x.1) u).trans ?_)
          have : nextE em b = false := by unfold nextE; rw [if_neg n3, if_neg (by rintro (x | x); exact n4 x; exact n5 x)]
          rw [this]
        rcases esc_cases b u with ⟨c1, c2⟩ | ⟨c1, c2, c3⟩
        · rw [c1] at HS
          rw [c2] at HN
          have HD2 : Hid (pos s ((b :: u).drop 1) = pos s (b :: u) + 1) := pos_drop h1.out (by simp)
          clear c1 c2 e1 n1 n2 n3 n4 n5
          go_wp2_with (go_at_call 23; refine (HS.out _).mono ?_; rintro e w' ⟨rfl, hw'⟩; subst w')
          go_roundw
          case rel =>
            refine ⟨(b :: u).drop 1, false, ?_, rfl, by first | exact trivial | rfl, ?_, h1.out.drop 1, HN⟩
            · rw [HD2.out]; go_num
            · show 1 ≤ _; rw [HD2.out]; omega
          case measure => simp [intOf]; omega
        · rw [c1] at HS
          rw [c2] at HN
          have HD2 : Hid (pos s ((b :: u).drop 2) = pos s (b :: u) + 2) := pos_drop h1.out c3
          have hle3 : (pos s (b :: u) : Int) + 1 + 1 ≤ (s.size : Int) := by omega
          clear c1 c2 c3 e1 n1 n2 n3 n4 n5
          go_wp2_with (go_at_call 23; refine (HS.out _).mono ?_; rintro e w' ⟨rfl, hw'⟩; subst w')
          go_roundw
          case rel =>
            refine ⟨(b :: u).drop 2, false, ?_, rfl, by first | exact trivial | rfl, ?_, h1.out.drop 2, HN⟩
            · rw [HD2.out]; go_num
            · show 1 ≤ _; rw [HD2.out]; omega
          case measure => simp [intOf]; omega

set_option maxHeartbeats 8000000 in
set_option maxRecDepth 8000 in
theorem jtitle_39 (s : ByteArray) (hs : s.size ≤ 140737488351232) (t : List UInt8) (hl : s.data.toList = 39 :: t) (v : List UInt8) (z : Nat) (h : Hid (pairL (titleL s.data.toList) = (v, z))) (w : World) :
    Calls Tryd.prog 14 #[.string s] w fun e w' => e = .returned (.tuple #[.string ⟨v.toArray⟩, .int .i64 (z : Int)]) ∧ Below w.heap.size w w' := by
  have he : s.toList.isEmpty = false := nil_text s _ (by rw [hl]; rfl)
  have hw : Suf s (39 :: t) := Suf.head hl
  have hp0 : pos s (39 :: t) = 0 := pos_of (p := []) hl
  have hz : 0 < s.size := by rw [← len_data, hl]; simp
  have hb0 : s[0] = 39 := by have := hw.byte (by rw [hp0]; exact hz); simpa [hp0] using this
  have HL : Hid (s.size = t.length + 1) := by show _ = _; rw [← len_data, hl]; rfl
  have HA : Hid (s.data.toList = 39 :: t) := hl
  have HD : Hid ((v, z) = pairL (match titleS 39 false t with
    | none => none
    | some r => some (unesc (t.take (t.length - (r.length + 1))), t.length - r.length + 1))) := by
    have hd := h.out
    rw [hl] at hd
    show _ = _
    rw [← hd]
    rfl
  have HW : Hid (Suf s t) := hw.tail
  have HP : Hid (pos s t = 1) := by show _ = _; rw [hw.succ, hp0]
  clear hp0 hw hl h
  go_enter Tryd.func14, Tryd.ntmps14
  go_wp2
  go_loopw [5, 6] (fun E A wr => ∃ (l' : List UInt8) (em : Bool), A = .int .i64 (pos s l' : Int) ∧ E = .bool em ∧ Hid (wr = w) ∧ Hid (1 ≤ pos s l') ∧ Hid (Suf s l') ∧ Hid (titleS 39 false t = titleS 39 em l')) (fun _ A _ => s.size - (intOf A).toNat)
  case atStart => exact ⟨t, false, by rw [HP.out]; rfl, rfl, rfl, by rw [HP.out]; exact Nat.le_refl 1, HW.out, rfl⟩
  case round =>
    obtain ⟨l', em, rfl, rfl, hbw, hp1, h1, h2⟩ := hrel
    have hwr := hbw.out
    subst hwr
    have hp1' := hp1.out
    cases l' with
    | nil =>
      have hp : pos s [] = s.size := pos_nil s
      have HV : Hid ((v, z) = (([] : List UInt8), 0)) := by show _ = _; rw [HD.out, h2.out]; rfl
      go_wp2
      go_ret2
      exact ⟨two_none HV, Below.refl _ _⟩
    | cons b u =>
      have hlt := h1.out.lt
      have hbb := h1.out.byte hlt
      have hle : ¬ (s.size : Int) ≤ (pos s (b :: u) : Int) := by omega
      have hle2 : (pos s (b :: u) : Int) + 1 ≤ (s.size : Int) := by omega
      have HS := (show Hid _ from fun w => jesc_any s (by omega) b u h1.out w)
      have e1 := h1.out.sum
      have hcase : b = 39 ∨ b = 40 ∨ b = 10 ∨ b = 32 ∨ b = 9 ∨ (b ≠ 39 ∧ b ≠ 40 ∧ b ≠ 10 ∧ b ≠ 32 ∧ b ≠ 9) := by
        by_cases c1 : b = 39
        · exact .inl c1
        · by_cases c2 : b = 40
          · exact .inr (.inl c2)
          · by_cases c3 : b = 10
            · exact .inr (.inr (.inl c3))
            · by_cases c4 : b = 32
              · exact .inr (.inr (.inr (.inl c4)))
              · by_cases c5 : b = 9
                · exact .inr (.inr (.inr (.inr (.inl c5))))
                · exact .inr (.inr (.inr (.inr (.inr ⟨c1, c2, c3, c4, c5⟩))))
      rcases hcase with rfl | rfl | rfl | rfl | rfl | ⟨n1, n2, n3, n4, n5⟩
      · have e2 := HL.out
        simp only [List.length_cons] at e1
        have hn : t.length - (u.length + 1) = pos s (39 :: u) - 1 := by omega
        have hn2 : t.length - u.length + 1 = pos s (39 :: u) + 1 := by omega
        have HV : Hid ((v, z) = (unesc (t.take (pos s (39 :: u) - 1)), pos s (39 :: u) + 1)) := by
          show _ = _
          rw [HD.out, h2.out, title_one]
          simp only
          rw [hn, hn2]
          rfl
        obtain ⟨q, hq⟩ : ∃ q, s.extract 1 (pos s (39 :: u)) = q := ⟨_, rfl⟩
        have hqd : q.data.toList = t.take (pos s (39 :: u) - 1) := by rw [← hq, extract_eq, HA.out]; rfl
        have HU := (show Hid _ from fun w => esc.refunesc_any q w (by rw [← hq, ByteArray.size_extract]; omega))
        rw [hqd] at HU
        have t3 : (1 : Int) ≤ (pos s (39 :: u) : Int) := by omega
        clear hn hn2 e1 e2 hqd
        go_wp2_with (go_at_call 28; refine (HU.out _).mono ?_; rintro e w1 ⟨rfl, hb1⟩)
        go_ret2
        exact ⟨two_some HV rfl rfl, hb1⟩
      · have HN : Hid (titleS 39 false t = titleS 39 false ((40 :: u).drop (stepL (40 :: u)))) := by
          refine h2.out.trans ((title_step (by decide) (by rintro (x | x); exact absurd x.2 (by decide); exact absurd x.1 (by decide)) u).trans ?_)
          rfl
        clear e1
        have e1 : escB (40 :: u) = false := by cases u <;> rfl
        have e2 : stepL (40 :: u) = 1 := by cases u <;> rfl
        rw [e1] at HS
        rw [e2] at HN
        have HD2 : Hid (pos s ((40 :: u).drop 1) = pos s (40 :: u) + 1) := pos_drop h1.out (by simp)
        clear e1 e2
        go_wp2_with (go_at_call 23; refine (HS.out _).mono ?_; rintro e w' ⟨rfl, hw'⟩; subst w')
        go_roundw
        case rel =>
          refine ⟨(40 :: u).drop 1, false, ?_, rfl, by first | exact trivial | rfl, ?_, h1.out.drop 1, HN⟩
          · rw [HD2.out]; go_num
          · show 1 ≤ _; rw [HD2.out]; omega
        case measure => simp [intOf]; omega
      · cases em
        · have HN : Hid (titleS 39 false t = titleS 39 true ((10 :: u).drop (stepL (10 :: u)))) := h2.out.trans (title_step (by decide) (by decide) u)
          clear e1
          have e1 : escB (10 :: u) = false := by cases u <;> rfl
          have e2 : stepL (10 :: u) = 1 := by cases u <;> rfl
          rw [e1] at HS
          rw [e2] at HN
          have HD2 : Hid (pos s ((10 :: u).drop 1) = pos s (10 :: u) + 1) := pos_drop h1.out (by simp)
          clear e1 e2
          go_wp2_with (go_at_call 23; refine (HS.out _).mono ?_; rintro e w' ⟨rfl, hw'⟩; subst w')
          go_roundw
          case rel =>
            refine ⟨(10 :: u).drop 1, true, ?_, rfl, by first | exact trivial | rfl, ?_, h1.out.drop 1, HN⟩
            · rw [HD2.out]; go_num
            · show 1 ≤ _; rw [HD2.out]; omega
          case measure => simp [intOf]; omega

        · have HV : Hid ((v, z) = (([] : List UInt8), 0)) := by show _ = _; rw [HD.out, h2.out, title_bad (by decide) (.inr ⟨rfl, rfl⟩)]; rfl
          go_wp2
          go_ret2
          exact ⟨two_none HV, Below.refl _ _⟩
      · have HN : Hid (titleS 39 false t = titleS 39 em ((32 :: u).drop (stepL (32 :: u)))) := h2.out.trans (title_step (by decide) (by rintro (x | x); exact absurd x.1 (by decide); exact absurd x.1 (by decide)) u)
        clear e1
        cases em
        · have e1 : escB (32 :: u) = false := by cases u <;> rfl
          have e2 : stepL (32 :: u) = 1 := by cases u <;> rfl
          rw [e1] at HS
          rw [e2] at HN
          have HD2 : Hid (pos s ((32 :: u).drop 1) = pos s (32 :: u) + 1) := pos_drop h1.out (by simp)
          clear e1 e2
          go_wp2_with (go_at_call 23; refine (HS.out _).mono ?_; rintro e w' ⟨rfl, hw'⟩; subst w')
          go_roundw
          case rel =>
            refine ⟨(32 :: u).drop 1, false, ?_, rfl, by first | exact trivial | rfl, ?_, h1.out.drop 1, HN⟩
            · rw [HD2.out]; go_num
            · show 1 ≤ _; rw [HD2.out]; omega
          case measure => simp [intOf]; omega

        · have e1 : escB (32 :: u) = false := by cases u <;> rfl
          have e2 : stepL (32 :: u) = 1 := by cases u <;> rfl
          rw [e1] at HS
          rw [e2] at HN
          have HD2 : Hid (pos s ((32 :: u).drop 1) = pos s (32 :: u) + 1) := pos_drop h1.out (by simp)
          clear e1 e2
          go_wp2_with (go_at_call 23; refine (HS.out _).mono ?_; rintro e w' ⟨rfl, hw'⟩; subst w')
          go_roundw
          case rel =>
            refine ⟨(32 :: u).drop 1, true, ?_, rfl, by first | exact trivial | rfl, ?_, h1.out.drop 1, HN⟩
            · rw [HD2.out]; go_num
            · show 1 ≤ _; rw [HD2.out]; omega
          case measure => simp [intOf]; omega

      · have HN : Hid (titleS 39 false t = titleS 39 em ((9 :: u).drop (stepL (9 :: u)))) := h2.out.trans (title_step (by decide) (by rintro (x | x); exact absurd x.1 (by decide); exact absurd x.1 (by decide)) u)
        clear e1
        cases em
        · have e1 : escB (9 :: u) = false := by cases u <;> rfl
          have e2 : stepL (9 :: u) = 1 := by cases u <;> rfl
          rw [e1] at HS
          rw [e2] at HN
          have HD2 : Hid (pos s ((9 :: u).drop 1) = pos s (9 :: u) + 1) := pos_drop h1.out (by simp)
          clear e1 e2
          go_wp2_with (go_at_call 23; refine (HS.out _).mono ?_; rintro e w' ⟨rfl, hw'⟩; subst w')
          go_roundw
          case rel =>
            refine ⟨(9 :: u).drop 1, false, ?_, rfl, by first | exact trivial | rfl, ?_, h1.out.drop 1, HN⟩
            · rw [HD2.out]; go_num
            · show 1 ≤ _; rw [HD2.out]; omega
          case measure => simp [intOf]; omega

        · have e1 : escB (9 :: u) = false := by cases u <;> rfl
          have e2 : stepL (9 :: u) = 1 := by cases u <;> rfl
          rw [e1] at HS
          rw [e2] at HN
          have HD2 : Hid (pos s ((9 :: u).drop 1) = pos s (9 :: u) + 1) := pos_drop h1.out (by simp)
          clear e1 e2
          go_wp2_with (go_at_call 23; refine (HS.out _).mono ?_; rintro e w' ⟨rfl, hw'⟩; subst w')
          go_roundw
          case rel =>
            refine ⟨(9 :: u).drop 1, true, ?_, rfl, by first | exact trivial | rfl, ?_, h1.out.drop 1, HN⟩
            · rw [HD2.out]; go_num
            · show 1 ≤ _; rw [HD2.out]; omega
          case measure => simp [intOf]; omega

      · have m1 : ((b.toNat : Int) == 39) = false := by rw [beq_eq_false_iff_ne]; intro x; exact n1 (UInt8.toNat_inj.1 (by show _ = 39; omega))
        have m1' : ((b.toNat : Int) != 39) = true := by simpa using m1
        have m2 : ((b.toNat : Int) == 40) = false := by rw [beq_eq_false_iff_ne]; intro x; exact n2 (UInt8.toNat_inj.1 (by show _ = 40; omega))
        have m3 : ((b.toNat : Int) == 10) = false := by rw [beq_eq_false_iff_ne]; intro x; exact n3 (UInt8.toNat_inj.1 (by show _ = 10; omega))
        have m4 : ((b.toNat : Int) == 32) = false := by rw [beq_eq_false_iff_ne]; intro x; exact n4 (UInt8.toNat_inj.1 (by show _ = 32; omega))
        have m4' : ((b.toNat : Int) != 32) = true := by simpa using m4
        have m5 : ((b.toNat : Int) == 9) = false := by rw [beq_eq_false_iff_ne]; intro x; exact n5 (UInt8.toNat_inj.1 (by show _ = 9; omega))
        have m5' : ((b.toNat : Int) != 9) = true := by simpa using m5
        have HN : Hid (titleS 39 false t = titleS 39 false ((b :: u).drop (stepL (b :: u)))) := by
          refine h2.out.trans ((title_step n1 (by rintro (x | x); exact n2 x.1; exact n3 x.1) u).trans ?_)
          have : nextE em b = false := by unfold nextE; rw [if_neg n3, if_neg (by rintro (x | x); exact n4 x; exact n5 x)]
          rw [this]
        rcases esc_cases b u with ⟨c1, c2⟩ | ⟨c1, c2, c3⟩
        · rw [c1] at HS
          rw [c2] at HN
          have HD2 : Hid (pos s ((b :: u).drop 1) = pos s (b :: u) + 1) := pos_drop h1.out (by simp)
          clear c1 c2 e1 n1 n2 n3 n4 n5
          go_wp2_with (go_at_call 23; refine (HS.out _).mono ?_; rintro e w' ⟨rfl, hw'⟩; subst w')
          go_roundw
          case rel =>
            refine ⟨(b :: u).drop 1, false, ?_, rfl, by first | exact trivial | rfl, ?_, h1.out.drop 1, HN⟩
            · rw [HD2.out]; go_num
            · show 1 ≤ _; rw [HD2.out]; omega
          case measure => simp [intOf]; omega
        · rw [c1] at HS
          rw [c2] at HN
          have HD2 : Hid (pos s ((b :: u).drop 2) = pos s (b :: u) + 2) := pos_drop h1.out c3
          have hle3 : (pos s (b :: u) : Int) + 1 + 1 ≤ (s.size : Int) := by omega
          clear c1 c2 c3 e1 n1 n2 n3 n4 n5
          go_wp2_with (go_at_call 23; refine (HS.out _).mono ?_; rintro e w' ⟨rfl, hw'⟩; subst w')
          go_roundw
          case rel =>
            refine ⟨(b :: u).drop 2, false, ?_, rfl, by first | exact trivial | rfl, ?_, h1.out.drop 2, HN⟩
            · rw [HD2.out]; go_num
            · show 1 ≤ _; rw [HD2.out]; omega
          case measure => simp [intOf]; omega

set_option maxHeartbeats 8000000 in
set_option maxRecDepth 8000 in
theorem jtitle_40 (s : ByteArray) (hs : s.size ≤ 140737488351232) (t : List UInt8) (hl : s.data.toList = 40 :: t) (v : List UInt8) (z : Nat) (h : Hid (pairL (titleL s.data.toList) = (v, z))) (w : World) :
    Calls Tryd.prog 14 #[.string s] w fun e w' => e = .returned (.tuple #[.string ⟨v.toArray⟩, .int .i64 (z : Int)]) ∧ Below w.heap.size w w' := by
  have he : s.toList.isEmpty = false := nil_text s _ (by rw [hl]; rfl)
  have hw : Suf s (40 :: t) := Suf.head hl
  have hp0 : pos s (40 :: t) = 0 := pos_of (p := []) hl
  have hz : 0 < s.size := by rw [← len_data, hl]; simp
  have hb0 : s[0] = 40 := by have := hw.byte (by rw [hp0]; exact hz); simpa [hp0] using this
  have HL : Hid (s.size = t.length + 1) := by show _ = _; rw [← len_data, hl]; rfl
  have HA : Hid (s.data.toList = 40 :: t) := hl
  have HD : Hid ((v, z) = pairL (match titleS 41 false t with
    | none => none
    | some r => some (unesc (t.take (t.length - (r.length + 1))), t.length - r.length + 1))) := by
    have hd := h.out
    rw [hl] at hd
    show _ = _
    rw [← hd]
    rfl
  have HW : Hid (Suf s t) := hw.tail
  have HP : Hid (pos s t = 1) := by show _ = _; rw [hw.succ, hp0]
  clear hp0 hw hl h
  go_enter Tryd.func14, Tryd.ntmps14
  go_wp2
  go_loopw [5, 6] (fun E A wr => ∃ (l' : List UInt8) (em : Bool), A = .int .i64 (pos s l' : Int) ∧ E = .bool em ∧ Hid (wr = w) ∧ Hid (1 ≤ pos s l') ∧ Hid (Suf s l') ∧ Hid (titleS 41 false t = titleS 41 em l')) (fun _ A _ => s.size - (intOf A).toNat)
  case atStart => exact ⟨t, false, by rw [HP.out]; rfl, rfl, rfl, by rw [HP.out]; exact Nat.le_refl 1, HW.out, rfl⟩
  case round =>
    obtain ⟨l', em, rfl, rfl, hbw, hp1, h1, h2⟩ := hrel
    have hwr := hbw.out
    subst hwr
    have hp1' := hp1.out
    cases l' with
    | nil =>
      have hp : pos s [] = s.size := pos_nil s
      have HV : Hid ((v, z) = (([] : List UInt8), 0)) := by show _ = _; rw [HD.out, h2.out]; rfl
      go_wp2
      go_ret2
      exact ⟨two_none HV, Below.refl _ _⟩
    | cons b u =>
      have hlt := h1.out.lt
      have hbb := h1.out.byte hlt
      have hle : ¬ (s.size : Int) ≤ (pos s (b :: u) : Int) := by omega
      have hle2 : (pos s (b :: u) : Int) + 1 ≤ (s.size : Int) := by omega
      have HS := (show Hid _ from fun w => jesc_any s (by omega) b u h1.out w)
      have e1 := h1.out.sum
      have hcase : b = 41 ∨ b = 40 ∨ b = 10 ∨ b = 32 ∨ b = 9 ∨ (b ≠ 41 ∧ b ≠ 40 ∧ b ≠ 10 ∧ b ≠ 32 ∧ b ≠ 9) := by
        by_cases c1 : b = 41
        · exact .inl c1
        · by_cases c2 : b = 40
          · exact .inr (.inl c2)
          · by_cases c3 : b = 10
            · exact .inr (.inr (.inl c3))
            · by_cases c4 : b = 32
              · exact .inr (.inr (.inr (.inl c4)))
              · by_cases c5 : b = 9
                · exact .inr (.inr (.inr (.inr (.inl c5))))
                · exact .inr (.inr (.inr (.inr (.inr ⟨c1, c2, c3, c4, c5⟩))))
      rcases hcase with rfl | rfl | rfl | rfl | rfl | ⟨n1, n2, n3, n4, n5⟩
      · have e2 := HL.out
        simp only [List.length_cons] at e1
        have hn : t.length - (u.length + 1) = pos s (41 :: u) - 1 := by omega
        have hn2 : t.length - u.length + 1 = pos s (41 :: u) + 1 := by omega
        have HV : Hid ((v, z) = (unesc (t.take (pos s (41 :: u) - 1)), pos s (41 :: u) + 1)) := by
          show _ = _
          rw [HD.out, h2.out, title_one]
          simp only
          rw [hn, hn2]
          rfl
        obtain ⟨q, hq⟩ : ∃ q, s.extract 1 (pos s (41 :: u)) = q := ⟨_, rfl⟩
        have hqd : q.data.toList = t.take (pos s (41 :: u) - 1) := by rw [← hq, extract_eq, HA.out]; rfl
        have HU := (show Hid _ from fun w => esc.refunesc_any q w (by rw [← hq, ByteArray.size_extract]; omega))
        rw [hqd] at HU
        have t3 : (1 : Int) ≤ (pos s (41 :: u) : Int) := by omega
        clear hn hn2 e1 e2 hqd
        go_wp2_with (go_at_call 28; refine (HU.out _).mono ?_; rintro e w1 ⟨rfl, hb1⟩)
        go_ret2
        exact ⟨two_some HV rfl rfl, hb1⟩
      · have HV : Hid ((v, z) = (([] : List UInt8), 0)) := by show _ = _; rw [HD.out, h2.out, title_bad (by decide) (.inl ⟨rfl, rfl⟩)]; rfl
        go_wp2
        go_ret2
        exact ⟨two_none HV, Below.refl _ _⟩
      · cases em
        · have HN : Hid (titleS 41 false t = titleS 41 true ((10 :: u).drop (stepL (10 :: u)))) := h2.out.trans (title_step (by decide) (by decide) u)
          clear e1
          have e1 : escB (10 :: u) = false := by cases u <;> rfl
          have e2 : stepL (10 :: u) = 1 := by cases u <;> rfl
          rw [e1] at HS
          rw [e2] at HN
          have HD2 : Hid (pos s ((10 :: u).drop 1) = pos s (10 :: u) + 1) := pos_drop h1.out (by simp)
          clear e1 e2
          go_wp2_with (go_at_call 23; refine (HS.out _).mono ?_; rintro e w' ⟨rfl, hw'⟩; subst w')
          go_roundw
          case rel =>
            refine ⟨(10 :: u).drop 1, true, ?_, rfl, by first | exact trivial | rfl, ?_, h1.out.drop 1, HN⟩
            · rw [HD2.out]; go_num
            · show 1 ≤ _; rw [HD2.out]; omega
          case measure => simp [intOf]; omega

        · have HV : Hid ((v, z) = (([] : List UInt8), 0)) := by show _ = _; rw [HD.out, h2.out, title_bad (by decide) (.inr ⟨rfl, rfl⟩)]; rfl
          go_wp2
          go_ret2
          exact ⟨two_none HV, Below.refl _ _⟩
      · have HN : Hid (titleS 41 false t = titleS 41 em ((32 :: u).drop (stepL (32 :: u)))) := h2.out.trans (title_step (by decide) (by rintro (x | x); exact absurd x.1 (by decide); exact absurd x.1 (by decide)) u)
        clear e1
        cases em
        · have e1 : escB (32 :: u) = false := by cases u <;> rfl
          have e2 : stepL (32 :: u) = 1 := by cases u <;> rfl
          rw [e1] at HS
          rw [e2] at HN
          have HD2 : Hid (pos s ((32 :: u).drop 1) = pos s (32 :: u) + 1) := pos_drop h1.out (by simp)
          clear e1 e2
          go_wp2_with (go_at_call 23; refine (HS.out _).mono ?_; rintro e w' ⟨rfl, hw'⟩; subst w')
          go_roundw
          case rel =>
            refine ⟨(32 :: u).drop 1, false, ?_, rfl, by first | exact trivial | rfl, ?_, h1.out.drop 1, HN⟩
            · rw [HD2.out]; go_num
            · show 1 ≤ _; rw [HD2.out]; omega
          case measure => simp [intOf]; omega

        · have e1 : escB (32 :: u) = false := by cases u <;> rfl
          have e2 : stepL (32 :: u) = 1 := by cases u <;> rfl
          rw [e1] at HS
          rw [e2] at HN
          have HD2 : Hid (pos s ((32 :: u).drop 1) = pos s (32 :: u) + 1) := pos_drop h1.out (by simp)
          clear e1 e2
          go_wp2_with (go_at_call 23; refine (HS.out _).mono ?_; rintro e w' ⟨rfl, hw'⟩; subst w')
          go_roundw
          case rel =>
            refine ⟨(32 :: u).drop 1, true, ?_, rfl, by first | exact trivial | rfl, ?_, h1.out.drop 1, HN⟩
            · rw [HD2.out]; go_num
            · show 1 ≤ _; rw [HD2.out]; omega
          case measure => simp [intOf]; omega

      · have HN : Hid (titleS 41 false t = titleS 41 em ((9 :: u).drop (stepL (9 :: u)))) := h2.out.trans (title_step (by decide) (by rintro (x | x); exact absurd x.1 (by decide); exact absurd x.1 (by decide)) u)
        clear e1
        cases em
        · have e1 : escB (9 :: u) = false := by cases u <;> rfl
          have e2 : stepL (9 :: u) = 1 := by cases u <;> rfl
          rw [e1] at HS
          rw [e2] at HN
          have HD2 : Hid (pos s ((9 :: u).drop 1) = pos s (9 :: u) + 1) := pos_drop h1.out (by simp)
          clear e1 e2
          go_wp2_with (go_at_call 23; refine (HS.out _).mono ?_; rintro e w' ⟨rfl, hw'⟩; subst w')
          go_roundw
          case rel =>
            refine ⟨(9 :: u).drop 1, false, ?_, rfl, by first | exact trivial | rfl, ?_, h1.out.drop 1, HN⟩
            · rw [HD2.out]; go_num
            · show 1 ≤ _; rw [HD2.out]; omega
          case measure => simp [intOf]; omega

        · have e1 : escB (9 :: u) = false := by cases u <;> rfl
          have e2 : stepL (9 :: u) = 1 := by cases u <;> rfl
          rw [e1] at HS
          rw [e2] at HN
          have HD2 : Hid (pos s ((9 :: u).drop 1) = pos s (9 :: u) + 1) := pos_drop h1.out (by simp)
          clear e1 e2
          go_wp2_with (go_at_call 23; refine (HS.out _).mono ?_; rintro e w' ⟨rfl, hw'⟩; subst w')
          go_roundw
          case rel =>
            refine ⟨(9 :: u).drop 1, true, ?_, rfl, by first | exact trivial | rfl, ?_, h1.out.drop 1, HN⟩
            · rw [HD2.out]; go_num
            · show 1 ≤ _; rw [HD2.out]; omega
          case measure => simp [intOf]; omega

      · have m1 : ((b.toNat : Int) == 41) = false := by rw [beq_eq_false_iff_ne]; intro x; exact n1 (UInt8.toNat_inj.1 (by show _ = 41; omega))
        have m1' : ((b.toNat : Int) != 41) = true := by simpa using m1
        have m2 : ((b.toNat : Int) == 40) = false := by rw [beq_eq_false_iff_ne]; intro x; exact n2 (UInt8.toNat_inj.1 (by show _ = 40; omega))
        have m3 : ((b.toNat : Int) == 10) = false := by rw [beq_eq_false_iff_ne]; intro x; exact n3 (UInt8.toNat_inj.1 (by show _ = 10; omega))
        have m4 : ((b.toNat : Int) == 32) = false := by rw [beq_eq_false_iff_ne]; intro x; exact n4 (UInt8.toNat_inj.1 (by show _ = 32; omega))
        have m4' : ((b.toNat : Int) != 32) = true := by simpa using m4
        have m5 : ((b.toNat : Int) == 9) = false := by rw [beq_eq_false_iff_ne]; intro x; exact n5 (UInt8.toNat_inj.1 (by show _ = 9; omega))
        have m5' : ((b.toNat : Int) != 9) = true := by simpa using m5
        have HN : Hid (titleS 41 false t = titleS 41 false ((b :: u).drop (stepL (b :: u)))) := by
          refine h2.out.trans ((title_step n1 (by rintro (x | x); exact n2 x.1; exact n3 x.1) u).trans ?_)
          have : nextE em b = false := by unfold nextE; rw [if_neg n3, if_neg (by rintro (x | x); exact n4 x; exact n5 x)]
          rw [this]
        rcases esc_cases b u with ⟨c1, c2⟩ | ⟨c1, c2, c3⟩
        · rw [c1] at HS
          rw [c2] at HN
          have HD2 : Hid (pos s ((b :: u).drop 1) = pos s (b :: u) + 1) := pos_drop h1.out (by simp)
          clear c1 c2 e1 n1 n2 n3 n4 n5
          go_wp2_with (go_at_call 23; refine (HS.out _).mono ?_; rintro e w' ⟨rfl, hw'⟩; subst w')
          go_roundw
          case rel =>
            refine ⟨(b :: u).drop 1, false, ?_, rfl, by first | exact trivial | rfl, ?_, h1.out.drop 1, HN⟩
            · rw [HD2.out]; go_num
            · show 1 ≤ _; rw [HD2.out]; omega
          case measure => simp [intOf]; omega
        · rw [c1] at HS
          rw [c2] at HN
          have HD2 : Hid (pos s ((b :: u).drop 2) = pos s (b :: u) + 2) := pos_drop h1.out c3
          have hle3 : (pos s (b :: u) : Int) + 1 + 1 ≤ (s.size : Int) := by omega
          clear c1 c2 c3 e1 n1 n2 n3 n4 n5
          go_wp2_with (go_at_call 23; refine (HS.out _).mono ?_; rintro e w' ⟨rfl, hw'⟩; subst w')
          go_roundw
          case rel =>
            refine ⟨(b :: u).drop 2, false, ?_, rfl, by first | exact trivial | rfl, ?_, h1.out.drop 2, HN⟩
            · rw [HD2.out]; go_num
            · show 1 ≤ _; rw [HD2.out]; omega
          case measure => simp [intOf]; omega

theorem jtitle_at (s : ByteArray) (hs : s.size ≤ 140737488351232) (v : List UInt8) (z : Nat) (h : Hid (pairL (titleL s.data.toList) = (v, z))) (w : World) :
    Calls Tryd.prog 14 #[.string s] w fun e w' => e = .returned (.tuple #[.string ⟨v.toArray⟩, .int .i64 (z : Int)]) ∧ Below w.heap.size w w' := by
  cases hl : s.data.toList with
  | nil =>
    have he : s.toList.isEmpty = true := nil_text s _ (by rw [hl]; rfl)
    have HV : Hid ((v, z) = (([] : List UInt8), 0)) := by have := h.out; rw [hl] at this; exact this.symm
    clear hl h
    go_enter Tryd.func14, Tryd.ntmps14
    go_wp2
    go_ret2
    exact ⟨two_none HV, Below.refl _ _⟩
  | cons a t =>
    by_cases h34 : a = 34
    · subst h34
      exact jtitle_34 s hs t hl v z h w
    · by_cases h39 : a = 39
      · subst h39
        exact jtitle_39 s hs t hl v z h w
      · by_cases h40 : a = 40
        · subst h40
          exact jtitle_40 s hs t hl v z h w
        · have HV : Hid ((v, z) = (([] : List UInt8), 0)) := by
            have := h.out
            rw [hl] at this
            show _ = _
            rw [← this]
            simp only [titleL]
            rw [if_neg (by rintro (x | x | x); exact h34 x; exact h39 x; exact h40 x)]
            rfl
          have he : s.toList.isEmpty = false := nil_text s _ (by rw [hl]; rfl)
          have hw : Suf s (a :: t) := Suf.head hl
          have hp0 : pos s (a :: t) = 0 := pos_of (p := []) hl
          have hz : 0 < s.size := by rw [← len_data, hl]; simp
          have hb0 : s[0] = a := by have := hw.byte (by rw [hp0]; exact hz); simpa [hp0] using this
          have m1 : ((a.toNat : Int) != 34) = true := by rw [bne_iff_ne]; intro x; exact h34 (UInt8.toNat_inj.1 (by show _ = 34; omega))
          have m2 : ((a.toNat : Int) != 39) = true := by rw [bne_iff_ne]; intro x; exact h39 (UInt8.toNat_inj.1 (by show _ = 39; omega))
          have m3 : ((a.toNat : Int) != 40) = true := by rw [bne_iff_ne]; intro x; exact h40 (UInt8.toNat_inj.1 (by show _ = 40; omega))
          have k1 : ¬ (a.toNat : Int) = 34 := by simpa using m1
          have k2 : ¬ (a.toNat : Int) = 39 := by simpa using m2
          have k3 : ¬ (a.toNat : Int) = 40 := by simpa using m3
          clear h34 h39 h40 hl hw hp0 h
          go_enter Tryd.func14, Tryd.ntmps14
          go_wp2
          go_ret2
          exact ⟨two_none HV, Below.refl _ _⟩

end Go.Proofs.YtadghfgjdfgopaaDoor
