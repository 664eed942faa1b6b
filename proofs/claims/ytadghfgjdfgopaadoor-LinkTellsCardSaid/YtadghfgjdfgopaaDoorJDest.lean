/- The document's Dest in layer 6; walked. -/
import Derived.Test.YtadghfgjdfgopaaDoorJLabel
set_option linter.unusedVariables false
namespace Go.Proofs.YtadghfgjdfgopaaDoor
open Go.RowKit

set_option maxHeartbeats 4000000 in
set_option maxRecDepth 8000 in
theorem jdest_encl (s : ByteArray) (hs : s.size ≤ 140737488351232) (t : List UInt8) (hl : s.data.toList = 60 :: t) (v : List UInt8) (z : Nat) (h : Hid (pairL (destL s.data.toList) = (v, z))) (w : World) :
    Calls Tryd.prog 12 #[.string s] w fun e w' => e = .returned (.tuple #[.string ⟨v.toArray⟩, .int .i64 (z : Int)]) ∧ Below w.heap.size w w' := by
  have he : s.toList.isEmpty = false := nil_text s _ (by rw [hl]; rfl)
  have hw : Suf s (60 :: t) := Suf.head hl
  have hp0 : pos s (60 :: t) = 0 := pos_of (p := []) hl
  have hz : 0 < s.size := by rw [← len_data, hl]; simp
  have hb0 : s[0] = 60 := by have := hw.byte (by rw [hp0]; exact hz); simpa [hp0] using this
  have HL : Hid (s.size = t.length + 1) := by show _ = _; rw [← len_data, hl]; rfl
  have HA : Hid (s.data.toList = 60 :: t) := hl
  have HD : Hid ((v, z) = pairL (match scanU 62 (fun b => b == 60 || b == 10) t with
    | none => none
    | some r => some (unesc (t.take (t.length - (r.length + 1))), t.length - r.length + 1))) := by
    have hd := h.out
    rw [hl] at hd
    show _ = _
    rw [← hd]
    rfl
  have HW : Hid (Suf s t) := hw.tail
  have HP : Hid (pos s t = 1) := by show _ = _; rw [hw.succ, hp0]
  clear hp0 hw hl h
  go_enter Tryd.func12, Tryd.ntmps12
  go_wp2
  go_loopw [4] (fun A wr => ∃ l' : List UInt8, A = .int .i64 (pos s l' : Int) ∧ Hid (wr = w) ∧ Hid (1 ≤ pos s l') ∧ Hid (Suf s l') ∧ Hid (scanU 62 (fun b => b == 60 || b == 10) t = scanU 62 (fun b => b == 60 || b == 10) l')) (fun A _ => s.size - (intOf A).toNat)
  case atStart => exact ⟨t, by rw [HP.out]; rfl, rfl, by rw [HP.out]; exact Nat.le_refl 1, HW.out, rfl⟩
  case round =>
    obtain ⟨l', rfl, hbw, hp1, h1, h2⟩ := hrel
    have hwr := hbw.out
    subst hwr
    have hp1' := hp1.out
    cases l' with
    | nil =>
      have hp : pos s [] = s.size := pos_nil s
      have HV : Hid ((v, z) = (([] : List UInt8), 0)) := by show _ = _; rw [HD.out, h2.out]; rfl
      go_wp2
      go_ret2
      exact ⟨two_none HV, Below.refl _ _⟩
    | cons b u =>
      have hlt := h1.out.lt
      have hbb := h1.out.byte hlt
      have hle : ¬ (s.size : Int) ≤ (pos s (b :: u) : Int) := by omega
      have hle2 : (pos s (b :: u) : Int) + 1 ≤ (s.size : Int) := by omega
      have hcase : b = 62 ∨ b = 60 ∨ b = 10 ∨ (b ≠ 62 ∧ b ≠ 60 ∧ b ≠ 10) := by
        by_cases c1 : b = 62
        · exact .inl c1
        · by_cases c2 : b = 60
          · exact .inr (.inl c2)
          · by_cases c3 : b = 10
            · exact .inr (.inr (.inl c3))
            · exact .inr (.inr (.inr ⟨c1, c2, c3⟩))
      rcases hcase with rfl | rfl | rfl | ⟨n1, n2, n3⟩
      · have e1 := h1.out.sum
        have e2 := HL.out
        simp only [List.length_cons] at e1
        have hn : t.length - (u.length + 1) = pos s (62 :: u) - 1 := by omega
        have hn2 : t.length - u.length + 1 = pos s (62 :: u) + 1 := by omega
        have HV : Hid ((v, z) = (unesc (t.take (pos s (62 :: u) - 1)), pos s (62 :: u) + 1)) := by
          show _ = _
          rw [HD.out, h2.out, scan_one]
          simp only
          rw [hn, hn2]
          rfl
        obtain ⟨q, hq⟩ : ∃ q, s.extract 1 (pos s (62 :: u)) = q := ⟨_, rfl⟩
        have hqd : q.data.toList = t.take (pos s (62 :: u) - 1) := by rw [← hq, extract_eq, HA.out]; rfl
        have HU := (show Hid _ from fun w => esc.refunesc_any q w (by rw [← hq, ByteArray.size_extract]; omega))
        rw [hqd] at HU
        have t3 : (1 : Int) ≤ (pos s (62 :: u) : Int) := by omega
        clear hn hn2 e1 e2 hqd
        go_wp2_with (go_at_call 28; refine (HU.out _).mono ?_; rintro e w1 ⟨rfl, hb1⟩)
        go_ret2
        exact ⟨two_some HV rfl rfl, hb1⟩
      · have HV : Hid ((v, z) = (([] : List UInt8), 0)) := by show _ = _; rw [HD.out, h2.out, scan_bad (by decide) (by decide)]; rfl
        go_wp2
        go_ret2
        exact ⟨two_none HV, Below.refl _ _⟩
      · have HV : Hid ((v, z) = (([] : List UInt8), 0)) := by show _ = _; rw [HD.out, h2.out, scan_bad (by decide) (by decide)]; rfl
        go_wp2
        go_ret2
        exact ⟨two_none HV, Below.refl _ _⟩
      · have m1 : ((b.toNat : Int) == 62) = false := by rw [beq_eq_false_iff_ne]; intro x; exact n1 (UInt8.toNat_inj.1 (by show _ = 62; omega))
        have m1' : ¬ (b.toNat : Int) = 62 := by simpa using m1
        have m1'' : ((b.toNat : Int) != 62) = true := by simpa using m1'
        have m2 : ((b.toNat : Int) == 60) = false := by rw [beq_eq_false_iff_ne]; intro x; exact n2 (UInt8.toNat_inj.1 (by show _ = 60; omega))
        have m3 : ((b.toNat : Int) == 10) = false := by rw [beq_eq_false_iff_ne]; intro x; exact n3 (UInt8.toNat_inj.1 (by show _ = 10; omega))
        have HN : Hid (scanU 62 (fun b => b == 60 || b == 10) t = scanU 62 (fun b => b == 60 || b == 10) ((b :: u).drop (stepL (b :: u)))) := h2.out.trans (scan_step n1 (by simp [n2, n3]) u)
        have HS := (show Hid _ from fun w => jesc_any s (by omega) b u h1.out w)
        have e1 := h1.out.sum
        rcases esc_cases b u with ⟨c1, c2⟩ | ⟨c1, c2, c3⟩
        · rw [c1] at HS
          rw [c2] at HN
          have HD2 : Hid (pos s ((b :: u).drop 1) = pos s (b :: u) + 1) := pos_drop h1.out (by simp)
          clear c1 c2 n1 n2 n3 e1
          go_wp2_with (go_at_call 23; refine (HS.out _).mono ?_; rintro e w' ⟨rfl, hw'⟩; subst w')
          go_roundw
          case rel =>
            refine ⟨(b :: u).drop 1, ?_, by first | exact trivial | rfl, ?_, h1.out.drop 1, HN⟩
            · rw [HD2.out]; go_num
            · show 1 ≤ _; rw [HD2.out]; omega
          case measure => simp [intOf]; omega
        · rw [c1] at HS
          rw [c2] at HN
          have HD2 : Hid (pos s ((b :: u).drop 2) = pos s (b :: u) + 2) := pos_drop h1.out c3
          have hle3 : (pos s (b :: u) : Int) + 1 + 1 ≤ (s.size : Int) := by omega
          clear c1 c2 c3 n1 n2 n3 e1
          go_wp2_with (go_at_call 23; refine (HS.out _).mono ?_; rintro e w' ⟨rfl, hw'⟩; subst w')
          go_roundw
          case rel =>
            refine ⟨(b :: u).drop 2, ?_, by first | exact trivial | rfl, ?_, h1.out.drop 2, HN⟩
            · rw [HD2.out]; go_num
            · show 1 ≤ _; rw [HD2.out]; omega
          case measure => simp [intOf]; omega

set_option maxHeartbeats 8000000 in
set_option maxRecDepth 8000 in
theorem jdest_bare (s : ByteArray) (hs : s.size ≤ 140737488351232) (a : UInt8) (ta : List UInt8) (hl : s.data.toList = a :: ta) (ha : a ≠ 60) (v : List UInt8) (z : Nat) (h : Hid (destB s.data.toList = (v, z))) (w : World) :
    Calls Tryd.prog 12 #[.string s] w fun e w' => e = .returned (.tuple #[.string ⟨v.toArray⟩, .int .i64 (z : Int)]) ∧ Below w.heap.size w w' := by
  have he : s.toList.isEmpty = false := nil_text s _ (by rw [hl]; rfl)
  have hw0 : Suf s (a :: ta) := Suf.head hl
  have hp0 : pos s (a :: ta) = 0 := pos_of (p := []) hl
  have hz : 0 < s.size := by rw [← len_data, hl]; simp
  have hb0 : s[0] = a := by have := hw0.byte (by rw [hp0]; exact hz); simpa [hp0] using this
  have m0 : ((a.toNat : Int) == 60) = false := by rw [beq_eq_false_iff_ne]; intro x; exact ha (UInt8.toNat_inj.1 (by show _ = 60; omega))
  clear hl hw0 hp0 ha
  have HW : Hid (Suf s s.data.toList) := Suf.whole s
  have HP : Hid (pos s s.data.toList = 0) := pos_whole s
  have HZ : Hid (s.data.toList.length = s.size) := len_data s
  have HD : Hid (destB s.data.toList = match bareS 0 s.data.toList with
    | none => ([], 0)
    | some (r, o) => if 0 < o then ([], 0) else (unesc (s.data.toList.take (s.data.toList.length - r.length)), s.data.toList.length - r.length)) := rfl
  generalize hl : s.data.toList = l at *
  have HL : Hid (s.data.toList = l) := hl
  clear hl
  go_enter Tryd.func12, Tryd.ntmps12
  go_wp2
  go_loopw [6, 7] (fun O A wr => ∃ (l' : List UInt8) (o : Nat), A = .int .i64 (pos s l' : Int) ∧ O = .int .i64 (o : Int) ∧ Hid (wr = w) ∧ Hid (o ≤ 32) ∧ Hid (Suf s l') ∧ Hid (bareS 0 l = bareS o l')) (fun _ A _ => s.size - (intOf A).toNat)
  case atStart => exact ⟨l, 0, by rw [HP.out]; rfl, rfl, rfl, Nat.zero_le _, HW.out, rfl⟩
  case round =>
    obtain ⟨l', o, rfl, rfl, hbw, ho, h1, h2⟩ := hrel
    have hwr := hbw.out
    subst hwr
    have ho' := ho.out
    have hpl := pos_le s l'
    have F0 : Hid (bareS 0 l = some (l', 0) → (v, z) = (unesc (l.take (l.length - l'.length)), pos s l')) := by
      intro x
      rw [← h.out, HD.out, x]
      have : l.length - l'.length = pos s l' := by unfold pos; rw [HZ.out]
      simp only [Nat.lt_irrefl, if_false, this]
    have FP : Hid (∀ k, 0 < k → bareS 0 l = some (l', k) → (v, z) = (([] : List UInt8), 0)) := by
      intro k hk x
      rw [← h.out, HD.out, x]
      simp only [hk, if_true]
    have FN : Hid (bareS 0 l = none → (v, z) = (([] : List UInt8), 0)) := by
      intro x
      rw [← h.out, HD.out, x]
    cases l' with
    | nil =>
      have hp : pos s [] = s.size := pos_nil s
      have hend : bareS 0 l = some ([], o) := h2.out
      have tz : ((s.size : Int) == 0) = false := by rw [beq_eq_false_iff_ne]; omega
      cases o with
      | zero =>
        have HV : Hid ((v, z) = (unesc l, s.size)) := by
          have := F0.out hend
          rw [hp, List.length_nil, Nat.sub_zero, List.take_length] at this
          exact this
        have HU := (show Hid _ from fun w => esc.refunesc_any s w hs)
        rw [HL.out] at HU
        clear hend
        go_wp2_with (go_at_call 28; refine (HU.out _).mono ?_; rintro e w1 ⟨rfl, hb1⟩)
        go_ret2
        exact ⟨two_some HV rfl rfl, hb1⟩
      | succ k =>
        have HV : Hid ((v, z) = (([] : List UInt8), 0)) := FP.out (k + 1) (by omega) hend
        clear hend
        have hk : 0 < ((k + 1 : Nat) : Int) := by omega
        go_wp2
        go_ret2
        exact ⟨two_none HV, Below.refl _ _⟩
    | cons b u =>
      have hlt := h1.out.lt
      have hbb := h1.out.byte hlt
      have hle : (pos s (b :: u) : Int) + 1 ≤ (s.size : Int) := by omega
      have HR := (show Hid _ from bare_round o b u)
      have hzx : (s.extract 0 (pos s (b :: u))).size ≤ 140737488351232 := by rw [ByteArray.size_extract]; omega
      have HU := (show Hid _ from fun w => esc.refunesc_any (s.extract 0 (pos s (b :: u))) w hzx)
      rw [ext_pos h1.out, HL.out] at HU
      have HN := (show Hid _ from h1.out.succ)
      clear hzx
      have hcase : b.toNat ≤ 32 ∨ b = 127 ∨ b = 41 ∨ b = 40 ∨ (32 < b.toNat ∧ b ≠ 127 ∧ b ≠ 41 ∧ b ≠ 40) := by
        by_cases c1 : b.toNat ≤ 32
        · exact .inl c1
        · by_cases c2 : b = 127
          · exact .inr (.inl c2)
          · by_cases c3 : b = 41
            · exact .inr (.inr (.inl c3))
            · by_cases c4 : b = 40
              · exact .inr (.inr (.inr (.inl c4)))
              · exact .inr (.inr (.inr (.inr ⟨by omega, c2, c3, c4⟩)))
      have hstop : bareC b = false → bareS 0 l = some (b :: u, o) := by
        intro x
        rw [h2.out, HR.out, if_pos x]
      rcases hcase with hc | rfl | rfl | rfl | ⟨hc, n1, n2, n3⟩
      · have hend := hstop (by unfold bareC; rw [decide_eq_false (by omega)]; rfl)
        have hci : ¬ (32 : Int) < (b.toNat : Int) := by omega
        clear hstop
        by_cases hz0 : pos s (b :: u) = 0
        · have HV : Hid ((v, z) = (([] : List UInt8), 0)) := by
            have hq : l.take (l.length - ((b :: u) : List UInt8).length) = [] := by
              have : l.length - ((b :: u) : List UInt8).length = 0 := by rw [HZ.out]; exact hz0
              rw [this]; rfl
            rcases Nat.eq_zero_or_pos o with ho0 | ho0
            · subst ho0
              have := F0.out hend
              rw [hq, hz0] at this
              exact this
            · exact FP.out o ho0 hend
          have tz : ((pos s (b :: u) : Int) == 0) = true := by rw [hz0]; rfl
          clear hend hz0
          go_wp2
          go_ret2
          exact ⟨two_none HV, Below.refl _ _⟩
        · have tz : ((pos s (b :: u) : Int) == 0) = false := by rw [beq_eq_false_iff_ne]; omega
          cases o with
          | zero =>
            have HV : Hid ((v, z) = (unesc (l.take (l.length - (b :: u).length)), pos s (b :: u))) := F0.out hend
            clear hend hz0
            go_wp2_with (go_at_call 28; refine (HU.out _).mono ?_; rintro e w1 ⟨rfl, hb1⟩)
            go_ret2
            exact ⟨two_some HV rfl rfl, hb1⟩
          | succ k =>
            have HV : Hid ((v, z) = (([] : List UInt8), 0)) := FP.out (k + 1) (by omega) hend
            clear hend hz0
            have hk : 0 < ((k + 1 : Nat) : Int) := by omega
            go_wp2
            go_ret2
            exact ⟨two_none HV, Below.refl _ _⟩

      · have hend := hstop (by decide)
        clear hstop
        by_cases hz0 : pos s (127 :: u) = 0
        · have HV : Hid ((v, z) = (([] : List UInt8), 0)) := by
            have hq : l.take (l.length - ((127 :: u) : List UInt8).length) = [] := by
              have : l.length - ((127 :: u) : List UInt8).length = 0 := by rw [HZ.out]; exact hz0
              rw [this]; rfl
            rcases Nat.eq_zero_or_pos o with ho0 | ho0
            · subst ho0
              have := F0.out hend
              rw [hq, hz0] at this
              exact this
            · exact FP.out o ho0 hend
          have tz : ((pos s (127 :: u) : Int) == 0) = true := by rw [hz0]; rfl
          clear hend hz0
          go_wp2
          go_ret2
          exact ⟨two_none HV, Below.refl _ _⟩
        · have tz : ((pos s (127 :: u) : Int) == 0) = false := by rw [beq_eq_false_iff_ne]; omega
          cases o with
          | zero =>
            have HV : Hid ((v, z) = (unesc (l.take (l.length - (127 :: u).length)), pos s (127 :: u))) := F0.out hend
            clear hend hz0
            go_wp2_with (go_at_call 28; refine (HU.out _).mono ?_; rintro e w1 ⟨rfl, hb1⟩)
            go_ret2
            exact ⟨two_some HV rfl rfl, hb1⟩
          | succ k =>
            have HV : Hid ((v, z) = (([] : List UInt8), 0)) := FP.out (k + 1) (by omega) hend
            clear hend hz0
            have hk : 0 < ((k + 1 : Nat) : Int) := by omega
            go_wp2
            go_ret2
            exact ⟨two_none HV, Below.refl _ _⟩

      · have HS := (show Hid _ from fun w => jesc_any s (by omega) 41 u h1.out w)
        have e1 : escB (41 :: u) = false := by cases u <;> rfl
        rw [e1] at HS
        clear hstop e1
        by_cases hop : o = 0
        · subst hop
          have hend : bareS 0 l = some (41 :: u, 0) := by rw [h2.out, HR.out, if_neg (by decide), if_pos rfl, if_pos rfl]
          by_cases hz0 : pos s (41 :: u) = 0
          · have HV : Hid ((v, z) = (([] : List UInt8), 0)) := by
              have hq : l.take (l.length - (41 :: u).length) = [] := by
                have : l.length - (41 :: u).length = 0 := by rw [HZ.out]; exact hz0
                rw [this]; rfl
              have := F0.out hend
              rw [hq, hz0] at this
              exact this
            have tz : ((pos s (41 :: u) : Int) == 0) = true := by rw [hz0]; rfl
            clear hend hz0
            go_wp2_with (go_at_call 23; refine (HS.out _).mono ?_; rintro e w' ⟨rfl, hw'⟩; subst w')
            go_ret2
            exact ⟨two_none HV, Below.refl _ _⟩
          · have tz : ((pos s (41 :: u) : Int) == 0) = false := by rw [beq_eq_false_iff_ne]; omega
            have HV : Hid ((v, z) = (unesc (l.take (l.length - (41 :: u).length)), pos s (41 :: u))) := F0.out hend
            clear hend hz0
            go_wp2_with (first
              | (go_at_call 23; refine (HS.out _).mono ?_; rintro e w' ⟨rfl, hw'⟩; subst w')
              | (go_at_call 28; refine (HU.out _).mono ?_; rintro e w1 ⟨rfl, hb1⟩))
            go_ret2
            exact ⟨two_some HV rfl rfl, hb1⟩
        · obtain ⟨k, rfl⟩ : ∃ k, o = k + 1 := ⟨o - 1, by omega⟩
          have hnext : Hid (bareS 0 l = bareS k u) := by show _ = _; rw [h2.out, HR.out, if_neg (by decide), if_pos rfl, if_neg (by omega)]; rfl
          have hk : (((k + 1 : Nat) : Int) == 0) = false := by simp; omega
          clear hop
          go_wp2_with (go_at_call 23; refine (HS.out _).mono ?_; rintro e w' ⟨rfl, hw'⟩; subst w')
          go_roundw
          case rel =>
            refine ⟨u, k, ?_, ?_, by first | exact trivial | rfl, ?_, h1.out.tail, hnext⟩
            · rw [HN.out]; go_num
            · go_num
            · show k ≤ 32; omega
          case measure => simp [intOf]; omega
      · have HS := (show Hid _ from fun w => jesc_any s (by omega) 40 u h1.out w)
        have e1 : escB (40 :: u) = false := by cases u <;> rfl
        rw [e1] at HS
        clear hstop e1
        by_cases ho2 : o = 32
        · subst ho2
          have hend : bareS 0 l = none := by rw [h2.out, HR.out, if_neg (by decide), if_neg (by decide), if_pos rfl, if_pos (by omega)]
          have HV : Hid ((v, z) = (([] : List UInt8), 0)) := FN.out hend
          clear hend
          go_wp2_with (go_at_call 23; refine (HS.out _).mono ?_; rintro e w' ⟨rfl, hw'⟩; subst w')
          go_ret2
          exact ⟨two_none HV, Below.refl _ _⟩
        · have hnext : Hid (bareS 0 l = bareS (o + 1) u) := by show _ = _; rw [h2.out, HR.out, if_neg (by decide), if_neg (by decide), if_pos rfl, if_neg (by omega)]
          have hk : ¬ (32 : Int) < (o : Int) + 1 := by omega
          clear ho2
          go_wp2_with (go_at_call 23; refine (HS.out _).mono ?_; rintro e w' ⟨rfl, hw'⟩; subst w')
          go_roundw
          case rel =>
            refine ⟨u, o + 1, ?_, ?_, by first | exact trivial | rfl, ?_, h1.out.tail, hnext⟩
            · rw [HN.out]; go_num
            · go_num
            · show o + 1 ≤ 32; omega
          case measure => simp [intOf]; omega
      · have HS := (show Hid _ from fun w => jesc_any s (by omega) b u h1.out w)
        have hnext : Hid (bareS 0 l = bareS o ((b :: u).drop (stepL (b :: u)))) := by
          show _ = _
          rw [h2.out, HR.out, if_neg (by unfold bareC; rw [decide_eq_true hc]; simpa using n1), if_neg n2, if_neg n3]
        have e1 := h1.out.sum
        have m4 : (32 : Int) < (b.toNat : Int) := by omega
        have m1 : ((b.toNat : Int) == 127) = false := by rw [beq_eq_false_iff_ne]; intro x; exact n1 (UInt8.toNat_inj.1 (by show _ = 127; omega))
        have m1' : ((b.toNat : Int) != 127) = true := by simpa using m1
        have m2 : ((b.toNat : Int) == 41) = false := by rw [beq_eq_false_iff_ne]; intro x; exact n2 (UInt8.toNat_inj.1 (by show _ = 41; omega))
        have m3 : ((b.toNat : Int) == 40) = false := by rw [beq_eq_false_iff_ne]; intro x; exact n3 (UInt8.toNat_inj.1 (by show _ = 40; omega))
        rcases esc_cases b u with ⟨c1, c2⟩ | ⟨c1, c2, c3⟩
        · rw [c1] at HS
          rw [c2] at hnext
          clear hstop n1 n2 n3 hc e1 c1 c2
          go_wp2_with (go_at_call 23; refine (HS.out _).mono ?_; rintro e w' ⟨rfl, hw'⟩; subst w')
          go_roundw
          case rel =>
            refine ⟨u, o, ?_, rfl, by first | exact trivial | rfl, ho, h1.out.tail, hnext⟩
            rw [HN.out]
            go_num
          case measure => simp [intOf]; omega
        · rw [c1] at HS
          rw [c2] at hnext
          have HD2 : Hid (pos s ((b :: u).drop 2) = pos s (b :: u) + 2) := pos_drop h1.out c3
          have hle3 : (pos s (b :: u) : Int) + 2 ≤ (s.size : Int) := by omega
          clear hstop n1 n2 n3 hc e1 c1 c2 c3
          go_wp2_with (go_at_call 23; refine (HS.out _).mono ?_; rintro e w' ⟨rfl, hw'⟩; subst w')
          go_roundw
          case rel =>
            refine ⟨(b :: u).drop 2, o, ?_, rfl, by first | exact trivial | rfl, ho, h1.out.drop 2, hnext⟩
            rw [HD2.out]
            go_num
          case measure => simp [intOf]; omega

theorem jdest_at (s : ByteArray) (hs : s.size ≤ 140737488351232) (v : List UInt8) (z : Nat) (h : Hid (pairL (destL s.data.toList) = (v, z))) (w : World) :
    Calls Tryd.prog 12 #[.string s] w fun e w' => e = .returned (.tuple #[.string ⟨v.toArray⟩, .int .i64 (z : Int)]) ∧ Below w.heap.size w w' := by
  cases hl : s.data.toList with
  | nil =>
    have he : s.toList.isEmpty = true := nil_text s _ (by rw [hl]; rfl)
    have HV : Hid ((v, z) = (([] : List UInt8), 0)) := by have := h.out; rw [hl] at this; exact this.symm
    clear hl h
    go_enter Tryd.func12, Tryd.ntmps12
    go_wp2
    go_ret2
    exact ⟨two_none HV, Below.refl _ _⟩
  | cons a t =>
    by_cases ha : a = 60
    · subst ha
      exact jdest_encl s hs t hl v z h w
    · refine jdest_bare s hs a t hl ha v z ?_ w
      have := h.out
      rw [dest_bare _ (by rw [hl]; simp [hdB, ha])] at this
      exact this

end Go.Proofs.YtadghfgjdfgopaaDoor
