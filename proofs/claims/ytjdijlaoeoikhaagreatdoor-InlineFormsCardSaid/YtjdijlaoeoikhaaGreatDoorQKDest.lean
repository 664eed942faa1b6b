/- Package link: Dest; walked. -/
import Derived.Test.YtjdijlaoeoikhaaGreatDoorG18
import Derived.WalkMore
set_option linter.unusedVariables false
namespace Go.Proofs.YtjdijlaoeoikhaaGreatDoor.lnk
open Go.RowKit

def destB (l : List UInt8) : List UInt8 × Nat := match bareS 0 l with
  | none => ([], 0)
  | some (r, o) => if 0 < o then ([], 0) else (unesc (l.take (l.length - r.length)), l.length - r.length)

theorem dest_bare (l : List UInt8) (h : hdB l 60 = false) : pairL (destL l) = destB l := by
  cases l with
  | nil => rfl
  | cons a t =>
    have ha : ¬ a = 60 := by simpa [hdB] using h
    simp only [destL, destB]
    rw [if_neg ha]
    cases hb : bareS 0 (a :: t) with
    | none => rfl
    | some ro =>
      obtain ⟨r, o⟩ := ro
      simp only
      by_cases ho : 0 < o
      · rw [if_pos (.inr ho), if_pos ho]
        rfl
      · rw [if_neg ho]
        by_cases hr : r.length = (a :: t).length
        · rw [if_pos (.inl hr), hr, Nat.sub_self]
          rfl
        · rw [if_neg (by rintro (x | x); exact hr x; exact ho x)]
          rfl

theorem dest_encl (l : List UInt8) (h : hdB l 60 = true) : pairL (destL l) = (if enclL 60 62 (fun b => b == 60 || b == 10) l = 0 then [] else unesc ((l.drop 1).take (enclL 60 62 (fun b => b == 60 || b == 10) l - 2)), enclL 60 62 (fun b => b == 60 || b == 10) l) := by
  cases l with
  | nil => cases h
  | cons a t =>
    have ha : a = 60 := by simpa [hdB] using h
    have he : enclL 60 62 (fun b => b == 60 || b == 10) (a :: t) = match scanU 62 (fun b => b == 60 || b == 10) t with
        | none => 0
        | some r => t.length - r.length + 1 := by simp only [enclL]; rw [if_pos ha]; rfl
    rw [he]
    simp only [destL]
    rw [if_pos ha]
    cases hs : scanU 62 (fun b => b == 60 || b == 10) t with
    | none => rfl
    | some r =>
      have := scan_le hs
      simp only
      rw [if_neg (by omega), show t.length - r.length + 1 - 2 = t.length - (r.length + 1) by omega]
      rfl

theorem bare_round (o : Nat) (b : UInt8) (u : List UInt8) : bareS o (b :: u) = if bareC b = false then some (b :: u, o) else if b = 41 then (if o = 0 then some (b :: u, 0) else bareS (o - 1) u) else if b = 40 then (if 32 < o + 1 then none else bareS (o + 1) u) else bareS o ((b :: u).drop (stepL (b :: u))) := by
  by_cases hc : bareC b = false
  · rw [if_pos hc]
    exact bare_stop o (b :: u) (.inr ⟨b, u, rfl, hc⟩)
  · rw [if_neg hc]
    have hc2 : bareC b = true := by simpa using hc
    by_cases hesc : ∃ c t, u = c :: t ∧ b = 92 ∧ markN c.toNat = true
    · obtain ⟨c, t, rfl, h1, h2⟩ := hesc
      rw [if_neg (by rw [h1]; decide), if_neg (by rw [h1]; decide)]
      simp only [bareS, stepL]
      rw [if_neg hc, if_pos ⟨h1, h2⟩, if_pos ⟨h1, h2⟩]
      rfl
    · rw [bare_byte o hc2 u (fun c t e x => hesc ⟨c, t, e, x⟩)]
      by_cases h41 : b = 41
      · rw [if_neg (by rw [h41]; decide), if_pos h41, if_pos h41]
      · rw [if_neg h41, if_neg h41]
        by_cases h40 : b = 40
        · rw [if_pos h40, if_pos h40]
        · rw [if_neg h40, if_neg h40]
          have : stepL (b :: u) = 1 := by
            cases u with
            | nil => rfl
            | cons c t =>
              simp only [stepL]
              rw [if_neg (fun x => hesc ⟨c, t, rfl, x⟩)]
          rw [this]
          rfl



theorem ext_pos {s : ByteArray} {l : List UInt8} (h : Suf s l) : (s.extract 0 (pos s l)).data.toList = s.data.toList.take (s.data.toList.length - l.length) := by
  rw [ext_take, len_data]
  rfl

set_option maxHeartbeats 4000000 in
set_option maxRecDepth 8000 in
theorem kdest_bare (s : ByteArray) (hs : s.size ≤ 9223372036854775000) (h60 : hdB s.data.toList 60 = false) (v : List UInt8) (z : Nat) (hz47 : z ≤ 140737488351232) (h : Hid (destB s.data.toList = (v, z))) (w : World) :
    Calls Tryz.prog 98 #[.string s] w fun e w' => e = .returned (.tuple #[.string ⟨v.toArray⟩, .int .i64 (z : Int)]) ∧ Below w.heap.size w w' := by
  have H0 := (show Hid _ from fun w => khas_any s s.data.toList (Suf.whole s) 0 (by rw [pos_whole]; rfl) 60 60 rfl w)
  rw [h60] at H0
  have HW : Hid (Suf s s.data.toList) := Suf.whole s
  have HP : Hid (pos s s.data.toList = 0) := pos_whole s
  have HZ : Hid (s.data.toList.length = s.size) := len_data s
  have HD : Hid (destB s.data.toList = match bareS 0 s.data.toList with
    | none => ([], 0)
    | some (r, o) => if 0 < o then ([], 0) else (unesc (s.data.toList.take (s.data.toList.length - r.length)), s.data.toList.length - r.length)) := rfl
  clear h60
  generalize hl : s.data.toList = l at *
  have HL : Hid (s.data.toList = l) := hl
  clear hl
  go_enter Tryz.func98, Tryz.ntmps98
  go_wp2
  go_step3
  go_wp2_with (go_at_call 127; refine (H0.out _).mono ?_; rintro e w' ⟨rfl, hw'⟩; subst w')
  go_step3
  go_wp2
  go_loopw [5, 6] (fun A O wr => ∃ (l' : List UInt8) (o : Nat), A = .int .i64 (pos s l' : Int) ∧ O = .int .i64 (o : Int) ∧ Hid (wr = w) ∧ Hid (o ≤ 32) ∧ Hid (Suf s l') ∧ Hid (bareS 0 l = bareS o l')) (fun A _ _ => s.size - (intOf A).toNat)
  case atStart => exact ⟨l, 0, by rw [HP.out]; rfl, rfl, rfl, Nat.zero_le _, HW.out, rfl⟩
  case round =>
    obtain ⟨l', o, rfl, rfl, hbw, ho, h1, h2⟩ := hrel
    have hwr := hbw.out
    subst hwr
    have ho' := ho.out
    have hpl := pos_le s l'
    -- where the place ends
    have F0 : Hid (bareS 0 l = some (l', 0) → (v, z) = (unesc (l.take (l.length - l'.length)), pos s l')) := by
      intro x
      rw [← h.out, HD.out, x]
      have : l.length - l'.length = pos s l' := by unfold pos; rw [HZ.out]
      simp only [Nat.lt_irrefl, if_false, this]
    have FP : Hid (∀ k, 0 < k → bareS 0 l = some (l', k) → (v, z) = (([] : List UInt8), 0)) := by
      intro k hk x
      rw [← h.out, HD.out, x]
      simp only [hk, if_true]
    have FN : Hid (bareS 0 l = none → (v, z) = (([] : List UInt8), 0)) := by
      intro x
      rw [← h.out, HD.out, x]
    cases l' with
    | nil =>
      have hp : pos s [] = s.size := pos_nil s
      have hend : bareS 0 l = some ([], o) := h2.out
      cases o with
      | zero =>
        have HV : Hid ((v, z) = (unesc l, s.size)) := by
          have := F0.out hend
          rw [hp, List.length_nil, Nat.sub_zero, List.take_length] at this
          exact this
        have HU := (show Hid _ from fun w => esc.unesc_any s w (by rw [(Prod.mk.inj HV.out).2] at hz47; exact hz47))
        rw [HL.out] at HU
        clear hend
        go_wp2_with (go_at_call 130; refine (HU.out _).mono ?_; rintro e w1 ⟨rfl, hb1⟩)
        try rw [Exit.noGoto_ret]
        go_ret2
        exact ⟨two_some HV rfl rfl, hb1⟩
      | succ k =>
        have HV : Hid ((v, z) = (([] : List UInt8), 0)) := FP.out (k + 1) (by omega) hend
        clear hend
        have hk : 0 < ((k + 1 : Nat) : Int) := by omega
        go_wp2
        try rw [Exit.noGoto_ret]
        go_ret2
        exact ⟨two_none HV, Below.refl _ _⟩
    | cons b u =>
      have hlt := h1.out.lt
      have hbb := h1.out.byte hlt
      have hle : (pos s (b :: u) : Int) + 1 ≤ (s.size : Int) := by omega
      have HR := (show Hid _ from bare_round o b u)
      have HU' := (show Hid _ from fun (hx : pos s (b :: u) ≤ 140737488351232) w => esc.unesc_any (s.extract 0 (pos s (b :: u))) w (by rw [ByteArray.size_extract]; omega))
      rw [ext_pos h1.out, HL.out] at HU'
      have HN := (show Hid _ from h1.out.succ)
      generalize unesc (l.take (l.length - (b :: u).length)) = U at *
      have hcase : b.toNat ≤ 32 ∨ b = 127 ∨ b = 41 ∨ b = 40 ∨ (32 < b.toNat ∧ b ≠ 127 ∧ b ≠ 41 ∧ b ≠ 40) := by
        by_cases c1 : b.toNat ≤ 32
        · exact .inl c1
        · by_cases c2 : b = 127
          · exact .inr (.inl c2)
          · by_cases c3 : b = 41
            · exact .inr (.inr (.inl c3))
            · by_cases c4 : b = 40
              · exact .inr (.inr (.inr (.inl c4)))
              · exact .inr (.inr (.inr (.inr ⟨by omega, c2, c3, c4⟩)))
      have hstop : bareC b = false → bareS 0 l = some (b :: u, o) := by
        intro x
        rw [h2.out, HR.out, if_pos x]
      rcases hcase with hc | rfl | rfl | rfl | ⟨hc, n1, n2, n3⟩
      · have hend := hstop (by unfold bareC; rw [decide_eq_false (by omega)]; rfl)
        have hci : (b.toNat : Int) ≤ 32 := by omega
        clear hstop
        cases o with
        | zero =>
          have HV : Hid ((v, z) = (U, pos s (b :: u))) := F0.out hend
          have HU := (show Hid _ from HU'.out (by rw [(Prod.mk.inj HV.out).2] at hz47; exact hz47))
          clear hend
          go_wp2_with (go_at_call 130; refine (HU.out _).mono ?_; rintro e w1 ⟨rfl, hb1⟩)
          try rw [Exit.noGoto_ret]
          go_ret2
          exact ⟨two_some HV rfl rfl, hb1⟩
        | succ k =>
          have HV : Hid ((v, z) = (([] : List UInt8), 0)) := FP.out (k + 1) (by omega) hend
          clear hend
          have hk : 0 < ((k + 1 : Nat) : Int) := by omega
          go_wp2
          try rw [Exit.noGoto_ret]
          go_ret2
          exact ⟨two_none HV, Below.refl _ _⟩
      · have hend := hstop (by decide)
        clear hstop
        cases o with
        | zero =>
          have HV : Hid ((v, z) = (U, pos s (127 :: u))) := F0.out hend
          have HU := (show Hid _ from HU'.out (by rw [(Prod.mk.inj HV.out).2] at hz47; exact hz47))
          clear hend
          go_wp2_with (go_at_call 130; refine (HU.out _).mono ?_; rintro e w1 ⟨rfl, hb1⟩)
          try rw [Exit.noGoto_ret]
          go_ret2
          exact ⟨two_some HV rfl rfl, hb1⟩
        | succ k =>
          have HV : Hid ((v, z) = (([] : List UInt8), 0)) := FP.out (k + 1) (by omega) hend
          clear hend
          have hk : 0 < ((k + 1 : Nat) : Int) := by omega
          go_wp2
          try rw [Exit.noGoto_ret]
          go_ret2
          exact ⟨two_none HV, Below.refl _ _⟩
      · have HS := (show Hid _ from fun w => kstep_any s (by omega) 41 u h1.out w)
        have e1 : stepL (41 :: u) = 1 := by cases u <;> rfl
        rw [e1] at HS
        clear hstop e1
        cases o with
        | zero =>
          have hend : bareS 0 l = some (41 :: u, 0) := by rw [h2.out, HR.out, if_neg (by decide), if_pos rfl, if_pos rfl]
          have HV : Hid ((v, z) = (U, pos s (41 :: u))) := F0.out hend
          have HU := (show Hid _ from HU'.out (by rw [(Prod.mk.inj HV.out).2] at hz47; exact hz47))
          clear hend
          go_wp2_with (go_at_call 130; refine (HU.out _).mono ?_; rintro e w1 ⟨rfl, hb1⟩)
          try rw [Exit.noGoto_ret]
          go_ret2
          exact ⟨two_some HV rfl rfl, hb1⟩
        | succ k =>
          have hnext : Hid (bareS 0 l = bareS k u) := by show _ = _; rw [h2.out, HR.out, if_neg (by decide), if_pos rfl, if_neg (by omega)]; rfl
          have hk : (((k + 1 : Nat) : Int) == 0) = false := by simp; omega
          go_wp2_with (go_at_call 129; refine (HS.out _).mono ?_; rintro e w' ⟨rfl, hw'⟩; subst w')
          go_roundw
          case rel =>
            refine ⟨u, k, ?_, ?_, trivial, ?_, h1.out.tail, hnext⟩
            · rw [HN.out]; go_num
            · go_num
            · show k ≤ 32; omega
          case measure => simp [intOf]; omega
      · have HS := (show Hid _ from fun w => kstep_any s (by omega) 40 u h1.out w)
        have e1 : stepL (40 :: u) = 1 := by cases u <;> rfl
        rw [e1] at HS
        clear hstop e1
        by_cases ho2 : o = 32
        · subst ho2
          have hend : bareS 0 l = none := by rw [h2.out, HR.out, if_neg (by decide), if_neg (by decide), if_pos rfl, if_pos (by omega)]
          have HV : Hid ((v, z) = (([] : List UInt8), 0)) := FN.out hend
          clear hend
          go_wp2
          try rw [Exit.noGoto_ret]
          go_ret2
          exact ⟨two_none HV, Below.refl _ _⟩
        · have hnext : Hid (bareS 0 l = bareS (o + 1) u) := by show _ = _; rw [h2.out, HR.out, if_neg (by decide), if_neg (by decide), if_pos rfl, if_neg (by omega)]
          have hk : ((o : Int) == 32) = false := by simp; omega
          go_wp2_with (go_at_call 129; refine (HS.out _).mono ?_; rintro e w' ⟨rfl, hw'⟩; subst w')
          go_roundw
          case rel =>
            refine ⟨u, o + 1, ?_, ?_, trivial, ?_, h1.out.tail, hnext⟩
            · rw [HN.out]; go_num
            · go_num
            · show o + 1 ≤ 32; omega
          case measure => simp [intOf]; omega
      · have HS := (show Hid _ from fun w => kstep_any s (by omega) b u h1.out w)
        have hst := step_le b u
        have HD2 : Hid (pos s ((b :: u).drop (stepL (b :: u))) = pos s (b :: u) + stepL (b :: u)) := pos_drop h1.out hst.2
        have hnext : Hid (bareS 0 l = bareS o ((b :: u).drop (stepL (b :: u)))) := by
          show _ = _
          rw [h2.out, HR.out, if_neg (by unfold bareC; rw [decide_eq_true hc]; simpa using n1), if_neg n2, if_neg n3]
        have e1 := h1.out.sum
        generalize stepL (b :: u) = k at *
        have hk1 : (pos s (b :: u) : Int) + (k : Int) ≤ (s.size : Int) := by omega
        have hk2 : 1 ≤ (k : Int) := by omega
        have m0 : ¬ (b.toNat : Int) ≤ 32 := by omega
        have m1 : ((b.toNat : Int) == 127) = false := by rw [beq_eq_false_iff_ne]; intro x; exact n1 (UInt8.toNat_inj.1 (by show _ = 127; omega))
        have m2 : ((b.toNat : Int) == 41) = false := by rw [beq_eq_false_iff_ne]; intro x; exact n2 (UInt8.toNat_inj.1 (by show _ = 41; omega))
        have m3 : ((b.toNat : Int) == 40) = false := by rw [beq_eq_false_iff_ne]; intro x; exact n3 (UInt8.toNat_inj.1 (by show _ = 40; omega))
        clear hstop n1 n2 n3 hc e1
        go_wp2_with (go_at_call 129; refine (HS.out _).mono ?_; rintro e w' ⟨rfl, hw'⟩; subst w')
        go_roundw
        case rel =>
          refine ⟨(b :: u).drop k, o, ?_, rfl, trivial, ho, h1.out.drop k, hnext⟩
          rw [HD2.out]
          go_num
        case measure => simp [intOf]; omega

set_option maxHeartbeats 1000000 in
theorem kdest_at (s : ByteArray) (hs : s.size ≤ 9223372036854775000) (v : List UInt8) (z : Nat) (hz47 : z ≤ 140737488351232) (h : Hid (pairL (destL s.data.toList) = (v, z))) (w : World) :
    Calls Tryz.prog 98 #[.string s] w fun e w' => e = .returned (.tuple #[.string ⟨v.toArray⟩, .int .i64 (z : Int)]) ∧ Below w.heap.size w w' := by
  cases h60 : hdB s.data.toList 60
  · exact kdest_bare s hs h60 v z hz47 (by have := h.out; rw [dest_bare _ h60] at this; exact this) w
  · have H0 := (show Hid _ from fun w => khas_any s s.data.toList (Suf.whole s) 0 (by rw [pos_whole]; rfl) 60 60 rfl w)
    rw [h60] at H0
    have hd := h.out
    rw [dest_encl _ h60] at hd
    have hl2 := encl_two 60 62 (fun b => b == 60 || b == 10) s.data.toList
    have hle := encl_le 60 62 (fun b => b == 60 || b == 10) s.data.toList
    rw [len_data] at hle
    have HE := (show Hid _ from fun w => kencl_any s (by omega) 60 62 60 62 rfl rfl ⟨#[60, 10]⟩ (fun b => b == 60 || b == 10) (fun b => by rw [Bool.eq_iff_iff]; simp) w)
    generalize enclL 60 62 (fun b => b == 60 || b == 10) s.data.toList = n at *
    have HI := (show Hid _ from fun w => kinside_any s hs n (by rw [← (Prod.mk.inj hd).2] at hz47; exact hz47) hle hl2 w)
    generalize (if n = 0 then [] else unesc ((s.data.toList.drop 1).take (n - 2))) = U at *
    have HV : Hid ((v, z) = (U, n)) := hd.symm
    clear hd h60 h hl2 hle
    go_enter Tryz.func98, Tryz.ntmps98
    go_wp2
    go_step3
    go_wp2_with (first
      | (go_at_call 127; refine (H0.out _).mono ?_; rintro e w' ⟨rfl, hw'⟩; subst w')
      | (go_at_call 100; refine (HE.out _).mono ?_; rintro e w' ⟨rfl, hw'⟩; subst w')
      | (go_at_call 128; refine (HI.out _).mono ?_; rintro e w1 ⟨rfl, hb1⟩))
    try rw [Exit.noGoto_ret]
    go_ret2
    exact ⟨two_some HV rfl rfl, hb1⟩

end Go.Proofs.YtjdijlaoeoikhaaGreatDoor.lnk
