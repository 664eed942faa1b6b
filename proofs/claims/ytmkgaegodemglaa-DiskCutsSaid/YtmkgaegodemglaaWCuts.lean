/- DiskCuts, walked. -/
import Derived.Test.YtmkgaegodemglaaDCls
set_option linter.unusedVariables false
namespace Go.Proofs.Ytmkgaegodemglaa
open Go.RowKit

theorem k_cut_no (bs : List UInt8) (la : Nat) (k : Int) (h : k < 0 ∨ (bs.length : Int) < k) : cutP (kD [(nF, ⟨bs, la⟩)] true 0) nF k = (1, kD [(nF, ⟨bs, la⟩)] true 0) := by
  unfold cutP
  have e : theF (kD [(nF, ⟨bs, la⟩)] true 0) nF = ⟨bs, la⟩ := rfl
  rw [if_neg (by have : findV (kD [(nF, ⟨bs, la⟩)] true 0) nF = 0 := rfl; rw [this]; decide), e, if_pos h]
theorem k_cut (bs : List UInt8) (la k : Nat) (h : k ≤ bs.length) : cutP (kD [(nF, ⟨bs, la⟩)] true 0) nF (k : Int) = (0, kD [(nF, ⟨bs.take k, min la k⟩)] true 0) := by
  unfold cutP
  have e : theF (kD [(nF, ⟨bs, la⟩)] true 0) nF = ⟨bs, la⟩ := rfl
  rw [if_neg (by have : findV (kD [(nF, ⟨bs, la⟩)] true 0) nF = 0 := rfl; rw [this]; decide), e, if_neg (by simp only; omega), if_neg (by show ¬ (-1 : Int) = 0; decide)]
  rfl
theorem k_crash1 (f : Fl) (keep : Nat) : crashD (kD [(nF, f)] true 0) keep = kD [(nF, fallF keep 0 f)] false 1 := rfl

/-- What stays of a file that was cut. -/
theorem cut_fall (keep : Nat) (bs : List UInt8) (la k : Nat) (hk : k ≤ bs.length) : ∃ Y, fallF keep 0 ⟨bs.take k, min la k⟩ = ⟨Y, Y.length⟩ ∧ Y <+: bs.take k ∧ Y.length ≤ k ∧ (la = bs.length → Y = bs.take k) := by
  have hl : (bs.take k).length = k := by rw [List.length_take]; omega
  have h0 : min la k ≤ (bs.take k).length := by rw [hl]; omega
  have h1 := stay_le (keep := keep) (i := 0) (f := ⟨bs.take k, min la k⟩) h0
  have h2 := fallF_len (keep := keep) (i := 0) (f := ⟨bs.take k, min la k⟩) h0
  refine ⟨(fallF keep 0 ⟨bs.take k, min la k⟩).bs, ?_, ?_, ?_, ?_⟩
  · rw [h2]; rfl
  · exact List.take_prefix _ _
  · rw [h2]; simp only at h1; omega
  · intro e
    have h3 : min la k = (bs.take k).length := by rw [hl, e]; omega
    rw [h3, fall_lasts]

set_option maxHeartbeats 4000000 in
set_option maxRecDepth 20000 in
theorem wcuts (a0 : Option Addr) (n0 c0 : Nat) (bs : List UInt8) (hl0 : n0 ≤ 140737488351232) (n : Int) (hn : -9223372036854775808 ≤ n ∧ n ≤ 9223372036854775807) (sync : Bool)
    (keep : Nat) (hk : keep < 18446744073709551616) (w : World) (r0 : BRow w a0 n0 c0 bs) (hc0 : n0 ≤ c0) :
    Calls Try.prog 6 #[.slice a0 n0 c0, .int .i64 n, .bool sync, .int .u64 (keep : Int)] w fun e w' => e = .returned (.bool true) ∧ Below w.heap.size w w' := by
  have z0 := r0.1
  subst z0
  have R0 : Hid (BRow w a0 bs.length c0 bs) := r0
  have j0 : (bs.length : Int) ≤ 140737488351232 := by omega
  have HC0 : Hid (bs.length ≤ c0) := hc0
  have HK : Hid (keep < 18446744073709551616) := hk
  have HN : Hid (-9223372036854775808 ≤ n ∧ n ≤ 9223372036854775807) := hn
  clear r0 hl0 hc0 hk
  by_cases hbig : (100000 : Int) < (bs.length : Int)
  · have q : decide ((100000 : Int) < (bs.length : Int)) = true := by simpa using hbig
    go_enter Try.func6, Try.ntmps6
    go_wp2_with (fail)
    refine (shown_any w).mono ?_
    rintro e w1 ⟨rfl, hb1⟩
    go_wp2_with (fail)
    refine (newL hb1 1099511627776 (by omega)).mono ?_
    rintro e w2 ⟨b, m, S1, rfl, hL⟩
    have HB : Hid (Below w.heap.size w w2) := hL.below
    clear hL hb1
    go_wp2_with (fail)
    go_ret
    exact ⟨rfl, HB.out⟩
  · have q : decide ((100000 : Int) < (bs.length : Int)) = false := by simpa using hbig
    have HS : Hid (bs.length ≤ 100000) := by show _ ≤ _; omega
    clear hbig
    cases sync with
    | true =>
      by_cases h1 : n < 0
      · have q1 : decide (n < 0) = true := by simpa using h1
        go_enter Try.func6, Try.ntmps6
        go_wp2_with (fail)
        refine (shown_any w).mono ?_
        rintro e w1 ⟨rfl, hb1⟩
        go_wp2_with (fail)
        refine (newL hb1 1099511627776 (by omega)).mono ?_
        rintro e w2 ⟨b, m, S1, rfl, hL⟩
        rw [k_new] at hL
        have L2 : Hid (Lv w w2 b m S1 (kD [] true 0)) := hL
        clear hL hb1
        go_wp2_with (fail)
        refine (appendL L2.out nF (by decide) (R0.out.below L2.out.below) (by have := HS.out; show 0 + bs.length ≤ _; omega) (by decide)).mono ?_
        rw [k_app0 bs HS.out]
        rintro e w3 ⟨rfl, S3, hL, _⟩
        have L3 : Hid (Lv w w3 b m S3 (kD [(nF, ⟨bs, 0⟩)] true 0)) := hL
        clear hL
        go_wp2_with (fail)
        refine (syncL L3.out nF (by decide)).mono ?_
        rw [k_sync]
        rintro e w4 ⟨rfl, hL, _⟩
        have L4 : Hid (Lv w w4 b m S3 (kD [(nF, ⟨bs, bs.length⟩)] true 0)) := hL
        clear hL
        go_wp2_with (fail)
        refine (cutL L4.out nF (by decide) n HN.out).mono ?_
        rw [k_cut_no bs bs.length n (by omega)]
        rintro e w5 ⟨rfl, hL, _⟩
        have L5 : Hid (Lv w w5 b m S3 (kD [(nF, ⟨bs, bs.length⟩)] true 0)) := hL
        clear hL
        go_wp2_with (fail)
        refine (readL L5.out nF (by decide)).mono ?_
        rintro e w6 ⟨a6, c6, rfl, hK, hL, _⟩
        have e6 : findV (kD [(nF, ⟨bs, bs.length⟩)] true 0) nF = 0 := rfl
        have g6 : theF (kD [(nF, ⟨bs, bs.length⟩)] true 0) nF = ⟨bs, bs.length⟩ := rfl
        rw [g6] at hK
        rw [e6, g6]
        have L6 : Hid (Lv w w6 b m S3 (kD [(nF, ⟨bs, bs.length⟩)] true 0)) := hL
        have s1 := own_string hK.own
        have s2 := (R0.out.below L6.out.below).string
        clear hL hK e6 g6
        go_wp2_with (fail)
        go_ret
        exact ⟨rfl, L6.out.below⟩
      · have q1 : decide (n < 0) = false := by simpa using h1
        by_cases h2 : (bs.length : Int) < n
        · have q2 : decide ((bs.length : Int) < n) = true := by simpa using h2
          go_enter Try.func6, Try.ntmps6
          go_wp2_with (fail)
          refine (shown_any w).mono ?_
          rintro e w1 ⟨rfl, hb1⟩
          go_wp2_with (fail)
          refine (newL hb1 1099511627776 (by omega)).mono ?_
          rintro e w2 ⟨b, m, S1, rfl, hL⟩
          rw [k_new] at hL
          have L2 : Hid (Lv w w2 b m S1 (kD [] true 0)) := hL
          clear hL hb1
          go_wp2_with (fail)
          refine (appendL L2.out nF (by decide) (R0.out.below L2.out.below) (by have := HS.out; show 0 + bs.length ≤ _; omega) (by decide)).mono ?_
          rw [k_app0 bs HS.out]
          rintro e w3 ⟨rfl, S3, hL, _⟩
          have L3 : Hid (Lv w w3 b m S3 (kD [(nF, ⟨bs, 0⟩)] true 0)) := hL
          clear hL
          go_wp2_with (fail)
          refine (syncL L3.out nF (by decide)).mono ?_
          rw [k_sync]
          rintro e w4 ⟨rfl, hL, _⟩
          have L4 : Hid (Lv w w4 b m S3 (kD [(nF, ⟨bs, bs.length⟩)] true 0)) := hL
          clear hL
          go_wp2_with (fail)
          refine (cutL L4.out nF (by decide) n HN.out).mono ?_
          rw [k_cut_no bs bs.length n (by omega)]
          rintro e w5 ⟨rfl, hL, _⟩
          have L5 : Hid (Lv w w5 b m S3 (kD [(nF, ⟨bs, bs.length⟩)] true 0)) := hL
          clear hL
          go_wp2_with (fail)
          refine (readL L5.out nF (by decide)).mono ?_
          rintro e w6 ⟨a6, c6, rfl, hK, hL, _⟩
          have e6 : findV (kD [(nF, ⟨bs, bs.length⟩)] true 0) nF = 0 := rfl
          have g6 : theF (kD [(nF, ⟨bs, bs.length⟩)] true 0) nF = ⟨bs, bs.length⟩ := rfl
          rw [g6] at hK
          rw [e6, g6]
          have L6 : Hid (Lv w w6 b m S3 (kD [(nF, ⟨bs, bs.length⟩)] true 0)) := hL
          have s1 := own_string hK.own
          have s2 := (R0.out.below L6.out.below).string
          clear hL hK e6 g6
          go_wp2_with (fail)
          go_ret
          exact ⟨rfl, L6.out.below⟩
        · have q2 : decide ((bs.length : Int) < n) = false := by simpa using h2
          obtain ⟨K, hK⟩ : ∃ K : Nat, n = (K : Int) := ⟨n.toNat, by omega⟩
          subst hK
          have HKB : Hid (K ≤ bs.length) := by show _ ≤ _; omega
          obtain ⟨X, hX⟩ : ∃ X, bs.take K = X := ⟨_, rfl⟩
          have HXE : Hid (bs.take K = X) := hX
          have HXL : Hid (X.length = K) := by show _ = _; rw [← hX, List.length_take]; have := HKB.out; omega
          clear hX HN hn
          go_enter Try.func6, Try.ntmps6
          go_wp2_with (fail)
          refine (shown_any w).mono ?_
          rintro e w1 ⟨rfl, hb1⟩
          go_wp2_with (fail)
          refine (newL hb1 1099511627776 (by omega)).mono ?_
          rintro e w2 ⟨b, m, S1, rfl, hL⟩
          rw [k_new] at hL
          have L2 : Hid (Lv w w2 b m S1 (kD [] true 0)) := hL
          clear hL hb1
          go_wp2_with (fail)
          refine (appendL L2.out nF (by decide) (R0.out.below L2.out.below) (by have := HS.out; show 0 + bs.length ≤ _; omega) (by decide)).mono ?_
          rw [k_app0 bs HS.out]
          rintro e w3 ⟨rfl, S3, hL, _⟩
          have L3 : Hid (Lv w w3 b m S3 (kD [(nF, ⟨bs, 0⟩)] true 0)) := hL
          clear hL
          go_wp2_with (fail)
          refine (syncL L3.out nF (by decide)).mono ?_
          rw [k_sync]
          rintro e w4 ⟨rfl, hL, _⟩
          have L4 : Hid (Lv w w4 b m S3 (kD [(nF, ⟨bs, bs.length⟩)] true 0)) := hL
          clear hL
          go_wp2_with (fail)
          refine (cutL L4.out nF (by decide) (K : Int) (by have := HS.out; have := HKB.out; omega)).mono ?_
          rw [k_cut bs bs.length K HKB.out]
          rintro e w5 ⟨rfl, hL, _⟩
          rw [HXE.out] at hL
          have L5 : Hid (Lv w w5 b m S3 (kD [(nF, ⟨X, min bs.length K⟩)] true 0)) := hL
          clear hL
          go_wp2_with (fail)
          refine (readL L5.out nF (by decide)).mono ?_
          rintro e w6 ⟨a6, c6, rfl, hK, hL, _⟩
          have e6 : findV (kD [(nF, ⟨X, min bs.length K⟩)] true 0) nF = 0 := rfl
          have g6 : theF (kD [(nF, ⟨X, min bs.length K⟩)] true 0) nF = ⟨X, min bs.length K⟩ := rfl
          rw [g6] at hK
          rw [e6, g6]
          have L6 : Hid (Lv w w6 b m S3 (kD [(nF, ⟨X, min bs.length K⟩)] true 0)) := hL
          have K6 : Hid (Kp w6 S3 (.slice a6 X.length c6) X) := hK
          clear hL hK e6 g6
          obtain ⟨Y, hY1, hY2, hY3, hY4⟩ := cut_fall keep bs bs.length K HKB.out
          rw [HXE.out] at hY1 hY2 hY4
          have HY1 : Hid (fallF keep 0 ⟨X, min bs.length K⟩ = ⟨Y, Y.length⟩) := hY1
          have HY2 : Hid (Y <+: X) := hY2
          have HY4 : Hid (bs.length = bs.length → Y = X) := hY4
          clear hY1 hY2 hY3 hY4
          go_wp2_with (fail)
          refine (crashL L6.out keep HK.out).mono ?_
          rw [k_crash1, HY1.out]
          rintro e w7 ⟨rfl, hL, hst⟩
          have L7 : Hid (Lv w w7 b m S3 (kD [(nF, ⟨Y, Y.length⟩)] false 1)) := hL
          have K7 : Hid (Kp w7 S3 (.slice a6 X.length c6) X) := K6.out.st hst
          clear hL hst
          go_wp2_with (fail)
          refine (startL L7.out).mono ?_
          rintro e w8 ⟨rfl, hL, hst⟩
          have L8 : Hid (Lv w w8 b m S3 (kD [(nF, ⟨Y, Y.length⟩)] true 1)) := hL
          have K8 : Hid (Kp w8 S3 (.slice a6 X.length c6) X) := K7.out.st hst
          clear hL hst
          go_wp2_with (fail)
          refine (readL L8.out nF (by decide)).mono ?_
          rintro e w9 ⟨a9, c9, rfl, hK, hL, hst⟩
          have e9 : findV (kD [(nF, ⟨Y, Y.length⟩)] true 1) nF = 0 := rfl
          have g9 : theF (kD [(nF, ⟨Y, Y.length⟩)] true 1) nF = ⟨Y, Y.length⟩ := rfl
          rw [g9] at hK
          rw [e9, g9]
          have L9 : Hid (Lv w w9 b m S3 (kD [(nF, ⟨Y, Y.length⟩)] true 1)) := hL
          have K9 : Hid (Kp w9 S3 (.slice a9 Y.length c9) Y) := hK
          have X9 : Hid (Kp w9 S3 (.slice a6 X.length c6) X) := K8.out.st hst
          clear hL hK e9 g9 hst
          have s1 : ∀ u : BwD w9, (convert 29 9 (.slice a6 X.length c6)).run Try.prog u.wo = .ok (.string ⟨X.toArray⟩) u.wo := fun u => own_string (own_below2 X9.out.own u.is)
          have p1 : BRow w9 a0 K c0 X := by have := (R0.out.below L9.out.below).pre HKB.out; rwa [HXE.out] at this
          have s2 : ∀ u : BwD w9, (convert 29 9 (.slice a0 K c0)).run Try.prog u.wo = .ok (.string ⟨X.toArray⟩) u.wo := fun u => (p1.below u.is).string
          have s3 := slice_to a0 bs.length c0 K HKB.out HC0.out
          have HBj : Hid (∀ u : BwD w9, Calls Try.prog 19 #[.slice a9 Y.length c9, .slice a6 X.length c6] u.wo fun e w' => e = .returned (.bool true) ∧ ∃ u' : BwD w9, w' = u'.wo) := fun u => (begins_any (own_brow (own_below2 K9.out.own u.is)) (own_brow (own_below2 X9.out.own u.is)) (own_take X9.out.own 0 (Nat.zero_le _)).2.1 (by have := HXL.out; have := HKB.out; have := HS.out; omega) HY2.out).mono fun e w' q => ⟨q.1, BwD.of (u.is.trans (q.2.mono u.is.size)), rfl⟩
          clear p1
          go_wp2_with (fail)
          refine region_classD (fun w' => ∃ u : BwD w9, w' = u.wo) (by kernel_rfl) (by kernel_rfl) (BwD.first w9) ?_
          haveI := BwD.some w9
          repeat (go_big_quiet_step (first | (go_at_call 19; exact HBj.out _) | exact s3 _ | exact rfl))
          refine wpQuiet_nil ?_
          intro w10 hw10
          obtain ⟨u, hu⟩ := hw10
          have hb : Below w9.heap.size w9 w10 := by rw [hu]; exact u.is
          clear hu
          have B10 : Hid (Below w.heap.size w w10) := L9.out.below.trans (hb.mono L9.out.below.size)
          have s4 := own_string (own_below2 K9.out.own hb)
          have s5 := own_string (own_below2 X9.out.own hb)
          have HYX : Y = X := by first | exact HY4.out rfl | exact HY4.out trivial
          subst HYX
          clear hb s1 s2 s3 HBj
          go_wp2_with (fail)
          go_ret
          exact ⟨rfl, B10.out⟩
    | false =>
      by_cases h1 : n < 0
      · have q1 : decide (n < 0) = true := by simpa using h1
        go_enter Try.func6, Try.ntmps6
        go_wp2_with (fail)
        refine (shown_any w).mono ?_
        rintro e w1 ⟨rfl, hb1⟩
        go_wp2_with (fail)
        refine (newL hb1 1099511627776 (by omega)).mono ?_
        rintro e w2 ⟨b, m, S1, rfl, hL⟩
        rw [k_new] at hL
        have L2 : Hid (Lv w w2 b m S1 (kD [] true 0)) := hL
        clear hL hb1
        go_wp2_with (fail)
        refine (appendL L2.out nF (by decide) (R0.out.below L2.out.below) (by have := HS.out; show 0 + bs.length ≤ _; omega) (by decide)).mono ?_
        rw [k_app0 bs HS.out]
        rintro e w3 ⟨rfl, S3, hL, _⟩
        have L3 : Hid (Lv w w3 b m S3 (kD [(nF, ⟨bs, 0⟩)] true 0)) := hL
        clear hL
        go_wp2_with (fail)
        refine (cutL L3.out nF (by decide) n HN.out).mono ?_
        rw [k_cut_no bs 0 n (by omega)]
        rintro e w5 ⟨rfl, hL, _⟩
        have L5 : Hid (Lv w w5 b m S3 (kD [(nF, ⟨bs, 0⟩)] true 0)) := hL
        clear hL
        go_wp2_with (fail)
        refine (readL L5.out nF (by decide)).mono ?_
        rintro e w6 ⟨a6, c6, rfl, hK, hL, _⟩
        have e6 : findV (kD [(nF, ⟨bs, 0⟩)] true 0) nF = 0 := rfl
        have g6 : theF (kD [(nF, ⟨bs, 0⟩)] true 0) nF = ⟨bs, 0⟩ := rfl
        rw [g6] at hK
        rw [e6, g6]
        have L6 : Hid (Lv w w6 b m S3 (kD [(nF, ⟨bs, 0⟩)] true 0)) := hL
        have s1 := own_string hK.own
        have s2 := (R0.out.below L6.out.below).string
        clear hL hK e6 g6
        go_wp2_with (fail)
        go_ret
        exact ⟨rfl, L6.out.below⟩
      · have q1 : decide (n < 0) = false := by simpa using h1
        by_cases h2 : (bs.length : Int) < n
        · have q2 : decide ((bs.length : Int) < n) = true := by simpa using h2
          go_enter Try.func6, Try.ntmps6
          go_wp2_with (fail)
          refine (shown_any w).mono ?_
          rintro e w1 ⟨rfl, hb1⟩
          go_wp2_with (fail)
          refine (newL hb1 1099511627776 (by omega)).mono ?_
          rintro e w2 ⟨b, m, S1, rfl, hL⟩
          rw [k_new] at hL
          have L2 : Hid (Lv w w2 b m S1 (kD [] true 0)) := hL
          clear hL hb1
          go_wp2_with (fail)
          refine (appendL L2.out nF (by decide) (R0.out.below L2.out.below) (by have := HS.out; show 0 + bs.length ≤ _; omega) (by decide)).mono ?_
          rw [k_app0 bs HS.out]
          rintro e w3 ⟨rfl, S3, hL, _⟩
          have L3 : Hid (Lv w w3 b m S3 (kD [(nF, ⟨bs, 0⟩)] true 0)) := hL
          clear hL
          go_wp2_with (fail)
          refine (cutL L3.out nF (by decide) n HN.out).mono ?_
          rw [k_cut_no bs 0 n (by omega)]
          rintro e w5 ⟨rfl, hL, _⟩
          have L5 : Hid (Lv w w5 b m S3 (kD [(nF, ⟨bs, 0⟩)] true 0)) := hL
          clear hL
          go_wp2_with (fail)
          refine (readL L5.out nF (by decide)).mono ?_
          rintro e w6 ⟨a6, c6, rfl, hK, hL, _⟩
          have e6 : findV (kD [(nF, ⟨bs, 0⟩)] true 0) nF = 0 := rfl
          have g6 : theF (kD [(nF, ⟨bs, 0⟩)] true 0) nF = ⟨bs, 0⟩ := rfl
          rw [g6] at hK
          rw [e6, g6]
          have L6 : Hid (Lv w w6 b m S3 (kD [(nF, ⟨bs, 0⟩)] true 0)) := hL
          have s1 := own_string hK.own
          have s2 := (R0.out.below L6.out.below).string
          clear hL hK e6 g6
          go_wp2_with (fail)
          go_ret
          exact ⟨rfl, L6.out.below⟩
        · have q2 : decide ((bs.length : Int) < n) = false := by simpa using h2
          obtain ⟨K, hK⟩ : ∃ K : Nat, n = (K : Int) := ⟨n.toNat, by omega⟩
          subst hK
          have HKB : Hid (K ≤ bs.length) := by show _ ≤ _; omega
          obtain ⟨X, hX⟩ : ∃ X, bs.take K = X := ⟨_, rfl⟩
          have HXE : Hid (bs.take K = X) := hX
          have HXL : Hid (X.length = K) := by show _ = _; rw [← hX, List.length_take]; have := HKB.out; omega
          clear hX HN hn
          go_enter Try.func6, Try.ntmps6
          go_wp2_with (fail)
          refine (shown_any w).mono ?_
          rintro e w1 ⟨rfl, hb1⟩
          go_wp2_with (fail)
          refine (newL hb1 1099511627776 (by omega)).mono ?_
          rintro e w2 ⟨b, m, S1, rfl, hL⟩
          rw [k_new] at hL
          have L2 : Hid (Lv w w2 b m S1 (kD [] true 0)) := hL
          clear hL hb1
          go_wp2_with (fail)
          refine (appendL L2.out nF (by decide) (R0.out.below L2.out.below) (by have := HS.out; show 0 + bs.length ≤ _; omega) (by decide)).mono ?_
          rw [k_app0 bs HS.out]
          rintro e w3 ⟨rfl, S3, hL, _⟩
          have L3 : Hid (Lv w w3 b m S3 (kD [(nF, ⟨bs, 0⟩)] true 0)) := hL
          clear hL
          go_wp2_with (fail)
          refine (cutL L3.out nF (by decide) (K : Int) (by have := HS.out; have := HKB.out; omega)).mono ?_
          rw [k_cut bs 0 K HKB.out]
          rintro e w5 ⟨rfl, hL, _⟩
          rw [HXE.out] at hL
          have L5 : Hid (Lv w w5 b m S3 (kD [(nF, ⟨X, min 0 K⟩)] true 0)) := hL
          clear hL
          go_wp2_with (fail)
          refine (readL L5.out nF (by decide)).mono ?_
          rintro e w6 ⟨a6, c6, rfl, hK, hL, _⟩
          have e6 : findV (kD [(nF, ⟨X, min 0 K⟩)] true 0) nF = 0 := rfl
          have g6 : theF (kD [(nF, ⟨X, min 0 K⟩)] true 0) nF = ⟨X, min 0 K⟩ := rfl
          rw [g6] at hK
          rw [e6, g6]
          have L6 : Hid (Lv w w6 b m S3 (kD [(nF, ⟨X, min 0 K⟩)] true 0)) := hL
          have K6 : Hid (Kp w6 S3 (.slice a6 X.length c6) X) := hK
          clear hL hK e6 g6
          obtain ⟨Y, hY1, hY2, hY3, hY4⟩ := cut_fall keep bs 0 K HKB.out
          rw [HXE.out] at hY1 hY2 hY4
          have HY1 : Hid (fallF keep 0 ⟨X, min 0 K⟩ = ⟨Y, Y.length⟩) := hY1
          have HY2 : Hid (Y <+: X) := hY2
          have HY4 : Hid (0 = bs.length → Y = X) := hY4
          clear hY1 hY2 hY3 hY4
          go_wp2_with (fail)
          refine (crashL L6.out keep HK.out).mono ?_
          rw [k_crash1, HY1.out]
          rintro e w7 ⟨rfl, hL, hst⟩
          have L7 : Hid (Lv w w7 b m S3 (kD [(nF, ⟨Y, Y.length⟩)] false 1)) := hL
          have K7 : Hid (Kp w7 S3 (.slice a6 X.length c6) X) := K6.out.st hst
          clear hL hst
          go_wp2_with (fail)
          refine (startL L7.out).mono ?_
          rintro e w8 ⟨rfl, hL, hst⟩
          have L8 : Hid (Lv w w8 b m S3 (kD [(nF, ⟨Y, Y.length⟩)] true 1)) := hL
          have K8 : Hid (Kp w8 S3 (.slice a6 X.length c6) X) := K7.out.st hst
          clear hL hst
          go_wp2_with (fail)
          refine (readL L8.out nF (by decide)).mono ?_
          rintro e w9 ⟨a9, c9, rfl, hK, hL, hst⟩
          have e9 : findV (kD [(nF, ⟨Y, Y.length⟩)] true 1) nF = 0 := rfl
          have g9 : theF (kD [(nF, ⟨Y, Y.length⟩)] true 1) nF = ⟨Y, Y.length⟩ := rfl
          rw [g9] at hK
          rw [e9, g9]
          have L9 : Hid (Lv w w9 b m S3 (kD [(nF, ⟨Y, Y.length⟩)] true 1)) := hL
          have K9 : Hid (Kp w9 S3 (.slice a9 Y.length c9) Y) := hK
          have X9 : Hid (Kp w9 S3 (.slice a6 X.length c6) X) := K8.out.st hst
          clear hL hK e9 g9 hst
          have s1 : ∀ u : BwD w9, (convert 29 9 (.slice a6 X.length c6)).run Try.prog u.wo = .ok (.string ⟨X.toArray⟩) u.wo := fun u => own_string (own_below2 X9.out.own u.is)
          have p1 : BRow w9 a0 K c0 X := by have := (R0.out.below L9.out.below).pre HKB.out; rwa [HXE.out] at this
          have s2 : ∀ u : BwD w9, (convert 29 9 (.slice a0 K c0)).run Try.prog u.wo = .ok (.string ⟨X.toArray⟩) u.wo := fun u => (p1.below u.is).string
          have s3 := slice_to a0 bs.length c0 K HKB.out HC0.out
          have HBj : Hid (∀ u : BwD w9, Calls Try.prog 19 #[.slice a9 Y.length c9, .slice a6 X.length c6] u.wo fun e w' => e = .returned (.bool true) ∧ ∃ u' : BwD w9, w' = u'.wo) := fun u => (begins_any (own_brow (own_below2 K9.out.own u.is)) (own_brow (own_below2 X9.out.own u.is)) (own_take X9.out.own 0 (Nat.zero_le _)).2.1 (by have := HXL.out; have := HKB.out; have := HS.out; omega) HY2.out).mono fun e w' q => ⟨q.1, BwD.of (u.is.trans (q.2.mono u.is.size)), rfl⟩
          clear p1
          go_wp2_with (fail)
          refine region_classD (fun w' => ∃ u : BwD w9, w' = u.wo) (by kernel_rfl) (by kernel_rfl) (BwD.first w9) ?_
          haveI := BwD.some w9
          repeat (go_big_quiet_step (first | (go_at_call 19; exact HBj.out _) | exact s3 _ | exact rfl))
          refine wpQuiet_nil ?_
          intro w10 hw10
          obtain ⟨u, hu⟩ := hw10
          have hb : Below w9.heap.size w9 w10 := by rw [hu]; exact u.is
          clear hu
          have B10 : Hid (Below w.heap.size w w10) := L9.out.below.trans (hb.mono L9.out.below.size)
          clear hb s1 s2 s3 HBj
          go_wp2_with (fail)
          go_ret
          exact ⟨rfl, B10.out⟩

end Go.Proofs.Ytmkgaegodemglaa
