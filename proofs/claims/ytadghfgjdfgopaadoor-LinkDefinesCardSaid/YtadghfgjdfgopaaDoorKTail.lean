/- Package link: tail, defined; walked. -/
import Derived.Test.YtadghfgjdfgopaaDoorKTitle
set_option linter.unusedVariables false
namespace Go.Proofs.YtadghfgjdfgopaaDoor
open Go.RowKit

theorem three_ret {a b : ByteArray} {n m : Int} {f g : Bool} (h1 : a = b) (h2 : n = m) (h3 : f = g) : Ending.returned (.tuple #[.string a, .int .i64 n, .bool f]) = .returned (.tuple #[.string b, .int .i64 m, .bool g]) := by rw [h1, h2, h3]

theorem lineR_le (l : List UInt8) : (lineR l).1 ≤ l.length := by
  unfold lineR
  split
  · exact Nat.sub_le ..
  · exact Nat.zero_le _

set_option maxHeartbeats 2000000 in
set_option maxRecDepth 8000 in
theorem ktail_at (s : ByteArray) (hs : s.size ≤ 140737488351232) (x : List UInt8) (n : Nat) (f : Bool) (h : Hid (tailL s.data.toList = (x, n, f))) (w : World) :
    Calls Tryd.prog 33 #[.string s] w fun e w' => e = .returned (.tuple #[.string ⟨x.toArray⟩, .int .i64 (n : Int), .bool f]) ∧ Below w.heap.size w w' := by
  have HG := (show Hid _ from fun w => kgap_any s (by omega) w)
  have hc := h.out
  rw [tail_code] at hc
  have hgs : Suf s (gapL 0 s.data.toList) := (Suf.whole s).gap 0
  have hz := len_data s
  obtain ⟨n0, f0, h0⟩ : ∃ n0 f0, lineR s.data.toList = (n0, f0) := ⟨_, _, rfl⟩
  have HL0 := (show Hid _ from fun w => kline_at s (by omega) n0 f0 h0 w)
  rw [h0] at hc
  generalize gapL 0 s.data.toList = G at *
  have hsum := hgs.sum
  have hext := hgs.ext
  have hx1 := ext_size s (pos s G)
  have hat := (show Hid _ from hgs.at)
  generalize hk : pos s G = k at *
  obtain ⟨v, z, ht⟩ : ∃ v z, pairL (titleL G) = (v, z) := ⟨_, _, rfl⟩
  rw [ht] at hc
  have hzG : z ≤ G.length := by
    cases hT : titleL G with
    | none => rw [hT] at ht; rw [← (Prod.mk.inj ht).2]; exact Nat.zero_le _
    | some xm => rw [hT] at ht; rw [← (Prod.mk.inj ht).2]; exact (title_pos hT).2
  generalize hq : s.extract k s.size = q at *
  have HT := (show Hid _ from fun w => ktitle_at q (by omega) v z (by omega) (by show _ = _; rw [hext]; exact ht) w)
  have hk0 : (k : Int) ≤ (s.size : Int) := by omega
  have e1 : s.data.toList.length - G.length = k := by rw [hz]; omega
  rw [e1] at hc
  clear h ht hext hx1 h0 hk e1
  by_cases hk1 : 0 < k
  · by_cases hz1 : 0 < z
    · -- a title
      obtain ⟨q2, hq2⟩ : ∃ q2, s.extract (k + z) s.size = q2 := ⟨_, rfl⟩
      have hq3 : q2.data.toList = G.drop z := by
        rw [← hq2, ext_from, ← List.drop_drop, hat.out]
      obtain ⟨n1, f1, h1⟩ : ∃ n1 f1, lineR (G.drop z) = (n1, f1) := ⟨_, _, rfl⟩
      have hn1 : n1 ≤ G.length - z := by have := lineR_le (G.drop z); rw [h1, List.length_drop] at this; exact this
      have HL1 := (show Hid _ from fun w => kline_at q2 (by rw [← hq2, ByteArray.size_extract]; omega) n1 f1 (by show _ = _; rw [hq3]; exact h1) w)
      rw [h1] at hc
      have hk2 : (0 : Int) < (k : Int) := by omega
      have hz2 : (0 : Int) < (z : Int) := by omega
      have hkz : (k : Int) + (z : Int) ≤ (s.size : Int) := by omega
      have hkn : (k : Int) + (z : Int) + (n1 : Int) ≤ (s.size : Int) := by omega
      cases f1
      · have hc2 : ([], n0, f0) = (x, n, f) := by rw [if_neg (by rintro ⟨_, _, y⟩; cases y)] at hc; exact hc
        have HC : Hid (x = [] ∧ n = n0 ∧ f = f0) := by cases hc2; exact ⟨rfl, rfl, rfl⟩
        clear hc hc2 hq3 h1 hn1 hgs hsum hzG hz
        go_enter Tryd.func33, Tryd.ntmps33
        go_wp2_with (first
          | (go_at_call 32; refine (HG.out _).mono ?_; rintro e w1 ⟨rfl, hb1⟩)
          | (go_at_call 13; refine (HT.out _).mono ?_; rintro e w2 ⟨rfl, hb2⟩)
          | (go_at_call_of 50 (Value.string q2); refine (HL1.out _).mono ?_; rintro e w3 ⟨rfl, hb3⟩)
          | (go_at_call_of 50 (Value.string s); refine (HL0.out _).mono ?_; rintro e w4 ⟨rfl, hb4⟩))
        go_ret3
        obtain ⟨hx, hn, hf⟩ := HC.out
        exact ⟨three_ret (by rw [hx]) (by rw [hn]) (by rw [hf]), below_next (below_next (below_next hb1 hb2) hb3) hb4⟩
      · have hc2 : (v, k + z + n1, true) = (x, n, f) := by rw [if_pos ⟨by omega, hz1, rfl⟩] at hc; exact hc
        have HC : Hid (x = v ∧ n = k + z + n1 ∧ f = true) := by cases hc2; exact ⟨rfl, rfl, rfl⟩
        clear hc hc2 hq3 h1 hn1 hgs hsum hzG hz
        go_enter Tryd.func33, Tryd.ntmps33
        go_wp2_with (first
          | (go_at_call 32; refine (HG.out _).mono ?_; rintro e w1 ⟨rfl, hb1⟩)
          | (go_at_call 13; refine (HT.out _).mono ?_; rintro e w2 ⟨rfl, hb2⟩)
          | (go_at_call_of 50 (Value.string q2); refine (HL1.out _).mono ?_; rintro e w3 ⟨rfl, hb3⟩))
        go_ret3
        obtain ⟨hx, hn, hf⟩ := HC.out
        exact ⟨three_ret (by rw [hx]) (by rw [hn]; push_cast; rfl) (by rw [hf]), below_next (below_next hb1 hb2) hb3⟩
    · have hc2 : ([], n0, f0) = (x, n, f) := by rw [if_neg (by rintro ⟨_, y, _⟩; exact hz1 y)] at hc; exact hc
      have HC : Hid (x = [] ∧ n = n0 ∧ f = f0) := by cases hc2; exact ⟨rfl, rfl, rfl⟩
      have hz3 : ¬ (0 : Int) < (z : Int) := by omega
      have hz4 : decide ((0 : Int) < (z : Int)) = false := decide_eq_false hz3
      have hk2 : (0 : Int) < (k : Int) := by omega
      clear hc hc2 hgs hsum hzG hz
      go_enter Tryd.func33, Tryd.ntmps33
      go_wp2_with (first
        | (go_at_call 32; refine (HG.out _).mono ?_; rintro e w1 ⟨rfl, hb1⟩)
        | (go_at_call 13; refine (HT.out _).mono ?_; rintro e w2 ⟨rfl, hb2⟩)
        | (go_at_call 50; refine (HL0.out _).mono ?_; rintro e w4 ⟨rfl, hb4⟩))
      go_ret3
      obtain ⟨hx, hn, hf⟩ := HC.out
      exact ⟨three_ret (by rw [hx]) (by rw [hn]) (by rw [hf]), below_next (below_next hb1 hb2) hb4⟩
  · have hc2 : ([], n0, f0) = (x, n, f) := by rw [if_neg (by rintro ⟨y, _, _⟩; omega)] at hc; exact hc
    have HC : Hid (x = [] ∧ n = n0 ∧ f = f0) := by cases hc2; exact ⟨rfl, rfl, rfl⟩
    have hz3 : ¬ (0 : Int) < (k : Int) := by omega
    have hz4 : decide ((0 : Int) < (k : Int)) = false := decide_eq_false hz3
    clear hc hc2 hgs hsum hzG hz
    go_enter Tryd.func33, Tryd.ntmps33
    go_wp2_with (first
      | (go_at_call 32; refine (HG.out _).mono ?_; rintro e w1 ⟨rfl, hb1⟩)
      | (go_at_call 13; refine (HT.out _).mono ?_; rintro e w2 ⟨rfl, hb2⟩)
      | (go_at_call 50; refine (HL0.out _).mono ?_; rintro e w4 ⟨rfl, hb4⟩))
    go_ret3
    obtain ⟨hx, hn, hf⟩ := HC.out
    exact ⟨three_ret (by rw [hx]) (by rw [hn]) (by rw [hf]), below_next (below_next hb1 hb2) hb4⟩

theorem three_label {l u : List UInt8} (h : threeL 3 l = 32 :: u) : definedL l = ([], 0) := by
  unfold definedL
  rw [h]
  rfl

set_option maxHeartbeats 2000000 in
set_option maxRecDepth 8000 in
theorem kdefined_at (s : ByteArray) (hs : s.size ≤ 9223372036854775000) (v : List UInt8) (n : Nat) (h : Hid (definedL s.data.toList = (v, n))) (w : World) :
    Calls Tryd.prog 31 #[.string s] w fun e w' => e = .returned (.tuple #[.string ⟨v.toArray⟩, .int .i64 (n : Int)]) ∧ Below w.heap.size w w' := by
  have HR := (show Hid _ from fun w => krow_any s hs ⟨#[32]⟩ (by decide) (by decide) (· == 32) (by funext b; rw [Bool.eq_iff_iff]; simp) w)
  have h3 := three_rows 3 s.data.toList
  have hTs : Suf s (s.data.toList.dropWhile (· == 32)) := (Suf.whole s).dw _
  have hz := len_data s
  have hd := h.out
  clear h
  generalize s.data.toList.dropWhile (· == 32) = T at *
  have hsum := hTs.sum
  have hext := hTs.ext
  generalize hk : pos s T = k at *
  have hk0 : (k : Int) ≤ (s.size : Int) := by omega
  by_cases hk3 : 3 < k
  · obtain ⟨u, hu⟩ := h3.2 (by omega)
    rw [three_label hu] at hd
    have HV : Hid ((v, n) = (([] : List UInt8), 0)) := hd.symm
    have hk4 : (3 : Int) < (k : Int) := by omega
    clear hd hu h3 hext hTs hsum hz hk
    go_enter Tryd.func31, Tryd.ntmps31
    go_wp2_with (go_at_call 49; refine (HR.out _).mono ?_; rintro e w1 ⟨rfl, hb1⟩)
    go_ret2
    exact ⟨two_none HV, hb1⟩
  · have hT := h3.1 (by omega)
    have hk4 : ¬ (3 : Int) < (k : Int) := by omega
    have hk5 : decide ((3 : Int) < (k : Int)) = false := decide_eq_false hk4
    unfold definedL at hd
    rw [hT] at hd
    obtain ⟨u, z, hl⟩ : ∃ u z, pairL (labelL T) = (u, z) := ⟨_, _, rfl⟩
    generalize hq : s.extract k s.size = q at *
    have HL := (show Hid _ from fun w => klabel_at q (by rw [hext, size_list]; omega) u z (by show _ = _; rw [hext]; exact hl) w)
    clear h3 hT
    cases hlab : labelL T with
    | none =>
      rw [hlab] at hd hl
      have hz0 : z = 0 := (Prod.mk.inj hl).2.symm
      subst hz0
      have HV : Hid ((v, n) = (([] : List UInt8), 0)) := hd.symm
      clear hd hl hlab hext hTs hsum hz hk
      go_enter Tryd.func31, Tryd.ntmps31
      go_wp2_with (first
        | (go_at_call 49; refine (HR.out _).mono ?_; rintro e w1 ⟨rfl, hb1⟩)
        | (go_at_call 9; refine (HL.out _).mono ?_; rintro e w2 ⟨rfl, hb2⟩))
      go_ret2
      exact ⟨two_none HV, below_next hb1 hb2⟩
    | some un =>
      obtain ⟨u', m⟩ := un
      rw [hlab] at hd hl
      have hu0 : u' = u := (Prod.mk.inj hl).1
      have hz0 : m = z := (Prod.mk.inj hl).2
      subst hu0
      subst hz0
      obtain ⟨hm1, _, _, r, hTr, _⟩ := label_is hlab
      have hm2 : m ≤ T.length := by rw [hTr, List.length_append]; simp; omega
      have hDs : Suf s (T.drop m) := hTs.drop m
      have hpm : pos s (T.drop m) = k + m := by rw [pos_drop hTs hm2, hk]
      have HH := (show Hid _ from fun w => khas_any s (T.drop m) hDs ((k : Int) + (m : Int)) (by rw [hpm]; push_cast; rfl) 58 58 rfl w)
      have hm0 : ((m : Int) == 0) = false := by rw [beq_eq_false_iff_ne]; omega
      have hkm : (k : Int) + (m : Int) ≤ (s.size : Int) := by omega
      simp only at hd
      cases hD : T.drop m with
      | nil =>
        rw [hD] at hd HH
        have HV : Hid ((v, n) = (([] : List UInt8), 0)) := hd.symm
        clear hd hl hlab hext hTs hsum hz hk hTr hm1 hDs hpm hD hm2
        go_enter Tryd.func31, Tryd.ntmps31
        go_wp2_with (first
          | (go_at_call 49; refine (HR.out _).mono ?_; rintro e w1 ⟨rfl, hb1⟩)
          | (go_at_call 9; refine (HL.out _).mono ?_; rintro e w2 ⟨rfl, hb2⟩)
          | (go_at_call 24; refine (HH.out _).mono ?_; rintro e w' ⟨rfl, hw'⟩; subst w'))
        go_ret2
        exact ⟨two_none HV, below_next hb1 hb2⟩
      | cons b t =>
        rw [hD] at hd HH
        have hlen := congrArg List.length hD
        rw [List.length_drop, List.length_cons] at hlen
        simp only at hd
        by_cases hb : b = 58
        · rw [if_pos hb] at hd
          have hh : hdB (b :: t) 58 = true := by simp [hdB, hb]
          rw [hh] at HH
          have HV : Hid ((v, n) = (u', k + m + 1)) := by
            show _ = _
            rw [← hd, hz]
            congr 1
            omega
          have hkm1 : (k : Int) + (m : Int) + 1 ≤ (s.size : Int) := by omega
          clear hd hl hlab hext hTs hsum hz hk hTr hm1 hDs hpm hD hm2 hlen hh hb
          go_enter Tryd.func31, Tryd.ntmps31
          go_wp2_with (first
            | (go_at_call 49; refine (HR.out _).mono ?_; rintro e w1 ⟨rfl, hb1⟩)
            | (go_at_call 9; refine (HL.out _).mono ?_; rintro e w2 ⟨rfl, hb2⟩)
            | (go_at_call 24; refine (HH.out _).mono ?_; rintro e w' ⟨rfl, hw'⟩; subst w'))
          go_ret2
          exact ⟨two_some HV rfl (by push_cast; rfl), below_next hb1 hb2⟩
        · rw [if_neg hb] at hd
          have hh : hdB (b :: t) 58 = false := by simp [hdB, hb]
          rw [hh] at HH
          have HV : Hid ((v, n) = (([] : List UInt8), 0)) := hd.symm
          clear hd hl hlab hext hTs hsum hz hk hTr hm1 hDs hpm hD hm2 hlen hh hb
          go_enter Tryd.func31, Tryd.ntmps31
          go_wp2_with (first
            | (go_at_call 49; refine (HR.out _).mono ?_; rintro e w1 ⟨rfl, hb1⟩)
            | (go_at_call 9; refine (HL.out _).mono ?_; rintro e w2 ⟨rfl, hb2⟩)
            | (go_at_call 24; refine (HH.out _).mono ?_; rintro e w' ⟨rfl, hw'⟩; subst w'))
          go_ret2
          exact ⟨two_none HV, below_next hb1 hb2⟩

end Go.Proofs.YtadghfgjdfgopaaDoor
