/- Package link: titleSize, Title, lineEnd, tail; walked. -/
import Derived.Test.YtadghfgjdfgopaaDoorKCut
set_option linter.unusedVariables false
namespace Go.Proofs.YtadghfgjdfgopaaDoor
open Go.RowKit

theorem ktsize_any (s : ByteArray) (hs : s.size ≤ 9223372036854775000) (w : World) :
    Calls Tryd.prog 29 #[.string s] w fun e w' => e = .returned (.int .i64 (titleN s.data.toList : Int)) ∧ w' = w := by
  have H1 := (show Hid _ from fun w => khas_any s s.data.toList (Suf.whole s) 0 (by rw [pos_whole]; rfl) 34 34 rfl w)
  have H2 := (show Hid _ from fun w => khas_any s s.data.toList (Suf.whole s) 0 (by rw [pos_whole]; rfl) 39 39 rfl w)
  have E1 := (show Hid _ from fun w => kencl_any s hs 34 34 34 34 rfl rfl ⟨#[]⟩ (fun _ => false) (fun b => rfl) w)
  have E2 := (show Hid _ from fun w => kencl_any s hs 39 39 39 39 rfl rfl ⟨#[]⟩ (fun _ => false) (fun b => rfl) w)
  have E3 := (show Hid _ from fun w => kencl_any s hs 40 41 40 41 rfl rfl ⟨#[40]⟩ (· == 40) (fun b => by rw [Bool.eq_iff_iff]; simp) w)
  have HT : Hid (titleN s.data.toList = if hdB s.data.toList 34 = true then enclL 34 34 (fun _ => false) s.data.toList else if hdB s.data.toList 39 = true then enclL 39 39 (fun _ => false) s.data.toList else enclL 40 41 (· == 40) s.data.toList) := by
    show _ = _
    cases s.data.toList with
    | nil => rfl
    | cons a t => simp only [titleN, hdB, beq_iff_eq]
  generalize enclL 34 34 (fun _ => false) s.data.toList = n1 at *
  generalize enclL 39 39 (fun _ => false) s.data.toList = n2 at *
  generalize enclL 40 41 (· == 40) s.data.toList = n3 at *
  generalize hdB s.data.toList 34 = b1 at *
  generalize hdB s.data.toList 39 = b2 at *
  generalize titleN s.data.toList = n at *
  cases b1
  · cases b2
    · go_enter Tryd.func29, Tryd.ntmps29
      go_wp2_with (first
        | (go_at_call_of 24 (Value.int .u8 34); refine (H1.out _).mono ?_; rintro e w' ⟨rfl, hw'⟩; subst w')
        | (go_at_call_of 24 (Value.int .u8 39); refine (H2.out _).mono ?_; rintro e w' ⟨rfl, hw'⟩; subst w')
        | (go_at_call 21; refine (E3.out _).mono ?_; rintro e w' ⟨rfl, hw'⟩; subst w'))
      go_ret
      exact ⟨ret_int (by rw [HT.out]; rfl), rfl⟩
    · go_enter Tryd.func29, Tryd.ntmps29
      go_wp2_with (first
        | (go_at_call_of 24 (Value.int .u8 34); refine (H1.out _).mono ?_; rintro e w' ⟨rfl, hw'⟩; subst w')
        | (go_at_call_of 24 (Value.int .u8 39); refine (H2.out _).mono ?_; rintro e w' ⟨rfl, hw'⟩; subst w')
        | (go_at_call 21; refine (E2.out _).mono ?_; rintro e w' ⟨rfl, hw'⟩; subst w'))
      go_ret
      exact ⟨ret_int (by rw [HT.out]; rfl), rfl⟩
  · go_enter Tryd.func29, Tryd.ntmps29
    go_wp2_with (first
      | (go_at_call 24; refine (H1.out _).mono ?_; rintro e w' ⟨rfl, hw'⟩; subst w')
      | (go_at_call 21; refine (E1.out _).mono ?_; rintro e w' ⟨rfl, hw'⟩; subst w'))
    go_ret
    exact ⟨ret_int (by rw [HT.out]; rfl), rfl⟩

theorem titleN_le (l : List UInt8) : titleN l ≤ l.length ∧ (titleN l = 0 ∨ 2 ≤ titleN l) := by
  cases l with
  | nil => exact ⟨Nat.le_refl _, .inl rfl⟩
  | cons a t =>
    simp only [titleN]
    split
    · exact ⟨encl_le .., encl_two ..⟩
    · split
      · exact ⟨encl_le .., encl_two ..⟩
      · exact ⟨encl_le .., encl_two ..⟩

set_option maxHeartbeats 1000000 in
theorem ktitle_at (s : ByteArray) (hs : s.size ≤ 9223372036854775000) (v : List UInt8) (z : Nat) (hz47 : z ≤ 140737488351232) (h : Hid (pairL (titleL s.data.toList) = (v, z))) (w : World) :
    Calls Tryd.prog 13 #[.string s] w fun e w' => e = .returned (.tuple #[.string ⟨v.toArray⟩, .int .i64 (z : Int)]) ∧ Below w.heap.size w w' := by
  have HN := (show Hid _ from fun w => ktsize_any s (by omega) w)
  obtain ⟨hle, h2⟩ := titleN_le s.data.toList
  rw [len_data] at hle
  have hd := h.out
  rw [title_code] at hd
  clear h
  generalize titleN s.data.toList = n at *
  have HI' := (show Hid _ from fun (hx : n ≤ 140737488351232) w => kinside_any s hs n hx hle h2 w)
  obtain ⟨q, hq⟩ : ∃ q, s.extract 0 n = q := ⟨_, rfl⟩
  have hql : q.data.toList = s.data.toList.take n := by rw [← hq, ext_take]
  have hqz : q.size ≤ 9223372036854775000 := by rw [← hq, ByteArray.size_extract]; omega
  have HE := (show Hid _ from fun w => kempty_any q hqz w)
  rw [hql] at HE
  have hn0 : 0 ≤ (n : Int) := by omega
  have hn1 : (n : Int) ≤ (s.size : Int) := by omega
  by_cases hz : n = 0
  · rw [if_pos (.inl hz)] at hd
    have HV : Hid ((v, z) = (([] : List UInt8), n)) := by rw [hz]; exact hd.symm
    have he : emptyF false (s.data.toList.take n) = false := by rw [hz]; rfl
    rw [he] at HE
    rw [if_pos hz] at HI'
    have HI := (show Hid _ from HI'.out (by omega))
    clear hql hqz hd he h2 hle hz
    go_enter Tryd.func13, Tryd.ntmps13
    go_wp2_with (first
      | (go_at_call 29; refine (HN.out _).mono ?_; rintro e w' ⟨rfl, hw'⟩; subst w')
      | (go_at_call 30; refine (HE.out _).mono ?_; rintro e w1 ⟨rfl, hb1⟩)
      | (go_at_call 25; refine (HI.out _).mono ?_; rintro e w2 ⟨rfl, hb2⟩))
    go_ret2
    exact ⟨two_some HV rfl rfl, below_next hb1 hb2⟩
  · rw [if_neg hz] at HI'
    generalize unesc ((s.data.toList.drop 1).take (n - 2)) = U at *
    cases he : emptyF false (s.data.toList.take n)
    · rw [he] at HE hd
      rw [if_neg (by rintro (x | x); exact hz x; cases x)] at hd
      have HV : Hid ((v, z) = (U, n)) := hd.symm
      have HI := (show Hid _ from HI'.out (by rw [(Prod.mk.inj HV.out).2] at hz47; exact hz47))
      clear hql hqz hd he h2 hle
      go_enter Tryd.func13, Tryd.ntmps13
      go_wp2_with (first
        | (go_at_call 29; refine (HN.out _).mono ?_; rintro e w' ⟨rfl, hw'⟩; subst w')
        | (go_at_call 30; refine (HE.out _).mono ?_; rintro e w1 ⟨rfl, hb1⟩)
        | (go_at_call 25; refine (HI.out _).mono ?_; rintro e w2 ⟨rfl, hb2⟩))
      go_ret2
      exact ⟨two_some HV rfl rfl, below_next hb1 hb2⟩
    · rw [he] at HE hd
      rw [if_pos (.inr rfl)] at hd
      have HV : Hid ((v, z) = (([] : List UInt8), 0)) := hd.symm
      clear hql hqz hd he h2 hle
      go_enter Tryd.func13, Tryd.ntmps13
      go_wp2_with (first
        | (go_at_call 29; refine (HN.out _).mono ?_; rintro e w' ⟨rfl, hw'⟩; subst w')
        | (go_at_call 30; refine (HE.out _).mono ?_; rintro e w1 ⟨rfl, hb1⟩))
      go_ret2
      exact ⟨two_none HV, hb1⟩

/-! ### What stands behind -/

theorem ret_nb {n m : Int} {a b : Bool} (h1 : n = m) (h2 : a = b) : Ending.returned (.tuple #[.int .i64 n, .bool a]) = .returned (.tuple #[.int .i64 m, .bool b]) := by rw [h1, h2]

set_option maxHeartbeats 1000000 in
theorem kline_at (s : ByteArray) (hs : s.size ≤ 9223372036854775000) (n : Nat) (f : Bool) (h : Hid (lineR s.data.toList = (n, f))) (w : World) :
    Calls Tryd.prog 50 #[.string s] w fun e w' => e = .returned (.tuple #[.int .i64 (n : Int), .bool f]) ∧ Below w.heap.size w w' := by
  have HR := (show Hid _ from fun w => krow_any s hs ⟨#[32, 9]⟩ (by decide) (by decide) gapC gapC_is w)
  have hd := h.out
  unfold lineR at hd
  rw [line_rows] at hd
  have hsuf : Suf s (s.data.toList.dropWhile gapC) := (Suf.whole s).dw _
  have hz := len_data s
  generalize s.data.toList.dropWhile gapC = t at *
  cases t with
  | nil =>
    have hp : pos s [] = s.size := pos_nil s
    have HN : Hid ((n, f) = (s.size, true)) := by rw [← hz]; exact hd.symm
    rw [hp] at HR
    clear hd hp hz
    go_enter Tryd.func50, Tryd.ntmps50
    go_wp2_with (go_at_call 49; refine (HR.out _).mono ?_; rintro e w1 ⟨rfl, hb1⟩)
    go_ret2
    exact ⟨ret_nb (by rw [(Prod.mk.inj HN.out).1]) (by rw [(Prod.mk.inj HN.out).2]), hb1⟩
  | cons b u =>
    have hlt := hsuf.lt
    have hbb := hsuf.byte hlt
    have hne : ((pos s (b :: u) : Int) == (s.size : Int)) = false := by rw [beq_eq_false_iff_ne]; omega
    have hle : (pos s (b :: u) : Int) + 1 ≤ (s.size : Int) := by omega
    have hsum := hsuf.sum
    rw [List.length_cons] at hsum
    by_cases hb : b = 10
    · subst hb
      have HN : Hid ((n, f) = (pos s (10 :: u) + 1, true)) := by
        have : (s.data.toList.length - u.length, true) = (n, f) := hd
        rw [← this, hz]
        congr 1
        omega
      clear hd hz hsum
      go_enter Tryd.func50, Tryd.ntmps50
      go_wp2_with (go_at_call 49; refine (HR.out _).mono ?_; rintro e w1 ⟨rfl, hb1⟩)
      go_ret2
      exact ⟨ret_nb (by rw [(Prod.mk.inj HN.out).1]; rfl) (by rw [(Prod.mk.inj HN.out).2]), hb1⟩
    · have HN : Hid ((n, f) = (0, false)) := by
        simp only at hd
        rw [if_neg hb] at hd
        exact hd.symm
      have hbi : ((b.toNat : Int) == 10) = false := by rw [beq_eq_false_iff_ne]; intro x; exact hb (UInt8.toNat_inj.1 (by show _ = 10; omega))
      clear hd hz hsum hb
      go_enter Tryd.func50, Tryd.ntmps50
      go_wp2_with (go_at_call 49; refine (HR.out _).mono ?_; rintro e w1 ⟨rfl, hb1⟩)
      go_ret2
      exact ⟨ret_nb (by rw [(Prod.mk.inj HN.out).1]; rfl) (by rw [(Prod.mk.inj HN.out).2]), hb1⟩

end Go.Proofs.YtadghfgjdfgopaaDoor
