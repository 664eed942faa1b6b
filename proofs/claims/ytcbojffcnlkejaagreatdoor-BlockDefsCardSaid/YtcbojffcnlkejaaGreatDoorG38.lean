/- Several texts in one. -/
import Derived.Test.YtcbojffcnlkejaaGreatDoorQKGap
import Derived.BigRegion
set_option linter.unusedVariables false
/- Cutting at a line feed; empty lines; walked. -/
namespace Go.Proofs.YtcbojffcnlkejaaGreatDoor.lnk
open Go.RowKit

theorem idx_at (c : UInt8) : ∀ (p t : List UInt8), c ∉ p → Lib.indexByte (p ++ c :: t) c = (p.length : Int)
  | [], t, _ => by simp [Lib.indexByte]
  | b :: p, t, h => by
    rw [List.mem_cons, not_or] at h
    rw [List.cons_append]
    unfold Lib.indexByte
    rw [idx_at c p t h.2, if_neg (by simpa using fun e => h.1 (Eq.symm e)), if_neg (by simp)]
    simp

theorem below_drewK {B : Nat} {w0 w : World} (h : Below B w0 w) : Below B w0 w.drew := h.trans ⟨rfl, rfl, rfl, Nat.le_refl _, fun k hk => rfl⟩

theorem kcut_hit (s : ByteArray) (hs : s.size ≤ 9223372036854775000) (p t : List UInt8) (h : s.data.toList = p ++ 10 :: t) (hp : 10 ∉ p) (w : World) :
    Calls Tryz.prog 200 #[.string s, .string ⟨#[10]⟩] w fun e w' => e = .returned (.tuple #[.string (s.extract 0 p.length), .string (s.extract (p.length + 1) s.size), .bool true]) ∧ Below w.heap.size w w' := by
  have HX := (show Hid _ from fun w => Tryz.stringslite_Index_one s 10 w)
  rw [h, idx_at 10 p t hp] at HX
  have hz : s.size = p.length + 1 + t.length := by rw [← len_data, h]; simp; omega
  have c1 : (0 : Int) ≤ (p.length : Int) := by omega
  have c2 : (p.length : Int) ≤ (s.size : Int) := by omega
  have c3 : (0 : Int) ≤ (p.length : Int) + 1 := by omega
  have c4 : (p.length : Int) + 1 ≤ (s.size : Int) := by omega
  clear hz h hp
  generalize p.length = k at *
  go_enter Tryz.func200, Tryz.ntmps200
  go_wp2_with (go_at_call 129; refine (HX.out _).mono ?_; rintro e w' ⟨rfl, hw'⟩; subst w')
  go_region
  go_wp2
  go_ret3
  exact ⟨rfl, below_drewK (Below.refl _ _)⟩

theorem kcut_miss (s : ByteArray) (hp : 10 ∉ s.data.toList) (w : World) :
    Calls Tryz.prog 200 #[.string s, .string ⟨#[10]⟩] w fun e w' => e = .returned (.tuple #[.string s, .string ⟨#[]⟩, .bool false]) ∧ Below w.heap.size w w' := by
  have HX := (show Hid _ from fun w => Tryz.stringslite_Index_one s 10 w)
  rw [idx_neg _ _ hp] at HX
  clear hp
  go_enter Tryz.func200, Tryz.ntmps200
  go_wp2_with (go_at_call 129; refine (HX.out _).mono ?_; rintro e w' ⟨rfl, hw'⟩; subst w')
  go_ret3
  exact ⟨rfl, Below.refl _ _⟩

theorem kcut_any {s a b : ByteArray} {f : Bool} (h : ∀ w, Calls Tryz.prog 200 #[.string s, .string ⟨#[10]⟩] w fun e w' => e = .returned (.tuple #[.string a, .string b, .bool f]) ∧ Below w.heap.size w w') (w : World) :
    Calls Tryz.prog 172 #[.string s, .string ⟨#[10]⟩] w fun e w' => e = .returned (.tuple #[.string a, .string b, .bool f]) ∧ Below w.heap.size w w' := by
  have HX := (show Hid _ from h)
  clear h
  go_enter Tryz.func172, Tryz.ntmps172
  go_wp2_with (go_at_call 200; refine (HX.out _).mono ?_; rintro e w1 ⟨rfl, hb1⟩)
  go_ret3
  exact ⟨rfl, hb1⟩

theorem split_feed (l : List UInt8) : 10 ∉ l ∨ ∃ p t, l = p ++ 10 :: t ∧ 10 ∉ p := by
  induction l with
  | nil => exact .inl (by simp)
  | cons b l ih =>
    by_cases hb : b = 10
    · exact .inr ⟨[], l, by rw [hb]; rfl, by simp⟩
    · rcases ih with h | ⟨p, t, h1, h2⟩
      · refine .inl ?_
        rw [List.mem_cons, not_or]
        exact ⟨fun e => hb e.symm, h⟩
      · refine .inr ⟨b :: p, t, by rw [h1]; rfl, ?_⟩
        rw [List.mem_cons, not_or]
        exact ⟨fun e => hb e.symm, h2⟩

def strOf : Value → ByteArray
  | .string s => s
  | _ => ⟨#[]⟩

set_option maxHeartbeats 2000000 in
set_option maxRecDepth 8000 in
theorem kempty_any (s0 : ByteArray) (hs0 : s0.size ≤ 9223372036854775000) (w : World) :
    Calls Tryz.prog 178 #[.string s0] w fun e w' => e = .returned (.bool (emptyF false s0.data.toList)) ∧ Below w.heap.size w w' := by
  go_enter Tryz.func178, Tryz.ntmps178
  go_wp2
  go_loopw [0] (fun A wr => ∃ s : ByteArray, A = .string s ∧ Hid (s.size ≤ 9223372036854775000) ∧ Hid (Below w.heap.size w wr) ∧ Hid (emptyF false s0.data.toList = emptyF false s.data.toList)) (fun A _ => (strOf A).size)
  case atStart => exact ⟨s0, rfl, hs0, Below.refl _ _, rfl⟩
  case round =>
    obtain ⟨s, rfl, hs, hbw, he⟩ := hrel
    rcases split_feed s.data.toList with hmiss | ⟨p, t, h1, h2⟩
    · have HC := (show Hid _ from fun w => kcut_any (kcut_miss s hmiss) w)
      have HF : Hid (emptyF false s0.data.toList = false) := he.out.trans (empty_cut _ hmiss)
      clear hmiss
      go_wp2_with (go_at_call 172; refine (HC.out _).mono ?_; rintro e w1 ⟨rfl, hb1⟩)
      go_ret
      exact ⟨ret_bool HF.out.symm, below_next hbw.out hb1⟩
    · have HC := (show Hid _ from fun w => kcut_any (kcut_hit s hs.out p t h1 h2) w)
      have hz : s.size = p.length + 1 + t.length := by rw [← len_data, h1]; simp; omega
      have HE : Hid (emptyF false s0.data.toList = match t.dropWhile gapC with
          | [] => false
          | b :: u => if b = 10 then true else emptyF false (b :: u)) := by show _ = _; rw [he.out, h1, empty_skip _ _ h2, empty_trim]; rfl
      have hq : (s.extract (p.length + 1) s.size).data.toList = t := by
        rw [ext_from, h1, show p ++ 10 :: t = (p ++ [10]) ++ t by simp]
        exact List.drop_left' (by simp)
      generalize s.extract (p.length + 1) s.size = q at *
      generalize s.extract 0 p.length = q0 at *
      obtain ⟨r, hr⟩ : ∃ r : ByteArray, r = ⟨(Lib.trimLeftS q.data.toList (ByteArray.mk #[32, 9]).data.toList).toArray⟩ := ⟨_, rfl⟩
      have HT := (show Hid _ from fun w => ktl_at q ⟨#[32, 9]⟩ (by decide) (by decide) r hr w)
      have hrl : r.data.toList = t.dropWhile gapC := by rw [hr, hq]; exact list_data _
      have hrz : r.size ≤ t.length := by rw [← len_data, hrl]; exact dw_len _ _
      have HH := (show Hid _ from fun w => khas_any r r.data.toList (Suf.whole r) 0 (by rw [pos_whole]; rfl) 10 10 rfl w)
      rw [← hrl] at HE
      have HL : Hid (r.size < s.size ∧ r.size ≤ 9223372036854775000) := by have := hs.out; exact ⟨by omega, by omega⟩
      clear hr hq hrl h1 h2 hz hrz
      cases h10 : hdB r.data.toList 10
      · rw [h10] at HH
        have HF : Hid (emptyF false s0.data.toList = emptyF false r.data.toList) := by
          show _ = _
          rw [HE.out]
          cases hx : r.data.toList with
          | nil => rfl
          | cons b u =>
            rw [hx] at h10
            have hb : ¬ b = 10 := by simpa [hdB] using h10
            simp only
            rw [if_neg hb]
        clear h10
        go_wp2_with (first
          | (go_at_call 172; refine (HC.out _).mono ?_; rintro e w1 ⟨rfl, hb1⟩)
          | (go_at_call 175; refine (HT.out _).mono ?_; rintro e w2 ⟨rfl, hb2⟩)
          | (go_at_call 144; refine (HH.out _).mono ?_; rintro e w' ⟨rfl, hw'⟩; subst w'))
        go_roundw
        case rel => exact ⟨r, rfl, HL.out.2, below_next (below_next hbw.out hb1) hb2, HF.out⟩
        case measure => simp only [strOf]; exact HL.out.1
      · rw [h10] at HH
        have HF : Hid (emptyF false s0.data.toList = true) := by
          show _ = _
          rw [HE.out]
          cases hx : r.data.toList with
          | nil => rw [hx] at h10; cases h10
          | cons b u =>
            rw [hx] at h10
            have hb : b = 10 := by simpa [hdB] using h10
            simp only
            rw [if_pos hb]
        clear h10
        go_wp2_with (first
          | (go_at_call 172; refine (HC.out _).mono ?_; rintro e w1 ⟨rfl, hb1⟩)
          | (go_at_call 175; refine (HT.out _).mono ?_; rintro e w2 ⟨rfl, hb2⟩)
          | (go_at_call 144; refine (HH.out _).mono ?_; rintro e w' ⟨rfl, hw'⟩; subst w'))
        go_ret
        exact ⟨ret_bool HF.out.symm, below_next (below_next hbw.out hb1) hb2⟩

end Go.Proofs.YtcbojffcnlkejaaGreatDoor.lnk

/- Package link: titleSize, Title, lineEnd, tail; walked. -/
namespace Go.Proofs.YtcbojffcnlkejaaGreatDoor.lnk
open Go.RowKit

theorem ktsize_any (s : ByteArray) (hs : s.size ≤ 9223372036854775000) (w : World) :
    Calls Tryz.prog 177 #[.string s] w fun e w' => e = .returned (.int .i64 (titleN s.data.toList : Int)) ∧ w' = w := by
  have H1 := (show Hid _ from fun w => khas_any s s.data.toList (Suf.whole s) 0 (by rw [pos_whole]; rfl) 34 34 rfl w)
  have H2 := (show Hid _ from fun w => khas_any s s.data.toList (Suf.whole s) 0 (by rw [pos_whole]; rfl) 39 39 rfl w)
  have E1 := (show Hid _ from fun w => kencl_any s hs 34 34 34 34 rfl rfl ⟨#[]⟩ (fun _ => false) (fun b => rfl) w)
  have E2 := (show Hid _ from fun w => kencl_any s hs 39 39 39 39 rfl rfl ⟨#[]⟩ (fun _ => false) (fun b => rfl) w)
  have E3 := (show Hid _ from fun w => kencl_any s hs 40 41 40 41 rfl rfl ⟨#[40]⟩ (· == 40) (fun b => by rw [Bool.eq_iff_iff]; simp) w)
  have HT : Hid (titleN s.data.toList = if hdB s.data.toList 34 = true then enclL 34 34 (fun _ => false) s.data.toList else if hdB s.data.toList 39 = true then enclL 39 39 (fun _ => false) s.data.toList else enclL 40 41 (· == 40) s.data.toList) := by
    show _ = _
    cases s.data.toList with
    | nil => rfl
    | cons a t => simp only [titleN, hdB, beq_iff_eq]
  generalize enclL 34 34 (fun _ => false) s.data.toList = n1 at *
  generalize enclL 39 39 (fun _ => false) s.data.toList = n2 at *
  generalize enclL 40 41 (· == 40) s.data.toList = n3 at *
  generalize hdB s.data.toList 34 = b1 at *
  generalize hdB s.data.toList 39 = b2 at *
  generalize titleN s.data.toList = n at *
  cases b1
  · cases b2
    · go_enter Tryz.func177, Tryz.ntmps177
      go_wp2_with (first
        | (go_at_call_of 144 (Value.int .u8 34); refine (H1.out _).mono ?_; rintro e w' ⟨rfl, hw'⟩; subst w')
        | (go_at_call_of 144 (Value.int .u8 39); refine (H2.out _).mono ?_; rintro e w' ⟨rfl, hw'⟩; subst w')
        | (go_at_call 145; refine (E3.out _).mono ?_; rintro e w' ⟨rfl, hw'⟩; subst w'))
      go_ret
      exact ⟨ret_int (by rw [HT.out]; rfl), rfl⟩
    · go_enter Tryz.func177, Tryz.ntmps177
      go_wp2_with (first
        | (go_at_call_of 144 (Value.int .u8 34); refine (H1.out _).mono ?_; rintro e w' ⟨rfl, hw'⟩; subst w')
        | (go_at_call_of 144 (Value.int .u8 39); refine (H2.out _).mono ?_; rintro e w' ⟨rfl, hw'⟩; subst w')
        | (go_at_call 145; refine (E2.out _).mono ?_; rintro e w' ⟨rfl, hw'⟩; subst w'))
      go_ret
      exact ⟨ret_int (by rw [HT.out]; rfl), rfl⟩
  · go_enter Tryz.func177, Tryz.ntmps177
    go_wp2_with (first
      | (go_at_call 144; refine (H1.out _).mono ?_; rintro e w' ⟨rfl, hw'⟩; subst w')
      | (go_at_call 145; refine (E1.out _).mono ?_; rintro e w' ⟨rfl, hw'⟩; subst w'))
    go_ret
    exact ⟨ret_int (by rw [HT.out]; rfl), rfl⟩

theorem titleN_le (l : List UInt8) : titleN l ≤ l.length ∧ (titleN l = 0 ∨ 2 ≤ titleN l) := by
  cases l with
  | nil => exact ⟨Nat.le_refl _, .inl rfl⟩
  | cons a t =>
    simp only [titleN]
    split
    · exact ⟨encl_le .., encl_two ..⟩
    · split
      · exact ⟨encl_le .., encl_two ..⟩
      · exact ⟨encl_le .., encl_two ..⟩

set_option maxHeartbeats 1000000 in
theorem ktitle_at (s : ByteArray) (hs : s.size ≤ 9223372036854775000) (v : List UInt8) (z : Nat) (hz47 : z ≤ 140737488351232) (h : Hid (pairL (titleL s.data.toList) = (v, z))) (w : World) :
    Calls Tryz.prog 148 #[.string s] w fun e w' => e = .returned (.tuple #[.string ⟨v.toArray⟩, .int .i64 (z : Int)]) ∧ Below w.heap.size w w' := by
  have HN := (show Hid _ from fun w => ktsize_any s (by omega) w)
  obtain ⟨hle, h2⟩ := titleN_le s.data.toList
  rw [len_data] at hle
  have hd := h.out
  rw [title_code] at hd
  clear h
  generalize titleN s.data.toList = n at *
  have HI' := (show Hid _ from fun (hx : n ≤ 140737488351232) w => kinside_any s hs n hx hle h2 w)
  obtain ⟨q, hq⟩ : ∃ q, s.extract 0 n = q := ⟨_, rfl⟩
  have hql : q.data.toList = s.data.toList.take n := by rw [← hq, ext_take]
  have hqz : q.size ≤ 9223372036854775000 := by rw [← hq, ByteArray.size_extract]; omega
  have HE := (show Hid _ from fun w => kempty_any q hqz w)
  rw [hql] at HE
  have hn0 : 0 ≤ (n : Int) := by omega
  have hn1 : (n : Int) ≤ (s.size : Int) := by omega
  by_cases hz : n = 0
  · rw [if_pos (.inl hz)] at hd
    have HV : Hid ((v, z) = (([] : List UInt8), n)) := by rw [hz]; exact hd.symm
    have he : emptyF false (s.data.toList.take n) = false := by rw [hz]; rfl
    rw [he] at HE
    rw [if_pos hz] at HI'
    have HI := (show Hid _ from HI'.out (by omega))
    clear hql hqz hd he h2 hle hz
    go_enter Tryz.func148, Tryz.ntmps148
    go_wp2_with (first
      | (go_at_call 177; refine (HN.out _).mono ?_; rintro e w' ⟨rfl, hw'⟩; subst w')
      | (go_at_call 178; refine (HE.out _).mono ?_; rintro e w1 ⟨rfl, hb1⟩)
      | (go_at_call 146; refine (HI.out _).mono ?_; rintro e w2 ⟨rfl, hb2⟩))
    go_ret2
    exact ⟨two_some HV rfl rfl, below_next hb1 hb2⟩
  · rw [if_neg hz] at HI'
    generalize unesc ((s.data.toList.drop 1).take (n - 2)) = U at *
    cases he : emptyF false (s.data.toList.take n)
    · rw [he] at HE hd
      rw [if_neg (by rintro (x | x); exact hz x; cases x)] at hd
      have HV : Hid ((v, z) = (U, n)) := hd.symm
      have HI := (show Hid _ from HI'.out (by rw [(Prod.mk.inj HV.out).2] at hz47; exact hz47))
      clear hql hqz hd he h2 hle
      go_enter Tryz.func148, Tryz.ntmps148
      go_wp2_with (first
        | (go_at_call 177; refine (HN.out _).mono ?_; rintro e w' ⟨rfl, hw'⟩; subst w')
        | (go_at_call 178; refine (HE.out _).mono ?_; rintro e w1 ⟨rfl, hb1⟩)
        | (go_at_call 146; refine (HI.out _).mono ?_; rintro e w2 ⟨rfl, hb2⟩))
      go_ret2
      exact ⟨two_some HV rfl rfl, below_next hb1 hb2⟩
    · rw [he] at HE hd
      rw [if_pos (.inr rfl)] at hd
      have HV : Hid ((v, z) = (([] : List UInt8), 0)) := hd.symm
      clear hql hqz hd he h2 hle
      go_enter Tryz.func148, Tryz.ntmps148
      go_wp2_with (first
        | (go_at_call 177; refine (HN.out _).mono ?_; rintro e w' ⟨rfl, hw'⟩; subst w')
        | (go_at_call 178; refine (HE.out _).mono ?_; rintro e w1 ⟨rfl, hb1⟩))
      go_ret2
      exact ⟨two_none HV, hb1⟩

/-! ### What stands behind -/

theorem ret_nb {n m : Int} {a b : Bool} (h1 : n = m) (h2 : a = b) : Ending.returned (.tuple #[.int .i64 n, .bool a]) = .returned (.tuple #[.int .i64 m, .bool b]) := by rw [h1, h2]

set_option maxHeartbeats 1000000 in
theorem kline_at (s : ByteArray) (hs : s.size ≤ 9223372036854775000) (n : Nat) (f : Bool) (h : Hid (lineR s.data.toList = (n, f))) (w : World) :
    Calls Tryz.prog 149 #[.string s] w fun e w' => e = .returned (.tuple #[.int .i64 (n : Int), .bool f]) ∧ Below w.heap.size w w' := by
  have HR := (show Hid _ from fun w => krow_any s hs ⟨#[32, 9]⟩ (by decide) (by decide) gapC gapC_is w)
  have hd := h.out
  unfold lineR at hd
  rw [line_rows] at hd
  have hsuf : Suf s (s.data.toList.dropWhile gapC) := (Suf.whole s).dw _
  have hz := len_data s
  generalize s.data.toList.dropWhile gapC = t at *
  cases t with
  | nil =>
    have hp : pos s [] = s.size := pos_nil s
    have HN : Hid ((n, f) = (s.size, true)) := by rw [← hz]; exact hd.symm
    rw [hp] at HR
    clear hd hp hz
    go_enter Tryz.func149, Tryz.ntmps149
    go_wp2_with (go_at_call 142; refine (HR.out _).mono ?_; rintro e w1 ⟨rfl, hb1⟩)
    go_ret2
    exact ⟨ret_nb (by rw [(Prod.mk.inj HN.out).1]) (by rw [(Prod.mk.inj HN.out).2]), hb1⟩
  | cons b u =>
    have hlt := hsuf.lt
    have hbb := hsuf.byte hlt
    have hne : ((pos s (b :: u) : Int) == (s.size : Int)) = false := by rw [beq_eq_false_iff_ne]; omega
    have hle : (pos s (b :: u) : Int) + 1 ≤ (s.size : Int) := by omega
    have hsum := hsuf.sum
    rw [List.length_cons] at hsum
    by_cases hb : b = 10
    · subst hb
      have HN : Hid ((n, f) = (pos s (10 :: u) + 1, true)) := by
        have : (s.data.toList.length - u.length, true) = (n, f) := hd
        rw [← this, hz]
        congr 1
        omega
      clear hd hz hsum
      go_enter Tryz.func149, Tryz.ntmps149
      go_wp2_with (go_at_call 142; refine (HR.out _).mono ?_; rintro e w1 ⟨rfl, hb1⟩)
      go_ret2
      exact ⟨ret_nb (by rw [(Prod.mk.inj HN.out).1]; rfl) (by rw [(Prod.mk.inj HN.out).2]), hb1⟩
    · have HN : Hid ((n, f) = (0, false)) := by
        simp only at hd
        rw [if_neg hb] at hd
        exact hd.symm
      have hbi : ((b.toNat : Int) == 10) = false := by rw [beq_eq_false_iff_ne]; intro x; exact hb (UInt8.toNat_inj.1 (by show _ = 10; omega))
      clear hd hz hsum hb
      go_enter Tryz.func149, Tryz.ntmps149
      go_wp2_with (go_at_call 142; refine (HR.out _).mono ?_; rintro e w1 ⟨rfl, hb1⟩)
      go_ret2
      exact ⟨ret_nb (by rw [(Prod.mk.inj HN.out).1]; rfl) (by rw [(Prod.mk.inj HN.out).2]), hb1⟩

end Go.Proofs.YtcbojffcnlkejaaGreatDoor.lnk

/- Package link: tail, defined; walked. -/
namespace Go.Proofs.YtcbojffcnlkejaaGreatDoor.lnk
open Go.RowKit

theorem three_ret {a b : ByteArray} {n m : Int} {f g : Bool} (h1 : a = b) (h2 : n = m) (h3 : f = g) : Ending.returned (.tuple #[.string a, .int .i64 n, .bool f]) = .returned (.tuple #[.string b, .int .i64 m, .bool g]) := by rw [h1, h2, h3]

theorem lineR_le (l : List UInt8) : (lineR l).1 ≤ l.length := by
  unfold lineR
  split
  · exact Nat.sub_le ..
  · exact Nat.zero_le _

set_option maxHeartbeats 2000000 in
set_option maxRecDepth 8000 in
theorem ktail_at (s : ByteArray) (hs : s.size ≤ 140737488351232) (x : List UInt8) (n : Nat) (f : Bool) (h : Hid (tailL s.data.toList = (x, n, f))) (w : World) :
    Calls Tryz.prog 122 #[.string s] w fun e w' => e = .returned (.tuple #[.string ⟨x.toArray⟩, .int .i64 (n : Int), .bool f]) ∧ Below w.heap.size w w' := by
  have HG := (show Hid _ from fun w => kgap_any s (by omega) w)
  have hc := h.out
  rw [tail_code] at hc
  have hgs : Suf s (gapL 0 s.data.toList) := (Suf.whole s).gap 0
  have hz := len_data s
  obtain ⟨n0, f0, h0⟩ : ∃ n0 f0, lineR s.data.toList = (n0, f0) := ⟨_, _, rfl⟩
  have HL0 := (show Hid _ from fun w => kline_at s (by omega) n0 f0 h0 w)
  rw [h0] at hc
  generalize gapL 0 s.data.toList = G at *
  have hsum := hgs.sum
  have hext := hgs.ext
  have hx1 := ext_size s (pos s G)
  have hat := (show Hid _ from hgs.at)
  generalize hk : pos s G = k at *
  obtain ⟨v, z, ht⟩ : ∃ v z, pairL (titleL G) = (v, z) := ⟨_, _, rfl⟩
  rw [ht] at hc
  have hzG : z ≤ G.length := by
    cases hT : titleL G with
    | none => rw [hT] at ht; rw [← (Prod.mk.inj ht).2]; exact Nat.zero_le _
    | some xm => rw [hT] at ht; rw [← (Prod.mk.inj ht).2]; exact (title_pos hT).2
  generalize hq : s.extract k s.size = q at *
  have HT := (show Hid _ from fun w => ktitle_at q (by omega) v z (by omega) (by show _ = _; rw [hext]; exact ht) w)
  have hk0 : (k : Int) ≤ (s.size : Int) := by omega
  have e1 : s.data.toList.length - G.length = k := by rw [hz]; omega
  rw [e1] at hc
  clear h ht hext hx1 h0 hk e1
  by_cases hk1 : 0 < k
  · by_cases hz1 : 0 < z
    · -- a title
      obtain ⟨q2, hq2⟩ : ∃ q2, s.extract (k + z) s.size = q2 := ⟨_, rfl⟩
      have hq3 : q2.data.toList = G.drop z := by
        rw [← hq2, ext_from, ← List.drop_drop, hat.out]
      obtain ⟨n1, f1, h1⟩ : ∃ n1 f1, lineR (G.drop z) = (n1, f1) := ⟨_, _, rfl⟩
      have hn1 : n1 ≤ G.length - z := by have := lineR_le (G.drop z); rw [h1, List.length_drop] at this; exact this
      have HL1 := (show Hid _ from fun w => kline_at q2 (by rw [← hq2, ByteArray.size_extract]; omega) n1 f1 (by show _ = _; rw [hq3]; exact h1) w)
      rw [h1] at hc
      have hk2 : (0 : Int) < (k : Int) := by omega
      have hz2 : (0 : Int) < (z : Int) := by omega
      have hkz : (k : Int) + (z : Int) ≤ (s.size : Int) := by omega
      have hkn : (k : Int) + (z : Int) + (n1 : Int) ≤ (s.size : Int) := by omega
      cases f1
      · have hc2 : ([], n0, f0) = (x, n, f) := by rw [if_neg (by rintro ⟨_, _, y⟩; cases y)] at hc; exact hc
        have HC : Hid (x = [] ∧ n = n0 ∧ f = f0) := by cases hc2; exact ⟨rfl, rfl, rfl⟩
        clear hc hc2 hq3 h1 hn1 hgs hsum hzG hz
        go_enter Tryz.func122, Tryz.ntmps122
        go_wp2_with (first
          | (go_at_call 120; refine (HG.out _).mono ?_; rintro e w1 ⟨rfl, hb1⟩)
          | (go_at_call 148; refine (HT.out _).mono ?_; rintro e w2 ⟨rfl, hb2⟩)
          | (go_at_call_of 149 (Value.string q2); refine (HL1.out _).mono ?_; rintro e w3 ⟨rfl, hb3⟩)
          | (go_at_call_of 149 (Value.string s); refine (HL0.out _).mono ?_; rintro e w4 ⟨rfl, hb4⟩))
        go_ret3
        obtain ⟨hx, hn, hf⟩ := HC.out
        exact ⟨three_ret (by rw [hx]) (by rw [hn]) (by rw [hf]), below_next (below_next (below_next hb1 hb2) hb3) hb4⟩
      · have hc2 : (v, k + z + n1, true) = (x, n, f) := by rw [if_pos ⟨by omega, hz1, rfl⟩] at hc; exact hc
        have HC : Hid (x = v ∧ n = k + z + n1 ∧ f = true) := by cases hc2; exact ⟨rfl, rfl, rfl⟩
        clear hc hc2 hq3 h1 hn1 hgs hsum hzG hz
        go_enter Tryz.func122, Tryz.ntmps122
        go_wp2_with (first
          | (go_at_call 120; refine (HG.out _).mono ?_; rintro e w1 ⟨rfl, hb1⟩)
          | (go_at_call 148; refine (HT.out _).mono ?_; rintro e w2 ⟨rfl, hb2⟩)
          | (go_at_call_of 149 (Value.string q2); refine (HL1.out _).mono ?_; rintro e w3 ⟨rfl, hb3⟩))
        go_ret3
        obtain ⟨hx, hn, hf⟩ := HC.out
        exact ⟨three_ret (by rw [hx]) (by rw [hn]; push_cast; rfl) (by rw [hf]), below_next (below_next hb1 hb2) hb3⟩
    · have hc2 : ([], n0, f0) = (x, n, f) := by rw [if_neg (by rintro ⟨_, y, _⟩; exact hz1 y)] at hc; exact hc
      have HC : Hid (x = [] ∧ n = n0 ∧ f = f0) := by cases hc2; exact ⟨rfl, rfl, rfl⟩
      have hz3 : ¬ (0 : Int) < (z : Int) := by omega
      have hz4 : decide ((0 : Int) < (z : Int)) = false := decide_eq_false hz3
      have hk2 : (0 : Int) < (k : Int) := by omega
      clear hc hc2 hgs hsum hzG hz
      go_enter Tryz.func122, Tryz.ntmps122
      go_wp2_with (first
        | (go_at_call 120; refine (HG.out _).mono ?_; rintro e w1 ⟨rfl, hb1⟩)
        | (go_at_call 148; refine (HT.out _).mono ?_; rintro e w2 ⟨rfl, hb2⟩)
        | (go_at_call 149; refine (HL0.out _).mono ?_; rintro e w4 ⟨rfl, hb4⟩))
      go_ret3
      obtain ⟨hx, hn, hf⟩ := HC.out
      exact ⟨three_ret (by rw [hx]) (by rw [hn]) (by rw [hf]), below_next (below_next hb1 hb2) hb4⟩
  · have hc2 : ([], n0, f0) = (x, n, f) := by rw [if_neg (by rintro ⟨y, _, _⟩; omega)] at hc; exact hc
    have HC : Hid (x = [] ∧ n = n0 ∧ f = f0) := by cases hc2; exact ⟨rfl, rfl, rfl⟩
    have hz3 : ¬ (0 : Int) < (k : Int) := by omega
    have hz4 : decide ((0 : Int) < (k : Int)) = false := decide_eq_false hz3
    clear hc hc2 hgs hsum hzG hz
    go_enter Tryz.func122, Tryz.ntmps122
    go_wp2_with (first
      | (go_at_call 120; refine (HG.out _).mono ?_; rintro e w1 ⟨rfl, hb1⟩)
      | (go_at_call 148; refine (HT.out _).mono ?_; rintro e w2 ⟨rfl, hb2⟩)
      | (go_at_call 149; refine (HL0.out _).mono ?_; rintro e w4 ⟨rfl, hb4⟩))
    go_ret3
    obtain ⟨hx, hn, hf⟩ := HC.out
    exact ⟨three_ret (by rw [hx]) (by rw [hn]) (by rw [hf]), below_next (below_next hb1 hb2) hb4⟩

theorem three_label {l u : List UInt8} (h : threeL 3 l = 32 :: u) : definedL l = ([], 0) := by
  unfold definedL
  rw [h]
  rfl

set_option maxHeartbeats 2000000 in
set_option maxRecDepth 8000 in
theorem kdefined_at (s : ByteArray) (hs : s.size ≤ 9223372036854775000) (v : List UInt8) (n : Nat) (h : Hid (definedL s.data.toList = (v, n))) (w : World) :
    Calls Tryz.prog 119 #[.string s] w fun e w' => e = .returned (.tuple #[.string ⟨v.toArray⟩, .int .i64 (n : Int)]) ∧ Below w.heap.size w w' := by
  have HR := (show Hid _ from fun w => krow_any s hs ⟨#[32]⟩ (by decide) (by decide) (· == 32) (by funext b; rw [Bool.eq_iff_iff]; simp) w)
  have h3 := three_rows 3 s.data.toList
  have hTs : Suf s (s.data.toList.dropWhile (· == 32)) := (Suf.whole s).dw _
  have hz := len_data s
  have hd := h.out
  clear h
  generalize s.data.toList.dropWhile (· == 32) = T at *
  have hsum := hTs.sum
  have hext := hTs.ext
  generalize hk : pos s T = k at *
  have hk0 : (k : Int) ≤ (s.size : Int) := by omega
  by_cases hk3 : 3 < k
  · obtain ⟨u, hu⟩ := h3.2 (by omega)
    rw [three_label hu] at hd
    have HV : Hid ((v, n) = (([] : List UInt8), 0)) := hd.symm
    have hk4 : (3 : Int) < (k : Int) := by omega
    clear hd hu h3 hext hTs hsum hz hk
    go_enter Tryz.func119, Tryz.ntmps119
    go_wp2_with (go_at_call 142; refine (HR.out _).mono ?_; rintro e w1 ⟨rfl, hb1⟩)
    go_ret2
    exact ⟨two_none HV, hb1⟩
  · have hT := h3.1 (by omega)
    have hk4 : ¬ (3 : Int) < (k : Int) := by omega
    have hk5 : decide ((3 : Int) < (k : Int)) = false := decide_eq_false hk4
    unfold definedL at hd
    rw [hT] at hd
    obtain ⟨u, z, hl⟩ : ∃ u z, pairL (labelL T) = (u, z) := ⟨_, _, rfl⟩
    generalize hq : s.extract k s.size = q at *
    have HL := (show Hid _ from fun w => klabel_at q (by rw [hext, size_list]; omega) u z (by show _ = _; rw [hext]; exact hl) w)
    clear h3 hT
    cases hlab : labelL T with
    | none =>
      rw [hlab] at hd hl
      have hz0 : z = 0 := (Prod.mk.inj hl).2.symm
      subst hz0
      have HV : Hid ((v, n) = (([] : List UInt8), 0)) := hd.symm
      clear hd hl hlab hext hTs hsum hz hk
      go_enter Tryz.func119, Tryz.ntmps119
      go_wp2_with (first
        | (go_at_call 142; refine (HR.out _).mono ?_; rintro e w1 ⟨rfl, hb1⟩)
        | (go_at_call 143; refine (HL.out _).mono ?_; rintro e w2 ⟨rfl, hb2⟩))
      go_ret2
      exact ⟨two_none HV, below_next hb1 hb2⟩
    | some un =>
      obtain ⟨u', m⟩ := un
      rw [hlab] at hd hl
      have hu0 : u' = u := (Prod.mk.inj hl).1
      have hz0 : m = z := (Prod.mk.inj hl).2
      subst hu0
      subst hz0
      obtain ⟨hm1, _, _, r, hTr, _⟩ := label_is hlab
      have hm2 : m ≤ T.length := by rw [hTr, List.length_append]; simp; omega
      have hDs : Suf s (T.drop m) := hTs.drop m
      have hpm : pos s (T.drop m) = k + m := by rw [pos_drop hTs hm2, hk]
      have HH := (show Hid _ from fun w => khas_any s (T.drop m) hDs ((k : Int) + (m : Int)) (by rw [hpm]; push_cast; rfl) 58 58 rfl w)
      have hm0 : ((m : Int) == 0) = false := by rw [beq_eq_false_iff_ne]; omega
      have hkm : (k : Int) + (m : Int) ≤ (s.size : Int) := by omega
      simp only at hd
      cases hD : T.drop m with
      | nil =>
        rw [hD] at hd HH
        have HV : Hid ((v, n) = (([] : List UInt8), 0)) := hd.symm
        clear hd hl hlab hext hTs hsum hz hk hTr hm1 hDs hpm hD hm2
        go_enter Tryz.func119, Tryz.ntmps119
        go_wp2_with (first
          | (go_at_call 142; refine (HR.out _).mono ?_; rintro e w1 ⟨rfl, hb1⟩)
          | (go_at_call 143; refine (HL.out _).mono ?_; rintro e w2 ⟨rfl, hb2⟩)
          | (go_at_call 144; refine (HH.out _).mono ?_; rintro e w' ⟨rfl, hw'⟩; subst w'))
        go_ret2
        exact ⟨two_none HV, below_next hb1 hb2⟩
      | cons b t =>
        rw [hD] at hd HH
        have hlen := congrArg List.length hD
        rw [List.length_drop, List.length_cons] at hlen
        simp only at hd
        by_cases hb : b = 58
        · rw [if_pos hb] at hd
          have hh : hdB (b :: t) 58 = true := by simp [hdB, hb]
          rw [hh] at HH
          have HV : Hid ((v, n) = (u', k + m + 1)) := by
            show _ = _
            rw [← hd, hz]
            congr 1
            omega
          have hkm1 : (k : Int) + (m : Int) + 1 ≤ (s.size : Int) := by omega
          clear hd hl hlab hext hTs hsum hz hk hTr hm1 hDs hpm hD hm2 hlen hh hb
          go_enter Tryz.func119, Tryz.ntmps119
          go_wp2_with (first
            | (go_at_call 142; refine (HR.out _).mono ?_; rintro e w1 ⟨rfl, hb1⟩)
            | (go_at_call 143; refine (HL.out _).mono ?_; rintro e w2 ⟨rfl, hb2⟩)
            | (go_at_call 144; refine (HH.out _).mono ?_; rintro e w' ⟨rfl, hw'⟩; subst w'))
          go_ret2
          exact ⟨two_some HV rfl (by push_cast; rfl), below_next hb1 hb2⟩
        · rw [if_neg hb] at hd
          have hh : hdB (b :: t) 58 = false := by simp [hdB, hb]
          rw [hh] at HH
          have HV : Hid ((v, n) = (([] : List UInt8), 0)) := hd.symm
          clear hd hl hlab hext hTs hsum hz hk hTr hm1 hDs hpm hD hm2 hlen hh hb
          go_enter Tryz.func119, Tryz.ntmps119
          go_wp2_with (first
            | (go_at_call 142; refine (HR.out _).mono ?_; rintro e w1 ⟨rfl, hb1⟩)
            | (go_at_call 143; refine (HL.out _).mono ?_; rintro e w2 ⟨rfl, hb2⟩)
            | (go_at_call 144; refine (HH.out _).mono ?_; rintro e w' ⟨rfl, hw'⟩; subst w'))
          go_ret2
          exact ⟨two_none HV, below_next hb1 hb2⟩

end Go.Proofs.YtcbojffcnlkejaaGreatDoor.lnk
