/- Several texts in one. -/
import Derived.Test.YtjdijlaoeoikhaaGreatDoorQKGap
import Derived.BigRegion
set_option linter.unusedVariables false
/- Cutting at a line feed; empty lines; walked. -/
namespace Go.Proofs.YtjdijlaoeoikhaaGreatDoor.lnk
open Go.RowKit

theorem idx_at (c : UInt8) : ∀ (p t : List UInt8), c ∉ p → Lib.indexByte (p ++ c :: t) c = (p.length : Int)
  | [], t, _ => by simp [Lib.indexByte]
  | b :: p, t, h => by
    rw [List.mem_cons, not_or] at h
    rw [List.cons_append]
    unfold Lib.indexByte
    rw [idx_at c p t h.2, if_neg (by simpa using fun e => h.1 (Eq.symm e)), if_neg (by simp)]
    simp

theorem below_drewK {B : Nat} {w0 w : World} (h : Below B w0 w) : Below B w0 w.drew := h.trans ⟨rfl, rfl, rfl, Nat.le_refl _, fun k hk => rfl⟩

theorem kcut_hit (s : ByteArray) (hs : s.size ≤ 9223372036854775000) (p t : List UInt8) (h : s.data.toList = p ++ 10 :: t) (hp : 10 ∉ p) (w : World) :
    Calls Tryz.prog 158 #[.string s, .string ⟨#[10]⟩] w fun e w' => e = .returned (.tuple #[.string (s.extract 0 p.length), .string (s.extract (p.length + 1) s.size), .bool true]) ∧ Below w.heap.size w w' := by
  have HX := (show Hid _ from fun w => Tryz.stringslite_Index_one s 10 w)
  rw [h, idx_at 10 p t hp] at HX
  have hz : s.size = p.length + 1 + t.length := by rw [← len_data, h]; simp; omega
  have c1 : (0 : Int) ≤ (p.length : Int) := by omega
  have c2 : (p.length : Int) ≤ (s.size : Int) := by omega
  have c3 : (0 : Int) ≤ (p.length : Int) + 1 := by omega
  have c4 : (p.length : Int) + 1 ≤ (s.size : Int) := by omega
  clear hz h hp
  generalize p.length = k at *
  go_enter Tryz.func158, Tryz.ntmps158
  go_wp2_with (go_at_call 115; refine (HX.out _).mono ?_; rintro e w' ⟨rfl, hw'⟩; subst w')
  go_region
  go_wp2
  go_ret3
  exact ⟨rfl, below_drewK (Below.refl _ _)⟩

theorem kcut_miss (s : ByteArray) (hp : 10 ∉ s.data.toList) (w : World) :
    Calls Tryz.prog 158 #[.string s, .string ⟨#[10]⟩] w fun e w' => e = .returned (.tuple #[.string s, .string ⟨#[]⟩, .bool false]) ∧ Below w.heap.size w w' := by
  have HX := (show Hid _ from fun w => Tryz.stringslite_Index_one s 10 w)
  rw [idx_neg _ _ hp] at HX
  clear hp
  go_enter Tryz.func158, Tryz.ntmps158
  go_wp2_with (go_at_call 115; refine (HX.out _).mono ?_; rintro e w' ⟨rfl, hw'⟩; subst w')
  go_ret3
  exact ⟨rfl, Below.refl _ _⟩

theorem kcut_any {s a b : ByteArray} {f : Bool} (h : ∀ w, Calls Tryz.prog 158 #[.string s, .string ⟨#[10]⟩] w fun e w' => e = .returned (.tuple #[.string a, .string b, .bool f]) ∧ Below w.heap.size w w') (w : World) :
    Calls Tryz.prog 155 #[.string s, .string ⟨#[10]⟩] w fun e w' => e = .returned (.tuple #[.string a, .string b, .bool f]) ∧ Below w.heap.size w w' := by
  have HX := (show Hid _ from h)
  clear h
  go_enter Tryz.func155, Tryz.ntmps155
  go_wp2_with (go_at_call 158; refine (HX.out _).mono ?_; rintro e w1 ⟨rfl, hb1⟩)
  go_ret3
  exact ⟨rfl, hb1⟩

theorem split_feed (l : List UInt8) : 10 ∉ l ∨ ∃ p t, l = p ++ 10 :: t ∧ 10 ∉ p := by
  induction l with
  | nil => exact .inl (by simp)
  | cons b l ih =>
    by_cases hb : b = 10
    · exact .inr ⟨[], l, by rw [hb]; rfl, by simp⟩
    · rcases ih with h | ⟨p, t, h1, h2⟩
      · refine .inl ?_
        rw [List.mem_cons, not_or]
        exact ⟨fun e => hb e.symm, h⟩
      · refine .inr ⟨b :: p, t, by rw [h1]; rfl, ?_⟩
        rw [List.mem_cons, not_or]
        exact ⟨fun e => hb e.symm, h2⟩

def strOf : Value → ByteArray
  | .string s => s
  | _ => ⟨#[]⟩

set_option maxHeartbeats 2000000 in
set_option maxRecDepth 8000 in
theorem kempty_any (s0 : ByteArray) (hs0 : s0.size ≤ 9223372036854775000) (w : World) :
    Calls Tryz.prog 146 #[.string s0] w fun e w' => e = .returned (.bool (emptyF false s0.data.toList)) ∧ Below w.heap.size w w' := by
  go_enter Tryz.func146, Tryz.ntmps146
  go_wp2
  go_loopw [0] (fun A wr => ∃ s : ByteArray, A = .string s ∧ Hid (s.size ≤ 9223372036854775000) ∧ Hid (Below w.heap.size w wr) ∧ Hid (emptyF false s0.data.toList = emptyF false s.data.toList)) (fun A _ => (strOf A).size)
  case atStart => exact ⟨s0, rfl, hs0, Below.refl _ _, rfl⟩
  case round =>
    obtain ⟨s, rfl, hs, hbw, he⟩ := hrel
    rcases split_feed s.data.toList with hmiss | ⟨p, t, h1, h2⟩
    · have HC := (show Hid _ from fun w => kcut_any (kcut_miss s hmiss) w)
      have HF : Hid (emptyF false s0.data.toList = false) := he.out.trans (empty_cut _ hmiss)
      clear hmiss
      go_wp2_with (go_at_call 155; refine (HC.out _).mono ?_; rintro e w1 ⟨rfl, hb1⟩)
      go_ret
      exact ⟨ret_bool HF.out.symm, below_next hbw.out hb1⟩
    · have HC := (show Hid _ from fun w => kcut_any (kcut_hit s hs.out p t h1 h2) w)
      have hz : s.size = p.length + 1 + t.length := by rw [← len_data, h1]; simp; omega
      have HE : Hid (emptyF false s0.data.toList = match t.dropWhile gapC with
          | [] => false
          | b :: u => if b = 10 then true else emptyF false (b :: u)) := by show _ = _; rw [he.out, h1, empty_skip _ _ h2, empty_trim]; rfl
      have hq : (s.extract (p.length + 1) s.size).data.toList = t := by
        rw [ext_from, h1, show p ++ 10 :: t = (p ++ [10]) ++ t by simp]
        exact List.drop_left' (by simp)
      generalize s.extract (p.length + 1) s.size = q at *
      generalize s.extract 0 p.length = q0 at *
      obtain ⟨r, hr⟩ : ∃ r : ByteArray, r = ⟨(Lib.trimLeftS q.data.toList (ByteArray.mk #[32, 9]).data.toList).toArray⟩ := ⟨_, rfl⟩
      have HT := (show Hid _ from fun w => ktl_at q ⟨#[32, 9]⟩ (by decide) (by decide) r hr w)
      have hrl : r.data.toList = t.dropWhile gapC := by rw [hr, hq]; exact list_data _
      have hrz : r.size ≤ t.length := by rw [← len_data, hrl]; exact dw_len _ _
      have HH := (show Hid _ from fun w => khas_any r r.data.toList (Suf.whole r) 0 (by rw [pos_whole]; rfl) 10 10 rfl w)
      rw [← hrl] at HE
      have HL : Hid (r.size < s.size ∧ r.size ≤ 9223372036854775000) := by have := hs.out; exact ⟨by omega, by omega⟩
      clear hr hq hrl h1 h2 hz hrz
      cases h10 : hdB r.data.toList 10
      · rw [h10] at HH
        have HF : Hid (emptyF false s0.data.toList = emptyF false r.data.toList) := by
          show _ = _
          rw [HE.out]
          cases hx : r.data.toList with
          | nil => rfl
          | cons b u =>
            rw [hx] at h10
            have hb : ¬ b = 10 := by simpa [hdB] using h10
            simp only
            rw [if_neg hb]
        clear h10
        go_wp2_with (first
          | (go_at_call 155; refine (HC.out _).mono ?_; rintro e w1 ⟨rfl, hb1⟩)
          | (go_at_call 45; refine (HT.out _).mono ?_; rintro e w2 ⟨rfl, hb2⟩)
          | (go_at_call 127; refine (HH.out _).mono ?_; rintro e w' ⟨rfl, hw'⟩; subst w'))
        go_roundw
        case rel => exact ⟨r, rfl, HL.out.2, below_next (below_next hbw.out hb1) hb2, HF.out⟩
        case measure => simp only [strOf]; exact HL.out.1
      · rw [h10] at HH
        have HF : Hid (emptyF false s0.data.toList = true) := by
          show _ = _
          rw [HE.out]
          cases hx : r.data.toList with
          | nil => rw [hx] at h10; cases h10
          | cons b u =>
            rw [hx] at h10
            have hb : b = 10 := by simpa [hdB] using h10
            simp only
            rw [if_pos hb]
        clear h10
        go_wp2_with (first
          | (go_at_call 155; refine (HC.out _).mono ?_; rintro e w1 ⟨rfl, hb1⟩)
          | (go_at_call 45; refine (HT.out _).mono ?_; rintro e w2 ⟨rfl, hb2⟩)
          | (go_at_call 127; refine (HH.out _).mono ?_; rintro e w' ⟨rfl, hw'⟩; subst w'))
        go_ret
        exact ⟨ret_bool HF.out.symm, below_next (below_next hbw.out hb1) hb2⟩

end Go.Proofs.YtjdijlaoeoikhaaGreatDoor.lnk

/- Package link: titleSize, Title, lineEnd, tail; walked. -/
namespace Go.Proofs.YtjdijlaoeoikhaaGreatDoor.lnk
open Go.RowKit

theorem ktsize_any (s : ByteArray) (hs : s.size ≤ 9223372036854775000) (w : World) :
    Calls Tryz.prog 145 #[.string s] w fun e w' => e = .returned (.int .i64 (titleN s.data.toList : Int)) ∧ w' = w := by
  have H1 := (show Hid _ from fun w => khas_any s s.data.toList (Suf.whole s) 0 (by rw [pos_whole]; rfl) 34 34 rfl w)
  have H2 := (show Hid _ from fun w => khas_any s s.data.toList (Suf.whole s) 0 (by rw [pos_whole]; rfl) 39 39 rfl w)
  have E1 := (show Hid _ from fun w => kencl_any s hs 34 34 34 34 rfl rfl ⟨#[]⟩ (fun _ => false) (fun b => rfl) w)
  have E2 := (show Hid _ from fun w => kencl_any s hs 39 39 39 39 rfl rfl ⟨#[]⟩ (fun _ => false) (fun b => rfl) w)
  have E3 := (show Hid _ from fun w => kencl_any s hs 40 41 40 41 rfl rfl ⟨#[40]⟩ (· == 40) (fun b => by rw [Bool.eq_iff_iff]; simp) w)
  have HT : Hid (titleN s.data.toList = if hdB s.data.toList 34 = true then enclL 34 34 (fun _ => false) s.data.toList else if hdB s.data.toList 39 = true then enclL 39 39 (fun _ => false) s.data.toList else enclL 40 41 (· == 40) s.data.toList) := by
    show _ = _
    cases s.data.toList with
    | nil => rfl
    | cons a t => simp only [titleN, hdB, beq_iff_eq]
  generalize enclL 34 34 (fun _ => false) s.data.toList = n1 at *
  generalize enclL 39 39 (fun _ => false) s.data.toList = n2 at *
  generalize enclL 40 41 (· == 40) s.data.toList = n3 at *
  generalize hdB s.data.toList 34 = b1 at *
  generalize hdB s.data.toList 39 = b2 at *
  generalize titleN s.data.toList = n at *
  cases b1
  · cases b2
    · go_enter Tryz.func145, Tryz.ntmps145
      go_wp2_with (first
        | (go_at_call_of 127 (Value.int .u8 34); refine (H1.out _).mono ?_; rintro e w' ⟨rfl, hw'⟩; subst w')
        | (go_at_call_of 127 (Value.int .u8 39); refine (H2.out _).mono ?_; rintro e w' ⟨rfl, hw'⟩; subst w')
        | (go_at_call 100; refine (E3.out _).mono ?_; rintro e w' ⟨rfl, hw'⟩; subst w'))
      go_ret
      exact ⟨ret_int (by rw [HT.out]; rfl), rfl⟩
    · go_enter Tryz.func145, Tryz.ntmps145
      go_wp2_with (first
        | (go_at_call_of 127 (Value.int .u8 34); refine (H1.out _).mono ?_; rintro e w' ⟨rfl, hw'⟩; subst w')
        | (go_at_call_of 127 (Value.int .u8 39); refine (H2.out _).mono ?_; rintro e w' ⟨rfl, hw'⟩; subst w')
        | (go_at_call 100; refine (E2.out _).mono ?_; rintro e w' ⟨rfl, hw'⟩; subst w'))
      go_ret
      exact ⟨ret_int (by rw [HT.out]; rfl), rfl⟩
  · go_enter Tryz.func145, Tryz.ntmps145
    go_wp2_with (first
      | (go_at_call 127; refine (H1.out _).mono ?_; rintro e w' ⟨rfl, hw'⟩; subst w')
      | (go_at_call 100; refine (E1.out _).mono ?_; rintro e w' ⟨rfl, hw'⟩; subst w'))
    go_ret
    exact ⟨ret_int (by rw [HT.out]; rfl), rfl⟩

theorem titleN_le (l : List UInt8) : titleN l ≤ l.length ∧ (titleN l = 0 ∨ 2 ≤ titleN l) := by
  cases l with
  | nil => exact ⟨Nat.le_refl _, .inl rfl⟩
  | cons a t =>
    simp only [titleN]
    split
    · exact ⟨encl_le .., encl_two ..⟩
    · split
      · exact ⟨encl_le .., encl_two ..⟩
      · exact ⟨encl_le .., encl_two ..⟩

set_option maxHeartbeats 1000000 in
theorem ktitle_at (s : ByteArray) (hs : s.size ≤ 9223372036854775000) (v : List UInt8) (z : Nat) (hz47 : z ≤ 140737488351232) (h : Hid (pairL (titleL s.data.toList) = (v, z))) (w : World) :
    Calls Tryz.prog 131 #[.string s] w fun e w' => e = .returned (.tuple #[.string ⟨v.toArray⟩, .int .i64 (z : Int)]) ∧ Below w.heap.size w w' := by
  have HN := (show Hid _ from fun w => ktsize_any s (by omega) w)
  obtain ⟨hle, h2⟩ := titleN_le s.data.toList
  rw [len_data] at hle
  have hd := h.out
  rw [title_code] at hd
  clear h
  generalize titleN s.data.toList = n at *
  have HI' := (show Hid _ from fun (hx : n ≤ 140737488351232) w => kinside_any s hs n hx hle h2 w)
  obtain ⟨q, hq⟩ : ∃ q, s.extract 0 n = q := ⟨_, rfl⟩
  have hql : q.data.toList = s.data.toList.take n := by rw [← hq, ext_take]
  have hqz : q.size ≤ 9223372036854775000 := by rw [← hq, ByteArray.size_extract]; omega
  have HE := (show Hid _ from fun w => kempty_any q hqz w)
  rw [hql] at HE
  have hn0 : 0 ≤ (n : Int) := by omega
  have hn1 : (n : Int) ≤ (s.size : Int) := by omega
  by_cases hz : n = 0
  · rw [if_pos (.inl hz)] at hd
    have HV : Hid ((v, z) = (([] : List UInt8), n)) := by rw [hz]; exact hd.symm
    have he : emptyF false (s.data.toList.take n) = false := by rw [hz]; rfl
    rw [he] at HE
    rw [if_pos hz] at HI'
    have HI := (show Hid _ from HI'.out (by omega))
    clear hql hqz hd he h2 hle hz
    go_enter Tryz.func131, Tryz.ntmps131
    go_wp2_with (first
      | (go_at_call 145; refine (HN.out _).mono ?_; rintro e w' ⟨rfl, hw'⟩; subst w')
      | (go_at_call 146; refine (HE.out _).mono ?_; rintro e w1 ⟨rfl, hb1⟩)
      | (go_at_call 128; refine (HI.out _).mono ?_; rintro e w2 ⟨rfl, hb2⟩))
    go_ret2
    exact ⟨two_some HV rfl rfl, below_next hb1 hb2⟩
  · rw [if_neg hz] at HI'
    generalize unesc ((s.data.toList.drop 1).take (n - 2)) = U at *
    cases he : emptyF false (s.data.toList.take n)
    · rw [he] at HE hd
      rw [if_neg (by rintro (x | x); exact hz x; cases x)] at hd
      have HV : Hid ((v, z) = (U, n)) := hd.symm
      have HI := (show Hid _ from HI'.out (by rw [(Prod.mk.inj HV.out).2] at hz47; exact hz47))
      clear hql hqz hd he h2 hle
      go_enter Tryz.func131, Tryz.ntmps131
      go_wp2_with (first
        | (go_at_call 145; refine (HN.out _).mono ?_; rintro e w' ⟨rfl, hw'⟩; subst w')
        | (go_at_call 146; refine (HE.out _).mono ?_; rintro e w1 ⟨rfl, hb1⟩)
        | (go_at_call 128; refine (HI.out _).mono ?_; rintro e w2 ⟨rfl, hb2⟩))
      go_ret2
      exact ⟨two_some HV rfl rfl, below_next hb1 hb2⟩
    · rw [he] at HE hd
      rw [if_pos (.inr rfl)] at hd
      have HV : Hid ((v, z) = (([] : List UInt8), 0)) := hd.symm
      clear hql hqz hd he h2 hle
      go_enter Tryz.func131, Tryz.ntmps131
      go_wp2_with (first
        | (go_at_call 145; refine (HN.out _).mono ?_; rintro e w' ⟨rfl, hw'⟩; subst w')
        | (go_at_call 146; refine (HE.out _).mono ?_; rintro e w1 ⟨rfl, hb1⟩))
      go_ret2
      exact ⟨two_none HV, hb1⟩

/-! ### What stands behind -/

theorem ret_nb {n m : Int} {a b : Bool} (h1 : n = m) (h2 : a = b) : Ending.returned (.tuple #[.int .i64 n, .bool a]) = .returned (.tuple #[.int .i64 m, .bool b]) := by rw [h1, h2]

end Go.Proofs.YtjdijlaoeoikhaaGreatDoor.lnk
