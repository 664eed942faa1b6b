/- Tags in package span: attribute, closingTag, openingTag, Tag. -/
import Derived.Test.YtegjpfhpkkffiaaDoorSTag2
set_option linter.unusedVariables false
namespace Go.Proofs.YtegjpfhpkkffiaaDoor
open Go.RowKit

theorem attrF_N (c : UInt8) : attrF c = (letN c.toNat || decide (c.toNat = 95) || decide (c.toNat = 58)) := by
  have h1 := eqN c 95 (by omega)
  have h2 := eqN c 58 (by omega)
  rw [← h1, ← h2]
  rfl

theorem begins_any (c : UInt8) (w : World) :
    Calls Tryd.prog 74 #[.int .u8 (c.toNat : Int)] w fun e w' => e = .returned (.bool (attrF c)) ∧ w' = w := by
  have HN := (show Hid _ from attrF_N c)
  have hc : (c.toNat = 95 ∨ c.toNat = 58) ∨ (¬ c.toNat = 95 ∧ ¬ c.toNat = 58) := by omega
  cases hl : letN c.toNat
  all_goals
    rcases hc with (h | h) | ⟨h, h'⟩
    all_goals
      go_enter Tryd.func74, Tryd.ntmps74
      go_wp2_with (go_at_call 39; refine (letter_any _ _).mono ?_; rintro e w' ⟨rfl, rfl⟩)
      go_ret
      exact ⟨ret_bool (by rw [HN.out, hl, Bool.eq_iff_iff]; simp <;> omega), rfl⟩

def attQ (l y : List UInt8) : List UInt8 := match y with
  | [] => l
  | b :: t => if (b :: t).length < l.length ∧ attrF b = true then valP (t.dropWhile attrC) else l

set_option maxHeartbeats 2000000 in
theorem attribute_any (s : ByteArray) (hs : s.size ≤ 9223372036854775000) (l : List UInt8) (hl : Suf s l) (w : World) :
    Calls Tryd.prog 57 #[.string s, .int .i64 (pos s l : Int)] w fun e w' => e = .returned (.int .i64 (pos s (attP l) : Int)) ∧ ∃ n, w' = w.drewN n := by
  have hg1 := hl.gap 0
  obtain ⟨y, hy⟩ : ∃ y, y = gapL 0 l := ⟨_, rfl⟩
  rw [← hy] at hg1
  have hgap : Hid (∀ w, Calls Tryd.prog 56 #[.string s, .int .i64 (pos s l : Int)] w fun e w' => e = .returned (.int .i64 (pos s y : Int)) ∧ w' = w) := fun w => by rw [hy]; exact gap_any s hs l hl _ rfl w
  have HA : Hid (attP l = attQ l y) := by rw [hy]; rfl
  have hyl : y.length ≤ l.length := by rw [hy]; exact gapL_le 0 l
  clear hy
  by_cases h0 : y = l
  · have t1 : (pos s y : Int) = (pos s l : Int) := by rw [h0]
    have HE : Hid (attP l = l) := by
      show _ = _
      rw [HA.out, h0]
      cases l with
      | nil => rfl
      | cons b t => simp [attQ]
    clear h0 HA hyl
    go_enter Tryd.func57, Tryd.ntmps57
    go_wp2_with (go_at_call 56; refine (hgap.out _).mono ?_; rintro e w' ⟨rfl, rfl⟩)
    go_ret
    exact ⟨ret_int (by rw [HE.out]), 0, rfl⟩
  · have t1 : ¬ (pos s y : Int) = (pos s l : Int) := fun e => h0 ((hg1.eq_iff hl).1 e)
    have hlt : y.length < l.length := by
      rcases Nat.lt_or_ge y.length l.length with h | h
      · exact h
      · exact absurd (hg1.same hl (by omega)) h0
    clear h0
    cases y with
    | nil =>
      have HE : Hid (attP l = l) := HA.out
      have t2 : pos s [] = s.size := pos_nil s
      clear HA
      go_enter Tryd.func57, Tryd.ntmps57
      go_wp2_with (go_at_call 56; refine (hgap.out _).mono ?_; rintro e w' ⟨rfl, rfl⟩)
      go_ret
      exact ⟨ret_int (by rw [HE.out]), 0, rfl⟩
    | cons b t =>
      have hb1 := hg1.lt
      have t2 : ¬ (pos s (b :: t) : Int) = (s.size : Int) := by omega
      have hb := hg1.byte hb1
      have t3 : ((pos s (b :: t) : Int) == (pos s l : Int)) = false := by rw [beq_eq_false_iff_ne]; exact t1
      have t4 : ((pos s (b :: t) : Int) == (s.size : Int)) = false := by rw [beq_eq_false_iff_ne]; exact t2
      have hbeg := (show Hid _ from fun w => begins_any b w)
      cases hf : attrF b
      · have HE : Hid (attP l = l) := by show _ = _; rw [HA.out]; simp [attQ, hf]
        clear HA
        go_enter Tryd.func57, Tryd.ntmps57
        go_wp2_with (first
          | (go_at_call 56; refine (hgap.out _).mono ?_; rintro e w' ⟨rfl, rfl⟩)
          | (go_at_call 74; refine (hbeg.out _).mono ?_; rintro e w' ⟨rfl, rfl⟩))
        go_ret
        exact ⟨ret_int (by rw [HE.out]), 0, rfl⟩
      · have HE : Hid (attP l = valP (t.dropWhile attrC)) := by show _ = _; rw [HA.out]; simp only [attQ]; rw [if_pos ⟨hlt, hf⟩]
        have hdw : (b :: t).dropWhile attrC = t.dropWhile attrC := by rw [List.dropWhile_cons, if_pos (attrF_C hf)]
        have hsd := hg1.dw attrC
        rw [hdw] at hsd
        have hrow : Hid (∀ w, Calls Tryd.prog 42 #[.string s, .int .i64 (pos s (b :: t) : Int), .func (.func 75) #[] #[]] w fun e w' => e = .returned (.int .i64 (pos s (t.dropWhile attrC) : Int)) ∧ w' = w) := fun w => by
          have := row_any attr_kind s hs (b :: t) hg1 w
          rwa [hdw] at this
        have hval := (show Hid _ from fun w => value_any s hs _ hsd w)
        clear HA hdw
        go_enter Tryd.func57, Tryd.ntmps57
        go_wp2_with (first
          | (go_at_call 56; refine (hgap.out _).mono ?_; rintro e w' ⟨rfl, rfl⟩)
          | (go_at_call 74; refine (hbeg.out _).mono ?_; rintro e w' ⟨rfl, rfl⟩)
          | (go_at_call 42; refine (hrow.out _).mono ?_; rintro e w' ⟨rfl, rfl⟩)
          | (go_at_call 76; refine (hval.out _).mono ?_; rintro e w' ⟨rfl, n, hw⟩; subst w'))
        go_ret
        exact ⟨ret_int (by rw [HE.out]), _, rfl⟩

/-- Where a tag ends, told as a place. -/
def endN (s : ByteArray) (o : Option (List UInt8)) : Nat := (o.map (pos s)).getD 0

set_option maxHeartbeats 2000000 in
theorem closing_any (s : ByteArray) (hs : s.size ≤ 9223372036854775000) (a b : UInt8) (l : List UInt8) (hl : s.data.toList = a :: b :: l) (w : World) :
    Calls Tryd.prog 32 #[.string s] w fun e w' => e = .returned (.int .i64 (endN s ((nameL l).bind fun r => closeL (gapL 0 r)) : Int)) ∧ w' = w := by
  have h2 : (2 : Int) = (pos s l : Int) := by rw [pos_of (p := [a, b]) hl]; rfl
  have hsl : Suf s l := ⟨[a, b], hl⟩
  have hname := (show Hid _ from fun w => name_any s hs l hsl 2 h2 w)
  cases hn : nameL l with
  | none =>
    have h3 : (pos s l : Int) = 2 := h2.symm
    rw [hn] at hname
    have hname : Hid (∀ w, Calls Tryd.prog 54 #[.string s, .int .i64 2] w fun e w' => e = .returned (.int .i64 2) ∧ w' = w) := fun w => by have := hname.out w; rw [show ((pos s (Option.getD none l) : Nat) : Int) = 2 from h3] at this; exact this
    clear h2 h3
    go_enter Tryd.func32, Tryd.ntmps32
    go_wp2_with (go_at_call 54; refine (hname.out _).mono ?_; rintro e w' ⟨rfl, rfl⟩)
    go_ret
    exact ⟨rfl, rfl⟩
  | some r =>
    rw [hn] at hname
    have hr : Suf s r := hsl.of (name_suf hn)
    have hne : ¬ (pos s r : Int) = 2 := by
      rw [h2]
      intro e
      have := (hr.eq_iff hsl).1 e
      rw [this] at hn
      cases l with
      | nil => cases hn
      | cons c t =>
        simp only [nameL] at hn
        split at hn
        · have hl2 := dropWhile_le nameC t
          have := congrArg List.length (Option.some.inj hn)
          simp only [List.length_cons] at this
          omega
        · cases hn
    have hgap := (show Hid _ from fun w => gap_any s hs r hr _ rfl w)
    have hend := (show Hid _ from fun w => tagEnd_any s hs _ (hr.gap 0) _ rfl w)
    clear hn h2
    go_enter Tryd.func32, Tryd.ntmps32
    go_wp2_with (first
      | (go_at_call 54; refine (hname.out _).mono ?_; rintro e w' ⟨rfl, rfl⟩)
      | (go_at_call 56; refine (hgap.out _).mono ?_; rintro e w' ⟨rfl, rfl⟩)
      | (go_at_call 55; refine (hend.out _).mono ?_; rintro e w' ⟨rfl, rfl⟩))
    go_ret
    exact ⟨rfl, rfl⟩

theorem name_lt {l r : List UInt8} (hn : nameL l = some r) : r.length < l.length := by
  cases l with
  | nil => cases hn
  | cons c t =>
    simp only [nameL] at hn
    split at hn
    · have hl2 := dropWhile_le nameC t
      have := congrArg List.length (Option.some.inj hn)
      simp only [List.length_cons]
      omega
    · cases hn

set_option maxHeartbeats 4000000 in
theorem opening_any (s : ByteArray) (hs : s.size ≤ 9223372036854775000) (a : UInt8) (l : List UInt8) (hl : s.data.toList = a :: l) (w : World) :
    Calls Tryd.prog 33 #[.string s] w fun e w' => e = .returned (.int .i64 (endN s ((nameL l).bind finL) : Int)) ∧ ∃ n, w' = w.drewN n := by
  have h2 : (1 : Int) = (pos s l : Int) := by rw [pos_of (p := [a]) hl]; rfl
  have hsl : Suf s l := ⟨[a], hl⟩
  have hname := (show Hid _ from fun w => name_any s hs l hsl 1 h2 w)
  cases hn : nameL l with
  | none =>
    have h3 : (pos s l : Int) = 1 := h2.symm
    rw [hn] at hname
    have hname : Hid (∀ w, Calls Tryd.prog 54 #[.string s, .int .i64 1] w fun e w' => e = .returned (.int .i64 1) ∧ w' = w) := fun w => by have := hname.out w; rw [show ((pos s (Option.getD none l) : Nat) : Int) = 1 from h3] at this; exact this
    clear h2 h3
    go_enter Tryd.func33, Tryd.ntmps33
    go_wp2_with (go_at_call 54; refine (hname.out _).mono ?_; rintro e w' ⟨rfl, rfl⟩)
    go_ret
    exact ⟨rfl, 0, rfl⟩
  | some r =>
    rw [hn] at hname
    have hr : Suf s r := hsl.of (name_suf hn)
    have hne : ¬ (pos s r : Int) = 1 := by
      rw [h2]
      intro e
      have h4 := (hr.eq_iff hsl).1 e
      have h5 := name_lt hn
      rw [h4] at h5
      omega
    clear hn h2
    have hne2 : ((pos s r : Int) == 1) = false := by rw [beq_eq_false_iff_ne]; exact hne
    show Calls _ _ _ _ fun e w' => e = .returned (.int .i64 (endN s (finL r) : Int)) ∧ _
    go_enter Tryd.func33, Tryd.ntmps33
    go_wp2_with (go_at_call 54; refine (hname.out _).mono ?_; rintro e w' ⟨rfl, rfl⟩)
    go_loopw [3] (fun A wr => ∃ (l' : List UInt8) (n : Nat), A = .int .i64 (pos s l' : Int) ∧ Hid (Suf s l') ∧ Hid (finL l' = finL r) ∧ wr = w'.drewN n) (fun A _ => s.size - (intOf A).toNat)
    case atStart => exact ⟨r, 0, rfl, hr, rfl, rfl⟩
    case round =>
      obtain ⟨l', n, rfl, h1, h2, rfl⟩ := hrel
      have hatt := (show Hid _ from fun w => attribute_any s hs l' h1.out w)
      have has : Suf s (attP l') := h1.out.of (attP_suf l')
      by_cases he : attP l' = l'
      · have hatt : Hid (∀ w, Calls Tryd.prog 57 #[.string s, .int .i64 (pos s l' : Int)] w fun e w' => e = .returned (.int .i64 (pos s l' : Int)) ∧ ∃ n, w' = w.drewN n) := fun w => by have := hatt.out w; rwa [he] at this
        obtain ⟨y, hy⟩ : ∃ y, y = gapL 0 l' := ⟨_, rfl⟩
        have hys : Suf s y := by rw [hy]; exact h1.out.gap 0
        have hgap : Hid (∀ w, Calls Tryd.prog 56 #[.string s, .int .i64 (pos s l' : Int)] w fun e w' => e = .returned (.int .i64 (pos s y : Int)) ∧ w' = w) := fun w => by rw [hy]; exact gap_any s hs l' h1.out _ rfl w
        have hhas := (show Hid _ from fun w => has_any s y hys _ rfl 47 47 rfl w)
        have HF : Hid (finL r = if hdB y 47 = true then closeL (y.drop 1) else closeL y) := by
          show _ = _
          rw [← h2.out, att_no he, ← hy, ← end_slash]
          cases y with
          | nil => rfl
          | cons b t => rfl
        clear he hy
        cases hd : hdB y 47
        · have hend := (show Hid _ from fun w => tagEnd_any s hs y hys _ rfl w)
          go_wp2_with (first
            | (go_at_call 57; refine (hatt.out _).mono ?_; rintro e w1 ⟨rfl, m, hw⟩; subst w1)
            | (go_at_call 56; refine (hgap.out _).mono ?_; rintro e w1 ⟨rfl, hw⟩; subst w1)
            | (go_at_call 24; refine (hhas.out _).mono ?_; rintro e w1 ⟨rfl, hw⟩; subst w1)
            | (go_at_call 55; refine (hend.out _).mono ?_; rintro e w1 ⟨rfl, hw⟩; subst w1))
          go_ret
          refine ⟨ret_int ?_, _, rfl⟩
          rw [HF.out, hd]
          rfl
        · obtain ⟨t, rfl⟩ : ∃ t, y = 47 :: t := by
            cases y with
            | nil => cases hd
            | cons b t =>
              have : b = 47 := by simpa [hdB] using hd
              exact ⟨t, by rw [this]⟩
          have hsu : (pos s (47 :: t) : Int) + 1 = (pos s t : Int) := by rw [hys.succ]; omega
          have hlt := pos_le s (47 :: t)
          have hend := (show Hid _ from fun w => tagEnd_any s hs t hys.tail _ hsu w)
          clear hsu
          go_wp2_with (first
            | (go_at_call 57; refine (hatt.out _).mono ?_; rintro e w1 ⟨rfl, m, hw⟩; subst w1)
            | (go_at_call 56; refine (hgap.out _).mono ?_; rintro e w1 ⟨rfl, hw⟩; subst w1)
            | (go_at_call 24; refine (hhas.out _).mono ?_; rintro e w1 ⟨rfl, hw⟩; subst w1)
            | (go_at_call 55; refine (hend.out _).mono ?_; rintro e w1 ⟨rfl, hw⟩; subst w1))
          go_ret
          refine ⟨ret_int ?_, _, rfl⟩
          rw [HF.out, hd]
          rfl
      · have t1 : ¬ (pos s (attP l') : Int) = (pos s l' : Int) := fun e => he ((has.eq_iff h1.out).1 e)
        have HL := (show Hid _ from attP_lt he)
        have HF := (show Hid _ from (fin_att he).trans h2.out)
        clear he
        go_wp2_with (go_at_call 57; refine (hatt.out _).mono ?_; rintro e w1 ⟨rfl, m, hw⟩; subst w1)
        go_roundw
        case rel => exact ⟨attP l', _, rfl, has, HF.out, rfl⟩
        case measure =>
          have h3 := h1.out.sum
          have h4 := has.sum
          have h5 := HL.out
          simp [intOf]
          omega

set_option maxHeartbeats 2000000 in
/-- Tag, of any text. -/
theorem tag_any (s : ByteArray) (hs : s.size ≤ 9223372036854775000) (w : World) :
    Calls Tryd.prog 14 #[.string s] w fun e w' => e = .returned (.int .i64 (tagN s.data.toList : Int)) ∧ ∃ n, w' = w.drewN n := by
  have h0 : (0 : Int) = (pos s s.data.toList : Int) := by rw [pos_whole]; rfl
  have hhas := (show Hid _ from fun w => has_any s s.data.toList (Suf.whole s) 0 h0 60 60 rfl w)
  have hend : Hid (∀ o, (∀ r, o = some r → Suf s r ∧ r.length ≤ s.data.toList.length) → endN s o = match o with | none => 0 | some r => s.data.toList.length - r.length) := fun o h => by
    cases o with
    | none => rfl
    | some r => show pos s r = _; unfold pos; rw [len_data]
  clear h0
  cases hl : s.data.toList with
  | nil =>
    rw [hl] at hhas
    have hd : hdB [] 60 = false := rfl
    go_enter Tryd.func14, Tryd.ntmps14
    go_wp2_with (go_at_call 24; refine (hhas.out _).mono ?_; rintro e w' ⟨rfl, rfl⟩)
    go_ret
    exact ⟨rfl, 0, rfl⟩
  | cons a l =>
    rw [hl] at hhas
    by_cases ha : a = 60
    · subst ha
      have hd : hdB (60 :: l) 60 = true := rfl
      have h1 : (1 : Int) = (pos s l : Int) := by rw [pos_of (p := [60]) hl]; rfl
      have hsl : Suf s l := ⟨[60], hl⟩
      have hhas1 := (show Hid _ from fun w => has_any s l hsl 1 h1 47 47 rfl w)
      clear h1
      cases h47 : hdB l 47
      · have hop := (show Hid _ from fun w => opening_any s hs 60 l hl w)
        have HT : Hid (tagN (60 :: l) = endN s ((nameL l).bind finL)) := by
          show _ = _
          cases l with
          | nil => rfl
          | cons b t =>
            have hb : b ≠ 47 := by rintro rfl; cases h47
            simp only [tagN, tagL, if_true, if_neg hb]
            cases hn : nameL (b :: t) with
            | none => rfl
            | some r =>
              simp only [Option.bind_some]
              cases hf : finL r with
              | none => rfl
              | some r2 =>
                show _ = pos s r2
                have := congrArg List.length hl
                rw [len_data] at this
                unfold pos
                rw [this]
        clear hl
        go_enter Tryd.func14, Tryd.ntmps14
        go_wp2_with (first
          | (go_at_call_of 24 (Value.int .u8 60); refine (hhas.out _).mono ?_; rintro e w' ⟨rfl, rfl⟩)
          | (go_at_call_of 24 (Value.int .u8 47); refine (hhas1.out _).mono ?_; rintro e w' ⟨rfl, rfl⟩)
          | (go_at_call 33; refine (hop.out _).mono ?_; rintro e w1 ⟨rfl, n, hw⟩; subst w1))
        go_ret
        exact ⟨ret_int (by rw [HT.out]), _, rfl⟩
      · obtain ⟨t, rfl⟩ : ∃ t, l = 47 :: t := by
          cases l with
          | nil => cases h47
          | cons b t =>
            have : b = 47 := by simpa [hdB] using h47
            exact ⟨t, by rw [this]⟩
        have hcl := (show Hid _ from fun w => closing_any s hs 60 47 t hl w)
        have HT : Hid (tagN (60 :: 47 :: t) = endN s ((nameL t).bind fun r => closeL (gapL 0 r))) := by
          show _ = _
          simp only [tagN, tagL, if_true]
          cases hn : nameL t with
          | none => rfl
          | some r =>
            simp only [Option.bind_some]
            cases hf : closeL (gapL 0 r) with
            | none => rfl
            | some r2 =>
              show _ = pos s r2
              have := congrArg List.length hl
              rw [len_data] at this
              unfold pos
              rw [this]
        clear hl
        go_enter Tryd.func14, Tryd.ntmps14
        go_wp2_with (first
          | (go_at_call_of 24 (Value.int .u8 60); refine (hhas.out _).mono ?_; rintro e w' ⟨rfl, rfl⟩)
          | (go_at_call_of 24 (Value.int .u8 47); refine (hhas1.out _).mono ?_; rintro e w' ⟨rfl, rfl⟩)
          | (go_at_call 32; refine (hcl.out _).mono ?_; rintro e w1 ⟨rfl, hw⟩; subst w1))
        go_ret
        exact ⟨ret_int (by rw [HT.out]), 0, rfl⟩
    · have hd : hdB (a :: l) 60 = false := by simpa [hdB] using ha
      have HT : Hid (tagN (a :: l) = 0) := by
        show _ = _
        cases l with
        | nil => rfl
        | cons b t => simp [tagN, tagL, ha]
      clear hl
      go_enter Tryd.func14, Tryd.ntmps14
      go_wp2_with (go_at_call 24; refine (hhas.out _).mono ?_; rintro e w' ⟨rfl, rfl⟩)
      go_ret
      exact ⟨ret_int (by rw [HT.out]; rfl), 0, rfl⟩

end Go.Proofs.YtegjpfhpkkffiaaDoor
