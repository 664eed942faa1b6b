/- Several texts in one. -/
import Derived.Test.YtcbojffcnlkejaaGreatDoorG31
import Derived.Test.YtcbojffcnlkejaaGreatDoorPlainHtml
set_option linter.unusedVariables false
/- Package leaf: names of tags, exactly; walked. -/
namespace Go.Proofs.YtcbojffcnlkejaaGreatDoor
open Go.RowKit

theorem bytes_list (s : ByteArray) : s.toList = s.data.toList := by
  exact ByteArray.toList_eq s

theorem ltext_is (s : ByteArray) (w : World) :
    Calls Tryz.prog 104 #[.string s] w fun e w' => e = .returned (.bool (textN s.data.toList)) ∧ w' = w := by
  rw [← bytes_list]
  have hN : textN s.toList = (s.toList == [115, 99, 114, 105, 112, 116] || (s.toList == [112, 114, 101] || (s.toList == [115, 116, 121, 108, 101] || (s.toList == [116, 101, 120, 116, 97, 114, 101, 97] || false)))) := by
    simp only [textN, textNs, List.contains_cons, List.contains_nil]
  rw [hN]
  clear hN
  go_enter Tryz.func104, Tryz.ntmps104
  go_wp2
  all_goals
    go_ret
    exact ⟨ret_bool (by simp_all), rfl⟩

set_option maxHeartbeats 4000000 in
set_option maxRecDepth 8000 in
theorem lblock_is (s : ByteArray) (w : World) :
    Calls Tryz.prog 106 #[.string s] w fun e w' => e = .returned (.bool (blockN s.data.toList)) ∧ w' = w := by
  rw [← bytes_list]
  have HN : Hid (blockN s.toList = blockNs.contains s.toList) := rfl
  generalize blockN s.toList = B at *
  go_enter Tryz.func106, Tryz.ntmps106
  go_wp2
  all_goals
    go_ret
    first
      | (exfalso; rename_i a b; exact Bool.noConfusion (a.symm.trans b))
      | exact ⟨ret_bool (by rw [HN.out]; simp only [blockNs, List.contains_cons, List.contains_nil, *, Bool.false_or, Bool.true_or, Bool.or_true]), rfl⟩

theorem lname_of (s : ByteArray) (hs : s.size ≤ 140737488351232) : ∃ N R : ByteArray, N.data.toList = tagNm s.data.toList ∧ R.data.toList = tagRt s.data.toList ∧ ∀ w, Calls Tryz.prog 103 #[.string s] w fun e w' => e = .returned (.tuple #[.string N, .string R]) ∧ Below w.heap.size w w' :=
  ⟨_, _, rfl, rfl, fun w => ltagName_any s hs w⟩

theorem head_gt (R : ByteArray) (hp : partedL R.data.toList = false) (h : 0 < R.size) (h0 : R[0]'h = R.data.toList.headD 0) : ((R[0]'h).toNat : Int) = 62 ∨ ((((R[0]'h).toNat : Int) == 62) = false) := by
  rcases Decidable.em (((R[0]'h).toNat : Int) = 62) with q | q
  · exact .inl q
  · exact .inr (by simpa using q)
theorem head_is (R : ByteArray) (h : 0 < R.size) (h0 : R[0]'h = R.data.toList.headD 0) : (R.data.toList.head? == some 62) = (((R[0]'h).toNat : Int) == 62) := by
  cases hl : R.data.toList with
  | nil => rw [← len_data, hl] at h; simp at h
  | cons b t =>
    rw [hl] at h0
    rw [h0]
    show (some b == some 62) = ((b.toNat : Int) == 62)
    rw [Bool.eq_iff_iff]
    simp only [beq_iff_eq, Option.some.injEq]
    constructor
    · intro e; subst e; rfl
    · intro e
      exact UInt8.toNat_inj.1 (by show b.toNat = 62; omega)

theorem ext_list (s : ByteArray) (k : Nat) : (s.extract k s.size).data.toList = s.data.toList.drop k := by rw [extract_end]

set_option maxHeartbeats 2000000 in
theorem lbeginsText_is (s : ByteArray) (hs : s.size ≤ 140737488351232) (hz : 1 ≤ s.size) (w : World) :
    Calls Tryz.prog 72 #[.string s] w fun e w' => e = .returned (.bool (beginsTextL s.data.toList)) ∧ Below w.heap.size w w' := by
  have hz1 : (1 : Int) ≤ (s.size : Int) := by omega
  obtain ⟨N, R, hN, hR', HT⟩ := lname_of (s.extract 1 s.size) (by have := ext_size s 1; omega)
  rw [ext_list] at hN hR'
  have HT := (show Hid _ from HT)
  have HP := (show Hid _ from fun w => lparted_any R w)
  have HX := (show Hid _ from fun w => ltext_is N w)
  have HQ : Hid (beginsTextL s.data.toList = (textN N.data.toList && (partedL R.data.toList || R.data.toList.head? == some 62))) := by
    show _ = _
    unfold beginsTextL
    rw [← hN, ← hR']
  generalize beginsTextL s.data.toList = Q at *
  clear hN hR'
  cases hx : textN N.data.toList
  · rw [hx] at HX HQ
    go_enter Tryz.func72, Tryz.ntmps72
    go_wp2_with (first
      | (go_at_call 103; refine (HT.out _).mono ?_; rintro e w1 ⟨rfl, hb1⟩)
      | (go_at_call 104; refine (HX.out _).mono ?_; rintro e w2 ⟨rfl, hw⟩; subst w2))
    go_ret
    exact ⟨ret_bool (by rw [HQ.out]; rfl), hb1⟩
  · rw [hx] at HX HQ
    rcases first_of R with h | ⟨h, hR, hR0⟩
    · rw [h] at HP HQ
      clear h
      go_enter Tryz.func72, Tryz.ntmps72
      go_wp2_with (first
        | (go_at_call 103; refine (HT.out _).mono ?_; rintro e w1 ⟨rfl, hb1⟩)
        | (go_at_call 104; refine (HX.out _).mono ?_; rintro e w2 ⟨rfl, hw⟩; subst w2)
        | (go_at_call 65; refine (HP.out _).mono ?_; rintro e w2 ⟨rfl, hw⟩; subst w2))
      go_ret
      exact ⟨ret_bool (by rw [HQ.out]; rfl), hb1⟩
    · have hh := head_is R hR hR0
      rw [hh, h] at HQ
      rw [h] at HP
      clear h hR0 hh
      have hRi : (0 : Int) < (R.size : Int) := by omega
      cases h62 : (((R[0]'hR).toNat : Int) == 62)
      all_goals
        rw [h62] at HQ
        go_enter Tryz.func72, Tryz.ntmps72
        go_wp2_with (first
          | (go_at_call 103; refine (HT.out _).mono ?_; rintro e w1 ⟨rfl, hb1⟩)
          | (go_at_call 104; refine (HX.out _).mono ?_; rintro e w2 ⟨rfl, hw⟩; subst w2)
          | (go_at_call 65; refine (HP.out _).mono ?_; rintro e w2 ⟨rfl, hw⟩; subst w2))
        go_ret
        exact ⟨ret_bool (by rw [HQ.out]; simp), hb1⟩

end Go.Proofs.YtcbojffcnlkejaaGreatDoor

/- Package leaf: HTML, exactly; walked. -/
namespace Go.Proofs.YtcbojffcnlkejaaGreatDoor
open Go.RowKit

theorem trim_sl (l : List UInt8) : Lib.trimPrefix l [47] = unSl l := by
  unfold Lib.trimPrefix
  cases l with
  | nil => rfl
  | cons b t =>
    by_cases hb : b = 47
    · subst hb; rfl
    · have h1 : ([47] : List UInt8).isPrefixOf (b :: t) = false := by
        simp [List.isPrefixOf]
        exact fun e => hb e.symm
      rw [show Lib.hasPrefix (b :: t) [47] = false from h1, if_neg (by decide)]
      unfold unSl
      split
      · rename_i e
        cases e
        exact absurd rfl hb
      · rfl

theorem unSl_len (l : List UInt8) : (unSl l).length ≤ l.length := by
  unfold unSl
  split
  · simp
  · exact Nat.le_refl _

theorem ltrimSl_of (s : ByteArray) : ∃ T : ByteArray, T.size ≤ s.size ∧ T.data.toList = unSl s.data.toList ∧ ∀ w, Calls Tryz.prog 105 #[.string s, .string ⟨#[47]⟩] w fun e w' => e = .returned (.string T) ∧ w' = w := by
  refine ⟨⟨(Lib.trimPrefix s.data.toList [47]).toArray⟩, ?_, ?_, fun w => Tryz.strings_TrimPrefix s ⟨#[47]⟩ w⟩
  · rw [size_list, ← len_data s]; exact trimPre_size _ _
  · exact trim_sl _

set_option maxHeartbeats 4000000 in
theorem lbeginsBlock_is (s : ByteArray) (hs : s.size ≤ 140737488351232) (hz : 1 ≤ s.size) (w : World) :
    Calls Tryz.prog 74 #[.string s] w fun e w' => e = .returned (.bool (beginsBlockL s.data.toList)) ∧ Below w.heap.size w w' := by
  have hz1 : (1 : Int) ≤ (s.size : Int) := by omega
  obtain ⟨T, hTs, hTl, HTP⟩ := ltrimSl_of (s.extract 1 s.size)
  rw [ext_list] at hTl
  obtain ⟨N, R, hN, hR', HT⟩ := lname_of T (by have := ext_size s 1; omega)
  rw [hTl] at hN hR'
  have HTP := (show Hid _ from HTP)
  have HT := (show Hid _ from HT)
  have HP := (show Hid _ from fun w => lparted_any R w)
  have HX := (show Hid _ from fun w => lblock_is N w)
  have HF : Hid (∀ w, Calls Tryz.prog 71 #[.string R, .string ⟨#[47, 62]⟩] w fun e w' => e = .returned (.bool (([47, 62] : List UInt8).isPrefixOf R.data.toList)) ∧ w' = w) := fun w => lpre_any R ⟨#[47, 62]⟩ _ rfl w
  have HQ : Hid (beginsBlockL s.data.toList = (blockN N.data.toList && (partedL R.data.toList || R.data.toList.head? == some 62 || ([47, 62] : List UInt8).isPrefixOf R.data.toList))) := by
    show _ = _
    unfold beginsBlockL
    rw [← hN, ← hR']
  generalize beginsBlockL s.data.toList = Q at *
  clear hN hR' hTl
  cases hx : blockN N.data.toList
  · rw [hx] at HX HQ
    go_enter Tryz.func74, Tryz.ntmps74
    go_wp2_with (first
      | (go_at_call 105; refine (HTP.out _).mono ?_; rintro e w2 ⟨rfl, hw⟩; subst w2)
      | (go_at_call 103; refine (HT.out _).mono ?_; rintro e w1 ⟨rfl, hb1⟩)
      | (go_at_call 106; refine (HX.out _).mono ?_; rintro e w2 ⟨rfl, hw⟩; subst w2))
    go_ret
    exact ⟨ret_bool (by rw [HQ.out]; rfl), hb1⟩
  · rw [hx] at HX HQ
    rcases first_of R with h | ⟨h, hR, hR0⟩
    · rw [h] at HP HQ
      clear h
      go_enter Tryz.func74, Tryz.ntmps74
      go_wp2_with (first
        | (go_at_call 105; refine (HTP.out _).mono ?_; rintro e w2 ⟨rfl, hw⟩; subst w2)
        | (go_at_call 103; refine (HT.out _).mono ?_; rintro e w1 ⟨rfl, hb1⟩)
        | (go_at_call 106; refine (HX.out _).mono ?_; rintro e w2 ⟨rfl, hw⟩; subst w2)
        | (go_at_call 65; refine (HP.out _).mono ?_; rintro e w2 ⟨rfl, hw⟩; subst w2))
      go_ret
      exact ⟨ret_bool (by rw [HQ.out]; rfl), hb1⟩
    · have hh := head_is R hR hR0
      rw [hh, h] at HQ
      rw [h] at HP
      clear h hR0 hh
      have hRi : (0 : Int) < (R.size : Int) := by omega
      generalize ([47, 62] : List UInt8).isPrefixOf R.data.toList = pf at *
      cases h62 : (((R[0]'hR).toNat : Int) == 62)
      all_goals
        rw [h62] at HQ
        go_enter Tryz.func74, Tryz.ntmps74
        go_wp2_with (first
          | (go_at_call 105; refine (HTP.out _).mono ?_; rintro e w2 ⟨rfl, hw⟩; subst w2)
          | (go_at_call 103; refine (HT.out _).mono ?_; rintro e w1 ⟨rfl, hb1⟩)
          | (go_at_call 106; refine (HX.out _).mono ?_; rintro e w2 ⟨rfl, hw⟩; subst w2)
          | (go_at_call 65; refine (HP.out _).mono ?_; rintro e w2 ⟨rfl, hw⟩; subst w2)
          | (go_at_call 71; refine (HF.out _).mono ?_; rintro e w2 ⟨rfl, hw⟩; subst w2))
        go_ret
        exact ⟨ret_bool (by rw [HQ.out]; simp), hb1⟩

set_option maxHeartbeats 2000000 in
theorem ltagAlone_is (s : ByteArray) (hs : s.size ≤ 140737488351232) (hz : 1 ≤ s.size) (w : World) :
    Calls Tryz.prog 75 #[.string s] w fun e w' => e = .returned (.bool (tagAloneL s.data.toList)) ∧ Below w.heap.size w w' := by
  have hz1 : (1 : Int) ≤ (s.size : Int) := by omega
  obtain ⟨T, hTs, hTl, HTP⟩ := ltrimSl_of (s.extract 1 s.size)
  rw [ext_list] at hTl
  obtain ⟨N, R, hN, hR', HT⟩ := lname_of T (by have := ext_size s 1; omega)
  rw [hTl] at hN
  have HTP := (show Hid _ from HTP)
  have HT := (show Hid _ from HT)
  have HX := (show Hid _ from fun w => ltext_is N w)
  have HTag := (show Hid _ from fun w => tag_any s (by omega) w)
  have hkl : tagN s.data.toList ≤ s.size := by have := tagN_le s.data.toList; rwa [len_data] at this
  have HG := (show Hid _ from fun w => lgap_any (s.extract (tagN s.data.toList) s.size) (by have := ext_size s (tagN s.data.toList); omega) w)
  have HQ : Hid (tagAloneL s.data.toList = (tagN s.data.toList != 0 && (s.extract (tagN s.data.toList) s.size).data.toList.all gapB && !textN N.data.toList)) := by
    show _ = _
    unfold tagAloneL
    rw [← hN, ext_list]
  generalize tagAloneL s.data.toList = Q at *
  clear hN hR' hTl
  generalize tagN s.data.toList = k at *
  generalize (s.extract k s.size).data.toList.all gapB = g at *
  by_cases hk : k = 0
  · subst hk
    go_enter Tryz.func75, Tryz.ntmps75
    go_wp2_with (go_at_call 107; refine (HTag.out _).mono ?_; rintro e w1 ⟨rfl, n, hw⟩; subst w1)
    go_ret
    exact ⟨ret_bool (by rw [HQ.out]; rfl), (Below.refl _ _).trans ⟨rfl, rfl, rfl, Nat.le_refl _, fun k hk => rfl⟩⟩
  · have q : ¬ (k : Int) = 0 := by omega
    have hk0 : (k != 0) = true := by simpa using hk
    rw [hk0] at HQ
    generalize textN N.data.toList = tn at *
    cases g
    all_goals
      go_enter Tryz.func75, Tryz.ntmps75
      go_wp2_with (first
        | (go_at_call 107; refine (HTag.out _).mono ?_; rintro e w1 ⟨rfl, n, hw⟩; subst w1)
        | (go_at_call 108; refine (HG.out _).mono ?_; rintro e w2 ⟨rfl, hb2⟩)
        | (go_at_call 105; refine (HTP.out _).mono ?_; rintro e w3 ⟨rfl, hw⟩; subst w3)
        | (go_at_call 103; refine (HT.out _).mono ?_; rintro e w4 ⟨rfl, hb4⟩)
        | (go_at_call 104; refine (HX.out _).mono ?_; rintro e w5 ⟨rfl, hw⟩; subst w5))
    · go_ret
      exact ⟨ret_bool (by rw [HQ.out]; rfl), (below_drewN (Below.refl _ _) n).trans hb2⟩
    · go_ret
      exact ⟨ret_bool (by rw [HQ.out]; simp), below_next ((below_drewN (Below.refl _ _) n).trans hb2) hb4⟩

theorem third_yes (s : ByteArray) (h : 2 < s.size) : (s.data.toList.drop 2).head?.any letterB = letN (s[2]'h).toNat := by
  have h' : 2 < s.data.toList.length := by rw [len_data]; exact h
  rw [List.drop_eq_getElem_cons h']
  rfl
theorem third_no (s : ByteArray) (h : ¬ 2 < s.size) : (s.data.toList.drop 2).head?.any letterB = false := by
  rw [List.drop_eq_nil_of_le (by rw [len_data]; omega)]
  rfl

theorem ret_nat {k : Nat} {z : Int} (h : z = (k : Int)) : Ending.returned (.int .i64 z) = .returned (.int .i64 (k : Int)) := by rw [h]

set_option maxHeartbeats 8000000 in
theorem lhtml_is (s : ByteArray) (hs : s.size ≤ 140737488351232) (w : World) :
    Calls Tryz.prog 45 #[.string s] w fun e w' => e = .returned (.int .i64 (htmlL s.data.toList : Int)) ∧ Below w.heap.size w w' := by
  cases h60 : ([60] : List UInt8).isPrefixOf s.data.toList
  · have HP := (show Hid _ from fun w => lpre_any s ⟨#[60]⟩ false h60 w)
    have HQ : Hid (htmlL s.data.toList = 0) := by
      show _ = _
      unfold htmlL
      rw [if_pos h60]
    generalize htmlL s.data.toList = Q at *
    clear h60
    go_enter Tryz.func45, Tryz.ntmps45
    go_wp2_with (go_at_call 71; refine (HP.out _).mono ?_; rintro e w2 ⟨rfl, hw⟩; subst w2)
    go_ret
    exact ⟨ret_nat (by rw [HQ.out]; rfl), Below.refl _ _⟩
  · have HP := (show Hid _ from fun w => lpre_any s ⟨#[60]⟩ true h60 w)
    have hz : 1 ≤ s.size := by
      cases hl : s.data.toList with
      | nil => rw [hl] at h60; cases h60
      | cons b t => rw [← len_data, hl]; simp
    have H1 := (show Hid _ from fun w => lbeginsText_is s hs hz w)
    have H6 := (show Hid _ from fun w => lbeginsBlock_is s hs hz w)
    have H7 := (show Hid _ from fun w => ltagAlone_is s hs hz w)
    have H2 : Hid (∀ w, Calls Tryz.prog 71 #[.string s, .string ⟨#[60, 33, 45, 45]⟩] w fun e w' => e = .returned (.bool (([60, 33, 45, 45] : List UInt8).isPrefixOf s.data.toList)) ∧ w' = w) := fun w => lpre_any s ⟨#[60, 33, 45, 45]⟩ _ rfl w
    have H3 : Hid (∀ w, Calls Tryz.prog 71 #[.string s, .string ⟨#[60, 63]⟩] w fun e w' => e = .returned (.bool (([60, 63] : List UInt8).isPrefixOf s.data.toList)) ∧ w' = w) := fun w => lpre_any s ⟨#[60, 63]⟩ _ rfl w
    have H4 : Hid (∀ w, Calls Tryz.prog 71 #[.string s, .string ⟨#[60, 33]⟩] w fun e w' => e = .returned (.bool (([60, 33] : List UInt8).isPrefixOf s.data.toList)) ∧ w' = w) := fun w => lpre_any s ⟨#[60, 33]⟩ _ rfl w
    have H5 : Hid (∀ w, Calls Tryz.prog 71 #[.string s, .string ⟨#[60, 33, 91, 67, 68, 65, 84, 65, 91]⟩] w fun e w' => e = .returned (.bool (([60, 33, 91, 67, 68, 65, 84, 65, 91] : List UInt8).isPrefixOf s.data.toList)) ∧ w' = w) := fun w => lpre_any s ⟨#[60, 33, 91, 67, 68, 65, 84, 65, 91]⟩ _ rfl w
    have HQ : Hid (htmlL s.data.toList = if beginsTextL s.data.toList then 1 else if ([60, 33, 45, 45] : List UInt8).isPrefixOf s.data.toList then 2 else if ([60, 63] : List UInt8).isPrefixOf s.data.toList then 3
      else if ([60, 33] : List UInt8).isPrefixOf s.data.toList && (s.data.toList.drop 2).head?.any letterB then 4 else if ([60, 33, 91, 67, 68, 65, 84, 65, 91] : List UInt8).isPrefixOf s.data.toList then 5
      else if beginsBlockL s.data.toList then 6 else if tagAloneL s.data.toList then 7 else 0) := by
      show _ = _
      unfold htmlL
      rw [if_neg (by rw [h60]; decide)]
    have hth : (∃ h : 2 < s.size, (2 : Int) < (s.size : Int) ∧ (s.data.toList.drop 2).head?.any letterB = letN (s[2]'h).toNat) ∨ (¬ (2 : Int) < (s.size : Int) ∧ (s.data.toList.drop 2).head?.any letterB = false) := by
      by_cases h : 2 < s.size
      · exact .inl ⟨h, by omega, third_yes s h⟩
      · exact .inr ⟨by omega, third_no s h⟩
    generalize htmlL s.data.toList = Q at *
    generalize beginsTextL s.data.toList = b1 at *
    generalize beginsBlockL s.data.toList = b6 at *
    generalize tagAloneL s.data.toList = b7 at *
    generalize (s.data.toList.drop 2).head?.any letterB = bl at *
    generalize ([60, 33, 45, 45] : List UInt8).isPrefixOf s.data.toList = b2 at *
    generalize ([60, 63] : List UInt8).isPrefixOf s.data.toList = b3 at *
    generalize ([60, 33] : List UInt8).isPrefixOf s.data.toList = b4 at *
    generalize ([60, 33, 91, 67, 68, 65, 84, 65, 91] : List UInt8).isPrefixOf s.data.toList = b5 at *
    clear h60
    rcases hth with ⟨h2, h2i, hbl⟩ | ⟨h2i, hbl⟩
    all_goals
      have HBL := (show Hid _ from hbl)
      clear hbl
      go_enter Tryz.func45, Tryz.ntmps45
      go_wp2_with (first
        | (go_at_call_of 71 (Value.string ⟨#[60]⟩); refine (HP.out _).mono ?_; rintro e w2 ⟨rfl, hw⟩; subst w2)
        | (go_at_call_of 71 (Value.string ⟨#[60, 33, 45, 45]⟩); refine (H2.out _).mono ?_; rintro e w2 ⟨rfl, hw⟩; subst w2; cases b2)
        | (go_at_call_of 71 (Value.string ⟨#[60, 63]⟩); refine (H3.out _).mono ?_; rintro e w2 ⟨rfl, hw⟩; subst w2; cases b3)
        | (go_at_call_of 71 (Value.string ⟨#[60, 33]⟩); refine (H4.out _).mono ?_; rintro e w2 ⟨rfl, hw⟩; subst w2; cases b4)
        | (go_at_call_of 71 (Value.string ⟨#[60, 33, 91, 67, 68, 65, 84, 65, 91]⟩); refine (H5.out _).mono ?_; rintro e w2 ⟨rfl, hw⟩; subst w2; cases b5)
        | (go_at_call 72; refine (H1.out _).mono ?_; rintro e w1 ⟨rfl, hb1⟩; cases b1)
        | (go_at_call 73; refine (lletter_any _ _).mono ?_; rintro e w2 ⟨rfl, hw⟩; subst w2; rw [← HBL.out]; cases bl)
        | (go_at_call 74; refine (H6.out _).mono ?_; rintro e w6 ⟨rfl, hb6⟩; cases b6)
        | (go_at_call 75; refine (H7.out _).mono ?_; rintro e w7 ⟨rfl, hb7⟩; cases b7))
      all_goals
        go_ret
        refine ⟨ret_nat (by rw [HQ.out]; first | rfl | (rw [HBL.out]; rfl)), ?_⟩
        first
          | exact below_next (below_next hb1 hb6) hb7
          | exact below_next hb1 hb6
          | exact hb1

end Go.Proofs.YtcbojffcnlkejaaGreatDoor
