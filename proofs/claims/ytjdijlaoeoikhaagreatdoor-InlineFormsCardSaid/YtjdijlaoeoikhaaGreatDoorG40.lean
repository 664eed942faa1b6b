/- Several texts in one. -/
import Derived.Test.YtjdijlaoeoikhaaGreatDoorSRaw
import Derived.Lib.ReplaceLaws
import Derived.Lib.TrimByte
import Derived.Below
set_option linter.unusedVariables false
/- Code in package span: accents, codeText, Code. -/
namespace Go.Proofs.YtjdijlaoeoikhaaGreatDoor
open Go.RowKit

/-! ### Over lists -/

def feed (b : UInt8) : UInt8 := if b = 10 then 32 else b

theorem idx_ne {b : UInt8} (h : b ≠ 10) (t : List UInt8) : Lib.index (b :: t) [10] = if Lib.index t [10] == -1 then -1 else Lib.index t [10] + 1 := by
  rw [show Lib.index (b :: t) [10] = if List.isPrefixOf [10] (b :: t) then 0 else if Lib.index t [10] == -1 then -1 else Lib.index t [10] + 1 from rfl, if_neg]
  simp [List.isPrefixOf]; exact fun e => h e.symm
theorem idx_eq (t : List UInt8) : Lib.index (10 :: t) [10] = 0 := by
  rw [show Lib.index (10 :: t) [10] = if List.isPrefixOf [10] (10 :: t) then 0 else if Lib.index t [10] == -1 then -1 else Lib.index t [10] + 1 from rfl, if_pos]
  simp [List.isPrefixOf]

theorem rep_ne {b : UInt8} (h : b ≠ 10) (t : List UInt8) (k : Nat) : Lib.replaceK [10] [32] k (b :: t) = b :: Lib.replaceK [10] [32] k t := by
  cases k with
  | zero => rfl
  | succ k =>
    have hge := Lib.index_ge t [10]
    simp only [Lib.replaceK]
    rw [idx_ne h]
    by_cases hi : Lib.index t [10] = -1
    · rw [hi]; rfl
    · have h1 : (Lib.index t [10] == -1) = false := by rw [beq_eq_false_iff_ne]; exact hi
      rw [h1]
      have h2 : ((Lib.index t [10] + 1) == -1) = false := by rw [beq_eq_false_iff_ne]; omega
      simp only [Bool.false_eq_true, if_false, h2]
      rw [show (Lib.index t [10] + 1).toNat = (Lib.index t [10]).toNat + 1 by omega, List.take_succ_cons, List.length_singleton, List.drop_succ_cons]
      rfl

theorem rep_map : ∀ (l : List UInt8) (k : Nat), l.count 10 ≤ k → Lib.replaceK [10] [32] k l = l.map feed
  | [], k, _ => by
    cases k with
    | zero => rfl
    | succ k => rfl
  | b :: t, k, h => by
    by_cases hb : b = 10
    · subst hb
      rw [List.count_cons_self] at h
      match k with
      | 0 => omega
      | k + 1 =>
        simp only [Lib.replaceK]
        rw [idx_eq]
        show _ ++ Lib.replaceK [10] [32] k t = _
        rw [rep_map t k (by omega)]
        rfl
    · rw [rep_ne hb, rep_map t k (by rw [List.count_cons_of_ne hb] at h; exact h)]
      simp [feed, hb]

theorem rep_all (l : List UInt8) : Lib.replaceAll l [10] [32] = l.map feed := by
  unfold Lib.replaceAll Lib.replace
  rw [if_neg (by decide)]
  unfold Lib.replaceNum
  rw [if_pos (.inl (by decide)), Lib.count_one]
  exact rep_map l _ (Nat.le_refl _)

theorem dw_nil (p : UInt8 → Bool) : ∀ l : List UInt8, (l.dropWhile p).isEmpty = l.all p
  | [] => rfl
  | b :: t => by
    rw [List.dropWhile_cons, List.all_cons]
    cases h : p b
    · rfl
    · simp [dw_nil p t]

theorem all_of_dw (p : UInt8 → Bool) (l : List UInt8) (h : l.all p = true) : l.dropWhile p = [] := by
  have := dw_nil p l
  rw [h] at this
  simpa using this

theorem trim_empty (l : List UInt8) : (Lib.trimB l 32).isEmpty = l.all (· == 32) := by
  unfold Lib.trimB Lib.trimLeftB Lib.trimRightB
  rw [dw_nil, List.all_reverse]
  cases h : l.all (· == 32)
  · by_cases hr : (l.reverse.dropWhile (· == 32)).all (· == 32) = true
    · exfalso
      have h2 : (l.reverse.takeWhile (· == 32)).all (· == 32) = true := by
        rw [List.all_eq_true]
        intro x hx
        exact tw_mem (· == 32) _ x hx
      have h3 := List.takeWhile_append_dropWhile (p := (· == (32 : UInt8))) (l := l.reverse)
      have h4 : l.reverse.all (· == 32) = true := by rw [← h3, List.all_append, h2, hr]; rfl
      rw [List.all_reverse, h] at h4
      cases h4
    · simpa using hr
  · rw [all_of_dw _ _ (by rw [List.all_reverse]; exact h)]
    rfl

theorem inner_cut (l : List UInt8) (h1 : [32].isPrefixOf (l.map feed) = true) (h2 : [32].isSuffixOf (l.map feed) = true) (h3 : (l.map feed).all (· == 32) = false) : innerL l = ((l.map feed).drop 1).dropLast ∧ 1 < (l.map feed).length := by
  have e : innerL l = if 1 < (l.map feed).length ∧ (l.map feed).all (· == 32) = false ∧ (l.map feed).head? = some 32 ∧ (l.map feed).getLast? = some 32 then ((l.map feed).drop 1).dropLast else l.map feed := rfl
  obtain ⟨t, ht⟩ := List.isPrefixOf_iff_prefix.1 h1
  obtain ⟨u, hu⟩ := List.isSuffixOf_iff_suffix.1 h2
  rw [e]
  generalize l.map feed = m at *
  have hlen : 1 < m.length := by
    rw [← ht]
    cases t with
    | nil => rw [← ht] at h3; cases h3
    | cons b t => simp
  rw [if_pos]
  · exact ⟨rfl, hlen⟩
  · refine ⟨hlen, h3, by rw [← ht]; rfl, ?_⟩
    rw [← hu]
    simp

theorem inner_keep (l : List UInt8) (h : [32].isPrefixOf (l.map feed) = false ∨ [32].isSuffixOf (l.map feed) = false ∨ (l.map feed).all (· == 32) = true) : innerL l = l.map feed := by
  have e : innerL l = if 1 < (l.map feed).length ∧ (l.map feed).all (· == 32) = false ∧ (l.map feed).head? = some 32 ∧ (l.map feed).getLast? = some 32 then ((l.map feed).drop 1).dropLast else l.map feed := rfl
  rw [e, if_neg]
  generalize l.map feed = m at *
  rintro ⟨h1, h2, h3, h4⟩
  rcases h with h | h | h
  · cases m with
    | nil => cases h3
    | cons b t =>
      have : b = 32 := by simpa using h3
      subst this
      simp [List.isPrefixOf] at h
  · have hne : m ≠ [] := by rintro rfl; cases h3
    have h5 := List.getLast?_eq_some_getLast hne
    rw [h4] at h5
    have h6 := List.dropLast_concat_getLast hne
    rw [← Option.some.inj h5] at h6
    have : [32].isSuffixOf m = true := List.isSuffixOf_iff_suffix.2 ⟨m.dropLast, h6⟩
    rw [this] at h; cases h
  · rw [h] at h2; cases h2

/-! ### Runs -/

theorem run_le : ∀ l : List UInt8, runL l ≤ l.length
  | [] => Nat.le_refl _
  | b :: t => by
    simp only [runL]
    split
    · have := run_le t; simp; omega
    · omega
theorem run_dw : ∀ l : List UInt8, l.dropWhile (· == 96) = l.drop (runL l)
  | [] => rfl
  | b :: t => by
    simp only [runL]
    rw [List.dropWhile_cons]
    by_cases h : b = 96
    · rw [if_pos h, if_pos (by simpa using h), run_dw t]; rfl
    · rw [if_neg h, if_neg (by simpa using h)]; rfl

theorem scan_run (k : Nat) : ∀ (l : List UInt8) (r : Nat), scanC k r l = if r + runL l = k then some (runL l) else match l.drop (runL l) with | [] => none | b :: t => (scanC k 0 t).map (· + (runL l + 1))
  | [], r => by simp [scanC, runL]
  | b :: t, r => by
    by_cases hb : b = 96
    · subst hb
      simp only [scanC, runL, if_true]
      rw [scan_run k t (r + 1), show r + (runL t + 1) = r + 1 + runL t by omega]
      split
      · rfl
      · rw [List.drop_succ_cons]
        cases hd : t.drop (runL t) with
        | nil => rfl
        | cons c u =>
          simp only [Option.map_map]
          congr 1
    · simp only [scanC, runL, if_neg hb, Nat.add_zero]
      split
      · rfl
      · rfl

theorem scan_step (k : Nat) (hk : 0 < k) (l : List UInt8) : scanC k 0 l = if runL l = k then some k else if l = [] then none else (scanC k 0 (l.drop (max (runL l) 1))).map (· + max (runL l) 1) := by
  rw [scan_run]
  by_cases h : runL l = k
  · rw [if_pos (by omega), if_pos h, h]
  · rw [if_neg (by omega), if_neg h]
    cases l with
    | nil => simp [runL]
    | cons b t =>
      rw [if_neg (by simp)]
      by_cases hb : b = 96
      · subst hb
        have hr : runL (96 :: t) = runL t + 1 := by simp [runL]
        rw [hr, show max (runL t + 1) 1 = runL t + 1 by omega, List.drop_succ_cons]
        cases hd : t.drop (runL t) with
        | nil =>
          show none = (scanC k 0 []).map _
          simp only [scanC]
          rw [if_neg (by omega)]; rfl
        | cons c u =>
          have hc : c ≠ 96 := by
            have := (run_split (96 :: t)).2
            rw [hr, List.drop_succ_cons, hd] at this
            simpa using this
          simp only [scanC, if_neg hc]
          rw [if_neg (by omega), Option.map_map]
          congr 1
          funext x
          simp only [Function.comp_apply]
          omega
      · have hr : runL (b :: t) = 0 := by simp [runL, hb]
        rw [hr]
        rfl

end Go.Proofs.YtjdijlaoeoikhaaGreatDoor

/- Code in package span, walked: accents, codeText, Code. -/
namespace Go.Proofs.YtjdijlaoeoikhaaGreatDoor
open Go.RowKit

theorem ML.below {w w' : World} (h : ML w) (h0 : 0 < w.heap.size) (hb : Below w.heap.size w w') : ML w' := by
  obtain ⟨m, hm⟩ := h
  exact ⟨m, (hb.cell (p := ⟨0, 0, none⟩) h0).trans hm⟩
theorem ML.pos {w : World} (h : ML w) : 0 < w.heap.size := by
  obtain ⟨m, hm⟩ := h
  rcases Nat.eq_zero_or_pos w.heap.size with h0 | h0
  · exfalso
    have : w.heap[0]? = none := by simp [h0]
    simp [World.cell?, this] at hm
  · exact h0
theorem ML.go {w w' : World} (h : ML w) (hb : Below w.heap.size w w') : ML w' := h.below h.pos hb

theorem accents_any (s : ByteArray) (hs : s.size ≤ 9223372036854775000) (l : List UInt8) (hl : Suf s l) (z : Int) (hz : z = (pos s l : Int)) (w : World) :
    Calls Tryz.prog 46 #[.string s, .int .i64 z] w fun e w' => e = .returned (.int .i64 (runL l : Int)) ∧ w' = w := by
  subst hz
  have hrow := (show Hid _ from fun w => row_any accent_kind s hs l hl w)
  have hle : (pos s (l.dropWhile (· == 96)) : Int) = (pos s l : Int) + (runL l : Int) := by
    have h1 := hl.sum
    have h2 := (hl.dw (· == 96)).sum
    have h3 := run_le l
    rw [run_dw] at h2 ⊢
    rw [List.length_drop] at h2
    omega
  have hb := pos_le s (l.dropWhile (· == 96))
  have HL := (show Hid _ from hle)
  have hlo : (pos s l : Int) ≤ (pos s (l.dropWhile (· == 96)) : Int) := by omega
  clear hle
  go_enter Tryz.func46, Tryz.ntmps46
  go_wp2_with (go_at_call 73; refine (hrow.out _).mono ?_; rintro e w' ⟨rfl, rfl⟩)
  go_ret
  exact ⟨ret_int (by have := HL.out; omega), rfl⟩

set_option maxHeartbeats 2000000 in
theorem codeText_any (s : ByteArray) (hs : s.size < 4294967281) (w : World) (hm : ML w) :
    Calls Tryz.prog 47 #[.string s] w fun e w' => e = .returned (.string ⟨(innerL s.data.toList).toArray⟩) ∧ Below w.heap.size w w' := by
  obtain ⟨M, hM⟩ : ∃ M : ByteArray, M = ⟨(s.data.toList.map feed).toArray⟩ := ⟨_, rfl⟩
  have hMd : M.data.toList = s.data.toList.map feed := by rw [hM]
  have hMs : M.size = s.size := by rw [← len_data M, hMd, List.length_map, len_data]
  have HR : Hid (Calls Tryz.prog 75 #[.string s, .string ⟨#[10]⟩, .string ⟨#[32]⟩] w fun e w' => e = .returned (.string M) ∧ Below w.heap.size w w') := by
    obtain ⟨m, hm⟩ := hm
    have hc := Lib.countB_le ⟨#[10]⟩ (by decide) s.size s (Nat.le_refl _)
    have := Tryz.strings_ReplaceAll s ⟨#[10]⟩ ⟨#[32]⟩ m w hs hm (by decide) (by
      have h1 : (ByteArray.mk #[32]).size = 1 := rfl
      rw [h1, Nat.mul_one]
      omega)
    rw [show Lib.replaceAll s.data.toList (ByteArray.mk #[10]).data.toList (ByteArray.mk #[32]).data.toList = s.data.toList.map feed from rep_all _, ← hM] at this
    exact this
  obtain ⟨p, hp⟩ : ∃ b, [32].isPrefixOf (s.data.toList.map feed) = b := ⟨_, rfl⟩
  obtain ⟨q, hq⟩ : ∃ b, [32].isSuffixOf (s.data.toList.map feed) = b := ⟨_, rfl⟩
  obtain ⟨x, hx⟩ : ∃ x : ByteArray, x = ⟨(Lib.trimB M.data.toList 32).toArray⟩ := ⟨_, rfl⟩
  have hxl : x.toList = Lib.trimB M.data.toList 32 := by rw [ByteArray.toList_eq, hx]
  have hxe : x.toList.isEmpty = (s.data.toList.map feed).all (· == 32) := by rw [hxl, hMd]; exact trim_empty _
  have HP := (show Hid _ from fun w => pre_any M ⟨#[32]⟩ p (by rw [hMd]; exact hp) w)
  have HQ : Hid (∀ w, Calls Tryz.prog 76 #[.string M, .string ⟨#[32]⟩] w fun e w' => e = .returned (.bool q) ∧ w' = w) := fun w => by
    refine (Tryz.strings_HasSuffix M ⟨#[32]⟩ w (by omega)).mono ?_
    rintro e w' ⟨rfl, rfl⟩
    exact ⟨ret_bool (by rw [hMd]; exact hq), rfl⟩
  have HT : Hid (∀ w, Calls Tryz.prog 77 #[.string M, .string ⟨#[32]⟩] w fun e w' => e = .returned (.string x) ∧ ∃ n, w' = w.drewN n) := fun w => by
    refine (Tryz.strings_Trim_one M 32 (by decide) w (by omega)).mono ?_
    rintro e w' ⟨rfl, rfl | rfl⟩
    · exact ⟨by rw [hx], 0, rfl⟩
    · exact ⟨by rw [hx], 1, rfl⟩
  clear hx hxl hm
  cases p
  · have HE : Hid (innerL s.data.toList = M.data.toList) := by show _ = _; rw [hMd]; exact inner_keep _ (.inl hp)
    clear hp hq hxe hMd hM
    go_enter Tryz.func47, Tryz.ntmps47
    go_wp2_with (first
      | (go_at_call 75; refine HR.out.mono ?_; rintro e w1 ⟨rfl, hb1⟩)
      | (go_at_call 28; refine (HP.out _).mono ?_; rintro e w2 ⟨rfl, hw⟩; subst w2))
    go_ret
    exact ⟨ret_str (by rw [HE.out, mk_data]), hb1⟩
  · cases q
    · have HE : Hid (innerL s.data.toList = M.data.toList) := by show _ = _; rw [hMd]; exact inner_keep _ (.inr (.inl hq))
      clear hp hq hxe hMd hM
      go_enter Tryz.func47, Tryz.ntmps47
      go_wp2_with (first
        | (go_at_call 75; refine HR.out.mono ?_; rintro e w1 ⟨rfl, hb1⟩)
        | (go_at_call 28; refine (HP.out _).mono ?_; rintro e w2 ⟨rfl, hw⟩; subst w2)
        | (go_at_call 76; refine (HQ.out _).mono ?_; rintro e w2 ⟨rfl, hw⟩; subst w2))
      go_ret
      exact ⟨ret_str (by rw [HE.out, mk_data]), hb1⟩
    · cases ha : (s.data.toList.map feed).all (· == 32)
      · obtain ⟨h1, h2⟩ := inner_cut _ hp hq ha
        rw [ha] at hxe
        have h3 : 1 < M.size := by rw [← len_data, hMd]; exact h2
        have HE : Hid (M.extract 1 (M.size - 1) = ⟨(innerL s.data.toList).toArray⟩) := by
          show _ = _
          rw [extract_eq, h1, hMd]
          have : M.size - 1 - 1 = ((s.data.toList.map feed).drop 1).length - 1 := by rw [List.length_drop, ← hMd, len_data]
          rw [this, List.dropLast_eq_take]
        have h4 : (1 : Int) < (M.size : Int) := by omega
        clear hp hq hMd hM h1 h2 ha
        go_enter Tryz.func47, Tryz.ntmps47
        go_wp2_with (first
          | (go_at_call 75; refine HR.out.mono ?_; rintro e w1 ⟨rfl, hb1⟩)
          | (go_at_call 28; refine (HP.out _).mono ?_; rintro e w2 ⟨rfl, hw⟩; subst w2)
          | (go_at_call 76; refine (HQ.out _).mono ?_; rintro e w2 ⟨rfl, hw⟩; subst w2)
          | (go_at_call 77; refine (HT.out _).mono ?_; rintro e w2 ⟨rfl, n, hw⟩; subst w2))
        go_ret
        exact ⟨ret_str (by rw [← hMs]; exact HE.out), hb1.trans ⟨rfl, rfl, rfl, Nat.le_refl _, fun k hk => rfl⟩⟩
      · rw [ha] at hxe
        have HE : Hid (innerL s.data.toList = M.data.toList) := by show _ = _; rw [hMd]; exact inner_keep _ (.inr (.inr ha))
        clear hp hq hMd hM ha
        go_enter Tryz.func47, Tryz.ntmps47
        go_wp2_with (first
          | (go_at_call 75; refine HR.out.mono ?_; rintro e w1 ⟨rfl, hb1⟩)
          | (go_at_call 28; refine (HP.out _).mono ?_; rintro e w2 ⟨rfl, hw⟩; subst w2)
          | (go_at_call 76; refine (HQ.out _).mono ?_; rintro e w2 ⟨rfl, hw⟩; subst w2)
          | (go_at_call 77; refine (HT.out _).mono ?_; rintro e w2 ⟨rfl, n, hw⟩; subst w2))
        go_ret
        exact ⟨ret_str (by rw [HE.out, mk_data]), hb1.trans ⟨rfl, rfl, rfl, Nat.le_refl _, fun k hk => rfl⟩⟩

/-- What Code tells. -/
def codeV (o : Option (List UInt8 × Nat)) : Value := match o with
  | none => .tuple #[.string ⟨#[]⟩, .int .i64 0]
  | some (a, n) => .tuple #[.string ⟨a.toArray⟩, .int .i64 (n : Int)]

set_option maxHeartbeats 4000000 in
/-- Code, of a text that is not too long for the library's search. -/
theorem code_any (s : ByteArray) (hs : s.size < 4294967281) (w : World) (hm : ML w) :
    Calls Tryz.prog 32 #[.string s] w fun e w' => e = .returned (codeV (codeL s.data.toList)) ∧ Below w.heap.size w w' := by
  obtain ⟨L, hL⟩ : ∃ L, s.data.toList = L := ⟨_, rfl⟩
  have hsL : Suf s L := by rw [← hL]; exact Suf.whole s
  have h0 : (0 : Int) = (pos s L : Int) := by rw [← hL, pos_whole]; rfl
  obtain ⟨k, hk⟩ : ∃ k, k = runL L := ⟨_, rfl⟩
  have hac0 : Hid (∀ w, Calls Tryz.prog 46 #[.string s, .int .i64 0] w fun e w' => e = .returned (.int .i64 (k : Int)) ∧ w' = w) := fun w => by rw [hk]; exact accents_any s (by omega) L hsL 0 h0 w
  rw [hL]
  have hkl := run_le L
  rw [← hk] at hkl
  have hll : L.length = s.size := by rw [← hL, len_data]
  rcases Nat.eq_zero_or_pos k with hk0 | hk0
  · have HC : Hid (codeL L = none) := by show _ = _; unfold codeL; rw [if_pos (by omega)]
    clear hk h0
    subst hk0
    go_enter Tryz.func32, Tryz.ntmps32
    go_wp2_with (go_at_call 46; refine (hac0.out _).mono ?_; rintro e w1 ⟨rfl, hw⟩; subst w1)
    go_ret2
    exact ⟨by rw [HC.out]; rfl, Below.refl _ _⟩
  · obtain ⟨R, hR⟩ : ∃ R, R = L.drop k := ⟨_, rfl⟩
    have hsR : Suf s R := by rw [hR]; exact hsL.drop k
    have hRl : R.length + k = s.size := by rw [hR, List.length_drop]; omega
    have hpR : pos s R = k := by have := hsR.sum; omega
    have HC : Hid (codeL L = match scanC k 0 R with | none => none | some m => some (innerL (R.take (m - k)), k + m)) := by
      show _ = _
      unfold codeL
      rw [if_neg (by omega), ← hk, ← hR]
      rfl
    have hne : ((k : Int) == 0) = false := by rw [beq_eq_false_iff_ne]; omega
    have hne2 : ¬ (k : Int) = 0 := by omega
    have HRL := (show Hid _ from hRl)
    have HPR := (show Hid _ from hpR)
    clear hk h0 hR hL hll hkl hRl hpR
    have hle : (k : Int) ≤ s.size := by have := HRL.out; omega
    go_enter Tryz.func32, Tryz.ntmps32
    go_wp2_with (go_at_call 46; refine (hac0.out _).mono ?_; rintro e w1 ⟨rfl, hw⟩; subst w1)
    go_loop [5] (fun A => ∃ l' : List UInt8, A = .int .i64 (pos s l' : Int) ∧ Hid (Suf s l') ∧ Hid (l'.length ≤ R.length ∧ scanC k 0 R = (scanC k 0 l').map (· + (R.length - l'.length)))) (fun A => s.size - (intOf A).toNat)
    case atStart => exact ⟨R, by rw [HPR.out], hsR, Nat.le_refl _, by simp⟩
    case round =>
      obtain ⟨l', rfl, h1, h2⟩ := hrel
      cases hl' : l' with
      | nil =>
        subst hl'
        have hp : pos s [] = s.size := pos_nil s
        have HE : Hid (codeL L = none) := by
          show _ = _
          have h3 : scanC k 0 [] = none := by simp only [scanC]; rw [if_neg (by omega)]
          rw [HC.out, h2.out.2, h3]
          rfl
        go_wp2
        go_ret2
        exact ⟨by rw [HE.out]; rfl, Below.refl _ _⟩
      | cons b t =>
        rw [← hl']
        have hnil : l' ≠ [] := by rw [hl']; simp
        have hlt : pos s l' < s.size := by have := h1.out; rw [hl'] at this ⊢; exact this.lt
        have hrl := run_le l'
        have hsum := h1.out.sum
        have HS := (show Hid _ from scan_step k hk0 l')
        obtain ⟨r, hr⟩ : ∃ r, r = runL l' := ⟨_, rfl⟩
        rw [← hr] at hrl HS
        have hac : Hid (∀ w, Calls Tryz.prog 46 #[.string s, .int .i64 (pos s l' : Int)] w fun e w' => e = .returned (.int .i64 (r : Int)) ∧ w' = w) := fun w => by rw [hr]; exact accents_any s (by omega) l' h1.out _ rfl w
        have hb : (pos s l' : Int) + (r : Int) ≤ (s.size : Int) := by omega
        clear hr hl'
        by_cases hrk : r = k
        · subst hrk
          have hkp : (r : Int) ≤ (pos s l' : Int) := by have := HRL.out; have := h2.out.1; omega
          have hpp : r = pos s R := HPR.out.symm
          obtain ⟨T, hT⟩ : ∃ T, T = s.extract r (pos s l') := ⟨_, rfl⟩
          have hTe : T = ⟨(R.take (R.length - l'.length)).toArray⟩ := by
            rw [hT]
            conv => lhs; rw [hpp]
            exact hsR.between h1.out
          have hTs : T.size ≤ s.size := by rw [hT, ByteArray.size_extract]; omega
          obtain ⟨X, hX⟩ : ∃ X : ByteArray, X = ⟨(innerL T.data.toList).toArray⟩ := ⟨_, rfl⟩
          have hct : Hid (Calls Tryz.prog 47 #[.string (s.extract r (pos s l'))] w fun e w' => e = .returned (.string X) ∧ Below w.heap.size w w') := by rw [hX, ← hT]; exact codeText_any T (by omega) w hm
          have HX := (show Hid _ from hX)
          have HE : Hid (codeL L = some (innerL T.data.toList, pos s l' + r)) := by
            show _ = _
            rw [HC.out, h2.out.2, HS.out, if_pos rfl, hTe]
            simp only [Option.map_some]
            have h3 := HRL.out
            have h4 := h2.out.1
            rw [show r + (R.length - l'.length) - r = R.length - l'.length by omega, show r + (r + (R.length - l'.length)) = pos s l' + r by omega]
          clear hTe hpp hTs hX hT
          go_wp2_with (first
            | (go_at_call 46; refine (hac.out _).mono ?_; rintro e w1 ⟨rfl, hw⟩; subst w1)
            | (go_at_call 47; refine hct.out.mono ?_; rintro e w1 ⟨rfl, hb1⟩))
          go_ret2
          exact ⟨by rw [HE.out, HX.out]; rfl, hb1⟩
        · have t1 : ¬ (r : Int) = (k : Int) := by omega
          have t2 : ((r : Int) == (k : Int)) = false := by rw [beq_eq_false_iff_ne]; exact t1
          have HS2 : Hid (scanC k 0 R = (scanC k 0 (l'.drop (max r 1))).map (· + (R.length - (l'.drop (max r 1)).length)) ∧ (l'.drop (max r 1)).length ≤ R.length ∧ pos s (l'.drop (max r 1)) = pos s l' + max r 1) := by
            have h3 := h2.out.1
            have hm1 : max r 1 ≤ l'.length := by
              have : 0 < l'.length := List.length_pos_iff.2 hnil
              omega
            refine ⟨?_, by rw [List.length_drop]; omega, by unfold pos; rw [List.length_drop]; omega⟩
            rw [h2.out.2, HS.out, if_neg hrk, if_neg hnil, Option.map_map]
            congr 1
            funext x
            simp only [Function.comp_apply, List.length_drop]
            omega
          clear hrk HS
          rcases Nat.eq_zero_or_pos r with h0 | h0
          · subst h0
            go_wp2_with (go_at_call 46; refine (hac.out _).mono ?_; rintro e w1 ⟨rfl, hw⟩; subst w1)
            go_round
            case rel =>
              refine ⟨l'.drop (max 0 1), ?_, h1.out.drop _, HS2.out.2.1, HS2.out.1⟩
              rw [HS2.out.2.2]
              go_num
            case measure => simp [intOf]; omega
          · have t3 : (1 : Int) ≤ (r : Int) := by omega
            go_wp2_with (go_at_call 46; refine (hac.out _).mono ?_; rintro e w1 ⟨rfl, hw⟩; subst w1)
            all_goals
              go_round
              case rel =>
                refine ⟨l'.drop (max r 1), ?_, h1.out.drop _, HS2.out.2.1, HS2.out.1⟩
                rw [HS2.out.2.2]
                first | go_num | (congr 1; omega)
              case measure => simp [intOf]; omega

end Go.Proofs.YtjdijlaoeoikhaaGreatDoor
