/- Tags in package span: name, tagEnd, quoted, value, attribute. -/
import Derived.Test.YtegjpfhpkkffiaaDoorSTag
set_option linter.unusedVariables false
namespace Go.Proofs.YtegjpfhpkkffiaaDoor
open Go.RowKit

theorem name_any (s : ByteArray) (hs : s.size ≤ 9223372036854775000) (l : List UInt8) (hl : Suf s l) (z : Int) (hz : z = (pos s l : Int)) (w : World) :
    Calls Tryd.prog 54 #[.string s, .int .i64 z] w fun e w' => e = .returned (.int .i64 (pos s ((nameL l).getD l) : Int)) ∧ w' = w := by
  cases l with
  | nil =>
    have hp : pos s [] = s.size := pos_nil s
    rw [hp] at hz
    subst hz
    go_enter Tryd.func54, Tryd.ntmps54
    go_wp2
    go_ret
    exact ⟨ret_int rfl, rfl⟩
  | cons b t =>
    subst hz
    have hlt := hl.lt
    have hb := hl.byte hlt
    have hne : ¬ (pos s (b :: t) : Int) = (s.size : Int) := by omega
    have hrow := (show Hid _ from fun w => row_any name_kind s hs (b :: t) hl w)
    have HR : Hid (letN b.toNat = true → (b :: t).dropWhile nameC = t.dropWhile nameC) := fun h => by rw [List.dropWhile_cons, if_pos (let_name h)]
    have HN : Hid (nameL (b :: t) = if letN b.toNat = true then some (t.dropWhile nameC) else none) := rfl
    cases hlet : letN b.toNat
    · go_enter Tryd.func54, Tryd.ntmps54
      go_wp2_with (go_at_call 39; refine (letter_any _ _).mono ?_; rintro e w' ⟨rfl, rfl⟩)
      go_ret
      refine ⟨ret_int ?_, rfl⟩
      rw [HN.out, hlet]
      rfl
    · go_enter Tryd.func54, Tryd.ntmps54
      go_wp2_with (first
        | (go_at_call 39; refine (letter_any _ _).mono ?_; rintro e w' ⟨rfl, rfl⟩)
        | (go_at_call 42; refine (hrow.out _).mono ?_; rintro e w' ⟨rfl, rfl⟩))
      go_ret
      refine ⟨ret_int ?_, rfl⟩
      rw [HN.out, hlet, HR.out hlet]
      rfl

theorem tagEnd_any (s : ByteArray) (hs : s.size ≤ 9223372036854775000) (l : List UInt8) (hl : Suf s l) (z : Int) (hz : z = (pos s l : Int)) (w : World) :
    Calls Tryd.prog 55 #[.string s, .int .i64 z] w fun e w' => e = .returned (.int .i64 (((closeL l).map (pos s)).getD 0 : Nat)) ∧ w' = w := by
  subst hz
  have hp := pos_le s l
  have hhas := (show Hid _ from fun w => has_any s l hl _ rfl 62 62 rfl w)
  cases hd : hdB l 62
  · go_enter Tryd.func55, Tryd.ntmps55
    go_wp2_with (go_at_call 24; refine (hhas.out _).mono ?_; rintro e w' ⟨rfl, rfl⟩)
    go_ret
    refine ⟨ret_int ?_, rfl⟩
    cases l with
    | nil => rfl
    | cons b t =>
      have : b ≠ 62 := by rintro rfl; cases hd
      simp [closeL, this]
  · go_enter Tryd.func55, Tryd.ntmps55
    go_wp2_with (go_at_call 24; refine (hhas.out _).mono ?_; rintro e w' ⟨rfl, rfl⟩)
    go_ret
    refine ⟨ret_int ?_, rfl⟩
    cases l with
    | nil => cases hd
    | cons b t =>
      have : b = 62 := by simpa [hdB] using hd
      subst this
      have := hl.succ
      simp [closeL]
      omega

theorem quo_find {s : ByteArray} {q : UInt8} {u : List UInt8} (hl : Suf s (q :: u)) (hq : q = 39 ∨ q = 34) : (quoL (q :: u) = q :: u ∧ Lib.indexByte u q = -1) ∨ (∃ k : Nat, Lib.indexByte u q = k ∧ pos s (q :: u) + 1 + k + 1 = pos s (quoL (q :: u)) ∧ pos s (quoL (q :: u)) ≤ s.size) := by
  simp only [quoL, if_pos hq]
  rcases idx_dw q u with ⟨h1, h2⟩ | ⟨v, h1, h2, h3⟩
  · left; rw [h1]; exact ⟨rfl, h2⟩
  · right
    rw [h1]
    refine ⟨_, h2, ?_, pos_le _ _⟩
    have h4 := hl.le
    unfold pos
    simp only [List.length_cons] at h4 ⊢
    omega

set_option maxHeartbeats 2000000 in
theorem quoted_any (s : ByteArray) (hs : s.size ≤ 9223372036854775000) (l : List UInt8) (hl : Suf s l) (w : World) :
    Calls Tryd.prog 87 #[.string s, .int .i64 (pos s l : Int)] w fun e w' => e = .returned (.int .i64 (pos s (quoL l) : Int)) ∧ ∃ n, w' = w.drewN n := by
  have h39 := (show Hid _ from fun w => has_any s l hl _ rfl 39 39 rfl w)
  have h34 := (show Hid _ from fun w => has_any s l hl _ rfl 34 34 rfl w)
  have hor : (hdB l 39 = false ∧ hdB l 34 = false) ∨ (∃ q u, l = q :: u ∧ (q = 39 ∨ q = 34)) := by
    cases l with
    | nil => exact .inl ⟨rfl, rfl⟩
    | cons q u =>
      by_cases h1 : q = 39
      · exact .inr ⟨q, u, rfl, .inl h1⟩
      · by_cases h2 : q = 34
        · exact .inr ⟨q, u, rfl, .inr h2⟩
        · exact .inl ⟨by simpa [hdB] using h1, by simpa [hdB] using h2⟩
  rcases hor with ⟨q1, q2⟩ | ⟨q, u, rfl, hq⟩
  · go_enter Tryd.func87, Tryd.ntmps87
    go_wp2_with (first
      | (go_at_call_of 24 (Value.int .u8 39); refine (h39.out _).mono ?_; rintro e w' ⟨rfl, rfl⟩)
      | (go_at_call_of 24 (Value.int .u8 34); refine (h34.out _).mono ?_; rintro e w' ⟨rfl, rfl⟩))
    go_ret
    refine ⟨ret_int ?_, 0, rfl⟩
    cases l with
    | nil => rfl
    | cons b t =>
      have n1 : b ≠ 39 := by rintro rfl; cases q1
      have n2 : b ≠ 34 := by rintro rfl; cases q2
      simp [quoL, n1, n2]
  · have hlt := hl.lt
    have hle : (pos s (q :: u) : Int) + 1 ≤ (s.size : Int) := by omega
    have hb := hl.byte hlt
    have he : Hid (s.extract (pos s (q :: u) + 1) s.size = ⟨u.toArray⟩) := by rw [← hl.succ]; exact hl.tail.ext
    obtain ⟨z, hz⟩ : ∃ z : Int, z = Lib.indexByte u q := ⟨_, rfl⟩
    have hix : Hid (∀ w, Calls Tryd.prog 25 #[.string (s.extract (pos s (q :: u) + 1) s.size), .int .u8 (q.toNat : Int)] w fun e w' => e = .returned (.int .i64 z) ∧ w' = w) := fun w => by
      have := indexByte_any (s.extract (pos s (q :: u) + 1) s.size) q.toNat w
      rw [back8, he.out, list_data, ← hz] at this
      rw [he.out]
      exact this
    have hd : hdB (q :: u) 39 = true ∨ (hdB (q :: u) 39 = false ∧ hdB (q :: u) 34 = true) := by rcases hq with rfl | rfl <;> simp [hdB]
    rcases quo_find hl hq with ⟨e1, e2⟩ | ⟨k, e1, e2, e3⟩
    · rw [e2] at hz
      subst hz
      have HE := (show Hid _ from e1)
      clear e1 e2 he
      rcases hd with hd | ⟨hd, hd2⟩
      all_goals
        go_enter Tryd.func87, Tryd.ntmps87
        go_wp2_with (first
          | (go_at_call_of 24 (Value.int .u8 39); refine (h39.out _).mono ?_; rintro e w' ⟨rfl, rfl⟩)
          | (go_at_call_of 24 (Value.int .u8 34); refine (h34.out _).mono ?_; rintro e w' ⟨rfl, rfl⟩))
        go_quiet ((go_at_call 25; exact Calls.quiet_of_same (hix.out _)))
        go_wp2
        go_ret
        exact ⟨ret_int (by rw [HE.out]), _, rfl⟩
    · rw [e1] at hz
      subst hz
      have HE := (show Hid _ from e2)
      have hk : (pos s (q :: u) : Int) + 1 + k + 1 ≤ s.size := by omega
      clear e1 e2 he
      rcases hd with hd | ⟨hd, hd2⟩
      all_goals
        go_enter Tryd.func87, Tryd.ntmps87
        go_wp2_with (first
          | (go_at_call_of 24 (Value.int .u8 39); refine (h39.out _).mono ?_; rintro e w' ⟨rfl, rfl⟩)
          | (go_at_call_of 24 (Value.int .u8 34); refine (h34.out _).mono ?_; rintro e w' ⟨rfl, rfl⟩))
        go_quiet ((go_at_call 25; exact Calls.quiet_of_same (hix.out _)))
        go_wp2
        go_ret
        exact ⟨ret_int (by have := HE.out; omega), _, rfl⟩

theorem quo_len (l : List UInt8) : (quoL l).length ≤ l.length := by
  obtain ⟨p, e⟩ := quo_suf l
  have := congrArg List.length e
  rw [List.length_append] at this
  omega

theorem Suf.eq_iff {s : ByteArray} {l r : List UInt8} (h : Suf s l) (h2 : Suf s r) : (pos s l : Int) = (pos s r : Int) ↔ l = r := by
  constructor
  · intro e
    have h3 := h.sum
    have h4 := h2.sum
    exact h.same h2 (by omega)
  · rintro rfl; rfl

set_option maxHeartbeats 2000000 in
theorem value_any (s : ByteArray) (hs : s.size ≤ 9223372036854775000) (l : List UInt8) (hl : Suf s l) (w : World) :
    Calls Tryd.prog 76 #[.string s, .int .i64 (pos s l : Int)] w fun e w' => e = .returned (.int .i64 (pos s (valP l) : Int)) ∧ ∃ n, w' = w.drewN n := by
  have hg1 := hl.gap 0
  have hgap := (show Hid _ from fun w => gap_any s hs l hl _ rfl w)
  have hhas := (show Hid _ from fun w => has_any s (gapL 0 l) hg1 _ rfl 61 61 rfl w)
  cases hd : hdB (gapL 0 l) 61
  · have HV := (show Hid _ from valP_no hd)
    clear hg1
    go_enter Tryd.func76, Tryd.ntmps76
    go_wp2_with (first
      | (go_at_call 56; refine (hgap.out _).mono ?_; rintro e w' ⟨rfl, rfl⟩)
      | (go_at_call 24; refine (hhas.out _).mono ?_; rintro e w' ⟨rfl, rfl⟩))
    go_ret
    exact ⟨ret_int (by rw [HV.out]), 0, rfl⟩
  · obtain ⟨t, ht⟩ : ∃ t, gapL 0 l = 61 :: t := by
      cases hg : gapL 0 l with
      | nil => rw [hg] at hd; cases hd
      | cons b t =>
        rw [hg] at hd
        have : b = 61 := by simpa [hdB] using hd
        exact ⟨t, by rw [this]⟩
    have HV := (show Hid _ from valP_yes ht)
    have hsu := hg1
    rw [ht] at hsu
    have hge : (pos s (gapL 0 l) : Int) + 1 = (pos s t : Int) := by rw [ht, hsu.succ]; omega
    have hlt : (pos s (gapL 0 l) : Int) + 1 ≤ s.size := by rw [ht]; have := hsu.lt; omega
    obtain ⟨y, hy⟩ : ∃ y, y = gapL 0 t := ⟨_, rfl⟩
    have hsy : Suf s y := by rw [hy]; exact hsu.tail.gap 0
    have hgap2 : Hid (∀ w, Calls Tryd.prog 56 #[.string s, .int .i64 ((pos s (gapL 0 l) : Int) + 1)] w fun e w' => e = .returned (.int .i64 (pos s y : Int)) ∧ w' = w) := fun w => by
      rw [hy]; exact gap_any s hs t hsu.tail _ hge w
    have hquo := (show Hid _ from fun w => quoted_any s hs y hsy w)
    have hrow := (show Hid _ from fun w => row_any unq_kind s hs y hsy w)
    have hqs : Suf s (quoL y) := hsy.of (quo_suf y)
    rw [← hy] at HV
    clear hy hsu ht hge
    by_cases h1 : quoL y = y
    · by_cases h2 : y.dropWhile unqC = y
      · have t1 : (pos s (quoL y) : Int) = (pos s y : Int) := by rw [h1]
        have t2 : (pos s (y.dropWhile unqC) : Int) = (pos s y : Int) := by rw [h2]
        have HR := (show Hid _ from HV.out.trans (val2_none l h1 h2))
        clear h1 h2 HV
        go_enter Tryd.func76, Tryd.ntmps76
        go_wp2_with (first
          | (go_at_call_of 56 (Value.int .i64 (pos s l : Int)); refine (hgap.out _).mono ?_; rintro e w' ⟨rfl, rfl⟩)
          | (go_at_call 24; refine (hhas.out _).mono ?_; rintro e w' ⟨rfl, rfl⟩)
          | (go_at_call 56; refine (hgap2.out _).mono ?_; rintro e w' ⟨rfl, rfl⟩)
          | (go_at_call 87; refine (hquo.out _).mono ?_; rintro e w' ⟨rfl, n, hw⟩; subst w')
          | (go_at_call 42; refine (hrow.out _).mono ?_; rintro e w' ⟨rfl, hw⟩; subst w'))
        go_ret
        exact ⟨ret_int (by rw [HR.out]), _, rfl⟩
      · have t1 : (pos s (quoL y) : Int) = (pos s y : Int) := by rw [h1]
        have t2 : ¬ (pos s (y.dropWhile unqC) : Int) = (pos s y : Int) := fun e => h2 (((hsy.dw unqC).eq_iff hsy).1 e)
        have HR := (show Hid _ from HV.out.trans (val2_bare l h1 h2))
        clear h1 h2 HV
        go_enter Tryd.func76, Tryd.ntmps76
        go_wp2_with (first
          | (go_at_call_of 56 (Value.int .i64 (pos s l : Int)); refine (hgap.out _).mono ?_; rintro e w' ⟨rfl, rfl⟩)
          | (go_at_call 24; refine (hhas.out _).mono ?_; rintro e w' ⟨rfl, rfl⟩)
          | (go_at_call 56; refine (hgap2.out _).mono ?_; rintro e w' ⟨rfl, rfl⟩)
          | (go_at_call 87; refine (hquo.out _).mono ?_; rintro e w' ⟨rfl, n, hw⟩; subst w')
          | (go_at_call 42; refine (hrow.out _).mono ?_; rintro e w' ⟨rfl, hw⟩; subst w'))
        go_ret
        exact ⟨ret_int (by rw [HR.out]), _, rfl⟩
    · have t1 : ¬ (pos s (quoL y) : Int) = (pos s y : Int) := fun e => h1 ((hqs.eq_iff hsy).1 e)
      have HR := (show Hid _ from HV.out.trans (val2_found l h1))
      clear h1 HV
      go_enter Tryd.func76, Tryd.ntmps76
      go_wp2_with (first
        | (go_at_call_of 56 (Value.int .i64 (pos s l : Int)); refine (hgap.out _).mono ?_; rintro e w' ⟨rfl, rfl⟩)
        | (go_at_call 24; refine (hhas.out _).mono ?_; rintro e w' ⟨rfl, rfl⟩)
        | (go_at_call 56; refine (hgap2.out _).mono ?_; rintro e w' ⟨rfl, rfl⟩)
        | (go_at_call 87; refine (hquo.out _).mono ?_; rintro e w' ⟨rfl, n, hw⟩; subst w'))
      go_ret
      exact ⟨ret_int (by rw [HR.out]), _, rfl⟩

end Go.Proofs.YtegjpfhpkkffiaaDoor
