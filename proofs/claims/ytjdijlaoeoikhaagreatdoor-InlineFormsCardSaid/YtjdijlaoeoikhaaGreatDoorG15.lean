/- Several texts in one. -/
import Derived.Test.YtjdijlaoeoikhaaGreatDoorSKinds
import Derived.Test.YtjdijlaoeoikhaaGreatDoorSPlain
import Derived.Deep.QuietTactic
import Derived.BigQuiet
import Derived.Deep.RegionWith
set_option linter.unusedVariables false
/- Tags in package span: has, gap, name, quoted, value, attribute, tagEnd, closingTag, openingTag, Tag. -/
namespace Go.Proofs.YtjdijlaoeoikhaaGreatDoor
open Go.RowKit

theorem has_any (s : ByteArray) (l : List UInt8) (hl : Suf s l) (z : Int) (hz : z = (pos s l : Int)) (c : UInt8) (y : Int) (hy : y = (c.toNat : Int)) (w : World) :
    Calls Tryz.prog 48 #[.string s, .int .i64 z, .int .u8 y] w fun e w' => e = .returned (.bool (hdB l c)) ∧ w' = w := by
  subst hz
  subst hy
  cases l with
  | nil =>
    have hp : pos s [] = s.size := pos_nil s
    go_enter Tryz.func48, Tryz.ntmps48
    go_wp2
    go_ret
    exact ⟨rfl, rfl⟩
  | cons b t =>
    have hlt := hl.lt
    have hb := hl.byte hlt
    go_enter Tryz.func48, Tryz.ntmps48
    go_wp2
    go_ret
    refine ⟨ret_bool ?_, rfl⟩
    show _ = (b == c)
    rw [Bool.eq_iff_iff]
    simp only [beq_iff_eq]
    constructor
    · intro h; exact UInt8.toNat_inj.1 (by omega)
    · rintro rfl; rfl

theorem byte_cases (b : UInt8) : b = 32 ∨ b = 9 ∨ b = 10 ∨ (b.toNat ≠ 32 ∧ b.toNat ≠ 9 ∧ b.toNat ≠ 10 ∧ b ≠ 32 ∧ b ≠ 9 ∧ b ≠ 10) := by
  by_cases h1 : b = 32
  · exact .inl h1
  · by_cases h2 : b = 9
    · exact .inr (.inl h2)
    · by_cases h3 : b = 10
      · exact .inr (.inr (.inl h3))
      · exact .inr (.inr (.inr ⟨fun h => h1 (UInt8.toNat_inj.1 h), fun h => h2 (UInt8.toNat_inj.1 h), fun h => h3 (UInt8.toNat_inj.1 h), h1, h2, h3⟩))

set_option maxHeartbeats 2000000 in
theorem gap_any (s : ByteArray) (hs : s.size ≤ 9223372036854775000) (l : List UInt8) (hl : Suf s l) (z : Int) (hz : z = (pos s l : Int)) (w : World) :
    Calls Tryz.prog 118 #[.string s, .int .i64 z] w fun e w' => e = .returned (.int .i64 (pos s (gapL 0 l) : Int)) ∧ w' = w := by
  subst hz
  go_enter Tryz.func118, Tryz.ntmps118
  go_wp2
  go_loop [1, 5] (fun A F => ∃ (l' : List UInt8) (n : Nat) (f : Bool), A = .int .i64 (pos s l' : Int) ∧ F = .bool f ∧ Hid (f = decide (n = 1)) ∧ Hid (n ≤ 1) ∧ Hid (Suf s l') ∧ Hid (gapL n l' = gapL 0 l)) (fun A _ => s.size - (intOf A).toNat)
  case atStart => exact ⟨l, 0, false, rfl, rfl, rfl, Nat.zero_le _, hl, rfl⟩
  case round =>
    obtain ⟨l', n, f, rfl, rfl, hf, hn, h1, h2⟩ := hrel
    cases l' with
    | nil =>
      have hp : pos s [] = s.size := pos_nil s
      go_wp2
      go_ret
      exact ⟨ret_int (by rw [← h2.out]; simp only [gapL]; exact congrArg _ (pos_nil s).symm), rfl⟩
    | cons b t =>
      have hlt := h1.out.lt
      have hb := h1.out.byte hlt
      have hle : (pos s (b :: t) : Int) + 1 ≤ (s.size : Int) := by omega
      have hsu := (show Hid _ from h1.out.succ)
      rcases byte_cases b with rfl | rfl | rfl | ⟨n1, n2, n3, n4, n5, n6⟩
      · cases f
        all_goals
          go_wp2
          go_round
          case rel =>
            refine ⟨t, n, _, ?_, rfl, hf, hn, h1.out.tail, ?_⟩
            · rw [hsu.out]; go_num
            · show gapL n t = _
              rw [← h2.out]; simp [gapL]
          case measure => simp [intOf]; omega
      · cases f
        all_goals
          go_wp2
          go_round
          case rel =>
            refine ⟨t, n, _, ?_, rfl, hf, hn, h1.out.tail, ?_⟩
            · rw [hsu.out]; go_num
            · show gapL n t = _
              rw [← h2.out]; simp [gapL]
          case measure => simp [intOf]; omega
      · cases f
        · have hn0 : n = 0 := by have h3 := hf.out; have h4 := hn.out; simp at h3; omega
          subst hn0
          go_wp2
          go_round
          case rel =>
            refine ⟨t, 1, true, ?_, rfl, rfl, Nat.le_refl _, h1.out.tail, ?_⟩
            · rw [hsu.out]; go_num
            · show gapL 1 t = _
              rw [← h2.out]; simp [gapL]
          case measure => simp [intOf]; omega
        · have hn1 : n = 1 := by have h3 := hf.out; simpa using h3
          subst hn1
          go_wp2
          go_ret
          exact ⟨ret_int (by rw [← h2.out]; simp [gapL]), rfl⟩
      · have m1 : ¬ (b.toNat : Int) = 32 := by omega
        have m2 : ¬ (b.toNat : Int) = 9 := by omega
        have m3 : ¬ (b.toNat : Int) = 10 := by omega
        have m4 : ((b.toNat : Int) != 32) = true := by simpa using m1
        have m5 : ((b.toNat : Int) != 9) = true := by simpa using m2
        cases f
        all_goals
          go_wp2
          go_ret
          exact ⟨ret_int (by rw [← h2.out]; simp [gapL, n4, n5, n6]), rfl⟩

end Go.Proofs.YtjdijlaoeoikhaaGreatDoor

/- Tags in package span: name, tagEnd, quoted, value, attribute. -/
namespace Go.Proofs.YtjdijlaoeoikhaaGreatDoor
open Go.RowKit

theorem name_any (s : ByteArray) (hs : s.size ≤ 9223372036854775000) (l : List UInt8) (hl : Suf s l) (z : Int) (hz : z = (pos s l : Int)) (w : World) :
    Calls Tryz.prog 116 #[.string s, .int .i64 z] w fun e w' => e = .returned (.int .i64 (pos s ((nameL l).getD l) : Int)) ∧ w' = w := by
  cases l with
  | nil =>
    have hp : pos s [] = s.size := pos_nil s
    rw [hp] at hz
    subst hz
    go_enter Tryz.func116, Tryz.ntmps116
    go_wp2
    go_ret
    exact ⟨ret_int rfl, rfl⟩
  | cons b t =>
    subst hz
    have hlt := hl.lt
    have hb := hl.byte hlt
    have hne : ¬ (pos s (b :: t) : Int) = (s.size : Int) := by omega
    have hrow := (show Hid _ from fun w => row_any name_kind s hs (b :: t) hl w)
    have HR : Hid (letN b.toNat = true → (b :: t).dropWhile nameC = t.dropWhile nameC) := fun h => by rw [List.dropWhile_cons, if_pos (let_name h)]
    have HN : Hid (nameL (b :: t) = if letN b.toNat = true then some (t.dropWhile nameC) else none) := rfl
    cases hlet : letN b.toNat
    · go_enter Tryz.func116, Tryz.ntmps116
      go_wp2_with (go_at_call 53; refine (letter_any _ _).mono ?_; rintro e w' ⟨rfl, rfl⟩)
      go_ret
      refine ⟨ret_int ?_, rfl⟩
      rw [HN.out, hlet]
      rfl
    · go_enter Tryz.func116, Tryz.ntmps116
      go_wp2_with (first
        | (go_at_call 53; refine (letter_any _ _).mono ?_; rintro e w' ⟨rfl, rfl⟩)
        | (go_at_call 73; refine (hrow.out _).mono ?_; rintro e w' ⟨rfl, rfl⟩))
      go_ret
      refine ⟨ret_int ?_, rfl⟩
      rw [HN.out, hlet, HR.out hlet]
      rfl

theorem tagEnd_any (s : ByteArray) (hs : s.size ≤ 9223372036854775000) (l : List UInt8) (hl : Suf s l) (z : Int) (hz : z = (pos s l : Int)) (w : World) :
    Calls Tryz.prog 117 #[.string s, .int .i64 z] w fun e w' => e = .returned (.int .i64 (((closeL l).map (pos s)).getD 0 : Nat)) ∧ w' = w := by
  subst hz
  have hp := pos_le s l
  have hhas := (show Hid _ from fun w => has_any s l hl _ rfl 62 62 rfl w)
  cases hd : hdB l 62
  · go_enter Tryz.func117, Tryz.ntmps117
    go_wp2_with (go_at_call 48; refine (hhas.out _).mono ?_; rintro e w' ⟨rfl, rfl⟩)
    go_ret
    refine ⟨ret_int ?_, rfl⟩
    cases l with
    | nil => rfl
    | cons b t =>
      have : b ≠ 62 := by rintro rfl; cases hd
      simp [closeL, this]
  · go_enter Tryz.func117, Tryz.ntmps117
    go_wp2_with (go_at_call 48; refine (hhas.out _).mono ?_; rintro e w' ⟨rfl, rfl⟩)
    go_ret
    refine ⟨ret_int ?_, rfl⟩
    cases l with
    | nil => cases hd
    | cons b t =>
      have : b = 62 := by simpa [hdB] using hd
      subst this
      have := hl.succ
      simp [closeL]
      omega

theorem quo_find {s : ByteArray} {q : UInt8} {u : List UInt8} (hl : Suf s (q :: u)) (hq : q = 39 ∨ q = 34) : (quoL (q :: u) = q :: u ∧ Lib.indexByte u q = -1) ∨ (∃ k : Nat, Lib.indexByte u q = k ∧ pos s (q :: u) + 1 + k + 1 = pos s (quoL (q :: u)) ∧ pos s (quoL (q :: u)) ≤ s.size) := by
  simp only [quoL, if_pos hq]
  rcases idx_dw q u with ⟨h1, h2⟩ | ⟨v, h1, h2, h3⟩
  · left; rw [h1]; exact ⟨rfl, h2⟩
  · right
    rw [h1]
    refine ⟨_, h2, ?_, pos_le _ _⟩
    have h4 := hl.le
    unfold pos
    simp only [List.length_cons] at h4 ⊢
    omega

set_option maxHeartbeats 2000000 in
theorem quoted_any (s : ByteArray) (hs : s.size ≤ 9223372036854775000) (l : List UInt8) (hl : Suf s l) (w : World) :
    Calls Tryz.prog 153 #[.string s, .int .i64 (pos s l : Int)] w fun e w' => e = .returned (.int .i64 (pos s (quoL l) : Int)) ∧ ∃ n, w' = w.drewN n := by
  have h39 := (show Hid _ from fun w => has_any s l hl _ rfl 39 39 rfl w)
  have h34 := (show Hid _ from fun w => has_any s l hl _ rfl 34 34 rfl w)
  have hor : (hdB l 39 = false ∧ hdB l 34 = false) ∨ (∃ q u, l = q :: u ∧ (q = 39 ∨ q = 34)) := by
    cases l with
    | nil => exact .inl ⟨rfl, rfl⟩
    | cons q u =>
      by_cases h1 : q = 39
      · exact .inr ⟨q, u, rfl, .inl h1⟩
      · by_cases h2 : q = 34
        · exact .inr ⟨q, u, rfl, .inr h2⟩
        · exact .inl ⟨by simpa [hdB] using h1, by simpa [hdB] using h2⟩
  rcases hor with ⟨q1, q2⟩ | ⟨q, u, rfl, hq⟩
  · go_enter Tryz.func153, Tryz.ntmps153
    go_wp2_with (first
      | (go_at_call_of 48 (Value.int .u8 39); refine (h39.out _).mono ?_; rintro e w' ⟨rfl, rfl⟩)
      | (go_at_call_of 48 (Value.int .u8 34); refine (h34.out _).mono ?_; rintro e w' ⟨rfl, rfl⟩))
    go_ret
    refine ⟨ret_int ?_, 0, rfl⟩
    cases l with
    | nil => rfl
    | cons b t =>
      have n1 : b ≠ 39 := by rintro rfl; cases q1
      have n2 : b ≠ 34 := by rintro rfl; cases q2
      simp [quoL, n1, n2]
  · have hlt := hl.lt
    have hle : (pos s (q :: u) : Int) + 1 ≤ (s.size : Int) := by omega
    have hb := hl.byte hlt
    have he : Hid (s.extract (pos s (q :: u) + 1) s.size = ⟨u.toArray⟩) := by rw [← hl.succ]; exact hl.tail.ext
    obtain ⟨z, hz⟩ : ∃ z : Int, z = Lib.indexByte u q := ⟨_, rfl⟩
    have hix : Hid (∀ w, Calls Tryz.prog 49 #[.string (s.extract (pos s (q :: u) + 1) s.size), .int .u8 (q.toNat : Int)] w fun e w' => e = .returned (.int .i64 z) ∧ w' = w) := fun w => by
      have := indexByte_any (s.extract (pos s (q :: u) + 1) s.size) q.toNat w
      rw [back8, he.out, list_data, ← hz] at this
      rw [he.out]
      exact this
    have hd : hdB (q :: u) 39 = true ∨ (hdB (q :: u) 39 = false ∧ hdB (q :: u) 34 = true) := by rcases hq with rfl | rfl <;> simp [hdB]
    rcases quo_find hl hq with ⟨e1, e2⟩ | ⟨k, e1, e2, e3⟩
    · rw [e2] at hz
      subst hz
      have HE := (show Hid _ from e1)
      clear e1 e2 he
      rcases hd with hd | ⟨hd, hd2⟩
      all_goals
        go_enter Tryz.func153, Tryz.ntmps153
        go_wp2_with (first
          | (go_at_call_of 48 (Value.int .u8 39); refine (h39.out _).mono ?_; rintro e w' ⟨rfl, rfl⟩)
          | (go_at_call_of 48 (Value.int .u8 34); refine (h34.out _).mono ?_; rintro e w' ⟨rfl, rfl⟩))
        go_quiet ((go_at_call 49; exact Calls.quiet_of_same (hix.out _)))
        go_wp2
        go_ret
        exact ⟨ret_int (by rw [HE.out]), _, rfl⟩
    · rw [e1] at hz
      subst hz
      have HE := (show Hid _ from e2)
      have hk : (pos s (q :: u) : Int) + 1 + k + 1 ≤ s.size := by omega
      clear e1 e2 he
      rcases hd with hd | ⟨hd, hd2⟩
      all_goals
        go_enter Tryz.func153, Tryz.ntmps153
        go_wp2_with (first
          | (go_at_call_of 48 (Value.int .u8 39); refine (h39.out _).mono ?_; rintro e w' ⟨rfl, rfl⟩)
          | (go_at_call_of 48 (Value.int .u8 34); refine (h34.out _).mono ?_; rintro e w' ⟨rfl, rfl⟩))
        go_quiet ((go_at_call 49; exact Calls.quiet_of_same (hix.out _)))
        go_wp2
        go_ret
        exact ⟨ret_int (by have := HE.out; omega), _, rfl⟩

theorem quo_len (l : List UInt8) : (quoL l).length ≤ l.length := by
  obtain ⟨p, e⟩ := quo_suf l
  have := congrArg List.length e
  rw [List.length_append] at this
  omega

theorem Suf.eq_iff {s : ByteArray} {l r : List UInt8} (h : Suf s l) (h2 : Suf s r) : (pos s l : Int) = (pos s r : Int) ↔ l = r := by
  constructor
  · intro e
    have h3 := h.sum
    have h4 := h2.sum
    exact h.same h2 (by omega)
  · rintro rfl; rfl

set_option maxHeartbeats 2000000 in
theorem value_any (s : ByteArray) (hs : s.size ≤ 9223372036854775000) (l : List UInt8) (hl : Suf s l) (w : World) :
    Calls Tryz.prog 144 #[.string s, .int .i64 (pos s l : Int)] w fun e w' => e = .returned (.int .i64 (pos s (valP l) : Int)) ∧ ∃ n, w' = w.drewN n := by
  have hg1 := hl.gap 0
  have hgap := (show Hid _ from fun w => gap_any s hs l hl _ rfl w)
  have hhas := (show Hid _ from fun w => has_any s (gapL 0 l) hg1 _ rfl 61 61 rfl w)
  cases hd : hdB (gapL 0 l) 61
  · have HV := (show Hid _ from valP_no hd)
    clear hg1
    go_enter Tryz.func144, Tryz.ntmps144
    go_wp2_with (first
      | (go_at_call 118; refine (hgap.out _).mono ?_; rintro e w' ⟨rfl, rfl⟩)
      | (go_at_call 48; refine (hhas.out _).mono ?_; rintro e w' ⟨rfl, rfl⟩))
    go_ret
    exact ⟨ret_int (by rw [HV.out]), 0, rfl⟩
  · obtain ⟨t, ht⟩ : ∃ t, gapL 0 l = 61 :: t := by
      cases hg : gapL 0 l with
      | nil => rw [hg] at hd; cases hd
      | cons b t =>
        rw [hg] at hd
        have : b = 61 := by simpa [hdB] using hd
        exact ⟨t, by rw [this]⟩
    have HV := (show Hid _ from valP_yes ht)
    have hsu := hg1
    rw [ht] at hsu
    have hge : (pos s (gapL 0 l) : Int) + 1 = (pos s t : Int) := by rw [ht, hsu.succ]; omega
    have hlt : (pos s (gapL 0 l) : Int) + 1 ≤ s.size := by rw [ht]; have := hsu.lt; omega
    obtain ⟨y, hy⟩ : ∃ y, y = gapL 0 t := ⟨_, rfl⟩
    have hsy : Suf s y := by rw [hy]; exact hsu.tail.gap 0
    have hgap2 : Hid (∀ w, Calls Tryz.prog 118 #[.string s, .int .i64 ((pos s (gapL 0 l) : Int) + 1)] w fun e w' => e = .returned (.int .i64 (pos s y : Int)) ∧ w' = w) := fun w => by
      rw [hy]; exact gap_any s hs t hsu.tail _ hge w
    have hquo := (show Hid _ from fun w => quoted_any s hs y hsy w)
    have hrow := (show Hid _ from fun w => row_any unq_kind s hs y hsy w)
    have hqs : Suf s (quoL y) := hsy.of (quo_suf y)
    rw [← hy] at HV
    clear hy hsu ht hge
    by_cases h1 : quoL y = y
    · by_cases h2 : y.dropWhile unqC = y
      · have t1 : (pos s (quoL y) : Int) = (pos s y : Int) := by rw [h1]
        have t2 : (pos s (y.dropWhile unqC) : Int) = (pos s y : Int) := by rw [h2]
        have HR := (show Hid _ from HV.out.trans (val2_none l h1 h2))
        clear h1 h2 HV
        go_enter Tryz.func144, Tryz.ntmps144
        go_wp2_with (first
          | (go_at_call_of 118 (Value.int .i64 (pos s l : Int)); refine (hgap.out _).mono ?_; rintro e w' ⟨rfl, rfl⟩)
          | (go_at_call 48; refine (hhas.out _).mono ?_; rintro e w' ⟨rfl, rfl⟩)
          | (go_at_call 118; refine (hgap2.out _).mono ?_; rintro e w' ⟨rfl, rfl⟩)
          | (go_at_call 153; refine (hquo.out _).mono ?_; rintro e w' ⟨rfl, n, hw⟩; subst w')
          | (go_at_call 73; refine (hrow.out _).mono ?_; rintro e w' ⟨rfl, hw⟩; subst w'))
        go_ret
        exact ⟨ret_int (by rw [HR.out]), _, rfl⟩
      · have t1 : (pos s (quoL y) : Int) = (pos s y : Int) := by rw [h1]
        have t2 : ¬ (pos s (y.dropWhile unqC) : Int) = (pos s y : Int) := fun e => h2 (((hsy.dw unqC).eq_iff hsy).1 e)
        have HR := (show Hid _ from HV.out.trans (val2_bare l h1 h2))
        clear h1 h2 HV
        go_enter Tryz.func144, Tryz.ntmps144
        go_wp2_with (first
          | (go_at_call_of 118 (Value.int .i64 (pos s l : Int)); refine (hgap.out _).mono ?_; rintro e w' ⟨rfl, rfl⟩)
          | (go_at_call 48; refine (hhas.out _).mono ?_; rintro e w' ⟨rfl, rfl⟩)
          | (go_at_call 118; refine (hgap2.out _).mono ?_; rintro e w' ⟨rfl, rfl⟩)
          | (go_at_call 153; refine (hquo.out _).mono ?_; rintro e w' ⟨rfl, n, hw⟩; subst w')
          | (go_at_call 73; refine (hrow.out _).mono ?_; rintro e w' ⟨rfl, hw⟩; subst w'))
        go_ret
        exact ⟨ret_int (by rw [HR.out]), _, rfl⟩
    · have t1 : ¬ (pos s (quoL y) : Int) = (pos s y : Int) := fun e => h1 ((hqs.eq_iff hsy).1 e)
      have HR := (show Hid _ from HV.out.trans (val2_found l h1))
      clear h1 HV
      go_enter Tryz.func144, Tryz.ntmps144
      go_wp2_with (first
        | (go_at_call_of 118 (Value.int .i64 (pos s l : Int)); refine (hgap.out _).mono ?_; rintro e w' ⟨rfl, rfl⟩)
        | (go_at_call 48; refine (hhas.out _).mono ?_; rintro e w' ⟨rfl, rfl⟩)
        | (go_at_call 118; refine (hgap2.out _).mono ?_; rintro e w' ⟨rfl, rfl⟩)
        | (go_at_call 153; refine (hquo.out _).mono ?_; rintro e w' ⟨rfl, n, hw⟩; subst w'))
      go_ret
      exact ⟨ret_int (by rw [HR.out]), _, rfl⟩

end Go.Proofs.YtjdijlaoeoikhaaGreatDoor

/- Tags in package span: attribute, closingTag, openingTag, Tag. -/
namespace Go.Proofs.YtjdijlaoeoikhaaGreatDoor
open Go.RowKit

theorem attrF_N (c : UInt8) : attrF c = (letN c.toNat || decide (c.toNat = 95) || decide (c.toNat = 58)) := by
  have h1 := eqN c 95 (by omega)
  have h2 := eqN c 58 (by omega)
  rw [← h1, ← h2]
  rfl

theorem begins_any (c : UInt8) (w : World) :
    Calls Tryz.prog 142 #[.int .u8 (c.toNat : Int)] w fun e w' => e = .returned (.bool (attrF c)) ∧ w' = w := by
  have HN := (show Hid _ from attrF_N c)
  have hc : (c.toNat = 95 ∨ c.toNat = 58) ∨ (¬ c.toNat = 95 ∧ ¬ c.toNat = 58) := by omega
  cases hl : letN c.toNat
  all_goals
    rcases hc with (h | h) | ⟨h, h'⟩
    all_goals
      go_enter Tryz.func142, Tryz.ntmps142
      go_wp2_with (go_at_call 53; refine (letter_any _ _).mono ?_; rintro e w' ⟨rfl, rfl⟩)
      go_ret
      exact ⟨ret_bool (by rw [HN.out, hl, Bool.eq_iff_iff]; simp <;> omega), rfl⟩

def attQ (l y : List UInt8) : List UInt8 := match y with
  | [] => l
  | b :: t => if (b :: t).length < l.length ∧ attrF b = true then valP (t.dropWhile attrC) else l

set_option maxHeartbeats 2000000 in
theorem attribute_any (s : ByteArray) (hs : s.size ≤ 9223372036854775000) (l : List UInt8) (hl : Suf s l) (w : World) :
    Calls Tryz.prog 119 #[.string s, .int .i64 (pos s l : Int)] w fun e w' => e = .returned (.int .i64 (pos s (attP l) : Int)) ∧ ∃ n, w' = w.drewN n := by
  have hg1 := hl.gap 0
  obtain ⟨y, hy⟩ : ∃ y, y = gapL 0 l := ⟨_, rfl⟩
  rw [← hy] at hg1
  have hgap : Hid (∀ w, Calls Tryz.prog 118 #[.string s, .int .i64 (pos s l : Int)] w fun e w' => e = .returned (.int .i64 (pos s y : Int)) ∧ w' = w) := fun w => by rw [hy]; exact gap_any s hs l hl _ rfl w
  have HA : Hid (attP l = attQ l y) := by rw [hy]; rfl
  have hyl : y.length ≤ l.length := by rw [hy]; exact gapL_le 0 l
  clear hy
  by_cases h0 : y = l
  · have t1 : (pos s y : Int) = (pos s l : Int) := by rw [h0]
    have HE : Hid (attP l = l) := by
      show _ = _
      rw [HA.out, h0]
      cases l with
      | nil => rfl
      | cons b t => simp [attQ]
    clear h0 HA hyl
    go_enter Tryz.func119, Tryz.ntmps119
    go_wp2_with (go_at_call 118; refine (hgap.out _).mono ?_; rintro e w' ⟨rfl, rfl⟩)
    go_ret
    exact ⟨ret_int (by rw [HE.out]), 0, rfl⟩
  · have t1 : ¬ (pos s y : Int) = (pos s l : Int) := fun e => h0 ((hg1.eq_iff hl).1 e)
    have hlt : y.length < l.length := by
      rcases Nat.lt_or_ge y.length l.length with h | h
      · exact h
      · exact absurd (hg1.same hl (by omega)) h0
    clear h0
    cases y with
    | nil =>
      have HE : Hid (attP l = l) := HA.out
      have t2 : pos s [] = s.size := pos_nil s
      clear HA
      go_enter Tryz.func119, Tryz.ntmps119
      go_wp2_with (go_at_call 118; refine (hgap.out _).mono ?_; rintro e w' ⟨rfl, rfl⟩)
      go_ret
      exact ⟨ret_int (by rw [HE.out]), 0, rfl⟩
    | cons b t =>
      have hb1 := hg1.lt
      have t2 : ¬ (pos s (b :: t) : Int) = (s.size : Int) := by omega
      have hb := hg1.byte hb1
      have t3 : ((pos s (b :: t) : Int) == (pos s l : Int)) = false := by rw [beq_eq_false_iff_ne]; exact t1
      have t4 : ((pos s (b :: t) : Int) == (s.size : Int)) = false := by rw [beq_eq_false_iff_ne]; exact t2
      have hbeg := (show Hid _ from fun w => begins_any b w)
      cases hf : attrF b
      · have HE : Hid (attP l = l) := by show _ = _; rw [HA.out]; simp [attQ, hf]
        clear HA
        go_enter Tryz.func119, Tryz.ntmps119
        go_wp2_with (first
          | (go_at_call 118; refine (hgap.out _).mono ?_; rintro e w' ⟨rfl, rfl⟩)
          | (go_at_call 142; refine (hbeg.out _).mono ?_; rintro e w' ⟨rfl, rfl⟩))
        go_ret
        exact ⟨ret_int (by rw [HE.out]), 0, rfl⟩
      · have HE : Hid (attP l = valP (t.dropWhile attrC)) := by show _ = _; rw [HA.out]; simp only [attQ]; rw [if_pos ⟨hlt, hf⟩]
        have hdw : (b :: t).dropWhile attrC = t.dropWhile attrC := by rw [List.dropWhile_cons, if_pos (attrF_C hf)]
        have hsd := hg1.dw attrC
        rw [hdw] at hsd
        have hrow : Hid (∀ w, Calls Tryz.prog 73 #[.string s, .int .i64 (pos s (b :: t) : Int), .func (.func 143) #[] #[]] w fun e w' => e = .returned (.int .i64 (pos s (t.dropWhile attrC) : Int)) ∧ w' = w) := fun w => by
          have := row_any attr_kind s hs (b :: t) hg1 w
          rwa [hdw] at this
        have hval := (show Hid _ from fun w => value_any s hs _ hsd w)
        clear HA hdw
        go_enter Tryz.func119, Tryz.ntmps119
        go_wp2_with (first
          | (go_at_call 118; refine (hgap.out _).mono ?_; rintro e w' ⟨rfl, rfl⟩)
          | (go_at_call 142; refine (hbeg.out _).mono ?_; rintro e w' ⟨rfl, rfl⟩)
          | (go_at_call 73; refine (hrow.out _).mono ?_; rintro e w' ⟨rfl, rfl⟩)
          | (go_at_call 144; refine (hval.out _).mono ?_; rintro e w' ⟨rfl, n, hw⟩; subst w'))
        go_ret
        exact ⟨ret_int (by rw [HE.out]), _, rfl⟩

/-- Where a tag ends, told as a place. -/
def endN (s : ByteArray) (o : Option (List UInt8)) : Nat := (o.map (pos s)).getD 0

set_option maxHeartbeats 2000000 in
theorem closing_any (s : ByteArray) (hs : s.size ≤ 9223372036854775000) (a b : UInt8) (l : List UInt8) (hl : s.data.toList = a :: b :: l) (w : World) :
    Calls Tryz.prog 86 #[.string s] w fun e w' => e = .returned (.int .i64 (endN s ((nameL l).bind fun r => closeL (gapL 0 r)) : Int)) ∧ w' = w := by
  have h2 : (2 : Int) = (pos s l : Int) := by rw [pos_of (p := [a, b]) hl]; rfl
  have hsl : Suf s l := ⟨[a, b], hl⟩
  have hname := (show Hid _ from fun w => name_any s hs l hsl 2 h2 w)
  cases hn : nameL l with
  | none =>
    have h3 : (pos s l : Int) = 2 := h2.symm
    rw [hn] at hname
    have hname : Hid (∀ w, Calls Tryz.prog 116 #[.string s, .int .i64 2] w fun e w' => e = .returned (.int .i64 2) ∧ w' = w) := fun w => by have := hname.out w; rw [show ((pos s (Option.getD none l) : Nat) : Int) = 2 from h3] at this; exact this
    clear h2 h3
    go_enter Tryz.func86, Tryz.ntmps86
    go_wp2_with (go_at_call 116; refine (hname.out _).mono ?_; rintro e w' ⟨rfl, rfl⟩)
    go_ret
    exact ⟨rfl, rfl⟩
  | some r =>
    rw [hn] at hname
    have hr : Suf s r := hsl.of (name_suf hn)
    have hne : ¬ (pos s r : Int) = 2 := by
      rw [h2]
      intro e
      have := (hr.eq_iff hsl).1 e
      rw [this] at hn
      cases l with
      | nil => cases hn
      | cons c t =>
        simp only [nameL] at hn
        split at hn
        · have hl2 := dropWhile_le nameC t
          have := congrArg List.length (Option.some.inj hn)
          simp only [List.length_cons] at this
          omega
        · cases hn
    have hgap := (show Hid _ from fun w => gap_any s hs r hr _ rfl w)
    have hend := (show Hid _ from fun w => tagEnd_any s hs _ (hr.gap 0) _ rfl w)
    clear hn h2
    go_enter Tryz.func86, Tryz.ntmps86
    go_wp2_with (first
      | (go_at_call 116; refine (hname.out _).mono ?_; rintro e w' ⟨rfl, rfl⟩)
      | (go_at_call 118; refine (hgap.out _).mono ?_; rintro e w' ⟨rfl, rfl⟩)
      | (go_at_call 117; refine (hend.out _).mono ?_; rintro e w' ⟨rfl, rfl⟩))
    go_ret
    exact ⟨rfl, rfl⟩

theorem name_lt {l r : List UInt8} (hn : nameL l = some r) : r.length < l.length := by
  cases l with
  | nil => cases hn
  | cons c t =>
    simp only [nameL] at hn
    split at hn
    · have hl2 := dropWhile_le nameC t
      have := congrArg List.length (Option.some.inj hn)
      simp only [List.length_cons]
      omega
    · cases hn

set_option maxHeartbeats 4000000 in
theorem opening_any (s : ByteArray) (hs : s.size ≤ 9223372036854775000) (a : UInt8) (l : List UInt8) (hl : s.data.toList = a :: l) (w : World) :
    Calls Tryz.prog 87 #[.string s] w fun e w' => e = .returned (.int .i64 (endN s ((nameL l).bind finL) : Int)) ∧ ∃ n, w' = w.drewN n := by
  have h2 : (1 : Int) = (pos s l : Int) := by rw [pos_of (p := [a]) hl]; rfl
  have hsl : Suf s l := ⟨[a], hl⟩
  have hname := (show Hid _ from fun w => name_any s hs l hsl 1 h2 w)
  cases hn : nameL l with
  | none =>
    have h3 : (pos s l : Int) = 1 := h2.symm
    rw [hn] at hname
    have hname : Hid (∀ w, Calls Tryz.prog 116 #[.string s, .int .i64 1] w fun e w' => e = .returned (.int .i64 1) ∧ w' = w) := fun w => by have := hname.out w; rw [show ((pos s (Option.getD none l) : Nat) : Int) = 1 from h3] at this; exact this
    clear h2 h3
    go_enter Tryz.func87, Tryz.ntmps87
    go_wp2_with (go_at_call 116; refine (hname.out _).mono ?_; rintro e w' ⟨rfl, rfl⟩)
    go_ret
    exact ⟨rfl, 0, rfl⟩
  | some r =>
    rw [hn] at hname
    have hr : Suf s r := hsl.of (name_suf hn)
    have hne : ¬ (pos s r : Int) = 1 := by
      rw [h2]
      intro e
      have h4 := (hr.eq_iff hsl).1 e
      have h5 := name_lt hn
      rw [h4] at h5
      omega
    clear hn h2
    have hne2 : ((pos s r : Int) == 1) = false := by rw [beq_eq_false_iff_ne]; exact hne
    show Calls _ _ _ _ fun e w' => e = .returned (.int .i64 (endN s (finL r) : Int)) ∧ _
    go_enter Tryz.func87, Tryz.ntmps87
    go_wp2_with (go_at_call 116; refine (hname.out _).mono ?_; rintro e w' ⟨rfl, rfl⟩)
    go_loopw [3] (fun A wr => ∃ (l' : List UInt8) (n : Nat), A = .int .i64 (pos s l' : Int) ∧ Hid (Suf s l') ∧ Hid (finL l' = finL r) ∧ wr = w'.drewN n) (fun A _ => s.size - (intOf A).toNat)
    case atStart => exact ⟨r, 0, rfl, hr, rfl, rfl⟩
    case round =>
      obtain ⟨l', n, rfl, h1, h2, rfl⟩ := hrel
      have hatt := (show Hid _ from fun w => attribute_any s hs l' h1.out w)
      have has : Suf s (attP l') := h1.out.of (attP_suf l')
      by_cases he : attP l' = l'
      · have hatt : Hid (∀ w, Calls Tryz.prog 119 #[.string s, .int .i64 (pos s l' : Int)] w fun e w' => e = .returned (.int .i64 (pos s l' : Int)) ∧ ∃ n, w' = w.drewN n) := fun w => by have := hatt.out w; rwa [he] at this
        obtain ⟨y, hy⟩ : ∃ y, y = gapL 0 l' := ⟨_, rfl⟩
        have hys : Suf s y := by rw [hy]; exact h1.out.gap 0
        have hgap : Hid (∀ w, Calls Tryz.prog 118 #[.string s, .int .i64 (pos s l' : Int)] w fun e w' => e = .returned (.int .i64 (pos s y : Int)) ∧ w' = w) := fun w => by rw [hy]; exact gap_any s hs l' h1.out _ rfl w
        have hhas := (show Hid _ from fun w => has_any s y hys _ rfl 47 47 rfl w)
        have HF : Hid (finL r = if hdB y 47 = true then closeL (y.drop 1) else closeL y) := by
          show _ = _
          rw [← h2.out, att_no he, ← hy, ← end_slash]
          cases y with
          | nil => rfl
          | cons b t => rfl
        clear he hy
        cases hd : hdB y 47
        · have hend := (show Hid _ from fun w => tagEnd_any s hs y hys _ rfl w)
          go_wp2_with (first
            | (go_at_call 119; refine (hatt.out _).mono ?_; rintro e w1 ⟨rfl, m, hw⟩; subst w1)
            | (go_at_call 118; refine (hgap.out _).mono ?_; rintro e w1 ⟨rfl, hw⟩; subst w1)
            | (go_at_call 48; refine (hhas.out _).mono ?_; rintro e w1 ⟨rfl, hw⟩; subst w1)
            | (go_at_call 117; refine (hend.out _).mono ?_; rintro e w1 ⟨rfl, hw⟩; subst w1))
          go_ret
          refine ⟨ret_int ?_, _, rfl⟩
          rw [HF.out, hd]
          rfl
        · obtain ⟨t, rfl⟩ : ∃ t, y = 47 :: t := by
            cases y with
            | nil => cases hd
            | cons b t =>
              have : b = 47 := by simpa [hdB] using hd
              exact ⟨t, by rw [this]⟩
          have hsu : (pos s (47 :: t) : Int) + 1 = (pos s t : Int) := by rw [hys.succ]; omega
          have hlt := pos_le s (47 :: t)
          have hend := (show Hid _ from fun w => tagEnd_any s hs t hys.tail _ hsu w)
          clear hsu
          go_wp2_with (first
            | (go_at_call 119; refine (hatt.out _).mono ?_; rintro e w1 ⟨rfl, m, hw⟩; subst w1)
            | (go_at_call 118; refine (hgap.out _).mono ?_; rintro e w1 ⟨rfl, hw⟩; subst w1)
            | (go_at_call 48; refine (hhas.out _).mono ?_; rintro e w1 ⟨rfl, hw⟩; subst w1)
            | (go_at_call 117; refine (hend.out _).mono ?_; rintro e w1 ⟨rfl, hw⟩; subst w1))
          go_ret
          refine ⟨ret_int ?_, _, rfl⟩
          rw [HF.out, hd]
          rfl
      · have t1 : ¬ (pos s (attP l') : Int) = (pos s l' : Int) := fun e => he ((has.eq_iff h1.out).1 e)
        have HL := (show Hid _ from attP_lt he)
        have HF := (show Hid _ from (fin_att he).trans h2.out)
        clear he
        go_wp2_with (go_at_call 119; refine (hatt.out _).mono ?_; rintro e w1 ⟨rfl, m, hw⟩; subst w1)
        go_roundw
        case rel => exact ⟨attP l', _, rfl, has, HF.out, rfl⟩
        case measure =>
          have h3 := h1.out.sum
          have h4 := has.sum
          have h5 := HL.out
          simp [intOf]
          omega

set_option maxHeartbeats 2000000 in
/-- Tag, of any text. -/
theorem tag_any (s : ByteArray) (hs : s.size ≤ 9223372036854775000) (w : World) :
    Calls Tryz.prog 54 #[.string s] w fun e w' => e = .returned (.int .i64 (tagN s.data.toList : Int)) ∧ ∃ n, w' = w.drewN n := by
  have h0 : (0 : Int) = (pos s s.data.toList : Int) := by rw [pos_whole]; rfl
  have hhas := (show Hid _ from fun w => has_any s s.data.toList (Suf.whole s) 0 h0 60 60 rfl w)
  have hend : Hid (∀ o, (∀ r, o = some r → Suf s r ∧ r.length ≤ s.data.toList.length) → endN s o = match o with | none => 0 | some r => s.data.toList.length - r.length) := fun o h => by
    cases o with
    | none => rfl
    | some r => show pos s r = _; unfold pos; rw [len_data]
  clear h0
  cases hl : s.data.toList with
  | nil =>
    rw [hl] at hhas
    have hd : hdB [] 60 = false := rfl
    go_enter Tryz.func54, Tryz.ntmps54
    go_wp2_with (go_at_call 48; refine (hhas.out _).mono ?_; rintro e w' ⟨rfl, rfl⟩)
    go_ret
    exact ⟨rfl, 0, rfl⟩
  | cons a l =>
    rw [hl] at hhas
    by_cases ha : a = 60
    · subst ha
      have hd : hdB (60 :: l) 60 = true := rfl
      have h1 : (1 : Int) = (pos s l : Int) := by rw [pos_of (p := [60]) hl]; rfl
      have hsl : Suf s l := ⟨[60], hl⟩
      have hhas1 := (show Hid _ from fun w => has_any s l hsl 1 h1 47 47 rfl w)
      clear h1
      cases h47 : hdB l 47
      · have hop := (show Hid _ from fun w => opening_any s hs 60 l hl w)
        have HT : Hid (tagN (60 :: l) = endN s ((nameL l).bind finL)) := by
          show _ = _
          cases l with
          | nil => rfl
          | cons b t =>
            have hb : b ≠ 47 := by rintro rfl; cases h47
            simp only [tagN, tagL, if_true, if_neg hb]
            cases hn : nameL (b :: t) with
            | none => rfl
            | some r =>
              simp only [Option.bind_some]
              cases hf : finL r with
              | none => rfl
              | some r2 =>
                show _ = pos s r2
                have := congrArg List.length hl
                rw [len_data] at this
                unfold pos
                rw [this]
        clear hl
        go_enter Tryz.func54, Tryz.ntmps54
        go_wp2_with (first
          | (go_at_call_of 48 (Value.int .u8 60); refine (hhas.out _).mono ?_; rintro e w' ⟨rfl, rfl⟩)
          | (go_at_call_of 48 (Value.int .u8 47); refine (hhas1.out _).mono ?_; rintro e w' ⟨rfl, rfl⟩)
          | (go_at_call 87; refine (hop.out _).mono ?_; rintro e w1 ⟨rfl, n, hw⟩; subst w1))
        go_ret
        exact ⟨ret_int (by rw [HT.out]), _, rfl⟩
      · obtain ⟨t, rfl⟩ : ∃ t, l = 47 :: t := by
          cases l with
          | nil => cases h47
          | cons b t =>
            have : b = 47 := by simpa [hdB] using h47
            exact ⟨t, by rw [this]⟩
        have hcl := (show Hid _ from fun w => closing_any s hs 60 47 t hl w)
        have HT : Hid (tagN (60 :: 47 :: t) = endN s ((nameL t).bind fun r => closeL (gapL 0 r))) := by
          show _ = _
          simp only [tagN, tagL, if_true]
          cases hn : nameL t with
          | none => rfl
          | some r =>
            simp only [Option.bind_some]
            cases hf : closeL (gapL 0 r) with
            | none => rfl
            | some r2 =>
              show _ = pos s r2
              have := congrArg List.length hl
              rw [len_data] at this
              unfold pos
              rw [this]
        clear hl
        go_enter Tryz.func54, Tryz.ntmps54
        go_wp2_with (first
          | (go_at_call_of 48 (Value.int .u8 60); refine (hhas.out _).mono ?_; rintro e w' ⟨rfl, rfl⟩)
          | (go_at_call_of 48 (Value.int .u8 47); refine (hhas1.out _).mono ?_; rintro e w' ⟨rfl, rfl⟩)
          | (go_at_call 86; refine (hcl.out _).mono ?_; rintro e w1 ⟨rfl, hw⟩; subst w1))
        go_ret
        exact ⟨ret_int (by rw [HT.out]), 0, rfl⟩
    · have hd : hdB (a :: l) 60 = false := by simpa [hdB] using ha
      have HT : Hid (tagN (a :: l) = 0) := by
        show _ = _
        cases l with
        | nil => rfl
        | cons b t => simp [tagN, tagL, ha]
      clear hl
      go_enter Tryz.func54, Tryz.ntmps54
      go_wp2_with (go_at_call 48; refine (hhas.out _).mono ?_; rintro e w' ⟨rfl, rfl⟩)
      go_ret
      exact ⟨ret_int (by rw [HT.out]; rfl), 0, rfl⟩

end Go.Proofs.YtjdijlaoeoikhaaGreatDoor
