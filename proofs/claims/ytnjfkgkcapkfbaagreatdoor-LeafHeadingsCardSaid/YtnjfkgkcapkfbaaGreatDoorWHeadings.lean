/- LeafHeadings: one to six signs, a gap and a text are a heading of it; walked. -/
import Derived.Test.YtnjfkgkcapkfbaaGreatDoorLLetters
set_option linter.unusedVariables false
namespace Go.Proofs.YtnjfkgkcapkfbaaGreatDoor
open Go.RowKit

theorem dw_skip (p : UInt8 → Bool) : ∀ y x : List UInt8, y.all p = true → (y ++ x).dropWhile p = x.dropWhile p
  | [], x, _ => rfl
  | b :: t, x, h => by
    rw [List.all_cons, Bool.and_eq_true] at h
    rw [List.cons_append, List.dropWhile_cons, if_pos h.1, dw_skip p t x h.2]

theorem dw_stay (p : UInt8 → Bool) {x : List UInt8} {z : UInt8} (h : x.head? = some z) (hz : p z = false) : x.dropWhile p = x := by
  cases x with
  | nil => rfl
  | cons b t =>
    have : b = z := Option.some.inj h
    rw [List.dropWhile_cons, this, hz]
    rfl

theorem trimL_app {cs x y : List UInt8} {z : UInt8} (hy : y.all (cs.contains ·) = true) (hx : x.head? = some z) (hz : cs.contains z = false) : Lib.trimLeftS (y ++ x) cs = x := by
  unfold Lib.trimLeftS
  rw [dw_skip _ y x hy, dw_stay _ hx hz]
theorem trimR_app {cs x y : List UInt8} {z : UInt8} (hy : y.all (cs.contains ·) = true) (hx : x.getLast? = some z) (hz : cs.contains z = false) : Lib.trimRightS (x ++ y) cs = x := by
  unfold Lib.trimRightS
  rw [List.reverse_append, dw_skip _ y.reverse x.reverse (by rw [List.all_reverse]; exact hy), dw_stay _ (z := z) (by rw [List.head?_reverse]; exact hx) hz, List.reverse_reverse]

theorem gapsC (l : List UInt8) (h : l.all gapB = true) : l.all (([32, 9] : List UInt8).contains ·) = true := by
  have : (fun b : UInt8 => ([32, 9] : List UInt8).contains b) = gapB := funext gapB_row
  rw [this]
  exact h

/-- A text of letters, none of whose ends is a blank. -/
theorem lets_ends {l : List UInt8} (h : Lets l) (hl : l.getLast? ≠ some 32) (hn : l ≠ []) : (∃ z, l.head? = some z ∧ 97 ≤ z.toNat) ∧ ∃ z, l.getLast? = some z ∧ 97 ≤ z.toNat := by
  constructor
  · cases l with
    | nil => exact absurd rfl hn
    | cons b t =>
      refine ⟨b, rfl, ?_⟩
      rcases h.1 b (by simp) with h1 | h1
      · exact h1.1
      · exact absurd (by rw [h1]; rfl) h.2
  · cases hg : l.getLast? with
    | none => exact absurd (by simpa using hg) hn
    | some z =>
      refine ⟨z, rfl, ?_⟩
      have hm : z ∈ l := List.mem_of_getLast? hg
      rcases h.1 z hm with h1 | h1
      · exact h1.1
      · exact absurd (by rw [hg, h1]) hl

theorem big_gap {z : UInt8} (h : 97 ≤ z.toNat) : ([32, 9] : List UInt8).contains z = false := by
  rw [gapB_row]
  unfold gapB
  rw [Bool.or_eq_false_iff]
  constructor <;> (rw [beq_eq_false_iff_ne]; rintro rfl; exact absurd h (by decide))
theorem big_sign {z : UInt8} (h : 97 ≤ z.toNat) : ([35] : List UInt8).contains z = false := by
  rw [List.contains_cons, Bool.or_eq_false_iff]
  constructor
  · rw [beq_eq_false_iff_ne]; rintro rfl; exact absurd h (by decide)
  · rfl

theorem head_of {n : Nat} {r : List UInt8} (hr : r.head? ≠ some 35) : headL (List.replicate n 35 ++ r) = if n < 1 ∨ 6 < n ∨ partedL r = false then (0, []) else (n, headT (trimG r)) := by
  unfold headL
  rw [lrun_rep 35 r hr n, List.drop_left' (by simp)]

theorem headT_nil : headT [] = [] := by decide

/-- The text behind signs: gaps, letters, and nothing. -/
theorem text_nil {g : List UInt8} (hg : g.all gapB = true) : headT (trimG g) = [] := by
  have : trimG g = [] := by
    have := gap_nil g
    rw [hg] at this
    exact List.isEmpty_iff.1 this
  rw [this, headT_nil]

theorem text_plain {g g2 l : List UInt8} (hg : g.all gapB = true) (hg2 : g2.all gapB = true) (h : Lets l) (hl : l.getLast? ≠ some 32) (hn : l ≠ []) : headT (trimG (g ++ l ++ g2)) = l := by
  obtain ⟨⟨z, z1, z2⟩, ⟨y, y1, y2⟩⟩ := lets_ends h hl hn
  have h1 : trimG (g ++ l ++ g2) = l := by
    unfold trimG Lib.trimS
    rw [trimR_app (z := y) (gapsC g2 hg2) (by rw [List.getLast?_append, y1]; rfl) (big_gap y2), trimL_app (gapsC g hg) z1 (big_gap z2)]
  rw [h1]
  unfold headT
  have h2 : Lib.trimRightS l [35] = l := by
    have := trimR_app (cs := [35]) (x := l) (y := []) rfl y1 (big_sign y2)
    rwa [List.append_nil] at this
  have h3 : Lib.trimRightS l [32, 9] = l := by
    have := trimR_app (cs := [32, 9]) (x := l) (y := []) rfl y1 (big_gap y2)
    rwa [List.append_nil] at this
  simp only [h2, h3]
  rw [if_pos ⟨trivial, hn⟩]

theorem text_signs {g g2 g3 l : List UInt8} {k : Nat} (hk : 0 < k) (hg : g.all gapB = true) (hg2 : g2.all gapB = true) (hne : g2 ≠ []) (hg3 : g3.all gapB = true) (h : Lets l) (hl : l.getLast? ≠ some 32) (hn : l ≠ []) : headT (trimG (g ++ l ++ g2 ++ List.replicate k 35 ++ g3)) = l := by
  obtain ⟨⟨z, z1, z2⟩, ⟨y, y1, y2⟩⟩ := lets_ends h hl hn
  obtain ⟨j, rfl⟩ : ∃ j, k = j + 1 := ⟨k - 1, by omega⟩
  have hz1 : (l ++ g2 ++ List.replicate (j + 1) 35).head? = some z := by
    cases l with
    | nil => exact absurd rfl hn
    | cons b t => exact z1
  have h1 : trimG (g ++ l ++ g2 ++ List.replicate (j + 1) 35 ++ g3) = l ++ g2 ++ List.replicate (j + 1) 35 := by
    unfold trimG Lib.trimS
    rw [trimR_app (z := 35) (gapsC g3 hg3) (by rw [List.getLast?_append, List.replicate_succ', List.getLast?_append]; rfl) (by decide)]
    rw [show g ++ l ++ g2 ++ List.replicate (j + 1) 35 = g ++ (l ++ g2 ++ List.replicate (j + 1) 35) by simp]
    exact trimL_app (gapsC g hg) hz1 (big_gap z2)
  rw [h1]
  unfold headT
  obtain ⟨u, hu⟩ : ∃ u, g2.getLast? = some u := by
    cases hq : g2.getLast? with
    | none => exact absurd (by simpa using hq) hne
    | some u => exact ⟨u, rfl⟩
  have hug : gapB u = true := List.all_eq_true.1 hg2 u (List.mem_of_getLast? hu)
  have hu35 : ([35] : List UInt8).contains u = false := by
    rw [List.contains_cons, Bool.or_eq_false_iff]
    refine ⟨?_, rfl⟩
    rw [beq_eq_false_iff_ne]
    rintro rfl
    cases hug
  have h2 : Lib.trimRightS (l ++ g2 ++ List.replicate (j + 1) 35) [35] = l ++ g2 := trimR_app (z := u) (by rw [List.all_replicate]; split <;> rfl) (by rw [List.getLast?_append, hu]; rfl) hu35
  have h3 : Lib.trimRightS (l ++ g2) [32, 9] = l := trimR_app (gapsC g2 hg2) y1 (big_gap y2)
  simp only [h2, h3]
  rw [if_neg]
  rintro ⟨e, _⟩
  have := congrArg List.length e
  rw [List.length_append] at this
  have := List.length_pos_iff.2 hne
  omega

theorem head_at (s : ByteArray) (hs : s.size ≤ 9223372036854775000) (n : Nat) (l : List UInt8) (h : headL s.data.toList = (n, l)) (w : World) :
    Calls Tryz.prog 11 #[.string s] w fun e w' => e = .returned (.tuple #[.int .i64 (n : Int), .string ⟨l.toArray⟩]) ∧ Below w.heap.size w w' := by
  have := lheading_any s hs w
  rw [h] at this
  exact this

theorem gap_cons {g : List UInt8} (h : g.all gapB = true) : ((32 : UInt8) :: g).all gapB = true := by rw [List.all_cons, h]; rfl

/-- The three texts of the law, over lists: what Heading tells of them. -/
theorem head_short {n : Nat} (h1 : 1 ≤ n) {g : List UInt8} (hg : g.all gapB = true) : headL (List.replicate n 35 ++ 32 :: g) = if 6 < n then (0, []) else (n, []) := by
  rw [head_of (by simp)]
  by_cases h6 : 6 < n
  · rw [if_pos (.inr (.inl h6)), if_pos h6]
  · rw [if_neg (by rintro (h | h | h); omega; omega; cases h), if_neg h6, text_nil (gap_cons hg)]
theorem head_long {n k : Nat} (h1 : 1 ≤ n) {g l : List UInt8} (hg : g.all gapB = true) (h : Lets l) (hl : l.getLast? ≠ some 32) (hn : l ≠ []) : headL (List.replicate n 35 ++ (32 :: g ++ l ++ (32 :: g) ++ List.replicate k 35 ++ g)) = if 6 < n then (0, []) else (n, l) := by
  rw [head_of (by simp)]
  by_cases h6 : 6 < n
  · rw [if_pos (.inr (.inl h6)), if_pos h6]
  · rw [if_neg (by rintro (h | h | h); omega; omega; cases h), if_neg h6]
    rcases Nat.eq_zero_or_pos k with rfl | hk
    · rw [show 32 :: g ++ l ++ 32 :: g ++ List.replicate 0 35 ++ g = (32 :: g) ++ l ++ (32 :: g ++ g) by simp, text_plain (gap_cons hg) (by rw [List.all_append, gap_cons hg, hg]; rfl) h hl hn]
    · rw [text_signs hk (gap_cons hg) (gap_cons hg) (by simp) hg h hl hn]
theorem head_word {n : Nat} (l : List UInt8) : headL (List.replicate n 35 ++ 120 :: l) = (0, []) := by
  rw [head_of (by simp), if_pos (.inr (.inr rfl))]

set_option maxHeartbeats 8000000 in
set_option maxRecDepth 8000 in
theorem leafHeadings.walk (a0 : Int) (h0 : -9223372036854775808 ≤ a0 ∧ a0 ≤ 9223372036854775807) (s1 : ByteArray) (hs : s1.size ≤ 140737488351232) (a2 : Int) (h2 : -9223372036854775808 ≤ a2 ∧ a2 ≤ 9223372036854775807) (a3 : Int) (h3 : -9223372036854775808 ≤ a3 ∧ a3 ≤ 9223372036854775807) (w : World) :
    Calls Tryz.prog 6 #[.int .i64 a0, .string s1, .int .i64 a2, .int .i64 a3] w fun e w' => e = .returned (.bool true) ∧ Below w.heap.size w w' := by
  obtain ⟨x, hx7, hx⟩ := and_bits 7 (by omega) a0
  obtain ⟨y, hy7, hy⟩ := and_bits 7 (by omega) a2
  obtain ⟨z, hz1, hz⟩ := and_bits 1 (by omega) (a2 / 8)
  obtain ⟨k, hk15, hk⟩ := and_bits 15 (by omega) a3
  have hx : bits .and .i64 a0 7 = (x : Int) := hx
  have hy : bits .and .i64 a2 7 = (y : Int) := hy
  have hz : bits .and .i64 (a2 / 8) 1 = (z : Int) := hz
  have hk : bits .and .i64 a3 15 = (k : Int) := hk
  obtain ⟨A, hA⟩ : ∃ A, A = repB (x + 1) 35 := ⟨_, rfl⟩
  have hAs : A.size = x + 1 := by rw [hA, repB_size]
  have hAd : A.data.toList = List.replicate (x + 1) 35 := by rw [hA, repB_data]
  have HA : Hid (∀ v w, v = ((x + 1 : Nat) : Int) → Calls Tryz.prog 17 #[.string ⟨#[35]⟩, .int .i64 v] w fun e w' => e = .returned (.string A) ∧ w' = w) := fun v w hv => by rw [hA]; exact many_at 35 (x + 1) v hv (by omega) w
  obtain ⟨D, hD⟩ : ∃ D, D = repB k 35 := ⟨_, rfl⟩
  have hDs : D.size = k := by rw [hD, repB_size]
  have hDd : D.data.toList = List.replicate k 35 := by rw [hD, repB_data]
  have HD : Hid (∀ w, Calls Tryz.prog 17 #[.string ⟨#[35]⟩, .int .i64 (k : Int)] w fun e w' => e = .returned (.string D) ∧ w' = w) := fun w => by rw [hD]; exact many_any 35 k (by omega) w
  obtain ⟨B, hB⟩ : ∃ B, B = repB y 32 := ⟨_, rfl⟩
  have hBs : B.size = y := by rw [hB, repB_size]
  have hBd : B.data.toList = List.replicate y 32 := by rw [hB, repB_data]
  have HB : Hid (∀ w, Calls Tryz.prog 17 #[.string ⟨#[32]⟩, .int .i64 (y : Int)] w fun e w' => e = .returned (.string B) ∧ w' = w) := fun w => by rw [hB]; exact many_any 32 y (by omega) w
  obtain ⟨C, hC⟩ : ∃ C, C = repB z 9 := ⟨_, rfl⟩
  have hCs : C.size = z := by rw [hC, repB_size]
  have hCd : C.data.toList = List.replicate z 9 := by rw [hC, repB_data]
  have HC : Hid (∀ w, Calls Tryz.prog 17 #[.string ⟨#[9]⟩, .int .i64 (z : Int)] w fun e w' => e = .returned (.string C) ∧ w' = w) := fun w => by rw [hC]; exact many_any 9 z (by omega) w
  have hGd : (B ++ C).data.toList = List.replicate y 32 ++ List.replicate z 9 := by rw [ByteArray.data_append, Array.toList_append, hBd, hCd]
  have hGg : (B ++ C).data.toList.all gapB = true := by rw [hGd]; exact gaps_all y z
  have hGs : (B ++ C).size = y + z := by rw [ByteArray.size_append]; omega
  have HGG := (show Hid _ from hGg)
  have HAD := (show Hid _ from hAd)
  have HDD := (show Hid _ from hDd)
  clear hA hB hC hD hAd hDd hBd hCd hGd hGg
  go_enter Tryz.func6, Tryz.ntmps6
  go_wp2_with (first
    | (go_at_call 9; refine (lshown_any _).mono ?_; rintro e w0 ⟨rfl, hb0⟩)
    | (go_at_call 16; refine (letters_any s1 (by omega) _).mono ?_))
  rintro e w2 ⟨l, rfl, hL, hlast, hlen, hb2⟩
  have hbw := below_next hb0 hb2
  clear hb0 hb2
  obtain ⟨T, hT⟩ : ∃ T : ByteArray, T = ⟨l.toArray⟩ := ⟨_, rfl⟩
  have hTs : T.size = l.length := by rw [hT, size_list]
  have hTd : T.data.toList = l := by rw [hT]
  have hTe : T.toList.isEmpty = l.isEmpty := nil_text T _ (by rw [hTd])
  rw [← hT]
  have HT := (show Hid _ from hT)
  clear hT
  have q0 : (0 : Int) ≤ (x : Int) := by omega
  have H3 : Hid (∀ w, Calls Tryz.prog 11 #[.string (A ++ ByteArray.mk #[120] ++ T)] w fun e w' => e = .returned (.tuple #[.int .i64 0, .string ⟨#[]⟩]) ∧ Below w.heap.size w w') := fun w => by
    refine head_at _ (by rw [ByteArray.size_append, ByteArray.size_append]; show _ + 1 + _ ≤ _; omega) 0 [] ?_ w
    rw [ByteArray.data_append, ByteArray.data_append, Array.toList_append, Array.toList_append, HAD.out, hTd, List.append_assoc]
    exact head_word l
  have d1 : (A ++ ByteArray.mk #[32] ++ (B ++ C) ++ T).data.toList = List.replicate (x + 1) 35 ++ (32 :: (B ++ C).data.toList ++ l) := by
    rw [ByteArray.data_append, Array.toList_append, ByteArray.data_append, Array.toList_append, ByteArray.data_append, Array.toList_append, HAD.out, hTd]
    simp
  have z1 : (A ++ ByteArray.mk #[32]).size = x + 2 := by rw [ByteArray.size_append, hAs]; rfl
  have z2 : (A ++ ByteArray.mk #[32] ++ (B ++ C)).size = x + 2 + (y + z) := by rw [ByteArray.size_append, z1, hGs]
  have z3 : (A ++ ByteArray.mk #[32] ++ (B ++ C) ++ T).size = x + 2 + (y + z) + l.length := by rw [ByteArray.size_append, z2, hTs]
  have z4 : (A ++ ByteArray.mk #[120]).size = x + 2 := by rw [ByteArray.size_append, hAs]; rfl
  have HTE := (show Hid _ from hTe)
  clear hTe
  by_cases hn : l = []
  · have hte : T.toList.isEmpty = true := by rw [HTE.out, hn]; rfl
    have HTN : Hid (T = ⟨#[]⟩) := by show _ = _; rw [HT.out, hn]
    have hdat : (A ++ ByteArray.mk #[32] ++ (B ++ C) ++ T).data.toList = List.replicate (x + 1) 35 ++ 32 :: (B ++ C).data.toList := by rw [d1, hn, List.append_nil]
    have hz9 : (A ++ ByteArray.mk #[32] ++ (B ++ C) ++ T).size ≤ 9223372036854775000 := by omega
    by_cases h6 : 6 < x + 1
    · have q6 : (6 : Int) < 1 + (x : Int) := by omega
      have H1 : Hid (∀ w, Calls Tryz.prog 11 #[.string (A ++ ByteArray.mk #[32] ++ (B ++ C) ++ T)] w fun e w' => e = .returned (.tuple #[.int .i64 0, .string ⟨#[]⟩]) ∧ Below w.heap.size w w') := fun w => by
        have := head_at (A ++ ByteArray.mk #[32] ++ (B ++ C) ++ T) hz9 0 [] (by rw [hdat]; exact (head_short (by omega) HGG.out).trans (if_pos h6)) w
        exact this
      clear d1 hdat hz9
      go_wp2_with (first
      | (go_at_call_of 17 (Value.string ⟨#[32]⟩); refine (HB.out _).mono ?_; rintro e w3 ⟨rfl, hw⟩; subst w3)
      | (go_at_call_of 17 (Value.string ⟨#[9]⟩); refine (HC.out _).mono ?_; rintro e w3 ⟨rfl, hw⟩; subst w3)
      | (go_at_call_of 17 (Value.int .i64 (k : Int)); refine (HD.out _).mono ?_; rintro e w3 ⟨rfl, hw⟩; subst w3)
      | (go_at_call_of 17 (Value.string ⟨#[35]⟩); refine (HA.out _ _ (by omega)).mono ?_; rintro e w3 ⟨rfl, hw⟩; subst w3)
      | (go_at_call_of 11 (Value.string (A ++ ByteArray.mk #[32] ++ (B ++ C) ++ T)); refine (H1.out _).mono ?_; rintro e w4 ⟨rfl, hb4⟩)
      | (go_at_call_of 11 (Value.string (A ++ ByteArray.mk #[120] ++ T)); refine (H3.out _).mono ?_; rintro e w5 ⟨rfl, hb5⟩))
      go_ret
      exact ⟨rfl, below_next hbw hb4⟩
    · have q6 : ¬ (6 : Int) < 1 + (x : Int) := by omega
      have H1 : Hid (∀ w, Calls Tryz.prog 11 #[.string (A ++ ByteArray.mk #[32] ++ (B ++ C) ++ T)] w fun e w' => e = .returned (.tuple #[.int .i64 (1 + (x : Int)), .string T]) ∧ Below w.heap.size w w') := fun w => by
        have := head_at (A ++ ByteArray.mk #[32] ++ (B ++ C) ++ T) hz9 (x + 1) [] (by rw [hdat]; exact (head_short (by omega) HGG.out).trans (if_neg h6)) w
        rw [show (((x + 1 : Nat) : Int)) = 1 + (x : Int) by omega] at this
        rw [show ByteArray.mk ([] : List UInt8).toArray = T from HTN.out.symm] at this
        exact this
      clear d1 hdat hz9
      go_wp2_with (first
      | (go_at_call_of 17 (Value.string ⟨#[32]⟩); refine (HB.out _).mono ?_; rintro e w3 ⟨rfl, hw⟩; subst w3)
      | (go_at_call_of 17 (Value.string ⟨#[9]⟩); refine (HC.out _).mono ?_; rintro e w3 ⟨rfl, hw⟩; subst w3)
      | (go_at_call_of 17 (Value.int .i64 (k : Int)); refine (HD.out _).mono ?_; rintro e w3 ⟨rfl, hw⟩; subst w3)
      | (go_at_call_of 17 (Value.string ⟨#[35]⟩); refine (HA.out _ _ (by omega)).mono ?_; rintro e w3 ⟨rfl, hw⟩; subst w3)
      | (go_at_call_of 11 (Value.string (A ++ ByteArray.mk #[32] ++ (B ++ C) ++ T)); refine (H1.out _).mono ?_; rintro e w4 ⟨rfl, hb4⟩)
      | (go_at_call_of 11 (Value.string (A ++ ByteArray.mk #[120] ++ T)); refine (H3.out _).mono ?_; rintro e w5 ⟨rfl, hb5⟩))
      go_ret
      exact ⟨rfl, below_next (below_next hbw hb4) hb5⟩
  · have hte : T.toList.isEmpty = false := by
      rw [HTE.out]
      cases l with
      | nil => exact absurd rfl hn
      | cons b t => rfl
    have hdat : (A ++ ByteArray.mk #[32] ++ (B ++ C) ++ T ++ ByteArray.mk #[32] ++ (B ++ C) ++ D ++ (B ++ C)).data.toList = List.replicate (x + 1) 35 ++ (32 :: (B ++ C).data.toList ++ l ++ (32 :: (B ++ C).data.toList) ++ List.replicate k 35 ++ (B ++ C).data.toList) := by
      rw [ByteArray.data_append, Array.toList_append, ByteArray.data_append, Array.toList_append, ByteArray.data_append, Array.toList_append, ByteArray.data_append, Array.toList_append, d1, HDD.out]
      simp
    have z5 : (A ++ ByteArray.mk #[32] ++ (B ++ C) ++ T ++ ByteArray.mk #[32]).size = x + 2 + (y + z) + l.length + 1 := by rw [ByteArray.size_append, z3]; rfl
    have z6 : (A ++ ByteArray.mk #[32] ++ (B ++ C) ++ T ++ ByteArray.mk #[32] ++ (B ++ C)).size = x + 2 + (y + z) + l.length + 1 + (y + z) := by rw [ByteArray.size_append, z5, hGs]
    have z7 : (A ++ ByteArray.mk #[32] ++ (B ++ C) ++ T ++ ByteArray.mk #[32] ++ (B ++ C) ++ D).size = x + 2 + (y + z) + l.length + 1 + (y + z) + k := by rw [ByteArray.size_append, z6, hDs]
    have hz9 : (A ++ ByteArray.mk #[32] ++ (B ++ C) ++ T ++ ByteArray.mk #[32] ++ (B ++ C) ++ D ++ (B ++ C)).size ≤ 9223372036854775000 := by rw [ByteArray.size_append, z7, hGs]; omega
    by_cases h6 : 6 < x + 1
    · have q6 : (6 : Int) < 1 + (x : Int) := by omega
      have H1 : Hid (∀ w, Calls Tryz.prog 11 #[.string (A ++ ByteArray.mk #[32] ++ (B ++ C) ++ T ++ ByteArray.mk #[32] ++ (B ++ C) ++ D ++ (B ++ C))] w fun e w' => e = .returned (.tuple #[.int .i64 0, .string ⟨#[]⟩]) ∧ Below w.heap.size w w') := fun w => by
        have := head_at (A ++ ByteArray.mk #[32] ++ (B ++ C) ++ T ++ ByteArray.mk #[32] ++ (B ++ C) ++ D ++ (B ++ C)) hz9 0 [] (by rw [hdat]; exact (head_long (by omega) HGG.out hL hlast hn).trans (if_pos h6)) w
        exact this
      clear d1 hdat hz9
      go_wp2_with (first
      | (go_at_call_of 17 (Value.string ⟨#[32]⟩); refine (HB.out _).mono ?_; rintro e w3 ⟨rfl, hw⟩; subst w3)
      | (go_at_call_of 17 (Value.string ⟨#[9]⟩); refine (HC.out _).mono ?_; rintro e w3 ⟨rfl, hw⟩; subst w3)
      | (go_at_call_of 17 (Value.int .i64 (k : Int)); refine (HD.out _).mono ?_; rintro e w3 ⟨rfl, hw⟩; subst w3)
      | (go_at_call_of 17 (Value.string ⟨#[35]⟩); refine (HA.out _ _ (by omega)).mono ?_; rintro e w3 ⟨rfl, hw⟩; subst w3)
      | (go_at_call_of 11 (Value.string (A ++ ByteArray.mk #[32] ++ (B ++ C) ++ T ++ ByteArray.mk #[32] ++ (B ++ C) ++ D ++ (B ++ C))); refine (H1.out _).mono ?_; rintro e w4 ⟨rfl, hb4⟩)
      | (go_at_call_of 11 (Value.string (A ++ ByteArray.mk #[120] ++ T)); refine (H3.out _).mono ?_; rintro e w5 ⟨rfl, hb5⟩))
      go_ret
      exact ⟨rfl, below_next hbw hb4⟩
    · have q6 : ¬ (6 : Int) < 1 + (x : Int) := by omega
      have H1 : Hid (∀ w, Calls Tryz.prog 11 #[.string (A ++ ByteArray.mk #[32] ++ (B ++ C) ++ T ++ ByteArray.mk #[32] ++ (B ++ C) ++ D ++ (B ++ C))] w fun e w' => e = .returned (.tuple #[.int .i64 (1 + (x : Int)), .string T]) ∧ Below w.heap.size w w') := fun w => by
        have := head_at (A ++ ByteArray.mk #[32] ++ (B ++ C) ++ T ++ ByteArray.mk #[32] ++ (B ++ C) ++ D ++ (B ++ C)) hz9 (x + 1) l (by rw [hdat]; exact (head_long (by omega) HGG.out hL hlast hn).trans (if_neg h6)) w
        rw [show (((x + 1 : Nat) : Int)) = 1 + (x : Int) by omega] at this
        rw [show ByteArray.mk l.toArray = T from HT.out.symm] at this
        exact this
      clear d1 hdat hz9
      go_wp2_with (first
      | (go_at_call_of 17 (Value.string ⟨#[32]⟩); refine (HB.out _).mono ?_; rintro e w3 ⟨rfl, hw⟩; subst w3)
      | (go_at_call_of 17 (Value.string ⟨#[9]⟩); refine (HC.out _).mono ?_; rintro e w3 ⟨rfl, hw⟩; subst w3)
      | (go_at_call_of 17 (Value.int .i64 (k : Int)); refine (HD.out _).mono ?_; rintro e w3 ⟨rfl, hw⟩; subst w3)
      | (go_at_call_of 17 (Value.string ⟨#[35]⟩); refine (HA.out _ _ (by omega)).mono ?_; rintro e w3 ⟨rfl, hw⟩; subst w3)
      | (go_at_call_of 11 (Value.string (A ++ ByteArray.mk #[32] ++ (B ++ C) ++ T ++ ByteArray.mk #[32] ++ (B ++ C) ++ D ++ (B ++ C))); refine (H1.out _).mono ?_; rintro e w4 ⟨rfl, hb4⟩)
      | (go_at_call_of 11 (Value.string (A ++ ByteArray.mk #[120] ++ T)); refine (H3.out _).mono ?_; rintro e w5 ⟨rfl, hb5⟩))
      go_ret
      exact ⟨rfl, below_next (below_next hbw hb4) hb5⟩

end Go.Proofs.YtnjfkgkcapkfbaaGreatDoor
