/- LeafMarkers: a number, and what stands behind it, begin an item; walked. -/
import Derived.Test.YtnjfkgkcapkfbaaGreatDoorLMany
set_option linter.unusedVariables false
namespace Go.Proofs.YtnjfkgkcapkfbaaGreatDoor
open Go.RowKit

/-- Digits x, written behind what is left of a number k, make the number n. -/
def DigM (n k : Nat) (x : List UInt8) : Prop := numL k x = n ∧ x.all digitB = true ∧ x.length ≤ 9 ∧ k < 10 ^ (9 - x.length)

theorem digm_room {n k : Nat} {x : List UInt8} (h : DigM n k x) (hc : 0 < k ∨ x = []) : x.length < 9 := by
  obtain ⟨h1, h2, h3, h4⟩ := h
  rcases hc with hk | rfl
  · by_cases e : x.length = 9
    · rw [e, Nat.sub_self, Nat.pow_zero] at h4; omega
    · omega
  · simp

theorem digm_more {n k : Nat} {x : List UInt8} (h : DigM n k x) (hr : x.length < 9) : DigM n (k / 10) (UInt8.ofNat (48 + k % 10) :: x) := by
  have hdn : (UInt8.ofNat (48 + k % 10)).toNat = 48 + k % 10 := by rw [UInt8.toNat_ofNat']; omega
  obtain ⟨h1, h2, h3, h4⟩ := h
  refine ⟨?_, ?_, ?_, ?_⟩
  · show numL (k / 10 * 10 + ((UInt8.ofNat (48 + k % 10)).toNat - 48)) x = n
    rw [hdn, show k / 10 * 10 + (48 + k % 10 - 48) = k by omega]
    exact h1
  · rw [List.all_cons, h2, Bool.and_true]
    unfold digitB
    rw [hdn]
    simp
    omega
  · rw [List.length_cons]; omega
  · rw [List.length_cons, Nat.div_lt_iff_lt_mul (by omega)]
    rwa [show 9 - x.length = (9 - (x.length + 1)) + 1 by omega, Nat.pow_succ] at h4

def strLenV : Value → Nat
  | .string b => b.size
  | _ => 0

theorem row_digits (c : UInt8) (hc : digitB c = false) (r : List UInt8) : ∀ x : List UInt8, x.all digitB = true → rowN digitB (x ++ c :: r) = x.length
  | [], _ => by
    show rowN digitB (c :: r) = 0
    rw [row_cons, hc]
    rfl
  | d :: x, h => by
    rw [List.all_cons, Bool.and_eq_true] at h
    rw [List.cons_append, row_cons, h.1, if_pos rfl, row_digits c hc r x h.2, List.length_cons]

theorem mark_digits {n : Nat} {x : List UInt8} (h : DigM n 0 x) (hx : x ≠ []) (c : UInt8) (hc : c = 46 ∨ c = 41) (r : List UInt8) : markL (x ++ c :: r) = if partedL r = true then (c, x.length + 1, n) else (0, 0, 0) := by
  obtain ⟨h1, h2, h3, h4⟩ := h
  have hd : digitB c = false := by rcases hc with rfl | rfl <;> decide
  have hr := row_digits c hd r x h2
  have h0 : 0 < x.length := by cases x with | nil => exact absurd rfl hx | cons a t => simp
  unfold markL
  rw [hr, if_neg (by omega), List.drop_left' rfl, List.take_left' rfl, h1]
  show (if partedL r = false then _ else if _ then _ else _) = _
  cases partedL r
  · rfl
  · rw [if_neg (by decide), if_pos h0, if_pos (by rcases hc with rfl | rfl <;> rfl), if_pos rfl]

theorem mark_at (s : ByteArray) (hs : s.size ≤ 9223372036854775000) (o : UInt8 × Nat × Nat) (h : markL s.data.toList = o) (w : World) :
    Calls Tryz.prog 15 #[.string s] w fun e w' => e = .returned (.tuple #[.int .u8 (o.1.toNat : Int), .int .i64 (o.2.1 : Int), .int .i64 (o.2.2 : Int)]) ∧ Below w.heap.size w w' := by
  rw [← h]
  exact (lmarker_any s hs w).mono fun e w' ⟨he, n, hw⟩ => ⟨he, by rw [hw]; exact below_drewN (Below.refl _ _) n⟩

theorem cat_digits (ds : List UInt8) (c : UInt8) (s : ByteArray) : (ByteArray.mk ds.toArray ++ ByteArray.mk #[c] ++ s).data.toList = ds ++ c :: s.data.toList := by simp
theorem cat_size (ds : List UInt8) (h : ds.length ≤ 9) (c : UInt8) (s : ByteArray) (hs : s.size ≤ 140737488351232) : (ByteArray.mk ds.toArray ++ ByteArray.mk #[c] ++ s).size ≤ 9223372036854775000 := by
  rw [← len_data, cat_digits, List.length_append, List.length_cons, len_data]
  omega
theorem mark_yes {x : Int} (hx0 : 0 ≤ x) {ds : List UInt8} (h : DigM x.toNat 0 ds) (hx : ds ≠ []) (c : UInt8) (hc : c = 46 ∨ c = 41) (s : ByteArray) (hs : s.size ≤ 140737488351232) (hp : partedL s.data.toList = true) (w : World) :
    Calls Tryz.prog 15 #[.string (ByteArray.mk ds.toArray ++ ByteArray.mk #[c] ++ s)] w fun e w' => e = .returned (.tuple #[.int .u8 (c.toNat : Int), .int .i64 ((ds.length : Int) + 1), .int .i64 x]) ∧ Below w.heap.size w w' := by
  have := mark_at _ (cat_size ds h.2.2.1 c s hs) (c, ds.length + 1, x.toNat) (by rw [cat_digits, mark_digits h hx c hc, if_pos hp]) w
  dsimp only at this
  rw [Int.toNat_of_nonneg hx0] at this
  exact this
theorem mark_nope {n : Nat} {ds : List UInt8} (h : DigM n 0 ds) (hx : ds ≠ []) (c : UInt8) (hc : c = 46 ∨ c = 41) (s : ByteArray) (hs : s.size ≤ 140737488351232) (hp : partedL s.data.toList = false) (w : World) :
    Calls Tryz.prog 15 #[.string (ByteArray.mk ds.toArray ++ ByteArray.mk #[c] ++ s)] w fun e w' => e = .returned (.tuple #[.int .u8 0, .int .i64 0, .int .i64 0]) ∧ Below w.heap.size w w' :=
  mark_at _ (cat_size ds h.2.2.1 c s hs) (0, 0, 0) (by rw [cat_digits, mark_digits h hx c hc, if_neg (by rw [hp]; decide)]) w

/-- How a text begins, as the law asks. -/
theorem behind_cases (s : ByteArray) : (s.toList.isEmpty = true ∧ partedL s.data.toList = true) ∨ (s.toList.isEmpty = false ∧ ∃ (h : 0 < s.size) (b : UInt8), s[0]'h = b ∧ ((b.toNat = 32 ∧ partedL s.data.toList = true) ∨ (b.toNat = 9 ∧ partedL s.data.toList = true) ∨ (b.toNat ≠ 32 ∧ b.toNat ≠ 9 ∧ partedL s.data.toList = false))) := by
  cases hl : s.data.toList with
  | nil => exact .inl ⟨nil_text s _ (by rw [hl]; rfl), rfl⟩
  | cons b t =>
    right
    have hz : 0 < s.size := by rw [← len_data, hl]; simp
    refine ⟨nil_text s _ (by rw [hl]; rfl), hz, b, ?_, ?_⟩
    · have := (Suf.head hl).byte (by rw [pos_of (p := []) hl]; exact hz)
      simpa [pos_of (p := []) hl] using this
    · have hg : partedL (b :: t) = (decide (b.toNat = 32) || decide (b.toNat = 9)) := by
        show gapB b = _
        unfold gapB
        rw [← eqN b 32 (by omega), ← eqN b 9 (by omega)]
        rfl
      rw [hg]
      by_cases h1 : b.toNat = 32
      · exact .inl ⟨h1, by rw [h1]; rfl⟩
      · by_cases h2 : b.toNat = 9
        · exact .inr (.inl ⟨h2, by rw [h2]; rfl⟩)
        · exact .inr (.inr ⟨h1, h2, by rw [decide_eq_false h1, decide_eq_false h2]; rfl⟩)

set_option maxHeartbeats 8000000 in
set_option maxRecDepth 8000 in
theorem marker_from_41 (x : Int) (hx0 : 0 ≤ x) (hx1 : x < 1000000000) (a0 : Int) (hc : (0 ≤ a0 ∧ a0.tmod 1000000000 = x) ∨ (a0 < 0 ∧ -9223372036854775808 ≤ a0 ∧ (-(a0 + 1)).tmod 1000000000 = x)) (s : ByteArray) (hs : s.size ≤ 140737488351232) (w : World) :
    Calls Tryz.prog 5 #[.int .i64 a0, .bool false, .string s] w fun e w' => e = .returned (.bool true) ∧ Below w.heap.size w w' := by
  have H9 : Hid (x.toNat < 10 ^ 9) := by
    show _ < _
    have h3 : (1000000000 : Nat) ≤ 10 ^ 9 := by decide
    omega
  have HB := (show Hid _ from behind_cases s)
  rcases hc with ⟨hc0, hc1⟩ | ⟨hc0, hc2, hc1⟩
  all_goals
    go_enter Tryz.func5, Tryz.ntmps5
    go_wp2_with (go_at_call 9; refine (lshown_any _).mono ?_; rintro e w1 ⟨rfl, hb1⟩)
    go_loopw [8, 9] (fun t k wr => ∃ (kn : Nat) (ds : List UInt8), t = .string ⟨ds.toArray⟩ ∧ k = .int .i64 (kn : Int) ∧ Below w.heap.size w wr ∧ ds.length ≤ 9 ∧ Hid (DigM x.toNat kn ds)) (fun t _ _ => 9 - strLenV t)
    case atStart => exact ⟨x.toNat, [], rfl, by rw [Int.toNat_of_nonneg hx0], hb1, by simp, rfl, rfl, by simp, H9.out⟩
    case round =>
      obtain ⟨kn, ds, rfl, rfl, hbw, hdl, HD⟩ := hrel
      clear hb1
      by_cases hk : 0 < kn
      · have hroom := digm_room HD.out (.inl hk)
        have HD' : Hid (DigM x.toNat (kn / 10) (UInt8.ofNat (48 + kn % 10) :: ds)) := digm_more HD.out hroom
        have hdn : (UInt8.ofNat (48 + kn % 10)).toNat = 48 + kn % 10 := by rw [UInt8.toNat_ofNat']; omega
        have hkI : (0 : Int) < (kn : Int) := by omega
        have hkb : (kn : Int) ≤ 1000000000 := by
          have h1 := HD.out.2.2.2
          have h2 : 10 ^ (9 - ds.length) ≤ 10 ^ 9 := Nat.pow_le_pow_right (by omega) (by omega)
          have h3 : (10 : Nat) ^ 9 ≤ 1000000000 := by decide
          omega
        obtain ⟨y, hy1⟩ : ∃ y : Int, (kn : Int) % 10 = y := ⟨_, rfl⟩
        have hy2 : (kn : Int).tmod 10 = y := by rw [Int.tmod_eq_emod_of_nonneg (by omega)]; exact hy1
        have y0 : 0 ≤ y := by omega
        have y1 : y < 10 := by omega
        obtain ⟨q, hq1⟩ : ∃ q : Int, (kn : Int) / 10 = q := ⟨_, rfl⟩
        have hq2 : (kn : Int).tdiv 10 = q := by rw [Int.tdiv_eq_ediv_of_nonneg (by omega)]; exact hq1
        have q0 : 0 ≤ q := by omega
        have q1 : q ≤ 1000000000 := by omega
        have HQ : Hid (q = ((kn / 10 : Nat) : Int)) := by show _ = _; omega
        have hcl := conv_lit wr [UInt8.ofNat (48 + kn % 10)] #[.int .u8 (48 + y)] 1 rfl (by rw [show Lib.byteCells [UInt8.ofNat (48 + kn % 10)] = [.int .u8 ((UInt8.ofNat (48 + kn % 10)).toNat : Int)] by simp [Lib.byteCells], hdn, show ((48 + kn % 10 : Nat) : Int) = 48 + y by omega])
        have hbl := hbw.alloc hbw.size (.cells #[.int .u8 (48 + y)] 5)
        clear hdn
        generalize UInt8.ofNat (48 + kn % 10) = d at *
        clear HD
        go_wp2
        go_roundw
        case rel => exact ⟨kn / 10, d :: ds, by show _ = Value.string ⟨([d] ++ ds).toArray⟩; rw [← cat_eq], by rw [← HQ.out], hbl, by rw [List.length_cons]; omega, HD'⟩
        case measure => simp [strLenV, size_list] <;> omega
      have hk0 : kn = 0 := by omega
      subst hk0
      clear hk
      by_cases hne : ds = []
      · subst hne
        have HD' : Hid (DigM x.toNat 0 [48]) := digm_more HD.out (by simp)
        have hcl := conv_lit wr [48] #[.int .u8 48] 1 rfl rfl
        have hbl := hbw.alloc hbw.size (.cells #[.int .u8 48] 5)
        clear HD
        go_wp2
        go_roundw
        case rel => exact ⟨0, [48], congrArg Value.string (cat_eq [48] []), rfl, hbl, by simp, HD'⟩
        case measure => simp [strLenV, size_list]
      have hemp : ds.isEmpty = false := by simpa using hne
      have MY : Hid (partedL s.data.toList = true → ∀ w, Calls Tryz.prog 15 #[.string (ByteArray.mk ds.toArray ++ ByteArray.mk #[41] ++ s)] w fun e w' => e = .returned (.tuple #[.int .u8 41, .int .i64 ((ds.length : Int) + 1), .int .i64 x]) ∧ Below w.heap.size w w') := fun hp w => mark_yes hx0 HD.out hne 41 (.inr rfl) s hs hp w
      have MN : Hid (partedL s.data.toList = false → ∀ w, Calls Tryz.prog 15 #[.string (ByteArray.mk ds.toArray ++ ByteArray.mk #[41] ++ s)] w fun e w' => e = .returned (.tuple #[.int .u8 0, .int .i64 0, .int .i64 0]) ∧ Below w.heap.size w w') := fun hp w => mark_nope HD.out hne 41 (.inr rfl) s hs hp w
      have hcl := conv_lit wr [41] #[.int .u8 41] 1 rfl rfl
      have hbl := hbw.alloc hbw.size (.cells #[.int .u8 41] 5)
      have hdz : (ByteArray.mk ds.toArray).size = ds.length := size_list ds
      clear HD hne
      rcases HB.out with ⟨he, hp⟩ | ⟨he, hz, b, hb0, (⟨h1, hp⟩ | ⟨h1, hp⟩ | ⟨h1, h2, hp⟩)⟩
      · have HM := (show Hid _ from MY.out hp)
        clear hp HB MY MN
        go_wp2_with (go_at_call 15; refine (HM.out _).mono ?_; rintro e w5 ⟨rfl, hb5⟩)
        go_ret
        exact ⟨rfl, below_next hbl hb5⟩
      · have HM := (show Hid _ from MY.out hp)
        have q1 : (b.toNat : Int) = 32 := by omega
        clear hp HB MY MN h1
        go_wp2_with (go_at_call 15; refine (HM.out _).mono ?_; rintro e w5 ⟨rfl, hb5⟩)
        go_ret
        exact ⟨rfl, below_next hbl hb5⟩
      · have HM := (show Hid _ from MY.out hp)
        have q1 : (b.toNat : Int) = 9 := by omega
        clear hp HB MY MN h1
        go_wp2_with (go_at_call 15; refine (HM.out _).mono ?_; rintro e w5 ⟨rfl, hb5⟩)
        go_ret
        exact ⟨rfl, below_next hbl hb5⟩
      · have HM := (show Hid _ from MN.out hp)
        have q1 : ¬ (b.toNat : Int) = 32 := by omega
        have q2 : ¬ (b.toNat : Int) = 9 := by omega
        have q3 : ((b.toNat : Int) == 32) = false := by rw [beq_eq_false_iff_ne]; exact q1
        have q4 : ((b.toNat : Int) == 9) = false := by rw [beq_eq_false_iff_ne]; exact q2
        clear hp HB MY MN h1 h2
        go_wp2_with (go_at_call 15; refine (HM.out _).mono ?_; rintro e w5 ⟨rfl, hb5⟩)
        go_ret
        exact ⟨rfl, below_next hbl hb5⟩


set_option maxHeartbeats 8000000 in
set_option maxRecDepth 8000 in
theorem marker_from_46 (x : Int) (hx0 : 0 ≤ x) (hx1 : x < 1000000000) (a0 : Int) (hc : (0 ≤ a0 ∧ a0.tmod 1000000000 = x) ∨ (a0 < 0 ∧ -9223372036854775808 ≤ a0 ∧ (-(a0 + 1)).tmod 1000000000 = x)) (s : ByteArray) (hs : s.size ≤ 140737488351232) (w : World) :
    Calls Tryz.prog 5 #[.int .i64 a0, .bool true, .string s] w fun e w' => e = .returned (.bool true) ∧ Below w.heap.size w w' := by
  have H9 : Hid (x.toNat < 10 ^ 9) := by
    show _ < _
    have h3 : (1000000000 : Nat) ≤ 10 ^ 9 := by decide
    omega
  have HB := (show Hid _ from behind_cases s)
  rcases hc with ⟨hc0, hc1⟩ | ⟨hc0, hc2, hc1⟩
  all_goals
    go_enter Tryz.func5, Tryz.ntmps5
    go_wp2_with (go_at_call 9; refine (lshown_any _).mono ?_; rintro e w1 ⟨rfl, hb1⟩)
    go_loopw [8, 9] (fun t k wr => ∃ (kn : Nat) (ds : List UInt8), t = .string ⟨ds.toArray⟩ ∧ k = .int .i64 (kn : Int) ∧ Below w.heap.size w wr ∧ ds.length ≤ 9 ∧ Hid (DigM x.toNat kn ds)) (fun t _ _ => 9 - strLenV t)
    case atStart => exact ⟨x.toNat, [], rfl, by rw [Int.toNat_of_nonneg hx0], hb1, by simp, rfl, rfl, by simp, H9.out⟩
    case round =>
      obtain ⟨kn, ds, rfl, rfl, hbw, hdl, HD⟩ := hrel
      clear hb1
      by_cases hk : 0 < kn
      · have hroom := digm_room HD.out (.inl hk)
        have HD' : Hid (DigM x.toNat (kn / 10) (UInt8.ofNat (48 + kn % 10) :: ds)) := digm_more HD.out hroom
        have hdn : (UInt8.ofNat (48 + kn % 10)).toNat = 48 + kn % 10 := by rw [UInt8.toNat_ofNat']; omega
        have hkI : (0 : Int) < (kn : Int) := by omega
        have hkb : (kn : Int) ≤ 1000000000 := by
          have h1 := HD.out.2.2.2
          have h2 : 10 ^ (9 - ds.length) ≤ 10 ^ 9 := Nat.pow_le_pow_right (by omega) (by omega)
          have h3 : (10 : Nat) ^ 9 ≤ 1000000000 := by decide
          omega
        obtain ⟨y, hy1⟩ : ∃ y : Int, (kn : Int) % 10 = y := ⟨_, rfl⟩
        have hy2 : (kn : Int).tmod 10 = y := by rw [Int.tmod_eq_emod_of_nonneg (by omega)]; exact hy1
        have y0 : 0 ≤ y := by omega
        have y1 : y < 10 := by omega
        obtain ⟨q, hq1⟩ : ∃ q : Int, (kn : Int) / 10 = q := ⟨_, rfl⟩
        have hq2 : (kn : Int).tdiv 10 = q := by rw [Int.tdiv_eq_ediv_of_nonneg (by omega)]; exact hq1
        have q0 : 0 ≤ q := by omega
        have q1 : q ≤ 1000000000 := by omega
        have HQ : Hid (q = ((kn / 10 : Nat) : Int)) := by show _ = _; omega
        have hcl := conv_lit wr [UInt8.ofNat (48 + kn % 10)] #[.int .u8 (48 + y)] 1 rfl (by rw [show Lib.byteCells [UInt8.ofNat (48 + kn % 10)] = [.int .u8 ((UInt8.ofNat (48 + kn % 10)).toNat : Int)] by simp [Lib.byteCells], hdn, show ((48 + kn % 10 : Nat) : Int) = 48 + y by omega])
        have hbl := hbw.alloc hbw.size (.cells #[.int .u8 (48 + y)] 5)
        clear hdn
        generalize UInt8.ofNat (48 + kn % 10) = d at *
        clear HD
        go_wp2
        go_roundw
        case rel => exact ⟨kn / 10, d :: ds, by show _ = Value.string ⟨([d] ++ ds).toArray⟩; rw [← cat_eq], by rw [← HQ.out], hbl, by rw [List.length_cons]; omega, HD'⟩
        case measure => simp [strLenV, size_list] <;> omega
      have hk0 : kn = 0 := by omega
      subst hk0
      clear hk
      by_cases hne : ds = []
      · subst hne
        have HD' : Hid (DigM x.toNat 0 [48]) := digm_more HD.out (by simp)
        have hcl := conv_lit wr [48] #[.int .u8 48] 1 rfl rfl
        have hbl := hbw.alloc hbw.size (.cells #[.int .u8 48] 5)
        clear HD
        go_wp2
        go_roundw
        case rel => exact ⟨0, [48], congrArg Value.string (cat_eq [48] []), rfl, hbl, by simp, HD'⟩
        case measure => simp [strLenV, size_list]
      have hemp : ds.isEmpty = false := by simpa using hne
      have MY : Hid (partedL s.data.toList = true → ∀ w, Calls Tryz.prog 15 #[.string (ByteArray.mk ds.toArray ++ ByteArray.mk #[46] ++ s)] w fun e w' => e = .returned (.tuple #[.int .u8 46, .int .i64 ((ds.length : Int) + 1), .int .i64 x]) ∧ Below w.heap.size w w') := fun hp w => mark_yes hx0 HD.out hne 46 (.inl rfl) s hs hp w
      have MN : Hid (partedL s.data.toList = false → ∀ w, Calls Tryz.prog 15 #[.string (ByteArray.mk ds.toArray ++ ByteArray.mk #[46] ++ s)] w fun e w' => e = .returned (.tuple #[.int .u8 0, .int .i64 0, .int .i64 0]) ∧ Below w.heap.size w w') := fun hp w => mark_nope HD.out hne 46 (.inl rfl) s hs hp w
      have hcl := conv_lit wr [46] #[.int .u8 46] 1 rfl rfl
      have hbl := hbw.alloc hbw.size (.cells #[.int .u8 46] 5)
      have hdz : (ByteArray.mk ds.toArray).size = ds.length := size_list ds
      clear HD hne
      rcases HB.out with ⟨he, hp⟩ | ⟨he, hz, b, hb0, (⟨h1, hp⟩ | ⟨h1, hp⟩ | ⟨h1, h2, hp⟩)⟩
      · have HM := (show Hid _ from MY.out hp)
        clear hp HB MY MN
        go_wp2_with (go_at_call 15; refine (HM.out _).mono ?_; rintro e w5 ⟨rfl, hb5⟩)
        go_ret
        exact ⟨rfl, below_next hbl hb5⟩
      · have HM := (show Hid _ from MY.out hp)
        have q1 : (b.toNat : Int) = 32 := by omega
        clear hp HB MY MN h1
        go_wp2_with (go_at_call 15; refine (HM.out _).mono ?_; rintro e w5 ⟨rfl, hb5⟩)
        go_ret
        exact ⟨rfl, below_next hbl hb5⟩
      · have HM := (show Hid _ from MY.out hp)
        have q1 : (b.toNat : Int) = 9 := by omega
        clear hp HB MY MN h1
        go_wp2_with (go_at_call 15; refine (HM.out _).mono ?_; rintro e w5 ⟨rfl, hb5⟩)
        go_ret
        exact ⟨rfl, below_next hbl hb5⟩
      · have HM := (show Hid _ from MN.out hp)
        have q1 : ¬ (b.toNat : Int) = 32 := by omega
        have q2 : ¬ (b.toNat : Int) = 9 := by omega
        have q3 : ((b.toNat : Int) == 32) = false := by rw [beq_eq_false_iff_ne]; exact q1
        have q4 : ((b.toNat : Int) == 9) = false := by rw [beq_eq_false_iff_ne]; exact q2
        clear hp HB MY MN h1 h2
        go_wp2_with (go_at_call 15; refine (HM.out _).mono ?_; rintro e w5 ⟨rfl, hb5⟩)
        go_ret
        exact ⟨rfl, below_next hbl hb5⟩


theorem leafMarkers.walk (a0 : Int) (h0 : -9223372036854775808 ≤ a0 ∧ a0 ≤ 9223372036854775807) (c1 : Bool) (s : ByteArray) (hs : s.size ≤ 140737488351232) (w : World) :
    Calls Tryz.prog 5 #[.int .i64 a0, .bool c1, .string s] w fun e w' => e = .returned (.bool true) ∧ Below w.heap.size w w' := by
  obtain ⟨x, hx0, hx1, hc⟩ : ∃ x : Int, 0 ≤ x ∧ x < 1000000000 ∧ ((0 ≤ a0 ∧ a0.tmod 1000000000 = x) ∨ (a0 < 0 ∧ -9223372036854775808 ≤ a0 ∧ (-(a0 + 1)).tmod 1000000000 = x)) := by
    by_cases h : 0 ≤ a0
    · exact ⟨a0.tmod 1000000000, Int.tmod_nonneg _ h, by rw [Int.tmod_eq_emod_of_nonneg h]; omega, .inl ⟨h, rfl⟩⟩
    · exact ⟨(-(a0 + 1)).tmod 1000000000, Int.tmod_nonneg _ (by omega), by rw [Int.tmod_eq_emod_of_nonneg (by omega)]; omega, .inr ⟨by omega, h0.1, rfl⟩⟩
  cases c1
  · exact marker_from_41 x hx0 hx1 a0 hc s hs w
  · exact marker_from_46 x hx0 hx1 a0 hc s hs w

end Go.Proofs.YtnjfkgkcapkfbaaGreatDoor
