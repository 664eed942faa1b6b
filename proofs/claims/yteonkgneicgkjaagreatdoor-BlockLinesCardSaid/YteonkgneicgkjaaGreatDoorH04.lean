/- Several texts in one. -/
import Derived.Test.YteonkgneicgkjaaGreatDoorG50
import Derived.Test.YteonkgneicgkjaaGreatDoorH01
import Derived.Laws.Strings3
set_option linter.unusedVariables false
/- What the laws' texts are put together of. -/
namespace Go.Proofs.YteonkgneicgkjaaGreatDoor
open Go.RowKit

theorem sadd (A B : Str) (h : A.length + B.length ≤ 9223372036854775000) : ∀ w, (Op.stringOp .add (ByteArray.mk A.toArray) (ByteArray.mk B.toArray)).run Tryz.prog w = .ok (.string ⟨(A ++ B).toArray⟩) w := by
  intro w
  rw [← cat_eq]
  exact run_string_add_sum (w := w) _ _ (by rw [size_list, size_list]; omega)

/-- What the lines of a text are like. -/
theorem lines_ok (l : Str) : (∀ x ∈ lines l, ∀ c ∈ x, notEnd c = true) ∧ (∀ x ∈ lines l, x.length ≤ l.length) ∧ (lines l).length ≤ l.length := by
  have key : ∀ (f i : Nat), ∀ x ∈ linesF l f i, (∀ c ∈ x, notEnd c = true) ∧ x.length ≤ l.length := by
    intro f
    induction f with
    | zero => intro i x hx; cases hx
    | succ f ih =>
      intro i x hx
      simp only [linesF] at hx
      split at hx
      · rcases List.mem_cons.1 hx with q | q
        · subst q
          constructor
          · intro c hc
            exact List.all_eq_true.1 (List.all_takeWhile (p := notEnd) (l := l.drop i)) c hc
          · have h1 := (List.takeWhile_prefix (p := notEnd) (l := l.drop i)).length_le
            rw [List.length_drop] at h1
            omega
        · exact ih _ x q
      · cases hx
  exact ⟨fun x hx => (key _ _ x hx).1, fun x hx => (key _ _ x hx).2, linesF_le l _ _⟩

theorem beh_of_spaces : ∀ (x : Str), (∀ c ∈ x, c ≠ 9) → spacesL x = false → beh x ≠ []
  | [], _, h => by cases h
  | a :: t, h9, h => by
    unfold beh
    split
    · rename_i hb
      have ha : a = 32 := by
        rcases (isB_iff a).1 hb with q | q
        · exact q
        · exact absurd q (h9 a (List.mem_cons_self ..))
      subst ha
      exact beh_of_spaces t (fun c hc => h9 c (List.mem_cons_of_mem _ hc)) (by simpa [spacesL] using h)
    · simp

theorem quoted_ok {ls : List Str} (h : quotedL ls = true) : ∀ x ∈ ls, ∀ c ∈ x, c ≠ 9 := by
  intro x hx c hc
  unfold quotedL at h
  have := List.all_eq_true.1 (List.all_eq_true.1 h x hx) c hc
  simpa using this

abbrev indT (ls : List Str) : Str := ls.flatMap (fun x => [32, 32, 32, 32] ++ x ++ [10])
abbrev catT (ls : List Str) : Str := ls.flatMap (fun x => x ++ [10])
def fenceL1 (c : UInt8) : Bool := c == 96 || c == 126
def closeT (ls : List Str) : Bool := ls.any (fun x => x.any fenceL1)

theorem catT_len : ∀ (ls : List Str) (m : Nat), (∀ x ∈ ls, x.length ≤ m) → (catT ls).length ≤ ls.length * (m + 1) ∧ (indT ls).length ≤ ls.length * (m + 5)
  | [], m, _ => by simp
  | x :: r, m, h => by
    obtain ⟨h1, h2⟩ := catT_len r m (fun y hy => h y (List.mem_cons_of_mem _ hy))
    have h3 := h x (List.mem_cons_self ..)
    have e1 : (catT (x :: r)).length = x.length + 1 + (catT r).length := by simp [catT]; omega
    have e2 : (indT (x :: r)).length = x.length + 5 + (indT r).length := by simp [indT]; omega
    rw [e1, e2, List.length_cons, Nat.succ_mul, Nat.succ_mul]
    omega

theorem cat_next {ls : List Str} {k : Nat} {z : Str} (h : ls[k]? = some z) : catT (ls.take (k + 1)) = catT (ls.take k) ++ z ++ [10] := by
  rw [List.take_add_one, h]
  simp [catT]

end Go.Proofs.YteonkgneicgkjaaGreatDoor

/- BlockLines: how lines end, and how many empty ones stand ahead, does not matter; walked. -/
namespace Go.Proofs.YteonkgneicgkjaaGreatDoor
open Go.RowKit
open cur (cell_blk)

/-- A number that is not below 0, out of any. -/
def Fold7 (a x : Int) (m : Int) : Prop := (¬ a < 0 ∧ a.tmod m = x) ∨ (a < 0 ∧ -9223372036854775808 ≤ a ∧ (-(a + 1)).tmod m = x)
theorem fold7 (a : Int) (h0 : -9223372036854775808 ≤ a) (m : Int) (hm : 0 < m) : ∃ x : Int, 0 ≤ x ∧ x < m ∧ Fold7 a x m := by
  by_cases h : 0 ≤ a
  · exact ⟨a.tmod m, Int.tmod_nonneg _ h, by rw [Int.tmod_eq_emod_of_nonneg h]; exact Int.emod_lt_of_pos _ hm, .inl ⟨by omega, rfl⟩⟩
  · exact ⟨(-(a + 1)).tmod m, Int.tmod_nonneg _ (by omega), by rw [Int.tmod_eq_emod_of_nonneg (by omega)]; exact Int.emod_lt_of_pos _ hm, .inr ⟨by omega, h0, rfl⟩⟩

/-- Empty lines, and lines, each with that end. -/
abbrev endT (e : Str) (j : Nat) (ls : List Str) : Str := (List.replicate j e).flatten ++ ls.flatMap (fun x => x ++ e)
def endOk (e : Str) : Prop := e = [10] ∨ e = [13, 10] ∨ e = [13]
theorem lines_ends {e : Str} (he : endOk e) : ∀ (ls : List Str), (∀ x ∈ ls, ∀ c ∈ x, notEnd c = true) → lines (ls.flatMap (fun x => x ++ e)) = ls ∧ (ls.flatMap (fun x => x ++ e)).head? ≠ some 10 ∨ e = [10] ∧ lines (ls.flatMap (fun x => x ++ e)) = ls
  | [], _ => .inl ⟨rfl, by simp⟩
  | x :: r, h => by
    have hx := h x (List.mem_cons_self ..)
    have ih := lines_ends he r (fun y hy => h y (List.mem_cons_of_mem _ hy))
    have hl : lines (r.flatMap (fun x => x ++ e)) = r := by
      rcases ih with q | q
      · exact q.1
      · exact q.2
    rw [List.flatMap_cons]
    rcases he with rfl | rfl | rfl
    · right
      exact ⟨rfl, by rw [lines_part x [10] _ hx (.inl rfl), hl]⟩
    · left
      refine ⟨by rw [lines_part x [13, 10] _ hx (.inr (.inl rfl)), hl], ?_⟩
      cases x with
      | nil => simp
      | cons a t => simp; intro e; have := hx a (List.mem_cons_self ..); rw [e] at this; cases this
    · left
      have hr : (r.flatMap (fun x => x ++ [13])).head? ≠ some 10 := by
        rcases ih with q | q
        · exact q.2
        · cases q.1
      refine ⟨by rw [lines_part x [13] _ hx (.inr (.inr ⟨rfl, hr⟩)), hl], ?_⟩
      cases x with
      | nil => simp
      | cons a t => simp; intro e; have := hx a (List.mem_cons_self ..); rw [e] at this; cases this
theorem lines_endT {e : Str} (he : endOk e) (j : Nat) (ls : List Str) (h : ∀ x ∈ ls, ∀ c ∈ x, notEnd c = true) : lines (endT e j ls) = List.replicate j [] ++ ls := by
  have h2 : endT e j ls = (List.replicate j [] ++ ls).flatMap (fun x => x ++ e) := by
    unfold endT
    rw [List.flatMap_append]
    congr 1
    induction j with
    | zero => rfl
    | succ j ih => rw [List.replicate_succ, List.replicate_succ, List.flatten_cons, List.flatMap_cons, ih]; rfl
  rw [h2]
  have := lines_ends he (List.replicate j [] ++ ls) (fun x hx => by
    rcases List.mem_append.1 hx with q | q
    · rw [List.eq_of_mem_replicate q]; intro c hc; cases hc
    · exact h x q)
  rcases this with q | q
  · exact q.1
  · exact q.2
theorem parse_endT {e : Str} (he : endOk e) (j : Nat) (ls : List Str) (h : ∀ x ∈ ls, ∀ c ∈ x, notEnd c = true) : parseL (endT e j ls) = parseL (catT ls) := by
  unfold parseL
  rw [lines_endT he j ls h, blanks_ahead]
  have := lines_endT (e := [10]) (.inl rfl) 0 ls h
  rw [show catT ls = endT [10] 0 ls from rfl, this]
  rfl
theorem endT_len {e : Str} (he : endOk e) : ∀ (ls : List Str) (j m : Nat), (∀ x ∈ ls, x.length ≤ m) → (endT e j ls).length ≤ 2 * j + ls.length * (m + 2) := by
  have hel : e.length ≤ 2 := by rcases he with rfl | rfl | rfl <;> simp
  have h1 : ∀ j, ((List.replicate j e).flatten).length ≤ 2 * j := by
    intro j
    induction j with
    | zero => simp
    | succ j ih => rw [List.replicate_succ, List.flatten_cons, List.length_append]; omega
  intro ls j m h
  have h2 : (ls.flatMap (fun x => x ++ e)).length ≤ ls.length * (m + 2) := by
    induction ls with
    | nil => simp
    | cons x r ih =>
      rw [List.flatMap_cons, List.length_append, List.length_append, List.length_cons, Nat.succ_mul]
      have := ih (fun y hy => h y (List.mem_cons_of_mem _ hy))
      have := h x (List.mem_cons_self ..)
      omega
  rw [List.length_append]
  have := h1 j
  omega
theorem endT_ahead (e : Str) (j : Nat) : endT e (j + 1) [] = endT e j [] ++ e := by
  simp [endT, List.replicate_succ']
theorem endT_next (e : Str) (j : Nat) {ls : List Str} {k : Nat} {z : Str} (h : ls[k]? = some z) : endT e j (ls.take (k + 1)) = endT e j (ls.take k) ++ z ++ e := by
  rw [List.take_add_one, h]
  simp [endT]

namespace blockLines

set_option maxHeartbeats 8000000 in
set_option maxRecDepth 60000 in
theorem walk (s0 : ByteArray) (w0 : s0.size ≤ 140737488351232) (a1 : Int) (w1 : -9223372036854775808 ≤ a1 ∧ a1 ≤ 9223372036854775807) (a2 : Int) (w2 : -9223372036854775808 ≤ a2 ∧ a2 ≤ 9223372036854775807) (w : World) (hm : MLen w) :
    Calls Tryz.prog 3 #[.string s0, .int .i64 a1, .int .i64 a2] w fun e w' => e = .returned (.bool true) ∧ Below w.heap.size w w' := by
  have hs0 : Value.string s0 = strV s0.data.toList := by show _ = Value.string ⟨s0.data⟩; rfl
  rw [hs0]
  have hl0 : s0.data.toList.length ≤ 140737488351232 := by rw [len_data]; exact w0
  generalize s0.data.toList = l0 at *
  clear hs0
  have hlk : (l0.take 4096).length ≤ 4096 := by rw [List.length_take]; omega
  have HSh : Hid (Calls Tryz.prog 9 #[] w fun e w' => e = .returned (.bool true) ∧ Below w.heap.size w w') := bshown_any w hm
  have HSo : Hid (∀ w, Calls Tryz.prog 10 #[strV l0] w fun e w' => e = .returned (strV (l0.take 4096)) ∧ w' = w) := fun w => bshort_any l0 hl0 w
  obtain ⟨ok1, ok2, ok3⟩ := lines_ok (l0.take 4096)
  have HLi : Hid (∀ w, Calls Tryz.prog 11 #[.string ⟨(l0.take 4096).toArray⟩] w fun e w' => ∃ (a : Option Addr) (cp : Nat), e = .returned (.slice a (lines (l0.take 4096)).length cp) ∧ w'.ownsRow 0 9 1 (.slice a (lines (l0.take 4096)).length cp) (lines (l0.take 4096)).length (strCs (lines (l0.take 4096))) ∧ Below w.heap.size w w') := fun w => (run.lines_any ⟨(l0.take 4096).toArray⟩ w (by rw [size_list]; omega)).mono fun e w' q => by
    rw [list_data] at q
    obtain ⟨v, q1, q2, q3⟩ := q
    rcases q2.2 with ⟨e1, e2⟩ | ⟨g, cap, cu, e1, e2, e3⟩
    · exact ⟨none, 0, by rw [q1, e1, e2], ⟨q2.1, .inl ⟨by rw [e2], e2⟩⟩, q3⟩
    · exact ⟨some ⟨g, 0, none⟩, cap, by rw [q1, e1], ⟨q2.1, .inr ⟨g, cap, cu, rfl, Nat.zero_le _, e3⟩⟩, q3⟩
  generalize l0.take 4096 = l1 at *
  generalize hls : lines l1 = ls at *
  have hlen : ls.length ≤ 4096 := by omega
  have hmx : ∀ x ∈ ls, x.length ≤ 4096 := fun x hx => Nat.le_trans (ok2 x hx) hlk
  clear hls ok2 ok3 hl0 w0 hlk
  obtain ⟨x1, hx10, hx11, F1⟩ := fold7 a1 w1.1 3 (by decide)
  obtain ⟨x2, hx20, hx21, F2⟩ := fold7 a2 w2.1 4 (by decide)
  obtain ⟨J, hJ⟩ : ∃ J : Nat, x2 = (J : Int) := ⟨x2.toNat, by omega⟩
  have hJ4 : J < 4 := by omega
  obtain ⟨e, r, he, hr, hre⟩ : ∃ (e : Str) (r : Nat), endOk e ∧ x1 = (r : Int) ∧ ((r = 0 ∧ e = [10]) ∨ (r = 1 ∧ e = [13, 10]) ∨ (r = 2 ∧ e = [13])) := by
    have : x1 = 0 ∨ x1 = 1 ∨ x1 = 2 := by omega
    rcases this with q | q | q
    · exact ⟨[10], 0, .inl rfl, by omega, .inl ⟨rfl, rfl⟩⟩
    · exact ⟨[13, 10], 1, .inr (.inl rfl), by omega, .inr (.inl ⟨rfl, rfl⟩)⟩
    · exact ⟨[13], 2, .inr (.inr rfl), by omega, .inr (.inr ⟨rfl, rfl⟩)⟩
  subst hJ
  subst hr
  clear hx10 hx11 hx20 hx21
  have HBd : Hid (∀ k j, j ≤ 4 → (endT e j (ls.take k)).length ≤ 20000000 ∧ (catT (ls.take k)).length ≤ 20000000) := fun k j hj => by
    have q2 : (ls.take k).length ≤ 4096 := by rw [List.length_take]; omega
    have q := endT_len he (ls.take k) j 4096 (fun x hx => hmx x (List.mem_of_mem_take hx))
    have q5 := (catT_len (ls.take k) 4096 (fun x hx => hmx x (List.mem_of_mem_take hx))).1
    have q3 : (ls.take k).length * 4097 ≤ 4096 * 4097 := Nat.mul_le_mul_right _ q2
    have q4 : (ls.take k).length * 4098 ≤ 4096 * 4098 := Nat.mul_le_mul_right _ q2
    omega
  have HPar : Hid (parseL (endT e J ls) = parseL (catT ls)) := parse_endT he J ls ok1
  have hel : e.length ≤ 2 := by rcases he with rfl | rfl | rfl <;> simp
  have HEn : Hid (∀ u : World, (u.alloc (.cells #[.string ⟨#[10]⟩, .string ⟨#[13, 10]⟩, .string ⟨#[13]⟩] 9)).cell? ⟨u.heap.size, r, none⟩ = some (strV e)) := fun u => by
    have hb := new_blk u #[.string ⟨#[10]⟩, .string ⟨#[13, 10]⟩, .string ⟨#[13]⟩] 9
    rcases hre with ⟨rfl, rfl⟩ | ⟨rfl, rfl⟩ | ⟨rfl, rfl⟩
    · exact cell_blk hb (i := 0) rfl
    · exact cell_blk hb (i := 1) rfl
    · exact cell_blk hb (i := 2) rfl
  have hrl : (r : Int) < 3 := by omega
  have hr0 : (r : Int) ≥ 0 := by omega
  have hJi : (J : Int) < 4 := by omega
  have HPu : Hid (∀ u, MLen u → Calls Tryz.prog 12 #[strV (catT ls)] u fun e w' => ∃ v1 v2, e = .returned (.tuple #[v1, v2]) ∧ KidsV w' (fun g => u.heap.size ≤ g) (fun g => u.heap.size ≤ g) v1 (parseL (catT ls)).1 ∧ w'.ownsRow 0 40 3 v2 (parseL (catT ls)).2.length (defCs (parseL (catT ls)).2) ∧ Below u.heap.size u w') := fun u hM => (bparse_any _ (by have := (HBd.out ls.length 0 (by omega)).2; rw [List.take_length] at this; omega) u hM).mono fun e w' ⟨v1, v2, q1, q2, q3, _, q5⟩ => ⟨v1, v2, q1, q2, q3, q5⟩
  have HPt : Hid (∀ u, MLen u → Calls Tryz.prog 12 #[strV (endT e J ls)] u fun e w' => ∃ v1 v2, e = .returned (.tuple #[v1, v2]) ∧ KidsV w' (fun g => u.heap.size ≤ g) (fun g => u.heap.size ≤ g) v1 (parseL (catT ls)).1 ∧ w'.ownsRow 0 40 3 v2 (parseL (catT ls)).2.length (defCs (parseL (catT ls)).2) ∧ Below u.heap.size u w') := fun u hM => by
    have q := bparse_any (endT e J ls) (by have := (HBd.out ls.length J (by omega)).1; rw [List.take_length] at this; omega) u hM
    rw [HPar.out] at q
    exact q.mono fun e w' ⟨v1, v2, q1, q2, q3, _, q5⟩ => ⟨v1, v2, q1, q2, q3, q5⟩
  clear hre he HPar ok1
  rcases F1 with ⟨p1, ht1⟩ | ⟨p1, p1', ht1⟩ <;> rcases F2 with ⟨p2, ht2⟩ | ⟨p2, p2', ht2⟩
  all_goals
    obtain ⟨w11, w12⟩ := w1
    obtain ⟨w21, w22⟩ := w2
    go_enter Tryz.func3, Tryz.ntmps3
    go_wp2_with (first
      | (go_at_call 9; refine Calls.mono HSh.out ?_; rintro e' u1 ⟨rfl, hb1⟩)
      | (go_at_call 10; refine (HSo.out _).mono ?_; rintro e' u2 ⟨rfl, hw⟩; subst u2)
      | (go_at_call 11; refine (HLi.out _).mono ?_; rintro e' u3 ⟨la, lc, rfl, hrow, hb3⟩; have HRow := (show Hid _ from hrow); have HB3 := (show Hid _ from below_next hb1 hb3); clear hrow hb1 hb3))
    have hec := HEn.out u3
    have HE2 : Hid (∀ m : Nat, ((u3.alloc (.cells #[.string ⟨#[10]⟩, .string ⟨#[13, 10]⟩, .string ⟨#[13]⟩] 9)).drewN m).cell? ⟨u3.heap.size, r, none⟩ = some (strV e)) := fun m => HEn.out u3
    have HBW : Hid (Below w.heap.size w (u3.alloc (.cells #[.string ⟨#[10]⟩, .string ⟨#[13, 10]⟩, .string ⟨#[13]⟩] 9))) := HB3.out.alloc HB3.out.size _
    have HRw : Hid ((u3.alloc (.cells #[.string ⟨#[10]⟩, .string ⟨#[13, 10]⟩, .string ⟨#[13]⟩] 9)).ownsRow 0 9 1 (.slice la ls.length lc) ls.length (strCs ls)) := World.ownsRow.alloc HRow.out _
    generalize u3.alloc (.cells #[.string ⟨#[10]⟩, .string ⟨#[13, 10]⟩, .string ⟨#[13]⟩] 9) = WE at *
    clear HRow HEn HSh HSo HLi
    go_loopw [10, 11] (fun t i wr => ∃ k : Nat, i = .int .i64 (k : Int) ∧ k ≤ J ∧ t = strV (endT e k []) ∧ wr = WE) (fun _ i _ => J - (intOf i).toNat)
    case atStart => exact ⟨0, rfl, Nat.zero_le _, rfl, rfl⟩
    case round =>
      obtain ⟨k, rfl, hk, rfl, hw⟩ := hrel
      subst hw
      by_cases hkj : k < J
      · have hkj' : (k : Int) < (J : Int) := by omega
        have hbk := (HBd.out 0 k (by omega)).1
        simp only [List.take_zero] at hbk
        have HA : Hid (endT e (k + 1) [] = endT e k [] ++ e) := endT_ahead e k
        generalize endT e k [] = TT at *
        have d1 := sadd TT e (by omega)
        go_wp2
        go_roundw
        case rel => exact ⟨k + 1, by go_num, by omega, by rw [HA.out], by first | rfl | trivial⟩
        case measure => simp [intOf]; omega
      · have hkj' : ¬ (k : Int) < (J : Int) := by omega
        have hke : k = J := by omega
        subst hke
        go_wp2
        go_loopw [10, 12, 13] (fun t u i wr2 => ∃ j n : Nat, i = .int .i64 (j : Int) ∧ j ≤ ls.length ∧ t = strV (endT e k (ls.take j)) ∧ u = strV (catT (ls.take j)) ∧ wr2 = wr.drewN n) (fun _ _ i _ => ls.length - (intOf i).toNat)
        case atStart => exact ⟨0, 0, rfl, Nat.zero_le _, rfl, rfl, rfl⟩
        case round =>
          obtain ⟨j, n, rfl, hj, rfl, rfl, rfl⟩ := hrel
          by_cases hjl : j < ls.length
          · have hjl' : (j : Int) < (ls.length : Int) := by omega
            have hj1 : (j : Int) < 1099511627776 := by omega
            obtain ⟨z, hz⟩ : ∃ z, ls[j]? = some z := ⟨_, List.getElem?_eq_getElem hjl⟩
            obtain ⟨g, cp, hge, _, hcell⟩ := row_at HRw.out (by omega)
            cases hge
            have hck := fun m : Nat => (show (wr.drewN m).cell? ⟨g, j, none⟩ = _ from hcell j (strV z) (by rw [List.getElem?_map, hz]; rfl))
            have hcj := HE2.out
            have hzl := hmx z (List.mem_of_getElem? hz)
            obtain ⟨hbE, hbC⟩ := HBd.out j k (by omega)
            have HA : Hid (endT e k (ls.take (j + 1)) = endT e k (ls.take j) ++ z ++ e) := endT_next e k hz
            have HC : Hid (catT (ls.take (j + 1)) = catT (ls.take j) ++ z ++ [10]) := cat_next hz
            generalize endT e k (ls.take j) = TT at *
            generalize catT (ls.take j) = UU at *
            have d1 := sadd TT z (by omega)
            have d2 := sadd (TT ++ z) e (by rw [List.length_append]; omega)
            have d3 := sadd UU z (by omega)
            have d4 := sadd (UU ++ z) [10] (by simp only [List.length_append, List.length_cons, List.length_nil]; omega)
            clear hcell hz
            go_wp2
            go_quiet (fail)
            go_wp2
            go_roundw
            case rel => exact ⟨j + 1, _, by go_num, by omega, by rw [HA.out]; first | rfl | rw [List.append_assoc], by rw [HC.out]; first | rfl | rw [List.append_assoc], rfl⟩
            case measure => simp [intOf]; omega
          · have hge : ¬ (j : Int) < (ls.length : Int) := by omega
            have htk : ls.take j = ls := List.take_of_length_le (by omega)
            rw [htk]
            have hMu : MLen (wr.drewN n) := (hm.below HBW.out).below (cur.below_drewN (Below.refl _ wr) n)
            have HBn : Hid (Below w.heap.size w (wr.drewN n)) := cur.below_drewN HBW.out n
            have HF1 := (show Hid _ from HPu.out (wr.drewN n) hMu)
            have HPT := HPt
            clear HRw HE2 HBd HPu HPt hec hmx hlen hrl hr0 hJi ht1 ht2 htk hJ4 hel
            generalize parseL (catT ls) = PP at *
            generalize hIT : strV (catT ls) = IT at *
            generalize hTT : strV (endT e k ls) = TT at *
            go_wp2_with (first
              | (go_at_call_of 12 IT; refine Calls.mono HF1.out ?_; rintro e' u5 ⟨v1, v2, rfl, k1, k2, hb5⟩; have HB5 : Hid (Below w.heap.size w u5) := HBn.out.trans (hb5.mono HBn.out.size); have HF2 := (show Hid _ from HPT.out u5 (hm.below HB5.out)); have HK1 := (show Hid _ from k1); have HK2 := (show Hid _ from k2); clear k1 k2 hb5)
              | (go_at_call 12; refine Calls.mono HF2.out ?_; rintro e' u6 ⟨v3, v4, rfl, k3, k4, hb6⟩; have HB6 : Hid (Below w.heap.size w u6) := HB5.out.trans (hb6.mono HB5.out.size); have HSa := (show Hid _ from bsame_any PP.1.size PP.1 (Nat.le_refl _) u6 v1 v3 _ _ _ _ (KidsV.keeps HK1.out (fun _ q => q) (fun _ q => q) (fun g hg _ => hb6.block g hg) (fun g hg _ => hb6.block g hg)) k3); have HD1 := (show Hid _ from row_keeps HK2.out (fun g hg => hb6.block g (World.ownsRow.lt HK2.out g hg).2)); have HD2 := (show Hid _ from k4); clear k3 k4 hb6)
              | (go_at_call 13; refine Calls.mono HSa.out ?_; rintro e' u7 ⟨rfl, hb7⟩; have HB7 : Hid (Below w.heap.size w u7) := HB6.out.trans (hb7.mono HB6.out.size); have HDf := (show Hid _ from bdefs_any PP.2 u7 v2 v4 (row_keeps HD1.out (fun g hg => hb7.block g (World.ownsRow.lt HD1.out g hg).2)) (row_keeps HD2.out (fun g hg => hb7.block g (World.ownsRow.lt HD2.out g hg).2))); clear hb7)
              | (go_at_call 14; refine Calls.mono HDf.out ?_; rintro e' u8 ⟨rfl, n8, rfl⟩))
            go_ret
            exact ⟨rfl, cur.below_drewN HB7.out n8⟩

end blockLines
end Go.Proofs.YteonkgneicgkjaaGreatDoor
