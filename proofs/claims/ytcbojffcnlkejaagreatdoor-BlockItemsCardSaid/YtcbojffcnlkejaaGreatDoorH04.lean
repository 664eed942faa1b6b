
/- Several texts in one. -/
import Derived.Test.YtcbojffcnlkejaaGreatDoorG50
import Derived.Test.YtcbojffcnlkejaaGreatDoorH01
import Derived.Laws.Strings3
import Derived.Test.YtcbojffcnlkejaaGreatDoorH03
set_option linter.unusedVariables false
/- What the laws' texts are put together of. -/
namespace Go.Proofs.YtcbojffcnlkejaaGreatDoor
open Go.RowKit

theorem sadd (A B : Str) (h : A.length + B.length ≤ 9223372036854775000) : ∀ w, (Op.stringOp .add (ByteArray.mk A.toArray) (ByteArray.mk B.toArray)).run Tryz.prog w = .ok (.string ⟨(A ++ B).toArray⟩) w := by
  intro w
  rw [← cat_eq]
  exact run_string_add_sum (w := w) _ _ (by rw [size_list, size_list]; omega)

/-- What the lines of a text are like. -/
theorem lines_ok (l : Str) : (∀ x ∈ lines l, ∀ c ∈ x, notEnd c = true) ∧ (∀ x ∈ lines l, x.length ≤ l.length) ∧ (lines l).length ≤ l.length := by
  have key : ∀ (f i : Nat), ∀ x ∈ linesF l f i, (∀ c ∈ x, notEnd c = true) ∧ x.length ≤ l.length := by
    intro f
    induction f with
    | zero => intro i x hx; cases hx
    | succ f ih =>
      intro i x hx
      simp only [linesF] at hx
      split at hx
      · rcases List.mem_cons.1 hx with q | q
        · subst q
          constructor
          · intro c hc
            exact List.all_eq_true.1 (List.all_takeWhile (p := notEnd) (l := l.drop i)) c hc
          · have h1 := (List.takeWhile_prefix (p := notEnd) (l := l.drop i)).length_le
            rw [List.length_drop] at h1
            omega
        · exact ih _ x q
      · cases hx
  exact ⟨fun x hx => (key _ _ x hx).1, fun x hx => (key _ _ x hx).2, linesF_le l _ _⟩

theorem quoted_ok {ls : List Str} (h : quotedL ls = true) : ∀ x ∈ ls, ∀ c ∈ x, c ≠ 9 := by
  intro x hx c hc
  unfold quotedL at h
  have := List.all_eq_true.1 (List.all_eq_true.1 h x hx) c hc
  simpa using this

abbrev indT (ls : List Str) : Str := ls.flatMap (fun x => [32, 32, 32, 32] ++ x ++ [10])
abbrev catT (ls : List Str) : Str := ls.flatMap (fun x => x ++ [10])
def fenceL1 (c : UInt8) : Bool := c == 96 || c == 126
def closeT (ls : List Str) : Bool := ls.any (fun x => x.any fenceL1)

theorem catT_len : ∀ (ls : List Str) (m : Nat), (∀ x ∈ ls, x.length ≤ m) → (catT ls).length ≤ ls.length * (m + 1) ∧ (indT ls).length ≤ ls.length * (m + 5)
  | [], m, _ => by simp
  | x :: r, m, h => by
    obtain ⟨h1, h2⟩ := catT_len r m (fun y hy => h y (List.mem_cons_of_mem _ hy))
    have h3 := h x (List.mem_cons_self ..)
    have e1 : (catT (x :: r)).length = x.length + 1 + (catT r).length := by simp [catT]; omega
    have e2 : (indT (x :: r)).length = x.length + 5 + (indT r).length := by simp [indT]; omega
    rw [e1, e2, List.length_cons, Nat.succ_mul, Nat.succ_mul]
    omega

theorem cat_next {ls : List Str} {k : Nat} {z : Str} (h : ls[k]? = some z) : catT (ls.take (k + 1)) = catT (ls.take k) ++ z ++ [10] := by
  rw [List.take_add_one, h]
  simp [catT]

end Go.Proofs.YtcbojffcnlkejaaGreatDoor

/- BlockItems: what stands in an item is what it is; walked. -/
namespace Go.Proofs.YtcbojffcnlkejaaGreatDoor
open Go.RowKit
open cur (cell_blk free_blk set_blk)

/-- A number that is not below 0, out of any. -/
def Fold7 (a x : Int) (m : Int) : Prop := (¬ a < 0 ∧ a.tmod m = x) ∨ (a < 0 ∧ -9223372036854775808 ≤ a ∧ (-(a + 1)).tmod m = x)
theorem fold7 (a : Int) (h0 : -9223372036854775808 ≤ a) (m : Int) (hm : 0 < m) : ∃ x : Int, 0 ≤ x ∧ x < m ∧ Fold7 a x m := by
  by_cases h : 0 ≤ a
  · exact ⟨a.tmod m, Int.tmod_nonneg _ h, by rw [Int.tmod_eq_emod_of_nonneg h]; exact Int.emod_lt_of_pos _ hm, .inl ⟨by omega, rfl⟩⟩
  · exact ⟨(-(a + 1)).tmod m, Int.tmod_nonneg _ (by omega), by rw [Int.tmod_eq_emod_of_nonneg (by omega)]; exact Int.emod_lt_of_pos _ hm, .inr ⟨by omega, h0, rfl⟩⟩

/-- Lines, the first one with f ahead, the others with rest. -/
def itT (f rest : Str) : List Str → Str
  | [] => []
  | l :: r => f ++ l ++ [10] ++ r.flatMap (fun x => rest ++ x ++ [10])
theorem it_first {f rest : Str} {L : List Str} {z : Str} (h : L[0]? = some z) : itT f rest (L.take 1) = [] ++ f ++ z ++ [10] := by
  cases L with
  | nil => cases h
  | cons a r =>
    have : a = z := by simpa using h
    subst this
    simp [itT]
theorem it_next {f rest : Str} {L : List Str} {k : Nat} {z : Str} (hk : 0 < k) (h : L[k]? = some z) : itT f rest (L.take (k + 1)) = itT f rest (L.take k) ++ rest ++ z ++ [10] := by
  cases L with
  | nil => cases h
  | cons a r =>
    obtain ⟨j, rfl⟩ : ∃ j, k = j + 1 := ⟨k - 1, by omega⟩
    have h : r[j]? = some z := by simpa using h
    rw [List.take_succ_cons, List.take_succ_cons, List.take_add_one, h]
    simp [itT]
theorem it_len {f rest : Str} (hf : f.length ≤ 20) (hr : rest.length ≤ 20) : ∀ (L : List Str) (m : Nat), (∀ x ∈ L, x.length ≤ m) → (itT f rest L).length ≤ L.length * (m + 21) := by
  have key : ∀ (r : List Str) (m : Nat), (∀ x ∈ r, x.length ≤ m) → (r.flatMap (fun x => rest ++ x ++ [10])).length ≤ r.length * (m + 21) := by
    intro r m h
    induction r with
    | nil => simp
    | cons x r ih =>
      simp only [List.flatMap_cons, List.length_append, List.length_cons, List.length_nil, Nat.succ_mul]
      have := ih (fun y hy => h y (List.mem_cons_of_mem _ hy))
      have := h x (List.mem_cons_self ..)
      omega
  intro L m h
  cases L with
  | nil => simp [itT]
  | cons x r =>
    have h1 := key r m (fun y hy => h y (List.mem_cons_of_mem _ hy))
    have h2 := h x (List.mem_cons_self ..)
    simp only [itT, List.length_append, List.length_cons, List.length_nil, Nat.succ_mul]
    omega

theorem cost_at (l : Str) : ∀ (f i : Nat), costL (linesF l f i) ≤ 300 * (l.length - i)
  | 0, i => Nat.zero_le _
  | f + 1, i => by
    simp only [linesF]
    split
    · rename_i h
      have h1 := next_gt h
      have h2 := cost_at l f (nextAt l i)
      have h3 : ((l.drop i).takeWhile notEnd).length ≤ nextAt l i - i := by
        have : i + ((l.drop i).takeWhile notEnd).length = stopAt l i := rfl
        have h4 : nextAt l i = stopAt l i + endAt l (stopAt l i) := rfl
        omega
      simp only [costL]
      omega
    · exact Nat.zero_le _
theorem cost_lines (l : Str) : costL (lines l) ≤ 300 * l.length := cost_at l (l.length - 0) 0

theorem first_ends (i k : Nat) (hi : i < 6) (hk : k < 4) : (∀ c ∈ firstT i k, notEnd c = true) ∧ 1 ≤ (firstT i k).length ∧ (firstT i k).length ≤ 14 := by
  have hi' : i = 0 ∨ i = 1 ∨ i = 2 ∨ i = 3 ∨ i = 4 ∨ i = 5 := by omega
  have hk' : k = 0 ∨ k = 1 ∨ k = 2 ∨ k = 3 := by omega
  rcases hi' with rfl | rfl | rfl | rfl | rfl | rfl <;> rcases hk' with rfl | rfl | rfl | rfl <;> decide

/-- The lines, and what the law makes of the first one. -/
theorem it_parse (l : Str) (hl : l.length ≤ 4096) {z : Str} {r : List Str} (hls : lines l = z :: r) (h9 : ∀ x ∈ lines l, ∀ c ∈ x, c ≠ 9) (i k : Nat) (hi : i < 6) (hk : k < 4) (hd : (parseL (catT (([97] ++ z) :: r))).1.deep ≤ 22) :
    ∃ b : BI, b.kind = 2 ∧ parseL (itT (firstT i k) (List.replicate (firstT i k).length 32) (([97] ++ z) :: r)) = (.cons b (.cons { kind := 3 } (parseL (catT (([97] ++ z) :: r))).1 .nil) .nil, (parseL (catT (([97] ++ z) :: r))).2) := by
  obtain ⟨o1, o2, o3⟩ := lines_ok l
  have hc := cost_lines l
  rw [hls] at o1 o2 hc h9
  obtain ⟨f1, f2, f3⟩ := first_ends i k hi hk
  have hne : ∀ x ∈ ([97] ++ z) :: r, ∀ c ∈ x, notEnd c = true := fun x hx c hcx => by
    rcases List.mem_cons.1 hx with rfl | h
    · rcases List.mem_cons.1 hcx with rfl | h
      · decide
      · exact o1 z (List.mem_cons_self ..) c h
    · exact o1 x (List.mem_cons_of_mem _ h) c hcx
  have hn9 : ∀ x ∈ ([97] ++ z) :: r, ∀ c ∈ x, c ≠ 9 := fun x hx c hcx => by
    rcases List.mem_cons.1 hx with rfl | h
    · rcases List.mem_cons.1 hcx with rfl | h
      · decide
      · exact h9 z (List.mem_cons_self ..) c h
    · exact h9 x (List.mem_cons_of_mem _ h) c hcx
  have hl1 : lines (catT (([97] ++ z) :: r)) = ([97] ++ z) :: r := by
    have := lines_cat [] (by simp) [] (([97] ++ z) :: r) hne
    rw [List.append_nil, show lines ([] : Str) = [] from rfl, List.append_nil] at this
    simpa using this
  have hl2 : lines (itT (firstT i k) (List.replicate (firstT i k).length 32) (([97] ++ z) :: r)) = (firstT i k ++ 97 :: z) :: r.map (iL (firstT i k).length) := by
    have e : itT (firstT i k) (List.replicate (firstT i k).length 32) (([97] ++ z) :: r) = (firstT i k ++ 97 :: z) ++ [10] ++ r.flatMap (fun x => List.replicate (firstT i k).length 32 ++ x ++ [10]) := by simp [itT]
    rw [e, lines_part _ [10] _ (fun c hcx => by
      rcases List.mem_append.1 hcx with h | h
      · exact f1 c h
      · exact hne _ (List.mem_cons_self ..) c h) (.inl rfl)]
    have := lines_cat (List.replicate (firstT i k).length 32) (fun c hcx => by rw [List.eq_of_mem_replicate hcx]; decide) [] r (fun x hx => hne x (List.mem_cons_of_mem _ hx))
    rw [List.append_nil, show lines ([] : Str) = [] from rfl, List.append_nil] at this
    rw [this]
  obtain ⟨m, hb⟩ := item_begin z i k hi hk
  unfold parseL at hd ⊢
  rw [hl1] at hd ⊢
  rw [hl2]
  simp only [costL] at hc
  exact items_parse (firstT i k) m (97 :: z) r ⟨f2, by omega⟩ hb (fun x hx => by
    rcases List.mem_cons.1 hx with rfl | h
    · have := o2 z (List.mem_cons_self ..); simp only [List.length_cons]; omega
    · have := o2 x (List.mem_cons_of_mem _ h); omega) (by simp only [costL, List.length_cons]; omega) hn9 hd
theorem it_deep (l : Str) (hl : l.length ≤ 4096) {z : Str} {r : List Str} (hls : lines l = z :: r) : (parseL (catT (([97] ++ z) :: r))).1.deep ≤ 24 := by
  obtain ⟨o1, o2, o3⟩ := lines_ok l
  have hc := cost_lines l
  rw [hls] at o1 o2 hc
  have hne : ∀ x ∈ ([97] ++ z) :: r, ∀ c ∈ x, notEnd c = true := fun x hx c hcx => by
    rcases List.mem_cons.1 hx with rfl | h
    · rcases List.mem_cons.1 hcx with rfl | h
      · decide
      · exact o1 z (List.mem_cons_self ..) c h
    · exact o1 x (List.mem_cons_of_mem _ h) c hcx
  have hl1 : lines (catT (([97] ++ z) :: r)) = ([97] ++ z) :: r := by
    have := lines_cat [] (by simp) [] (([97] ++ z) :: r) hne
    rw [List.append_nil, show lines ([] : Str) = [] from rfl, List.append_nil] at this
    simpa using this
  unfold parseL
  rw [hl1]
  simp only [costL] at hc
  refine parse_deep _ (fun x hx => ?_) (by simp only [costL, List.length_append, List.length_cons, List.length_nil]; omega)
  rcases List.mem_cons.1 hx with rfl | h
  · have := o2 z (List.mem_cons_self ..); simp only [List.length_append, List.length_cons, List.length_nil]; omega
  · have := o2 x (List.mem_cons_of_mem _ h); omega

/-- One list of one item, as it lies in memory. -/
theorem it_cells {w : World} {v1 : Value} {b : BI} {k : Bs} {A S : Nat → Prop} (hb : b.kind = 2) (hk : KidsV w A S v1 (.cons b (.cons { kind := 3 } k .nil) .nil)) :
    ∃ g c g2 c2 v, v1 = .slice (some ⟨g, 0, none⟩) 1 c ∧ w.cell? ⟨g, 0, none⟩ = some (.int .i64 2) ∧ w.cell? ⟨g, 7, none⟩ = some (.slice (some ⟨g2, 0, none⟩) 1 c2) ∧ w.cell? ⟨g2, 7, none⟩ = some v ∧ KidsV w S S v k := by
  obtain ⟨xs, hrow, _, y1, y2, y3, rfl, r1, r2, ⟨y4, y5, y6, rfl, r4, r5, r6, _⟩, _⟩ := hk
  obtain ⟨g, c, rfl, _, q⟩ := row_at hrow (Nat.succ_pos _)
  obtain ⟨g2, c2, rfl, _, q2⟩ := row_at r1 (Nat.succ_pos _)
  have q0 := q 0 _ rfl
  rw [hb] at q0
  exact ⟨g, c, g2, c2, y4, rfl, q0, q 7 _ rfl, q2 7 _ rfl, ⟨y5, r4, r5, r6⟩⟩

/-- A row whose first cell is written over. -/
theorem row_first {w : World} {e : TypeId} {g n c : Nat} {x : Value} {xs : List Value} (h : w.ownsRow 0 e 1 (.slice (some ⟨g, 0, none⟩) n c) n (x :: xs)) (y : Value) :
    (w.setCell ⟨g, 0, none⟩ y).ownsRow 0 e 1 (.slice (some ⟨g, 0, none⟩) n c) n (y :: xs) := by
  obtain ⟨h1, h2⟩ := h
  rcases h2 with ⟨h2, _⟩ | ⟨g', cap, cur, h2, hb, hg, hn, hm, hs, ht⟩
  · cases h2
  · cases h2
    have hl : xs.length + 1 = n := by simpa using h1
    obtain ⟨r, hr⟩ : ∃ r, cur = ([] ++ ([] ++ x :: (xs ++ r))).toArray := by
      refine ⟨cur.toList.drop (n * 1), ?_⟩
      have := List.take_append_drop (n * 1) cur.toList
      rw [ht] at this
      apply Array.toList_inj.1
      refine this.symm.trans ?_
      simp
    rw [hr] at hg
    have q0 := set_blk hg 0 y
    rw [set_mid [] [] (xs ++ r) x y 0 rfl] at q0
    refine ⟨by simpa using h1, .inr ⟨g, c, _, rfl, Nat.zero_le _, q0, hn, hm, ?_, ?_⟩⟩
    · have : cur.size = ([] ++ ([] ++ x :: (xs ++ r)) : List Value).length := by rw [hr]; simp
      rw [← hs, this]
      simp
    · have e8 : n * 1 = (y :: xs).length := by simp; omega
      rw [e8, show ([] ++ ([] ++ y :: (xs ++ r)) : List Value).toArray.toList = (y :: xs) ++ r by simp]
      exact List.take_left

namespace blockItems

set_option maxHeartbeats 8000000 in
set_option maxRecDepth 60000 in
theorem walk (s0 : ByteArray) (w0 : s0.size ≤ 140737488351232) (a1 : Int) (w1 : -9223372036854775808 ≤ a1 ∧ a1 ≤ 9223372036854775807) (a2 : Int) (w2 : -9223372036854775808 ≤ a2 ∧ a2 ≤ 9223372036854775807) (w : World) (hm : MLen w) :
    Calls Tryz.prog 3 #[.string s0, .int .i64 a1, .int .i64 a2] w fun e w' => e = .returned (.bool true) ∧ Below w.heap.size w w' := by
  have hs0 : Value.string s0 = strV s0.data.toList := by show _ = Value.string ⟨s0.data⟩; rfl
  rw [hs0]
  have hl0 : s0.data.toList.length ≤ 140737488351232 := by rw [len_data]; exact w0
  generalize s0.data.toList = l0 at *
  clear hs0
  have hlk : (l0.take 4096).length ≤ 4096 := by rw [List.length_take]; omega
  have HSh : Hid (Calls Tryz.prog 7 #[] w fun e w' => e = .returned (.bool true) ∧ Below w.heap.size w w') := bshown_any w hm
  have HSo : Hid (∀ w, Calls Tryz.prog 9 #[strV l0] w fun e w' => e = .returned (strV (l0.take 4096)) ∧ w' = w) := fun w => bshort_any l0 hl0 w
  obtain ⟨ok1, ok2, ok3⟩ := lines_ok (l0.take 4096)
  have HLi : Hid (∀ w, Calls Tryz.prog 8 #[.string ⟨(l0.take 4096).toArray⟩] w fun e w' => ∃ (a : Option Addr) (cp : Nat), e = .returned (.slice a (lines (l0.take 4096)).length cp) ∧ w'.ownsRow 0 9 1 (.slice a (lines (l0.take 4096)).length cp) (lines (l0.take 4096)).length (strCs (lines (l0.take 4096))) ∧ (∀ g, (Value.slice a (lines (l0.take 4096)).length cp).ownBlock = some g → w.heap.size ≤ g) ∧ Below w.heap.size w w') := fun w => (run.lines_any ⟨(l0.take 4096).toArray⟩ w (by rw [size_list]; omega)).mono fun e w' q => by
    rw [list_data] at q
    obtain ⟨v, q1, q2, q3⟩ := q
    rcases q2.2 with ⟨e1, e2⟩ | ⟨g, cap, cu, e1, e2, e3⟩
    · exact ⟨none, 0, by rw [q1, e1, e2], ⟨q2.1, .inl ⟨by rw [e2], e2⟩⟩, (fun g hg => by cases hg), q3⟩
    · exact ⟨some ⟨g, 0, none⟩, cap, by rw [q1, e1], ⟨q2.1, .inr ⟨g, cap, cu, rfl, Nat.zero_le _, e3⟩⟩, (fun g' hg => by cases hg; exact e2), q3⟩
  generalize l0.take 4096 = l1 at *
  generalize hls : lines l1 = ls at *
  have hlen : ls.length ≤ 4096 := by omega
  have hmx : ∀ x ∈ ls, x.length ≤ 4096 := fun x hx => Nat.le_trans (ok2 x hx) hlk
  have HQ : Hid (∀ w v, w.ownsRow 0 9 1 v ls.length (strCs ls) → Calls Tryz.prog 10 #[v] w fun e w' => e = .returned (.bool (quotedL ls)) ∧ w' = w) := fun w v q => bquoted_any ls (by omega) (fun x hx => by have := hmx x hx; omega) w q
  clear ok2 ok3 hl0 w0 ok1
  cases hl : ls with
  | nil =>
    subst hl
    clear hls
    go_enter Tryz.func3, Tryz.ntmps3
    go_wp2_with (first
      | (go_at_call 7; refine Calls.mono HSh.out ?_; rintro e u1 ⟨rfl, hb1⟩)
      | (go_at_call 9; refine (HSo.out _).mono ?_; rintro e u2 ⟨rfl, hw⟩; subst u2)
      | (go_at_call 8; refine (HLi.out _).mono ?_; rintro e u3 ⟨la, lc, rfl, hrow, hog, hb3⟩; have HRow := (show Hid _ from hrow); clear hrow)
      | (go_at_call 10; refine (HQ.out _ _ HRow.out).mono ?_; rintro e u4 ⟨rfl, hw⟩; subst u4))
    go_ret
    exact ⟨rfl, below_next hb1 hb3⟩
  | cons z0 r =>
    have hz : 0 < ls.length := by rw [hl]; simp
    have hzi : ¬ (ls.length : Int) = 0 := by omega
    have hzb : ((ls.length : Int) == 0) = false := by simpa using hzi
    have hzp : (0 : Int) < (ls.length : Int) := by omega
    cases hq : quotedL ls
    · rw [hq] at HQ
      clear hl hls
      go_enter Tryz.func3, Tryz.ntmps3
      go_wp2_with (first
        | (go_at_call 7; refine Calls.mono HSh.out ?_; rintro e u1 ⟨rfl, hb1⟩)
        | (go_at_call 9; refine (HSo.out _).mono ?_; rintro e u2 ⟨rfl, hw⟩; subst u2)
        | (go_at_call 8; refine (HLi.out _).mono ?_; rintro e u3 ⟨la, lc, rfl, hrow, hog, hb3⟩; have HRow := (show Hid _ from hrow); clear hrow)
        | (go_at_call 10; refine (HQ.out _ _ HRow.out).mono ?_; rintro e u4 ⟨rfl, hw⟩; subst u4))
      go_ret
      exact ⟨rfl, below_next hb1 hb3⟩
    · rw [hq] at HQ
      have hq9 := quoted_ok hq
      obtain ⟨x1, hx10, hx11, F1⟩ := fold7 a1 w1.1 6 (by decide)
      obtain ⟨x2, hx20, hx21, F2⟩ := fold7 a2 w2.1 4 (by decide)
      obtain ⟨J, hJ⟩ : ∃ J : Nat, x2 = (J : Int) := ⟨x2.toNat, by omega⟩
      obtain ⟨R, hR⟩ : ∃ R : Nat, x1 = (R : Int) := ⟨x1.toNat, by omega⟩
      subst hJ
      subst hR
      have hJ4 : J < 4 := by omega
      have hR6 : R < 6 := by omega
      obtain ⟨f1, f2, f3⟩ := first_ends R J hR6 hJ4
      have hz0 : z0.length ≤ 4096 := hmx z0 (by rw [hl]; exact List.mem_cons_self ..)
      obtain ⟨L, hL⟩ : ∃ L : List Str, L = ([97] ++ z0) :: r := ⟨_, rfl⟩
      have hLl : L.length = ls.length := by rw [hL, hl]; simp
      have hLm : ∀ x ∈ L, x.length ≤ 4097 := fun x hx => by
        rw [hL] at hx
        rcases List.mem_cons.1 hx with rfl | h
        · simp only [List.length_append, List.length_cons, List.length_nil]; omega
        · have := hmx x (by rw [hl]; exact List.mem_cons_of_mem _ h); omega
      have HBd : Hid (∀ k, (catT (L.take k)).length ≤ 20000000 ∧ (itT (firstT R J) (List.replicate (firstT R J).length 32) (L.take k)).length ≤ 20000000) := fun k => by
        have q1 := (catT_len (L.take k) 4097 (fun x hx => hLm x (List.mem_of_mem_take hx))).1
        have q4 := it_len (f := (firstT R J)) (rest := List.replicate (firstT R J).length 32) (by omega) (by rw [List.length_replicate]; omega) (L.take k) 4097 (fun x hx => hLm x (List.mem_of_mem_take hx))
        have q2 : (L.take k).length ≤ 4096 := by rw [List.length_take]; omega
        have q3 : (L.take k).length * 4098 ≤ 4096 * 4098 := Nat.mul_le_mul_right _ q2
        have q5 : (L.take k).length * 4118 ≤ 4096 * 4118 := Nat.mul_le_mul_right _ q2
        omega
      have HDp : Hid ((parseL (catT L)).1.deep ≤ 24) := by
        show _ ≤ _
        rw [hL]
        exact it_deep l1 hlk (by rw [hls, hl])
      have HPs : Hid (∀ u, MLen u → Calls Tryz.prog 11 #[strV (catT L)] u fun e w' => ∃ v1 v2, e = .returned (.tuple #[v1, v2]) ∧ KidsV w' (fun g => u.heap.size ≤ g) (fun g => u.heap.size ≤ g) v1 (parseL (catT L)).1 ∧ w'.ownsRow 0 41 3 v2 (parseL (catT L)).2.length (defCs (parseL (catT L)).2) ∧ Below u.heap.size u w') := fun u hM => (bparse_any (catT L) (by have := (HBd.out L.length).1; rw [List.take_length] at this; omega) u hM).mono fun e w' ⟨v1, v2, q1, q2, q3, _, q5⟩ => ⟨v1, v2, q1, q2, q3, q5⟩
      have HPt : Hid (∀ u, MLen u → Calls Tryz.prog 11 #[strV (itT (firstT R J) (List.replicate (firstT R J).length 32) L)] u fun e w' => ∃ v1 v2, e = .returned (.tuple #[v1, v2]) ∧ ((parseL (catT L)).1.deep ≤ 22 → (∃ b : BI, b.kind = 2 ∧ KidsV w' (fun g => u.heap.size ≤ g) (fun g => u.heap.size ≤ g) v1 (.cons b (.cons { kind := 3 } (parseL (catT L)).1 .nil) .nil)) ∧ w'.ownsRow 0 41 3 v2 (parseL (catT L)).2.length (defCs (parseL (catT L)).2)) ∧ Below u.heap.size u w') := fun u hM => by
        refine (bparse_any (itT (firstT R J) (List.replicate (firstT R J).length 32) L) (by have := (HBd.out L.length).2; rw [List.take_length] at this; omega) u hM).mono ?_
        rintro e w' ⟨v1, v2, q1, q2, q3, _, q5⟩
        refine ⟨v1, v2, q1, fun hd => ?_, q5⟩
        rw [hL] at q2 q3 hd ⊢
        obtain ⟨b, hb, e⟩ := it_parse l1 hlk (by rw [hls, hl]) (by rw [hls]; exact hq9) R J hR6 hJ4 hd
        rw [e] at q2 q3
        exact ⟨⟨b, hb, q2⟩, q3⟩
      have HMk : Hid (∀ h, ([.string ⟨#[45]⟩, .string ⟨#[43]⟩, .string ⟨#[42]⟩, .string ⟨#[49, 46]⟩, .string ⟨#[55, 41]⟩, .string ⟨#[49, 50, 51, 52, 53, 54, 55, 56, 57, 46]⟩] : List Value)[R]'h = strV (markT R)) := fun h => by
        have hR' : R = 0 ∨ R = 1 ∨ R = 2 ∨ R = 3 ∨ R = 4 ∨ R = 5 := by omega
        rcases hR' with rfl | rfl | rfl | rfl | rfl | rfl <;> rfl
      have hRi : (R : Int) < 6 := by omega
      have hR0 : (R : Int) ≥ 0 := by omega
      have hJi : (J : Int) < 4 := by omega
      have HLe : Hid (ls[0]? = some z0) := by show _ = _; rw [hl]; rfl
      have HRL : Hid (strCs ls = strV z0 :: strCs r ∧ strCs L = strV ([97] ++ z0) :: strCs r) := ⟨by rw [hl]; rfl, by rw [hL]; rfl⟩
      have d0 := sadd [97] z0 (by simp only [List.length_cons, List.length_nil]; omega)
      have hZl : ([97] ++ z0).length ≤ 4097 := by simp only [List.length_append, List.length_cons, List.length_nil]; omega
      have HL0 : Hid (L[0]? = some ([97] ++ z0)) := by show _ = _; rw [hL]; rfl
      clear hq9 hq hL hl hls hlk f1 hmx hx10 hx11 hx20 hx21 hz0
      generalize [97] ++ z0 = Z at *
      have hff : (firstT R J).length ≤ 14 := f3
      clear f2 f3
      unfold firstT at hff HBd HPt
      have HFF := (show Hid _ from hff)
      clear hff
      rcases F1 with ⟨p1, ht1⟩ | ⟨p1, p1', ht1⟩ <;> rcases F2 with ⟨p2, ht2⟩ | ⟨p2, p2', ht2⟩
      all_goals
        obtain ⟨w11, w12⟩ := w1
        obtain ⟨w21, w22⟩ := w2
        go_enter Tryz.func3, Tryz.ntmps3
        go_wp2_with (first
          | (go_at_call 7; refine Calls.mono HSh.out ?_; rintro e u1 ⟨rfl, hb1⟩)
          | (go_at_call 9; refine (HSo.out _).mono ?_; rintro e u2 ⟨rfl, hw⟩; subst u2)
          | (go_at_call 8; refine (HLi.out _).mono ?_; rintro e u3 ⟨la, lc, rfl, hrow, hog, hb3⟩; obtain ⟨g, cp, hge, _, hcell⟩ := row_at hrow (by omega); cases hge; have x0 := hcell 0 (strV z0) (by rw [HRL.out.1]; rfl); obtain ⟨cu, hblk⟩ := row_block hrow (g := g) rfl; have xf := free_blk hblk 0; have HOg := (show Hid (w.heap.size ≤ g) from Nat.le_trans hb1.size (hog g rfl)); have HRow := (show Hid _ from hrow); have HB3 := (show Hid _ from below_next hb1 hb3); clear hrow hb1 hb3 hog hcell hblk)
          | (go_at_call 10; refine (HQ.out _ _ HRow.out).mono ?_; rintro e u4 ⟨rfl, hw⟩; subst u4))
        rw [HMk.out]
        have HBW : Hid (Below w.heap.size w ((u3.setCell ⟨g, 0, none⟩ (strV Z)).alloc (.cells #[.string ⟨#[45]⟩, .string ⟨#[43]⟩, .string ⟨#[42]⟩, .string ⟨#[49, 46]⟩, .string ⟨#[55, 41]⟩, .string ⟨#[49, 50, 51, 52, 53, 54, 55, 56, 57, 46]⟩] 9))) := (HB3.out.setCell HOg.out _).alloc (HB3.out.setCell HOg.out _).size _
        have HRw : Hid (((u3.setCell ⟨g, 0, none⟩ (strV Z)).alloc (.cells #[.string ⟨#[45]⟩, .string ⟨#[43]⟩, .string ⟨#[42]⟩, .string ⟨#[49, 46]⟩, .string ⟨#[55, 41]⟩, .string ⟨#[49, 50, 51, 52, 53, 54, 55, 56, 57, 46]⟩] 9)).ownsRow 0 9 1 (.slice (some ⟨g, 0, none⟩) ls.length lc) ls.length (strCs L)) := World.ownsRow.alloc (by rw [HRL.out.2]; exact row_first (HRL.out.1 ▸ HRow.out) _) _
        generalize ((u3.setCell ⟨g, 0, none⟩ (strV Z)).alloc (.cells #[.string ⟨#[45]⟩, .string ⟨#[43]⟩, .string ⟨#[42]⟩, .string ⟨#[49, 46]⟩, .string ⟨#[55, 41]⟩, .string ⟨#[49, 50, 51, 52, 53, 54, 55, 56, 57, 46]⟩] 9)) = WE at *
        have hMk : (markT R).length ≤ 14 := by have := HFF.out; rw [List.length_append] at this; omega
        clear HRow HMk HSh HSo HLi HQ HRL x0 xf d0 hzi hzb HOg HLe
        generalize markT R = MK at *
        go_loopw [11, 12] (fun t i wr => ∃ k : Nat, i = .int .i64 (k : Int) ∧ k ≤ J + 1 ∧ t = strV (List.replicate k 32) ∧ wr = WE) (fun _ i _ => J + 1 - (intOf i).toNat)
        case atStart => exact ⟨0, rfl, Nat.zero_le _, rfl, rfl⟩
        case round =>
          obtain ⟨k, rfl, hk, rfl, hw⟩ := hrel
          subst hw
          by_cases hkj : k ≤ J
          · have hkj' : (k : Int) ≤ (J : Int) := by omega
            have HR1 : Hid (List.replicate (k + 1) (32 : UInt8) = List.replicate k 32 ++ [32]) := List.replicate_succ'
            have hRl : (List.replicate k (32 : UInt8)).length ≤ 40 := by rw [List.length_replicate]; omega
            generalize List.replicate k (32 : UInt8) = LL at *
            have d2 := sadd LL [32] (by simp only [List.length_cons, List.length_nil]; omega)
            go_wp2
            go_roundw
            case rel => exact ⟨k + 1, by go_num, by omega, by rw [HR1.out], by first | rfl | trivial⟩
            case measure => simp [intOf]; omega
          · have hkj' : ¬ (k : Int) ≤ (J : Int) := by omega
            have hke : k = J + 1 := by omega
            subst hke
            have hRl : (List.replicate (J + 1) (32 : UInt8)).length ≤ 40 := by rw [List.length_replicate]; omega
            generalize List.replicate (J + 1) (32 : UInt8) = LL at *
            have d2 := sadd MK LL (by omega)
            generalize MK ++ LL = FF at *
            have hff := HFF.out
            go_wp2
            go_loopw [14, 15] (fun t i wr2 => ∃ k : Nat, i = .int .i64 (k : Int) ∧ k ≤ FF.length ∧ t = strV (List.replicate k 32) ∧ wr2 = wr) (fun _ i _ => FF.length - (intOf i).toNat)
            case atStart => exact ⟨0, rfl, Nat.zero_le _, rfl, rfl⟩
            case round =>
              obtain ⟨k, rfl, hk, rfl, hw⟩ := hrel
              subst hw
              by_cases hkj : k < FF.length
              · have hkj' : (k : Int) < (FF.length : Int) := by omega
                have HR1 : Hid (List.replicate (k + 1) (32 : UInt8) = List.replicate k 32 ++ [32]) := List.replicate_succ'
                have hRl : (List.replicate k (32 : UInt8)).length ≤ 40 := by rw [List.length_replicate]; omega
                generalize List.replicate k (32 : UInt8) = RR at *
                have d2 := sadd RR [32] (by simp only [List.length_cons, List.length_nil]; omega)
                go_wp2
                go_roundw
                case rel => exact ⟨k + 1, by go_num, by omega, by rw [HR1.out], by first | rfl | trivial⟩
                case measure => simp [intOf]; omega
              · have hkj' : ¬ (k : Int) < (FF.length : Int) := by omega
                have hke : k = FF.length := by omega
                subst hke
                have HRl : Hid ((List.replicate FF.length (32 : UInt8)).length ≤ 40) := by show _ ≤ _; rw [List.length_replicate]; omega
                generalize List.replicate FF.length (32 : UInt8) = RR at *
                have HKp : Hid (∀ (k : Nat) (z : Str), L[k]? = some z → (k = 0 → itT FF RR (L.take (k + 1)) = itT FF RR (L.take k) ++ FF ++ z ++ [10]) ∧ (0 < k → itT FF RR (L.take (k + 1)) = itT FF RR (L.take k) ++ RR ++ z ++ [10])) := fun k z h => ⟨fun e => by subst e; exact it_first h, fun e => it_next e h⟩
                clear hRl hkj hkj' hk p1 p2 ht1 ht2 HL0 hRi hR0 hJi hR6 hJ4 HFF d2
                have hRr : RR.length ≤ 40 := HRl.out
                go_wp2
                go_loopw [0, 16, 17] (fun s t i wr2 => ∃ k : Nat, i = .int .i64 (k : Int) ∧ k ≤ ls.length ∧ s = strV (catT (L.take k)) ∧ t = strV (itT FF RR (L.take k)) ∧ wr2 = wr) (fun _ _ i _ => ls.length - (intOf i).toNat)
                case atStart => exact ⟨0, rfl, Nat.zero_le _, rfl, rfl, rfl⟩
                case round =>
                  obtain ⟨k, rfl, hk, rfl, rfl, hw⟩ := hrel
                  subst hw
                  by_cases hlt : k < ls.length
                  · have hlt' : (k : Int) < (ls.length : Int) := by omega
                    have hk1 : (k : Int) < 1099511627776 := by omega
                    obtain ⟨z, hzk⟩ : ∃ z, L[k]? = some z := ⟨_, List.getElem?_eq_getElem (by omega)⟩
                    obtain ⟨g', cp', hge, _, hcell⟩ := row_at HRw.out (by omega)
                    cases hge
                    have hck := hcell k (strV z) (by rw [List.getElem?_map, hzk]; rfl)
                    have hzl := hLm z (List.mem_of_getElem? hzk)
                    obtain ⟨hbC, hbI⟩ := HBd.out k
                    have HC : Hid (catT (L.take (k + 1)) = catT (L.take k) ++ z ++ [10]) := cat_next hzk
                    obtain ⟨hI1, hI2⟩ := HKp.out k z hzk
                    clear hcell hzk
                    rcases Nat.eq_zero_or_pos k with hk0 | hk0
                    · have HI := (show Hid _ from hI1 hk0)
                      have hkb : ((k : Int) == 0) = true := by rw [hk0]; rfl
                      clear hI1 hI2 hk0
                      generalize catT (L.take k) = UU at *
                      generalize itT FF RR (L.take k) = TT at *
                      have d3 := sadd UU z (by omega)
                      have d4 := sadd (UU ++ z) [10] (by simp only [List.length_append, List.length_cons, List.length_nil]; omega)
                      have d5 := sadd TT FF (by omega)
                      have d6 := sadd (TT ++ FF) z (by simp only [List.length_append]; omega)
                      have d7 := sadd (TT ++ FF ++ z) [10] (by simp only [List.length_append, List.length_cons, List.length_nil]; omega)
                      generalize hU2 : UU ++ z = U2 at *
                      generalize hU3 : U2 ++ [10] = U3 at *
                      generalize hT2 : TT ++ FF = T2 at *
                      generalize hT3 : T2 ++ z = T3 at *
                      generalize hT4 : T3 ++ [10] = T4 at *
                      clear hU2 hU3 hT2 hT3 hT4
                      go_wp2
                      go_roundw
                      case rel => exact ⟨k + 1, by go_num, by omega, by rw [HC.out], by rw [HI.out], by first | rfl | trivial⟩
                      case measure => simp [intOf]; omega
                    · have HI := (show Hid _ from hI2 hk0)
                      have hkb : ((k : Int) == 0) = false := by have : ¬ (k : Int) = 0 := by omega
                                                                simpa using this
                      have hkz : ¬ (k : Int) = 0 := by omega
                      clear hI1 hI2
                      generalize catT (L.take k) = UU at *
                      generalize itT FF RR (L.take k) = TT at *
                      have d3 := sadd UU z (by omega)
                      have d4 := sadd (UU ++ z) [10] (by simp only [List.length_append, List.length_cons, List.length_nil]; omega)
                      have d5 := sadd TT RR (by omega)
                      have d6 := sadd (TT ++ RR) z (by simp only [List.length_append]; omega)
                      have d7 := sadd (TT ++ RR ++ z) [10] (by simp only [List.length_append, List.length_cons, List.length_nil]; omega)
                      generalize hU2 : UU ++ z = U2 at *
                      generalize hU3 : U2 ++ [10] = U3 at *
                      generalize hT2 : TT ++ RR = T2 at *
                      generalize hT3 : T2 ++ z = T3 at *
                      generalize hT4 : T3 ++ [10] = T4 at *
                      clear hU2 hU3 hT2 hT3 hT4
                      go_wp2
                      go_roundw
                      case rel => exact ⟨k + 1, by go_num, by omega, by rw [HC.out], by rw [HI.out], by first | rfl | trivial⟩
                      case measure => simp [intOf]; omega
                  · have hge : ¬ (k : Int) < (ls.length : Int) := by omega
                    have htk : L.take k = L := List.take_of_length_le (by omega)
                    rw [htk]
                    have HF1 := (show Hid _ from HPs.out wr (hm.below HBW.out))
                    have HDq := HDp.out
                    clear HRw HBd hLm hlen htk HPs hz HKp hzp hLl hMk hff hRr
                    generalize parseL (catT L) = PP at *
                    obtain ⟨KK, DD⟩ := PP
                    simp only at HF1 HPt HDq HDp
                    generalize hIT : strV (catT L) = IT at *
                    generalize hTT : strV (itT FF RR L) = TT at *
                    have hdd : (22 : Int) < (KK.deep : Int) ∨ KK.deep ≤ 22 := by omega
                    rcases hdd with hdd | hdd
                    · have hdg : (23 : Int) ≤ (KK.deep : Int) := by omega
                      go_wp2_with (first
                        | (go_at_call_of 11 IT; refine Calls.mono HF1.out ?_; rintro e' u5 ⟨v1, v2, rfl, k1, k2, hb5⟩; have HB5 : Hid (Below w.heap.size w u5) := HBW.out.trans (hb5.mono HBW.out.size); have HF2 := (show Hid _ from HPt.out u5 (hm.below HB5.out)); have HK1 := (show Hid _ from k1); clear k1 k2 hb5)
                        | (go_at_call 11; refine Calls.mono HF2.out ?_; rintro e' u6 ⟨v3, v4, rfl, k3, hb6⟩; have HB6 : Hid (Below w.heap.size w u6) := HB5.out.trans (hb6.mono HB5.out.size); have HDe := (show Hid _ from bdeep_any KK.size KK (Nat.le_refl _) (by omega) u6 v1 _ _ (KidsV.keeps HK1.out (fun _ q => q) (fun _ q => q) (fun g hg _ => hb6.block g hg) (fun g hg _ => hb6.block g hg))); clear k3 hb6)
                        | (go_at_call 12; refine Calls.mono HDe.out ?_; rintro e' u7 ⟨rfl, hu7⟩; subst u7))
                      go_ret
                      exact ⟨rfl, HB6.out⟩
                    · have hdg : ¬ (23 : Int) ≤ (KK.deep : Int) := by omega
                      go_wp2_with (first
                        | (go_at_call_of 11 IT; refine Calls.mono HF1.out ?_; rintro e' u5 ⟨v1, v2, rfl, k1, k2, hb5⟩; have HB5 : Hid (Below w.heap.size w u5) := HBW.out.trans (hb5.mono HBW.out.size); have HF2 := (show Hid _ from HPt.out u5 (hm.below HB5.out)); have HK1 := (show Hid _ from k1); have HK2 := (show Hid _ from k2); clear k1 k2 hb5)
                        | (go_at_call 11; refine Calls.mono HF2.out ?_; rintro e' u6 ⟨v3, v4, rfl, k3, hb6⟩; obtain ⟨⟨bi, hbi, k3⟩, k4⟩ := k3 hdd; have HB6 : Hid (Below w.heap.size w u6) := HB5.out.trans (hb6.mono HB5.out.size); have HK3 := (show Hid _ from KidsV.keeps HK1.out (fun _ q => q) (fun _ q => q) (fun g hg _ => hb6.block g hg) (fun g hg _ => hb6.block g hg)); have HDe := (show Hid _ from bdeep_any KK.size KK (Nat.le_refl _) (by omega) u6 v1 _ _ HK3.out); have HDf := (show Hid _ from bdefs_any DD u6 v2 v4 (row_keeps HK2.out (fun g hg => hb6.block g (World.ownsRow.lt HK2.out g hg).2)) k4); obtain ⟨g9, c9, g8, c8, v9, rfl, y0, y7, y77, k9⟩ := it_cells hbi k3; have HK9 := (show Hid _ from k9); have z0 := (fun n : Nat => (show (u6.drewN n).cell? ⟨g9, 0, none⟩ = _ from y0)); have z7 := (fun n : Nat => (show (u6.drewN n).cell? ⟨g9, 7, none⟩ = _ from y7)); have z77 := (fun n : Nat => (show (u6.drewN n).cell? ⟨g8, 7, none⟩ = _ from y77)); clear k3 k4 hb6 k9 y0 y7 y77 hbi)
                        | (go_at_call 12; refine Calls.mono HDe.out ?_; rintro e' u7 ⟨rfl, hu7⟩; subst u7)
                        | (go_at_call 13; refine Calls.mono HDf.out ?_; rintro e' u8 ⟨rfl, n8, rfl⟩; have HSa := (show Hid _ from bsame_any KK.size KK (Nat.le_refl _) (u6.drewN n8) v9 v1 _ _ _ _ (KidsV.keeps HK9.out (fun _ q => q) (fun _ q => q) (fun _ _ _ => rfl) (fun _ _ _ => rfl)) (KidsV.keeps HK3.out (fun _ q => q) (fun _ q => q) (fun _ _ _ => rfl) (fun _ _ _ => rfl))))
                        | (go_at_call 14; refine Calls.mono HSa.out ?_; rintro e' u9 ⟨rfl, hb9⟩; have HB9 : Hid (Below w.heap.size w u9) := (cur.below_drewN HB6.out n8).trans (hb9.mono HB6.out.size); clear hb9))
                      go_ret
                      exact ⟨rfl, HB9.out⟩

end blockItems
end Go.Proofs.YtcbojffcnlkejaaGreatDoor
