/- Several texts in one. -/
import Derived.Test.YtcbojffcnlkejaaGreatDoorBToldL
import Derived.Test.YtcbojffcnlkejaaGreatDoorG29
import Derived.Lib.Join
set_option linter.unusedVariables false
/- What parts of lines tell of themselves. -/
namespace Go.Proofs.YtcbojffcnlkejaaGreatDoor
open Go.RowKit
open cur (cell_blk free_blk set_blk blk_below)

theorem join_eq : ∀ l : List Str, Lib.join l [10] = joinL l
  | [] => rfl
  | [a] => by simp [Lib.join, joinL]
  | a :: b :: r => by
    have ih := join_eq (b :: r)
    show List.intercalate [10] (a :: b :: r) = a ++ 10 :: joinL (b :: r)
    rw [← ih]
    simp [Lib.join, List.intercalate]

/-- How much the rows of a part hold. -/
def bulkL : List Str → Nat
  | [] => 0
  | a :: r => a.length + 1 + bulkL r
theorem join_len : ∀ l : List Str, (joinL l).length ≤ bulkL l
  | [] => Nat.le_refl _
  | [a] => by simp [joinL, bulkL]
  | a :: b :: r => by
    have := join_len (b :: r)
    show (a ++ 10 :: joinL (b :: r)).length ≤ a.length + 1 + bulkL (b :: r)
    simp only [List.length_append, List.length_cons]
    omega
theorem rows_len : ∀ l : List Str, l.length ≤ bulkL l
  | [] => Nat.le_refl _
  | a :: r => by have := rows_len r; simp only [List.length_cons, bulkL]; omega

theorem row_slice {w : World} {e : TypeId} {s : Nat} {v : Value} {n : Nat} {xs : List Value} (h : w.ownsRow 0 e s v n xs) : ∃ a c, v = .slice a n c ∧ n ≤ c := by
  rcases h.2 with ⟨rfl, rfl⟩ | ⟨g, cap, cur, rfl, hb, hc, hn, rest⟩
  · exact ⟨none, 0, rfl, Nat.le_refl _⟩
  · exact ⟨_, cap, rfl, hn⟩

theorem bjoin_any {w : World} {v : Value} {l : List Str} (h : w.ownsRow 0 9 1 v l.length (strCs l)) (hz : bulkL l ≤ 1099511627776) :
    Calls Tryz.prog 84 #[v, .string ⟨#[10]⟩] w fun e w' => e = .returned (strV (joinL l)) ∧ Below w.heap.size w w' := by
  have hrow := h
  rcases h.2 with ⟨rfl, h0⟩ | ⟨g, cap, cur, rfl, hb, hc, hn, hm, hs, ht⟩
  · have : l = [] := List.length_eq_zero_iff.1 h0
    subst this
    refine (Tryz.strings_Join_none none 0 ⟨#[10]⟩ w).mono ?_
    rintro e w' ⟨rfl, rfl⟩
    exact ⟨rfl, Below.refl _ _⟩
  · have hl := rows_len l
    have hj := join_len l
    have := Tryz.strings_Join g 0 cap (l.map fun x => ⟨x.toArray⟩) ⟨#[10]⟩ w (fun j x hx => ?_) (lt_of_block hc) (by rw [List.length_map]; omega) (by rw [List.length_map]; exact hn) (by simp only [List.map_map]; rw [show ((fun x : ByteArray => x.data.toList) ∘ fun x : Str => (⟨x.toArray⟩ : ByteArray)) = id from rfl, List.map_id]; show (Lib.join l [10]).length ≤ _; rw [join_eq]; omega)
    · rw [List.length_map] at this
      refine this.mono ?_
      rintro e w' ⟨rfl, hb'⟩
      refine ⟨?_, hb'⟩
      simp only [List.map_map]
      rw [show ((fun x : ByteArray => x.data.toList) ∘ fun x : Str => (⟨x.toArray⟩ : ByteArray)) = id from rfl, List.map_id]
      show Ending.returned (strV (Lib.join l [10])) = _
      rw [join_eq]
    · have hcell := hrow.cells (g := g) rfl j (.string x) (by
        rw [List.getElem?_map] at hx
        rw [List.getElem?_map]
        cases hq : l[j]? with
        | none => rw [hq] at hx; cases hx
        | some y => rw [hq] at hx; cases hx; rfl)
      have he : (⟨g, 0, none⟩ : Addr).add j = ⟨g, 0 + j, none⟩ := by
        unfold Addr.add
        split
        · rename_i hj0; subst hj0; rfl
        · rfl
      rwa [he] at hcell

set_option maxHeartbeats 2000000 in
theorem bended_any {w : World} {v : Value} {l : List Str} (h : w.ownsRow 0 9 1 v l.length (strCs l)) (hz : bulkL l ≤ 1099511627776) :
    Calls Tryz.prog 230 #[v] w fun e w' => e = .returned (strV (endedL l)) ∧ Below w.heap.size w w' := by
  obtain ⟨a, c, rfl, hc⟩ := row_slice h
  cases l with
  | nil =>
    clear h
    go_enter Tryz.func230, Tryz.ntmps230
    go_wp2
    go_ret
    exact ⟨rfl, Below.refl _ _⟩
  | cons x r =>
    have HJ : Hid (Calls Tryz.prog 84 #[.slice a (x :: r).length c, .string ⟨#[10]⟩] w fun e w' => e = .returned (strV (joinL (x :: r))) ∧ Below w.heap.size w w') := bjoin_any h hz
    have hj := join_len (x :: r)
    have he : endedL (x :: r) = joinL (x :: r) ++ [10] := by simp [endedL]
    rw [he]
    generalize joinL (x :: r) = T at *
    generalize hX : ByteArray.mk T.toArray = X at *
    have hXs : X.size ≤ 1099511627776 := by rw [← hX, size_list]; omega
    have hsum : X ++ (⟨#[10]⟩ : ByteArray) = ⟨(T ++ [10]).toArray⟩ := by rw [← hX]; exact cat_eq _ _
    have hne : ((x :: r).length : Int) ≠ 0 := by simp only [List.length_cons]; omega
    clear h he hj hz
    generalize (x :: r).length = n at *
    go_enter Tryz.func230, Tryz.ntmps230
    go_wp2_with (go_at_call 84; refine HJ.out.mono ?_; rintro e u ⟨rfl, hb⟩)
    go_ret
    exact ⟨rfl, hb⟩

end Go.Proofs.YtcbojffcnlkejaaGreatDoor

/- What parts of lines tell of themselves. -/
namespace Go.Proofs.YtcbojffcnlkejaaGreatDoor
open Go.RowKit
open cur (cell_blk free_blk set_blk blk_below)

theorem row_below {w w' : World} {e : TypeId} {s : Nat} {v : Value} {n : Nat} {xs : List Value} (h : w.ownsRow 0 e s v n xs) (hb : Below w.heap.size w w') : w'.ownsRow 0 e s v n xs :=
  row_keeps h fun g hg => hb.block g (h.lt g hg).2

set_option maxHeartbeats 2000000 in
theorem btold_html {w : World} {A : Nat → Prop} {b : Nat} {x : Body} {k : Nat} {v : Value} (h : w.heap[b]? = some (.cells (partCs (.html x k) v).toArray 135 (0, 0))) (hr : RowsV w A v x.rows) (hz : bulkL x.rows ≤ 1099511627776) :
    Calls Tryz.prog 244 #[ptrV b] w fun e w' => e = .returned (toldV { kind := 7, text := endedL x.rows } (.slice none 0 0) true) ∧ Below w.heap.size w w' := by
  obtain ⟨a, c, rfl, hc⟩ := row_slice hr.1
  have hnW := new_blk w #[.int .i64 0, .int .i64 0, .string ⟨#[]⟩, .string ⟨#[]⟩, .bool false, .bool false, .int .i64 0, .slice none 0 0] 34
  have HB : Hid (Below w.heap.size w (w.alloc (.cells #[.int .i64 0, .int .i64 0, .string ⟨#[]⟩, .string ⟨#[]⟩, .bool false, .bool false, .int .i64 0, .slice none 0 0] 34))) := (Below.refl _ _).alloc (Nat.le_refl _) _
  have hbW := blk_below h HB.out
  generalize hW : w.alloc (.cells #[.int .i64 0, .int .i64 0, .string ⟨#[]⟩, .string ⟨#[]⟩, .bool false, .bool false, .int .i64 0, .slice none 0 0] 34) = W at hnW HB hbW
  have HE : Hid (Calls Tryz.prog 230 #[.slice a x.rows.length c] W fun e w' => e = .returned (strV (endedL x.rows)) ∧ Below W.heap.size W w') := bended_any (row_below hr.1 HB.out) hz
  have c2 := cell_blk hbW (i := 2) rfl
  simp only [partCs] at c2
  go_enter Tryz.func244, Tryz.ntmps244
  go_wp2_with (go_at_call 230; refine HE.out.mono ?_; rintro e u ⟨rfl, hu⟩; have hn := blk_below hnW hu; obtain ⟨⟨z0, z1, z2, z3, z4, z5, z6, z7⟩, y0, y1, y2, y3, y4, y5, y6, y7⟩ := zer8 hn)
  obtain ⟨⟨d0, d1, d2, d3, d4, d5, d6, d7⟩, _⟩ := zer8 (blk8_set hn (.int .i64 7) (.int .i64 0) (strV (endedL x.rows)) (.string ⟨#[]⟩) (.bool false) (.bool false) (.int .i64 0) (.slice none 0 0))
  refine bodyPost_ret (v := toldV { kind := 7, text := endedL x.rows } (.slice none 0 0) true) ?_ rfl ⟨rfl, set8_below (HB.out.trans (hu.mono HB.out.size)) (Nat.le_refl _)⟩
  rw [results_cell_tmp rfl]
  go_simp

set_option maxHeartbeats 4000000 in
theorem btold_fenced {w : World} {A : Nat → Prop} {b : Nat} {x : Body} {sg : UInt8} {k i : Nat} {s : Str} {v : Value} (h : w.heap[b]? = some (.cells (partCs (.fenced x sg k i s) v).toArray 103 (0, 0))) (hr : RowsV w A v x.rows) (hz : bulkL x.rows ≤ 1099511627776) :
    Calls Tryz.prog 229 #[ptrV b] w fun e w' => e = .returned (toldV { kind := 6, text := endedL x.rows, info := s } (.slice none 0 0) true) ∧ Below w.heap.size w w' := by
  obtain ⟨a, c, rfl, hc⟩ := row_slice hr.1
  have hnW := new_blk w #[.int .i64 0, .int .i64 0, .string ⟨#[]⟩, .string ⟨#[]⟩, .bool false, .bool false, .int .i64 0, .slice none 0 0] 34
  have HB : Hid (Below w.heap.size w (w.alloc (.cells #[.int .i64 0, .int .i64 0, .string ⟨#[]⟩, .string ⟨#[]⟩, .bool false, .bool false, .int .i64 0, .slice none 0 0] 34))) := (Below.refl _ _).alloc (Nat.le_refl _) _
  have hbW := blk_below h HB.out
  have hrW := row_below hr.1 HB.out
  generalize hW : w.alloc (.cells #[.int .i64 0, .int .i64 0, .string ⟨#[]⟩, .string ⟨#[]⟩, .bool false, .bool false, .int .i64 0, .slice none 0 0] 34) = W at hnW HB hbW hrW
  have HE : Hid (∀ u : BwW W, Calls Tryz.prog 230 #[.slice a x.rows.length c] u.wo fun e w' => e = .returned (strV (endedL x.rows)) ∧ ∃ u' : BwW W, w' = u'.wo) := fun u => (bended_any (row_below hrW u.is) hz).mono fun _ w' q => ⟨q.1, BwW.of (u.is.trans (q.2.mono u.is.size)), rfl⟩
  have c2 := fun u : BwW W => cell_blk (u.blk hbW) (i := 2) rfl
  have c6 := fun u : BwW W => cell_blk (u.blk hbW) (i := 6) rfl
  simp only [partCs] at c2 c6
  have HN := (show Hid _ from hnW)
  clear h hr hbW hrW hnW
  go_enter Tryz.func229, Tryz.ntmps229
  go_wp2
  refine region_tail (fun w' => ∃ u : BwW W, w' = u.wo) 11 (by kernel_rfl) (by kernel_rfl) (BwW.first W) ?_
  haveI := BwW.some W
  simp only [List.take_succ_cons, List.take_zero]
  repeat (go_big_quiet_step ((go_at_call 230; exact HE.out _)))
  refine wpQuiet_nil ?_
  intro _ hw'
  obtain ⟨u, hu⟩ := hw'
  subst hu
  simp only [List.drop_succ_cons, List.drop_zero]
  have HU := (show Hid _ from u.is)
  have hn := u.blk HN.out
  generalize u.wo = vv at *
  obtain ⟨⟨z0, z1, z2, z3, z4, z5, z6, z7⟩, y0, y1, y2, y3, y4, y5, y6, y7⟩ := zer8 hn
  clear c2 c6
  go_wp2
  obtain ⟨⟨d0, d1, d2, d3, d4, d5, d6, d7⟩, _⟩ := zer8 (blk8_set hn (.int .i64 6) (.int .i64 0) (strV (endedL x.rows)) (strV s) (.bool false) (.bool false) (.int .i64 0) (.slice none 0 0))
  refine bodyPost_ret (v := toldV { kind := 6, text := endedL x.rows, info := s } (.slice none 0 0) true) ?_ rfl ⟨rfl, set8_below (HB.out.trans (HU.out.mono HB.out.size)) (Nat.le_refl _)⟩
  rw [results_cell_tmp rfl]
  go_simp

set_option maxHeartbeats 2000000 in
theorem bptext_any {w : World} {A : Nat → Prop} {b : Nat} {x : Body} {k : Nat} {v : Value} (h : w.heap[b]? = some (.cells (partCs (.para x k) v).toArray 115 (0, 0))) (hr : RowsV w A v x.rows) (hz : bulkL x.rows ≤ 1099511627776) :
    Calls Tryz.prog 232 #[ptrV b] w fun e w' => e = .returned (strV (tailG (joinL x.rows))) ∧ Below w.heap.size w w' := by
  obtain ⟨a, c, rfl, hc⟩ := row_slice hr.1
  have HJ : Hid (Calls Tryz.prog 84 #[.slice a x.rows.length c, .string ⟨#[10]⟩] w fun e w' => e = .returned (strV (joinL x.rows)) ∧ Below w.heap.size w w') := bjoin_any hr.1 hz
  have hj := join_len x.rows
  have HT : Hid (∀ u, Calls Tryz.prog 91 #[strV (joinL x.rows), .string ⟨#[32, 9]⟩] u fun e w' => e = .returned (strV (tailG (joinL x.rows))) ∧ Below u.heap.size u w') := fun u => trimRight_at ⟨(joinL x.rows).toArray⟩ ⟨#[32, 9]⟩ (by rw [size_list]; omega) (by decide) (by decide) _ (by rw [list_data]; rfl) u
  have c2 := cell_blk h (i := 2) rfl
  simp only [partCs] at c2
  generalize joinL x.rows = T at *
  clear h hr hj hz
  go_enter Tryz.func232, Tryz.ntmps232
  go_wp2_with (first
    | (go_at_call 84; refine HJ.out.mono ?_; rintro e u ⟨rfl, hu⟩)
    | (go_at_call 91; refine (HT.out _).mono ?_; rintro e u2 ⟨rfl, hu2⟩))
  go_ret
  exact ⟨rfl, hu.trans (hu2.mono hu.size)⟩

end Go.Proofs.YtcbojffcnlkejaaGreatDoor

/- What a paragraph, and code without fences, tell of themselves. -/
namespace Go.Proofs.YtcbojffcnlkejaaGreatDoor
open Go.RowKit
open cur (cell_blk free_blk set_blk blk_below)

set_option maxHeartbeats 4000000 in
theorem btold_gone {w : World} {A : Nat → Prop} {b : Nat} {x : Body} {k : Nat} {v : Value} (h : w.heap[b]? = some (.cells (partCs (.para x k) v).toArray 115 (0, 0))) (hr : RowsV w A v x.rows) (h0 : x.rows = []) :
    Calls Tryz.prog 233 #[ptrV b] w fun e w' => e = .returned (toldV {} (.slice none 0 0) false) ∧ Below w.heap.size w w' := by
  obtain ⟨a, c, rfl, hc⟩ := row_slice hr.1
  have hb := fun cs t => blk_below h ((Below.refl w.heap.size w).alloc (Nat.le_refl _) (.cells cs t))
  have c2 := fun cs t => cell_blk (hb cs t) (i := 2) rfl
  simp only [partCs, h0, List.length_nil] at c2
  clear h hr hb
  go_enter Tryz.func233, Tryz.ntmps233
  go_wp2
  refine bodyPost_ret (v := toldV {} (.slice none 0 0) false) ?_ rfl ⟨rfl, (Below.refl _ _).alloc (Nat.le_refl _) _⟩
  rw [results_cell_tmp rfl]
  go_simp

set_option maxHeartbeats 4000000 in
theorem btold_para {w : World} {A : Nat → Prop} {b : Nat} {x : Body} {v : Value} (h : w.heap[b]? = some (.cells (partCs (.para x 0) v).toArray 115 (0, 0))) (hr : RowsV w A v x.rows) (hz : bulkL x.rows ≤ 1099511627776) (h0 : x.rows ≠ []) :
    Calls Tryz.prog 233 #[ptrV b] w fun e w' => e = .returned (toldV { kind := 5, text := tailG (joinL x.rows) } (.slice none 0 0) true) ∧ Below w.heap.size w w' := by
  obtain ⟨a, c, rfl, hc⟩ := row_slice hr.1
  have hnW := new_blk w #[.int .i64 0, .int .i64 0, .string ⟨#[]⟩, .string ⟨#[]⟩, .bool false, .bool false, .int .i64 0, .slice none 0 0] 34
  have HB : Hid (Below w.heap.size w (w.alloc (.cells #[.int .i64 0, .int .i64 0, .string ⟨#[]⟩, .string ⟨#[]⟩, .bool false, .bool false, .int .i64 0, .slice none 0 0] 34))) := (Below.refl _ _).alloc (Nat.le_refl _) _
  have hbW := blk_below h HB.out
  have hrW := row_below hr.1 HB.out
  generalize hW : w.alloc (.cells #[.int .i64 0, .int .i64 0, .string ⟨#[]⟩, .string ⟨#[]⟩, .bool false, .bool false, .int .i64 0, .slice none 0 0] 34) = W at hnW HB hbW hrW
  have HE : Hid (Calls Tryz.prog 232 #[ptrV b] W fun e w' => e = .returned (strV (tailG (joinL x.rows))) ∧ Below W.heap.size W w') := bptext_any (A := A) hbW ⟨hrW, hr.2⟩ hz
  have c2 := cell_blk hbW (i := 2) rfl
  have c3 := cell_blk hbW (i := 3) rfl
  simp only [partCs] at c2 c3
  have hl : (x.rows.length : Int) ≠ 0 := by have := List.length_pos_iff.2 h0; omega
  generalize tailG (joinL x.rows) = T at *
  clear h hr hbW hrW hz h0
  generalize x.rows.length = n at *
  go_enter Tryz.func233, Tryz.ntmps233
  go_wp2_with (go_at_call 232; refine HE.out.mono ?_; rintro e u ⟨rfl, hu⟩; have hn := blk_below hnW hu; obtain ⟨⟨z0, z1, z2, z3, z4, z5, z6, z7⟩, y0, y1, y2, y3, y4, y5, y6, y7⟩ := zer8 hn)
  obtain ⟨⟨d0, d1, d2, d3, d4, d5, d6, d7⟩, _⟩ := zer8 (blk8_set hn (.int .i64 5) (.int .i64 0) (strV T) (.string ⟨#[]⟩) (.bool false) (.bool false) (.int .i64 0) (.slice none 0 0))
  refine bodyPost_ret (v := toldV { kind := 5, text := T } (.slice none 0 0) true) ?_ rfl ⟨rfl, set8_below (HB.out.trans (hu.mono HB.out.size)) (Nat.le_refl _)⟩
  rw [results_cell_tmp rfl]
  go_simp

set_option maxHeartbeats 4000000 in
theorem btold_head {w : World} {A : Nat → Prop} {b : Nat} {x : Body} {k : Nat} {v : Value} (h : w.heap[b]? = some (.cells (partCs (.para x k) v).toArray 115 (0, 0))) (hr : RowsV w A v x.rows) (hz : bulkL x.rows ≤ 1099511627776) (h0 : x.rows ≠ []) (hk : 0 < k) :
    Calls Tryz.prog 233 #[ptrV b] w fun e w' => e = .returned (toldV { kind := 4, level := k, text := tailG (joinL x.rows) } (.slice none 0 0) true) ∧ Below w.heap.size w w' := by
  obtain ⟨a, c, rfl, hc⟩ := row_slice hr.1
  have hnW := new_blk w #[.int .i64 0, .int .i64 0, .string ⟨#[]⟩, .string ⟨#[]⟩, .bool false, .bool false, .int .i64 0, .slice none 0 0] 34
  have HB : Hid (Below w.heap.size w (w.alloc (.cells #[.int .i64 0, .int .i64 0, .string ⟨#[]⟩, .string ⟨#[]⟩, .bool false, .bool false, .int .i64 0, .slice none 0 0] 34))) := (Below.refl _ _).alloc (Nat.le_refl _) _
  have hbW := blk_below h HB.out
  have hrW := row_below hr.1 HB.out
  generalize hW : w.alloc (.cells #[.int .i64 0, .int .i64 0, .string ⟨#[]⟩, .string ⟨#[]⟩, .bool false, .bool false, .int .i64 0, .slice none 0 0] 34) = W at hnW HB hbW hrW
  have HE : Hid (∀ u : BwW W, Calls Tryz.prog 232 #[ptrV b] u.wo fun e w' => e = .returned (strV (tailG (joinL x.rows))) ∧ ∃ u' : BwW W, w' = u'.wo) := fun u => (bptext_any (A := A) (u.blk hbW) ⟨row_below hrW u.is, hr.2⟩ hz).mono fun _ w' q => ⟨q.1, BwW.of (u.is.trans (q.2.mono u.is.size)), rfl⟩
  have b2 := cell_blk hbW (i := 2) rfl
  have b3 := cell_blk hbW (i := 3) rfl
  simp only [partCs] at b2 b3
  have c3 := fun u : BwW W => cell_blk (u.blk hbW) (i := 3) rfl
  simp only [partCs] at c3
  have hl : (x.rows.length : Int) ≠ 0 := by have := List.length_pos_iff.2 h0; omega
  have hk' : (0 : Int) < (k : Int) := by omega
  have HN := (show Hid _ from hnW)
  generalize tailG (joinL x.rows) = T at *
  clear h hr hbW hrW hz h0 hk hnW
  generalize x.rows.length = n at *
  go_enter Tryz.func233, Tryz.ntmps233
  go_wp2
  refine region_tail (fun w' => ∃ u : BwW W, w' = u.wo) 7 (by kernel_rfl) (by kernel_rfl) (BwW.first W) ?_
  haveI := BwW.some W
  simp only [List.take_succ_cons, List.take_zero]
  repeat (go_big_quiet_step ((go_at_call 232; exact HE.out _)))
  refine wpQuiet_nil ?_
  intro _ hw'
  obtain ⟨u, hu⟩ := hw'
  subst hu
  simp only [List.drop_succ_cons, List.drop_zero]
  have HU := (show Hid _ from u.is)
  have hn := u.blk HN.out
  generalize u.wo = vv at *
  obtain ⟨⟨z0, z1, z2, z3, z4, z5, z6, z7⟩, y0, y1, y2, y3, y4, y5, y6, y7⟩ := zer8 hn
  clear c3
  go_wp2
  obtain ⟨⟨d0, d1, d2, d3, d4, d5, d6, d7⟩, _⟩ := zer8 (blk8_set hn (.int .i64 4) (.int .i64 (k : Int)) (strV T) (.string ⟨#[]⟩) (.bool false) (.bool false) (.int .i64 0) (.slice none 0 0))
  refine bodyPost_ret (v := toldV { kind := 4, level := k, text := T } (.slice none 0 0) true) ?_ rfl ⟨rfl, set8_below (HB.out.trans (HU.out.mono HB.out.size)) (Nat.le_refl _)⟩
  rw [results_cell_tmp rfl]
  go_simp

end Go.Proofs.YtcbojffcnlkejaaGreatDoor

/- What code without fences tells of itself. -/
namespace Go.Proofs.YtcbojffcnlkejaaGreatDoor
open Go.RowKit
open cur (cell_blk free_blk set_blk blk_below)

theorem row_take {w : World} {e : TypeId} {g : Nat} {n c : Nat} {xs : List Value} (h : w.ownsRow 0 e 1 (.slice (some ⟨g, 0, none⟩) n c) n xs) (k : Nat) (hk : k ≤ n) : w.ownsRow 0 e 1 (.slice (some ⟨g, 0, none⟩) k c) k (xs.take k) := by
  obtain ⟨h1, h2⟩ := h
  rcases h2 with ⟨h2, _⟩ | ⟨g', cap, cur, h2, hb, hg, hn, hm, hs, ht⟩
  · cases h2
  · cases h2
    refine ⟨by rw [List.length_take, h1]; omega, .inr ⟨g, c, cur, rfl, hb, hg, by omega, hm, hs, ?_⟩⟩
    rw [← ht, List.take_take]
    congr 1
    omega
theorem bulk_take : ∀ (l : List Str) (k : Nat), bulkL (l.take k) ≤ bulkL l
  | [], k => by simp
  | a :: r, 0 => by simp [bulkL]
  | a :: r, k + 1 => by have := bulk_take r k; simp only [List.take_succ_cons, bulkL]; omega

set_option maxHeartbeats 4000000 in
theorem btold_indented {w : World} {A : Nat → Prop} {b : Nat} {x : Body} {v : Value} (h : w.heap[b]? = some (.cells (partCs (.indented x) v).toArray 120 (0, 0))) (hr : RowsV w A v x.rows) (hz : bulkL x.rows ≤ 1099511627776) (h0 : x.first ≤ x.last) (h1 : x.last - x.first + 1 ≤ x.rows.length) (hL : x.last ≤ 1099511627776) :
    Calls Tryz.prog 235 #[ptrV b] w fun e w' => e = .returned (toldV { kind := 6, text := endedL (x.rows.take (x.last - x.first + 1)) } (.slice none 0 0) true) ∧ Below w.heap.size w w' := by
  obtain ⟨a, c, rfl, hc⟩ := row_slice hr.1
  have hnW := new_blk w #[.int .i64 0, .int .i64 0, .string ⟨#[]⟩, .string ⟨#[]⟩, .bool false, .bool false, .int .i64 0, .slice none 0 0] 34
  have HB : Hid (Below w.heap.size w (w.alloc (.cells #[.int .i64 0, .int .i64 0, .string ⟨#[]⟩, .string ⟨#[]⟩, .bool false, .bool false, .int .i64 0, .slice none 0 0] 34))) := (Below.refl _ _).alloc (Nat.le_refl _) _
  have hbW := blk_below h HB.out
  have hrW := row_below hr.1 HB.out
  generalize hW : w.alloc (.cells #[.int .i64 0, .int .i64 0, .string ⟨#[]⟩, .string ⟨#[]⟩, .bool false, .bool false, .int .i64 0, .slice none 0 0] 34) = W at hnW HB hbW hrW
  obtain ⟨g, rfl⟩ : ∃ g, a = some ⟨g, 0, none⟩ := by
    rcases hrW.2 with ⟨q, q0⟩ | ⟨g, cap, cur, q, _⟩
    · omega
    · cases q; exact ⟨g, rfl⟩
  have hk : (x.last : Int) - (x.first : Int) + 1 = ((x.last - x.first + 1 : Nat) : Int) := by omega
  have hk0 : (x.last : Int) - (x.first : Int) = ((x.last - x.first : Nat) : Int) := by omega
  have hk1 : ((x.last - x.first : Nat) : Int) + 1 = ((x.last - x.first + 1 : Nat) : Int) := by omega
  have hT := fun u : BwW W => row_take (row_below hrW u.is) (x.last - x.first + 1) h1
  have hz' : bulkL (x.rows.take (x.last - x.first + 1)) ≤ 1099511627776 := Nat.le_trans (bulk_take _ _) hz
  have HE : Hid (∀ u : BwW W, Calls Tryz.prog 230 #[.slice (some ⟨g, 0, none⟩) (x.last - x.first + 1) c] u.wo fun e w' => e = .returned (strV (endedL (x.rows.take (x.last - x.first + 1)))) ∧ ∃ u' : BwW W, w' = u'.wo) := fun u => (bended_any (l := x.rows.take (x.last - x.first + 1)) (by have := hT u; rw [show (x.rows.take (x.last - x.first + 1)).length = x.last - x.first + 1 by rw [List.length_take]; omega, show strCs (x.rows.take (x.last - x.first + 1)) = (strCs x.rows).take (x.last - x.first + 1) from List.map_take]; exact this) hz').mono fun _ w' q => ⟨q.1, BwW.of (u.is.trans (q.2.mono u.is.size)), rfl⟩
  have c0 := fun u : BwW W => cell_blk (u.blk hbW) (i := 0) rfl
  have c1 := fun u : BwW W => cell_blk (u.blk hbW) (i := 1) rfl
  have c2 := fun u : BwW W => cell_blk (u.blk hbW) (i := 2) rfl
  simp only [partCs] at c0 c1 c2
  have HN := (show Hid _ from hnW)
  generalize hkk : x.last - x.first + 1 = k at *
  generalize x.last - x.first = k0 at *
  have hb1 : ((k : Nat) : Int) ≤ (x.rows.length : Int) := by omega
  have hb2 : (x.rows.length : Int) ≤ (c : Int) := by omega
  have hb3 : ((k : Nat) : Int) ≤ (c : Int) := by omega
  have hb4 : (x.last : Int) ≤ 1099511627776 := by omega
  have hb5 : (x.first : Int) ≤ 1099511627776 := by omega
  generalize endedL (x.rows.take k) = T at *
  clear h hr hbW hrW hnW hT hz hz' hk hkk
  generalize x.rows.length = n at *
  go_enter Tryz.func235, Tryz.ntmps235
  go_wp2
  refine region_tail (fun w' => ∃ u : BwW W, w' = u.wo) 22 (by kernel_rfl) (by kernel_rfl) (BwW.first W) ?_
  haveI := BwW.some W
  simp only [List.take_succ_cons, List.take_zero]
  repeat (go_big_quiet_step ((go_at_call 230; exact HE.out _)))
  refine wpQuiet_nil ?_
  intro _ hw'
  obtain ⟨u, hu⟩ := hw'
  subst hu
  simp only [List.drop_succ_cons, List.drop_zero]
  have HU := (show Hid _ from u.is)
  have hn := u.blk HN.out
  generalize u.wo = vv at *
  obtain ⟨⟨z0, z1, z2, z3, z4, z5, z6, z7⟩, y0, y1, y2, y3, y4, y5, y6, y7⟩ := zer8 hn
  clear c0 c1 c2
  go_wp2
  obtain ⟨⟨d0, d1, d2, d3, d4, d5, d6, d7⟩, _⟩ := zer8 (blk8_set hn (.int .i64 6) (.int .i64 0) (strV T) (.string ⟨#[]⟩) (.bool false) (.bool false) (.int .i64 0) (.slice none 0 0))
  refine bodyPost_ret (v := toldV { kind := 6, text := T } (.slice none 0 0) true) ?_ rfl ⟨rfl, set8_below (HB.out.trans (HU.out.mono HB.out.size)) (Nat.le_refl _)⟩
  rw [results_cell_tmp rfl]
  go_simp

end Go.Proofs.YtcbojffcnlkejaaGreatDoor
