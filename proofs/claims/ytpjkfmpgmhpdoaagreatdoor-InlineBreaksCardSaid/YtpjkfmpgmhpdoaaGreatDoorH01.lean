/- Several texts in one. -/
import Derived.Test.YtpjkfmpgmhpdoaaGreatDoorG05
set_option linter.unusedVariables false
/- Plain mathematics: lines are held apart by breaks. -/
namespace Go.Proofs.YtpjkfmpgmhpdoaaGreatDoor

theorem row_rep (j : Nat) (c : UInt8) (t : Str8) (hc : c ≠ 32) : rowI (· == 32) (List.replicate j 32 ++ c :: t) = j := by
  unfold rowI
  induction j with
  | zero => rw [List.replicate_zero, List.nil_append, List.takeWhile_cons, if_neg (by simpa using hc)]; rfl
  | succ j ih => rw [List.replicate_succ, List.cons_append, List.takeWhile_cons, if_pos (by decide), List.length_cons, ih]
theorem drop_rep (j : Nat) (t : Str8) : (List.replicate j (32 : UInt8) ++ t).drop j = t := by
  have := List.drop_left (l₁ := List.replicate j (32 : UInt8)) (l₂ := t)
  rwa [List.length_replicate] at this
theorem brk_step (l : Str8) (defs : List Df8) (r : Rd) (j m : Nat) (c : UInt8) (t : Str8) (hd : l.drop r.at0 = List.replicate j 32 ++ 10 :: (List.replicate m 32 ++ c :: t)) (hc : c ≠ 32) :
    r.step l defs = r.add l { i := { kind := if j < 2 then 1 else 2 } } (j + 1 + m) := by
  have hr := row_rep j 10 (List.replicate m 32 ++ c :: t) (by decide)
  have hdj : (l.drop r.at0).drop j = 10 :: (List.replicate m 32 ++ c :: t) := by rw [hd, drop_rep]
  have hd2 : l.drop (r.at0 + j + 1) = List.replicate m 32 ++ c :: t := by
    rw [← List.drop_drop, ← List.drop_drop, hdj]
    rfl
  have hb : ∀ k, r.addBreak l k j = r.add l { i := { kind := k } } (j + 1 + m) := fun k => by
    unfold Rd.addBreak
    rw [hd2, row_rep m c t hc]
  have hhead : ∃ d x, l.drop r.at0 = d :: x ∧ (d = 32 ∨ d = 10) := by
    rw [hd]
    cases j with
    | zero => exact ⟨10, _, rfl, .inr rfl⟩
    | succ j => exact ⟨32, _, rfl, .inl rfl⟩
  obtain ⟨d, x, e, h⟩ := hhead
  unfold Rd.step
  simp only
  rw [e]
  simp only
  rw [if_neg (by rcases h with h | h <;> rw [h] <;> decide), if_pos h, ← e, hd, hr, drop_rep]
  rw [if_neg (by simp)]
  split
  · exact hb 1
  · exact hb 2
theorem slash_step (l : Str8) (defs : List Df8) (r : Rd) (m : Nat) (c : UInt8) (t : Str8) (hd : l.drop r.at0 = 92 :: 10 :: (List.replicate m 32 ++ c :: t)) (hc : c ≠ 32) :
    r.step l defs = r.add l { i := { kind := 2 } } (1 + 1 + m) := by
  have hd2 : l.drop (r.at0 + 1 + 1) = List.replicate m 32 ++ c :: t := by
    rw [← List.drop_drop, ← List.drop_drop, hd]
    rfl
  unfold Rd.step
  simp only
  rw [hd]
  simp only
  rw [if_pos trivial, if_pos trivial]
  unfold Rd.addBreak
  rw [hd2, row_rep m c t hc]
theorem step_blank1 (l : Str8) (defs : List Df8) (r : Rd) (d : UInt8) (t : Str8) (h : l.drop r.at0 = 32 :: d :: t) (h1 : d ≠ 32) (h2 : d ≠ 10) : r.step l defs = r.pass 1 := by
  have hr := row_rep 1 d t h1
  unfold Rd.step
  simp only
  rw [h]
  simp only
  rw [if_neg (by decide), if_pos (.inl trivial)]
  have hr : rowI (fun x => x == 32) (32 :: d :: t) = 1 := hr
  rw [hr, if_pos (by simpa using h2)]

/-- What stands behind a word, ahead of its line feed: so many blanks, and perhaps a backslash; the kind of its break, its text. -/
def brkN : Nat → Nat × Bool
  | 0 => (0, false)
  | 1 => (1, false)
  | 2 => (2, false)
  | 3 => (5, false)
  | 4 => (0, true)
  | 5 => (1, true)
  | 6 => (0, false)
  | _ => (2, false)
def brkE (k : Nat) : Str8 := List.replicate (brkN k).1 32 ++ (if (brkN k).2 then [92] else [])
def brkB (b : Bool) : Str8 := if b then [32, 32] else []
def brkK (k : Nat) : Nat := if 2 ≤ k ∧ k ≠ 6 then 2 else 1
def brkW (k : Nat) : Str8 := if k = 5 then [119, 32] else [119]
def pieceI (q : Nat × Bool) : Str8 := [119] ++ brkE q.1 ++ [10] ++ brkB q.2

theorem add_at (l : Str8) (r : Rd) (p : Pt) (n f : Nat) (x y : Str8) (hf : r.frm = f) (hlt : f < r.at0) (hx : (l.take r.at0).drop f = x) : r.add l p n = { r with at0 := r.at0 + n, frm := r.at0 + n, parts := r.parts ++ [{ i := { text := x } }] ++ [p] } := by
  subst hf
  unfold Rd.add Rd.endText
  simp only
  rw [if_pos hlt, hx]

theorem piece_run (l : Str8) (defs : List Df8) (q : Nat × Bool) (hq : q.1 < 8) (c : UInt8) (t : Str8) (hc : c ≠ 32) (r : Rd) (hd : l.drop r.at0 = pieceI q ++ c :: t) (hf : r.frm = r.at0) (ha : r.at0 ≤ l.length) :
    ∃ j, j ≤ (pieceI q).length ∧ ∀ f, Rd.runF l defs (f + j) r = Rd.runF l defs f { r with at0 := r.at0 + (pieceI q).length, frm := r.at0 + (pieceI q).length, parts := r.parts ++ [{ i := { text := brkW q.1 } }] ++ [{ i := { kind := brkK q.1 } }] } := by
  obtain ⟨k, b⟩ := q
  have hlen : (l.drop r.at0).length = (pieceI (k, b) ++ c :: t).length := by rw [hd]
  rw [List.length_drop, List.length_append] at hlen
  have hpl : 2 ≤ (pieceI (k, b)).length := by simp [pieceI]; omega
  have hlt0 : r.at0 < l.length := by omega
  obtain ⟨m, hm⟩ : ∃ m, brkB b = List.replicate m 32 := by cases b; exact ⟨0, rfl⟩; exact ⟨2, rfl⟩
  have hd0 : l.drop r.at0 = 119 :: (brkE k ++ 10 :: (List.replicate m 32 ++ c :: t)) := by rw [hd, ← hm]; simp [pieceI]
  have hd1 : l.drop (r.at0 + 1) = brkE k ++ 10 :: (List.replicate m 32 ++ c :: t) := by rw [← List.drop_drop, hd0]; rfl
  have hpc : (pieceI (k, b)).length = 1 + (brkE k).length + 1 + m := by
    have : (brkB b).length = m := by rw [hm]; simp
    simp [pieceI, this]
    omega
  have hs0 : r.step l defs = r.pass 1 := step_dull l defs r 119 _ hd0 (by decide)
  have htk : ∀ x y, l.drop r.at0 = x ++ y → (l.take (r.at0 + x.length)).drop r.at0 = x := fun x y h => by
    rw [take_more h rfl (Nat.le_refl _) ha, List.drop_of_length_le (by rw [List.length_take]; omega), List.nil_append]
  have hrun1 : ∀ f, Rd.runF l defs (f + 1) r = Rd.runF l defs f (r.pass 1) := fun f => by rw [run_step l defs f r hlt0, hs0]
  have hp1 : (r.pass 1).frm = r.at0 ∧ (r.pass 1).at0 = r.at0 + 1 ∧ (r.pass 1).parts = r.parts := ⟨hf, rfl, rfl⟩
  -- without a backslash
  have plain : (brkN k).2 = false → brkW k = [119] → (if (brkN k).1 < 2 then 1 else 2) = brkK k → ∃ j, j ≤ (pieceI (k, b)).length ∧ ∀ f, Rd.runF l defs (f + j) r = Rd.runF l defs f { r with at0 := r.at0 + (pieceI (k, b)).length, frm := r.at0 + (pieceI (k, b)).length, parts := r.parts ++ [{ i := { text := brkW k } }] ++ [{ i := { kind := brkK k } }] } := fun h1 h2 h3 => by
    have hE : brkE k = List.replicate (brkN k).1 32 := by unfold brkE; rw [h1]; simp
    have hst := brk_step l defs (r.pass 1) (brkN k).1 m c t (by show l.drop (r.at0 + 1) = _; rw [hd1, hE]) hc
    rw [add_at l (r.pass 1) _ _ r.at0 [119] [] hf (Nat.lt_succ_self _) (htk [119] _ hd0), h3] at hst
    refine ⟨2, by omega, fun f => ?_⟩
    rw [show f + 2 = (f + 1) + 1 by omega, hrun1, run_step l defs f (r.pass 1) (by show r.at0 + 1 < _; omega), hst, h2]
    have hE2 : (brkE k).length = (brkN k).1 := by rw [hE]; simp
    congr 1
    show Rd.mk (r.at0 + 1 + ((brkN k).1 + 1 + m)) (r.at0 + 1 + ((brkN k).1 + 1 + m)) _ _ _ = Rd.mk (r.at0 + (pieceI (k, b)).length) (r.at0 + (pieceI (k, b)).length) _ _ _
    rw [hpc, hE2, show r.at0 + 1 + ((brkN k).1 + 1 + m) = r.at0 + (1 + (brkN k).1 + 1 + m) by omega]
    rfl
  have hk' : k = 0 ∨ k = 1 ∨ k = 2 ∨ k = 3 ∨ k = 4 ∨ k = 5 ∨ k = 6 ∨ k = 7 := by simp only at hq; omega
  rcases hk' with rfl | rfl | rfl | rfl | rfl | rfl | rfl | rfl
  · exact plain rfl rfl rfl
  · exact plain rfl rfl rfl
  · exact plain rfl rfl rfl
  · exact plain rfl rfl rfl
  · have hst := slash_step l defs (r.pass 1) m c t (by show l.drop (r.at0 + 1) = _; rw [hd1]; rfl) hc
    rw [add_at l (r.pass 1) _ _ r.at0 [119] [] hf (Nat.lt_succ_self _) (htk [119] _ hd0)] at hst
    refine ⟨2, by omega, fun f => ?_⟩
    rw [show f + 2 = (f + 1) + 1 by omega, hrun1, run_step l defs f (r.pass 1) (by show r.at0 + 1 < _; omega), hst]
    congr 1
    show Rd.mk (r.at0 + 1 + (1 + 1 + m)) (r.at0 + 1 + (1 + 1 + m)) _ _ _ = Rd.mk (r.at0 + (pieceI (4, b)).length) (r.at0 + (pieceI (4, b)).length) _ _ _
    rw [hpc, show r.at0 + 1 + (1 + 1 + m) = r.at0 + (1 + (brkE 4).length + 1 + m) by show _ = r.at0 + (1 + 1 + 1 + m); omega]
    rfl
  · have hs1 : (r.pass 1).step l defs = (r.pass 1).pass 1 := step_blank1 l defs (r.pass 1) 92 _ (by show l.drop (r.at0 + 1) = _; rw [hd1]; rfl) (by decide) (by decide)
    have hst := slash_step l defs ((r.pass 1).pass 1) m c t (by show l.drop (r.at0 + 1 + 1) = _; rw [← List.drop_drop, hd1]; rfl) hc
    rw [add_at l ((r.pass 1).pass 1) _ _ r.at0 [119, 32] [] hf (by show r.at0 < r.at0 + 1 + 1; omega) (htk [119, 32] _ hd0)] at hst
    have h5 : (pieceI (5, b)).length = 4 + m := by rw [hpc]; show 1 + 2 + 1 + m = _; omega
    refine ⟨3, by omega, fun f => ?_⟩
    rw [show f + 3 = (f + 1 + 1) + 1 by omega, hrun1, run_step l defs (f + 1) (r.pass 1) (by show r.at0 + 1 < _; omega), hs1, run_step l defs f _ (by show r.at0 + 1 + 1 < _; omega), hst]
    congr 1
    show Rd.mk (r.at0 + 1 + 1 + (1 + 1 + m)) (r.at0 + 1 + 1 + (1 + 1 + m)) _ _ _ = Rd.mk (r.at0 + (pieceI (5, b)).length) (r.at0 + (pieceI (5, b)).length) _ _ _
    rw [h5, show r.at0 + 1 + 1 + (1 + 1 + m) = r.at0 + (4 + m) by omega]
    rfl
  · exact plain rfl rfl rfl
  · exact plain rfl rfl rfl

end Go.Proofs.YtpjkfmpgmhpdoaaGreatDoor

/- Plain mathematics: lines are held apart by breaks: all of them. -/
namespace Go.Proofs.YtpjkfmpgmhpdoaaGreatDoor

def brkP (q : Nat × Bool) : List Pt := [{ i := { text := brkW q.1 } }, { i := { kind := brkK q.1 } }]
def brksI : List (Nat × Bool) → Is
  | [] => .cons { text := [122] } .nil .nil
  | q :: r => .cons { text := brkW q.1 } .nil (.cons { kind := brkK q.1 } .nil (brksI r))

theorem pieces_run (l : Str8) (defs : List Df8) : ∀ (qs : List (Nat × Bool)) (r : Rd) (t : Str8), (∀ q ∈ qs, q.1 < 8) → l.drop r.at0 = qs.flatMap pieceI ++ 122 :: t → r.frm = r.at0 → r.at0 ≤ l.length →
    ∃ j, j ≤ (qs.flatMap pieceI).length ∧ ∀ f, Rd.runF l defs (f + j) r = Rd.runF l defs f { r with at0 := r.at0 + (qs.flatMap pieceI).length, frm := r.at0 + (qs.flatMap pieceI).length, parts := r.parts ++ qs.flatMap brkP }
  | [], r, t, _, hd, hf, ha => by
    refine ⟨0, Nat.zero_le _, fun f => ?_⟩
    obtain ⟨a, b, c, d, e⟩ := r
    simp only at hf
    subst hf
    simp
  | q :: qs, r, t, hq, hd, hf, ha => by
    rw [List.flatMap_cons, List.append_assoc] at hd
    obtain ⟨c, x, hx, hc⟩ : ∃ c x, qs.flatMap pieceI ++ 122 :: t = c :: x ∧ c ≠ 32 := by
      cases qs with
      | nil => exact ⟨122, t, rfl, by decide⟩
      | cons p w => exact ⟨119, _, rfl, by decide⟩
    obtain ⟨j, hj, e⟩ := piece_run l defs q (hq q (List.mem_cons_self ..)) c x hc r (by rw [hd, hx]) hf ha
    have hlen : (l.drop r.at0).length = (pieceI q ++ (qs.flatMap pieceI ++ 122 :: t)).length := by rw [hd]
    rw [List.length_drop, List.length_append] at hlen
    have hd2 : l.drop (r.at0 + (pieceI q).length) = qs.flatMap pieceI ++ 122 :: t := by rw [← List.drop_drop, hd, List.drop_left]
    have hle2 : r.at0 + (pieceI q).length ≤ l.length := by
      have : 0 < (pieceI q).length := by simp [pieceI]
      omega
    obtain ⟨j2, hj2, e2⟩ := pieces_run l defs qs { r with at0 := r.at0 + (pieceI q).length, frm := r.at0 + (pieceI q).length, parts := r.parts ++ [{ i := { text := brkW q.1 } }] ++ [{ i := { kind := brkK q.1 } }] } t (fun p hp => hq p (List.mem_cons_of_mem _ hp)) hd2 rfl hle2
    refine ⟨j + j2, by rw [List.flatMap_cons, List.length_append]; omega, fun f => ?_⟩
    rw [show f + (j + j2) = (f + j2) + j by omega, e, e2]
    congr 1
    rw [List.flatMap_cons, List.flatMap_cons, List.length_append]
    show Rd.mk (r.at0 + (pieceI q).length + _) (r.at0 + (pieceI q).length + _) _ _ _ = Rd.mk (r.at0 + ((pieceI q).length + _)) (r.at0 + ((pieceI q).length + _)) _ _ _
    rw [Nat.add_assoc]
    congr 1
    simp [brkP]

theorem told_breaks : ∀ qs : List (Nat × Bool), toldI [] (qs.flatMap brkP ++ [{ i := { text := [122] } }]) = brksI qs
  | [] => rfl
  | q :: r => by
    have hw : brkW q.1 ≠ [] := by unfold brkW; split <;> simp
    have hk : brkK q.1 ≠ 0 := by unfold brkK; split <;> decide
    show toldI ([] ++ brkW q.1) ({ i := { kind := brkK q.1 } } :: (r.flatMap brkP ++ [{ i := { text := [122] } }])) = _
    rw [List.nil_append, toldI, if_neg hk, told_breaks r, withT, if_neg hw]
    rfl

theorem breaks_parse (qs : List (Nat × Bool)) (hq : ∀ q ∈ qs, q.1 < 8) (defs : List Df8) : parseI (qs.flatMap pieceI ++ [122]) defs = brksI qs := by
  obtain ⟨L, hL⟩ : ∃ L, L = qs.flatMap pieceI ++ [122] := ⟨_, rfl⟩
  obtain ⟨n, hn⟩ : ∃ n, n = (qs.flatMap pieceI).length := ⟨_, rfl⟩
  have hLl : L.length = n + 1 := by rw [hL, hn]; simp
  obtain ⟨j, hj, e⟩ := pieces_run L defs qs {} [] hq (by rw [hL]; rfl) rfl (Nat.zero_le _)
  rw [← hn] at hj e
  simp only [Nat.zero_add, List.nil_append] at e
  have hd : L.drop n = [122] := by rw [hL, hn, List.drop_left]
  have hst := step_dull L defs { at0 := n, frm := n, parts := qs.flatMap brkP } 122 [] hd (by decide)
  have hrun : Rd.runF L defs L.length {} = { at0 := n + 1, frm := n, parts := qs.flatMap brkP } := by
    obtain ⟨f, hf⟩ : ∃ f, L.length = (f + 1) + j := ⟨n - j, by omega⟩
    conv => lhs; rw [hf]
    rw [e, run_step L defs f _ (by show n < _; omega), hst]
    cases f with
    | zero => rfl
    | succ f => unfold Rd.runF; rw [if_neg (by show ¬ n + 1 < _; omega)]; rfl
  have hend : (L.take (n + 1)).drop n = [122] := by rw [List.take_of_length_le (by omega), hd]
  rw [← hL]
  unfold parseI
  rw [hrun]
  unfold Rd.endText
  simp only
  rw [if_pos (by omega), hend, emph_plain _ (fun p hp => by
    rcases List.mem_append.1 hp with h | h
    · obtain ⟨q, _, h2⟩ := List.mem_flatMap.1 h
      unfold brkP at h2
      simp only [List.mem_cons, List.not_mem_nil, or_false] at h2
      rcases h2 with rfl | rfl <;> exact ⟨rfl, rfl⟩
    · rw [List.mem_singleton.1 h]; exact ⟨rfl, rfl⟩)]
  exact told_breaks qs

end Go.Proofs.YtpjkfmpgmhpdoaaGreatDoor
