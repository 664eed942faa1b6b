/- Several texts in one. -/
import Derived.Test.YtcbojffcnlkejaaGreatDoorBRep
import Derived.Laws.ResultCell
import Derived.BigRegion
set_option linter.unusedVariables false
/- What a part tells of itself: its lines, and the block that it is when it is closed. -/
namespace Go.Proofs.YtcbojffcnlkejaaGreatDoor
open Go.RowKit
open cur (cell_blk free_blk set_blk blk_below)

theorem below_set {B b i : Nat} {w0 w : World} {u : Value} (h : Below B w0 w) (hB : B ≤ b) : Below B w0 (w.setCell ⟨b, i, none⟩ u) :=
  h.trans ⟨rfl, rfl, rfl, by simp [World.setCell], fun k hk => Below.heap_setCell _ _ _ _ (by simp; omega)⟩
theorem new_blk (w : World) (cs : Array Value) (t : TypeId) : (w.alloc (.cells cs t)).heap[w.heap.size]? = some (.cells cs t (0, 0)) := by
  show (w.heap.push _)[w.heap.size]? = _
  exact Array.getElem?_push_size
theorem blk2_set {w : World} {b : Nat} {t : TypeId} {a0 a1 : Value} (h : w.heap[b]? = some (.cells #[a0, a1] t (0, 0))) (x0 x1 : Value) :
    ((w.setCell ⟨b, 0, none⟩ x0).setCell ⟨b, 1, none⟩ x1).heap[b]? = some (.cells #[x0, x1] t (0, 0)) := set_blk (set_blk h 0 x0) 1 x1

theorem results_cell1 {fn : Func} {p : Tmp} {ty : TypeId} (h : fn.results = #[.cell p ty]) (tmps : Array Value) (P : Program) (w : World) :
    (results fn tmps).run P w = ((asAddr (tmps.getD p undef)).run P w).andThen fun a w₁ => (loadVar ty a).run P w₁ := by
  simp only [results, h]
  simp [Sem.run_bind, Result.andThen]

set_option maxHeartbeats 2000000 in
theorem blines_any {w : World} {b : Nat} {cs : Array Value} {t : TypeId} {f l : Nat} (h : w.heap[b]? = some (.cells cs t (0, 0))) (h0 : cs[0]? = some (.int .i64 (f : Int))) (h1 : cs[1]? = some (.int .i64 (l : Int))) :
    Calls Tryz.prog 227 #[ptrV b] w fun e w' => e = .returned (.agg #[.int .i64 (f : Int), .int .i64 (l : Int)]) ∧ Below w.heap.size w w' := by
  have hb := blk_below h ((Below.refl _ _).alloc (Nat.le_refl _) (.cells #[.int .i64 0, .int .i64 0] 48))
  have hn := new_blk w #[.int .i64 0, .int .i64 0] 48
  have c0 := cell_blk hb h0
  have c1 := cell_blk hb h1
  have n0 := cell_blk hn (i := 0) rfl
  have n1 := cell_blk hn (i := 1) rfl
  have f0 := free_blk hn 0
  have f1 := free_blk hn 1
  go_enter Tryz.func227, Tryz.ntmps227
  go_wp2
  refine bodyPost_ret (v := .agg #[.int .i64 (f : Int), .int .i64 (l : Int)]) ?_ rfl ⟨rfl, (Below.refl _ _).alloc (Nat.le_refl _) _⟩
  rw [results_cell1 rfl]
  go_simp

/-- What told hands back of a block. -/
abbrev toldV (b : BI) (v : Value) (ok : Bool) : Value := .tuple #[.agg (biCells b v).toArray, .bool ok]

set_option maxHeartbeats 2000000 in
theorem btold_quote {w : World} {b : Nat} {x : Box} {a : Option Addr} {n c : Nat} (h : w.heap[b]? = some (.cells (partCs (.quote x) (.slice a n c)).toArray 124 (0, 0))) :
    Calls Tryz.prog 237 #[ptrV b] w fun e w' => e = .returned (toldV { kind := 1 } (.slice a n c) true) ∧ Below w.heap.size w w' := by
  have hb := fun cs t => blk_below h ((Below.refl w.heap.size w).alloc (Nat.le_refl _) (.cells cs t))
  have c2 := fun cs t => cell_blk (hb cs t) (i := 2) rfl
  simp only [partCs] at c2
  go_enter Tryz.func237, Tryz.ntmps237
  go_wp2
  refine bodyPost_ret (v := toldV { kind := 1 } (.slice a n c) true) ?_ rfl ⟨rfl, (Below.refl _ _).alloc (Nat.le_refl _) _⟩
  rw [results_cell_tmp rfl]
  go_simp

set_option maxHeartbeats 2000000 in
theorem btold_doc {w : World} {b : Nat} {x : Box} {a : Option Addr} {n c : Nat} (h : w.heap[b]? = some (.cells (partCs (.doc x) (.slice a n c)).toArray 52 (0, 0))) :
    Calls Tryz.prog 226 #[ptrV b] w fun e w' => e = .returned (toldV {} (.slice a n c) true) ∧ Below w.heap.size w w' := by
  have hb := fun cs t => blk_below h ((Below.refl w.heap.size w).alloc (Nat.le_refl _) (.cells cs t))
  have c2 := fun cs t => cell_blk (hb cs t) (i := 2) rfl
  simp only [partCs] at c2
  go_enter Tryz.func226, Tryz.ntmps226
  go_wp2
  refine bodyPost_ret (v := toldV {} (.slice a n c) true) ?_ rfl ⟨rfl, (Below.refl _ _).alloc (Nat.le_refl _) _⟩
  rw [results_cell_tmp rfl]
  go_simp

set_option maxHeartbeats 2000000 in
theorem btold_item {w : World} {b : Nat} {x : Box} {m : Nat} {a : Option Addr} {n c : Nat} (h : w.heap[b]? = some (.cells (partCs (.item x m) (.slice a n c)).toArray 145 (0, 0))) :
    Calls Tryz.prog 239 #[ptrV b] w fun e w' => e = .returned (toldV { kind := 3 } (.slice a n c) true) ∧ Below w.heap.size w w' := by
  have hb := fun cs t => blk_below h ((Below.refl w.heap.size w).alloc (Nat.le_refl _) (.cells cs t))
  have c2 := fun cs t => cell_blk (hb cs t) (i := 2) rfl
  simp only [partCs] at c2
  go_enter Tryz.func239, Tryz.ntmps239
  go_wp2
  refine bodyPost_ret (v := toldV { kind := 3 } (.slice a n c) true) ?_ rfl ⟨rfl, (Below.refl _ _).alloc (Nat.le_refl _) _⟩
  rw [results_cell_tmp rfl]
  go_simp

set_option maxHeartbeats 2000000 in
theorem btold_whole {w : World} {b f l : Nat} {i : BI} (h : w.heap[b]? = some (.cells (partCs (.whole f l i) (.slice none 0 0)).toArray 129 (0, 0))) :
    Calls Tryz.prog 240 #[ptrV b] w fun e w' => e = .returned (toldV i (.slice none 0 0) true) ∧ Below w.heap.size w w' := by
  have hb := fun cs t => blk_below h ((Below.refl w.heap.size w).alloc (Nat.le_refl _) (.cells cs t))
  have c2 := fun cs t => cell_blk (hb cs t) (i := 2) rfl
  have c3 := fun cs t => cell_blk (hb cs t) (i := 3) rfl
  have c4 := fun cs t => cell_blk (hb cs t) (i := 4) rfl
  have c5 := fun cs t => cell_blk (hb cs t) (i := 5) rfl
  have c6 := fun cs t => cell_blk (hb cs t) (i := 6) rfl
  have c7 := fun cs t => cell_blk (hb cs t) (i := 7) rfl
  have c8 := fun cs t => cell_blk (hb cs t) (i := 8) rfl
  have c9 := fun cs t => cell_blk (hb cs t) (i := 9) rfl
  simp only [partCs] at c2 c3 c4 c5 c6 c7 c8 c9
  go_enter Tryz.func240, Tryz.ntmps240
  go_wp2
  refine bodyPost_ret (v := toldV i (.slice none 0 0) true) ?_ rfl ⟨rfl, (Below.refl _ _).alloc (Nat.le_refl _) _⟩
  rw [results_cell_tmp rfl]
  go_simp

end Go.Proofs.YtcbojffcnlkejaaGreatDoor

/- append of one struct of eight cells: onto a row of one's own, and the store of it. -/
namespace Go.Proofs.YtcbojffcnlkejaaGreatDoor
open Go.RowKit
open cur (cell_blk free_blk set_blk blk_below)

theorem step_append_row {P : Program} {ops : Array Oper} {o : Oper} {a : Act} {w : World} {K : Act → World → Prop} {Q : Exit → Act → World → Prop} {E : Prop}
    (hg : o.guard = none) (s x : Operand) (t : TypeId) (hop : o.op = Op.call { callee := Callee.builtin Builtin.append, args := #[s, x], argTypes := #[t, t] })
    (e : TypeId) (i : TypeInfo) (z : Value) (size bytes : Nat) (h1 : P.underlying t = some (.slice e)) (h2 : P.info? e = some i) (h3 : i.zero = some z) (h4 : i.size = size) (h5 : i.bytes = bytes) (h6 : z.cells.size = size) (h7 : 0 < size)
    (v : Value) (n : Nat) (xs : List Value) (hs : a.eval s = v) (hown : w.ownsRow 0 e size v n xs)
    (ad : Addr) (c : Nat) (news : List Value) (hx : a.eval x = .slice (some ad) 1 c) (hn : news.length = size) (hc : ∀ j u, news[j]? = some u → w.cell? (ad.add j) = some u) (h1c : ∀ u ∈ news, u.oneCell' = true)
    (b1 : n + 1 ≤ maxLen) (b2 : (n + 1) * bytes ≤ 140737488355328)
    (hK : ∀ g c' w', w'.ownsRow 0 e size (.slice (some ⟨g, 0, none⟩) (n + 1) c') (n + 1) (xs ++ news) → w.grownBy w' v.ownBlock → (v.ownBlock = some g ∨ g = w.heap.size) → K (a.put o.dst (.slice (some ⟨g, 0, none⟩) (n + 1) c')) w') :
    if Region.wanted o (yielded ops a.tmps) = true then Oper.wp P o a w K Q else E := by
  have hw : Region.wanted o (yielded ops a.tmps) = true := by simp [Region.wanted, hg]
  rw [if_pos hw]
  obtain ⟨v', w', hrun, r1, r2, _, r4⟩ := run_append_own_at (P := P) w 0 t o.type e i z size bytes h1 h2 h3 h4 h5 h6 h7 v n xs hown ad 1 c news (by omega) hc h1c b1 b2 (Nat.zero_le _)
  unfold Oper.wp
  simp [execOp, hop, resolve, invoke, builtin, hs, hx, hrun, Result.andThen]
  have r1' := r1
  rcases r1.2 with ⟨_, q⟩ | ⟨g, cap, cur, rfl, _⟩
  · omega
  · refine hK g cap w' r1' r2 ?_
    rcases r4 with q | q
    · exact .inl q.symm
    · exact .inr (Option.some.inj q)

theorem set_mid (xs p r : List Value) (z y : Value) (k : Nat) (hk : k = xs.length + p.length) : (xs ++ (p ++ z :: r)).toArray.setIfInBounds k y = (xs ++ (p ++ y :: r)).toArray := by
  subst hk
  simp

/-- The cells of a row's last struct. -/
theorem row_new8 {w : World} {e : TypeId} {g n c : Nat} {xs : List Value} {z0 z1 z2 z3 z4 z5 z6 z7 : Value} (h : w.ownsRow 0 e 8 (.slice (some ⟨g, 0, none⟩) (n + 1) c) (n + 1) (xs ++ [z0, z1, z2, z3, z4, z5, z6, z7])) :
    (w.cell? ⟨g, n * 8, none⟩ = some z0 ∧ w.cell? ⟨g, n * 8 + 1, none⟩ = some z1 ∧ w.cell? ⟨g, n * 8 + 2, none⟩ = some z2 ∧ w.cell? ⟨g, n * 8 + 3, none⟩ = some z3 ∧ w.cell? ⟨g, n * 8 + 4, none⟩ = some z4 ∧ w.cell? ⟨g, n * 8 + 5, none⟩ = some z5 ∧ w.cell? ⟨g, n * 8 + 6, none⟩ = some z6 ∧ w.cell? ⟨g, n * 8 + 7, none⟩ = some z7) ∧
    ∀ i, w.frozen? ⟨g, i, none⟩ = false := by
  have hl : xs.length = n * 8 := by have := h.1; simp only [List.length_append, List.length_cons, List.length_nil] at this; omega
  have key : ∀ j u, [z0, z1, z2, z3, z4, z5, z6, z7][j]? = some u → w.cell? ⟨g, n * 8 + j, none⟩ = some u := by
    intro j u hu
    have hc := h.cells (g := g) rfl (n * 8 + j) u (by rw [List.getElem?_append_right (by omega), hl]; simpa using hu)
    have he : (⟨g, 0, none⟩ : Addr).add (n * 8 + j) = ⟨g, n * 8 + j, none⟩ := by
      unfold Addr.add
      split
      · rename_i q; simp
      · simp
    rwa [he] at hc
  refine ⟨⟨key 0 _ rfl, key 1 _ rfl, key 2 _ rfl, key 3 _ rfl, key 4 _ rfl, key 5 _ rfl, key 6 _ rfl, key 7 _ rfl⟩, fun i => ?_⟩
  obtain ⟨cur, q⟩ := row_block h (g := g) rfl
  exact free_blk q i

/-- A row whose last struct is written over. -/
theorem row_set8 {w : World} {e : TypeId} {g n c : Nat} {xs : List Value} {z0 z1 z2 z3 z4 z5 z6 z7 : Value} (h : w.ownsRow 0 e 8 (.slice (some ⟨g, 0, none⟩) (n + 1) c) (n + 1) (xs ++ [z0, z1, z2, z3, z4, z5, z6, z7])) (y0 y1 y2 y3 y4 y5 y6 y7 : Value) :
    ((((((((w.setCell ⟨g, n * 8, none⟩ y0).setCell ⟨g, n * 8 + 1, none⟩ y1).setCell ⟨g, n * 8 + 2, none⟩ y2).setCell ⟨g, n * 8 + 3, none⟩ y3).setCell ⟨g, n * 8 + 4, none⟩ y4).setCell ⟨g, n * 8 + 5, none⟩ y5).setCell ⟨g, n * 8 + 6, none⟩ y6).setCell ⟨g, n * 8 + 7, none⟩ y7).ownsRow 0 e 8 (.slice (some ⟨g, 0, none⟩) (n + 1) c) (n + 1) (xs ++ [y0, y1, y2, y3, y4, y5, y6, y7]) := by
  obtain ⟨h1, h2⟩ := h
  rcases h2 with ⟨h2, _⟩ | ⟨g', cap, cur, h2, hb, hg, hn, hm, hs, ht⟩
  · cases h2
  · cases h2
    have hl : xs.length = n * 8 := by simp only [List.length_append, List.length_cons, List.length_nil] at h1; omega
    obtain ⟨r, hr⟩ : ∃ r, cur = (xs ++ ([] ++ z0 :: z1 :: z2 :: z3 :: z4 :: z5 :: z6 :: z7 :: r)).toArray := by
      refine ⟨cur.toList.drop ((n + 1) * 8), ?_⟩
      have := List.take_append_drop ((n + 1) * 8) cur.toList
      rw [ht] at this
      apply Array.toList_inj.1
      refine this.symm.trans ?_
      simp
    rw [hr] at hg
    have q0 := set_blk hg (n * 8) y0
    rw [set_mid xs [] _ z0 y0 _ (by simp; omega)] at q0
    have q1 := set_blk q0 (n * 8 + 1) y1
    rw [show xs ++ ([] ++ y0 :: z1 :: z2 :: z3 :: z4 :: z5 :: z6 :: z7 :: r) = xs ++ ([y0] ++ z1 :: z2 :: z3 :: z4 :: z5 :: z6 :: z7 :: r) from rfl, set_mid xs [y0] _ z1 y1 _ (by simp; omega)] at q1
    have q2 := set_blk q1 (n * 8 + 2) y2
    rw [show xs ++ ([y0] ++ y1 :: z2 :: z3 :: z4 :: z5 :: z6 :: z7 :: r) = xs ++ ([y0, y1] ++ z2 :: z3 :: z4 :: z5 :: z6 :: z7 :: r) from rfl, set_mid xs [y0, y1] _ z2 y2 _ (by simp; omega)] at q2
    have q3 := set_blk q2 (n * 8 + 3) y3
    rw [show xs ++ ([y0, y1] ++ y2 :: z3 :: z4 :: z5 :: z6 :: z7 :: r) = xs ++ ([y0, y1, y2] ++ z3 :: z4 :: z5 :: z6 :: z7 :: r) from rfl, set_mid xs [y0, y1, y2] _ z3 y3 _ (by simp; omega)] at q3
    have q4 := set_blk q3 (n * 8 + 4) y4
    rw [show xs ++ ([y0, y1, y2] ++ y3 :: z4 :: z5 :: z6 :: z7 :: r) = xs ++ ([y0, y1, y2, y3] ++ z4 :: z5 :: z6 :: z7 :: r) from rfl, set_mid xs [y0, y1, y2, y3] _ z4 y4 _ (by simp; omega)] at q4
    have q5 := set_blk q4 (n * 8 + 5) y5
    rw [show xs ++ ([y0, y1, y2, y3] ++ y4 :: z5 :: z6 :: z7 :: r) = xs ++ ([y0, y1, y2, y3, y4] ++ z5 :: z6 :: z7 :: r) from rfl, set_mid xs [y0, y1, y2, y3, y4] _ z5 y5 _ (by simp; omega)] at q5
    have q6 := set_blk q5 (n * 8 + 6) y6
    rw [show xs ++ ([y0, y1, y2, y3, y4] ++ y5 :: z6 :: z7 :: r) = xs ++ ([y0, y1, y2, y3, y4, y5] ++ z6 :: z7 :: r) from rfl, set_mid xs [y0, y1, y2, y3, y4, y5] _ z6 y6 _ (by simp; omega)] at q6
    have q7 := set_blk q6 (n * 8 + 7) y7
    rw [show xs ++ ([y0, y1, y2, y3, y4, y5] ++ y6 :: z7 :: r) = xs ++ ([y0, y1, y2, y3, y4, y5, y6] ++ z7 :: r) from rfl, set_mid xs [y0, y1, y2, y3, y4, y5, y6] _ z7 y7 _ (by simp; omega)] at q7
    refine ⟨by simp only [List.length_append, List.length_cons, List.length_nil]; omega, .inr ⟨g, c, _, rfl, Nat.zero_le _, q7, hn, hm, ?_, ?_⟩⟩
    · have : cur.size = (xs ++ ([] ++ z0 :: z1 :: z2 :: z3 :: z4 :: z5 :: z6 :: z7 :: r)).length := by rw [hr]; simp
      rw [← hs, this]
      simp
    · have e8 : (n + 1) * 8 = (xs ++ [y0, y1, y2, y3, y4, y5, y6, y7]).length := by simp only [List.length_append, List.length_cons, List.length_nil]; omega
      rw [e8, show (xs ++ ([y0, y1, y2, y3, y4, y5, y6] ++ y7 :: r)).toArray.toList = (xs ++ [y0, y1, y2, y3, y4, y5, y6, y7]) ++ r by simp]
      exact List.take_left

theorem fr_set8 {X : Nat → Prop} {v w : World} {g o : Nat} {y0 y1 y2 y3 y4 y5 y6 y7 : Value} (h : Fr X v w) (hg : X g) : Fr X v ((((((((w.setCell ⟨g, o, none⟩ y0).setCell ⟨g, o + 1, none⟩ y1).setCell ⟨g, o + 2, none⟩ y2).setCell ⟨g, o + 3, none⟩ y3).setCell ⟨g, o + 4, none⟩ y4).setCell ⟨g, o + 5, none⟩ y5).setCell ⟨g, o + 6, none⟩ y6).setCell ⟨g, o + 7, none⟩ y7) :=
  (((((((h.set hg o y0).set hg (o + 1) y1).set hg (o + 2) y2).set hg (o + 3) y3).set hg (o + 4) y4).set hg (o + 5) y5).set hg (o + 6) y6).set hg (o + 7) y7
theorem set8_other {w : World} {g o k : Nat} {y0 y1 y2 y3 y4 y5 y6 y7 : Value} (h : k ≠ g) : ((((((((w.setCell ⟨g, o, none⟩ y0).setCell ⟨g, o + 1, none⟩ y1).setCell ⟨g, o + 2, none⟩ y2).setCell ⟨g, o + 3, none⟩ y3).setCell ⟨g, o + 4, none⟩ y4).setCell ⟨g, o + 5, none⟩ y5).setCell ⟨g, o + 6, none⟩ y6).setCell ⟨g, o + 7, none⟩ y7).heap[k]? = w.heap[k]? := by
  repeat rw [Below.heap_setCell _ _ _ _ (by simpa using h)]
theorem fr_grown {w w' : World} {row : Option Nat} (h : w.grownBy w' row) : Fr (fun k => row = some k) w w' := ⟨h.os, h.tape, h.output, h.size, fun k hk hx => h.block k hk (fun e => hx e.symm)⟩

end Go.Proofs.YtcbojffcnlkejaaGreatDoor
