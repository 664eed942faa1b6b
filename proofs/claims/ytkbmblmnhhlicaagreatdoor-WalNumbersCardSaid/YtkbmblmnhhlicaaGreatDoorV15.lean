/- Several texts in one. -/
import Derived.Test.YtkbmblmnhhlicaaGreatDoorVCutL
import Derived.RangeFuncNested
import Derived.RangeFuncBound
import Derived.RangeFuncCalls
import Derived.RangeFuncLeaves
import Derived.RangeFuncFrom
import Derived.Shelf.Abstract
import Derived.OwnWalkIn
import Derived.TacticsInMore
import Derived.LoopNIn
import Derived.LoopIn
set_option linter.unusedVariables false
/- A loop over a function that reads, in each round, what the loop's body changes: a law of its own. -/
namespace Go.Proofs.YtkbmblmnhhlicaaGreatDoor
open Go.RowKit

/-- What is asked of the function: whatever stands between two rounds tells it what it reads there. -/
def IterOn {α : Type} (F : Fence) (n : Nat) (P : Program) (gf : Nat) (la lb : Array Value) (encs : α → Array Value) (Rd : List α → World → Prop) (xs : List α) : Prop :=
  ∀ (l : Nat) (J X : List α → World → Prop) (W : World), (∀ pre U, J pre U → Rd pre U) →
    (∀ pre x post U, xs = pre ++ x :: post → J pre U → YieldAt F (n - 1) P l (encs x) U fun e U' => (e = .returned (.bool true) ∧ J (pre ++ [x]) U') ∨ (e = .returned (.bool false) ∧ X (pre ++ [x]) U')) →
    J [] W → CallsIn F n P gf (la ++ #[.func (.yield l) #[] #[]] ++ lb) W fun e U => (∃ v, e = .returned v) ∧ (J xs U ∨ ∃ pre x post, xs = pre ++ x :: post ∧ X (pre ++ [x]) U)

/-- Two blocks are as they were. -/
def Two (l D : Nat) (W U : World) : Prop := U.heap[l]? = W.heap[l]? ∧ U.heap[D]? = W.heap[D]?
/-- How a body may be left. -/
def LeftBy {α : Type} (I : List α → World → Prop) (Ix : Code → List α → World → Prop) (ys : List α) (U : World) : Exit → Prop
  | .normal => I ys U
  | .ret => Ix .ret ys U
  | .exit id => Ix (.exit id) ys U
  | .goto t => Ix (.goto t) ys U
  | _ => False

theorem wp_range {F : Fence} {n : Nat} {P : Program} {α : Type} {g : Operand} {ps : Array Tmp} {assign body : Code} {Q : Exit → Act → World → Prop} {a : Act} {w : World} {gf : Nat} {la lb : Array Value}
    (hro : F.round = none) (h1 : 1 ≤ n) (hg : a.eval g = .func (.func gf) la lb) (hF : F.fn gf) (eg : ∀ args u, (callFunc gf args).run P u = .ok (.enter gf args) u)
    {encs : α → Array Value} {Rd : List α → World → Prop} {xs : List α} (hit : IterOn F (n - 1) P gf la lb encs Rd xs) (hps : ∀ x, (encs x).size = ps.size)
    (I : List α → World → Prop) (Ix : Code → List α → World → Prop) (Ax : α → Act → World → Prop) (hRd : ∀ pre U, I pre U → Rd pre U)
    (oI : OwnFrom w.heap.size I) (oX : ∀ c, OwnFrom w.heap.size (Ix c)) (oA : ∀ a', OwnFrom w.heap.size (fun x U => Ax x a' U)) (h0 : I [] w)
    (hassign : ∀ (l D : Nat) (pre : List α) (x : α) (post : List α) (W : World), w.heap.size ≤ D → D < W.heap.size → w.heap.size ≤ l → l < W.heap.size → xs = pre ++ x :: post → I pre W →
      assign.wpIn (F.inRound l) (n - 1 - 1) P (Exit.then (fun a' U => Two l D W U ∧ I pre U ∧ Ax x a' U) (fun _ _ _ => False)) { tmps := (ps.zip (encs x)).foldl (fun t (p, v) => t.setIfInBounds p v) a.tmps, defers := [] } W)
    (hbody : ∀ (l D : Nat) (pre : List α) (x : α) (post : List α) (a' : Act) (U : World), w.heap.size ≤ D → D < U.heap.size → w.heap.size ≤ l → l < U.heap.size → xs = pre ++ x :: post → I pre U → Ax x a' U →
      body.wpIn (F.inRound l) (n - 1 - 1) P (fun ex _ U' => Two l D U U' ∧ LeftBy I Ix (pre ++ [x]) U' ex) a' U)
    (hdone : ∀ (D : Nat) (U : World), w.heap.size ≤ D → I xs U → U.heap[D]? = some (.deferred (some [])) → Q .normal { a with defers := { target := .collected D, args := #[] } :: a.defers } U)
    (hleft : ∀ (D : Nat) (c : Code) (pre : List α) (x : α) (post : List α) (U : World), w.heap.size ≤ D → xs = pre ++ x :: post → Ix c (pre ++ [x]) U → U.heap[D]? = some (.deferred (some [])) → c.wpIn F n P Q { a with defers := { target := .collected D, args := #[] } :: a.defers } U) :
    (Code.rangeFunc g ps assign body).wpIn F n P Q a w := by
  refine wpIn_rangeFunc fun fn hfn => ?_
  rw [hro]
  -- the record that is laid, in its states
  let R : LoopState → Option Code → Obj := fun st pe => .loop { state := st, pending := pe, fn, tmps := a.tmps, params := ps, assign, body, defers := w.heap.size }
  obtain ⟨V, hV⟩ : ∃ V, V = (w.alloc (.deferred (some []))).alloc (R .ready none) := ⟨_, rfl⟩
  have hz1 : (w.alloc (.deferred (some []))).heap.size = w.heap.size + 1 := World.size_alloc _ _
  have vL : V.heap[w.heap.size + 1]? = some (R .ready none) := by
    rw [hV, ← hz1]; exact World.alloc_heap_new _ _
  have vD : V.heap[w.heap.size]? = some (.deferred (some [])) := by
    rw [hV, heap_alloc_old _ _ (by rw [hz1]; omega)]; exact World.alloc_heap_new _ _
  have vI : I [] V := by rw [hV]; exact oI.alloc _ (oI.alloc _ h0)
  have hne : w.heap.size ≠ w.heap.size + 1 := by omega
  refine ⟨w.heap.size + 1, [{ target := .collected w.heap.size, args := #[] }], V, { target := .fn (.func gf) lb, args := la ++ #[.func (.yield (w.heap.size + 1)) #[] #[]] }, V, gf, la ++ #[.func (.yield (w.heap.size + 1)) #[] #[]] ++ lb, V, ?_, ?_, ?_, ?_, fun _ => h1, ?_⟩
  · rw [hV]; exact run_enterLoop_outer _ _ _ _ _
  · simp only [resolve, hg]
    simp [go_sem]
  · intro f' hf'
    simp [Target.leads] at hf'
    rw [← hf']; exact hF
  · simp [invoke, go_sem, eg]
  -- what stands between two rounds, and behind a round that leaves
  refine (hit (w.heap.size + 1) (fun pre U => I pre U ∧ U.heap[w.heap.size + 1]? = some (R .ready none) ∧ U.heap[w.heap.size]? = some (.deferred (some [])))
    (fun pre U => ∃ c, Ix c pre U ∧ U.heap[w.heap.size + 1]? = some (R .done (some c)) ∧ U.heap[w.heap.size]? = some (.deferred (some []))) V (fun pre U h => hRd pre U h.1) ?_ ⟨vI, vL, vD⟩).mono ?_
  · rintro pre x post U hx ⟨uI, uL, uD⟩
    have lL := (Array.getElem?_eq_some_iff.1 uL).1
    have lD := (Array.getElem?_eq_some_iff.1 uD).1
    refine ⟨fn, _, assign, body, run_yield uL (hps x), roundIn_of_wpIn hfn (wpIn_mono (hassign (w.heap.size + 1) w.heap.size pre x post U (Nat.le_refl _) lD (by omega) lL hx uI) ?_)⟩
    rintro ex a' Y hY
    cases ex with
    | normal =>
      obtain ⟨⟨y1, y2⟩, yI, yA⟩ := hY
      have yL := y1.trans uL
      have yD := y2.trans uD
      have kL := (Array.getElem?_eq_some_iff.1 yL).1
      refine ⟨_, run_beginRound yL rfl, ?_⟩
      obtain ⟨Z, hZ⟩ : ∃ Z, Z = Y.putObj (w.heap.size + 1) (R .busy none) := ⟨_, rfl⟩
      have zL : Z.heap[w.heap.size + 1]? = some (R .busy none) := by rw [hZ]; exact World.putObj_heap_same kL
      have zD : Z.heap[w.heap.size]? = some (.deferred (some [])) := by rw [hZ]; exact (World.putObj_heap_other hne).trans yD
      have zI : I pre Z := by rw [hZ]; exact oI.putObj _ yI (by omega) yL rfl
      have zA : Ax x a' Z := by rw [hZ]; exact (oA a').putObj _ yA (by omega) yL rfl
      show body.wpIn _ _ P _ a' (Y.putObj (w.heap.size + 1) (R .busy none))
      rw [← hZ]
      refine wpIn_mono (hbody (w.heap.size + 1) w.heap.size pre x post a' Z (Nat.le_refl _) (Array.getElem?_eq_some_iff.1 zD).1 (by omega) (Array.getElem?_eq_some_iff.1 zL).1 hx zI zA) ?_
      rintro ex2 a2 T ⟨⟨t1, t2⟩, hT⟩
      have tL := t1.trans zL
      have tD := t2.trans zD
      have mL := (Array.getElem?_eq_some_iff.1 tL).1
      have leave : ∀ c, Ix c (pre ++ [x]) T → ∃ v W', (Instr.endRound (w.heap.size + 1) (some c)).run P T = .ok v W' ∧ v = .bool false ∧ (Ix c (pre ++ [x]) W' ∧ W'.heap[w.heap.size + 1]? = some (R .done (some c)) ∧ W'.heap[w.heap.size]? = some (.deferred (some []))) := fun c hc =>
        ⟨_, _, run_endRound (some c) tL, rfl, (oX c).putObj _ hc (by omega) tL rfl, World.putObj_heap_same mL, (World.putObj_heap_other hne).trans tD⟩
      cases ex2 with
      | normal => exact ⟨_, _, run_endRound none tL, .inl ⟨rfl, oI.putObj _ hT (by omega) tL rfl, World.putObj_heap_same mL, (World.putObj_heap_other hne).trans tD⟩⟩
      | ret =>
        obtain ⟨v, W', e1, e2, e3⟩ := leave _ hT
        exact ⟨_, _, e1, .inr ⟨by rw [e2], _, e3⟩⟩
      | exit id =>
        obtain ⟨v, W', e1, e2, e3⟩ := leave _ hT
        exact ⟨_, _, e1, .inr ⟨by rw [e2], _, e3⟩⟩
      | goto t =>
        obtain ⟨v, W', e1, e2, e3⟩ := leave _ hT
        exact ⟨_, _, e1, .inr ⟨by rw [e2], _, e3⟩⟩
      | panic ch => exact hT.elim
      | outgrown => exact hT.elim
    | _ => exact hY.elim
  · rintro e U ⟨⟨v, rfl⟩, (⟨uI, uL, uD⟩ | ⟨pre, x, post, hx, c, uI, uL, uD⟩)⟩
    · exact ⟨none, _, run_endLoop uL (by simp), hdone _ _ (Nat.le_refl _) (oI.putObj _ uI (by omega) uL rfl) ((World.putObj_heap_other hne).trans uD)⟩
    · exact ⟨some c, _, run_endLoop uL (by simp), hleft _ c pre x post _ (Nat.le_refl _) hx ((oX c).putObj _ uI (by omega) uL rfl) ((World.putObj_heap_other hne).trans uD)⟩
end Go.Proofs.YtkbmblmnhhlicaaGreatDoor

/- fromLast, walked: what is ranged over in Cut and Reset. -/
namespace Go.Proofs.YtkbmblmnhhlicaaGreatDoor
open Go.RowKit
attribute [local go_sem] Oper.semAt_some

/-- What fromLast reads, so many segments having come. -/
def SegRd (p g c : Nat) (q : Sgs) (pre : Sgs) (U : World) : Prop := pre.length ≤ q.length ∧ U.cell? ⟨p, 1, none⟩ = some (.slice (some ⟨g, 0, none⟩) (q.length - pre.length) c) ∧
  ∀ i x, i < q.length - pre.length → q[i]? = some x → U.cell? ⟨g, i * 2, none⟩ = some (.int .i64 (x.1.num : Int)) ∧ U.cell? ⟨g, i * 2 + 1, none⟩ = some x.2

theorem rev_at {q pre post : Sgs} {x : Sg × Value} (h : q.reverse = pre ++ x :: post) : ∃ r, q.length - pre.length = r + 1 ∧ q[r]? = some x ∧ pre.length ≤ q.length := by
  have hl := congrArg List.length h
  simp at hl
  refine ⟨q.length - pre.length - 1, by omega, ?_, by omega⟩
  have h1 : q.reverse[pre.length]? = some x := by rw [h]; simp
  rw [List.getElem?_reverse (by omega)] at h1
  rw [← h1]
  congr 1
  omega
theorem rev_next {q pre : Sgs} {r : Nat} (hp : pre <+: q.reverse) (hr : q.length - pre.length = r + 1) : ∃ x post, q[r]? = some x ∧ q.reverse = pre ++ x :: post := by
  obtain ⟨t, ht⟩ := hp
  have hl := congrArg List.length ht
  simp at hl
  rcases t with _ | ⟨x, post⟩
  · simp at hl; omega
  · obtain ⟨r', e1, e2, _⟩ := rev_at ht.symm
    exact ⟨x, post, by rw [← e2]; congr 1; omega, ht.symm⟩

set_option maxHeartbeats 4000000 in
set_option maxRecDepth 20000 in
theorem fromLast_iter (n : Nat) (hn : 1 ≤ n) (p g c : Nat) (q : Sgs) (hq : q.length ≤ 1048576) : IterOn Fence.wide n Tryz.prog 70 #[dptr p] #[] (fun x : Sg × Value => #[sgV x.1.num x.2]) (SegRd p g c q) q.reverse := by
  intro l J X W hRd hY h0
  refine callsIn_of_wp Tryz.func70 rfl trivial ?_ rfl
  simp only [Tryz.ntmps70, List.size_toArray, List.length_cons, List.length_nil, Nat.reduceAdd, Nat.reduceSub, Array.replicate_succ, Array.replicate_zero, List.push_toArray, List.append_toArray, List.nil_append, List.cons_append]
  obtain ⟨_, r1, _⟩ := hRd [] W h0
  obtain ⟨nq, hnq⟩ : ∃ nq, q.length = nq := ⟨_, rfl⟩
  rw [hnq, List.length_nil, Nat.sub_zero] at r1
  have bn : (nq : Int) ≤ 1048576 := by omega
  have HQ : Hid (q.length = nq) := hnq
  have H0 : Hid (J [] W) := h0
  clear hq hnq h0
  gi_wp2
  gi_loopw [4] (fun kk wr => ∃ (pre : Sgs) (k : Int), kk = .int .i64 k ∧ Hid (pre <+: q.reverse ∧ k = ((q.length - pre.length : Nat) : Int) - 1) ∧ Hid (J pre wr)) (fun kk _ => (intOf kk + 1).toNat)
  case atStart => exact ⟨[], (nq : Int) - 1, rfl, ⟨List.nil_prefix, by have := HQ.out; simp; omega⟩, H0⟩
  case round =>
    obtain ⟨pre, k, rfl, HP, HJ⟩ := hrel
    clear H0
    obtain ⟨rem, hrem⟩ : ∃ rem, q.length - pre.length = rem := ⟨_, rfl⟩
    have hk := HP.out.2
    rw [hrem] at hk
    have hpl := HP.out.1.length_le
    simp at hpl
    rcases rem with _ | r
    · have hk1 : k = -1 := by omega
      subst hk1
      have hall : pre = q.reverse := HP.out.1.eq_of_length (by simp; omega)
      have HA : Hid (J q.reverse wr) := by have := HJ.out; rw [hall] at this; exact this
      clear hk hall hrem hpl HJ HP
      gi_wp2
      go_end0
      exact ⟨⟨_, rfl⟩, .inl HA.out⟩
    · have hk1 : k = (r : Int) := by omega
      subst hk1
      obtain ⟨x, post, hx, hxs⟩ := rev_next HP.out.1 hrem
      obtain ⟨_, c1, cc⟩ := hRd pre wr HJ.out
      rw [hrem] at c1 cc
      obtain ⟨k0, k1⟩ := cc r x (by omega) hx
      obtain ⟨N, hN⟩ : ∃ N, x.1.num = N := ⟨_, rfl⟩
      obtain ⟨xv, hxv⟩ : ∃ xv, x.2 = xv := ⟨_, rfl⟩
      obtain ⟨fn, tmps, assign, body, hy, hR⟩ := hY pre x post wr hxs HJ.out
      rw [hN] at k0 hy
      rw [hxv] at k1 hy
      obtain ⟨r1, hr1⟩ : ∃ r1, r + 1 = r1 := ⟨_, rfl⟩
      rw [hr1] at c1
      have br : (r : Int) < (r1 : Int) := by omega
      have brn : r < r1 := by omega
      have br2 : (r : Int) ≤ 1048576 := by have := HQ.out; omega
      have br0 : (0 : Int) ≤ (r : Int) := by omega
      have HX : Hid (q.reverse = pre ++ x :: post ∧ q.length - pre.length = r + 1) := ⟨hxs, hrem⟩
      clear hk hrem hpl cc hx hxs hN hxv hr1 HJ
      gi_wp2
      refine hR.mono ?_
      rintro e U1 (⟨rfl, hJ1⟩ | ⟨rfl, hX1⟩)
      · have HJ1 : Hid (J (pre ++ [x]) U1) := hJ1
        clear hR hy hJ1 k0 k1 c1
        gi_wp2
        go_roundw
        case rel => exact ⟨pre ++ [x], (r : Int) - 1, by first | rfl | go_num, ⟨⟨post, by rw [HX.out.1]; simp⟩, by have := HX.out.2; simp; omega⟩, HJ1⟩
        case measure => simp [intOf]
      · have HX1 : Hid (X (pre ++ [x]) U1) := hX1
        clear hR hy hX1 k0 k1 c1
        gi_wp2
        refine bodyPost_ret (results_none rfl _ _ _) rfl ?_
        exact ⟨⟨_, rfl⟩, .inr ⟨pre, x, post, HX.out.1, HX1.out⟩⟩
end Go.Proofs.YtkbmblmnhhlicaaGreatDoor
