/- What is being put together, in memory; what of a world stays. -/
import Derived.Test.YtkjicdldlnefeaaDoorNAdmit
import Derived.Deep.AppendLies
import Derived.Test.YtkjicdldlnefeaaDoorQFClean
import Derived.Test.YtkjicdldlnefeaaDoorQFLines
set_option linter.unusedVariables false
namespace Go.Proofs.YtkjicdldlnefeaaDoor
open Go.RowKit

def rfCs : List RfA → List Value
  | [] => []
  | r :: t => strA r.tenant :: strA r.doc :: .int .i64 r.ver :: rfCs t
theorem rfCs_app : ∀ a b : List RfA, rfCs (a ++ b) = rfCs a ++ rfCs b
  | [], _ => rfl
  | r :: t, b => by show _ :: _ :: _ :: rfCs (t ++ b) = _; rw [rfCs_app t b]; rfl
theorem rfCs_len : ∀ a : List RfA, (rfCs a).length = a.length * 3
  | [] => rfl
  | r :: t => by show (rfCs t).length + 1 + 1 + 1 = _; rw [rfCs_len t, List.length_cons]; omega
theorem rfCs_get : ∀ (d : List RfA) (i : Nat) (q : RfA), d[i]? = some q → (rfCs d)[i * 3]? = some (strA q.tenant) ∧ (rfCs d)[i * 3 + 1]? = some (strA q.doc) ∧ (rfCs d)[i * 3 + 2]? = some (.int .i64 q.ver)
  | [], i, q, h => by cases h
  | p :: r, 0, q, h => by
    cases h
    exact ⟨rfl, rfl, rfl⟩
  | p :: r, i + 1, q, h => by
    obtain ⟨h1, h2, h3⟩ := rfCs_get r i q h
    have key : ∀ m, (rfCs (p :: r))[m + 3]? = (rfCs r)[m]? := fun m => rfl
    refine ⟨?_, ?_, ?_⟩
    · rw [show (i + 1) * 3 = i * 3 + 3 by omega, key]; exact h1
    · rw [show (i + 1) * 3 + 1 = i * 3 + 1 + 3 by omega, key]; exact h2
    · rw [show (i + 1) * 3 + 2 = i * 3 + 2 + 3 by omega, key]; exact h3

theorem nrow_len {w : World} {B s n : Nat} {e : TypeId} {v : Value} {xs : List Value} (h : w.ownsRow B e s v n xs) : ∃ a c, v = .slice a n c := by
  rcases h.2 with ⟨hv, h0⟩ | ⟨g, cap, cur, hv, _⟩
  · exact ⟨none, 0, by rw [hv, h0]⟩
  · exact ⟨_, _, hv⟩
theorem nrow_cell {w : World} {B s n c : Nat} {e : TypeId} {a : Option Addr} {xs : List Value} (h : w.ownsRow B e s (.slice a n c) n xs) {j : Nat} {u : Value} (hj : xs[j]? = some u) : ∃ g, a = some ⟨g, 0, none⟩ ∧ B ≤ g ∧ g < w.heap.size ∧ w.cell? ⟨g, j, none⟩ = some u := by
  obtain ⟨h1, h2⟩ := h
  rcases h2 with ⟨hv, h0⟩ | ⟨g, cap, cur, hv, hb, hg, hn, hc, hsz, ht⟩
  · subst h0
    rw [Nat.zero_mul] at h1
    rw [List.length_eq_zero_iff.1 h1] at hj
    cases hj
  · cases hv
    refine ⟨g, rfl, hb, (Array.getElem?_eq_some_iff.1 hg).1, cell_blkN hg ?_⟩
    rw [← ht] at hj
    have hlt : j < n * s := by
      have := (List.getElem?_eq_some_iff.1 hj).1
      rw [List.length_take] at this
      omega
    rw [List.getElem?_take_of_lt hlt, Array.getElem?_toList] at hj
    exact hj
theorem rfs_row {w : World} {B : Nat} {v : Value} {l : List RfA} (h : w.ownsRow B 24 3 v l.length (rfCs l)) : RfsN w v l := by
  obtain ⟨a, c, rfl⟩ := nrow_len h
  refine ⟨a, c, rfl, fun i q hq => ?_⟩
  obtain ⟨h1, h2, h3⟩ := rfCs_get l i q hq
  obtain ⟨g, e, _, hg, q1⟩ := nrow_cell h h1
  refine ⟨g, 0, e, hg, ?_, ?_, ?_⟩
  · rw [Nat.zero_add]; exact q1
  · obtain ⟨g', e', _, _, q⟩ := nrow_cell h h2; rw [e] at e'; cases e'; rw [Nat.zero_add]; exact q
  · obtain ⟨g', e', _, _, q⟩ := nrow_cell h h3; rw [e] at e'; cases e'; rw [Nat.zero_add]; exact q
theorem nrow_kept {w w' : World} {B e s : Nat} {v : Value} {n : Nat} {xs : List Value} (h : w.ownsRow B e s v n xs) (hk : ∀ g cs, v.ownBlock = some g → B ≤ g → w.heap[g]? = some (.cells cs e (0, 0)) → w'.heap[g]? = some (.cells cs e (0, 0))) : w'.ownsRow B e s v n xs := by
  refine ⟨h.1, ?_⟩
  rcases h.2 with hn | ⟨g, cap, cur, rfl, hB, hg, rest⟩
  · exact .inl hn
  · exact .inr ⟨g, cap, cur, rfl, hB, hk g cur rfl hB hg, rest⟩
theorem nrow_below {w w' : World} {B e s : Nat} {v : Value} {n : Nat} {xs : List Value} (h : w.ownsRow B e s v n xs) (hb : Below w.heap.size w w') : w'.ownsRow B e s v n xs := nrow_kept h fun g cs _ _ hg => blk_belowN hg hb
theorem nrow_base {w : World} {B B' e s : Nat} {v : Value} {n : Nat} {xs : List Value} (h : w.ownsRow B e s v n xs) (hB : B' ≤ B) : w.ownsRow B' e s v n xs := by
  refine ⟨h.1, ?_⟩
  rcases h.2 with hn | ⟨g, cap, cur, rfl, hb, rest⟩
  · exact .inl hn
  · exact .inr ⟨g, cap, cur, rfl, Nat.le_trans hB hb, rest⟩
theorem nrow_neq {w : World} {b B : Nat} {cs : Array Value} {T e : TypeId} {va : Value} {s n : Nat} {xs : List Value} (h : w.ownsRow B e s va n xs) (hb : w.heap[b]? = some (.cells cs T (0, 0))) (hT : T ≠ e) : va.ownBlock ≠ some b := by
  intro e'
  rcases h.2 with ⟨hv, _⟩ | ⟨g, cap, cur, hv, _, hg, _⟩
  · rw [hv] at e'; cases e'
  · rw [hv] at e'
    cases e'
    rw [hb] at hg
    exact hT (by injection (Option.some.inj hg))
theorem nrows_apart {w : World} {B e s : Nat} {v : Value} {n : Nat} {xs : List Value} {B' e' s' : Nat} {v' : Value} {n' : Nat} {xs' : List Value} (h : w.ownsRow B e s v n xs) (h' : w.ownsRow B' e' s' v' n' xs') (hT : e ≠ e') : ∀ g, v.ownBlock = some g → v'.ownBlock ≠ some g := fun g hg => by
  rcases h.2 with ⟨hv, _⟩ | ⟨g', cap, cur, hv, _, hgg, _⟩
  · rw [hv] at hg; cases hg
  · rw [hv] at hg
    cases hg
    exact nrow_neq h' hgg hT
/-- A row's beginning, in the same block. -/
theorem nrow_front {w : World} {B e s g cap n m : Nat} {xs ys : List Value} (h : w.ownsRow B e s (.slice (some ⟨g, 0, none⟩) m cap) m (xs ++ ys)) (hx : xs.length = n * s) (hn : n ≤ m) : w.ownsRow B e s (.slice (some ⟨g, 0, none⟩) n cap) n xs := by
  refine ⟨hx, ?_⟩
  rcases h.2 with ⟨hv, _⟩ | ⟨g', cap', cur, hv, hb, hg, hm, hc, hsz, ht⟩
  · cases hv
  · cases hv
    refine .inr ⟨g, cap, cur, rfl, hb, hg, by omega, hc, hsz, ?_⟩
    have h1 : (cur.toList.take (m * s)).take (n * s) = cur.toList.take (n * s) := by
      rw [List.take_take, Nat.min_eq_left (Nat.mul_le_mul_right _ hn)]
    rw [← h1, ht, ← hx]
    exact List.take_left

/-- A row of pages, and one of texts, below B. -/
def PgsX (B : Nat) (w : World) (v : Value) (l : List PgA) : Prop := ∃ a cap, v = .slice a l.length cap ∧ ∀ i p, l[i]? = some p → ∃ b o, a = some ⟨b, o, none⟩ ∧ b < B ∧ w.cell? ⟨b, o + i * 4, none⟩ = some (strA p.ref.tenant) ∧ w.cell? ⟨b, o + i * 4 + 1, none⟩ = some (strA p.ref.doc) ∧ w.cell? ⟨b, o + i * 4 + 2, none⟩ = some (.int .i64 p.ref.ver) ∧ w.cell? ⟨b, o + i * 4 + 3, none⟩ = some (strA p.text)
theorem PgsX.below {B : Nat} {w w' : World} {v : Value} {l : List PgA} (h : PgsX B w v l) (hb : Below B w w') : PgsX B w' v l := by
  obtain ⟨a, cap, rfl, hc⟩ := h
  refine ⟨a, cap, rfl, fun i s hs => ?_⟩
  obtain ⟨b, o, e, hbw, q0, q1, q2, q3⟩ := hc i s hs
  exact ⟨b, o, e, hbw, (hb.cell (p := ⟨b, o + i * 4, none⟩) hbw).trans q0, (hb.cell (p := ⟨b, o + i * 4 + 1, none⟩) hbw).trans q1, (hb.cell (p := ⟨b, o + i * 4 + 2, none⟩) hbw).trans q2, (hb.cell (p := ⟨b, o + i * 4 + 3, none⟩) hbw).trans q3⟩
theorem PgsX.n {B : Nat} {w : World} {v : Value} {l : List PgA} (h : PgsX B w v l) (hB : B ≤ w.heap.size) : PgsN w v l := by
  obtain ⟨a, cap, rfl, hc⟩ := h
  refine ⟨a, cap, rfl, fun i s hs => ?_⟩
  obtain ⟨b, o, e, hbw, q⟩ := hc i s hs
  exact ⟨b, o, e, by omega, q⟩
def StrsX (B : Nat) (w : World) (v : Value) (l : List StrA) : Prop := ∃ a cap, v = .slice a l.length cap ∧ ∀ i s, l[i]? = some s → ∃ b o, a = some ⟨b, o, none⟩ ∧ b < B ∧ w.cell? ⟨b, o + i, none⟩ = some (strA s)
theorem StrsX.below {B : Nat} {w w' : World} {v : Value} {l : List StrA} (h : StrsX B w v l) (hb : Below B w w') : StrsX B w' v l := by
  obtain ⟨a, cap, rfl, hc⟩ := h
  refine ⟨a, cap, rfl, fun i s hs => ?_⟩
  obtain ⟨b, o, e, hbw, q⟩ := hc i s hs
  exact ⟨b, o, e, hbw, (hb.cell (p := ⟨b, o + i, none⟩) hbw).trans q⟩
theorem StrsX.n {B : Nat} {w : World} {v : Value} {l : List StrA} (h : StrsX B w v l) (hB : B ≤ w.heap.size) : StrsN w v l := by
  obtain ⟨a, cap, rfl, hc⟩ := h
  refine ⟨a, cap, rfl, fun i s hs => ?_⟩
  obtain ⟨b, o, e, hbw, q⟩ := hc i s hs
  exact ⟨b, o, e, by omega, q⟩

/-- What is being put together, in block xb. -/
structure ExM (w : World) (xb : Nat) (vp vm vo vt : Value) (x : ExA) : Prop where
  blk : w.heap[xb]? = some (.cells #[vp, vm, vo, vt, .int .i64 (x.takes : Int)] 59 (0, 0))
  out : w.ownsRow (xb + 1) 5 1 vo x.out.length (Lib.byteCells x.out)
  met : w.ownsRow (xb + 1) 24 3 vt x.met.length (rfCs x.met)
theorem ExM.lt {w : World} {xb : Nat} {vp vm vo vt : Value} {x : ExA} (h : ExM w xb vp vm vo vt x) : xb < w.heap.size := (Array.getElem?_eq_some_iff.1 h.blk).1
theorem ExM.below {w w' : World} {xb : Nat} {vp vm vo vt : Value} {x : ExA} (h : ExM w xb vp vm vo vt x) (hb : Below w.heap.size w w') : ExM w' xb vp vm vo vt x := ⟨blk_belowN h.blk hb, nrow_below h.out hb, nrow_below h.met hb⟩

/-- What a step leaves as it was. -/
structure FrN (xb : Nat) (vt vt' : Value) (C : Option Nat) (w w' : World) : Prop where
  bel : Below xb w w'
  keep : ∀ (b : Nat) (cs : Array Value) (t : TypeId), w.heap[b]? = some (.cells cs t (0, 0)) → b ≠ xb → t ≠ 5 → vt.ownBlock ≠ some b → C ≠ some b → w'.heap[b]? = some (.cells cs t (0, 0))
  nt : ∀ g, vt'.ownBlock = some g → vt.ownBlock = some g ∨ w.heap.size ≤ g
theorem FrN.of_below {xb : Nat} {vt : Value} {C : Option Nat} {w w' : World} (hb : Below w.heap.size w w') (hx : xb ≤ w.heap.size) : FrN xb vt vt C w w' := ⟨hb.mono hx, fun b cs t h _ _ _ _ => blk_belowN h hb, fun g hg => .inl hg⟩
theorem FrN.trans {xb : Nat} {vt vt1 vt2 : Value} {C C1 : Option Nat} {w w1 w2 : World} (h : FrN xb vt vt1 C w w1) (k : FrN xb vt1 vt2 C1 w1 w2) (hC : ∀ g, C1 = some g → C = some g ∨ w.heap.size ≤ g) : FrN xb vt vt2 C w w2 := by
  refine ⟨h.bel.trans k.bel, fun b cs t hb h1 h2 h3 h4 => ?_, fun g hg => ?_⟩
  · have hlt := (Array.getElem?_eq_some_iff.1 hb).1
    refine k.keep b cs t (h.keep b cs t hb h1 h2 h3 h4) h1 h2 (fun e => ?_) (fun e => ?_)
    · rcases h.nt b e with q | q
      · exact h3 q
      · omega
    · rcases hC b e with q | q
      · exact h4 q
      · omega
  · rcases k.nt g hg with q | q
    · exact h.nt g q
    · exact .inr (Nat.le_trans h.bel.size q)
theorem FrN.row {xb : Nat} {vt vt' : Value} {C : Option Nat} {w w' : World} (h : FrN xb vt vt' C w w') {B e s n : Nat} {v : Value} {xs : List Value} (hr : w.ownsRow B e s v n xs) (hB : xb < B) (he : e ≠ 5) (h1 : ∀ g, v.ownBlock = some g → vt.ownBlock ≠ some g) (h2 : ∀ g, v.ownBlock = some g → C ≠ some g) : w'.ownsRow B e s v n xs :=
  nrow_kept hr fun g cs hg hBg hb => h.keep g cs e hb (by omega) he (h1 g hg) (h2 g hg)
end Go.Proofs.YtkjicdldlnefeaaDoor
