/- What stands when the lines of a document are gone through. -/
import Derived.Test.YtkjicdldlnefeaaDoorNLine
set_option linter.unusedVariables false
namespace Go.Proofs.YtkjicdldlnefeaaDoor
open Go.RowKit

structure MidN (w : World) (xb : Nat) (vt vc : Value) (chain : List RfA) (ref : RfA) (g7 c7 : Nat) (vt5 : Value) (w7 : World) : Prop where
  fr : FrN xb vt vt5 vc.ownBlock w w7
  own : w7.ownsRow (xb + 1) 24 3 (.slice (some ⟨g7, 0, none⟩) (chain.length + 1) c7) (chain.length + 1) (rfCs (chain ++ [ref]))
  old : w7.ownsRow (xb + 1) 24 3 vc chain.length (rfCs chain)
  ap7 : vt5.ownBlock ≠ some g7
  ap : ∀ g, vc.ownBlock = some g → vt5.ownBlock ≠ some g
  atc : (∃ n', vc = .slice (some ⟨g7, 0, none⟩) n' c7) ∨ w.heap.size ≤ g7
  lt0 : ∀ g, vc.ownBlock = some g → g < w.heap.size
  xlt : xb ≤ w7.heap.size
theorem MidN.below {w : World} {xb : Nat} {vt vc : Value} {chain : List RfA} {ref : RfA} {g7 c7 : Nat} {vt5 : Value} {w7 w8 : World} (h : MidN w xb vt vc chain ref g7 c7 vt5 w7) (hb : Below w7.heap.size w7 w8) : MidN w xb vt vc chain ref g7 c7 vt5 w8 :=
  ⟨h.fr.trans (FrN.of_below (C := vc.ownBlock) hb h.xlt) (fun g hg => .inl hg), nrow_below h.own hb, nrow_below h.old hb, h.ap7, h.ap, h.atc, h.lt0, Nat.le_trans h.xlt hb.size⟩
theorem MidN.fin {w : World} {xb : Nat} {vt vc : Value} {chain : List RfA} {ref : RfA} {g7 c7 : Nat} {vt5 vt' : Value} {w9 wr : World} (h : MidN w xb vt vc chain ref g7 c7 vt5 w9) (hF : FrN xb vt5 vt' (some g7) w9 wr) (hr : wr.ownsRow (xb + 1) 24 3 (.slice (some ⟨g7, 0, none⟩) (chain.length + 1) c7) (chain.length + 1) (rfCs (chain ++ [ref]))) : wr.ownsRow (xb + 1) 24 3 vc chain.length (rfCs chain) ∧ FrN xb vt vt' vc.ownBlock w wr := by
  refine ⟨?_, h.fr.trans hF (fun g hg => ?_)⟩
  · rcases h.atc with ⟨n', hv⟩ | hf
    · obtain ⟨a, c, hv2⟩ := nrow_len h.old
      rw [hv] at hv2
      cases hv2
      rw [hv]
      rw [rfCs_app] at hr
      exact nrow_front hr (rfCs_len chain) (by omega)
    · refine hF.row h.old (Nat.lt_succ_self _) (by decide) h.ap (fun g hg e => ?_)
      have := h.lt0 g hg
      cases e
      omega
  · cases hg
    rcases h.atc with ⟨n', hv⟩ | hf
    · exact .inl (by rw [hv]; rfl)
    · exact .inr hf
/-- Behind the append to the chain. -/
theorem mid_of {w V w7 : World} {o : Obj} {xb g7 c7 : Nat} {vp vm vo vt vc vt5 : Value} {x : ExA} {chain : List RfA} {ref : RfA} {ts : List Value} (hX : ExM V xb vp vm vo vt5 x) (hF : FrN xb vt vt5 vc.ownBlock w V) (hc : V.ownsRow (xb + 1) 24 3 vc chain.length (rfCs chain)) (hap : ∀ g, vc.ownBlock = some g → vt5.ownBlock ≠ some g) (hlt : ∀ g, vc.ownBlock = some g → g < w.heap.size) (hts : ts = rfCs [ref])
    (ho : w7.ownsRow (xb + 1) 24 3 (.slice (some ⟨g7, 0, none⟩) (chain.length + 1) c7) (chain.length + 1) (rfCs chain ++ ts)) (hg : (V.alloc o).grownBy w7 vc.ownBlock) (hk : w7.ownsRow (xb + 1) 24 3 vc chain.length (rfCs chain)) (hat : (∃ n', vc = .slice (some ⟨g7, 0, none⟩) n' c7) ∨ V.heap.size ≤ g7) :
    ExM w7 xb vp vm vo vt5 x ∧ MidN w xb vt vc chain ref g7 c7 vt5 w7 ∧ ∀ (b : Nat) (cs : Array Value) (t : TypeId), V.heap[b]? = some (.cells cs t (0, 0)) → t ≠ 24 → w7.heap[b]? = some (.cells cs t (0, 0)) := by
  have step : ∀ (b : Nat) (cs : Array Value) (t : TypeId), V.heap[b]? = some (.cells cs t (0, 0)) → vc.ownBlock ≠ some b → w7.heap[b]? = some (.cells cs t (0, 0)) := fun b cs t hb hne => by
    have h4 := blk_allocN hb o
    exact (hg.block b (Array.getElem?_eq_some_iff.1 h4).1 (fun e => hne e.symm)).trans h4
  have stepT : ∀ (b : Nat) (cs : Array Value) (t : TypeId), V.heap[b]? = some (.cells cs t (0, 0)) → t ≠ 24 → w7.heap[b]? = some (.cells cs t (0, 0)) := fun b cs t hb ht => step b cs t hb (nrow_neq hc hb ht)
  have hsz := hg.size
  have hVs : V.heap.size ≤ w7.heap.size := Nat.le_trans (by simp) hsz
  have hbel : Below xb V w7 := by
    have b1 : Below xb V (V.alloc o) := (Below.refl xb V).alloc (Nat.le_of_lt hX.lt) o
    exact b1.grown hg (Nat.le_trans (Nat.le_of_lt hX.lt) b1.size) (fun k hk => by have := (World.ownsRow.lt hc k hk).1; omega)
  refine ⟨⟨stepT xb _ _ hX.blk (by decide), nrow_kept hX.out fun g cs hg hBg hb => stepT g cs _ hb (by decide), nrow_kept hX.met fun g cs hg hBg hb => step g cs _ hb (fun e => hap g e hg)⟩, ⟨?_, ?_, hk, ?_, hap, ?_, hlt, Nat.le_trans (Nat.le_of_lt hX.lt) hVs⟩, stepT⟩
  · exact hF.trans (C1 := vc.ownBlock) ⟨hbel, fun b cs t hb _ _ _ h4 => step b cs t hb h4, fun g hg => .inl hg⟩ (fun g hg => .inl hg)
  · rw [rfCs_app, ← hts]; exact ho
  · intro e
    rcases hat with ⟨n', hv⟩ | hgz
    · exact hap g7 (by rw [hv]; rfl) e
    · have := (World.ownsRow.lt hX.met g7 e).2
      omega
  · rcases hat with q | hgz
    · exact .inl q
    · exact .inr (Nat.le_trans hF.bel.size hgz)
theorem line_len : ∀ (f : Nat) (l : StrA) (i : Nat), ∀ s ∈ linesF l f i, s.length ≤ l.length
  | 0, l, i, s, h => by cases h
  | f + 1, l, i, s, h => by
    unfold linesF at h
    split at h
    · rcases List.mem_cons.1 h with rfl | h
      · refine Nat.le_trans (List.takeWhile_sublist _).length_le ?_
        rw [List.length_drop]
        omega
      · exact line_len f l _ s h
    · cases h
theorem lines_len {l s : StrA} (h : s ∈ lines l) : s.length ≤ l.length := line_len _ _ _ s h
end Go.Proofs.YtkjicdldlnefeaaDoor
