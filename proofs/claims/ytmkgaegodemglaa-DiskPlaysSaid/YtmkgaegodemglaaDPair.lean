/- A disk and the document's, side by side: each call leaves both alike. -/
import Derived.Test.YtmkgaegodemglaaDSame
set_option linter.unusedVariables false
namespace Go.Proofs.Ytmkgaegodemglaa
open Go.RowKit

/-- A disk and the document's: the one is d1, the other d2. -/
structure TwD (w : World) (b m c : Nat) (S1 S2 : Nat → Prop) (d1 d2 : Dk) : Prop where
  code : ∃ sl, DkW w b m S1 sl none d1
  doc : ∃ fs l, RkW w c S2 fs l d2
  apart : ∀ k, S1 k → ¬ S2 k
theorem PrD.two {w : World} {b m c : Nat} {S1 S2 : Nat → Prop} {d : Dk} (h : PrD w b m c S1 S2 d) : TwD w b m c S1 S2 d d := ⟨h.code, h.doc, h.apart⟩
theorem TwD.one {w : World} {b m c : Nat} {S1 S2 : Nat → Prop} {d : Dk} (h : TwD w b m c S1 S2 d d) : PrD w b m c S1 S2 d := ⟨h.code, h.doc, h.apart⟩
theorem TwD.below {w w' : World} {b m c : Nat} {S1 S2 : Nat → Prop} {d1 d2 : Dk} (h : TwD w b m c S1 S2 d1 d2) (hb : Below w.heap.size w w') : TwD w' b m c S1 S2 d1 d2 := by
  obtain ⟨sl, h1⟩ := h.code
  obtain ⟨fs, l, h2⟩ := h.doc
  exact ⟨⟨sl, h1.below hb⟩, ⟨fs, l, h2.below hb⟩, h.apart⟩
/-- What both have may have become: of their own, or new. -/
def StU (w : World) (S1 S2 : Nat → Prop) (w' : World) (T1 T2 : Nat → Prop) : Prop := Fr (fun k => S1 k ∨ S2 k) w w' ∧ (∀ k, T1 k → S1 k ∨ w.heap.size ≤ k) ∧ ∀ k, T2 k → S2 k ∨ w.heap.size ≤ k
theorem TwD.lt1 {w : World} {b m c : Nat} {S1 S2 : Nat → Prop} {d1 d2 : Dk} (h : TwD w b m c S1 S2 d1 d2) : ∀ k, S1 k → k < w.heap.size := by obtain ⟨sl, h1⟩ := h.code; exact h1.lt
theorem TwD.lt2 {w : World} {b m c : Nat} {S1 S2 : Nat → Prop} {d1 d2 : Dk} (h : TwD w b m c S1 S2 d1 d2) : ∀ k, S2 k → k < w.heap.size := by obtain ⟨fs, l, h1⟩ := h.doc; exact h1.lt
theorem Fr.wide {S T : Nat → Prop} {w w' : World} (h : Fr S w w') (hs : ∀ k, S k → T k) : Fr T w w' := ⟨h.os, h.tape, h.output, h.size, fun k hk hn => h.block k hk (fun q => hn (hs k q))⟩
theorem TwD.stepC {w w' : World} {b m c : Nat} {S1 S2 : Nat → Prop} {d1 d2 d' : Dk} (h : TwD w b m c S1 S2 d1 d2) (hd : DidS w b m S1 d' w') : ∃ T1, TwD w' b m c T1 S2 d' d2 ∧ StU w S1 S2 w' T1 S2 := by
  obtain ⟨T1, sl, h1, h2, h3⟩ := hd
  obtain ⟨fs, l, hr⟩ := h.doc
  refine ⟨T1, ⟨⟨sl, h1⟩, ⟨fs, l, hr.keep h2.size (fun k hk => h2.block k (hr.lt k hk) (fun q => h.apart k q hk))⟩, fun k hk hk2 => ?_⟩, h2.wide (fun k hk => .inl hk), h3, fun k hk => .inl hk⟩
  rcases h3 k hk with q | q
  · exact h.apart k q hk2
  · have := hr.lt k hk2; omega
theorem TwD.stepR {w w' : World} {b m c : Nat} {S1 S2 : Nat → Prop} {d1 d2 d' : Dk} (h : TwD w b m c S1 S2 d1 d2) (hd : RidS w c S2 d' w') : ∃ T2, TwD w' b m c S1 T2 d1 d' ∧ StU w S1 S2 w' S1 T2 := by
  obtain ⟨T2, fs, l, h1, h2, h3⟩ := hd
  obtain ⟨sl, hc⟩ := h.code
  refine ⟨T2, ⟨⟨sl, hc.keep h2.size (fun k hk => h2.block k (hc.lt k hk) (fun q => h.apart k hk q))⟩, ⟨fs, l, h1⟩, fun k hk hk2 => ?_⟩, h2.wide (fun k hk => .inr hk), fun k hk => .inl hk, h3⟩
  rcases h3 k hk2 with q | q
  · exact h.apart k hk q
  · have := hc.lt k hk; omega
theorem StU.trans {w w1 w2 : World} {S1 S2 T1 T2 U1 U2 : Nat → Prop} (h : StU w S1 S2 w1 T1 T2) (k : StU w1 T1 T2 w2 U1 U2) : StU w S1 S2 w2 U1 U2 := by
  obtain ⟨h1, h2, h3⟩ := h
  obtain ⟨k1, k2, k3⟩ := k
  refine ⟨h1.trans k1 (fun j hj => ?_), fun j hj => ?_, fun j hj => ?_⟩
  · rcases hj with hj | hj
    · rcases h2 j hj with q | q
      · exact .inl (.inl q)
      · exact .inr q
    · rcases h3 j hj with q | q
      · exact .inl (.inr q)
      · exact .inr q
  · rcases k2 j hj with q | q
    · exact h2 j q
    · exact .inr (Nat.le_trans h1.size q)
  · rcases k3 j hj with q | q
    · exact h3 j q
    · exact .inr (Nat.le_trans h1.size q)
theorem StU.of_below {w w' : World} {S1 S2 : Nat → Prop} (h : Below w.heap.size w w') : StU w S1 S2 w' S1 S2 := ⟨Fr.of_below _ h, fun k hk => .inl hk, fun k hk => .inl hk⟩
/-- A block that is neither's stays. -/
theorem StU.at {w w' : World} {S1 S2 T1 T2 : Nat → Prop} (h : StU w S1 S2 w' T1 T2) {k : Nat} {o : Obj} (hk : w.heap[k]? = some o) (h1 : ¬ S1 k) (h2 : ¬ S2 k) : w'.heap[k]? = some o ∧ ¬ T1 k ∧ ¬ T2 k := by
  have hl := lt_blk hk
  refine ⟨(h.1.block k hl (fun q => by rcases q with q | q; exact h1 q; exact h2 q)).trans hk, fun q => ?_, fun q => ?_⟩
  · rcases h.2.1 k q with r | r
    · exact h1 r
    · omega
  · rcases h.2.2 k q with r | r
    · exact h2 r
    · omega

/-- What a call on both leaves. -/
def BothD (w : World) (b m c : Nat) (S1 S2 : Nat → Prop) (d : Dk) (w' : World) : Prop := ∃ T1 T2, PrD w' b m c T1 T2 d ∧ StU w S1 S2 w' T1 T2

/-- One step of the script. -/
def stepD (d : Dk) (kind : Int) (n to : Nm) (l : List UInt8) (k : Int) (keep : Nat) : Dk :=
  if kind = 1 then (appendP d n l).2 else if kind = 2 then (syncP d n).2 else if kind = 3 then (cutP d n k).2 else if kind = 4 then (renameP d n to).2 else if kind = 5 then (removeP d n).2
  else if kind = 6 then armD d k keep else if kind = 7 then crashD d keep else if kind = 8 then startD d else d

/-- A call by its contract, as a step of a region that draws its order. -/
theorem stepC_call {P : Program} {w : World} {ops : Array Oper} {o : Oper} {c : Act} {K : Act → World → Prop} {Q : Exit → Act → World → Prop} {E : Prop} {R : Ending → World → Prop}
    (hg : o.guard = none) (f : FuncId) (args : Array Value) (hrun : (execOp c.eval o).run P w = .ok (.enter f args) w) (hc : Calls P f args w R)
    (hR : ∀ e w', R e w' → ∃ v, e = .returned v) (hK : ∀ v w', R (.returned v) w' → K (c.put o.dst v) w') :
    if Region.wanted o (yielded ops c.tmps) = true then Oper.wp P o c w K Q else E := by
  have hw : Region.wanted o (yielded ops c.tmps) = true := by simp [Region.wanted, hg]
  rw [if_pos hw]
  unfold Oper.wp
  rw [hrun, Oper.upon_enter]
  refine hc.mono fun e w' h => ?_
  obtain ⟨v, rfl⟩ := hR e w' h
  exact hK v w' h
end Go.Proofs.Ytmkgaegodemglaa
