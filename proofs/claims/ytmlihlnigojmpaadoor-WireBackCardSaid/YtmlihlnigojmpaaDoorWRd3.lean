/- Reading an entry of a letter: walked. -/
import Derived.Test.YtmlihlnigojmpaaDoorWRd2
import Derived.Test.YtmlihlnigojmpaaDoorPMay2
set_option linter.unusedVariables false
namespace Go.Proofs.YtmlihlnigojmpaaDoor
open Go.RowKit

def rE (L : List UInt8) (i : Int) (p : Nat) : Except Nat (En × Nat) :=
  match rN L 999999 p with
  | .error q => .error q
  | .ok (t, p1) => match rN L 2 p1 with
    | .error q => .error q
    | .ok (k, p2) =>
      if k = 1 then match rT L 8000 p2 with
        | .error q => .error q
        | .ok (s, p3) => .ok ({ idx := i, term := (t : Int), kind := (k : Int), data := s, nodes := [] }, p3)
      else if k = 2 then match rNodes L p2 with
        | .error q => .error q
        | .ok (ns, p3) => .ok ({ idx := i, term := (t : Int), kind := (k : Int), data := [], nodes := natI ns }, p3)
      else .ok ({ idx := i, term := (t : Int), kind := (k : Int), data := [], nodes := [] }, p2)

/-- Rows that are new. -/
def NewB (w : World) (K : Nat) (a : Option Addr) (c : Nat) (l : List UInt8) : Prop := BRow w a l.length c l ∧ l.length ≤ c ∧ ∀ x, a = some x → K ≤ x.block
def NewN (w : World) (K : Nat) (a : Option Addr) (l : List Int) : Prop := NRow w a l ∧ ∀ x, a = some x → K ≤ x.block
theorem NewB.nil (w : World) (K : Nat) : NewB w K none 0 [] := ⟨⟨rfl, .inl ⟨rfl, rfl, rfl⟩⟩, Nat.le_refl _, fun x hx => by cases hx⟩
theorem NewN.nil (w : World) (K : Nat) (a : Option Addr) (h : ∀ x, a = some x → K ≤ x.block) : NewN w K a [] := ⟨fun j z hj => by simp at hj, h⟩
theorem cell_fx {w w' : World} {S : Nat → Prop} (hf : Fx S w w') {x : Addr} {v : Value} (h : w.cell? x = some v) (hs : ¬ S x.block) : w'.cell? x = some v :=
  (World.cell?_of_block (hf.block (World.block_lt_of_cell? w x h) hs)).trans h
theorem add_block (x : Addr) (j : Nat) : (x.add j).block = x.block := by unfold Addr.add; split <;> rfl
theorem NewB.keep {w w' : World} {K c : Nat} {a : Option Addr} {l : List UInt8} {S : Nat → Prop} (h : NewB w K a c l) (hf : Fx S w w') (hs : ∀ k, S k → k < K) : NewB w' K a c l := by
  refine ⟨⟨h.1.1, ?_⟩, h.2.1, h.2.2⟩
  rcases h.1.2 with h2 | ⟨x, h2, hc⟩
  · exact .inl h2
  · refine .inr ⟨x, h2, fun j hj => cell_fx hf (hc j hj) (fun hS => ?_)⟩
    have h3 := hs _ hS
    rw [add_block] at h3
    have := h.2.2 x h2
    omega
theorem NewB.lower {w : World} {K K' c : Nat} {a : Option Addr} {l : List UInt8} (h : NewB w K a c l) (hk : K' ≤ K) : NewB w K' a c l := ⟨h.1, h.2.1, fun x hx => Nat.le_trans hk (h.2.2 x hx)⟩
theorem NewN.keep {w w' : World} {K : Nat} {a : Option Addr} {l : List Int} {S : Nat → Prop} (h : NewN w K a l) (hf : Fx S w w') (hs : ∀ k, S k → k < K) : NewN w' K a l := by
  refine ⟨fun j z hj => ?_, h.2⟩
  obtain ⟨g, o, h1, h2⟩ := h.1 j z hj
  refine ⟨g, o, h1, cell_fx hf h2 (fun hS => ?_)⟩
  have h3 := hs _ hS
  have := h.2 _ h1
  simp at h3 this
  omega
theorem NewN.lower {w : World} {K K' : Nat} {a : Option Addr} {l : List Int} (h : NewN w K a l) (hk : K' ≤ K) : NewN w K' a l := ⟨h.1, fun x hx => Nat.le_trans hk (h.2 x hx)⟩
theorem ownN_new {w : World} {B : Nat} {a : Option Addr} {n c : Nat} {l : List Nat} (h : OwnN w B (.slice a n c) l) : NewN w B a (natI l) := by
  rcases h.2 with ⟨h1, h2⟩ | ⟨g, cap, cur, hv, hB, hg, _⟩
  · have : l = [] := List.eq_nil_of_length_eq_zero h2
    subst this
    cases h1
    exact NewN.nil _ _ _ (fun x hx => by cases hx)
  · obtain ⟨e1, e2, e3⟩ : a = some ⟨g, 0, none⟩ ∧ n = l.length ∧ c = cap := by injection hv with h1 h2 h3; exact ⟨h1, h2, h3⟩
    subst e1
    refine ⟨fun j z hj => ?_, fun x hx => by cases hx; exact hB⟩
    have hjl : j < l.length := by have := (List.getElem?_eq_some_iff.1 hj).1; simpa using this
    refine ⟨g, 0, rfl, ?_⟩
    have hc := h.cells (g := g) (by rw [hv]; rfl) j (iV (l[j])) (by simp [hjl])
    rw [List.getElem?_map, List.getElem?_eq_getElem hjl] at hj
    have hz := Option.some.inj hj
    rw [← hz]
    rw [show ((⟨g, 0, none⟩ : Addr).add j) = ⟨g, 0 + j, none⟩ from by unfold Addr.add; split <;> simp_all] at hc
    exact hc

/-- An entry that was read: its rows are new. -/
structure EntK (w : World) (K : Nat) (e : En) (da : Option Addr) (dc : Nat) (na : Option Addr) : Prop where
  da : NewB w K da dc e.data
  na : NewN w K na e.nodes
  dl : e.data.length ≤ 8000
  nl : e.nodes.length ≤ 5
  rt : 0 ≤ e.term ∧ e.term ≤ 999999
  rk : 0 ≤ e.kind ∧ e.kind ≤ 2
  ri : 0 ≤ e.idx ∧ e.idx ≤ 9223372036854775807
theorem EntK.keep {w w' : World} {K dc : Nat} {e : En} {da na : Option Addr} {S : Nat → Prop} (h : EntK w K e da dc na) (hf : Fx S w w') (hs : ∀ k, S k → k < K) : EntK w' K e da dc na := ⟨h.da.keep hf hs, h.na.keep hf hs, h.dl, h.nl, h.rt, h.rk, h.ri⟩
theorem EntK.lower {w : World} {K K' dc : Nat} {e : En} {da na : Option Addr} (h : EntK w K e da dc na) (hk : K' ≤ K) : EntK w K' e da dc na := ⟨h.da.lower hk, h.na.lower hk, h.dl, h.nl, h.rt, h.rk, h.ri⟩

abbrev enC (e : En) (da : Option Addr) (dc : Nat) (na : Option Addr) (nc : Nat) : Array Value := #[.int .i64 e.idx, .int .i64 e.term, .int .i64 e.kind, .slice da e.data.length dc, .slice na e.nodes.length nc]
abbrev enZ : Array Value := #[.int .i64 0, .int .i64 0, .int .i64 0, .slice none 0 0, .slice none 0 0]
theorem set5 {w : World} {b : Nat} {T : TypeId} {a0 a1 a2 a3 a4 : Value} (b0 b1 b2 b3 b4 : Value) (h : w.heap[b]? = some (.cells #[a0, a1, a2, a3, a4] T (0, 0))) :
    (((((w.setCell ⟨b, 0, none⟩ b0).setCell ⟨b, 1, none⟩ b1).setCell ⟨b, 2, none⟩ b2).setCell ⟨b, 3, none⟩ b3).setCell ⟨b, 4, none⟩ b4).heap[b]? = some (.cells #[b0, b1, b2, b3, b4] T (0, 0)) := by
  have h0 : (w.setCell ⟨b, 0, none⟩ b0).heap[b]? = some (.cells #[b0, a1, a2, a3, a4] T (0, 0)) := set_blk h 0 b0
  have h1 : ((w.setCell ⟨b, 0, none⟩ b0).setCell ⟨b, 1, none⟩ b1).heap[b]? = some (.cells #[b0, b1, a2, a3, a4] T (0, 0)) := set_blk h0 1 b1
  have h2 : (((w.setCell ⟨b, 0, none⟩ b0).setCell ⟨b, 1, none⟩ b1).setCell ⟨b, 2, none⟩ b2).heap[b]? = some (.cells #[b0, b1, b2, a3, a4] T (0, 0)) := set_blk h1 2 b2
  have h3 : ((((w.setCell ⟨b, 0, none⟩ b0).setCell ⟨b, 1, none⟩ b1).setCell ⟨b, 2, none⟩ b2).setCell ⟨b, 3, none⟩ b3).heap[b]? = some (.cells #[b0, b1, b2, b3, a4] T (0, 0)) := set_blk h2 3 b3
  exact set_blk h3 4 b4

/-- An entry under way: its block, the result's, the reader. -/
structure EnU (w0 : World) (a : Option Addr) (len cap b : Nat) (w W : World) (cs : Array Value) (p : Nat) : Prop where
  rd : RdS w0 a len cap b W p
  fx : Fx (fun k => k = b) w W
  eb : W.heap[w.heap.size + 1]? = some (.cells cs 45 (0, 0))
  rb : W.heap[w.heap.size]? = some (.cells enZ 45 (0, 0))
theorem EnU.lt {w0 : World} {a : Option Addr} {len cap b : Nat} {w W : World} {cs : Array Value} {p : Nat} (h : EnU w0 a len cap b w W cs p) : w.heap.size + 2 ≤ W.heap.size := (Array.getElem?_eq_some_iff.1 h.eb).1
theorem EnU.step {w0 : World} {a : Option Addr} {len cap b : Nat} {w W W' : World} {cs : Array Value} {p q : Nat} (h : EnU w0 a len cap b w W cs p) (hb : b < w.heap.size) (hf : Fx (fun k => k = b) W W') (hr : RdS w0 a len cap b W' q) : EnU w0 a len cap b w W' cs q :=
  ⟨hr, h.fx.trans hf, (hf.block (Array.getElem?_eq_some_iff.1 h.eb).1 (by omega)).trans h.eb, (hf.block (Array.getElem?_eq_some_iff.1 h.rb).1 (by omega)).trans h.rb⟩
theorem EnU.set {w0 : World} {a : Option Addr} {len cap b : Nat} {w W : World} {cs : Array Value} {p : Nat} (h : EnU w0 a len cap b w W cs p) (hb : b < w.heap.size) (hw : w0.heap.size ≤ w.heap.size) (i : Nat) (u : Value) : EnU w0 a len cap b w (W.setCell ⟨w.heap.size + 1, i, none⟩ u) (cs.setIfInBounds i u) p := by
  have hf : Fx (fun k => k = w.heap.size + 1) W (W.setCell ⟨w.heap.size + 1, i, none⟩ u) := Fx.set (S := fun k => k = w.heap.size + 1) (Fx.refl _ W) rfl i u
  refine ⟨h.rd.keep hf (fun k hk => by omega) (by omega), h.fx.set_new (by omega) i u, set_blk h.eb i u, ?_⟩
  rw [Below.heap_setCell _ _ _ _ (by simp)]
  exact h.rb

set_option maxHeartbeats 8000000 in
set_option maxRecDepth 40000 in
theorem rentry {w0 : World} {a : Option Addr} {len cap b : Nat} {L : List UInt8} (hs : Src w0 a len cap L) {w : World} {p : Nat} (h : RdS w0 a len cap b w p) (i : Int) (hi : 0 ≤ i ∧ i ≤ 9223372036854775807) :
    Calls Tryd.prog 80 #[rptr b, .int .i64 i] w (Got w0 a len cap b (fun k => k = b) w (rE L i p) (fun e v w' => ∃ da dc na nc, v = .agg (enC e da dc na nc) ∧ EntK w' w.heap.size e da dc na ∧ e.idx = i)) := by
  obtain ⟨R, hR⟩ : ∃ R, rE L i p = R := ⟨_, rfl⟩
  rw [hR]
  have HR : Hid (rE L i p = R) := hR
  have hbw : b < w.heap.size := h.lt
  have hw0 : w0.heap.size ≤ w.heap.size := h.below.size
  obtain ⟨W1, hW1⟩ : ∃ W1, W1 = (w.alloc (.cells enZ 45)).alloc (.cells #[.int .i64 i, .int .i64 0, .int .i64 0, .slice none 0 0, .slice none 0 0] 45) := ⟨_, rfl⟩
  have hU1 : EnU w0 a len cap b w W1 #[.int .i64 i, .int .i64 0, .int .i64 0, .slice none 0 0, .slice none 0 0] p := by
    have f1 : Fx (fun k => k = b) w W1 := by rw [hW1]; exact ((Fx.refl _ w).alloc _).alloc _
    have f2 : Fx (fun k => False) w W1 := by rw [hW1]; exact ((Fx.refl _ w).alloc _).alloc _
    refine ⟨h.keep f2 (fun k hk => hk.elim) (fun hk => hk), f1, ?_, ?_⟩
    · rw [hW1]
      have := heap_alloc_new (w.alloc (.cells enZ 45)) (.cells #[.int .i64 i, .int .i64 0, .int .i64 0, .slice none 0 0, .slice none 0 0] 45)
      simpa using this
    · rw [hW1]
      exact (((Below.refl (w.alloc (.cells enZ 45)).heap.size (w.alloc (.cells enZ 45))).alloc (Nat.le_refl _) (.cells #[.int .i64 i, .int .i64 0, .int .i64 0, .slice none 0 0, .slice none 0 0] 45)).block _ (by simp)).trans (heap_alloc_new _ _)
  have HU1 : Hid (EnU w0 a len cap b w W1 #[.int .i64 i, .int .i64 0, .int .i64 0, .slice none 0 0, .slice none 0 0] p) := hU1
  have HS : Hid (Src w0 a len cap L ∧ b < w.heap.size ∧ w0.heap.size ≤ w.heap.size ∧ L.length = len) := ⟨hs, hbw, hw0, hs.row.1⟩
  have HI : Hid (0 ≤ i ∧ i ≤ 9223372036854775807) := hi
  have hN := rnum hs hU1.rd 999999 (by omega)
  clear hi hR h hbw hw0 hU1 hs
  go_enter Tryd.func80, Tryd.ntmps80
  go_upto_region 2 with fail
  rw [← hW1]
  clear hW1
  cases hX : rN L 999999 p with
  | error q =>
    have HE : Hid (R = .error q) := by show R = _; rw [← HR.out]; unfold rE; rw [hX]
    have HN : Hid (Calls Tryd.prog 56 #[rptr b, .int .i64 999999] W1 fun e w' => e = gaveUp q ∧ Fx (fun k => k = b) w w') := hN.mono fun e w' hg => ⟨(hg.error hX).1, HU1.out.fx.trans (hg.error hX).2⟩
    clear hN hX HR HU1 HS
    go_wp2_with (fail)
    refine HN.out.mono ?_
    rintro e w1 ⟨rfl, hf⟩
    have HF : Hid (Fx (fun k => k = b) w w1) := hf
    clear HN hf
    go_wp2
    rw [HE.out]
    exact ⟨rfl, HF.out, rfl⟩
  | ok x =>
  obtain ⟨t, p1⟩ := x
  have ht := (rN_le hX (by rw [HS.out.2.2.2]; exact HU1.out.rd.hp)).1
  have HN : Hid (Calls Tryd.prog 56 #[rptr b, .int .i64 999999] W1 fun e w' => e = .returned (.int .i64 (t : Int)) ∧ EnU w0 a len cap b w w' #[.int .i64 i, .int .i64 0, .int .i64 0, .slice none 0 0, .slice none 0 0] p1) := hN.mono fun e w' hg => by
    obtain ⟨v, h1, h2, h3, h4⟩ := hg.ok hX
    exact ⟨by rw [h1, h2], HU1.out.step HS.out.2.1 h4 h3⟩
  have HT : Hid (rN L 999999 p = .ok (t, p1) ∧ t ≤ 999999) := ⟨hX, ht⟩
  clear hN hX HU1 ht
  go_wp2_with (fail)
  refine HN.out.mono ?_
  rintro e W2 ⟨rfl, hU2⟩
  have y1 : W2.cell? ⟨w.heap.size + 1, 1, none⟩ = some (.int .i64 0) := pcell hU2.eb rfl
  have f1 : W2.frozen? ⟨w.heap.size + 1, 1, none⟩ = false := free_blk hU2.eb 1
  obtain ⟨W3, hW3⟩ : ∃ W3, W3 = W2.setCell ⟨w.heap.size + 1, 1, none⟩ (.int .i64 (t : Int)) := ⟨_, rfl⟩
  have hU3 : EnU w0 a len cap b w W3 #[.int .i64 i, .int .i64 (t : Int), .int .i64 0, .slice none 0 0, .slice none 0 0] p1 := by rw [hW3]; exact hU2.set HS.out.2.1 HS.out.2.2.1 1 (.int .i64 (t : Int))
  have HU3 : Hid (EnU w0 a len cap b w W3 #[.int .i64 i, .int .i64 (t : Int), .int .i64 0, .slice none 0 0, .slice none 0 0] p1) := hU3
  have hN := rnum HS.out.1 hU3.rd 2 (by omega)
  clear HN hU2 hU3
  go_upto_region 3 with fail
  rw [← hW3]
  clear hW3 y1 f1
  cases hX : rN L 2 p1 with
  | error q =>
    have HE : Hid (R = .error q) := by show R = _; rw [← HR.out]; unfold rE; rw [HT.out.1]; simp only [hX]
    have HN : Hid (Calls Tryd.prog 56 #[rptr b, .int .i64 2] W3 fun e w' => e = gaveUp q ∧ Fx (fun k => k = b) w w') := hN.mono fun e w' hg => ⟨(hg.error hX).1, HU3.out.fx.trans (hg.error hX).2⟩
    clear hN hX HR HU3 HS HT
    go_wp2_with (fail)
    refine HN.out.mono ?_
    rintro e w1 ⟨rfl, hf⟩
    have HF : Hid (Fx (fun k => k = b) w w1) := hf
    clear HN hf
    go_wp2
    rw [HE.out]
    exact ⟨rfl, HF.out, rfl⟩
  | ok x =>
  obtain ⟨k, p2⟩ := x
  have hk := (rN_le hX (by rw [HS.out.2.2.2]; exact HU3.out.rd.hp)).1
  have HN : Hid (Calls Tryd.prog 56 #[rptr b, .int .i64 2] W3 fun e w' => e = .returned (.int .i64 (k : Int)) ∧ EnU w0 a len cap b w w' #[.int .i64 i, .int .i64 (t : Int), .int .i64 0, .slice none 0 0, .slice none 0 0] p2) := hN.mono fun e w' hg => by
    obtain ⟨v, h1, h2, h3, h4⟩ := hg.ok hX
    exact ⟨by rw [h1, h2], HU3.out.step HS.out.2.1 h4 h3⟩
  have HE : Hid (R = (if k = 1 then match rT L 8000 p2 with
        | .error q => .error q
        | .ok (s, p3) => .ok ({ idx := i, term := (t : Int), kind := (k : Int), data := s, nodes := [] }, p3)
      else if k = 2 then match rNodes L p2 with
        | .error q => .error q
        | .ok (ns, p3) => .ok ({ idx := i, term := (t : Int), kind := (k : Int), data := [], nodes := natI ns }, p3)
      else .ok ({ idx := i, term := (t : Int), kind := (k : Int), data := [], nodes := [] }, p2)) ∧ k ≤ 2 ∧ t ≤ 999999) := by
    refine ⟨?_, hk, HT.out.2⟩
    rw [← HR.out]; unfold rE; rw [HT.out.1]; simp only [hX]
  clear hN hX HU3 hk HR HT
  go_wp2_with (fail)
  refine HN.out.mono ?_
  rintro e W4 ⟨rfl, hU4⟩
  have y2 : W4.cell? ⟨w.heap.size + 1, 2, none⟩ = some (.int .i64 0) := pcell hU4.eb rfl
  have f2 : W4.frozen? ⟨w.heap.size + 1, 2, none⟩ = false := free_blk hU4.eb 2
  obtain ⟨W5, hW5⟩ : ∃ W5, W5 = W4.setCell ⟨w.heap.size + 1, 2, none⟩ (.int .i64 (k : Int)) := ⟨_, rfl⟩
  have hU5 : EnU w0 a len cap b w W5 #[.int .i64 i, .int .i64 (t : Int), .int .i64 (k : Int), .slice none 0 0, .slice none 0 0] p2 := by rw [hW5]; exact hU4.set HS.out.2.1 HS.out.2.2.1 2 (.int .i64 (k : Int))
  have z2 : W5.cell? ⟨w.heap.size + 1, 2, none⟩ = some (.int .i64 (k : Int)) := pcell hU5.eb rfl
  have HU5 : Hid (EnU w0 a len cap b w W5 #[.int .i64 i, .int .i64 (t : Int), .int .i64 (k : Int), .slice none 0 0, .slice none 0 0] p2) := hU5
  clear HN hU4 hU5
  go_upto_region 4 with fail
  rw [← hW5]
  clear hW5 y2 f2
  go_upto_block 0 with fail
  go_cut [] from 16 to 27 (fun wx => ∃ (e : En) (da : Option Addr) (dc : Nat) (na : Option Addr) (nc p3 : Nat), Hid (EnU w0 a len cap b w wx (enC e da dc na nc) p3 ∧ EntK wx (w.heap.size + 2) e da dc na ∧ e.idx = i ∧ R = .ok (e, p3)))
  case first =>
    by_cases k1 : k = 1
    · subst k1
      have hT := rtext HS.out.1 HU5.out.rd 8000 (by omega)
      cases hX : rT L 8000 p2 with
      | error q =>
        have HE2 : Hid (R = .error q) := by show R = _; rw [HE.out.1, if_pos rfl, hX]
        have HN : Hid (Calls Tryd.prog 82 #[rptr b, .int .i64 8000] W5 fun e w' => e = gaveUp q ∧ Fx (fun k => k = b) w w') := hT.mono fun e w' hg => ⟨(hg.error hX).1, HU5.out.fx.trans (hg.error hX).2⟩
        clear hT hX HE HU5 HS
        go_wp2_with (fail)
        refine HN.out.mono ?_
        rintro e w1 ⟨rfl, hf⟩
        have HF : Hid (Fx (fun k => k = b) w w1) := hf
        clear HN hf
        go_wp2
        rw [HE2.out]
        exact ⟨rfl, HF.out, rfl⟩
      | ok x =>
        obtain ⟨s, p3⟩ := x
        have hsl := (rT_le hX (by rw [HS.out.2.2.2]; exact HU5.out.rd.hp)).1
        obtain ⟨sb, hsb⟩ : ∃ sb : ByteArray, sb = ⟨s.toArray⟩ := ⟨_, rfl⟩
        have HN : Hid (Calls Tryd.prog 82 #[rptr b, .int .i64 8000] W5 fun e w' => e = .returned (.string sb) ∧ EnU w0 a len cap b w w' #[.int .i64 i, .int .i64 (t : Int), .int .i64 ((1 : Nat) : Int), .slice none 0 0, .slice none 0 0] p3) := hT.mono fun e w' hg => by
          obtain ⟨v, h1, h2, h3, h4⟩ := hg.ok hX
          exact ⟨by rw [h1, h2, hsb], HU5.out.step HS.out.2.1 h4 h3⟩
        have HE2 : Hid (R = .ok ({ idx := i, term := (t : Int), kind := ((1 : Nat) : Int), data := s, nodes := [] }, p3) ∧ t ≤ 999999 ∧ s.length ≤ 8000 ∧ sb = ⟨s.toArray⟩) := ⟨by rw [HE.out.1, if_pos rfl, hX], HE.out.2.2, hsl, hsb⟩
        clear hT hX HE HU5 hsl hsb
        go_wp2_with (fail)
        refine HN.out.mono ?_
        rintro e W6 ⟨rfl, hU6⟩
        have hsz : sb.size = s.length := by rw [HE2.out.2.2.2]; simp [ByteArray.size]
        obtain ⟨ca, cc, CW, hcv, hcr, hcb, hcn, hcc⟩ := conv_row W6 sb (by have := HE2.out.2.2.1; omega)
        have hfc := Fx.of_below (fun k => k = b) hcb
        have hU7 : EnU w0 a len cap b w CW #[.int .i64 i, .int .i64 (t : Int), .int .i64 ((1 : Nat) : Int), .slice none 0 0, .slice none 0 0] p3 := hU6.step HS.out.2.1 hfc (hU6.rd.keep (Fx.of_below (fun k => False) hcb) (fun k hk => hk.elim) (fun hk => hk))
        have hnb : NewB CW (w.heap.size + 2) ca cc s := by
          refine ⟨?_, by omega, fun x hx => Nat.le_trans hU6.lt (hcn x hx)⟩
          have : sb.data.toList = s := by rw [HE2.out.2.2.2]
          rw [this, hsz] at hcr
          exact hcr
        have y3 : CW.cell? ⟨w.heap.size + 1, 3, none⟩ = some (.slice none 0 0) := pcell hU7.eb rfl
        have f3 : CW.frozen? ⟨w.heap.size + 1, 3, none⟩ = false := free_blk hU7.eb 3
        rw [hsz] at hcv
        obtain ⟨sn, hsn⟩ : ∃ sn, s.length = sn := ⟨_, rfl⟩
        rw [hsn] at hcv
        have HU7 : Hid (EnU w0 a len cap b w CW #[.int .i64 i, .int .i64 (t : Int), .int .i64 ((1 : Nat) : Int), .slice none 0 0, .slice none 0 0] p3 ∧ NewB CW (w.heap.size + 2) ca cc s ∧ s.length = sn) := ⟨hU7, hnb, hsn⟩
        clear HN hU6 hcr hcb hcn hcc hfc hU7 hnb hsz hsn z2
        go_wp2_with (fail)
        go_meet
        have hU8 := HU7.out.1.set HS.out.2.1 HS.out.2.2.1 3 (.slice ca sn cc)
        have hf8 : Fx (fun k => k = w.heap.size + 1) CW (CW.setCell ⟨w.heap.size + 1, 3, none⟩ (.slice ca sn cc)) := Fx.set (S := fun k => k = w.heap.size + 1) (Fx.refl _ CW) rfl 3 _
        refine ⟨{ idx := i, term := (t : Int), kind := ((1 : Nat) : Int), data := s, nodes := [] }, ca, cc, none, 0, p3, ?_, ⟨HU7.out.2.1.keep hf8 (fun k hk => by omega), NewN.nil _ _ _ (fun x hx => by cases hx), HE2.out.2.2.1, by simp, by have := HE2.out.2.1; constructor <;> simp <;> omega, by simp, HI.out⟩, rfl, HE2.out.1⟩
        have := HU7.out.2.2
        subst this
        exact hU8
    · by_cases k2 : k = 2
      · subst k2
        have hT := rnodes HS.out.1 HU5.out.rd
        cases hX : rNodes L p2 with
        | error q =>
          have HE2 : Hid (R = .error q) := by show R = _; rw [HE.out.1, if_neg (by omega), if_pos rfl, hX]
          have HN : Hid (Calls Tryd.prog 81 #[rptr b] W5 fun e w' => e = gaveUp q ∧ Fx (fun k => k = b) w w') := hT.mono fun e w' hg => ⟨(hg.error hX).1, HU5.out.fx.trans (hg.error hX).2⟩
          clear hT hX HE HU5 HS
          go_wp2_with (fail)
          refine HN.out.mono ?_
          rintro e w1 ⟨rfl, hf⟩
          have HF : Hid (Fx (fun k => k = b) w w1) := hf
          clear HN hf
          go_wp2
          rw [HE2.out]
          exact ⟨rfl, HF.out, rfl⟩
        | ok x =>
          obtain ⟨ns, p3⟩ := x
          have HN : Hid (Calls Tryd.prog 81 #[rptr b] W5 fun e w' => ∃ v, e = .returned v ∧ OwnN w' (w.heap.size + 2) v ns ∧ ns.length ≤ 5 ∧ EnU w0 a len cap b w w' #[.int .i64 i, .int .i64 (t : Int), .int .i64 ((2 : Nat) : Int), .slice none 0 0, .slice none 0 0] p3) := hT.mono fun e w' hg => by
            obtain ⟨v, h1, h2, h3, h4⟩ := hg.ok hX
            exact ⟨v, h1, ownN_lower h2.1 HU5.out.lt, h2.2, HU5.out.step HS.out.2.1 h4 h3⟩
          have HE2 : Hid (R = .ok ({ idx := i, term := (t : Int), kind := ((2 : Nat) : Int), data := [], nodes := natI ns }, p3) ∧ t ≤ 999999) := ⟨by rw [HE.out.1, if_neg (by omega), if_pos rfl, hX], HE.out.2.2⟩
          clear hT hX HE HU5
          go_wp2_with (fail)
          refine HN.out.mono ?_
          rintro e W6 ⟨v, rfl, hown, hnl, hU6⟩
          obtain ⟨na, nc, hv⟩ := ownN_slice hown
          subst hv
          obtain ⟨nn, hnn⟩ : ∃ nn, ns.length = nn := ⟨_, rfl⟩
          have y4 : W6.cell? ⟨w.heap.size + 1, 4, none⟩ = some (.slice none 0 0) := pcell hU6.eb rfl
          have f4 : W6.frozen? ⟨w.heap.size + 1, 4, none⟩ = false := free_blk hU6.eb 4
          have HU7 : Hid (EnU w0 a len cap b w W6 #[.int .i64 i, .int .i64 (t : Int), .int .i64 ((2 : Nat) : Int), .slice none 0 0, .slice none 0 0] p3 ∧ NewN W6 (w.heap.size + 2) na (natI ns) ∧ ns.length = nn ∧ nn ≤ 5) := ⟨hU6, ownN_new hown, hnn, by omega⟩
          rw [hnn]
          clear HN hU6 hown hnl hnn z2
          go_wp2_with (fail)
          go_meet
          have hU8 := HU7.out.1.set HS.out.2.1 HS.out.2.2.1 4 (.slice na nn nc)
          have hf8 : Fx (fun k => k = w.heap.size + 1) W6 (W6.setCell ⟨w.heap.size + 1, 4, none⟩ (.slice na nn nc)) := Fx.set (S := fun k => k = w.heap.size + 1) (Fx.refl _ W6) rfl 4 _
          have hln : (natI ns).length = nn := by rw [← HU7.out.2.2.1]; exact List.length_map ..
          refine ⟨{ idx := i, term := (t : Int), kind := ((2 : Nat) : Int), data := [], nodes := natI ns }, none, 0, na, nc, p3, ?_, ⟨NewB.nil _ _, HU7.out.2.1.keep hf8 (fun k hk => by omega), by simp, by rw [hln]; exact HU7.out.2.2.2, by have := HE2.out.2; constructor <;> simp <;> omega, by simp, HI.out⟩, rfl, HE2.out.1⟩
          subst hln
          exact hU8
      · have k0 : k = 0 := by have := HE.out.2.1; omega
        subst k0
        have HE2 : Hid (R = .ok ({ idx := i, term := (t : Int), kind := ((0 : Nat) : Int), data := [], nodes := [] }, p2) ∧ t ≤ 999999) := ⟨by rw [HE.out.1, if_neg (by omega), if_neg (by omega)], HE.out.2.2⟩
        clear HE
        go_wp2_with (fail)
        go_meet
        exact ⟨{ idx := i, term := (t : Int), kind := ((0 : Nat) : Int), data := [], nodes := [] }, none, 0, none, 0, p2, HU5.out, ⟨NewB.nil _ _, NewN.nil _ _ _ (fun x hx => by cases hx), by simp, by simp, by have := HE2.out.2; constructor <;> simp <;> omega, by simp, HI.out⟩, rfl, HE2.out.1⟩
  case rest =>
    obtain ⟨e, da, dc, na, nc, p3, HC⟩ := hcut
    clear HE HU5 z2
    generalize wc = W6 at *
    obtain ⟨dn, hdn⟩ : ∃ q, e.data.length = q := ⟨_, rfl⟩
    obtain ⟨nn, hnn⟩ : ∃ q, e.nodes.length = q := ⟨_, rfl⟩
    have hE := HC.out.1
    have eb := hE.eb
    unfold enC at eb
    rw [hdn, hnn] at eb
    have x0 : W6.cell? ⟨w.heap.size + 1, 0, none⟩ = some (.int .i64 e.idx) := pcell eb rfl
    have x1 : W6.cell? ⟨w.heap.size + 1, 1, none⟩ = some (.int .i64 e.term) := pcell eb rfl
    have x2 : W6.cell? ⟨w.heap.size + 1, 2, none⟩ = some (.int .i64 e.kind) := pcell eb rfl
    have x3 : W6.cell? ⟨w.heap.size + 1, 3, none⟩ = some (.slice da dn dc) := pcell eb rfl
    have x4 : W6.cell? ⟨w.heap.size + 1, 4, none⟩ = some (.slice na nn nc) := pcell eb rfl
    have v0 : W6.cell? ⟨w.heap.size, 0, none⟩ = some (.int .i64 0) := pcell hE.rb rfl
    have v1 : W6.cell? ⟨w.heap.size, 1, none⟩ = some (.int .i64 0) := pcell hE.rb rfl
    have v2 : W6.cell? ⟨w.heap.size, 2, none⟩ = some (.int .i64 0) := pcell hE.rb rfl
    have v3 : W6.cell? ⟨w.heap.size, 3, none⟩ = some (.slice none 0 0) := pcell hE.rb rfl
    have v4 : W6.cell? ⟨w.heap.size, 4, none⟩ = some (.slice none 0 0) := pcell hE.rb rfl
    have f0 : W6.frozen? ⟨w.heap.size, 0, none⟩ = false := free_blk hE.rb 0
    have f1 : W6.frozen? ⟨w.heap.size, 1, none⟩ = false := free_blk hE.rb 1
    have f2 : W6.frozen? ⟨w.heap.size, 2, none⟩ = false := free_blk hE.rb 2
    have f3 : W6.frozen? ⟨w.heap.size, 3, none⟩ = false := free_blk hE.rb 3
    have f4 : W6.frozen? ⟨w.heap.size, 4, none⟩ = false := free_blk hE.rb 4
    have hs5 := set5 (.int .i64 e.idx) (.int .i64 e.term) (.int .i64 e.kind) (.slice da dn dc) (.slice na nn nc) hE.rb
    have s0 := pcell hs5 (i := 0) (v := .int .i64 e.idx) rfl
    have s1 := pcell hs5 (i := 1) (v := .int .i64 e.term) rfl
    have s2 := pcell hs5 (i := 2) (v := .int .i64 e.kind) rfl
    have s3 := pcell hs5 (i := 3) (v := .slice da dn dc) rfl
    have s4 := pcell hs5 (i := 4) (v := .slice na nn nc) rfl
    have HD : Hid (e.data.length = dn ∧ e.nodes.length = nn) := ⟨hdn, hnn⟩
    clear hE eb hdn hnn hs5
    go_wp2_with fail
    refine bodyPost_ret (v := .agg (enC e da dc na nc)) ?_ rfl ?_
    · unfold enC
      rw [HD.out.1, HD.out.2]
      simp [results, Tryd.results80, go_sem, s0, s1, s2, s3, s4]
    · rw [HC.out.2.2.2]
      obtain ⟨W7, hW7⟩ : ∃ W7, W7 = ((((W6.setCell ⟨w.heap.size, 0, none⟩ (.int .i64 e.idx)).setCell ⟨w.heap.size, 1, none⟩ (.int .i64 e.term)).setCell ⟨w.heap.size, 2, none⟩ (.int .i64 e.kind)).setCell ⟨w.heap.size, 3, none⟩ (.slice da dn dc)).setCell ⟨w.heap.size, 4, none⟩ (.slice na nn nc) := ⟨_, rfl⟩
      have hf : Fx (fun k => k = w.heap.size) W6 W7 := by
        rw [hW7]
        exact Fx.set (S := fun k => k = w.heap.size) (Fx.set (S := fun k => k = w.heap.size) (Fx.set (S := fun k => k = w.heap.size) (Fx.set (S := fun k => k = w.heap.size) (Fx.set (S := fun k => k = w.heap.size) (Fx.refl _ W6) rfl _ _) rfl _ _) rfl _ _) rfl _ _) rfl _ _
      have hfw : Fx (fun k => k = b) w W7 := by
        rw [hW7]
        exact ((((HC.out.1.fx.set_new (Nat.le_refl _) _ _).set_new (Nat.le_refl _) _ _).set_new (Nat.le_refl _) _ _).set_new (Nat.le_refl _) _ _).set_new (Nat.le_refl _) _ _
      rw [← hW7]
      have hbw := HS.out.2.1
      have hw0 := HS.out.2.2.1
      exact ⟨hfw, _, rfl, ⟨da, dc, na, nc, rfl, (HC.out.2.1.keep hf (fun k hk => by omega)).lower (by omega), HC.out.2.2.1⟩, HC.out.1.rd.keep hf (fun k hk => by omega) (by omega)⟩
end Go.Proofs.YtmlihlnigojmpaaDoor
