/- Reading a snapshot of a letter: walked. -/
import Derived.Test.YtmlihlnigojmpaaDoorWRd4
set_option linter.unusedVariables false
namespace Go.Proofs.YtmlihlnigojmpaaDoor
open Go.RowKit

/-- Reading on behind what was read. -/
def bindR {α β : Type} (X : Except Nat (α × Nat)) (k : α → Nat → Except Nat β) : Except Nat β :=
  match X with
  | .error q => .error q
  | .ok (x, p) => k x p
theorem bindR_error {α β : Type} {X : Except Nat (α × Nat)} {k : α → Nat → Except Nat β} {q : Nat} (h : X = .error q) : bindR X k = .error q := by rw [h]; rfl
theorem bindR_ok {α β : Type} {X : Except Nat (α × Nat)} {k : α → Nat → Except Nat β} {x : α} {p : Nat} (h : X = .ok (x, p)) : bindR X k = k x p := by rw [h]; rfl

/-- A value under way in a block of its own, beside the reader. -/
structure Uw (w0 : World) (a : Option Addr) (len cap b mb : Nat) (T : TypeId) (W1 W : World) (cs : Array Value) (p : Nat) : Prop where
  rd : RdS w0 a len cap b W p
  fx : Fx (fun k => k = b ∨ k = mb) W1 W
  bl : W.heap[mb]? = some (.cells cs T (0, 0))
section
variable {w0 : World} {a : Option Addr} {len cap b mb : Nat} {T : TypeId} {W1 W W' : World} {cs : Array Value} {p q : Nat}
theorem Uw.step (h : Uw w0 a len cap b mb T W1 W cs p) (hne : mb ≠ b) (hf : Fx (fun k => k = b) W W') (hr : RdS w0 a len cap b W' q) : Uw w0 a len cap b mb T W1 W' cs q :=
  ⟨hr, h.fx.trans (hf.imp (fun k _ hk => .inl hk)), (hf.block (Array.getElem?_eq_some_iff.1 h.bl).1 hne).trans h.bl⟩
theorem Uw.set (h : Uw w0 a len cap b mb T W1 W cs p) (hne : mb ≠ b) (hw : w0.heap.size ≤ mb) (i : Nat) (u : Value) : Uw w0 a len cap b mb T W1 (W.setCell ⟨mb, i, none⟩ u) (cs.setIfInBounds i u) p := by
  have hf : Fx (fun k => k = mb) W (W.setCell ⟨mb, i, none⟩ u) := Fx.set (S := fun k => k = mb) (Fx.refl _ W) rfl i u
  exact ⟨h.rd.keep hf (fun k hk => by omega) (fun hk => hne hk.symm), h.fx.trans (hf.imp (fun k _ hk => .inr hk)), set_blk h.bl i u⟩
theorem Uw.below (h : Uw w0 a len cap b mb T W1 W cs p) (hne : mb ≠ b) (hb : Below W.heap.size W W') : Uw w0 a len cap b mb T W1 W' cs p :=
  h.step hne (Fx.of_below _ hb) (h.rd.keep (Fx.of_below (fun k => False) hb) (fun k hk => hk.elim) (fun hk => hk))
end

set_option maxRecDepth 40000 in
theorem rok {w0 : World} {a : Option Addr} {len cap b : Nat} {L : List UInt8} (hs : Src w0 a len cap L) {w : World} {p : Nat} (h : RdS w0 a len cap b w p) :
    Calls Tryd.prog 72 #[rptr b] w (Got w0 a len cap b (fun k => k = b) w (rN L 1 p) (fun n v w' => v = .bool (n == 1))) := by
  have hN := rnum hs h 1 (by omega)
  cases hX : rN L 1 p with
  | error q =>
    have HN : Hid (Calls Tryd.prog 56 #[rptr b, .int .i64 1] w fun e w' => e = gaveUp q ∧ Fx (fun k => k = b) w w') := hN.mono fun e w' hg => hg.error hX
    clear hN hX h hs
    go_enter Tryd.func72, Tryd.ntmps72
    go_wp2_with (fail)
    refine HN.out.mono ?_
    rintro e w1 ⟨rfl, hf⟩
    have HF : Hid (Fx (fun k => k = b) w w1) := hf
    clear HN hf
    go_wp2
    exact ⟨rfl, HF.out, rfl⟩
  | ok x =>
    obtain ⟨n, p1⟩ := x
    have HN : Hid (Calls Tryd.prog 56 #[rptr b, .int .i64 1] w fun e w' => e = .returned (.int .i64 (n : Int)) ∧ RdS w0 a len cap b w' p1 ∧ Fx (fun k => k = b) w w') := hN.mono fun e w' hg => by
      obtain ⟨v, h1, h2, h3, h4⟩ := hg.ok hX
      exact ⟨by rw [h1, h2], h3, h4⟩
    obtain ⟨B, hB⟩ : ∃ B, ((n : Int) == 1) = B := ⟨_, rfl⟩
    have HB : Hid ((n == 1) = B) := by
      show _ = B
      rw [← hB, Bool.eq_iff_iff]
      simp only [beq_iff_eq]
      omega
    clear hN hX h hs
    go_enter Tryd.func72, Tryd.ntmps72
    go_wp2_with (fail)
    refine HN.out.mono ?_
    rintro e w1 ⟨rfl, hr, hf⟩
    have HF : Hid (RdS w0 a len cap b w1 p1 ∧ Fx (fun k => k = b) w w1) := ⟨hr, hf⟩
    clear HN hr hf
    go_wp2
    go_ret
    exact ⟨HF.out.2, _, rfl, (by show Value.bool B = Value.bool (n == 1); rw [HB.out]), HF.out.1⟩

/-- A snapshot that is read. -/
structure Sn where
  X : Nat
  T : Nat
  ns : List Nat
  s : List UInt8
def rSn (L : List UInt8) (p : Nat) : Except Nat (Sn × Nat) :=
  bindR (rN L 999999 p) fun X p1 => bindR (rN L 999999 p1) fun T p2 => bindR (rNodes L p2) fun ns p3 => bindR (rT L 300000 p3) fun s p4 => .ok (⟨X, T, ns, s⟩, p4)
theorem set4 {w : World} {b : Nat} {T : TypeId} {a0 a1 a2 a3 : Value} (b0 b1 b2 b3 : Value) (h : w.heap[b]? = some (.cells #[a0, a1, a2, a3] T (0, 0))) :
    ((((w.setCell ⟨b, 0, none⟩ b0).setCell ⟨b, 1, none⟩ b1).setCell ⟨b, 2, none⟩ b2).setCell ⟨b, 3, none⟩ b3).heap[b]? = some (.cells #[b0, b1, b2, b3] T (0, 0)) := by
  have h0 : (w.setCell ⟨b, 0, none⟩ b0).heap[b]? = some (.cells #[b0, a1, a2, a3] T (0, 0)) := set_blk h 0 b0
  have h1 : ((w.setCell ⟨b, 0, none⟩ b0).setCell ⟨b, 1, none⟩ b1).heap[b]? = some (.cells #[b0, b1, a2, a3] T (0, 0)) := set_blk h0 1 b1
  have h2 : (((w.setCell ⟨b, 0, none⟩ b0).setCell ⟨b, 1, none⟩ b1).setCell ⟨b, 2, none⟩ b2).heap[b]? = some (.cells #[b0, b1, b2, a3] T (0, 0)) := set_blk h1 2 b2
  exact set_blk h2 3 b3

set_option maxHeartbeats 8000000 in
set_option maxRecDepth 40000 in
theorem rsnap {w0 : World} {a : Option Addr} {len cap b : Nat} {L : List UInt8} (hs : Src w0 a len cap L) {w : World} {p : Nat} (h : RdS w0 a len cap b w p) :
    Calls Tryd.prog 74 #[rptr b] w (Got w0 a len cap b (fun k => k = b) w (rSn L p) (fun x v w' => ∃ na nc da dc, v = .agg #[.int .i64 (x.X : Int), .int .i64 (x.T : Int), .slice na x.ns.length nc, .slice da x.s.length dc] ∧ NewN w' w.heap.size na (natI x.ns) ∧ NewB w' w.heap.size da dc x.s ∧ x.ns.length ≤ 5 ∧ x.s.length ≤ 300000 ∧ x.X ≤ 999999 ∧ x.T ≤ 999999)) := by
  obtain ⟨R, hR⟩ : ∃ R, rSn L p = R := ⟨_, rfl⟩
  rw [hR]
  have HR : Hid (R = _) := hR.symm
  unfold rSn at HR
  have hbw : b < w.heap.size := h.lt
  have hw0 : w0.heap.size ≤ w.heap.size := h.below.size
  obtain ⟨W1, hW1⟩ : ∃ W1, W1 = (w.alloc (.cells #[.int .i64 0, .int .i64 0, .slice none 0 0, .slice none 0 0] 26)).alloc (.cells #[.int .i64 0, .int .i64 0, .slice none 0 0, .slice none 0 0] 26) := ⟨_, rfl⟩
  have f2 : Fx (fun k => False) w W1 := by rw [hW1]; exact ((Fx.refl _ w).alloc _).alloc _
  have hk2 : W1.heap[w.heap.size + 1]? = some (.cells #[.int .i64 0, .int .i64 0, .slice none 0 0, .slice none 0 0] 26 (0, 0)) := by
    rw [hW1]
    have := heap_alloc_new (w.alloc (.cells #[.int .i64 0, .int .i64 0, .slice none 0 0, .slice none 0 0] 26)) (.cells #[.int .i64 0, .int .i64 0, .slice none 0 0, .slice none 0 0] 26)
    simpa using this
  have hk1 : W1.heap[w.heap.size]? = some (.cells #[.int .i64 0, .int .i64 0, .slice none 0 0, .slice none 0 0] 26 (0, 0)) := by
    rw [hW1]
    exact (((Below.refl (w.alloc (.cells #[.int .i64 0, .int .i64 0, .slice none 0 0, .slice none 0 0] 26)).heap.size (w.alloc (.cells #[.int .i64 0, .int .i64 0, .slice none 0 0, .slice none 0 0] 26))).alloc (Nat.le_refl _) (.cells #[.int .i64 0, .int .i64 0, .slice none 0 0, .slice none 0 0] 26)).block _ (by simp)).trans (heap_alloc_new _ _)
  have hr1 : RdS w0 a len cap b W1 p := h.keep f2 (fun k hk => hk.elim) (fun hk => hk)
  have HU : Hid (Uw w0 a len cap b (w.heap.size + 1) 26 W1 W1 #[.int .i64 0, .int .i64 0, .slice none 0 0, .slice none 0 0] p) := ⟨hr1, Fx.refl _ _, hk2⟩
  have HS : Hid (Src w0 a len cap L ∧ L.length = len ∧ w.heap.size + 1 ≠ b ∧ w0.heap.size ≤ w.heap.size + 1) := ⟨hs, hs.row.1, by omega, by omega⟩
  have HK : Hid (W1.heap[w.heap.size]? = some (.cells #[.int .i64 0, .int .i64 0, .slice none 0 0, .slice none 0 0] 26 (0, 0)) ∧ Fx (fun k => False) w W1 ∧ b < w.heap.size ∧ w.heap.size + 2 ≤ W1.heap.size) := ⟨hk1, f2, hbw, (Array.getElem?_eq_some_iff.1 hk2).1⟩
  have HFX : Hid (∀ u u', Fx (fun k => k = b ∨ k = w.heap.size + 1) W1 u → Fx (fun k => k = b) u u' → Fx (fun k => k = b) w u') := fun u u' hu hu' => (((f2.imp (fun k _ hk => hk.elim)).trans hu).imp (fun k hk hS => by rcases hS with hS | hS <;> omega)).trans hu'
  clear hR h hbw hw0 f2 hk1 hk2 hr1 hs
  go_enter Tryd.func74, Tryd.ntmps74
  go_upto_region 2 with fail
  rw [← hW1]
  clear hW1
  have hN := rnum HS.out.1 HU.out.rd 999999 (by omega)
  cases hX : rN L 999999 p with
  | error q =>
    have HE : Hid (R = .error q) := by show R = _; rw [HR.out, bindR_error hX]
    have HN : Hid (Calls Tryd.prog 56 #[rptr b, .int .i64 999999] W1 fun e w' => e = gaveUp q ∧ Fx (fun k => k = b) w w') := hN.mono fun e w' hg => ⟨(hg.error hX).1, HFX.out _ _ HU.out.fx (hg.error hX).2⟩
    clear hN hX HR HU HS HK HFX
    go_wp2_with (fail)
    refine HN.out.mono ?_
    rintro e w1 ⟨rfl, hf⟩
    have HF : Hid (Fx (fun k => k = b) w w1) := hf
    clear HN hf
    go_wp2
    rw [HE.out]
    exact ⟨rfl, HF.out, rfl⟩
  | ok x =>
  obtain ⟨X, p1⟩ := x
  have hbX := (rN_le hX (by rw [HS.out.2.1]; exact HU.out.rd.hp)).1
  have HN : Hid (Calls Tryd.prog 56 #[rptr b, .int .i64 999999] W1 fun e w' => e = .returned (.int .i64 (X : Int)) ∧ Uw w0 a len cap b (w.heap.size + 1) 26 W1 w' #[.int .i64 0, .int .i64 0, .slice none 0 0, .slice none 0 0] p1) := hN.mono fun e w' hg => by
    obtain ⟨v, h1, h2, h3, h4⟩ := hg.ok hX
    exact ⟨by rw [h1, h2], HU.out.step HS.out.2.2.1 h4 h3⟩
  have HR2 := (show Hid (R = _) from HR.out.trans (bindR_ok hX))
  have HBX : Hid (X ≤ 999999) := hbX
  clear hN hX HR HU hbX
  have HR := HR2
  clear HR2
  (try dsimp only at HR)
  go_wp2_with (fail)
  refine HN.out.mono ?_
  rintro e Wa ⟨rfl, hU⟩
  have y0 : Wa.cell? ⟨w.heap.size + 1, 0, none⟩ = some (.int .i64 0) := pcell hU.bl rfl
  have g0 : Wa.frozen? ⟨w.heap.size + 1, 0, none⟩ = false := free_blk hU.bl 0
  obtain ⟨Wb, hWb⟩ : ∃ Wq, Wq = Wa.setCell ⟨w.heap.size + 1, 0, none⟩ (.int .i64 (X : Int)) := ⟨_, rfl⟩
  have HU : Hid (Uw w0 a len cap b (w.heap.size + 1) 26 W1 Wb #[.int .i64 (X : Int), .int .i64 0, .slice none 0 0, .slice none 0 0] p1) := by show Uw w0 a len cap b (w.heap.size + 1) 26 W1 Wb #[.int .i64 (X : Int), .int .i64 0, .slice none 0 0, .slice none 0 0] p1; rw [hWb]; exact hU.set HS.out.2.2.1 HS.out.2.2.2 0 (.int .i64 (X : Int))
  clear HN hU
  go_upto_region 3 with fail
  rw [← hWb]
  clear hWb y0 g0
  have hN := rnum HS.out.1 HU.out.rd 999999 (by omega)
  cases hX : rN L 999999 p1 with
  | error q =>
    have HE : Hid (R = .error q) := by show R = _; rw [HR.out, bindR_error hX]
    have HN : Hid (Calls Tryd.prog 56 #[rptr b, .int .i64 999999] Wb fun e w' => e = gaveUp q ∧ Fx (fun k => k = b) w w') := hN.mono fun e w' hg => ⟨(hg.error hX).1, HFX.out _ _ HU.out.fx (hg.error hX).2⟩
    clear hN hX HR HU HS HK HFX
    go_wp2_with (fail)
    refine HN.out.mono ?_
    rintro e w1 ⟨rfl, hf⟩
    have HF : Hid (Fx (fun k => k = b) w w1) := hf
    clear HN hf
    go_wp2
    rw [HE.out]
    exact ⟨rfl, HF.out, rfl⟩
  | ok x =>
  obtain ⟨T, p2⟩ := x
  have hbT := (rN_le hX (by rw [HS.out.2.1]; exact HU.out.rd.hp)).1
  have HN : Hid (Calls Tryd.prog 56 #[rptr b, .int .i64 999999] Wb fun e w' => e = .returned (.int .i64 (T : Int)) ∧ Uw w0 a len cap b (w.heap.size + 1) 26 W1 w' #[.int .i64 (X : Int), .int .i64 0, .slice none 0 0, .slice none 0 0] p2) := hN.mono fun e w' hg => by
    obtain ⟨v, h1, h2, h3, h4⟩ := hg.ok hX
    exact ⟨by rw [h1, h2], HU.out.step HS.out.2.2.1 h4 h3⟩
  have HR2 := (show Hid (R = _) from HR.out.trans (bindR_ok hX))
  have HBT : Hid (T ≤ 999999) := hbT
  clear hN hX HR HU hbT
  have HR := HR2
  clear HR2
  (try dsimp only at HR)
  go_wp2_with (fail)
  refine HN.out.mono ?_
  rintro e Wc ⟨rfl, hU⟩
  have y1 : Wc.cell? ⟨w.heap.size + 1, 1, none⟩ = some (.int .i64 0) := pcell hU.bl rfl
  have g1 : Wc.frozen? ⟨w.heap.size + 1, 1, none⟩ = false := free_blk hU.bl 1
  obtain ⟨Wd, hWd⟩ : ∃ Wq, Wq = Wc.setCell ⟨w.heap.size + 1, 1, none⟩ (.int .i64 (T : Int)) := ⟨_, rfl⟩
  have HU : Hid (Uw w0 a len cap b (w.heap.size + 1) 26 W1 Wd #[.int .i64 (X : Int), .int .i64 (T : Int), .slice none 0 0, .slice none 0 0] p2) := by show Uw w0 a len cap b (w.heap.size + 1) 26 W1 Wd #[.int .i64 (X : Int), .int .i64 (T : Int), .slice none 0 0, .slice none 0 0] p2; rw [hWd]; exact hU.set HS.out.2.2.1 HS.out.2.2.2 1 (.int .i64 (T : Int))
  clear HN hU
  go_upto_region 4 with fail
  rw [← hWd]
  clear hWd y1 g1
  have hN := rnodes HS.out.1 HU.out.rd
  cases hX : rNodes L p2 with
  | error q =>
    have HE : Hid (R = .error q) := by show R = _; rw [HR.out, bindR_error hX]
    have HN : Hid (Calls Tryd.prog 81 #[rptr b] Wd fun e w' => e = gaveUp q ∧ Fx (fun k => k = b) w w') := hN.mono fun e w' hg => ⟨(hg.error hX).1, HFX.out _ _ HU.out.fx (hg.error hX).2⟩
    clear hN hX HR HU HS HK HFX
    go_wp2_with (fail)
    refine HN.out.mono ?_
    rintro e w1 ⟨rfl, hf⟩
    have HF : Hid (Fx (fun k => k = b) w w1) := hf
    clear HN hf
    go_wp2
    rw [HE.out]
    exact ⟨rfl, HF.out, rfl⟩
  | ok x =>
  obtain ⟨ns, p3⟩ := x
  have HN : Hid (Calls Tryd.prog 81 #[rptr b] Wd fun e w' => ∃ v, e = .returned v ∧ OwnN w' (w.heap.size + 2) v ns ∧ ns.length ≤ 5 ∧ Uw w0 a len cap b (w.heap.size + 1) 26 W1 w' #[.int .i64 (X : Int), .int .i64 (T : Int), .slice none 0 0, .slice none 0 0] p3) := hN.mono fun e w' hg => by
    obtain ⟨v, h1, h2, h3, h4⟩ := hg.ok hX
    exact ⟨v, h1, ownN_lower h2.1 (Nat.le_trans HK.out.2.2.2 HU.out.fx.size), h2.2, HU.out.step HS.out.2.2.1 h4 h3⟩
  have HR2 := (show Hid (R = _) from HR.out.trans (bindR_ok hX))
  clear hN hX HR HU
  have HR := HR2
  clear HR2
  (try dsimp only at HR)
  go_wp2_with (fail)
  refine HN.out.mono ?_
  rintro e We ⟨v, rfl, hown, hnl, hU⟩
  obtain ⟨na, nc, hv⟩ := ownN_slice hown
  subst hv
  obtain ⟨nn, hnn⟩ : ∃ nn, ns.length = nn := ⟨_, rfl⟩
  have hnew := ownN_new hown
  rw [hnn]
  have HNN : Hid (NewN We (w.heap.size + 2) na (natI ns) ∧ ns.length = nn ∧ nn ≤ 5) := ⟨hnew, hnn, by omega⟩
  clear hown hnl hnew hnn
  have y2 : We.cell? ⟨w.heap.size + 1, 2, none⟩ = some (.slice none 0 0) := pcell hU.bl rfl
  have g2 : We.frozen? ⟨w.heap.size + 1, 2, none⟩ = false := free_blk hU.bl 2
  obtain ⟨Wf, hWf⟩ : ∃ Wq, Wq = We.setCell ⟨w.heap.size + 1, 2, none⟩ (.slice na nn nc) := ⟨_, rfl⟩
  have HU : Hid (Uw w0 a len cap b (w.heap.size + 1) 26 W1 Wf #[.int .i64 (X : Int), .int .i64 (T : Int), .slice na nn nc, .slice none 0 0] p3) := by show Uw w0 a len cap b (w.heap.size + 1) 26 W1 Wf #[.int .i64 (X : Int), .int .i64 (T : Int), .slice na nn nc, .slice none 0 0] p3; rw [hWf]; exact hU.set HS.out.2.2.1 HS.out.2.2.2 2 (.slice na nn nc)
  have HNf : Hid (NewN Wf (w.heap.size + 2) na (natI ns) ∧ ns.length = nn ∧ nn ≤ 5) := ⟨HNN.out.1.keep (S := fun k => k = w.heap.size + 1) (by rw [hWf]; exact Fx.set (S := fun k => k = w.heap.size + 1) (Fx.refl _ We) rfl 2 _) (fun k hk => by omega), HNN.out.2⟩
  clear HN hU HNN
  go_upto_region 5 with fail
  rw [← hWf]
  clear hWf y2 g2
  have hN := rtext HS.out.1 HU.out.rd 300000 (by omega)
  cases hX : rT L 300000 p3 with
  | error q =>
    have HE : Hid (R = .error q) := by show R = _; rw [HR.out, bindR_error hX]
    have HN : Hid (Calls Tryd.prog 82 #[rptr b, .int .i64 300000] Wf fun e w' => e = gaveUp q ∧ Fx (fun k => k = b) w w') := hN.mono fun e w' hg => ⟨(hg.error hX).1, HFX.out _ _ HU.out.fx (hg.error hX).2⟩
    clear hN hX HR HU HS HK HFX HNf
    go_wp2_with (fail)
    refine HN.out.mono ?_
    rintro e w1 ⟨rfl, hf⟩
    have HF : Hid (Fx (fun k => k = b) w w1) := hf
    clear HN hf
    go_wp2
    rw [HE.out]
    exact ⟨rfl, HF.out, rfl⟩
  | ok x =>
  obtain ⟨st, p4⟩ := x
  have hsl := (rT_le hX (by rw [HS.out.2.1]; exact HU.out.rd.hp)).1
  obtain ⟨sb, hsb⟩ : ∃ sb : ByteArray, sb = ⟨st.toArray⟩ := ⟨_, rfl⟩
  have HN : Hid (Calls Tryd.prog 82 #[rptr b, .int .i64 300000] Wf fun e w' => e = .returned (.string sb) ∧ Uw w0 a len cap b (w.heap.size + 1) 26 W1 w' #[.int .i64 (X : Int), .int .i64 (T : Int), .slice na nn nc, .slice none 0 0] p4 ∧ Fx (fun k => k = b) Wf w') := hN.mono fun e w' hg => by
    obtain ⟨v, h1, h2, h3, h4⟩ := hg.ok hX
    exact ⟨by rw [h1, h2, hsb], HU.out.step HS.out.2.2.1 h4 h3, h4⟩
  have HR2 := (show Hid (R = _) from HR.out.trans (bindR_ok hX))
  have HST : Hid (st.length ≤ 300000 ∧ sb = ⟨st.toArray⟩) := ⟨hsl, hsb⟩
  have HUs : Hid (w.heap.size + 2 ≤ Wf.heap.size) := Nat.le_trans HK.out.2.2.2 HU.out.fx.size
  clear hN hX HR HU hsl hsb
  have HR := HR2
  clear HR2
  (try dsimp only at HR)
  go_wp2_with (fail)
  refine HN.out.mono ?_
  rintro e Wg ⟨rfl, hU, hfg⟩
  have hsz : sb.size = st.length := by rw [HST.out.2]; simp [ByteArray.size]
  obtain ⟨ca, cc, CW, hcv, hcr, hcb, hcn, hcc⟩ := conv_row Wg sb (by have := HST.out.1; omega)
  have hU7 := hU.below HS.out.2.2.1 hcb
  have hgs : w.heap.size + 2 ≤ Wg.heap.size := Nat.le_trans HUs.out hfg.size
  have hnb : NewB CW (w.heap.size + 2) ca cc st := by
    refine ⟨?_, by omega, fun x hx => Nat.le_trans hgs (hcn x hx)⟩
    have : sb.data.toList = st := by rw [HST.out.2]
    rw [this, hsz] at hcr
    exact hcr
  have hnn7 : NewN CW (w.heap.size + 2) na (natI ns) := (HNf.out.1.keep hfg (fun k hk => by have := HK.out.2.2.1; omega)).keep (Fx.of_below (fun k => False) hcb) (fun k hk => hk.elim)
  rw [hsz] at hcv
  obtain ⟨dn, hdn⟩ : ∃ dn, st.length = dn := ⟨_, rfl⟩
  rw [hdn] at hcv
  have y3 : CW.cell? ⟨w.heap.size + 1, 3, none⟩ = some (.slice none 0 0) := pcell hU7.bl rfl
  have g3 : CW.frozen? ⟨w.heap.size + 1, 3, none⟩ = false := free_blk hU7.bl 3
  obtain ⟨Wh, hWh⟩ : ∃ Wq, Wq = CW.setCell ⟨w.heap.size + 1, 3, none⟩ (.slice ca dn cc) := ⟨_, rfl⟩
  have hfh : Fx (fun k => k = w.heap.size + 1) CW Wh := by rw [hWh]; exact Fx.set (S := fun k => k = w.heap.size + 1) (Fx.refl _ CW) rfl 3 _
  have HU : Hid (Uw w0 a len cap b (w.heap.size + 1) 26 W1 Wh #[.int .i64 (X : Int), .int .i64 (T : Int), .slice na nn nc, .slice ca dn cc] p4) := by show Uw w0 a len cap b (w.heap.size + 1) 26 W1 Wh #[.int .i64 (X : Int), .int .i64 (T : Int), .slice na nn nc, .slice ca dn cc] p4; rw [hWh]; exact hU7.set HS.out.2.2.1 HS.out.2.2.2 3 (.slice ca dn cc)
  have HD : Hid (NewN Wh (w.heap.size + 2) na (natI ns) ∧ NewB Wh (w.heap.size + 2) ca cc st ∧ st.length = dn ∧ dn ≤ 300000 ∧ ns.length = nn ∧ nn ≤ 5) := ⟨hnn7.keep hfh (fun k hk => by omega), hnb.keep hfh (fun k hk => by omega), hdn, by have := HST.out.1; omega, HNf.out.2⟩
  clear HN hU hfg hsz hcr hcb hcn hcc hU7 hgs hnb hnn7 hdn hfh HST HUs HNf
  go_upto_region 6 with fail
  rw [← hWh]
  clear hWh y3 g3 hcv
  have hrb : Wh.heap[w.heap.size]? = some (.cells #[.int .i64 0, .int .i64 0, .slice none 0 0, .slice none 0 0] 26 (0, 0)) := (HU.out.fx.block (Array.getElem?_eq_some_iff.1 HK.out.1).1 (by have := HK.out.2.2.1; omega)).trans HK.out.1
  have x0 : Wh.cell? ⟨w.heap.size + 1, 0, none⟩ = some (.int .i64 (X : Int)) := pcell HU.out.bl rfl
  have v0 : Wh.cell? ⟨w.heap.size, 0, none⟩ = some (.int .i64 0) := pcell hrb rfl
  have f0 : Wh.frozen? ⟨w.heap.size, 0, none⟩ = false := free_blk hrb 0
  have x1 : Wh.cell? ⟨w.heap.size + 1, 1, none⟩ = some (.int .i64 (T : Int)) := pcell HU.out.bl rfl
  have v1 : Wh.cell? ⟨w.heap.size, 1, none⟩ = some (.int .i64 0) := pcell hrb rfl
  have f1 : Wh.frozen? ⟨w.heap.size, 1, none⟩ = false := free_blk hrb 1
  have x2 : Wh.cell? ⟨w.heap.size + 1, 2, none⟩ = some (.slice na nn nc) := pcell HU.out.bl rfl
  have v2 : Wh.cell? ⟨w.heap.size, 2, none⟩ = some (.slice none 0 0) := pcell hrb rfl
  have f2 : Wh.frozen? ⟨w.heap.size, 2, none⟩ = false := free_blk hrb 2
  have x3 : Wh.cell? ⟨w.heap.size + 1, 3, none⟩ = some (.slice ca dn cc) := pcell HU.out.bl rfl
  have v3 : Wh.cell? ⟨w.heap.size, 3, none⟩ = some (.slice none 0 0) := pcell hrb rfl
  have f3 : Wh.frozen? ⟨w.heap.size, 3, none⟩ = false := free_blk hrb 3
  have hs4 := set4 (.int .i64 (X : Int)) (.int .i64 (T : Int)) (.slice na nn nc) (.slice ca dn cc) hrb
  have s0 := pcell hs4 (i := 0) (v := .int .i64 (X : Int)) rfl
  have s1 := pcell hs4 (i := 1) (v := .int .i64 (T : Int)) rfl
  have s2 := pcell hs4 (i := 2) (v := .slice na nn nc) rfl
  have s3 := pcell hs4 (i := 3) (v := .slice ca dn cc) rfl
  clear hs4 hrb
  go_wp2_with fail
  refine bodyPost_ret (v := .agg #[.int .i64 (X : Int), .int .i64 (T : Int), .slice na nn nc, .slice ca dn cc]) ?_ rfl ?_
  · simp [results, Tryd.results74, go_sem, s0, s1, s2, s3]
  · rw [HR.out]
    obtain ⟨W7, hW7⟩ : ∃ W7, W7 = ((((Wh.setCell ⟨w.heap.size, 0, none⟩ (.int .i64 (X : Int))).setCell ⟨w.heap.size, 1, none⟩ (.int .i64 (T : Int))).setCell ⟨w.heap.size, 2, none⟩ (.slice na nn nc)).setCell ⟨w.heap.size, 3, none⟩ (.slice ca dn cc)) := ⟨_, rfl⟩
    have hf : Fx (fun k => k = w.heap.size) Wh W7 := by
      rw [hW7]
      exact Fx.set (S := fun k => k = w.heap.size) (Fx.set (S := fun k => k = w.heap.size) (Fx.set (S := fun k => k = w.heap.size) (Fx.set (S := fun k => k = w.heap.size) (Fx.refl _ Wh) rfl _ _) rfl _ _) rfl _ _) rfl _ _
    have hfw : Fx (fun k => k = b) w W7 := by
      rw [hW7]
      exact ((((HFX.out _ _ HU.out.fx (Fx.refl _ _)).set_new (Nat.le_refl _) _ _).set_new (Nat.le_refl _) _ _).set_new (Nat.le_refl _) _ _).set_new (Nat.le_refl _) _ _
    rw [← hW7]
    have hbw := HK.out.2.2.1
    have hge := HU.out.rd.ge
    have hD := HD.out
    refine ⟨hfw, _, rfl, ⟨na, nc, ca, cc, ?_, (hD.1.keep hf (fun k hk => by omega)).lower (by omega), (hD.2.1.keep hf (fun k hk => by omega)).lower (by omega), by show ns.length ≤ 5; omega, by show st.length ≤ 300000; omega, HBX.out, HBT.out⟩, HU.out.rd.keep hf (fun k hk => by have := HS.out.2.2.2; omega) (by omega)⟩
    show _ = Value.agg #[.int .i64 (X : Int), .int .i64 (T : Int), .slice na ns.length nc, .slice ca st.length cc]
    rw [hD.2.2.1, hD.2.2.2.2.1]
end Go.Proofs.YtmlihlnigojmpaaDoor
