/- Reading a letter: walked. -/
import Derived.Test.YtmlihlnigojmpaaDoorWRd6
import Derived.Test.YtmlihlnigojmpaaDoorWRt6
set_option linter.unusedVariables false
namespace Go.Proofs.YtmlihlnigojmpaaDoor
open Go.RowKit

def decL (L : List UInt8) : Except Nat Lt :=
  bindR (rN L 5 0) fun k p1 => bindR (rN L 5 p1) fun f p2 => bindR (rN L 5 p2) fun t p3 => bindR (rN L 999999 p3) fun tm p4 => bindR (rKind L k f t tm p4) fun M p5 => if p5 < L.length then .error p5 else if rightB M = true then .ok M else .error 0

theorem EntK.at {w : World} {K g p : Nat} {x : EnP} (h : EntK w K x.e x.da x.dc x.na) (hc : ∀ q v, x.cells[q]? = some v → w.cell? ⟨g, p + q, none⟩ = some v) : EnAt w g p x.e x.da x.dc x.na x.nc :=
  { c0 := hc 0 _ rfl, c1 := hc 1 _ rfl, c2 := hc 2 _ rfl, c3 := hc 3 _ rfl, c4 := hc 4 _ rfl, row := h.da.1, nod := h.na.1, dl := by have := h.dl; omega, nl := by have := h.nl; omega, ri := by have := h.ri; omega, rt := by have := h.rt; omega, rk := by have := h.rk; omega }
theorem OwnE.row {w : World} {B : Nat} {a : Option Addr} {n c : Nat} {xs : List EnP} (h : OwnE w B (.slice a n c) xs) : EnRow w a (xs.map EnP.e) := by
  intro j e he
  rw [List.getElem?_map] at he
  obtain ⟨x, hx, rfl⟩ := Option.map_eq_some_iff.1 he
  have hjl : j < xs.length := (List.getElem?_eq_some_iff.1 hx).1
  have hek := h.2 x (List.mem_of_getElem? hx)
  rcases h.1.2 with ⟨_, h0⟩ | ⟨g, cap, cur, hv, hB, hg, _⟩
  · omega
  · have e1 : a = some ⟨g, 0, none⟩ := by injection hv
    subst e1
    refine ⟨g, 0, x.da, x.dc, x.na, x.nc, rfl, hek.at (fun q v hq => ?_)⟩
    have hq5 : q < 5 := (List.getElem?_eq_some_iff.1 hq).1
    have hc := h.1.cells (g := g) (by rw [hv]; rfl) (j * 5 + q) v (by rw [flatE_get xs j x q hx hq5]; exact hq)
    rw [show ((⟨g, 0, none⟩ : Addr).add (j * 5 + q)) = ⟨g, 0 + j * 5 + q, none⟩ from by unfold Addr.add; split <;> simp_all] at hc
    exact hc
theorem LtK.ltw {w : World} {K : Nat} {M : Lt} {A : LtA} (h : LtK w K M A) : LtW w M A := by
  obtain ⟨xs, h1, h2, h3⟩ := h.es
  have hr : ∀ z ∈ [M.k, M.f, M.t, M.tm, M.i, M.lt, M.cm, M.rd, M.sx, M.st], i64B z := fun z hz => by
    have := h.rg z hz
    unfold i64B
    omega
  have hel : M.es.length ≤ 4 := by rw [← h1, List.length_map]; exact h3
  have hnl := h.nl
  have hdl := h.dl
  exact { es := h1 ▸ h2.row, ns := h.ns.1, da := h.da.1, el := by omega, nl := by omega, dl := by omega, dcl := h.da.2.1, rk := hr _ (by simp), rf := hr _ (by simp), rt := hr _ (by simp), rtm := hr _ (by simp), ri := hr _ (by simp), rlt := hr _ (by simp), rcm := hr _ (by simp), rrd := hr _ (by simp), rsx := hr _ (by simp), rst := hr _ (by simp) }

/-- What readLetter leaves. -/
def LetQ (w : World) (X : Except Nat Lt) (e : Ending) (w' : World) : Prop :=
  Below w.heap.size w w' ∧ match X with
    | .error q => e = gaveUp q
    | .ok M => ∃ A, e = .returned (ltV M A) ∧ LtK w' w.heap.size M A

set_option maxHeartbeats 16000000 in
set_option maxRecDepth 40000 in
theorem rletter {a : Option Addr} {len cap : Nat} {L : List UInt8} {w : World} (hs : Src w a len cap L) :
    Calls Tryd.prog 38 #[.slice a len cap] w (LetQ w (decL L)) := by
  obtain ⟨R, hR⟩ : ∃ R, decL L = R := ⟨_, rfl⟩
  rw [hR]
  have HR : Hid (R = _) := hR.symm
  unfold decL at HR
  obtain ⟨wa, hwa⟩ : ∃ wa, wa = w.alloc (.cells #[.int .i64 0, .int .i64 0, .int .i64 0, .int .i64 0, .int .i64 0, .int .i64 0, .int .i64 0, .int .i64 0, .bool false, .slice none 0 0, .int .i64 0, .int .i64 0, .slice none 0 0, .slice none 0 0] 28) := ⟨_, rfl⟩
  have hwas : wa.heap.size = w.heap.size + 1 := by rw [hwa]; simp
  obtain ⟨W1, hW1⟩ : ∃ W1, W1 = (wa.alloc (.cells #[.slice a len cap, .int .i64 0] 106)).alloc (.cells #[.int .i64 0, .int .i64 0, .int .i64 0, .int .i64 0, .int .i64 0, .int .i64 0, .int .i64 0, .int .i64 0, .bool false, .slice none 0 0, .int .i64 0, .int .i64 0, .slice none 0 0, .slice none 0 0] 28) := ⟨_, rfl⟩
  have hb1 : Below w.heap.size w W1 := by
    rw [hW1, hwa]
    exact (((Below.refl _ w).alloc (Nat.le_refl _) _).alloc (by simp) _).alloc (by simp; omega) _
  have hk0 : W1.heap[w.heap.size]? = some (.cells #[.int .i64 0, .int .i64 0, .int .i64 0, .int .i64 0, .int .i64 0, .int .i64 0, .int .i64 0, .int .i64 0, .bool false, .slice none 0 0, .int .i64 0, .int .i64 0, .slice none 0 0, .slice none 0 0] 28 (0, 0)) := by
    have h1 : wa.heap[w.heap.size]? = some (.cells #[.int .i64 0, .int .i64 0, .int .i64 0, .int .i64 0, .int .i64 0, .int .i64 0, .int .i64 0, .int .i64 0, .bool false, .slice none 0 0, .int .i64 0, .int .i64 0, .slice none 0 0, .slice none 0 0] 28 (0, 0)) := by rw [hwa]; exact heap_alloc_new _ _
    rw [hW1]
    exact blk_below h1 (((Below.refl _ wa).alloc (Nat.le_refl _) _).alloc (by simp) _)
  have hk1 : W1.heap[w.heap.size + 1]? = some (.cells #[.slice a len cap, .int .i64 0] 106 (0, 0)) := by
    have h1 := heap_alloc_new wa (.cells #[.slice a len cap, .int .i64 0] 106)
    rw [hwas] at h1
    rw [hW1]
    exact blk_below h1 ((Below.refl _ _).alloc (Nat.le_refl _) _)
  have hk2 : W1.heap[w.heap.size + 2]? = some (.cells #[.int .i64 0, .int .i64 0, .int .i64 0, .int .i64 0, .int .i64 0, .int .i64 0, .int .i64 0, .int .i64 0, .bool false, .slice none 0 0, .int .i64 0, .int .i64 0, .slice none 0 0, .slice none 0 0] 28 (0, 0)) := by
    have h1 := heap_alloc_new (wa.alloc (.cells #[.slice a len cap, .int .i64 0] 106)) (.cells #[.int .i64 0, .int .i64 0, .int .i64 0, .int .i64 0, .int .i64 0, .int .i64 0, .int .i64 0, .int .i64 0, .bool false, .slice none 0 0, .int .i64 0, .int .i64 0, .slice none 0 0, .slice none 0 0] 28)
    rw [show (wa.alloc (.cells #[.slice a len cap, .int .i64 0] 106)).heap.size = w.heap.size + 2 by simp [hwas]] at h1
    rw [hW1]
    exact h1
  have HU : Hid (Uw w a len cap (w.heap.size + 1) (w.heap.size + 2) 28 W1 W1 #[.int .i64 0, .int .i64 0, .int .i64 0, .int .i64 0, .int .i64 0, .int .i64 0, .int .i64 0, .int .i64 0, .bool false, .slice none 0 0, .int .i64 0, .int .i64 0, .slice none 0 0, .slice none 0 0] 0) := ⟨⟨hb1, by omega, hk1, Nat.zero_le _⟩, Fx.refl _ _, hk2⟩
  have HS : Hid (Src w a len cap L ∧ L.length = len ∧ w.heap.size + 2 ≠ w.heap.size + 1 ∧ w.heap.size ≤ w.heap.size + 2) := ⟨hs, hs.row.1, by omega, by omega⟩
  have HK : Hid (W1.heap[w.heap.size]? = some (.cells #[.int .i64 0, .int .i64 0, .int .i64 0, .int .i64 0, .int .i64 0, .int .i64 0, .int .i64 0, .int .i64 0, .bool false, .slice none 0 0, .int .i64 0, .int .i64 0, .slice none 0 0, .slice none 0 0] 28 (0, 0)) ∧ Below w.heap.size w W1 ∧ w.heap.size + 3 ≤ W1.heap.size) := ⟨hk0, hb1, (Array.getElem?_eq_some_iff.1 hk2).1⟩
  have HFX : Hid (∀ u u', Fx (fun k => k = w.heap.size + 1 ∨ k = w.heap.size + 2) W1 u → Fx (fun k => k = w.heap.size + 1) u u' → Below w.heap.size w u') := fun u u' hu hu' => (hb1.trans (hu.below hb1.size (fun k hk => by rcases hk with hk | hk <;> omega))).trans (hu'.below (Nat.le_trans hb1.size hu.size) (fun k hk => by omega))
  have hN1 := rnew_any a len cap wa
  clear hR hs hb1 hk0 hk1 hk2
  go_enter Tryd.func38, Tryd.ntmps38
  go_upto_region 1 with fail
  rw [← hwa]
  clear hwa
  go_wp2_with (fail)
  refine hN1.mono ?_
  rintro e wb ⟨rfl, hwb⟩
  subst hwb
  rw [hwas]
  clear hN1
  go_upto_region 3 with fail
  rw [show w.heap.size + 1 + 1 = w.heap.size + 2 from rfl]
  rw [← hW1]
  clear hW1 hwas
  have hN := rnum HS.out.1 HU.out.rd 5 (by omega)
  cases hX : rN L 5 0 with
  | error q =>
    have HE : Hid (R = .error q) := by show R = _; rw [HR.out, bindR_error hX]
    have HN : Hid (Calls Tryd.prog 56 #[rptr (w.heap.size + 1), .int .i64 5] W1 fun e w' => e = gaveUp q ∧ Below w.heap.size w w') := hN.mono fun e w' hg => ⟨(hg.error hX).1, HFX.out _ _ HU.out.fx (hg.error hX).2⟩
    clear hN hX HR HU HS HK HFX
    go_wp2_with (fail)
    refine HN.out.mono ?_
    rintro e w1 ⟨rfl, hf⟩
    have HF : Hid (Below w.heap.size w w1) := hf
    clear HN hf
    go_wp2
    rw [HE.out]
    exact ⟨rfl, HF.out, rfl⟩
  | ok x =>
  obtain ⟨k, p1⟩ := x
  have hbk := (rN_le hX (by rw [HS.out.2.1]; exact HU.out.rd.hp)).1
  have HN : Hid (Calls Tryd.prog 56 #[rptr (w.heap.size + 1), .int .i64 5] W1 fun e w' => e = .returned (.int .i64 (k : Int)) ∧ Uw w a len cap (w.heap.size + 1) (w.heap.size + 2) 28 W1 w' #[.int .i64 0, .int .i64 0, .int .i64 0, .int .i64 0, .int .i64 0, .int .i64 0, .int .i64 0, .int .i64 0, .bool false, .slice none 0 0, .int .i64 0, .int .i64 0, .slice none 0 0, .slice none 0 0] p1) := hN.mono fun e w' hg => by
    obtain ⟨v, h1, h2, h3, h4⟩ := hg.ok hX
    exact ⟨by rw [h1, h2], HU.out.step HS.out.2.2.1 h4 h3⟩
  have HR2 := (show Hid (R = _) from HR.out.trans (bindR_ok hX))
  have HBk : Hid (k ≤ 5) := hbk
  clear hN hX HR HU hbk
  have HR := HR2
  clear HR2
  (try dsimp only at HR)
  go_wp2_with (fail)
  refine HN.out.mono ?_
  rintro e Wa ⟨rfl, hU⟩
  have y0 : Wa.cell? ⟨w.heap.size + 2, 0, none⟩ = some (.int .i64 0) := pcell hU.bl rfl
  have g0 : Wa.frozen? ⟨w.heap.size + 2, 0, none⟩ = false := free_blk hU.bl 0
  obtain ⟨Wb, hWb⟩ : ∃ Wq, Wq = Wa.setCell ⟨w.heap.size + 2, 0, none⟩ (.int .i64 (k : Int)) := ⟨_, rfl⟩
  have HU : Hid (Uw w a len cap (w.heap.size + 1) (w.heap.size + 2) 28 W1 Wb #[.int .i64 (k : Int), .int .i64 0, .int .i64 0, .int .i64 0, .int .i64 0, .int .i64 0, .int .i64 0, .int .i64 0, .bool false, .slice none 0 0, .int .i64 0, .int .i64 0, .slice none 0 0, .slice none 0 0] p1) := by show Uw w a len cap (w.heap.size + 1) (w.heap.size + 2) 28 W1 Wb #[.int .i64 (k : Int), .int .i64 0, .int .i64 0, .int .i64 0, .int .i64 0, .int .i64 0, .int .i64 0, .int .i64 0, .bool false, .slice none 0 0, .int .i64 0, .int .i64 0, .slice none 0 0, .slice none 0 0] p1; rw [hWb]; exact hU.set HS.out.2.2.1 HS.out.2.2.2 0 (.int .i64 (k : Int))
  clear HN hU
  go_upto_region 4 with fail
  rw [← hWb]
  clear hWb y0 g0
  have hN := rnum HS.out.1 HU.out.rd 5 (by omega)
  cases hX : rN L 5 p1 with
  | error q =>
    have HE : Hid (R = .error q) := by show R = _; rw [HR.out, bindR_error hX]
    have HN : Hid (Calls Tryd.prog 56 #[rptr (w.heap.size + 1), .int .i64 5] Wb fun e w' => e = gaveUp q ∧ Below w.heap.size w w') := hN.mono fun e w' hg => ⟨(hg.error hX).1, HFX.out _ _ HU.out.fx (hg.error hX).2⟩
    clear hN hX HR HU HS HK HFX HBk
    go_wp2_with (fail)
    refine HN.out.mono ?_
    rintro e w1 ⟨rfl, hf⟩
    have HF : Hid (Below w.heap.size w w1) := hf
    clear HN hf
    go_wp2
    rw [HE.out]
    exact ⟨rfl, HF.out, rfl⟩
  | ok x =>
  obtain ⟨f, p2⟩ := x
  have hbf := (rN_le hX (by rw [HS.out.2.1]; exact HU.out.rd.hp)).1
  have HN : Hid (Calls Tryd.prog 56 #[rptr (w.heap.size + 1), .int .i64 5] Wb fun e w' => e = .returned (.int .i64 (f : Int)) ∧ Uw w a len cap (w.heap.size + 1) (w.heap.size + 2) 28 W1 w' #[.int .i64 (k : Int), .int .i64 0, .int .i64 0, .int .i64 0, .int .i64 0, .int .i64 0, .int .i64 0, .int .i64 0, .bool false, .slice none 0 0, .int .i64 0, .int .i64 0, .slice none 0 0, .slice none 0 0] p2) := hN.mono fun e w' hg => by
    obtain ⟨v, h1, h2, h3, h4⟩ := hg.ok hX
    exact ⟨by rw [h1, h2], HU.out.step HS.out.2.2.1 h4 h3⟩
  have HR2 := (show Hid (R = _) from HR.out.trans (bindR_ok hX))
  have HBf : Hid (f ≤ 5) := hbf
  clear hN hX HR HU hbf
  have HR := HR2
  clear HR2
  (try dsimp only at HR)
  go_wp2_with (fail)
  refine HN.out.mono ?_
  rintro e Wc ⟨rfl, hU⟩
  have y1 : Wc.cell? ⟨w.heap.size + 2, 1, none⟩ = some (.int .i64 0) := pcell hU.bl rfl
  have g1 : Wc.frozen? ⟨w.heap.size + 2, 1, none⟩ = false := free_blk hU.bl 1
  obtain ⟨Wd, hWd⟩ : ∃ Wq, Wq = Wc.setCell ⟨w.heap.size + 2, 1, none⟩ (.int .i64 (f : Int)) := ⟨_, rfl⟩
  have HU : Hid (Uw w a len cap (w.heap.size + 1) (w.heap.size + 2) 28 W1 Wd #[.int .i64 (k : Int), .int .i64 (f : Int), .int .i64 0, .int .i64 0, .int .i64 0, .int .i64 0, .int .i64 0, .int .i64 0, .bool false, .slice none 0 0, .int .i64 0, .int .i64 0, .slice none 0 0, .slice none 0 0] p2) := by show Uw w a len cap (w.heap.size + 1) (w.heap.size + 2) 28 W1 Wd #[.int .i64 (k : Int), .int .i64 (f : Int), .int .i64 0, .int .i64 0, .int .i64 0, .int .i64 0, .int .i64 0, .int .i64 0, .bool false, .slice none 0 0, .int .i64 0, .int .i64 0, .slice none 0 0, .slice none 0 0] p2; rw [hWd]; exact hU.set HS.out.2.2.1 HS.out.2.2.2 1 (.int .i64 (f : Int))
  clear HN hU
  go_upto_region 5 with fail
  rw [← hWd]
  clear hWd y1 g1
  have hN := rnum HS.out.1 HU.out.rd 5 (by omega)
  cases hX : rN L 5 p2 with
  | error q =>
    have HE : Hid (R = .error q) := by show R = _; rw [HR.out, bindR_error hX]
    have HN : Hid (Calls Tryd.prog 56 #[rptr (w.heap.size + 1), .int .i64 5] Wd fun e w' => e = gaveUp q ∧ Below w.heap.size w w') := hN.mono fun e w' hg => ⟨(hg.error hX).1, HFX.out _ _ HU.out.fx (hg.error hX).2⟩
    clear hN hX HR HU HS HK HFX HBk HBf
    go_wp2_with (fail)
    refine HN.out.mono ?_
    rintro e w1 ⟨rfl, hf⟩
    have HF : Hid (Below w.heap.size w w1) := hf
    clear HN hf
    go_wp2
    rw [HE.out]
    exact ⟨rfl, HF.out, rfl⟩
  | ok x =>
  obtain ⟨t, p3⟩ := x
  have hbt := (rN_le hX (by rw [HS.out.2.1]; exact HU.out.rd.hp)).1
  have HN : Hid (Calls Tryd.prog 56 #[rptr (w.heap.size + 1), .int .i64 5] Wd fun e w' => e = .returned (.int .i64 (t : Int)) ∧ Uw w a len cap (w.heap.size + 1) (w.heap.size + 2) 28 W1 w' #[.int .i64 (k : Int), .int .i64 (f : Int), .int .i64 0, .int .i64 0, .int .i64 0, .int .i64 0, .int .i64 0, .int .i64 0, .bool false, .slice none 0 0, .int .i64 0, .int .i64 0, .slice none 0 0, .slice none 0 0] p3) := hN.mono fun e w' hg => by
    obtain ⟨v, h1, h2, h3, h4⟩ := hg.ok hX
    exact ⟨by rw [h1, h2], HU.out.step HS.out.2.2.1 h4 h3⟩
  have HR2 := (show Hid (R = _) from HR.out.trans (bindR_ok hX))
  have HBt : Hid (t ≤ 5) := hbt
  clear hN hX HR HU hbt
  have HR := HR2
  clear HR2
  (try dsimp only at HR)
  go_wp2_with (fail)
  refine HN.out.mono ?_
  rintro e We ⟨rfl, hU⟩
  have y2 : We.cell? ⟨w.heap.size + 2, 2, none⟩ = some (.int .i64 0) := pcell hU.bl rfl
  have g2 : We.frozen? ⟨w.heap.size + 2, 2, none⟩ = false := free_blk hU.bl 2
  obtain ⟨Wf, hWf⟩ : ∃ Wq, Wq = We.setCell ⟨w.heap.size + 2, 2, none⟩ (.int .i64 (t : Int)) := ⟨_, rfl⟩
  have HU : Hid (Uw w a len cap (w.heap.size + 1) (w.heap.size + 2) 28 W1 Wf #[.int .i64 (k : Int), .int .i64 (f : Int), .int .i64 (t : Int), .int .i64 0, .int .i64 0, .int .i64 0, .int .i64 0, .int .i64 0, .bool false, .slice none 0 0, .int .i64 0, .int .i64 0, .slice none 0 0, .slice none 0 0] p3) := by show Uw w a len cap (w.heap.size + 1) (w.heap.size + 2) 28 W1 Wf #[.int .i64 (k : Int), .int .i64 (f : Int), .int .i64 (t : Int), .int .i64 0, .int .i64 0, .int .i64 0, .int .i64 0, .int .i64 0, .bool false, .slice none 0 0, .int .i64 0, .int .i64 0, .slice none 0 0, .slice none 0 0] p3; rw [hWf]; exact hU.set HS.out.2.2.1 HS.out.2.2.2 2 (.int .i64 (t : Int))
  clear HN hU
  go_upto_region 6 with fail
  rw [← hWf]
  clear hWf y2 g2
  have hN := rnum HS.out.1 HU.out.rd 999999 (by omega)
  cases hX : rN L 999999 p3 with
  | error q =>
    have HE : Hid (R = .error q) := by show R = _; rw [HR.out, bindR_error hX]
    have HN : Hid (Calls Tryd.prog 56 #[rptr (w.heap.size + 1), .int .i64 999999] Wf fun e w' => e = gaveUp q ∧ Below w.heap.size w w') := hN.mono fun e w' hg => ⟨(hg.error hX).1, HFX.out _ _ HU.out.fx (hg.error hX).2⟩
    clear hN hX HR HU HS HK HFX HBk HBf HBt
    go_wp2_with (fail)
    refine HN.out.mono ?_
    rintro e w1 ⟨rfl, hf⟩
    have HF : Hid (Below w.heap.size w w1) := hf
    clear HN hf
    go_wp2
    rw [HE.out]
    exact ⟨rfl, HF.out, rfl⟩
  | ok x =>
  obtain ⟨tm, p4⟩ := x
  have hbtm := (rN_le hX (by rw [HS.out.2.1]; exact HU.out.rd.hp)).1
  have HN : Hid (Calls Tryd.prog 56 #[rptr (w.heap.size + 1), .int .i64 999999] Wf fun e w' => e = .returned (.int .i64 (tm : Int)) ∧ Uw w a len cap (w.heap.size + 1) (w.heap.size + 2) 28 W1 w' #[.int .i64 (k : Int), .int .i64 (f : Int), .int .i64 (t : Int), .int .i64 0, .int .i64 0, .int .i64 0, .int .i64 0, .int .i64 0, .bool false, .slice none 0 0, .int .i64 0, .int .i64 0, .slice none 0 0, .slice none 0 0] p4) := hN.mono fun e w' hg => by
    obtain ⟨v, h1, h2, h3, h4⟩ := hg.ok hX
    exact ⟨by rw [h1, h2], HU.out.step HS.out.2.2.1 h4 h3⟩
  have HR2 := (show Hid (R = _) from HR.out.trans (bindR_ok hX))
  have HBtm : Hid (tm ≤ 999999) := hbtm
  clear hN hX HR HU hbtm
  have HR := HR2
  clear HR2
  (try dsimp only at HR)
  go_wp2_with (fail)
  refine HN.out.mono ?_
  rintro e Wg ⟨rfl, hU⟩
  have y3 : Wg.cell? ⟨w.heap.size + 2, 3, none⟩ = some (.int .i64 0) := pcell hU.bl rfl
  have g3 : Wg.frozen? ⟨w.heap.size + 2, 3, none⟩ = false := free_blk hU.bl 3
  obtain ⟨Wh, hWh⟩ : ∃ Wq, Wq = Wg.setCell ⟨w.heap.size + 2, 3, none⟩ (.int .i64 (tm : Int)) := ⟨_, rfl⟩
  have HU : Hid (Uw w a len cap (w.heap.size + 1) (w.heap.size + 2) 28 W1 Wh #[.int .i64 (k : Int), .int .i64 (f : Int), .int .i64 (t : Int), .int .i64 (tm : Int), .int .i64 0, .int .i64 0, .int .i64 0, .int .i64 0, .bool false, .slice none 0 0, .int .i64 0, .int .i64 0, .slice none 0 0, .slice none 0 0] p4) := by show Uw w a len cap (w.heap.size + 1) (w.heap.size + 2) 28 W1 Wh #[.int .i64 (k : Int), .int .i64 (f : Int), .int .i64 (t : Int), .int .i64 (tm : Int), .int .i64 0, .int .i64 0, .int .i64 0, .int .i64 0, .bool false, .slice none 0 0, .int .i64 0, .int .i64 0, .slice none 0 0, .slice none 0 0] p4; rw [hWh]; exact hU.set HS.out.2.2.1 HS.out.2.2.2 3 (.int .i64 (tm : Int))
  clear HN hU
  go_upto_region 7 with fail
  rw [← hWh]
  clear hWh y3 g3
  have hN := rkind HS.out.1 HU.out.rd HS.out.2.2.1 HS.out.2.2.2 HU.out.bl HBk.out HBf.out HBt.out HBtm.out
  have hus := HU.out.fx.size
  cases hX : rKind L k f t tm p4 with
  | error q =>
    have HE : Hid (R = .error q) := by show R = _; rw [HR.out, bindR_error hX]
    have HN : Hid (Calls Tryd.prog 57 #[rptr (w.heap.size + 1), rptr (w.heap.size + 2)] Wh fun e w' => e = gaveUp q ∧ Below w.heap.size w w') := hN.mono fun e w' hg => by
      obtain ⟨h1, h2⟩ := hg
      rw [hX] at h2
      exact ⟨h2, (HK.out.2.1.trans (HU.out.fx.below HK.out.2.1.size (fun k hk => by rcases hk with hk | hk <;> omega))).trans (h1.below (by have := HK.out.2.2; omega) (fun k hk => by rcases hk with hk | hk <;> omega))⟩
    clear hN hX HR HU HS HK HFX HBk HBf HBt HBtm hus
    go_wp2_with (fail)
    refine HN.out.mono ?_
    rintro e w1 ⟨rfl, hf⟩
    have HF : Hid (Below w.heap.size w w1) := hf
    clear HN hf
    go_wp2
    rw [HE.out]
    exact ⟨rfl, HF.out, rfl⟩
  | ok x =>
  obtain ⟨M, p5⟩ := x
  have HN : Hid (Calls Tryd.prog 57 #[rptr (w.heap.size + 1), rptr (w.heap.size + 2)] Wh fun e w' => e = .returned (.tuple #[]) ∧ ∃ A, w'.heap[w.heap.size + 2]? = some (.cells (ltC M A) 28 (0, 0)) ∧ LtK w' (w.heap.size + 3) M A ∧ RdS w a len cap (w.heap.size + 1) w' p5 ∧ w'.heap[w.heap.size]? = some (.cells #[.int .i64 0, .int .i64 0, .int .i64 0, .int .i64 0, .int .i64 0, .int .i64 0, .int .i64 0, .int .i64 0, .bool false, .slice none 0 0, .int .i64 0, .int .i64 0, .slice none 0 0, .slice none 0 0] 28 (0, 0)) ∧ w.heap.size + 3 ≤ w'.heap.size) := hN.mono fun e w' hg => by
    obtain ⟨h1, h2⟩ := hg
    rw [hX] at h2
    obtain ⟨h3, A, h4, h5, h6⟩ := h2
    have hz : Wh.heap[w.heap.size]? = some (.cells #[.int .i64 0, .int .i64 0, .int .i64 0, .int .i64 0, .int .i64 0, .int .i64 0, .int .i64 0, .int .i64 0, .bool false, .slice none 0 0, .int .i64 0, .int .i64 0, .slice none 0 0, .slice none 0 0] 28 (0, 0)) := (HU.out.fx.block (by have := HK.out.2.2; omega) (by omega)).trans HK.out.1
    exact ⟨h3, A, h4, h5.lower (by have := HK.out.2.2; omega), h6, (h1.block (Array.getElem?_eq_some_iff.1 hz).1 (by omega)).trans hz, by have := HK.out.2.2; have := h1.size; omega⟩
  have HR2 := (show Hid (R = _) from HR.out.trans (bindR_ok hX))
  clear hN hX HR HU HK HFX HBk HBf HBt HBtm hus
  have HR := HR2
  clear HR2
  (try dsimp only at HR)
  go_wp2_with (fail)
  refine HN.out.mono ?_
  rintro e Wi ⟨rfl, A, hbl, hlk, hrd, hzb, hsz⟩
  have hE := rend_any Wi (w.heap.size + 1) a len cap p5 hrd.rd hrd.hp HS.out.1.hm
  have HV : Hid (Wi.heap[w.heap.size + 2]? = some (.cells (ltC M A) 28 (0, 0)) ∧ LtK Wi (w.heap.size + 3) M A ∧ RdS w a len cap (w.heap.size + 1) Wi p5 ∧ Wi.heap[w.heap.size]? = some (.cells #[.int .i64 0, .int .i64 0, .int .i64 0, .int .i64 0, .int .i64 0, .int .i64 0, .int .i64 0, .int .i64 0, .bool false, .slice none 0 0, .int .i64 0, .int .i64 0, .slice none 0 0, .slice none 0 0] 28 (0, 0)) ∧ w.heap.size + 3 ≤ Wi.heap.size) := ⟨hbl, hlk, hrd, hzb, hsz⟩
  clear HN hbl hlk hrd hzb hsz
  by_cases hlt : p5 < len
  · have HE : Hid (R = .error p5) := by show R = _; rw [HR.out, if_pos (by rw [HS.out.2.1]; exact hlt)]
    simp only [if_pos hlt] at hE
    have HEn : Hid (Calls Tryd.prog 58 #[rptr (w.heap.size + 1)] Wi fun e w' => e = gaveUp p5 ∧ Below w.heap.size w w') := hE.mono fun e w' hg => ⟨hg.2.2, HV.out.2.2.1.below.trans (hg.1.below (by omega))⟩
    clear hE HR HV HS
    go_wp2_with (fail)
    refine HEn.out.mono ?_
    rintro e w1 ⟨rfl, hf⟩
    have HF : Hid (Below w.heap.size w w1) := hf
    clear HEn hf
    go_wp2
    rw [HE.out]
    exact ⟨rfl, HF.out, rfl⟩
  simp only [if_neg hlt] at hE
  have HEn : Hid (Calls Tryd.prog 58 #[rptr (w.heap.size + 1)] Wi fun e w' => e = .returned (.tuple #[]) ∧ w'.heap[w.heap.size + 2]? = some (.cells (ltC M A) 28 (0, 0)) ∧ LtK w' (w.heap.size + 3) M A ∧ w'.heap[w.heap.size]? = some (.cells #[.int .i64 0, .int .i64 0, .int .i64 0, .int .i64 0, .int .i64 0, .int .i64 0, .int .i64 0, .int .i64 0, .bool false, .slice none 0 0, .int .i64 0, .int .i64 0, .slice none 0 0, .slice none 0 0] 28 (0, 0)) ∧ w.heap.size + 3 ≤ w'.heap.size ∧ Below w.heap.size w w') := hE.mono fun e w' hg => by
    have hf := Fx.of_oth hg.1
    exact ⟨hg.2.2, (hf.block (Array.getElem?_eq_some_iff.1 HV.out.1).1 (by omega)).trans HV.out.1, HV.out.2.1.keep hf (fun k hk => by omega), (hf.block (Array.getElem?_eq_some_iff.1 HV.out.2.2.2.1).1 (by omega)).trans HV.out.2.2.2.1, Nat.le_trans HV.out.2.2.2.2 hf.size, HV.out.2.2.1.below.trans (hg.1.below (by omega))⟩
  have HR2 : Hid (R = if rightB M = true then .ok M else .error 0) := by show R = _; rw [HR.out, if_neg (by rw [HS.out.2.1]; exact hlt)]
  clear hE HR HV HS hlt
  go_wp2_with (fail)
  refine HEn.out.mono ?_
  rintro e Wj ⟨rfl, hbl, hlk, hzb, hsz, hbw⟩
  have hRt := right_any M A hlk.ltw
  have HV : Hid (Wj.heap[w.heap.size + 2]? = some (.cells (ltC M A) 28 (0, 0)) ∧ LtK Wj (w.heap.size + 3) M A ∧ Wj.heap[w.heap.size]? = some (.cells #[.int .i64 0, .int .i64 0, .int .i64 0, .int .i64 0, .int .i64 0, .int .i64 0, .int .i64 0, .int .i64 0, .bool false, .slice none 0 0, .int .i64 0, .int .i64 0, .slice none 0 0, .slice none 0 0] 28 (0, 0)) ∧ w.heap.size + 3 ≤ Wj.heap.size ∧ Below w.heap.size w Wj) := ⟨hbl, hlk, hzb, hsz, hbw⟩
  obtain ⟨Bo, hBo⟩ : ∃ B, rightB M = B := ⟨_, rfl⟩
  rw [hBo] at hRt HR2
  have HRt : Hid (Calls Tryd.prog 12 #[.agg #[.int .i64 M.k, .int .i64 M.f, .int .i64 M.t, .int .i64 M.tm, .int .i64 M.i, .int .i64 M.lt, .int .i64 M.cm, .int .i64 M.rd, .bool M.ok, .slice A.ea M.es.length A.ec, .int .i64 M.sx, .int .i64 M.st, .slice A.na M.ns.length A.nc, .slice A.da M.da.length A.dc]] Wj fun e w' => e = .returned (.bool Bo) ∧ Below Wj.heap.size Wj w') := hRt
  have x0 : Wj.cell? ⟨w.heap.size + 2, 0, none⟩ = some (.int .i64 M.k) := pcell hbl rfl
  have x1 : Wj.cell? ⟨w.heap.size + 2, 1, none⟩ = some (.int .i64 M.f) := pcell hbl rfl
  have x2 : Wj.cell? ⟨w.heap.size + 2, 2, none⟩ = some (.int .i64 M.t) := pcell hbl rfl
  have x3 : Wj.cell? ⟨w.heap.size + 2, 3, none⟩ = some (.int .i64 M.tm) := pcell hbl rfl
  have x4 : Wj.cell? ⟨w.heap.size + 2, 4, none⟩ = some (.int .i64 M.i) := pcell hbl rfl
  have x5 : Wj.cell? ⟨w.heap.size + 2, 5, none⟩ = some (.int .i64 M.lt) := pcell hbl rfl
  have x6 : Wj.cell? ⟨w.heap.size + 2, 6, none⟩ = some (.int .i64 M.cm) := pcell hbl rfl
  have x7 : Wj.cell? ⟨w.heap.size + 2, 7, none⟩ = some (.int .i64 M.rd) := pcell hbl rfl
  have x8 : Wj.cell? ⟨w.heap.size + 2, 8, none⟩ = some (.bool M.ok) := pcell hbl rfl
  have x9 : Wj.cell? ⟨w.heap.size + 2, 9, none⟩ = some (.slice A.ea M.es.length A.ec) := pcell hbl rfl
  have x10 : Wj.cell? ⟨w.heap.size + 2, 10, none⟩ = some (.int .i64 M.sx) := pcell hbl rfl
  have x11 : Wj.cell? ⟨w.heap.size + 2, 11, none⟩ = some (.int .i64 M.st) := pcell hbl rfl
  have x12 : Wj.cell? ⟨w.heap.size + 2, 12, none⟩ = some (.slice A.na M.ns.length A.nc) := pcell hbl rfl
  have x13 : Wj.cell? ⟨w.heap.size + 2, 13, none⟩ = some (.slice A.da M.da.length A.dc) := pcell hbl rfl
  clear HEn hbl hlk hzb hsz hbw hRt hBo
  go_wp2_with (fail)
  refine HRt.out.mono ?_
  rintro e Wk ⟨rfl, hb⟩
  have hf := Fx.of_below (fun k => False) hb
  have HX : Hid (Wk.heap[w.heap.size + 2]? = some (.cells (ltC M A) 28 (0, 0)) ∧ LtK Wk (w.heap.size + 3) M A ∧ Wk.heap[w.heap.size]? = some (.cells #[.int .i64 0, .int .i64 0, .int .i64 0, .int .i64 0, .int .i64 0, .int .i64 0, .int .i64 0, .int .i64 0, .bool false, .slice none 0 0, .int .i64 0, .int .i64 0, .slice none 0 0, .slice none 0 0] 28 (0, 0)) ∧ Below w.heap.size w Wk) := ⟨blk_below HV.out.1 hb, HV.out.2.1.keep hf (fun k hk => hk.elim), blk_below HV.out.2.2.1 hb, HV.out.2.2.2.2.trans (hb.mono HV.out.2.2.2.2.size)⟩
  clear HRt hb hf HV x0 x1 x2 x3 x4 x5 x6 x7 x8 x9 x10 x11 x12 x13
  cases Bo with
  | false =>
    have HE : Hid (R = .error 0) := by show R = _; rw [HR2.out]; rfl
    have HG : Hid (Calls Tryd.prog 59 #[.int .i64 ((0 : Nat) : Int)] Wk fun e w' => e = gaveUp 0 ∧ w' = Wk) := giveUp_any Wk 0
    clear HR2
    go_wp2_with (fail)
    refine HG.out.mono ?_
    rintro e w1 ⟨rfl, hw⟩
    subst hw
    clear HG
    go_wp2
    rw [HE.out]
    exact ⟨rfl, HX.out.2.2.2, rfl⟩
  | true =>
    have HE : Hid (R = .ok M) := by show R = _; rw [HR2.out]; rfl
    clear HR2
    have x0 : Wk.cell? ⟨w.heap.size + 2, 0, none⟩ = some (.int .i64 M.k) := pcell HX.out.1 rfl
    have v0 : Wk.cell? ⟨w.heap.size, 0, none⟩ = some (.int .i64 0) := pcell HX.out.2.2.1 rfl
    have f0 : Wk.frozen? ⟨w.heap.size, 0, none⟩ = false := free_blk HX.out.2.2.1 0
    have x1 : Wk.cell? ⟨w.heap.size + 2, 1, none⟩ = some (.int .i64 M.f) := pcell HX.out.1 rfl
    have v1 : Wk.cell? ⟨w.heap.size, 1, none⟩ = some (.int .i64 0) := pcell HX.out.2.2.1 rfl
    have f1 : Wk.frozen? ⟨w.heap.size, 1, none⟩ = false := free_blk HX.out.2.2.1 1
    have x2 : Wk.cell? ⟨w.heap.size + 2, 2, none⟩ = some (.int .i64 M.t) := pcell HX.out.1 rfl
    have v2 : Wk.cell? ⟨w.heap.size, 2, none⟩ = some (.int .i64 0) := pcell HX.out.2.2.1 rfl
    have f2 : Wk.frozen? ⟨w.heap.size, 2, none⟩ = false := free_blk HX.out.2.2.1 2
    have x3 : Wk.cell? ⟨w.heap.size + 2, 3, none⟩ = some (.int .i64 M.tm) := pcell HX.out.1 rfl
    have v3 : Wk.cell? ⟨w.heap.size, 3, none⟩ = some (.int .i64 0) := pcell HX.out.2.2.1 rfl
    have f3 : Wk.frozen? ⟨w.heap.size, 3, none⟩ = false := free_blk HX.out.2.2.1 3
    have x4 : Wk.cell? ⟨w.heap.size + 2, 4, none⟩ = some (.int .i64 M.i) := pcell HX.out.1 rfl
    have v4 : Wk.cell? ⟨w.heap.size, 4, none⟩ = some (.int .i64 0) := pcell HX.out.2.2.1 rfl
    have f4 : Wk.frozen? ⟨w.heap.size, 4, none⟩ = false := free_blk HX.out.2.2.1 4
    have x5 : Wk.cell? ⟨w.heap.size + 2, 5, none⟩ = some (.int .i64 M.lt) := pcell HX.out.1 rfl
    have v5 : Wk.cell? ⟨w.heap.size, 5, none⟩ = some (.int .i64 0) := pcell HX.out.2.2.1 rfl
    have f5 : Wk.frozen? ⟨w.heap.size, 5, none⟩ = false := free_blk HX.out.2.2.1 5
    have x6 : Wk.cell? ⟨w.heap.size + 2, 6, none⟩ = some (.int .i64 M.cm) := pcell HX.out.1 rfl
    have v6 : Wk.cell? ⟨w.heap.size, 6, none⟩ = some (.int .i64 0) := pcell HX.out.2.2.1 rfl
    have f6 : Wk.frozen? ⟨w.heap.size, 6, none⟩ = false := free_blk HX.out.2.2.1 6
    have x7 : Wk.cell? ⟨w.heap.size + 2, 7, none⟩ = some (.int .i64 M.rd) := pcell HX.out.1 rfl
    have v7 : Wk.cell? ⟨w.heap.size, 7, none⟩ = some (.int .i64 0) := pcell HX.out.2.2.1 rfl
    have f7 : Wk.frozen? ⟨w.heap.size, 7, none⟩ = false := free_blk HX.out.2.2.1 7
    have x8 : Wk.cell? ⟨w.heap.size + 2, 8, none⟩ = some (.bool M.ok) := pcell HX.out.1 rfl
    have v8 : Wk.cell? ⟨w.heap.size, 8, none⟩ = some (.bool false) := pcell HX.out.2.2.1 rfl
    have f8 : Wk.frozen? ⟨w.heap.size, 8, none⟩ = false := free_blk HX.out.2.2.1 8
    have x9 : Wk.cell? ⟨w.heap.size + 2, 9, none⟩ = some (.slice A.ea M.es.length A.ec) := pcell HX.out.1 rfl
    have v9 : Wk.cell? ⟨w.heap.size, 9, none⟩ = some (.slice none 0 0) := pcell HX.out.2.2.1 rfl
    have f9 : Wk.frozen? ⟨w.heap.size, 9, none⟩ = false := free_blk HX.out.2.2.1 9
    have x10 : Wk.cell? ⟨w.heap.size + 2, 10, none⟩ = some (.int .i64 M.sx) := pcell HX.out.1 rfl
    have v10 : Wk.cell? ⟨w.heap.size, 10, none⟩ = some (.int .i64 0) := pcell HX.out.2.2.1 rfl
    have f10 : Wk.frozen? ⟨w.heap.size, 10, none⟩ = false := free_blk HX.out.2.2.1 10
    have x11 : Wk.cell? ⟨w.heap.size + 2, 11, none⟩ = some (.int .i64 M.st) := pcell HX.out.1 rfl
    have v11 : Wk.cell? ⟨w.heap.size, 11, none⟩ = some (.int .i64 0) := pcell HX.out.2.2.1 rfl
    have f11 : Wk.frozen? ⟨w.heap.size, 11, none⟩ = false := free_blk HX.out.2.2.1 11
    have x12 : Wk.cell? ⟨w.heap.size + 2, 12, none⟩ = some (.slice A.na M.ns.length A.nc) := pcell HX.out.1 rfl
    have v12 : Wk.cell? ⟨w.heap.size, 12, none⟩ = some (.slice none 0 0) := pcell HX.out.2.2.1 rfl
    have f12 : Wk.frozen? ⟨w.heap.size, 12, none⟩ = false := free_blk HX.out.2.2.1 12
    have x13 : Wk.cell? ⟨w.heap.size + 2, 13, none⟩ = some (.slice A.da M.da.length A.dc) := pcell HX.out.1 rfl
    have v13 : Wk.cell? ⟨w.heap.size, 13, none⟩ = some (.slice none 0 0) := pcell HX.out.2.2.1 rfl
    have f13 : Wk.frozen? ⟨w.heap.size, 13, none⟩ = false := free_blk HX.out.2.2.1 13
    have hs := set14 (.int .i64 M.k) (.int .i64 M.f) (.int .i64 M.t) (.int .i64 M.tm) (.int .i64 M.i) (.int .i64 M.lt) (.int .i64 M.cm) (.int .i64 M.rd) (.bool M.ok) (.slice A.ea M.es.length A.ec) (.int .i64 M.sx) (.int .i64 M.st) (.slice A.na M.ns.length A.nc) (.slice A.da M.da.length A.dc) HX.out.2.2.1
    have s0 := pcell hs (i := 0) (v := .int .i64 M.k) rfl
    have s1 := pcell hs (i := 1) (v := .int .i64 M.f) rfl
    have s2 := pcell hs (i := 2) (v := .int .i64 M.t) rfl
    have s3 := pcell hs (i := 3) (v := .int .i64 M.tm) rfl
    have s4 := pcell hs (i := 4) (v := .int .i64 M.i) rfl
    have s5 := pcell hs (i := 5) (v := .int .i64 M.lt) rfl
    have s6 := pcell hs (i := 6) (v := .int .i64 M.cm) rfl
    have s7 := pcell hs (i := 7) (v := .int .i64 M.rd) rfl
    have s8 := pcell hs (i := 8) (v := .bool M.ok) rfl
    have s9 := pcell hs (i := 9) (v := .slice A.ea M.es.length A.ec) rfl
    have s10 := pcell hs (i := 10) (v := .int .i64 M.sx) rfl
    have s11 := pcell hs (i := 11) (v := .int .i64 M.st) rfl
    have s12 := pcell hs (i := 12) (v := .slice A.na M.ns.length A.nc) rfl
    have s13 := pcell hs (i := 13) (v := .slice A.da M.da.length A.dc) rfl
    clear hs
    go_wp2_with fail
    refine bodyPost_ret (v := ltV M A) ?_ rfl ?_
    · unfold ltV ltC
      simp [results, Tryd.results38, go_sem, s0, s1, s2, s3, s4, s5, s6, s7, s8, s9, s10, s11, s12, s13]
    · rw [HE.out]
      obtain ⟨W7, hW7⟩ : ∃ W7, W7 = ((((((((((((((Wk.setCell ⟨w.heap.size, 0, none⟩ (.int .i64 M.k)).setCell ⟨w.heap.size, 1, none⟩ (.int .i64 M.f)).setCell ⟨w.heap.size, 2, none⟩ (.int .i64 M.t)).setCell ⟨w.heap.size, 3, none⟩ (.int .i64 M.tm)).setCell ⟨w.heap.size, 4, none⟩ (.int .i64 M.i)).setCell ⟨w.heap.size, 5, none⟩ (.int .i64 M.lt)).setCell ⟨w.heap.size, 6, none⟩ (.int .i64 M.cm)).setCell ⟨w.heap.size, 7, none⟩ (.int .i64 M.rd)).setCell ⟨w.heap.size, 8, none⟩ (.bool M.ok)).setCell ⟨w.heap.size, 9, none⟩ (.slice A.ea M.es.length A.ec)).setCell ⟨w.heap.size, 10, none⟩ (.int .i64 M.sx)).setCell ⟨w.heap.size, 11, none⟩ (.int .i64 M.st)).setCell ⟨w.heap.size, 12, none⟩ (.slice A.na M.ns.length A.nc)).setCell ⟨w.heap.size, 13, none⟩ (.slice A.da M.da.length A.dc)) := ⟨_, rfl⟩
      have hf : Fx (fun k => k = w.heap.size) Wk W7 := by
        rw [hW7]
        exact Fx.set (S := fun k => k = w.heap.size) (Fx.set (S := fun k => k = w.heap.size) (Fx.set (S := fun k => k = w.heap.size) (Fx.set (S := fun k => k = w.heap.size) (Fx.set (S := fun k => k = w.heap.size) (Fx.set (S := fun k => k = w.heap.size) (Fx.set (S := fun k => k = w.heap.size) (Fx.set (S := fun k => k = w.heap.size) (Fx.set (S := fun k => k = w.heap.size) (Fx.set (S := fun k => k = w.heap.size) (Fx.set (S := fun k => k = w.heap.size) (Fx.set (S := fun k => k = w.heap.size) (Fx.set (S := fun k => k = w.heap.size) (Fx.set (S := fun k => k = w.heap.size) (Fx.refl _ Wk) rfl _ _) rfl _ _) rfl _ _) rfl _ _) rfl _ _) rfl _ _) rfl _ _) rfl _ _) rfl _ _) rfl _ _) rfl _ _) rfl _ _) rfl _ _) rfl _ _
      rw [← hW7]
      have hsz := HX.out.2.2.2.size
      exact ⟨HX.out.2.2.2.trans (hf.below hsz (fun k hk => by omega)), A, rfl, (HX.out.2.1.keep hf (fun k hk => by omega)).lower (by omega)⟩
end Go.Proofs.YtmlihlnigojmpaaDoor
