/- Reading what a letter's Kind has: walked. -/
import Derived.Test.YtmlihlnigojmpaaDoorWRd5
import Derived.Test.YtmlihlnigojmpaaDoorWRt1
set_option linter.unusedVariables false
namespace Go.Proofs.YtmlihlnigojmpaaDoor
open Go.RowKit

/-- A letter of which the Kind, From, To and Term are known. -/
def ltB (k f t tm : Nat) : Lt := { k := (k : Int), f := (f : Int), t := (t : Int), tm := (tm : Int), i := 0, lt := 0, cm := 0, rd := 0, ok := false, es := [], sx := 0, st := 0, ns := [], da := [] }
def rKind (L : List UInt8) (k f t tm p : Nat) : Except Nat (Lt × Nat) :=
  if k = 1 then bindR (rN L 999999 p) fun i p1 => bindR (rN L 999999 p1) fun lt p2 => .ok ({ ltB k f t tm with i := (i : Int), lt := (lt : Int) }, p2)
  else if k = 2 then bindR (rN L 1 p) fun o p1 => .ok ({ ltB k f t tm with ok := o == 1 }, p1)
  else if k = 3 then bindR (rN L 999999 p) fun i p1 => bindR (rN L 999999 p1) fun lt p2 => bindR (rN L 999999 p2) fun cm p3 => bindR (rN L 1073741824 p3) fun rd p4 => bindR (rEntries L (i : Int) p4) fun es p5 => .ok ({ ltB k f t tm with i := (i : Int), lt := (lt : Int), cm := (cm : Int), rd := (rd : Int), es := es }, p5)
  else if k = 4 then bindR (rN L 1 p) fun o p1 => bindR (rN L 999999 p1) fun i p2 => bindR (rN L 1073741824 p2) fun rd p3 => .ok ({ ltB k f t tm with ok := o == 1, i := (i : Int), rd := (rd : Int) }, p3)
  else if k = 5 then bindR (rSn L p) fun x p1 => bindR (rN L 1073741824 p1) fun rd p2 => .ok ({ ltB k f t tm with sx := (x.X : Int), st := (x.T : Int), ns := natI x.ns, da := x.s, rd := (rd : Int) }, p2)
  else .error 0

/-- A letter that was read: its rows are new. -/
structure LtK (w : World) (K : Nat) (M : Lt) (A : LtA) : Prop where
  es : ∃ xs, xs.map EnP.e = M.es ∧ OwnE w K (.slice A.ea M.es.length A.ec) xs ∧ xs.length ≤ 4
  ns : NewN w K A.na M.ns
  da : NewB w K A.da A.dc M.da
  nl : M.ns.length ≤ 5
  dl : M.da.length ≤ 300000
  rg : ∀ z ∈ [M.k, M.f, M.t, M.tm, M.i, M.lt, M.cm, M.rd, M.sx, M.st], 0 ≤ z ∧ z ≤ 1073741824
theorem LtK.keep {w w' : World} {K : Nat} {M : Lt} {A : LtA} {S : Nat → Prop} (h : LtK w K M A) (hf : Fx S w w') (hs : ∀ k, S k → k < K) : LtK w' K M A := by
  obtain ⟨xs, h1, h2, h3⟩ := h.es
  exact ⟨⟨xs, h1, h2.keep hf hs, h3⟩, h.ns.keep hf hs, h.da.keep hf hs, h.nl, h.dl, h.rg⟩
theorem LtK.lower {w : World} {K K' : Nat} {M : Lt} {A : LtA} (h : LtK w K M A) (hk : K' ≤ K) : LtK w K' M A := by
  obtain ⟨xs, h1, h2, h3⟩ := h.es
  exact ⟨⟨xs, h1, h2.lower hk, h3⟩, h.ns.lower hk, h.da.lower hk, h.nl, h.dl, h.rg⟩
theorem ownE_nil (w : World) (K : Nat) : OwnE w K (.slice none 0 0) [] := ⟨World.ownsRow_nil _ _ _ _, fun x hx => by cases hx⟩
def KindQ (w0 : World) (a : Option Addr) (len cap b mb : Nat) (w : World) (X : Except Nat (Lt × Nat)) (e : Ending) (w' : World) : Prop :=
  Fx (fun k => k = b ∨ k = mb) w w' ∧ match X with
    | .error q => e = gaveUp q
    | .ok (M, p) => e = .returned (.tuple #[]) ∧ ∃ A, w'.heap[mb]? = some (.cells (ltC M A) 28 (0, 0)) ∧ LtK w' w.heap.size M A ∧ RdS w0 a len cap b w' p

set_option maxHeartbeats 16000000 in
set_option maxRecDepth 40000 in
theorem rkind {w0 : World} {a : Option Addr} {len cap b mb : Nat} {L : List UInt8} (hs : Src w0 a len cap L) {w : World} {p k f t tm : Nat} (h : RdS w0 a len cap b w p) (hne : mb ≠ b) (hw0 : w0.heap.size ≤ mb) (hm : w.heap[mb]? = some (.cells #[.int .i64 (k : Int), .int .i64 (f : Int), .int .i64 (t : Int), .int .i64 (tm : Int), .int .i64 0, .int .i64 0, .int .i64 0, .int .i64 0, .bool false, .slice none 0 0, .int .i64 0, .int .i64 0, .slice none 0 0, .slice none 0 0] 28 (0, 0))) (hk : k ≤ 5) (hf : f ≤ 5) (ht : t ≤ 5) (htm : tm ≤ 999999) :
    Calls Tryd.prog 57 #[rptr b, rptr mb] w (KindQ w0 a len cap b mb w (rKind L k f t tm p)) := by
  obtain ⟨R, hR⟩ : ∃ R, rKind L k f t tm p = R := ⟨_, rfl⟩
  rw [hR]
  have HU : Hid (Uw w0 a len cap b mb 28 w w #[.int .i64 (k : Int), .int .i64 (f : Int), .int .i64 (t : Int), .int .i64 (tm : Int), .int .i64 0, .int .i64 0, .int .i64 0, .int .i64 0, .bool false, .slice none 0 0, .int .i64 0, .int .i64 0, .slice none 0 0, .slice none 0 0] p) := ⟨h, Fx.refl _ _, hm⟩
  have HS : Hid (Src w0 a len cap L ∧ L.length = len ∧ mb ≠ b ∧ w0.heap.size ≤ mb) := ⟨hs, hs.row.1, hne, hw0⟩
  have HK : Hid (b < w.heap.size ∧ mb < w.heap.size ∧ k ≤ 5 ∧ f ≤ 5 ∧ t ≤ 5 ∧ tm ≤ 999999) := ⟨h.lt, (Array.getElem?_eq_some_iff.1 hm).1, hk, hf, ht, htm⟩
  have HFX : Hid (∀ u u', Fx (fun k => k = b ∨ k = mb) w u → Fx (fun k => k = b) u u' → Fx (fun k => k = b ∨ k = mb) w u') := fun u u' hu hu' => hu.trans (hu'.imp (fun k _ hk => .inl hk))
  have x0 : w.cell? ⟨mb, 0, none⟩ = some (.int .i64 (k : Int)) := pcell hm rfl
  have HRR : Hid (rKind L k f t tm p = R) := hR
  clear hR h hne hw0 hm hk hf ht htm hs
  go_enter Tryd.func57, Tryd.ntmps57
  by_cases k1 : k = 1
  · subst k1
    have HR : Hid (R = _) := HRR.out.symm.trans (by unfold rKind; rw [if_pos rfl])
    clear HRR
    have hN := rnum HS.out.1 HU.out.rd 999999 (by omega)
    cases hX : rN L 999999 p with
    | error q =>
      have HE : Hid (R = .error q) := by show R = _; rw [HR.out, bindR_error hX]
      have HN : Hid (Calls Tryd.prog 56 #[rptr b, .int .i64 999999] w fun e w' => e = gaveUp q ∧ Fx (fun k => k = b ∨ k = mb) w w') := hN.mono fun e w' hg => ⟨(hg.error hX).1, HFX.out _ _ HU.out.fx (hg.error hX).2⟩
      clear hN hX HR HU HS HK HFX
      go_wp2_with (fail)
      refine HN.out.mono ?_
      rintro e w1 ⟨rfl, hf⟩
      have HF : Hid (Fx (fun k => k = b ∨ k = mb) w w1) := hf
      clear HN hf
      go_wp2
      rw [HE.out]
      exact ⟨rfl, HF.out, rfl⟩
    | ok x =>
    obtain ⟨i, p1⟩ := x
    have hbi := (rN_le hX (by rw [HS.out.2.1]; exact HU.out.rd.hp)).1
    have HN : Hid (Calls Tryd.prog 56 #[rptr b, .int .i64 999999] w fun e w' => e = .returned (.int .i64 (i : Int)) ∧ Uw w0 a len cap b mb 28 w w' #[.int .i64 ((1 : Nat) : Int), .int .i64 (f : Int), .int .i64 (t : Int), .int .i64 (tm : Int), .int .i64 0, .int .i64 0, .int .i64 0, .int .i64 0, .bool false, .slice none 0 0, .int .i64 0, .int .i64 0, .slice none 0 0, .slice none 0 0] p1) := hN.mono fun e w' hg => by
      obtain ⟨v, h1, h2, h3, h4⟩ := hg.ok hX
      exact ⟨by rw [h1, h2], HU.out.step HS.out.2.2.1 h4 h3⟩
    have HR2 := (show Hid (R = _) from HR.out.trans (bindR_ok hX))
    have HBi : Hid (i ≤ 999999) := hbi
    clear hN hX HR HU hbi
    have HR := HR2
    clear HR2
    (try dsimp only at HR)
    go_wp2_with (fail)
    refine HN.out.mono ?_
    rintro e Wa ⟨rfl, hU⟩
    have y4 : Wa.cell? ⟨mb, 4, none⟩ = some (.int .i64 0) := pcell hU.bl rfl
    have g4 : Wa.frozen? ⟨mb, 4, none⟩ = false := free_blk hU.bl 4
    obtain ⟨Wb, hWb⟩ : ∃ Wq, Wq = Wa.setCell ⟨mb, 4, none⟩ (.int .i64 (i : Int)) := ⟨_, rfl⟩
    have HU : Hid (Uw w0 a len cap b mb 28 w Wb #[.int .i64 ((1 : Nat) : Int), .int .i64 (f : Int), .int .i64 (t : Int), .int .i64 (tm : Int), .int .i64 (i : Int), .int .i64 0, .int .i64 0, .int .i64 0, .bool false, .slice none 0 0, .int .i64 0, .int .i64 0, .slice none 0 0, .slice none 0 0] p1) := by show Uw w0 a len cap b mb 28 w Wb #[.int .i64 ((1 : Nat) : Int), .int .i64 (f : Int), .int .i64 (t : Int), .int .i64 (tm : Int), .int .i64 (i : Int), .int .i64 0, .int .i64 0, .int .i64 0, .bool false, .slice none 0 0, .int .i64 0, .int .i64 0, .slice none 0 0, .slice none 0 0] p1; rw [hWb]; exact hU.set HS.out.2.2.1 HS.out.2.2.2 4 (.int .i64 (i : Int))
    clear HN hU
    go_upto_region 4 with fail
    rw [← hWb]
    clear hWb y4 g4
    have hN := rnum HS.out.1 HU.out.rd 999999 (by omega)
    cases hX : rN L 999999 p1 with
    | error q =>
      have HE : Hid (R = .error q) := by show R = _; rw [HR.out, bindR_error hX]
      have HN : Hid (Calls Tryd.prog 56 #[rptr b, .int .i64 999999] Wb fun e w' => e = gaveUp q ∧ Fx (fun k => k = b ∨ k = mb) w w') := hN.mono fun e w' hg => ⟨(hg.error hX).1, HFX.out _ _ HU.out.fx (hg.error hX).2⟩
      clear hN hX HR HU HS HK HFX HBi
      go_wp2_with (fail)
      refine HN.out.mono ?_
      rintro e w1 ⟨rfl, hf⟩
      have HF : Hid (Fx (fun k => k = b ∨ k = mb) w w1) := hf
      clear HN hf
      go_wp2
      rw [HE.out]
      exact ⟨rfl, HF.out, rfl⟩
    | ok x =>
    obtain ⟨lt, p2⟩ := x
    have hblt := (rN_le hX (by rw [HS.out.2.1]; exact HU.out.rd.hp)).1
    have HN : Hid (Calls Tryd.prog 56 #[rptr b, .int .i64 999999] Wb fun e w' => e = .returned (.int .i64 (lt : Int)) ∧ Uw w0 a len cap b mb 28 w w' #[.int .i64 ((1 : Nat) : Int), .int .i64 (f : Int), .int .i64 (t : Int), .int .i64 (tm : Int), .int .i64 (i : Int), .int .i64 0, .int .i64 0, .int .i64 0, .bool false, .slice none 0 0, .int .i64 0, .int .i64 0, .slice none 0 0, .slice none 0 0] p2) := hN.mono fun e w' hg => by
      obtain ⟨v, h1, h2, h3, h4⟩ := hg.ok hX
      exact ⟨by rw [h1, h2], HU.out.step HS.out.2.2.1 h4 h3⟩
    have HR2 := (show Hid (R = _) from HR.out.trans (bindR_ok hX))
    have HBlt : Hid (lt ≤ 999999) := hblt
    clear hN hX HR HU hblt
    have HR := HR2
    clear HR2
    (try dsimp only at HR)
    go_wp2_with (fail)
    refine HN.out.mono ?_
    rintro e Wc ⟨rfl, hU⟩
    have y5 : Wc.cell? ⟨mb, 5, none⟩ = some (.int .i64 0) := pcell hU.bl rfl
    have g5 : Wc.frozen? ⟨mb, 5, none⟩ = false := free_blk hU.bl 5
    obtain ⟨Wd, hWd⟩ : ∃ Wq, Wq = Wc.setCell ⟨mb, 5, none⟩ (.int .i64 (lt : Int)) := ⟨_, rfl⟩
    have HU : Hid (Uw w0 a len cap b mb 28 w Wd #[.int .i64 ((1 : Nat) : Int), .int .i64 (f : Int), .int .i64 (t : Int), .int .i64 (tm : Int), .int .i64 (i : Int), .int .i64 (lt : Int), .int .i64 0, .int .i64 0, .bool false, .slice none 0 0, .int .i64 0, .int .i64 0, .slice none 0 0, .slice none 0 0] p2) := by show Uw w0 a len cap b mb 28 w Wd #[.int .i64 ((1 : Nat) : Int), .int .i64 (f : Int), .int .i64 (t : Int), .int .i64 (tm : Int), .int .i64 (i : Int), .int .i64 (lt : Int), .int .i64 0, .int .i64 0, .bool false, .slice none 0 0, .int .i64 0, .int .i64 0, .slice none 0 0, .slice none 0 0] p2; rw [hWd]; exact hU.set HS.out.2.2.1 HS.out.2.2.2 5 (.int .i64 (lt : Int))
    clear HN hU
    go_wp2_with fail
    go_end0
    rw [← hWd]
    clear hWd y5 g5
    rw [HR.out]
    refine ⟨HU.out.fx, rfl, ⟨none, 0, none, 0, none, 0⟩, HU.out.bl, ⟨⟨[], rfl, ownE_nil _ _, Nat.zero_le _⟩, NewN.nil _ _ _ (fun x hx => by cases hx), NewB.nil _ _, Nat.zero_le _, Nat.zero_le _, by
        intro z hz
        simp [ltB] at hz
        have hKo := HK.out
        have hBi := HBi.out
        have hBlt := HBlt.out
        rcases hz with rfl | rfl | rfl | rfl | rfl | rfl | rfl | rfl | rfl | rfl <;> omega⟩, HU.out.rd⟩
  by_cases k2 : k = 2
  · subst k2
    have HR : Hid (R = _) := HRR.out.symm.trans (by unfold rKind; rw [if_neg (by omega), if_pos rfl])
    clear HRR
    have hN := rok HS.out.1 HU.out.rd
    cases hX : rN L 1 p with
    | error q =>
      have HE : Hid (R = .error q) := by show R = _; rw [HR.out, bindR_error hX]
      have HN : Hid (Calls Tryd.prog 72 #[rptr b] w fun e w' => e = gaveUp q ∧ Fx (fun k => k = b ∨ k = mb) w w') := hN.mono fun e w' hg => ⟨(hg.error hX).1, HFX.out _ _ HU.out.fx (hg.error hX).2⟩
      clear hN hX HR HU HS HK HFX
      go_wp2_with (fail)
      refine HN.out.mono ?_
      rintro e w1 ⟨rfl, hf⟩
      have HF : Hid (Fx (fun k => k = b ∨ k = mb) w w1) := hf
      clear HN hf
      go_wp2
      rw [HE.out]
      exact ⟨rfl, HF.out, rfl⟩
    | ok x =>
    obtain ⟨o, p1⟩ := x
    have HN : Hid (Calls Tryd.prog 72 #[rptr b] w fun e w' => e = .returned (.bool (o == 1)) ∧ Uw w0 a len cap b mb 28 w w' #[.int .i64 ((2 : Nat) : Int), .int .i64 (f : Int), .int .i64 (t : Int), .int .i64 (tm : Int), .int .i64 0, .int .i64 0, .int .i64 0, .int .i64 0, .bool false, .slice none 0 0, .int .i64 0, .int .i64 0, .slice none 0 0, .slice none 0 0] p1) := hN.mono fun e w' hg => by
      obtain ⟨v, h1, h2, h3, h4⟩ := hg.ok hX
      exact ⟨by rw [h1, h2], HU.out.step HS.out.2.2.1 h4 h3⟩
    have HR2 := (show Hid (R = _) from HR.out.trans (bindR_ok hX))
    clear hN hX HR HU
    have HR := HR2
    clear HR2
    (try dsimp only at HR)
    obtain ⟨ob, hob⟩ : ∃ ob, (o == 1) = ob := ⟨_, rfl⟩
    rw [hob] at HN
    have HOB : Hid ((o == 1) = ob) := hob
    clear hob
    go_wp2_with (fail)
    refine HN.out.mono ?_
    rintro e Wa ⟨rfl, hU⟩
    have y8 : Wa.cell? ⟨mb, 8, none⟩ = some (.bool false) := pcell hU.bl rfl
    have g8 : Wa.frozen? ⟨mb, 8, none⟩ = false := free_blk hU.bl 8
    obtain ⟨Wb, hWb⟩ : ∃ Wq, Wq = Wa.setCell ⟨mb, 8, none⟩ (.bool ob) := ⟨_, rfl⟩
    have HU : Hid (Uw w0 a len cap b mb 28 w Wb #[.int .i64 ((2 : Nat) : Int), .int .i64 (f : Int), .int .i64 (t : Int), .int .i64 (tm : Int), .int .i64 0, .int .i64 0, .int .i64 0, .int .i64 0, .bool ob, .slice none 0 0, .int .i64 0, .int .i64 0, .slice none 0 0, .slice none 0 0] p1) := by show Uw w0 a len cap b mb 28 w Wb #[.int .i64 ((2 : Nat) : Int), .int .i64 (f : Int), .int .i64 (t : Int), .int .i64 (tm : Int), .int .i64 0, .int .i64 0, .int .i64 0, .int .i64 0, .bool ob, .slice none 0 0, .int .i64 0, .int .i64 0, .slice none 0 0, .slice none 0 0] p1; rw [hWb]; exact hU.set HS.out.2.2.1 HS.out.2.2.2 8 (.bool ob)
    clear HN hU
    go_wp2_with fail
    go_end0
    rw [← hWb]
    clear hWb y8 g8
    rw [HR.out, HOB.out]
    refine ⟨HU.out.fx, rfl, ⟨none, 0, none, 0, none, 0⟩, HU.out.bl, ⟨⟨[], rfl, ownE_nil _ _, Nat.zero_le _⟩, NewN.nil _ _ _ (fun x hx => by cases hx), NewB.nil _ _, Nat.zero_le _, Nat.zero_le _, by
        intro z hz
        simp [ltB] at hz
        have hKo := HK.out
        rcases hz with rfl | rfl | rfl | rfl | rfl | rfl | rfl | rfl | rfl | rfl <;> omega⟩, HU.out.rd⟩
  by_cases k3 : k = 3
  · subst k3
    have HR : Hid (R = _) := HRR.out.symm.trans (by unfold rKind; rw [if_neg (by omega), if_neg (by omega), if_pos rfl])
    clear HRR
    have hN := rnum HS.out.1 HU.out.rd 999999 (by omega)
    cases hX : rN L 999999 p with
    | error q =>
      have HE : Hid (R = .error q) := by show R = _; rw [HR.out, bindR_error hX]
      have HN : Hid (Calls Tryd.prog 56 #[rptr b, .int .i64 999999] w fun e w' => e = gaveUp q ∧ Fx (fun k => k = b ∨ k = mb) w w') := hN.mono fun e w' hg => ⟨(hg.error hX).1, HFX.out _ _ HU.out.fx (hg.error hX).2⟩
      clear hN hX HR HU HS HK HFX
      go_wp2_with (fail)
      refine HN.out.mono ?_
      rintro e w1 ⟨rfl, hf⟩
      have HF : Hid (Fx (fun k => k = b ∨ k = mb) w w1) := hf
      clear HN hf
      go_wp2
      rw [HE.out]
      exact ⟨rfl, HF.out, rfl⟩
    | ok x =>
    obtain ⟨i, p1⟩ := x
    have hbi := (rN_le hX (by rw [HS.out.2.1]; exact HU.out.rd.hp)).1
    have HN : Hid (Calls Tryd.prog 56 #[rptr b, .int .i64 999999] w fun e w' => e = .returned (.int .i64 (i : Int)) ∧ Uw w0 a len cap b mb 28 w w' #[.int .i64 ((3 : Nat) : Int), .int .i64 (f : Int), .int .i64 (t : Int), .int .i64 (tm : Int), .int .i64 0, .int .i64 0, .int .i64 0, .int .i64 0, .bool false, .slice none 0 0, .int .i64 0, .int .i64 0, .slice none 0 0, .slice none 0 0] p1) := hN.mono fun e w' hg => by
      obtain ⟨v, h1, h2, h3, h4⟩ := hg.ok hX
      exact ⟨by rw [h1, h2], HU.out.step HS.out.2.2.1 h4 h3⟩
    have HR2 := (show Hid (R = _) from HR.out.trans (bindR_ok hX))
    have HBi : Hid (i ≤ 999999) := hbi
    clear hN hX HR HU hbi
    have HR := HR2
    clear HR2
    (try dsimp only at HR)
    go_wp2_with (fail)
    refine HN.out.mono ?_
    rintro e Wa ⟨rfl, hU⟩
    have y4 : Wa.cell? ⟨mb, 4, none⟩ = some (.int .i64 0) := pcell hU.bl rfl
    have g4 : Wa.frozen? ⟨mb, 4, none⟩ = false := free_blk hU.bl 4
    obtain ⟨Wb, hWb⟩ : ∃ Wq, Wq = Wa.setCell ⟨mb, 4, none⟩ (.int .i64 (i : Int)) := ⟨_, rfl⟩
    have HU : Hid (Uw w0 a len cap b mb 28 w Wb #[.int .i64 ((3 : Nat) : Int), .int .i64 (f : Int), .int .i64 (t : Int), .int .i64 (tm : Int), .int .i64 (i : Int), .int .i64 0, .int .i64 0, .int .i64 0, .bool false, .slice none 0 0, .int .i64 0, .int .i64 0, .slice none 0 0, .slice none 0 0] p1) := by show Uw w0 a len cap b mb 28 w Wb #[.int .i64 ((3 : Nat) : Int), .int .i64 (f : Int), .int .i64 (t : Int), .int .i64 (tm : Int), .int .i64 (i : Int), .int .i64 0, .int .i64 0, .int .i64 0, .bool false, .slice none 0 0, .int .i64 0, .int .i64 0, .slice none 0 0, .slice none 0 0] p1; rw [hWb]; exact hU.set HS.out.2.2.1 HS.out.2.2.2 4 (.int .i64 (i : Int))
    clear HN hU
    go_upto_region 9 with fail
    rw [← hWb]
    clear hWb y4 g4
    have hN := rnum HS.out.1 HU.out.rd 999999 (by omega)
    cases hX : rN L 999999 p1 with
    | error q =>
      have HE : Hid (R = .error q) := by show R = _; rw [HR.out, bindR_error hX]
      have HN : Hid (Calls Tryd.prog 56 #[rptr b, .int .i64 999999] Wb fun e w' => e = gaveUp q ∧ Fx (fun k => k = b ∨ k = mb) w w') := hN.mono fun e w' hg => ⟨(hg.error hX).1, HFX.out _ _ HU.out.fx (hg.error hX).2⟩
      clear hN hX HR HU HS HK HFX HBi
      go_wp2_with (fail)
      refine HN.out.mono ?_
      rintro e w1 ⟨rfl, hf⟩
      have HF : Hid (Fx (fun k => k = b ∨ k = mb) w w1) := hf
      clear HN hf
      go_wp2
      rw [HE.out]
      exact ⟨rfl, HF.out, rfl⟩
    | ok x =>
    obtain ⟨lt, p2⟩ := x
    have hblt := (rN_le hX (by rw [HS.out.2.1]; exact HU.out.rd.hp)).1
    have HN : Hid (Calls Tryd.prog 56 #[rptr b, .int .i64 999999] Wb fun e w' => e = .returned (.int .i64 (lt : Int)) ∧ Uw w0 a len cap b mb 28 w w' #[.int .i64 ((3 : Nat) : Int), .int .i64 (f : Int), .int .i64 (t : Int), .int .i64 (tm : Int), .int .i64 (i : Int), .int .i64 0, .int .i64 0, .int .i64 0, .bool false, .slice none 0 0, .int .i64 0, .int .i64 0, .slice none 0 0, .slice none 0 0] p2) := hN.mono fun e w' hg => by
      obtain ⟨v, h1, h2, h3, h4⟩ := hg.ok hX
      exact ⟨by rw [h1, h2], HU.out.step HS.out.2.2.1 h4 h3⟩
    have HR2 := (show Hid (R = _) from HR.out.trans (bindR_ok hX))
    have HBlt : Hid (lt ≤ 999999) := hblt
    clear hN hX HR HU hblt
    have HR := HR2
    clear HR2
    (try dsimp only at HR)
    go_wp2_with (fail)
    refine HN.out.mono ?_
    rintro e Wc ⟨rfl, hU⟩
    have y5 : Wc.cell? ⟨mb, 5, none⟩ = some (.int .i64 0) := pcell hU.bl rfl
    have g5 : Wc.frozen? ⟨mb, 5, none⟩ = false := free_blk hU.bl 5
    obtain ⟨Wd, hWd⟩ : ∃ Wq, Wq = Wc.setCell ⟨mb, 5, none⟩ (.int .i64 (lt : Int)) := ⟨_, rfl⟩
    have HU : Hid (Uw w0 a len cap b mb 28 w Wd #[.int .i64 ((3 : Nat) : Int), .int .i64 (f : Int), .int .i64 (t : Int), .int .i64 (tm : Int), .int .i64 (i : Int), .int .i64 (lt : Int), .int .i64 0, .int .i64 0, .bool false, .slice none 0 0, .int .i64 0, .int .i64 0, .slice none 0 0, .slice none 0 0] p2) := by show Uw w0 a len cap b mb 28 w Wd #[.int .i64 ((3 : Nat) : Int), .int .i64 (f : Int), .int .i64 (t : Int), .int .i64 (tm : Int), .int .i64 (i : Int), .int .i64 (lt : Int), .int .i64 0, .int .i64 0, .bool false, .slice none 0 0, .int .i64 0, .int .i64 0, .slice none 0 0, .slice none 0 0] p2; rw [hWd]; exact hU.set HS.out.2.2.1 HS.out.2.2.2 5 (.int .i64 (lt : Int))
    clear HN hU
    go_upto_region 10 with fail
    rw [← hWd]
    clear hWd y5 g5
    have hN := rnum HS.out.1 HU.out.rd 999999 (by omega)
    cases hX : rN L 999999 p2 with
    | error q =>
      have HE : Hid (R = .error q) := by show R = _; rw [HR.out, bindR_error hX]
      have HN : Hid (Calls Tryd.prog 56 #[rptr b, .int .i64 999999] Wd fun e w' => e = gaveUp q ∧ Fx (fun k => k = b ∨ k = mb) w w') := hN.mono fun e w' hg => ⟨(hg.error hX).1, HFX.out _ _ HU.out.fx (hg.error hX).2⟩
      clear hN hX HR HU HS HK HFX HBi HBlt
      go_wp2_with (fail)
      refine HN.out.mono ?_
      rintro e w1 ⟨rfl, hf⟩
      have HF : Hid (Fx (fun k => k = b ∨ k = mb) w w1) := hf
      clear HN hf
      go_wp2
      rw [HE.out]
      exact ⟨rfl, HF.out, rfl⟩
    | ok x =>
    obtain ⟨cm, p3⟩ := x
    have hbcm := (rN_le hX (by rw [HS.out.2.1]; exact HU.out.rd.hp)).1
    have HN : Hid (Calls Tryd.prog 56 #[rptr b, .int .i64 999999] Wd fun e w' => e = .returned (.int .i64 (cm : Int)) ∧ Uw w0 a len cap b mb 28 w w' #[.int .i64 ((3 : Nat) : Int), .int .i64 (f : Int), .int .i64 (t : Int), .int .i64 (tm : Int), .int .i64 (i : Int), .int .i64 (lt : Int), .int .i64 0, .int .i64 0, .bool false, .slice none 0 0, .int .i64 0, .int .i64 0, .slice none 0 0, .slice none 0 0] p3) := hN.mono fun e w' hg => by
      obtain ⟨v, h1, h2, h3, h4⟩ := hg.ok hX
      exact ⟨by rw [h1, h2], HU.out.step HS.out.2.2.1 h4 h3⟩
    have HR2 := (show Hid (R = _) from HR.out.trans (bindR_ok hX))
    have HBcm : Hid (cm ≤ 999999) := hbcm
    clear hN hX HR HU hbcm
    have HR := HR2
    clear HR2
    (try dsimp only at HR)
    go_wp2_with (fail)
    refine HN.out.mono ?_
    rintro e We ⟨rfl, hU⟩
    have y6 : We.cell? ⟨mb, 6, none⟩ = some (.int .i64 0) := pcell hU.bl rfl
    have g6 : We.frozen? ⟨mb, 6, none⟩ = false := free_blk hU.bl 6
    obtain ⟨Wf, hWf⟩ : ∃ Wq, Wq = We.setCell ⟨mb, 6, none⟩ (.int .i64 (cm : Int)) := ⟨_, rfl⟩
    have HU : Hid (Uw w0 a len cap b mb 28 w Wf #[.int .i64 ((3 : Nat) : Int), .int .i64 (f : Int), .int .i64 (t : Int), .int .i64 (tm : Int), .int .i64 (i : Int), .int .i64 (lt : Int), .int .i64 (cm : Int), .int .i64 0, .bool false, .slice none 0 0, .int .i64 0, .int .i64 0, .slice none 0 0, .slice none 0 0] p3) := by show Uw w0 a len cap b mb 28 w Wf #[.int .i64 ((3 : Nat) : Int), .int .i64 (f : Int), .int .i64 (t : Int), .int .i64 (tm : Int), .int .i64 (i : Int), .int .i64 (lt : Int), .int .i64 (cm : Int), .int .i64 0, .bool false, .slice none 0 0, .int .i64 0, .int .i64 0, .slice none 0 0, .slice none 0 0] p3; rw [hWf]; exact hU.set HS.out.2.2.1 HS.out.2.2.2 6 (.int .i64 (cm : Int))
    clear HN hU
    go_upto_region 11 with fail
    rw [← hWf]
    clear hWf y6 g6
    have hN := rnum HS.out.1 HU.out.rd 1073741824 (by omega)
    cases hX : rN L 1073741824 p3 with
    | error q =>
      have HE : Hid (R = .error q) := by show R = _; rw [HR.out, bindR_error hX]
      have HN : Hid (Calls Tryd.prog 56 #[rptr b, .int .i64 1073741824] Wf fun e w' => e = gaveUp q ∧ Fx (fun k => k = b ∨ k = mb) w w') := hN.mono fun e w' hg => ⟨(hg.error hX).1, HFX.out _ _ HU.out.fx (hg.error hX).2⟩
      clear hN hX HR HU HS HK HFX HBi HBlt HBcm
      go_wp2_with (fail)
      refine HN.out.mono ?_
      rintro e w1 ⟨rfl, hf⟩
      have HF : Hid (Fx (fun k => k = b ∨ k = mb) w w1) := hf
      clear HN hf
      go_wp2
      rw [HE.out]
      exact ⟨rfl, HF.out, rfl⟩
    | ok x =>
    obtain ⟨rd, p4⟩ := x
    have hbrd := (rN_le hX (by rw [HS.out.2.1]; exact HU.out.rd.hp)).1
    have HN : Hid (Calls Tryd.prog 56 #[rptr b, .int .i64 1073741824] Wf fun e w' => e = .returned (.int .i64 (rd : Int)) ∧ Uw w0 a len cap b mb 28 w w' #[.int .i64 ((3 : Nat) : Int), .int .i64 (f : Int), .int .i64 (t : Int), .int .i64 (tm : Int), .int .i64 (i : Int), .int .i64 (lt : Int), .int .i64 (cm : Int), .int .i64 0, .bool false, .slice none 0 0, .int .i64 0, .int .i64 0, .slice none 0 0, .slice none 0 0] p4) := hN.mono fun e w' hg => by
      obtain ⟨v, h1, h2, h3, h4⟩ := hg.ok hX
      exact ⟨by rw [h1, h2], HU.out.step HS.out.2.2.1 h4 h3⟩
    have HR2 := (show Hid (R = _) from HR.out.trans (bindR_ok hX))
    have HBrd : Hid (rd ≤ 1073741824) := hbrd
    clear hN hX HR HU hbrd
    have HR := HR2
    clear HR2
    (try dsimp only at HR)
    go_wp2_with (fail)
    refine HN.out.mono ?_
    rintro e Wg ⟨rfl, hU⟩
    have y7 : Wg.cell? ⟨mb, 7, none⟩ = some (.int .i64 0) := pcell hU.bl rfl
    have g7 : Wg.frozen? ⟨mb, 7, none⟩ = false := free_blk hU.bl 7
    obtain ⟨Wh, hWh⟩ : ∃ Wq, Wq = Wg.setCell ⟨mb, 7, none⟩ (.int .i64 (rd : Int)) := ⟨_, rfl⟩
    have HU : Hid (Uw w0 a len cap b mb 28 w Wh #[.int .i64 ((3 : Nat) : Int), .int .i64 (f : Int), .int .i64 (t : Int), .int .i64 (tm : Int), .int .i64 (i : Int), .int .i64 (lt : Int), .int .i64 (cm : Int), .int .i64 (rd : Int), .bool false, .slice none 0 0, .int .i64 0, .int .i64 0, .slice none 0 0, .slice none 0 0] p4) := by show Uw w0 a len cap b mb 28 w Wh #[.int .i64 ((3 : Nat) : Int), .int .i64 (f : Int), .int .i64 (t : Int), .int .i64 (tm : Int), .int .i64 (i : Int), .int .i64 (lt : Int), .int .i64 (cm : Int), .int .i64 (rd : Int), .bool false, .slice none 0 0, .int .i64 0, .int .i64 0, .slice none 0 0, .slice none 0 0] p4; rw [hWh]; exact hU.set HS.out.2.2.1 HS.out.2.2.2 7 (.int .i64 (rd : Int))
    clear HN hU
    go_upto_region 12 with fail
    rw [← hWh]
    clear hWh y7 g7
    have hN := rentries HS.out.1 HU.out.rd i HBi.out
    have z4 : Wh.cell? ⟨mb, 4, none⟩ = some (.int .i64 (i : Int)) := pcell HU.out.bl rfl
    cases hX : rEntries L (i : Int) p4 with
    | error q =>
      have HE : Hid (R = .error q) := by show R = _; rw [HR.out, bindR_error hX]
      have HN : Hid (Calls Tryd.prog 73 #[rptr b, .int .i64 (i : Int)] Wh fun e w' => e = gaveUp q ∧ Fx (fun k => k = b ∨ k = mb) w w') := hN.mono fun e w' hg => ⟨(hg.error hX).1, HFX.out _ _ HU.out.fx (hg.error hX).2⟩
      clear hN hX HR HU HS HK HFX HBi HBlt HBcm HBrd
      go_wp2_with (fail)
      refine HN.out.mono ?_
      rintro e w1 ⟨rfl, hf⟩
      have HF : Hid (Fx (fun k => k = b ∨ k = mb) w w1) := hf
      clear HN hf
      go_wp2
      rw [HE.out]
      exact ⟨rfl, HF.out, rfl⟩
    | ok x =>
    obtain ⟨es, p5⟩ := x
    have HN : Hid (Calls Tryd.prog 73 #[rptr b, .int .i64 (i : Int)] Wh fun e w' => ∃ v xs, e = .returned v ∧ xs.map EnP.e = es ∧ OwnE w' w.heap.size v xs ∧ xs.length ≤ 4 ∧ Uw w0 a len cap b mb 28 w w' #[.int .i64 ((3 : Nat) : Int), .int .i64 (f : Int), .int .i64 (t : Int), .int .i64 (tm : Int), .int .i64 (i : Int), .int .i64 (lt : Int), .int .i64 (cm : Int), .int .i64 (rd : Int), .bool false, .slice none 0 0, .int .i64 0, .int .i64 0, .slice none 0 0, .slice none 0 0] p5) := hN.mono fun e w' hg => by
      obtain ⟨v, h1, ⟨xs, h2, h5, h6⟩, h3, h4⟩ := hg.ok hX
      exact ⟨v, xs, h1, h2, h5.lower HU.out.fx.size, h6, HU.out.step HS.out.2.2.1 h4 h3⟩
    have HR2 := (show Hid (R = _) from HR.out.trans (bindR_ok hX))
    clear hN hX HR HU
    have HR := HR2
    clear HR2
    (try dsimp only at HR)
    go_wp2_with (fail)
    refine HN.out.mono ?_
    rintro e Wi ⟨v, xs, rfl, hxs, hown, hxl, hU⟩
    obtain ⟨ea, ec, hv⟩ := hown.slice
    subst hv
    obtain ⟨en, hen⟩ : ∃ en, xs.length = en := ⟨_, rfl⟩
    rw [hen] at hown ⊢
    have HXS : Hid (OwnE Wi w.heap.size (.slice ea en ec) xs ∧ xs.map EnP.e = es ∧ xs.length = en ∧ en ≤ 4) := ⟨hown, hxs, hen, by omega⟩
    clear z4 hown hxs hxl hen
    have y9 : Wi.cell? ⟨mb, 9, none⟩ = some (.slice none 0 0) := pcell hU.bl rfl
    have g9 : Wi.frozen? ⟨mb, 9, none⟩ = false := free_blk hU.bl 9
    obtain ⟨Wj, hWj⟩ : ∃ Wq, Wq = Wi.setCell ⟨mb, 9, none⟩ (.slice ea en ec) := ⟨_, rfl⟩
    have HU : Hid (Uw w0 a len cap b mb 28 w Wj #[.int .i64 ((3 : Nat) : Int), .int .i64 (f : Int), .int .i64 (t : Int), .int .i64 (tm : Int), .int .i64 (i : Int), .int .i64 (lt : Int), .int .i64 (cm : Int), .int .i64 (rd : Int), .bool false, .slice ea en ec, .int .i64 0, .int .i64 0, .slice none 0 0, .slice none 0 0] p5) := by show Uw w0 a len cap b mb 28 w Wj #[.int .i64 ((3 : Nat) : Int), .int .i64 (f : Int), .int .i64 (t : Int), .int .i64 (tm : Int), .int .i64 (i : Int), .int .i64 (lt : Int), .int .i64 (cm : Int), .int .i64 (rd : Int), .bool false, .slice ea en ec, .int .i64 0, .int .i64 0, .slice none 0 0, .slice none 0 0] p5; rw [hWj]; exact hU.set HS.out.2.2.1 HS.out.2.2.2 9 (.slice ea en ec)
    have HXJ : Hid (OwnE Wj w.heap.size (.slice ea en ec) xs ∧ xs.map EnP.e = es ∧ xs.length = en ∧ en ≤ 4) := ⟨HXS.out.1.keep (S := fun k => k = mb) (by rw [hWj]; exact Fx.set (S := fun k => k = mb) (Fx.refl _ Wi) rfl 9 _) (fun k hk => by have := HK.out; omega), HXS.out.2⟩
    clear HN hU HXS
    go_wp2_with fail
    go_end0
    rw [← hWj]
    clear hWj y9 g9
    rw [HR.out]
    have hel : es.length = en := by rw [← HXJ.out.2.1, List.length_map, HXJ.out.2.2.1]
    have hfx := HU.out.fx
    have hbl := HU.out.bl
    have hrd := HU.out.rd
    refine ⟨hfx, rfl, ⟨ea, ec, none, 0, none, 0⟩, ?_, ⟨⟨xs, HXJ.out.2.1, ?_, by have := HXJ.out.2.2; omega⟩, NewN.nil _ _ _ (fun x hx => by cases hx), NewB.nil _ _, Nat.zero_le _, Nat.zero_le _, by
        intro z hz
        simp [ltB] at hz
        have hKo := HK.out
        have hBi := HBi.out
        have hBlt := HBlt.out
        have hBcm := HBcm.out
        have hBrd := HBrd.out
        rcases hz with rfl | rfl | rfl | rfl | rfl | rfl | rfl | rfl | rfl | rfl <;> omega⟩, hrd⟩
    · show Wj.heap[mb]? = some (.cells #[.int .i64 ((3 : Nat) : Int), .int .i64 (f : Int), .int .i64 (t : Int), .int .i64 (tm : Int), .int .i64 (i : Int), .int .i64 (lt : Int), .int .i64 (cm : Int), .int .i64 (rd : Int), .bool false, .slice ea es.length ec, .int .i64 0, .int .i64 0, .slice none 0 0, .slice none 0 0] 28 (0, 0))
      rw [hel]
      exact hbl
    · show OwnE Wj w.heap.size (.slice ea es.length ec) xs
      rw [hel]
      exact HXJ.out.1
  by_cases k4 : k = 4
  · subst k4
    have HR : Hid (R = _) := HRR.out.symm.trans (by unfold rKind; rw [if_neg (by omega), if_neg (by omega), if_neg (by omega), if_pos rfl])
    clear HRR
    have hN := rok HS.out.1 HU.out.rd
    cases hX : rN L 1 p with
    | error q =>
      have HE : Hid (R = .error q) := by show R = _; rw [HR.out, bindR_error hX]
      have HN : Hid (Calls Tryd.prog 72 #[rptr b] w fun e w' => e = gaveUp q ∧ Fx (fun k => k = b ∨ k = mb) w w') := hN.mono fun e w' hg => ⟨(hg.error hX).1, HFX.out _ _ HU.out.fx (hg.error hX).2⟩
      clear hN hX HR HU HS HK HFX
      go_wp2_with (fail)
      refine HN.out.mono ?_
      rintro e w1 ⟨rfl, hf⟩
      have HF : Hid (Fx (fun k => k = b ∨ k = mb) w w1) := hf
      clear HN hf
      go_wp2
      rw [HE.out]
      exact ⟨rfl, HF.out, rfl⟩
    | ok x =>
    obtain ⟨o, p1⟩ := x
    have HN : Hid (Calls Tryd.prog 72 #[rptr b] w fun e w' => e = .returned (.bool (o == 1)) ∧ Uw w0 a len cap b mb 28 w w' #[.int .i64 ((4 : Nat) : Int), .int .i64 (f : Int), .int .i64 (t : Int), .int .i64 (tm : Int), .int .i64 0, .int .i64 0, .int .i64 0, .int .i64 0, .bool false, .slice none 0 0, .int .i64 0, .int .i64 0, .slice none 0 0, .slice none 0 0] p1) := hN.mono fun e w' hg => by
      obtain ⟨v, h1, h2, h3, h4⟩ := hg.ok hX
      exact ⟨by rw [h1, h2], HU.out.step HS.out.2.2.1 h4 h3⟩
    have HR2 := (show Hid (R = _) from HR.out.trans (bindR_ok hX))
    clear hN hX HR HU
    have HR := HR2
    clear HR2
    (try dsimp only at HR)
    obtain ⟨ob, hob⟩ : ∃ ob, (o == 1) = ob := ⟨_, rfl⟩
    rw [hob] at HN
    have HOB : Hid ((o == 1) = ob) := hob
    clear hob
    go_wp2_with (fail)
    refine HN.out.mono ?_
    rintro e Wa ⟨rfl, hU⟩
    have y8 : Wa.cell? ⟨mb, 8, none⟩ = some (.bool false) := pcell hU.bl rfl
    have g8 : Wa.frozen? ⟨mb, 8, none⟩ = false := free_blk hU.bl 8
    obtain ⟨Wb, hWb⟩ : ∃ Wq, Wq = Wa.setCell ⟨mb, 8, none⟩ (.bool ob) := ⟨_, rfl⟩
    have HU : Hid (Uw w0 a len cap b mb 28 w Wb #[.int .i64 ((4 : Nat) : Int), .int .i64 (f : Int), .int .i64 (t : Int), .int .i64 (tm : Int), .int .i64 0, .int .i64 0, .int .i64 0, .int .i64 0, .bool ob, .slice none 0 0, .int .i64 0, .int .i64 0, .slice none 0 0, .slice none 0 0] p1) := by show Uw w0 a len cap b mb 28 w Wb #[.int .i64 ((4 : Nat) : Int), .int .i64 (f : Int), .int .i64 (t : Int), .int .i64 (tm : Int), .int .i64 0, .int .i64 0, .int .i64 0, .int .i64 0, .bool ob, .slice none 0 0, .int .i64 0, .int .i64 0, .slice none 0 0, .slice none 0 0] p1; rw [hWb]; exact hU.set HS.out.2.2.1 HS.out.2.2.2 8 (.bool ob)
    clear HN hU
    go_upto_region 15 with fail
    rw [← hWb]
    clear hWb y8 g8
    have hN := rnum HS.out.1 HU.out.rd 999999 (by omega)
    cases hX : rN L 999999 p1 with
    | error q =>
      have HE : Hid (R = .error q) := by show R = _; rw [HR.out, bindR_error hX]
      have HN : Hid (Calls Tryd.prog 56 #[rptr b, .int .i64 999999] Wb fun e w' => e = gaveUp q ∧ Fx (fun k => k = b ∨ k = mb) w w') := hN.mono fun e w' hg => ⟨(hg.error hX).1, HFX.out _ _ HU.out.fx (hg.error hX).2⟩
      clear hN hX HR HU HS HK HFX HOB
      go_wp2_with (fail)
      refine HN.out.mono ?_
      rintro e w1 ⟨rfl, hf⟩
      have HF : Hid (Fx (fun k => k = b ∨ k = mb) w w1) := hf
      clear HN hf
      go_wp2
      rw [HE.out]
      exact ⟨rfl, HF.out, rfl⟩
    | ok x =>
    obtain ⟨i, p2⟩ := x
    have hbi := (rN_le hX (by rw [HS.out.2.1]; exact HU.out.rd.hp)).1
    have HN : Hid (Calls Tryd.prog 56 #[rptr b, .int .i64 999999] Wb fun e w' => e = .returned (.int .i64 (i : Int)) ∧ Uw w0 a len cap b mb 28 w w' #[.int .i64 ((4 : Nat) : Int), .int .i64 (f : Int), .int .i64 (t : Int), .int .i64 (tm : Int), .int .i64 0, .int .i64 0, .int .i64 0, .int .i64 0, .bool ob, .slice none 0 0, .int .i64 0, .int .i64 0, .slice none 0 0, .slice none 0 0] p2) := hN.mono fun e w' hg => by
      obtain ⟨v, h1, h2, h3, h4⟩ := hg.ok hX
      exact ⟨by rw [h1, h2], HU.out.step HS.out.2.2.1 h4 h3⟩
    have HR2 := (show Hid (R = _) from HR.out.trans (bindR_ok hX))
    have HBi : Hid (i ≤ 999999) := hbi
    clear hN hX HR HU hbi
    have HR := HR2
    clear HR2
    (try dsimp only at HR)
    go_wp2_with (fail)
    refine HN.out.mono ?_
    rintro e Wc ⟨rfl, hU⟩
    have y4 : Wc.cell? ⟨mb, 4, none⟩ = some (.int .i64 0) := pcell hU.bl rfl
    have g4 : Wc.frozen? ⟨mb, 4, none⟩ = false := free_blk hU.bl 4
    obtain ⟨Wd, hWd⟩ : ∃ Wq, Wq = Wc.setCell ⟨mb, 4, none⟩ (.int .i64 (i : Int)) := ⟨_, rfl⟩
    have HU : Hid (Uw w0 a len cap b mb 28 w Wd #[.int .i64 ((4 : Nat) : Int), .int .i64 (f : Int), .int .i64 (t : Int), .int .i64 (tm : Int), .int .i64 (i : Int), .int .i64 0, .int .i64 0, .int .i64 0, .bool ob, .slice none 0 0, .int .i64 0, .int .i64 0, .slice none 0 0, .slice none 0 0] p2) := by show Uw w0 a len cap b mb 28 w Wd #[.int .i64 ((4 : Nat) : Int), .int .i64 (f : Int), .int .i64 (t : Int), .int .i64 (tm : Int), .int .i64 (i : Int), .int .i64 0, .int .i64 0, .int .i64 0, .bool ob, .slice none 0 0, .int .i64 0, .int .i64 0, .slice none 0 0, .slice none 0 0] p2; rw [hWd]; exact hU.set HS.out.2.2.1 HS.out.2.2.2 4 (.int .i64 (i : Int))
    clear HN hU
    go_upto_region 16 with fail
    rw [← hWd]
    clear hWd y4 g4
    have hN := rnum HS.out.1 HU.out.rd 1073741824 (by omega)
    cases hX : rN L 1073741824 p2 with
    | error q =>
      have HE : Hid (R = .error q) := by show R = _; rw [HR.out, bindR_error hX]
      have HN : Hid (Calls Tryd.prog 56 #[rptr b, .int .i64 1073741824] Wd fun e w' => e = gaveUp q ∧ Fx (fun k => k = b ∨ k = mb) w w') := hN.mono fun e w' hg => ⟨(hg.error hX).1, HFX.out _ _ HU.out.fx (hg.error hX).2⟩
      clear hN hX HR HU HS HK HFX HBi HOB
      go_wp2_with (fail)
      refine HN.out.mono ?_
      rintro e w1 ⟨rfl, hf⟩
      have HF : Hid (Fx (fun k => k = b ∨ k = mb) w w1) := hf
      clear HN hf
      go_wp2
      rw [HE.out]
      exact ⟨rfl, HF.out, rfl⟩
    | ok x =>
    obtain ⟨rd, p3⟩ := x
    have hbrd := (rN_le hX (by rw [HS.out.2.1]; exact HU.out.rd.hp)).1
    have HN : Hid (Calls Tryd.prog 56 #[rptr b, .int .i64 1073741824] Wd fun e w' => e = .returned (.int .i64 (rd : Int)) ∧ Uw w0 a len cap b mb 28 w w' #[.int .i64 ((4 : Nat) : Int), .int .i64 (f : Int), .int .i64 (t : Int), .int .i64 (tm : Int), .int .i64 (i : Int), .int .i64 0, .int .i64 0, .int .i64 0, .bool ob, .slice none 0 0, .int .i64 0, .int .i64 0, .slice none 0 0, .slice none 0 0] p3) := hN.mono fun e w' hg => by
      obtain ⟨v, h1, h2, h3, h4⟩ := hg.ok hX
      exact ⟨by rw [h1, h2], HU.out.step HS.out.2.2.1 h4 h3⟩
    have HR2 := (show Hid (R = _) from HR.out.trans (bindR_ok hX))
    have HBrd : Hid (rd ≤ 1073741824) := hbrd
    clear hN hX HR HU hbrd
    have HR := HR2
    clear HR2
    (try dsimp only at HR)
    go_wp2_with (fail)
    refine HN.out.mono ?_
    rintro e We ⟨rfl, hU⟩
    have y7 : We.cell? ⟨mb, 7, none⟩ = some (.int .i64 0) := pcell hU.bl rfl
    have g7 : We.frozen? ⟨mb, 7, none⟩ = false := free_blk hU.bl 7
    obtain ⟨Wf, hWf⟩ : ∃ Wq, Wq = We.setCell ⟨mb, 7, none⟩ (.int .i64 (rd : Int)) := ⟨_, rfl⟩
    have HU : Hid (Uw w0 a len cap b mb 28 w Wf #[.int .i64 ((4 : Nat) : Int), .int .i64 (f : Int), .int .i64 (t : Int), .int .i64 (tm : Int), .int .i64 (i : Int), .int .i64 0, .int .i64 0, .int .i64 (rd : Int), .bool ob, .slice none 0 0, .int .i64 0, .int .i64 0, .slice none 0 0, .slice none 0 0] p3) := by show Uw w0 a len cap b mb 28 w Wf #[.int .i64 ((4 : Nat) : Int), .int .i64 (f : Int), .int .i64 (t : Int), .int .i64 (tm : Int), .int .i64 (i : Int), .int .i64 0, .int .i64 0, .int .i64 (rd : Int), .bool ob, .slice none 0 0, .int .i64 0, .int .i64 0, .slice none 0 0, .slice none 0 0] p3; rw [hWf]; exact hU.set HS.out.2.2.1 HS.out.2.2.2 7 (.int .i64 (rd : Int))
    clear HN hU
    go_wp2_with fail
    go_end0
    rw [← hWf]
    clear hWf y7 g7
    rw [HR.out, HOB.out]
    refine ⟨HU.out.fx, rfl, ⟨none, 0, none, 0, none, 0⟩, HU.out.bl, ⟨⟨[], rfl, ownE_nil _ _, Nat.zero_le _⟩, NewN.nil _ _ _ (fun x hx => by cases hx), NewB.nil _ _, Nat.zero_le _, Nat.zero_le _, by
        intro z hz
        simp [ltB] at hz
        have hKo := HK.out
        have hBi := HBi.out
        have hBrd := HBrd.out
        rcases hz with rfl | rfl | rfl | rfl | rfl | rfl | rfl | rfl | rfl | rfl <;> omega⟩, HU.out.rd⟩
  by_cases k5 : k = 5
  · subst k5
    have HR : Hid (R = _) := HRR.out.symm.trans (by unfold rKind; rw [if_neg (by omega), if_neg (by omega), if_neg (by omega), if_neg (by omega), if_pos rfl])
    clear HRR
    have hN := rsnap HS.out.1 HU.out.rd
    cases hX : rSn L p with
    | error q =>
      have HE : Hid (R = .error q) := by show R = _; rw [HR.out, bindR_error hX]
      have HN : Hid (Calls Tryd.prog 74 #[rptr b] w fun e w' => e = gaveUp q ∧ Fx (fun k => k = b ∨ k = mb) w w') := hN.mono fun e w' hg => ⟨(hg.error hX).1, HFX.out _ _ HU.out.fx (hg.error hX).2⟩
      clear hN hX HR HU HS HK HFX
      go_wp2_with (fail)
      refine HN.out.mono ?_
      rintro e w1 ⟨rfl, hf⟩
      have HF : Hid (Fx (fun k => k = b ∨ k = mb) w w1) := hf
      clear HN hf
      go_wp2
      rw [HE.out]
      exact ⟨rfl, HF.out, rfl⟩
    | ok xx =>
    obtain ⟨x, p1⟩ := xx
    have HN : Hid (Calls Tryd.prog 74 #[rptr b] w fun e w' => ∃ na nc da dc, e = .returned (.agg #[.int .i64 (x.X : Int), .int .i64 (x.T : Int), .slice na x.ns.length nc, .slice da x.s.length dc]) ∧ (NewN w' w.heap.size na (natI x.ns) ∧ NewB w' w.heap.size da dc x.s ∧ x.ns.length ≤ 5 ∧ x.s.length ≤ 300000 ∧ x.X ≤ 999999 ∧ x.T ≤ 999999) ∧ Uw w0 a len cap b mb 28 w w' #[.int .i64 ((5 : Nat) : Int), .int .i64 (f : Int), .int .i64 (t : Int), .int .i64 (tm : Int), .int .i64 0, .int .i64 0, .int .i64 0, .int .i64 0, .bool false, .slice none 0 0, .int .i64 0, .int .i64 0, .slice none 0 0, .slice none 0 0] p1) := hN.mono fun e w' hg => by
      obtain ⟨v, h1, ⟨na, nc, da, dc, h2, h5⟩, h3, h4⟩ := hg.ok hX
      exact ⟨na, nc, da, dc, by rw [h1, h2], h5, HU.out.step HS.out.2.2.1 h4 h3⟩
    have HR2 := (show Hid (R = _) from HR.out.trans (bindR_ok hX))
    clear hN hX HR HU
    have HR := HR2
    clear HR2
    (try dsimp only at HR)
    obtain ⟨nn, hnn⟩ : ∃ nn, x.ns.length = nn := ⟨_, rfl⟩
    obtain ⟨dn, hdn⟩ : ∃ dn, x.s.length = dn := ⟨_, rfl⟩
    rw [hnn, hdn] at HN
    have HLN : Hid (x.ns.length = nn ∧ x.s.length = dn) := ⟨hnn, hdn⟩
    clear hnn hdn
    go_wp2_with (fail)
    refine HN.out.mono ?_
    rintro e Wa ⟨na, nc, da, dc, rfl, hnew, hU⟩
    have y10 : Wa.cell? ⟨mb, 10, none⟩ = some (.int .i64 0) := pcell hU.bl rfl
    have g10 : Wa.frozen? ⟨mb, 10, none⟩ = false := free_blk hU.bl 10
    have y11 : Wa.cell? ⟨mb, 11, none⟩ = some (.int .i64 0) := pcell hU.bl rfl
    have g11 : Wa.frozen? ⟨mb, 11, none⟩ = false := free_blk hU.bl 11
    have y12 : Wa.cell? ⟨mb, 12, none⟩ = some (.slice none 0 0) := pcell hU.bl rfl
    have g12 : Wa.frozen? ⟨mb, 12, none⟩ = false := free_blk hU.bl 12
    have y13 : Wa.cell? ⟨mb, 13, none⟩ = some (.slice none 0 0) := pcell hU.bl rfl
    have g13 : Wa.frozen? ⟨mb, 13, none⟩ = false := free_blk hU.bl 13
    obtain ⟨Wb, hWb⟩ : ∃ Wq, Wq = ((((Wa.setCell ⟨mb, 10, none⟩ (.int .i64 (x.X : Int))).setCell ⟨mb, 11, none⟩ (.int .i64 (x.T : Int))).setCell ⟨mb, 12, none⟩ (.slice na nn nc)).setCell ⟨mb, 13, none⟩ (.slice da dn dc)) := ⟨_, rfl⟩
    have hs0 := hU.set HS.out.2.2.1 HS.out.2.2.2 10 (.int .i64 (x.X : Int))
    have hs1 := hs0.set HS.out.2.2.1 HS.out.2.2.2 11 (.int .i64 (x.T : Int))
    have hs2 := hs1.set HS.out.2.2.1 HS.out.2.2.2 12 (.slice na nn nc)
    have hs3 := hs2.set HS.out.2.2.1 HS.out.2.2.2 13 (.slice da dn dc)
    rw [← hWb] at hs3
    have HU : Hid (Uw w0 a len cap b mb 28 w Wb #[.int .i64 ((5 : Nat) : Int), .int .i64 (f : Int), .int .i64 (t : Int), .int .i64 (tm : Int), .int .i64 0, .int .i64 0, .int .i64 0, .int .i64 0, .bool false, .slice none 0 0, .int .i64 (x.X : Int), .int .i64 (x.T : Int), .slice na nn nc, .slice da dn dc] p1) := hs3
    have hfb : Fx (fun k => k = mb) Wa Wb := by
      rw [hWb]
      exact Fx.set (S := fun k => k = mb) (Fx.set (S := fun k => k = mb) (Fx.set (S := fun k => k = mb) (Fx.set (S := fun k => k = mb) (Fx.refl _ Wa) rfl _ _) rfl _ _) rfl _ _) rfl _ _
    have hmw := HK.out.2.1
    have HNW : Hid (NewN Wb w.heap.size na (natI x.ns) ∧ NewB Wb w.heap.size da dc x.s ∧ x.ns.length ≤ 5 ∧ x.s.length ≤ 300000 ∧ x.X ≤ 999999 ∧ x.T ≤ 999999) := ⟨hnew.1.keep hfb (fun k hk => by omega), hnew.2.1.keep hfb (fun k hk => by omega), by rw [HLN.out.1, HLN.out.2]; exact hnew.2.2⟩
    clear HN hU hs0 hs1 hs2 hs3 hfb hmw hnew
    go_upto_region 19 with fail
    rw [← hWb]
    clear hWb y10 y11 y12 y13 g10 g11 g12 g13
    have hN := rnum HS.out.1 HU.out.rd 1073741824 (by omega)
    cases hX : rN L 1073741824 p1 with
    | error q =>
      have HE : Hid (R = .error q) := by show R = _; rw [HR.out, bindR_error hX]
      have HN : Hid (Calls Tryd.prog 56 #[rptr b, .int .i64 1073741824] Wb fun e w' => e = gaveUp q ∧ Fx (fun k => k = b ∨ k = mb) w w') := hN.mono fun e w' hg => ⟨(hg.error hX).1, HFX.out _ _ HU.out.fx (hg.error hX).2⟩
      clear hN hX HR HU HS HK HFX HNW HLN
      go_wp2_with (fail)
      refine HN.out.mono ?_
      rintro e w1 ⟨rfl, hf⟩
      have HF : Hid (Fx (fun k => k = b ∨ k = mb) w w1) := hf
      clear HN hf
      go_wp2
      rw [HE.out]
      exact ⟨rfl, HF.out, rfl⟩
    | ok x =>
    obtain ⟨rd, p2⟩ := x
    have hbrd := (rN_le hX (by rw [HS.out.2.1]; exact HU.out.rd.hp)).1
    have HN : Hid (Calls Tryd.prog 56 #[rptr b, .int .i64 1073741824] Wb fun e w' => e = .returned (.int .i64 (rd : Int)) ∧ Uw w0 a len cap b mb 28 w w' #[.int .i64 ((5 : Nat) : Int), .int .i64 (f : Int), .int .i64 (t : Int), .int .i64 (tm : Int), .int .i64 0, .int .i64 0, .int .i64 0, .int .i64 0, .bool false, .slice none 0 0, .int .i64 (x.X : Int), .int .i64 (x.T : Int), .slice na nn nc, .slice da dn dc] p2 ∧ Fx (fun k => k = b) Wb w') := hN.mono fun e w' hg => by
      obtain ⟨v, h1, h2, h3, h4⟩ := hg.ok hX
      exact ⟨by rw [h1, h2], HU.out.step HS.out.2.2.1 h4 h3, h4⟩
    have HR2 := (show Hid (R = _) from HR.out.trans (bindR_ok hX))
    have HBrd : Hid (rd ≤ 1073741824) := hbrd
    clear hN hX HR HU hbrd
    have HR := HR2
    clear HR2
    (try dsimp only at HR)
    go_wp2_with (fail)
    refine HN.out.mono ?_
    rintro e Wc ⟨rfl, hU, hfc⟩
    have y7 : Wc.cell? ⟨mb, 7, none⟩ = some (.int .i64 0) := pcell hU.bl rfl
    have g7 : Wc.frozen? ⟨mb, 7, none⟩ = false := free_blk hU.bl 7
    obtain ⟨Wd, hWd⟩ : ∃ Wq, Wq = Wc.setCell ⟨mb, 7, none⟩ (.int .i64 (rd : Int)) := ⟨_, rfl⟩
    have HU : Hid (Uw w0 a len cap b mb 28 w Wd #[.int .i64 ((5 : Nat) : Int), .int .i64 (f : Int), .int .i64 (t : Int), .int .i64 (tm : Int), .int .i64 0, .int .i64 0, .int .i64 0, .int .i64 (rd : Int), .bool false, .slice none 0 0, .int .i64 (x.X : Int), .int .i64 (x.T : Int), .slice na nn nc, .slice da dn dc] p2) := by show Uw w0 a len cap b mb 28 w Wd #[.int .i64 ((5 : Nat) : Int), .int .i64 (f : Int), .int .i64 (t : Int), .int .i64 (tm : Int), .int .i64 0, .int .i64 0, .int .i64 0, .int .i64 (rd : Int), .bool false, .slice none 0 0, .int .i64 (x.X : Int), .int .i64 (x.T : Int), .slice na nn nc, .slice da dn dc] p2; rw [hWd]; exact hU.set HS.out.2.2.1 HS.out.2.2.2 7 (.int .i64 (rd : Int))
    have hKo := HK.out
    have hfd : Fx (fun k => k = b ∨ k = mb) Wb Wd := (hfc.imp (fun k _ hk => .inl hk)).trans (by rw [hWd]; exact Fx.set (S := fun k => k = b ∨ k = mb) (Fx.refl _ Wc) (.inr rfl) 7 _)
    have HND : Hid (NewN Wd w.heap.size na (natI x.ns) ∧ NewB Wd w.heap.size da dc x.s ∧ x.ns.length ≤ 5 ∧ x.s.length ≤ 300000 ∧ x.X ≤ 999999 ∧ x.T ≤ 999999) := ⟨HNW.out.1.keep hfd (fun k hk => by omega), HNW.out.2.1.keep hfd (fun k hk => by omega), HNW.out.2.2⟩
    clear HN hU hfc hfd hKo HNW
    go_wp2_with fail
    go_end0
    rw [← hWd]
    clear hWd y7 g7
    rw [HR.out]
    have hfx := HU.out.fx
    have hbl := HU.out.bl
    have hrd := HU.out.rd
    have hnl : (natI x.ns).length = nn := by rw [← HLN.out.1]; exact List.length_map ..
    refine ⟨hfx, rfl, ⟨none, 0, na, nc, da, dc⟩, ?_, ⟨⟨[], rfl, ownE_nil _ _, Nat.zero_le _⟩, HND.out.1, HND.out.2.1, by show (natI x.ns).length ≤ 5; rw [hnl, ← HLN.out.1]; exact HND.out.2.2.1, HND.out.2.2.2.1, by
        intro z hz
        simp [ltB] at hz
        have hKo := HK.out
        have hND := HND.out
        have hBrd := HBrd.out
        rcases hz with rfl | rfl | rfl | rfl | rfl | rfl | rfl | rfl | rfl | rfl <;> omega⟩, hrd⟩
    show Wd.heap[mb]? = some (.cells #[.int .i64 ((5 : Nat) : Int), .int .i64 (f : Int), .int .i64 (t : Int), .int .i64 (tm : Int), .int .i64 0, .int .i64 0, .int .i64 0, .int .i64 (rd : Int), .bool false, .slice none 0 0, .int .i64 (x.X : Int), .int .i64 (x.T : Int), .slice na (natI x.ns).length nc, .slice da x.s.length dc] 28 (0, 0))
    rw [hnl, HLN.out.2]
    exact hbl
  have HE : Hid (R = .error 0) := by
    show R = _
    rw [← HRR.out]
    unfold rKind
    rw [if_neg k1, if_neg k2, if_neg k3, if_neg k4, if_neg k5]
  have q1 : ((k : Int) == 1) = false := by simp; omega
  have q2 : ((k : Int) == 2) = false := by simp; omega
  have q3 : ((k : Int) == 3) = false := by simp; omega
  have q4 : ((k : Int) == 4) = false := by simp; omega
  have q5 : ((k : Int) == 5) = false := by simp; omega
  have HG : Hid (Calls Tryd.prog 59 #[.int .i64 ((0 : Nat) : Int)] w fun e w' => e = gaveUp 0 ∧ w' = w) := giveUp_any w 0
  clear HRR k1 k2 k3 k4 k5
  go_wp2_with (fail)
  refine HG.out.mono ?_
  rintro e w1 ⟨rfl, hw⟩
  subst hw
  clear HG
  go_wp2
  rw [HE.out]
  exact ⟨rfl, HU.out.fx, rfl⟩
end Go.Proofs.YtmlihlnigojmpaaDoor
