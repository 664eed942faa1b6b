/- line (include); walked. -/
import Derived.Test.YtkjicdldlnefeaaDoorNMeet
set_option linter.unusedVariables false
namespace Go.Proofs.YtkjicdldlnefeaaDoor
open Go.RowKit

/-- What take does, with so much fuel. -/
def TakeC (pages : List PgA) (may : List StrA) (f : Nat) : Prop := ∀ (r : RfA) (chain : List RfA) (x : ExA) (xb : Nat) (vp vm vo vt vc : Value) (w : World), chain.length ≤ 9 → 10 ≤ chain.length + f → WfX x → ExM w xb vp vm vo vt x → PgsX xb w vp pages → StrsX xb w vm may → w.ownsRow (xb + 1) 24 3 vc chain.length (rfCs chain) → (∀ g, vc.ownBlock = some g → vt.ownBlock ≠ some g) →
  Calls Tryd.prog 29 #[ptrX xb, aggR r, vc] w fun e w' => e = .returned (.int .i64 (takeA pages may f r chain x).1) ∧ ∃ vo' vt', ExM w' xb vp vm vo' vt' (takeA pages may f r chain x).2 ∧ w'.ownsRow (xb + 1) 24 3 vc chain.length (rfCs chain) ∧ FrN xb vt vt' vc.ownBlock w w'
theorem info5N : (Tryd.prog.info? 5).map (fun i => (i.zero, i.size, i.bytes)) = some (some (.int .u8 0), 1, 1) := by kernel_rfl
theorem bytes_app (a b : StrA) : Lib.byteCells (a ++ b) = Lib.byteCells a ++ Lib.byteCells b := by simp [Lib.byteCells]
theorem bytes_str (l : StrA) : Lib.strCells ⟨l.toArray⟩ = Lib.byteCells l := by simp [Lib.strCells, Lib.byteCells]
theorem out_done {W2 w3 w5 : World} {o : Obj} {xb n1 : Nat} {vp vm vo vt v1 v2 : Value} {x : ExA} {xs1 : List Value} {out' : StrA} (hA : ExM W2 xb vp vm vo vt x) (g1 : W2.grownBy w3 vo.ownBlock) (o1 : w3.ownsRow (xb + 1) 5 1 v1 n1 xs1) (g2 : (w3.alloc o).grownBy w5 v1.ownBlock) (o2 : w5.ownsRow (xb + 1) 5 1 v2 out'.length (Lib.byteCells out')) :
    w5.heap[xb]? = some (.cells #[vp, vm, vo, vt, .int .i64 (x.takes : Int)] 59 (0, 0)) ∧ ExM (w5.setCell ⟨xb, 2, none⟩ v2) xb vp vm v2 vt ⟨out', x.met, x.takes⟩ ∧ (∀ (b : Nat) (cs : Array Value) (t : TypeId), W2.heap[b]? = some (.cells cs t (0, 0)) → b ≠ xb → t ≠ 5 → (w5.setCell ⟨xb, 2, none⟩ v2).heap[b]? = some (.cells cs t (0, 0))) ∧ Below xb W2 (w5.setCell ⟨xb, 2, none⟩ v2) := by
  have step : ∀ (b : Nat) (cs : Array Value) (t : TypeId), W2.heap[b]? = some (.cells cs t (0, 0)) → t ≠ 5 → w5.heap[b]? = some (.cells cs t (0, 0)) := fun b cs t hb ht => by
    have h3 : w3.heap[b]? = some (.cells cs t (0, 0)) := (g1.block b (Array.getElem?_eq_some_iff.1 hb).1 (fun e => nrow_neq hA.out hb ht e.symm)).trans hb
    have h4 := blk_allocN h3 o
    exact (g2.block b (Array.getElem?_eq_some_iff.1 h4).1 (fun e => nrow_neq (World.ownsRow.alloc o1 o) h4 ht e.symm)).trans h4
  have hb5 := step xb _ _ hA.blk (by decide)
  refine ⟨hb5, ⟨set_blkN hb5 2 _, ?_, ?_⟩, ?_, ?_⟩
  · exact nrow_kept o2 fun g cs hg hBg hb => blk_setN hb (by omega) 2 _
  · exact nrow_kept hA.met fun g cs hg hBg hb => blk_setN (step g cs _ hb (by decide)) (by omega) 2 _
  · exact fun b cs t hb h1 h2 => blk_setN (step b cs t hb h2) (fun e => h1 e.symm) 2 _
  · have b1 : Below xb W2 w3 := (Below.refl xb W2).grown g1 (Nat.le_of_lt hA.lt) (fun k hk => by have := (World.ownsRow.lt hA.out k hk).1; omega)
    have b2 := b1.alloc (Nat.le_trans (Nat.le_of_lt hA.lt) b1.size) o
    exact (b2.grown g2 (Nat.le_trans (Nat.le_of_lt hA.lt) b2.size) (fun k hk => by have := (World.ownsRow.lt (World.ownsRow.alloc o1 o) k hk).1; omega)).setCell (Nat.le_refl _) _

set_option maxHeartbeats 8000000 in
set_option maxRecDepth 8000 in
theorem nline_any {pages : List PgA} {may : List StrA} {f : Nat} (hT : TakeC pages may f) (s : StrA) (hs : s.length ≤ 4294967296) (chain : List RfA) {x : ExA} {xb : Nat} {vp vm vo vt vc : Value} {w : World} (hc9 : chain.length ≤ 9) (hf : 10 ≤ chain.length + f) (hW : WfX x) (h : ExM w xb vp vm vo vt x) (hp : PgsX xb w vp pages) (hm : StrsX xb w vm may) (hvc : w.ownsRow (xb + 1) 24 3 vc chain.length (rfCs chain)) (hap : ∀ g, vc.ownBlock = some g → vt.ownBlock ≠ some g) :
    Calls Tryd.prog 49 #[ptrX xb, strA s, vc] w fun e w' => e = .returned (.int .i64 (lineA (fun r x => takeA pages may f r chain x) s x).1) ∧ ∃ vo' vt', ExM w' xb vp vm vo' vt' (lineA (fun r x => takeA pages may f r chain x) s x).2 ∧ w'.ownsRow (xb + 1) 24 3 vc chain.length (rfCs chain) ∧ FrN xb vt vt' vc.ownBlock w w' := by
  have HSc : Hid (∀ u, Calls Tryd.prog 10 #[strA s] u fun e w' => e = .returned (.tuple #[aggR (scanA s).1, .bool (scanA s).2]) ∧ Below u.heap.size u w') := fun u => nscan_any s (by omega) u
  have HL : Hid (lineA (fun r x => takeA pages may f r chain x) s x = if (scanA s).2 = true then takeA pages may f (scanA s).1 chain x else if 16384 < x.out.length + s.length + 1 then (7, x) else (0, ⟨x.out ++ s ++ [10], x.met, x.takes⟩)) := rfl
  have HTk : Hid (∀ (r : RfA) (u : World), Below w.heap.size w u → Calls Tryd.prog 29 #[ptrX xb, aggR r, vc] u fun e w' => e = .returned (.int .i64 (takeA pages may f r chain x).1) ∧ ∃ vo' vt', ExM w' xb vp vm vo' vt' (takeA pages may f r chain x).2 ∧ w'.ownsRow (xb + 1) 24 3 vc chain.length (rfCs chain) ∧ FrN xb vt vt' vc.ownBlock u w') := fun r u hu => hT r chain x xb vp vm vo vt vc u hc9 hf hW (h.below hu) (hp.below (hu.mono (Nat.le_of_lt h.lt))) (hm.below (hu.mono (Nat.le_of_lt h.lt))) (nrow_below hvc hu) hap
  generalize lineA (fun r x => takeA pages may f r chain x) s x = RES at *
  have HX := (show Hid (ExM w xb vp vm vo vt x) from h)
  have HVc := (show Hid (w.ownsRow (xb + 1) 24 3 vc chain.length (rfCs chain)) from hvc)
  have hxb := h.lt
  obtain ⟨ho1, _, _⟩ := hW
  obtain ⟨ac, cc, hvc2⟩ := nrow_len hvc
  obtain ⟨ao, co, hvo2⟩ := nrow_len h.out
  subst hvc2
  subst hvo2
  generalize scanA s = SC at *
  obtain ⟨⟨st, sd, sv⟩, SB⟩ := SC
  simp only at HSc HL
  have HFr := (show Hid (∀ u, Below w.heap.size w u → FrN xb vt vt (Value.slice ac chain.length cc).ownBlock w u) from fun u hu => FrN.of_below hu (Nat.le_of_lt hxb))
  clear h hvc hp hm hap hT hf
  go_enter Tryd.func49, Tryd.ntmps49
  go_wp2_with (go_at_call 10; refine Calls.mono (HSc.out _) ?_)
  rintro e wa1 ⟨rfl, hb1⟩
  obtain ⟨W2, hW2⟩ : ∃ W2, W2 = wa1.alloc (.cells #[strA st, strA sd, .int .i64 sv] 24) := ⟨_, rfl⟩
  have HB2 : Hid (Below w.heap.size w W2) := by show Below _ _ _; rw [hW2]; exact Below.alloc hb1 hb1.size _
  clear hb1 HSc
  cases SB
  · have HX2 := (show Hid (ExM W2 xb vp vm (.slice ao x.out.length co) vt x) from HX.out.below HB2.out)
    have HV2 := (show Hid (W2.ownsRow (xb + 1) 24 3 (.slice ac chain.length cc) chain.length (rfCs chain)) from nrow_below HVc.out HB2.out)
    have hc2 : W2.cell? ⟨xb, 2, none⟩ = some (.slice ao x.out.length co) := cell_blkN HX2.out.blk (i := 2) rfl
    have hoi : (x.out.length : Int) ≤ 16384 := by omega
    have hsi : (s.length : Int) ≤ 4294967296 := by omega
    rw [hW2] at hc2
    by_cases hbig : 16384 < x.out.length + s.length + 1
    · have hbi : (16384 : Int) < (x.out.length : Int) + (s.length : Int) + 1 := by omega
      have HR : Hid (RES = (7, x)) := by show _ = _; rw [HL.out, if_neg (by simp), if_pos hbig]
      clear HL HTk
      go_wp2
      rw [← hW2]
      go_ret
      refine ⟨(by rw [HR.out]; first | done | rfl), _, _, (by rw [HR.out]; exact HX2.out), HV2.out, HFr.out _ HB2.out⟩
    · have hbi : (x.out.length : Int) + (s.length : Int) + 1 ≤ 16384 := by omega
      have HR : Hid (RES = (0, ⟨x.out ++ s ++ [10], x.met, x.takes⟩)) := by show _ = _; rw [HL.out, if_neg (by simp), if_neg hbig]
      obtain ⟨i0, hi, hz0, hz1, hz2⟩ := info_parts info5N
      have HOw := (show Hid (World.ownsRow (wa1.alloc (.cells #[strA st, strA sd, .int .i64 sv] 24)) (xb + 1) 5 1 (.slice ao x.out.length co) x.out.length (Lib.byteCells x.out)) from by have := HX2.out.out; rw [hW2] at this; exact this)
      have HSz : Hid (xb + 1 ≤ (wa1.alloc (.cells #[strA st, strA sd, .int .i64 sv] 24)).heap.size) := by have := HX2.out.lt; rw [hW2] at this; exact this
      have HN : Hid (x.out.length + s.length + 1 ≤ 16384) := by show _ ≤ _; omega
      have hd : decide ((16384 : Int) < (x.out.length : Int) + (s.length : Int) + 1) = false := decide_eq_false (by omega)
      clear HL HTk hs ho1 hbig
      go_wp2_with (at_builtin; refine Lib.wpList_append_own_string _ rfl _ _ 54 9 rfl (xb + 1) 5 i0 Tryd.underlying54 Tryd.underlying9 hi hz0 hz1 hz2 _ _ _ rfl HOw.out ⟨s.toArray⟩ rfl ?c1 ?c2 HSz.out ?_)
      case c1 => have := HN.out; rw [size_list]; unfold maxLen; omega
      case c2 => have := HN.out; rw [size_list]; omega
      intro v3 w3 hown3 hgrow3 _
      rw [bytes_str, ← bytes_app] at hown3
      rw [← hW2] at hgrow3
      have HO3 := (show Hid (w3.ownsRow (xb + 1) 5 1 v3 (x.out ++ s).length (Lib.byteCells (x.out ++ s))) from (by rw [List.length_append]; exact hown3))
      have HG3 := (show Hid (W2.grownBy w3 (Value.slice ao x.out.length co).ownBlock) from hgrow3)
      obtain ⟨a3, c3, hv3⟩ := nrow_len HO3.out
      subst hv3
      have HLo : Hid ((x.out ++ s).length ≤ 16384) := by have := HN.out; show _ ≤ _; rw [List.length_append]; omega
      have HSz3 : Hid (xb + 1 ≤ w3.heap.size) := by
        have := HG3.out.size
        have := HX2.out.lt
        show _ ≤ _
        omega
      clear hown3 hgrow3 hc2 HOw HSz
      go_wp2_with (at_builtin; refine wpList_append_own_at _ rfl _ _ 54 rfl (xb + 1) 5 i0 (.int .u8 0) 1 1 Tryd.underlying54 hi hz0 hz1 hz2 rfl (by decide) _ _ _ rfl (World.ownsRow.alloc HO3.out _) ⟨w3.heap.size, 0, none⟩ 1 1 [.int .u8 10] rfl rfl (lit_cells _ _ _) ?d3 ?d4 ?d5 ?d6 ?_)
      case d3 => first | (intro u hu; simp at hu; subst hu; rfl) | rfl
      case d4 => have := HLo.out; unfold maxLen; omega
      case d5 => have := HLo.out; omega
      case d6 => have := HSz3.out; simp; omega
      intro v5 w5 hown5 hgrow5 _ _
      have ho5 : w5.ownsRow (xb + 1) 5 1 v5 (x.out ++ s ++ [10]).length (Lib.byteCells (x.out ++ s ++ [10])) := by
        rw [List.length_append, List.length_append, bytes_app]
        exact hown5
      rw [← List.length_append] at hgrow5
      have hD := out_done HX2.out HG3.out HO3.out hgrow5 ho5
      have HD := (show Hid _ from hD)
      have q0 := cell_blkN hD.1 (i := 2) rfl
      have q1 := free_blkN hD.1 2
      obtain ⟨a5, c5, hv5⟩ := nrow_len ho5
      subst hv5
      clear hD ho5 hown5 hgrow5 HO3 HG3 HSz3
      obtain ⟨N5, hN5⟩ : ∃ N5, N5 = (x.out ++ s ++ [10]).length := ⟨_, rfl⟩
      rw [← hN5] at HD ⊢
      clear hN5
      go_wp2
      go_ret
      refine ⟨(by rw [HR.out]; first | done | rfl), _, _, (by rw [HR.out]; exact HD.out.2.1), ?_, ?_⟩
      · exact nrow_kept HV2.out fun g cs hg hBg hb => HD.out.2.2.1 g cs _ hb (by omega) (by decide)
      · refine FrN.trans (HFr.out _ HB2.out) (C1 := (Value.slice ac chain.length cc).ownBlock) ⟨HD.out.2.2.2, fun b cs t hb h1 h2 _ _ => HD.out.2.2.1 b cs t hb h1 h2, fun g hg => .inl hg⟩ (fun g hg => .inl hg)
  · have HR : Hid (RES = takeA pages may f ⟨st, sd, sv⟩ chain x) := by show _ = _; rw [HL.out, if_pos rfl]
    have hTk2 := HTk.out ⟨st, sd, sv⟩ W2 HB2.out
    rw [← HR.out, hW2] at hTk2
    have HT2 := (show Hid (Calls Tryd.prog 29 #[ptrX xb, .agg #[strA st, strA sd, .int .i64 sv], .slice ac chain.length cc] (wa1.alloc (.cells #[strA st, strA sd, .int .i64 sv] 24)) _) from hTk2)
    clear HL HTk hTk2
    go_wp2_with (go_at_call 29; refine Calls.mono HT2.out ?_)
    rw [← hW2]
    rintro e wa4 ⟨rfl, vo4, vt4, hx4, hc4, hf4⟩
    have H4 := (show Hid (ExM wa4 xb vp vm vo4 vt4 RES.2 ∧ wa4.ownsRow (xb + 1) 24 3 (.slice ac chain.length cc) chain.length (rfCs chain) ∧ FrN xb vt vt4 (Value.slice ac chain.length cc).ownBlock W2 wa4) from ⟨hx4, hc4, hf4⟩)
    clear hx4 hc4 hf4 HT2
    go_wp2
    go_ret
    exact ⟨rfl, _, _, H4.out.1, H4.out.2.1, FrN.trans (HFr.out _ HB2.out) H4.out.2.2 (fun g hg => .inl hg)⟩
end Go.Proofs.YtkjicdldlnefeaaDoor
