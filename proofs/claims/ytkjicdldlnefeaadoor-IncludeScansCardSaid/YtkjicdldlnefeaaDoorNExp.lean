/- Expand (include); walked. -/
import Derived.Test.YtkjicdldlnefeaaDoorNTake
set_option linter.unusedVariables false
namespace Go.Proofs.YtkjicdldlnefeaaDoor
open Go.RowKit

theorem pgsX_of {w W : World} {xb : Nat} {v : Value} {l : List PgA} (h : PgsN w v l) (hb : Below w.heap.size w W) (hx : w.heap.size ≤ xb) : PgsX xb W v l := by
  obtain ⟨a, cap, rfl, hc⟩ := h
  refine ⟨a, cap, rfl, fun i s hs => ?_⟩
  obtain ⟨b, o, e, hbw, q0, q1, q2, q3⟩ := hc i s hs
  exact ⟨b, o, e, by omega, (hb.cell (p := ⟨b, o + i * 4, none⟩) hbw).trans q0, (hb.cell (p := ⟨b, o + i * 4 + 1, none⟩) hbw).trans q1, (hb.cell (p := ⟨b, o + i * 4 + 2, none⟩) hbw).trans q2, (hb.cell (p := ⟨b, o + i * 4 + 3, none⟩) hbw).trans q3⟩
theorem strsX_of {w W : World} {xb : Nat} {v : Value} {l : List StrA} (h : StrsN w v l) (hb : Below w.heap.size w W) (hx : w.heap.size ≤ xb) : StrsX xb W v l := by
  obtain ⟨a, cap, rfl, hc⟩ := h
  refine ⟨a, cap, rfl, fun i s hs => ?_⟩
  obtain ⟨b, o, e, hbw, q0⟩ := hc i s hs
  exact ⟨b, o, e, by omega, (hb.cell (p := ⟨b, o + i, none⟩) hbw).trans q0⟩
set_option maxHeartbeats 8000000 in
set_option maxRecDepth 8000 in
theorem nexpand_any (pages : List PgA) (hl : pages.length ≤ 9223372036854775000) (htx : ∀ p ∈ pages, p.text.length ≤ 200000000) (may : List StrA) (hm : may.length ≤ 9223372036854775000) (r : RfA) (vp vm : Value) (w : World) (hp : PgsN w vp pages) (hms : StrsN w vm may) :
    Calls Tryd.prog 16 #[vp, vm, aggR r] w fun e w' => (∃ v', e = .returned (.tuple #[strA (expandA pages may r).1, v', .int .i64 (expandA pages may r).2.2]) ∧ w'.ownsRow w.heap.size 24 3 v' (expandA pages may r).2.1.length (rfCs (expandA pages may r).2.1)) ∧ Below w.heap.size w w' := by
  obtain ⟨W1, hW1⟩ : ∃ W1, W1 = w.alloc (.cells #[strA r.tenant, strA r.doc, .int .i64 r.ver] 24) := ⟨_, rfl⟩
  have hs1 : W1.heap.size = w.heap.size + 1 := by rw [hW1]; simp
  obtain ⟨W2, hW2⟩ : ∃ W2, W2 = W1.alloc (.cells #[vp, vm, .slice none 0 0, .slice none 0 0, .int .i64 0] 59) := ⟨_, rfl⟩
  have hB1 : Below w.heap.size w W1 := by rw [hW1]; exact (Below.refl _ _).alloc (Nat.le_refl _) _
  have HB2 : Hid (Below w.heap.size w W2) := by show Below _ _ _; rw [hW2]; exact hB1.alloc hB1.size _
  have HK1 : Hid (W2.heap[w.heap.size]? = some (.cells #[strA r.tenant, strA r.doc, .int .i64 r.ver] 24 (0, 0))) := by show _ = _; rw [hW2]; refine blk_allocN ?_ _; rw [hW1]; exact blk_newN _ _ _
  have hX2 : ExM W2 (w.heap.size + 1) vp vm (.slice none 0 0) (.slice none 0 0) {} := ⟨by rw [hW2, ← hs1]; exact blk_newN _ _ _, World.ownsRow_nil _ _ _ _, World.ownsRow_nil _ _ _ _⟩
  have hT := ntake_all hl htx hm 10 r [] {} (w.heap.size + 1) vp vm (.slice none 0 0) (.slice none 0 0) (.slice none 0 0) W2 (by simp) (by simp) ⟨by simp, by simp, by simp⟩ hX2 (pgsX_of hp HB2.out (by omega)) (strsX_of hms HB2.out (by omega)) (World.ownsRow_nil _ _ _ _) (fun g hg => by cases hg)
  have HEx : Hid (expandA pages may r = if (takeA pages may 10 r [] {}).1 ≠ 0 then ([], [], (takeA pages may 10 r [] {}).1) else ((takeA pages may 10 r [] {}).2.out, (takeA pages may 10 r [] {}).2.met, 0)) := rfl
  generalize takeA pages may 10 r [] {} = TR at *
  obtain ⟨E, X⟩ := TR
  simp only at hT HEx
  generalize expandA pages may r = RES at *
  obtain ⟨ap, cp, rfl, _⟩ := hp
  obtain ⟨am, cm, rfl, _⟩ := hms
  obtain ⟨t, d, v⟩ := r
  simp only at HK1 hW1
  have HT : Hid (Calls Tryd.prog 29 #[.pointer (some ⟨w.heap.size + 1, 0, none⟩), .agg #[strA t, strA d, .int .i64 v], .slice none 0 0] W2 fun e w' => e = .returned (.int .i64 E) ∧ ∃ vo' vt', ExM w' (w.heap.size + 1) (.slice ap pages.length cp) (.slice am may.length cm) vo' vt' X ∧ w'.ownsRow (w.heap.size + 1 + 1) 24 3 (.slice none 0 0) 0 [] ∧ FrN (w.heap.size + 1) (.slice none 0 0) vt' none W2 w') := hT
  have y0 : W2.cell? ⟨w.heap.size, 0, none⟩ = some (strA t) := cell_blkN HK1.out (i := 0) rfl
  have y1 : W2.cell? ⟨w.heap.size, 1, none⟩ = some (strA d) := cell_blkN HK1.out (i := 1) rfl
  have y2 : W2.cell? ⟨w.heap.size, 2, none⟩ = some (.int .i64 v) := cell_blkN HK1.out (i := 2) rfl
  rw [hW2, hW1] at y0 y1 y2 HT
  clear hT hX2 hB1 hs1 HK1 hl htx hm
  show Calls Tryd.prog 16 #[.slice ap pages.length cp, .slice am may.length cm, .agg #[strA t, strA d, .int .i64 v]] w _
  go_enter Tryd.func16, Tryd.ntmps16
  go_wp2_with (go_at_call 29; refine Calls.mono HT.out ?_)
  rw [← hW1, ← hW2]
  rintro e wa3 ⟨rfl, vo3, vt3, hx3, _, hf3⟩
  have HX3 := (show Hid (ExM wa3 (w.heap.size + 1) (.slice ap pages.length cp) (.slice am may.length cm) vo3 vt3 X) from hx3)
  have HB3 : Hid (Below w.heap.size w wa3) := HB2.out.trans (hf3.bel.mono (by omega))
  clear hx3 hf3 HT y0 y1 y2 hW1 hW2 HB2
  by_cases hE : E = 0
  · subst hE
    have HR : Hid (RES = (X.out, X.met, 0)) := by show _ = _; rw [HEx.out, if_neg (by simp)]
    obtain ⟨ao, co, hvo⟩ := nrow_len HX3.out.out
    obtain ⟨at0, ct, hvt⟩ := nrow_len HX3.out.met
    subst hvo
    subst hvt
    have c2 : wa3.drew.cell? ⟨w.heap.size + 1, 2, none⟩ = some (.slice ao X.out.length co) := cell_blkN (w := wa3.drew) HX3.out.blk (i := 2) rfl
    have c3 : wa3.drew.cell? ⟨w.heap.size + 1, 3, none⟩ = some (.slice at0 X.met.length ct) := cell_blkN (w := wa3.drew) HX3.out.blk (i := 3) rfl
    have hcv := own_string (w := wa3.drew) HX3.out.out
    have HM3 := (show Hid (wa3.drew.ownsRow w.heap.size 24 3 (.slice at0 X.met.length ct) X.met.length (rfCs X.met)) from nrow_base (w := wa3.drew) HX3.out.met (by omega))
    have HBd := (show Hid (Below w.heap.size w wa3.drew) from below_drewM HB3.out)
    clear HEx HX3
    go_wp2
    go_region
    all_goals (go_wp2_with fail)
    all_goals go_ret3
    all_goals
      refine ⟨⟨.slice at0 X.met.length ct, by rw [HR.out]; first | done | rfl, ?_⟩, HBd.out⟩
      rw [HR.out]
      exact HM3.out
  · have heb : (E != 0) = true := by simpa using hE
    have HR : Hid (RES = ([], [], E)) := by show _ = _; rw [HEx.out, if_pos hE]
    clear HEx HX3 hE
    go_wp2
    go_ret3
    refine ⟨⟨.slice none 0 0, by rw [HR.out]; first | done | rfl, ?_⟩, HB3.out⟩
    rw [HR.out]
    exact World.ownsRow_nil _ _ _ _
end Go.Proofs.YtkjicdldlnefeaaDoor
