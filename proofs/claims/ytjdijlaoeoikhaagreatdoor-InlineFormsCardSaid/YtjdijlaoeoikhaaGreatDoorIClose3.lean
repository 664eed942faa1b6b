/- Package inline: close; walked. -/
import Derived.Test.YtjdijlaoeoikhaaGreatDoorG31
set_option linter.unusedVariables false
namespace Go.Proofs.YtjdijlaoeoikhaaGreatDoor
open Go.RowKit

set_option maxHeartbeats 16000000 in
set_option maxRecDepth 20000 in
theorem iclose_last {G : Nat → Obj → Prop} {B sb N M : Nat} {w : World} {vp vo : Value} {xs : List Value} {s : Sn} (h : SnR G B w sb vp vo xs s) (ho : s.Ok N M) (hN : N ≤ 4294967296) {i k left : Nat} {p : Pt} (hi : s.openers[i]? = some k) (hp : s.parts[k]? = some p) (hl : 1 ≤ left) (hl2 : left ≤ 4294967296) (h2 : ¬ (2 ≤ p.i.text.length ∧ 2 ≤ left)) (h3 : 2 ≤ p.i.text.length) :
    Calls Tryz.prog 41 #[ptrB sb, .int .i64 (i : Int), .int .i64 (left : Int)] w fun e w' => e = .returned (.int .i64 (s.used i left : Int)) ∧ (∃ vp' vo' xs', SnR G B w' sb vp' vo' xs' (s.close i left)) ∧ Below B w w' := by
  obtain ⟨a1, k1, rfl⟩ := row_len h.row
  obtain ⟨a2, k2, rfl⟩ := row_len h.ops
  have hkl := (List.getElem?_eq_some_iff.1 hp).1
  have hil := (List.getElem?_eq_some_iff.1 hi).1
  have hlen := ho.len
  have hptl : p.i.text.length ≤ N := by have := wtL_at hp; have := ho.wt; unfold wtP at *; omega
  obtain ⟨pb, X, rfl, hpbl, o0, hfrom⟩ := h.tail hkl
  obtain ⟨ob, rfl, hob, e0⟩ := row_cell h.ops (j := i) (u := .int .i64 (k : Int)) (by rw [opCells, List.getElem?_map, hi]; rfl)
  obtain ⟨kv, ys, hc9, hrow, _, hkid⟩ := PartI.nth _ _ k p h.part hp
  obtain ⟨ka, kn, kc, hkv⟩ := row_slice hrow
  have key : ∀ j u, (iiCells p.i kv ++ dlCells p.d)[j]? = some u → w.cell? ⟨pb, k * 9 + j, none⟩ = some u := fun j u hu => by
    obtain ⟨g, e, _, hcu⟩ := row_cell h.row (hc9 j u hu)
    cases e
    exact hcu
  subst hkv
  have x0 := key 0 _ rfl
  have x1 := key 1 _ rfl
  have x2 := key 2 _ rfl
  have x3 := key 3 _ rfl
  have x4 := key 4 _ rfl
  have x5 := key 5 _ rfl
  have x6 := key 6 _ rfl
  have x7 := key 7 _ rfl
  have x8 := key 8 _ rfl
  rw [Nat.add_zero] at x0
  have c0 := blk.cell_blk h.blk (i := 0) rfl
  have c1 := blk.cell_blk h.blk (i := 1) rfl
  have c0' := fun o => blk.cell_blk (blk.blk_below h.blk ((Below.refl _ _).alloc (Nat.le_refl _) o)) (i := 0) rfl
  have hil' : (i : Int) < (s.openers.length : Int) := by omega
  have hkl' : (k : Int) < (s.parts.length : Int) := by omega
  have hpl' : (s.parts.length : Int) ≤ 4294967296 := by omega
  have HTd : Hid (∀ o, Calls Tryz.prog 27 #[X] (w.alloc o) fun e w' => ∃ v', e = .returned v' ∧ KidsI w' (fun g => (w.alloc o).heap.size ≤ g) (fun g => g < (w.alloc o).heap.size) v' (toldI [] (s.parts.drop (k + 1))) ∧ Below (w.alloc o).heap.size (w.alloc o) w') := fun o => itold_any _ N (by have := wtL_split s.parts (k + 1); have := ho.wt; omega) hN X _ (hfrom.below ((Below.refl _ _).alloc (Nat.le_refl _) o))
  have hul := Sn.used_le ho hi hp hl
  have HU := (show Hid _ from s.used_one i left)
  obtain ⟨T, HTx⟩ : ∃ T, Hid (T = p.i.text.drop (s.used i left)) := ⟨_, rfl⟩
  have HC : Hid (s.close i left = { parts := s.parts.take k ++ (if T = [] then [] else [{ p with i := { p.i with text := T } }]) ++ [s.whole k (s.used i left)], openers := s.openers.take i ++ (if T = [] then [] else [k]) }) := by
    show _ = _
    rw [s.close_is hi hp left]
    unfold Pt.cut
    rw [← HTx.out]
  have HH := (show Hid (SnR _ _ _ _ _ _ _ _) from h)
  have hBw : B ≤ w.heap.size := Nat.le_trans h.base (Nat.le_of_lt (blk.lt_of_block h.blk))
  have hbs := h.base
  obtain ⟨i0, hi0, hz⟩ := Option.map_eq_some_iff.1 infoPt
  have hz0 := congrArg (·.1) hz
  have hz1 := congrArg (·.2.1) hz
  have hz2 := congrArg (·.2.2) hz
  simp only at hz0 hz1 hz2
  obtain ⟨j0, hj0, hy⟩ := Option.map_eq_some_iff.1 infoInt
  have hy0 := congrArg (·.1) hy
  have hy1 := congrArg (·.2.1) hy
  have hy2 := congrArg (·.2.2) hy
  simp only at hy0 hy1 hy2
  clear hz hy
  have hused : s.used i left = 1 := by have := Sn.used_is hi hp left; rw [this]; first | exact if_pos h2 | exact if_neg h2
  rw [hused] at hul HTx HC HU ⊢
  have g1 : ((p.i.text.length : Int) ≥ 2) := by omega
  have g2 : ¬ ((left : Int) ≥ 2) := by omega
  have o1 : ∀ w', (Instr.slice 9 (.string ⟨p.i.text.toArray⟩) (some (.int .i64 1)) none none).run Tryz.prog w' = .ok (.string ⟨T.toArray⟩) w' := fun w' => by rw [HTx.out]; exact from_is p.i.text 1 hul.1 (by omega) w'
  clear key hc9 hused
  go_enter Tryz.func41, Tryz.ntmps41
  go_wp2_with (go_at_call 27; refine Calls.mono (HTd.out _) ?_; rintro e u ⟨v', rfl, hv, hb⟩; obtain ⟨va, vn, vc, rfl⟩ := (show ∃ a n c, v' = Value.slice a n c from by obtain ⟨_, q, _⟩ := hv; exact row_slice q); have hO := blk.blk_below (heap_alloc_new w _) hb; have y0 := fun o => blk.cell_blk (blk.blk_below hO ((Below.refl _ _).alloc (Nat.le_refl _) o)) (i := 1) rfl; have y1 := fun o => blk.free_blk (blk.blk_below hO ((Below.refl _ _).alloc (Nat.le_refl _) o)) 1)
  have hwu : w.heap.size < u.heap.size := by have := hb.size; simp at this; omega
  have HB0 : Hid (Below w.heap.size w u) := ((Below.refl _ _).alloc (Nat.le_refl _) _).trans (hb.mono (by simp))
  have HB : Hid (Below w.heap.size w ((u.alloc (.cells #[.int .i64 4, .string ⟨#[]⟩, .string ⟨#[]⟩, .string ⟨#[]⟩, .slice va vn vc, .int .u8 0, .int .i64 0, .bool false, .bool false] 53)).setCell ⟨w.heap.size, 1, none⟩ (.string ⟨T.toArray⟩))) := blk.below_set (HB0.out.alloc (by omega) _) (Nat.le_refl _)
  have hSV := HH.out.below HB.out
  have hO1 := blk.blk_below hO ((Below.refl _ _).alloc (Nat.le_refl _) (.cells #[.int .i64 4, .string ⟨#[]⟩, .string ⟨#[]⟩, .string ⟨#[]⟩, .slice va vn vc, .int .u8 0, .int .i64 0, .bool false, .bool false] 53))
  have HOV : Hid (((u.alloc (.cells #[.int .i64 4, .string ⟨#[]⟩, .string ⟨#[]⟩, .string ⟨#[]⟩, .slice va vn vc, .int .u8 0, .int .i64 0, .bool false, .bool false] 53)).setCell ⟨w.heap.size, 1, none⟩ (.string ⟨T.toArray⟩)).heap[w.heap.size]? = some (.cells (iiCells { p.i with text := T } (.slice ka kn kc) ++ dlCells p.d).toArray 53 (0, 0))) := blk.set_blk hO1 1 (.string ⟨T.toArray⟩)
  have HWV : Hid (((u.alloc (.cells #[.int .i64 4, .string ⟨#[]⟩, .string ⟨#[]⟩, .string ⟨#[]⟩, .slice va vn vc, .int .u8 0, .int .i64 0, .bool false, .bool false] 53)).setCell ⟨w.heap.size, 1, none⟩ (.string ⟨T.toArray⟩)).heap[u.heap.size]? = some (.cells (iiCells { kind := 4 } (.slice va vn vc) ++ dlCells {}).toArray 53 (0, 0))) := by
    show _ = _
    rw [Below.heap_setCell _ _ _ _ (show u.heap.size ≠ w.heap.size by omega)]
    exact heap_alloc_new u _
  have hKV : KeepI u ((u.alloc (.cells #[.int .i64 4, .string ⟨#[]⟩, .string ⟨#[]⟩, .string ⟨#[]⟩, .slice va vn vc, .int .u8 0, .int .i64 0, .bool false, .bool false] 53)).setCell ⟨w.heap.size, 1, none⟩ (.string ⟨T.toArray⟩)) := KeepI.set (KeepI.of_below ((Below.refl _ _).alloc (Nat.le_refl _) _)) hO1 (by decide) 1 _
  obtain ⟨ys', hr', _, hk'⟩ := hv
  have HKV : Hid (World.ownsRow ((u.alloc (.cells #[.int .i64 4, .string ⟨#[]⟩, .string ⟨#[]⟩, .string ⟨#[]⟩, .slice va vn vc, .int .u8 0, .int .i64 0, .bool false, .bool false] 53)).setCell ⟨w.heap.size, 1, none⟩ (.string ⟨T.toArray⟩)) 0 32 5 (.slice va vn vc) (toldI [] (s.parts.drop (k + 1))).len ys' ∧ KidI ((u.alloc (.cells #[.int .i64 4, .string ⟨#[]⟩, .string ⟨#[]⟩, .string ⟨#[]⟩, .slice va vn vc, .int .u8 0, .int .i64 0, .bool false, .bool false] 53)).setCell ⟨w.heap.size, 1, none⟩ (.string ⟨T.toArray⟩)) (fun _ => True) (toldI [] (s.parts.drop (k + 1))) ys') := ⟨irow_keepI hr' hKV, KidI.stay (fun _ _ => trivial) hKV _ _ hk'⟩
  have HPV : Hid (World.ownsRow ((u.alloc (.cells #[.int .i64 4, .string ⟨#[]⟩, .string ⟨#[]⟩, .string ⟨#[]⟩, .slice va vn vc, .int .u8 0, .int .i64 0, .bool false, .bool false] 53)).setCell ⟨w.heap.size, 1, none⟩ (.string ⟨T.toArray⟩)) 0 32 5 (.slice ka kn kc) p.kids.len ys ∧ KidI ((u.alloc (.cells #[.int .i64 4, .string ⟨#[]⟩, .string ⟨#[]⟩, .string ⟨#[]⟩, .slice va vn vc, .int .u8 0, .int .i64 0, .bool false, .bool false] 53)).setCell ⟨w.heap.size, 1, none⟩ (.string ⟨T.toArray⟩)) (fun _ => True) p.kids ys) := ⟨irow_keepI hrow (KeepI.of_below HB.out), KidI.stay (fun _ _ => trivial) (KeepI.of_below HB.out) _ _ hkid⟩
  have hsbw : sb < w.heap.size := blk.lt_of_block HH.out.blk
  clear hO1 hKV hr' hk' hO hb y0 y1 hrow hkid
  generalize ((u.alloc (.cells #[.int .i64 4, .string ⟨#[]⟩, .string ⟨#[]⟩, .string ⟨#[]⟩, .slice va vn vc, .int .u8 0, .int .i64 0, .bool false, .bool false] 53)).setCell ⟨w.heap.size, 1, none⟩ (.string ⟨T.toArray⟩)) = V at *
  have d0 : V.drew.cell? ⟨sb, 0, none⟩ = some (.slice (some ⟨pb, 0, none⟩) s.parts.length k1) := blk.cell_blk hSV.blk (i := 0) rfl
  have d1 : V.drew.cell? ⟨sb, 1, none⟩ = some (.slice (some ⟨ob, 0, none⟩) s.openers.length k2) := blk.cell_blk hSV.blk (i := 1) rfl
  have f0 : V.drew.frozen? ⟨sb, 0, none⟩ = false := blk.free_blk hSV.blk 0
  have f1 : V.drew.frozen? ⟨sb, 1, none⟩ = false := blk.free_blk hSV.blk 1
  have e1 : ∀ X, (V.setCell ⟨sb, 0, none⟩ X).drew.cell? ⟨sb, 1, none⟩ = some (.slice (some ⟨ob, 0, none⟩) s.openers.length k2) := fun X => blk.cell_blk (w := (V.setCell ⟨sb, 0, none⟩ X)) (blk.set_blk hSV.blk 0 X) (i := 1) rfl
  have e2 : ∀ X, (V.setCell ⟨sb, 0, none⟩ X).drew.frozen? ⟨sb, 1, none⟩ = false := fun X => blk.free_blk (w := (V.setCell ⟨sb, 0, none⟩ X)) (blk.set_blk hSV.blk 0 X) 1
  have hkc : k ≤ k1 := by have := (row_cap HH.out.row).1; omega
  have hic : i ≤ k2 := by have := (row_cap HH.out.ops).1; omega
  go_region
  have HS2 : Hid (SnR G B ((V.setCell ⟨sb, 0, none⟩ (.slice (some ⟨pb, 0, none⟩) k k1)).setCell ⟨sb, 1, none⟩ (.slice (some ⟨ob, 0, none⟩) i k2)).drew sb (.slice (some ⟨pb, 0, none⟩) k k1) (.slice (some ⟨ob, 0, none⟩) i k2) (xs.take (k * 9)) ⟨s.parts.take k, s.openers.take i⟩) := by
    refine SnR.reset (w' := ((V.setCell ⟨sb, 0, none⟩ (.slice (some ⟨pb, 0, none⟩) k k1)).setCell ⟨sb, 1, none⟩ (.slice (some ⟨ob, 0, none⟩) i k2)).drew) hSV (blk.set_blk (blk.set_blk hSV.blk 0 _) 1 _) (fun g hg => set2_other hg) ?_ (PartI.take _ _ k hSV.part).1 ?_ rfl rfl
    · rw [List.length_take, Nat.min_eq_left (by omega)]
      exact row_cut hSV.row (by omega)
    · rw [List.length_take, Nat.min_eq_left (by omega), ← opCells_take]
      exact row_cut hSV.ops (by omega)
  have HO2 : Hid (((V.setCell ⟨sb, 0, none⟩ (.slice (some ⟨pb, 0, none⟩) k k1)).setCell ⟨sb, 1, none⟩ (.slice (some ⟨ob, 0, none⟩) i k2)).drew.heap[w.heap.size]? = some (.cells (iiCells { p.i with text := T } (.slice ka kn kc) ++ dlCells p.d).toArray 53 (0, 0))) := (set2_other (by omega)).trans HOV.out
  have HW2 : Hid (((V.setCell ⟨sb, 0, none⟩ (.slice (some ⟨pb, 0, none⟩) k k1)).setCell ⟨sb, 1, none⟩ (.slice (some ⟨ob, 0, none⟩) i k2)).drew.heap[u.heap.size]? = some (.cells (iiCells { kind := 4 } (.slice va vn vc) ++ dlCells {}).toArray 53 (0, 0))) := (set2_other (by omega)).trans HWV.out
  have hK2 : KeepI V ((V.setCell ⟨sb, 0, none⟩ (.slice (some ⟨pb, 0, none⟩) k k1)).setCell ⟨sb, 1, none⟩ (.slice (some ⟨ob, 0, none⟩) i k2)).drew := ((KeepI.refl V).set hSV.blk (by decide) 0 (.slice (some ⟨pb, 0, none⟩) k k1)).set (blk.set_blk hSV.blk 0 _) (by decide) 1 (.slice (some ⟨ob, 0, none⟩) i k2)
  have HKV2 : Hid (World.ownsRow ((V.setCell ⟨sb, 0, none⟩ (.slice (some ⟨pb, 0, none⟩) k k1)).setCell ⟨sb, 1, none⟩ (.slice (some ⟨ob, 0, none⟩) i k2)).drew 0 32 5 (.slice va vn vc) (toldI [] (s.parts.drop (k + 1))).len ys' ∧ KidI ((V.setCell ⟨sb, 0, none⟩ (.slice (some ⟨pb, 0, none⟩) k k1)).setCell ⟨sb, 1, none⟩ (.slice (some ⟨ob, 0, none⟩) i k2)).drew (fun _ => True) (toldI [] (s.parts.drop (k + 1))) ys') := ⟨irow_keepI HKV.out.1 hK2, KidI.stay (fun _ _ => trivial) hK2 _ _ HKV.out.2⟩
  have HPV2 : Hid (World.ownsRow ((V.setCell ⟨sb, 0, none⟩ (.slice (some ⟨pb, 0, none⟩) k k1)).setCell ⟨sb, 1, none⟩ (.slice (some ⟨ob, 0, none⟩) i k2)).drew 0 32 5 (.slice ka kn kc) p.kids.len ys ∧ KidI ((V.setCell ⟨sb, 0, none⟩ (.slice (some ⟨pb, 0, none⟩) k k1)).setCell ⟨sb, 1, none⟩ (.slice (some ⟨ob, 0, none⟩) i k2)).drew (fun _ => True) p.kids ys) := ⟨irow_keepI HPV.out.1 hK2, KidI.stay (fun _ _ => trivial) hK2 _ _ HPV.out.2⟩
  have HB2 : Hid (Below B w ((V.setCell ⟨sb, 0, none⟩ (.slice (some ⟨pb, 0, none⟩) k k1)).setCell ⟨sb, 1, none⟩ (.slice (some ⟨ob, 0, none⟩) i k2)).drew) := Below.drew (blk.below_set (blk.below_set (HB.out.mono hBw) hbs) hbs)
  have hkt : (s.parts.take k).length = k := by rw [List.length_take]; omega
  have hit : (s.openers.take i).length = i := by rw [List.length_take]; omega
  clear d0 d1 f0 f1 e1 e2 hSV HOV HWV HKV HPV HB hK2 HB0
  generalize ((V.setCell ⟨sb, 0, none⟩ (.slice (some ⟨pb, 0, none⟩) k k1)).setCell ⟨sb, 1, none⟩ (.slice (some ⟨ob, 0, none⟩) i k2)).drew = W2 at *
  have r1 := blk.cell_blk HO2.out (i := 1) rfl
  simp only [List.getElem_toArray, iiCells, dlCells, List.cons_append, List.nil_append, List.getElem_cons_zero, List.getElem_cons_succ] at r1
  cases hTe : T with
  | nil =>
    exfalso
    have e := congrArg List.length HTx.out
    rw [hTe, List.length_drop] at e
    simp at e
    omega
  | cons c0 T0 =>
    rw [hTe] at HC
    rw [if_neg (by simp), if_neg (by simp)] at HC
    have hne : T.isEmpty = false := by rw [hTe]; rfl
    rw [← hTe] at HC
    clear hTe
    have HRo : Hid (W2.ownsRow B 3 1 (.slice (some ⟨ob, 0, none⟩) i k2) i (opCells (s.openers.take i))) := by have := HS2.out.ops; rw [hit] at this; exact this
    have HBW2 : Hid (B ≤ W2.heap.size) := Nat.le_trans HS2.out.base (Nat.le_of_lt (blk.lt_of_block HS2.out.blk))
    have s1 : ∀ o, (W2.alloc o).cell? ⟨sb, 1, none⟩ = some (.slice (some ⟨ob, 0, none⟩) i k2) := fun o => blk.cell_blk (blk.blk_below HS2.out.blk ((Below.refl _ _).alloc (Nat.le_refl _) o)) (i := 1) rfl
    have s2 : W2.cell? ⟨sb, 1, none⟩ = some (.slice (some ⟨ob, 0, none⟩) i k2) := blk.cell_blk HS2.out.blk (i := 1) rfl
    (try simp only [Exit.then])
    go_wp2_with (at_builtin; refine wpList_append_own_at _ rfl _ _ 54 rfl B 3 j0 (.int .i64 0) 1 8 Tryz.underlying54 hj0 hy0 hy1 hy2 rfl (by decide) _ _ _ rfl (World.ownsRow.alloc HRo.out _) ⟨W2.heap.size, 0, none⟩ 1 1 [.int .i64 (k : Int)] rfl rfl (lit_cells _ _ _) ?c2 ?c3 ?c4 ?c5 ?_)
    case c2 => first | rfl | (intro u hu; simp only [List.mem_cons, List.not_mem_nil, or_false] at hu; rcases hu with rfl; rfl)
    case c3 => unfold maxLen; omega
    case c4 => omega
    case c5 => have := HBW2.out; simp; omega
    intro vo3 w3 hown3 hgrow3 _ hat3
    obtain ⟨oa, on, oc, rfl⟩ := row_slice hown3
    have hSA := HS2.out.below ((Below.refl W2.heap.size W2).alloc (Nat.le_refl _) (.cells #[.int .i64 (k : Int)] 3))
    have HP3 := (show Hid _ from SnR.opened hSA (by have := HBW2.out; simp; omega) (by simp only [hit]; exact hown3) hgrow3 (fun g hg => by rcases hat3 with q | q <;> rw [q] at hg; exact .inl hg; exact .inr (by have := Option.some.inj hg; simp; omega)))
    have hsw3 : w3.heap[sb]? = some (.cells #[.slice (some ⟨pb, 0, none⟩) k k1, .slice (some ⟨ob, 0, none⟩) i k2] 56 (0, 0)) := (hgrow3.block sb (blk.lt_of_block hSA.blk) (row_neq hSA.ops hSA.blk (by decide))).trans hSA.blk
    have t1 := blk.cell_blk hsw3 (i := 1) rfl
    have t2 := blk.free_blk hsw3 1
    have hk3 : ∀ (g : Nat) (cs : Array Value), W2.heap[g]? = some (.cells cs 53 (0, 0)) → (w3.setCell ⟨sb, 1, none⟩ (.slice oa on oc)).heap[g]? = some (.cells cs 53 (0, 0)) := fun g cs hg => by
      have h1 := blk.blk_below hg ((Below.refl W2.heap.size W2).alloc (Nat.le_refl _) (.cells #[.int .i64 (k : Int)] 3))
      have h2 := (hgrow3.block g (blk.lt_of_block h1) (row_neq hSA.ops h1 (by decide))).trans h1
      rw [Below.heap_setCell _ _ _ _ (fun e => ?_)]
      · exact h2
      · have e' : g = sb := e
        rw [e', hsw3] at h2
        cases h2
    have HO3 := (show Hid _ from hk3 _ _ HO2.out)
    have HW3 := (show Hid _ from hk3 _ _ HW2.out)
    have hK3 : KeepI W2 (w3.setCell ⟨sb, 1, none⟩ (.slice oa on oc)) := (KeepI.of_below ((Below.refl W2.heap.size W2).alloc (Nat.le_refl _) (.cells #[.int .i64 (k : Int)] 3))).trans HP3.out.2.2
    have HKV3 : Hid (World.ownsRow (w3.setCell ⟨sb, 1, none⟩ (.slice oa on oc)) 0 32 5 (.slice va vn vc) (toldI [] (s.parts.drop (k + 1))).len ys' ∧ KidI (w3.setCell ⟨sb, 1, none⟩ (.slice oa on oc)) (fun _ => True) (toldI [] (s.parts.drop (k + 1))) ys') := ⟨irow_keepI HKV2.out.1 hK3, KidI.stay (fun _ _ => trivial) hK3 _ _ HKV2.out.2⟩
    have HPV3 : Hid (World.ownsRow (w3.setCell ⟨sb, 1, none⟩ (.slice oa on oc)) 0 32 5 (.slice ka kn kc) p.kids.len ys ∧ KidI (w3.setCell ⟨sb, 1, none⟩ (.slice oa on oc)) (fun _ => True) p.kids ys) := ⟨irow_keepI HPV2.out.1 hK3, KidI.stay (fun _ _ => trivial) hK3 _ _ HPV2.out.2⟩
    have HS3 := (show Hid _ from HP3.out.1)
    have HB3 : Hid (Below B w (w3.setCell ⟨sb, 1, none⟩ (.slice oa on oc))) := HB2.out.trans (((Below.refl _ _).alloc HBW2.out _).trans HP3.out.2.1)
    clear hat3 hk3 hK3 HP3 hSA hown3 hgrow3 hsw3 s1 s2 HS2 HO2 HW2 HKV2 HPV2 HRo r1
    go_wp2
    generalize w3.setCell ⟨sb, 1, none⟩ (.slice oa on oc) = W3 at *
    clear t1 t2
    have a60 : W3.drew.cell? ⟨sb, 0, none⟩ = some (.slice (some ⟨pb, 0, none⟩) k k1) := blk.cell_blk (w := W3.drew) HS3.out.blk (i := 0) rfl
    have a61 : ∀ o, (W3.alloc o).drew.cell? ⟨sb, 0, none⟩ = some (.slice (some ⟨pb, 0, none⟩) k k1) := fun o => blk.cell_blk (w := (W3.alloc o).drew) (blk.blk_below (w := W3) HS3.out.blk (Below.drew ((Below.refl _ _).alloc (Nat.le_refl _) o))) (i := 0) rfl
    have b60 := blk.cell_blk (w := W3.drew) HO3.out (i := 0) rfl
    have b61 := blk.cell_blk (w := W3.drew) HO3.out (i := 1) rfl
    have b62 := blk.cell_blk (w := W3.drew) HO3.out (i := 2) rfl
    have b63 := blk.cell_blk (w := W3.drew) HO3.out (i := 3) rfl
    have b64 := blk.cell_blk (w := W3.drew) HO3.out (i := 4) rfl
    have b65 := blk.cell_blk (w := W3.drew) HO3.out (i := 5) rfl
    have b66 := blk.cell_blk (w := W3.drew) HO3.out (i := 6) rfl
    have b67 := blk.cell_blk (w := W3.drew) HO3.out (i := 7) rfl
    have b68 := blk.cell_blk (w := W3.drew) HO3.out (i := 8) rfl
    simp only [List.getElem_toArray, iiCells, dlCells, List.cons_append, List.nil_append, List.getElem_cons_zero, List.getElem_cons_succ] at b60 b61 b62 b63 b64 b65 b66 b67 b68
    have HR6 : Hid (W3.drew.ownsRow B 53 9 (.slice (some ⟨pb, 0, none⟩) k k1) (k) (xs.take (k * 9))) := by have := HS3.out.row; simp only [hkt] at *; exact this
    have HBW6 : Hid (B ≤ W3.heap.size) := Nat.le_trans HS3.out.base (Nat.le_of_lt (blk.lt_of_block HS3.out.blk))
    have HSW6 : Hid (SnR G B (W3.drew.alloc (.cells (iiCells { p.i with text := T } (.slice ka kn kc) ++ dlCells p.d).toArray 53)) sb _ _ _ _) := HS3.out.below (Below.alloc (Below.drew (Below.refl _ _)) (Nat.le_refl _) _)
    have HKW6 : Hid (World.ownsRow (W3.drew.alloc (.cells (iiCells { p.i with text := T } (.slice ka kn kc) ++ dlCells p.d).toArray 53)) 0 32 5 _ _ _ ∧ KidI (W3.drew.alloc (.cells (iiCells { p.i with text := T } (.slice ka kn kc) ++ dlCells p.d).toArray 53)) (fun _ => True) _ _) := ⟨irow_keepI HPV3.out.1 (KeepI.of_below (Below.alloc (Below.drew (Below.refl W3.heap.size W3)) (Nat.le_refl _) (.cells (iiCells { p.i with text := T } (.slice ka kn kc) ++ dlCells p.d).toArray 53))), KidI.stay (fun _ _ => trivial) (KeepI.of_below (Below.alloc (Below.drew (Below.refl W3.heap.size W3)) (Nat.le_refl _) (.cells (iiCells { p.i with text := T } (.slice ka kn kc) ++ dlCells p.d).toArray 53))) _ _ HPV3.out.2⟩
    go_region_law (refine step_app rfl (.tmp 89) (.tmp 91) 42 rfl B 53 i0 _ 9 104 Tryz.underlying42 hi0 hz0 hz1 hz2 rfl (by decide) (.slice (some ⟨pb, 0, none⟩) k k1) (k) (xs.take (k * 9)) (by first | rfl | simp [Act.eval, Act.put]) (World.ownsRow.alloc (w := W3.drew) HR6.out _) (by have := HBW6.out; simp; omega) ⟨W3.heap.size, 0, none⟩ _ (iiCells { p.i with text := T } (.slice ka kn kc) ++ dlCells p.d) (by first | rfl | simp [Act.eval, Act.put]) rfl (lit_cells W3.drew (iiCells { p.i with text := T } (.slice ka kn kc) ++ dlCells p.d) _) (pt_one _ _ _ _ _) (by unfold maxLen; omega) (by omega) ?_; intro g6 c6 u6 hown6 hgrow6 hat6; have HP6 := (show Hid _ from SnR.pushed (p := { p with i := { p.i with text := T } }) HSW6.out (by have := HBW6.out; simp; omega) (by simp only [hkt] at *; exact hown6) hgrow6 (fun g hg => by cases hg; exact hat6) HKW6.out.1 HKW6.out.2); have hsw6 : u6.heap[sb]? = some (.cells #[.slice (some ⟨pb, 0, none⟩) k k1, .slice oa on oc] 56 (0, 0)) := (hgrow6.block sb (blk.lt_of_block HSW6.out.blk) (row_neq HSW6.out.row HSW6.out.blk (by decide))).trans HSW6.out.blk; have q60 := blk.cell_blk hsw6 (i := 0) rfl; have q61 := blk.free_blk hsw6 0; have HW4 := (show Hid _ from part_kept (X := .slice (some ⟨g6, 0, none⟩) (k + 1) c6) (sb := sb) hgrow6 HW3.out (by intro e; have : u.heap.size = pb := Option.some.inj e; omega) (by omega)); clear hown6 hgrow6 hsw6 hat6)
    all_goals
      have hkt2 : (s.parts.take k ++ [{ p with i := { p.i with text := T } }]).length = k + 1 := by rw [List.length_append, hkt]; rfl
      have HS4 := (show Hid _ from HP6.out.1)
      have hK4 := (KeepI.of_below (Below.alloc (Below.drew (Below.refl W3.heap.size W3)) (Nat.le_refl _) (.cells (iiCells { p.i with text := T } (.slice ka kn kc) ++ dlCells p.d).toArray 53))).trans HP6.out.2.2
      have HKV4 := (show Hid (World.ownsRow _ 0 32 5 (.slice va vn vc) (toldI [] (s.parts.drop (k + 1))).len ys' ∧ KidI _ (fun _ => True) (toldI [] (s.parts.drop (k + 1))) ys') from ⟨irow_keepI HKV3.out.1 hK4, KidI.stay (fun _ _ => trivial) hK4 _ _ HKV3.out.2⟩)
      have HB4 := (show Hid (Below B w _) from HB3.out.trans (((Below.drew (Below.refl _ _)).alloc HBW6.out _).trans HP6.out.2.1))
      clear HP6 hK4 a60 a61 b60 b61 b62 b63 b64 b65 b66 b67 b68 HR6 HSW6 HKW6 q60 q61 HPV3 HO3
      (try simp only [Exit.then])
      go_wp2
      generalize u6.setCell ⟨sb, 0, none⟩ (.slice (some ⟨g6, 0, none⟩) (k + 1) c6) = W4 at *
      have a70 : W4.drew.cell? ⟨sb, 0, none⟩ = some (.slice (some ⟨g6, 0, none⟩) (k + 1) c6) := blk.cell_blk (w := W4.drew) HS4.out.blk (i := 0) rfl
      have a71 : ∀ o, (W4.alloc o).drew.cell? ⟨sb, 0, none⟩ = some (.slice (some ⟨g6, 0, none⟩) (k + 1) c6) := fun o => blk.cell_blk (w := (W4.alloc o).drew) (blk.blk_below (w := W4) HS4.out.blk (Below.drew ((Below.refl _ _).alloc (Nat.le_refl _) o))) (i := 0) rfl
      have b70 := blk.cell_blk (w := W4.drew) HW4.out (i := 0) rfl
      have b71 := blk.cell_blk (w := W4.drew) HW4.out (i := 1) rfl
      have b72 := blk.cell_blk (w := W4.drew) HW4.out (i := 2) rfl
      have b73 := blk.cell_blk (w := W4.drew) HW4.out (i := 3) rfl
      have b74 := blk.cell_blk (w := W4.drew) HW4.out (i := 4) rfl
      have b75 := blk.cell_blk (w := W4.drew) HW4.out (i := 5) rfl
      have b76 := blk.cell_blk (w := W4.drew) HW4.out (i := 6) rfl
      have b77 := blk.cell_blk (w := W4.drew) HW4.out (i := 7) rfl
      have b78 := blk.cell_blk (w := W4.drew) HW4.out (i := 8) rfl
      simp only [List.getElem_toArray, iiCells, dlCells, List.cons_append, List.nil_append, List.getElem_cons_zero, List.getElem_cons_succ] at b70 b71 b72 b73 b74 b75 b76 b77 b78
      have HR7 : Hid (W4.drew.ownsRow B 53 9 (.slice (some ⟨g6, 0, none⟩) (k + 1) c6) (k + 1) (xs.take (k * 9) ++ (iiCells { p.i with text := T } (.slice ka kn kc) ++ dlCells p.d))) := by have := HS4.out.row; simp only [hkt2] at *; exact this
      have HBW7 : Hid (B ≤ W4.heap.size) := Nat.le_trans HS4.out.base (Nat.le_of_lt (blk.lt_of_block HS4.out.blk))
      have HSW7 : Hid (SnR G B (W4.drew.alloc (.cells (iiCells { kind := 4 } (.slice va vn vc) ++ dlCells {}).toArray 53)) sb _ _ _ _) := HS4.out.below (Below.alloc (Below.drew (Below.refl _ _)) (Nat.le_refl _) _)
      have HKW7 : Hid (World.ownsRow (W4.drew.alloc (.cells (iiCells { kind := 4 } (.slice va vn vc) ++ dlCells {}).toArray 53)) 0 32 5 _ _ _ ∧ KidI (W4.drew.alloc (.cells (iiCells { kind := 4 } (.slice va vn vc) ++ dlCells {}).toArray 53)) (fun _ => True) _ _) := ⟨irow_keepI HKV4.out.1 (KeepI.of_below (Below.alloc (Below.drew (Below.refl W4.heap.size W4)) (Nat.le_refl _) (.cells (iiCells { kind := 4 } (.slice va vn vc) ++ dlCells {}).toArray 53))), KidI.stay (fun _ _ => trivial) (KeepI.of_below (Below.alloc (Below.drew (Below.refl W4.heap.size W4)) (Nat.le_refl _) (.cells (iiCells { kind := 4 } (.slice va vn vc) ++ dlCells {}).toArray 53))) _ _ HKV4.out.2⟩
      go_region_law (refine step_app rfl (.tmp 99) (.tmp 101) 42 rfl B 53 i0 _ 9 104 Tryz.underlying42 hi0 hz0 hz1 hz2 rfl (by decide) (.slice (some ⟨g6, 0, none⟩) (k + 1) c6) (k + 1) (xs.take (k * 9) ++ (iiCells { p.i with text := T } (.slice ka kn kc) ++ dlCells p.d)) (by first | rfl | simp [Act.eval, Act.put]) (World.ownsRow.alloc (w := W4.drew) HR7.out _) (by have := HBW7.out; simp; omega) ⟨W4.heap.size, 0, none⟩ _ (iiCells { kind := 4 } (.slice va vn vc) ++ dlCells {}) (by first | rfl | simp [Act.eval, Act.put]) rfl (lit_cells W4.drew (iiCells { kind := 4 } (.slice va vn vc) ++ dlCells {}) _) (pt_one _ _ _ _ _) (by unfold maxLen; omega) (by omega) ?_; intro g7 c7 u7 hown7 hgrow7 hat7; have HP7 := (show Hid _ from SnR.pushed (p := s.whole k 1) HSW7.out (by have := HBW7.out; simp; omega) (by simp only [hkt2] at *; exact hown7) hgrow7 (fun g hg => by cases hg; exact hat7) HKW7.out.1 HKW7.out.2); have hsw7 : u7.heap[sb]? = some (.cells #[.slice (some ⟨g6, 0, none⟩) (k + 1) c6, .slice oa on oc] 56 (0, 0)) := (hgrow7.block sb (blk.lt_of_block HSW7.out.blk) (row_neq HSW7.out.row HSW7.out.blk (by decide))).trans HSW7.out.blk; have q70 := blk.cell_blk hsw7 (i := 0) rfl; have q71 := blk.free_blk hsw7 0; clear hown7 hgrow7 hsw7 hat7)
      all_goals
        (try simp only [Exit.then])
        go_wp2
        go_ret
        refine ⟨rfl, ⟨_, _, _, by rw [HC.out]; exact HP7.out.1⟩, ?_⟩
        exact HB4.out.trans (((Below.drew (Below.refl _ _)).alloc HBW7.out _).trans HP7.out.2.1)

end Go.Proofs.YtjdijlaoeoikhaaGreatDoor
