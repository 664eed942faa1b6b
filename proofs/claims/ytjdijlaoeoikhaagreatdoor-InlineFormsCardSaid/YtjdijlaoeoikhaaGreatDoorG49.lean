/- Several texts in one. -/
import Derived.Test.YtjdijlaoeoikhaaGreatDoorG48
import Derived.Test.YtjdijlaoeoikhaaGreatDoorG45
import Derived.Test.YtjdijlaoeoikhaaGreatDoorIRead5a
import Derived.Test.YtjdijlaoeoikhaaGreatDoorIRead5b
set_option linter.unusedVariables false
/- Package inline: readCloser; walked. -/
namespace Go.Proofs.YtjdijlaoeoikhaaGreatDoor
open Go.RowKit

set_option maxHeartbeats 16000000 in
set_option maxRecDepth 20000 in
theorem iclos_yes6 {G : Nat → Obj → Prop} {B m n rb : Nat} {l : Str8} {df : List Df8} {w : World} {vp vo : Value} {xs : List Value} {r : Rd} (h : RdR G B l m n (firstD df) w rb vp vo xs r) (ho : r.Ok l) (hl : l.length ≤ 1073741824) (hat : r.at0 < l.length) {os : List Op} {o : Op} (he : r.openers = os ++ [o]) (hkind : o.kind = 6) (hge : r.inactive ≤ os.length) (ht : ¬ r.target l df o = none) :
    Calls Tryz.prog 25 #[ptrB rb] w fun e w' => LeftR G B l m n (firstD df) w rb (r.closer l df) e w' := by
  have hBw : B ≤ w.heap.size := Nat.le_trans h.base (Nat.le_of_lt (blk.lt_of_block h.blk))
  have hli : (l.length : Int) ≤ 1073741824 := by omega
  have hati : (r.at0 : Int) + 1 ≤ (l.length : Int) := by omega
  have hbs := h.base
  have hop := ho.ops o (by rw [he]; exact List.mem_append_right _ List.mem_cons_self)
  have hpl := ho.len
  have hfr := ho.frm
  have hina := ho.ina
  obtain ⟨k, hk⟩ : ∃ k, k = os.length := ⟨_, rfl⟩
  have hlen : r.openers.length = k + 1 := by rw [he, List.length_append, hk]; rfl
  obtain ⟨a2, k2, hv2⟩ := row_len h.ops
  have hnth : r.openers[k]? = some o := by rw [he, hk]; simp
  have hcs := oCells_nth r.openers k o hnth
  rw [hv2] at h
  obtain ⟨og, hog, _, x0⟩ := row_cell h.ops hcs.1
  subst hog
  have x1 : w.cell? ⟨og, k * 3 + 1, none⟩ = some (.int .i64 (o.part : Int)) := by obtain ⟨g, e, _, q⟩ := row_cell h.ops hcs.2.1; cases e; exact q
  have x2 : w.cell? ⟨og, k * 3 + 2, none⟩ = some (.int .i64 (o.start : Int)) := by obtain ⟨g, e, _, q⟩ := row_cell h.ops hcs.2.2; cases e; exact q
  have hkc := (row_cap h.ops).1
  rw [hlen] at hkc
  have e4 : w.cell? ⟨rb, 4, none⟩ = some (.slice (some ⟨og, 0, none⟩) (k + 1) k2) := by rw [← hlen]; exact h.c.2.2.2.2.1
  have hkk : k ≤ k2 := by omega
  have hki : (k : Int) ≤ 4294967296 := by have := ho.at0; omega
  -- behind the opener's copy
  have hG := h.guest #[.int .i64 (o.kind : Int), .int .i64 (o.part : Int), .int .i64 (o.start : Int)] 71
  have hG1 : RdR (GstR G w.heap.size (.cells #[.int .i64 (o.kind : Int), .int .i64 (o.part : Int), .int .i64 (o.start : Int)] 71 (0, 0))) B l m n (firstD df) ((w.alloc (.cells #[.int .i64 (o.kind : Int), .int .i64 (o.part : Int), .int .i64 (o.start : Int)] 71)).setCell ⟨rb, 4, none⟩ (.slice (some ⟨og, 0, none⟩) k k2)) rb vp (.slice (some ⟨og, 0, none⟩) k k2) xs { r with openers := os } := by
    refine hG.reset (blk.set_blk hG.blk 4 _) (fun g hg => set1_other hg) hG.row hG.part ?_ rfl rfl
    have hq := hG.ops
    rw [hlen] at hq
    have hcut := row_cut hq (m := k) (by omega)
    rw [oCells_take, he, show k = os.length from hk, List.take_left' rfl] at hcut
    rw [← hk] at hcut
    show World.ownsRow _ _ _ _ _ os.length (oCells os)
    rw [← hk]
    exact hcut
  have HG2 := (show Hid (RdR _ _ _ _ _ _ _ _ _ _ _ _) from hG1.num.2.2 (min r.inactive k))
  have hmi : ((min r.inactive k : Nat) : Int) = min (r.inactive : Int) (k : Int) := by omega
  rw [hmi] at HG2
  have y4 := fun o => (h.below (w' := w.alloc o) ((Below.refl _ _).alloc (Nat.le_refl _) o)).c.2.2.2.2.1
  have y4f := fun o => (h.below (w' := w.alloc o) ((Below.refl _ _).alloc (Nat.le_refl _) o)).f 4
  rw [hlen] at y4
  have y5 : ((w.alloc (.cells #[.int .i64 (o.kind : Int), .int .i64 (o.part : Int), .int .i64 (o.start : Int)] 71)).setCell ⟨rb, 4, none⟩ (.slice (some ⟨og, 0, none⟩) k k2)).cell? ⟨rb, 5, none⟩ = some (.int .i64 (r.inactive : Int)) := hG1.c.2.2.2.2.2.1
  have y5f := hG1.f 5
  have y0 : ((w.alloc (.cells #[.int .i64 (o.kind : Int), .int .i64 (o.part : Int), .int .i64 (o.start : Int)] 71)).setCell ⟨rb, 4, none⟩ (.slice (some ⟨og, 0, none⟩) k k2)).cell? ⟨w.heap.size, 0, none⟩ = some (.int .i64 (o.kind : Int)) := blk.cell_blk hG1.own (i := 0) rfl
  have hgei : (r.inactive : Int) ≤ (k : Int) := by omega
  have hgel : ¬ (k : Int) < (r.inactive : Int) := by omega
  have HBw2 : Hid (Below B w (((w.alloc (.cells #[.int .i64 (o.kind : Int), .int .i64 (o.part : Int), .int .i64 (o.start : Int)] 71)).setCell ⟨rb, 4, none⟩ (.slice (some ⟨og, 0, none⟩) k k2)).setCell ⟨rb, 5, none⟩ (.int .i64 (min (r.inactive : Int) (k : Int))))) := blk.below_set (blk.below_set ((Below.refl _ _).alloc hBw _) hbs) hbs
  have HOb := (show Hid _ from HG2.out.own)
  have h7 : ((o.kind : Int) == 7) = false := by simp; omega
  have HBw2x : B ≤ (((w.alloc (.cells #[.int .i64 (o.kind : Int), .int .i64 (o.part : Int), .int .i64 (o.start : Int)] 71)).setCell ⟨rb, 4, none⟩ (.slice (some ⟨og, 0, none⟩) k k2)).setCell ⟨rb, 5, none⟩ (.int .i64 (min (r.inactive : Int) (k : Int)))).heap.size := Nat.le_trans hBw HBw2.out.size
  have h6 : ((o.kind : Int) == 6) = true := by rw [hkind]; rfl
  have hact : (o.kind == 7 || decide (r.inactive ≤ k)) = true := by simp; omega
  obtain ⟨L, D, V, q, hTg, hq⟩ := itarget_any df HG2.out hl o (by show o.start ≤ r.at0; omega) hat
  have HTg : Hid (Calls Tryz.prog 39 #[ptrB rb, .agg #[.int .i64 (o.kind : Int), .int .i64 (o.part : Int), .int .i64 (o.start : Int)]] (((w.alloc (.cells #[.int .i64 (o.kind : Int), .int .i64 (o.part : Int), .int .i64 (o.start : Int)] 71)).setCell ⟨rb, 4, none⟩ (.slice (some ⟨og, 0, none⟩) k k2)).setCell ⟨rb, 5, none⟩ (.int .i64 (min (r.inactive : Int) (k : Int)))) _) := hTg _ (Below.refl _ _)
  obtain ⟨hq0, hql, hts⟩ : 0 < q ∧ r.at0 + q ≤ l.length ∧ r.target l df o = some ((D, V), q) := by
    rcases hq with hq | hq
    · exact absurd hq.2 ht
    · exact hq
  have HE : Hid (r.closer l df = { (Rd.add l { (Rd.endText l { r with openers := os, inactive := min r.inactive k }) with parts := (Rd.endText l { r with openers := os, inactive := min r.inactive k }).parts.take o.part } { i := { kind := o.kind, dest := D, title := V }, kids := emphI ((Rd.endText l { r with openers := os, inactive := min r.inactive k }).parts.drop (o.part + 1)) } q) with inactive := k }) := by
    show _ = _
    rw [closer_some l df r he, ← hk]
    simp only [hact]
    have h3 : Rd.target l df { r with openers := os, inactive := min r.inactive k } o = some ((D, V), q) := hts
    rw [h3]
    show (if o.kind = 6 then _ else _) = _
    rw [if_pos hkind]
  have hO1 : Rd.Ok l { r with openers := os, inactive := min r.inactive k } := ho.drop he _ (by omega)
  have hO2 := hO1.endText
  have hO6 : Rd.Ok l { (Rd.endText l { r with openers := os, inactive := min r.inactive k }) with parts := (Rd.endText l { r with openers := os, inactive := min r.inactive k }).parts.take o.part } := by
    have q6 := ho.endText.cutBack (os := os) (o := o) he (min r.inactive k) (by omega)
    exact q6
  have hp2 : o.part < (Rd.endText l { r with openers := os, inactive := min r.inactive k }).parts.length := by
    show o.part < (r.parts ++ _).length
    rw [List.length_append]
    omega
  have hw2l := hO2.wt
  have hf2 : (Rd.endText l { r with openers := os, inactive := min r.inactive k }).frm = r.at0 := rfl
  have hn2 := hO2.num
  have hk0 : ¬ (k : Int) < 0 := by omega
  have j0 := blk.cell_blk HOb.out (i := 0) rfl
  have j1 := blk.cell_blk HOb.out (i := 1) rfl
  have j2 := blk.cell_blk HOb.out (i := 2) rfl
  have hqi : (q : Int) ≤ (l.length : Int) := by omega
  have hqb : ((q : Int) == 0) = false := by simp; omega
  have HO6 := (show Hid (Rd.Ok _ _) from hO6)
  have HO1 := (show Hid (Rd.Ok _ _) from hO1)
  obtain ⟨R2, hR2⟩ : ∃ R2, R2 = (Rd.endText l { r with openers := os, inactive := min r.inactive k }) := ⟨_, rfl⟩
  have hat2 : R2.at0 = r.at0 := by rw [hR2]; rfl
  have hop2 : R2.openers = os := by rw [hR2]; rfl
  rw [← hR2] at HE HO6 hp2 hw2l hf2 hn2
  have HEn : Hid (∀ w3, Below (((w.alloc (.cells #[.int .i64 (o.kind : Int), .int .i64 (o.part : Int), .int .i64 (o.start : Int)] 71)).setCell ⟨rb, 4, none⟩ (.slice (some ⟨og, 0, none⟩) k k2)).setCell ⟨rb, 5, none⟩ (.int .i64 (min (r.inactive : Int) (k : Int)))).heap.size (((w.alloc (.cells #[.int .i64 (o.kind : Int), .int .i64 (o.part : Int), .int .i64 (o.start : Int)] 71)).setCell ⟨rb, 4, none⟩ (.slice (some ⟨og, 0, none⟩) k k2)).setCell ⟨rb, 5, none⟩ (.int .i64 (min (r.inactive : Int) (k : Int)))) w3 → Calls Tryz.prog 16 #[ptrB rb] (w3.alloc (.cells #[.string ⟨L.toArray⟩, .string ⟨D.toArray⟩, .string ⟨V.toArray⟩] 35)) fun e w' => e = .returned (.tuple #[]) ∧ (∃ vp' xs', RdR (GstR (GstR G w.heap.size (.cells #[.int .i64 (o.kind : Int), .int .i64 (o.part : Int), .int .i64 (o.start : Int)] 71 (0, 0))) w3.heap.size (.cells #[.string ⟨L.toArray⟩, .string ⟨D.toArray⟩, .string ⟨V.toArray⟩] 35 (0, 0))) B l m n (firstD df) w' rb vp' (.slice (some ⟨og, 0, none⟩) k k2) xs' R2) ∧ Below B (w3.alloc (.cells #[.string ⟨L.toArray⟩, .string ⟨D.toArray⟩, .string ⟨V.toArray⟩] 35)) w' ∧ KeepI (w3.alloc (.cells #[.string ⟨L.toArray⟩, .string ⟨D.toArray⟩, .string ⟨V.toArray⟩] 35)) w') := fun w3 hb => by
    rw [hR2]
    exact iend_any ((HG2.out.below hb).guest #[.string ⟨L.toArray⟩, .string ⟨D.toArray⟩, .string ⟨V.toArray⟩] 35) HO1.out hl
  have HBa : Hid (∀ w3, Below (((w.alloc (.cells #[.int .i64 (o.kind : Int), .int .i64 (o.part : Int), .int .i64 (o.start : Int)] 71)).setCell ⟨rb, 4, none⟩ (.slice (some ⟨og, 0, none⟩) k k2)).setCell ⟨rb, 5, none⟩ (.int .i64 (min (r.inactive : Int) (k : Int)))).heap.size (((w.alloc (.cells #[.int .i64 (o.kind : Int), .int .i64 (o.part : Int), .int .i64 (o.start : Int)] 71)).setCell ⟨rb, 4, none⟩ (.slice (some ⟨og, 0, none⟩) k k2)).setCell ⟨rb, 5, none⟩ (.int .i64 (min (r.inactive : Int) (k : Int)))) w3 → ∀ x, Below B w (w3.alloc x)) := fun w3 hb x => (HBw2.out.trans (hb.mono HBw2x)).alloc (Nat.le_trans HBw2x hb.size) x
  clear h hG hG1 he hcs hnth hop hlen hk hmi hge hkind hq hTg ht hts hact hO1 hO2 hO6 hR2
  go_enter Tryz.func25, Tryz.ntmps25
  go_wp2_with (first
    | (go_at_call 39; refine Calls.mono HTg.out ?_; rintro e w3 ⟨rfl, hb3⟩; have HE3 := (show Hid _ from HEn.out w3 hb3); have HB3 := (show Hid _ from HBa.out w3 hb3); clear hb3)
    | (go_at_call 16; refine Calls.mono HE3.out ?_; rintro e w4 ⟨rfl, ⟨vp4, xs4, hR4⟩, hb4, _⟩; have HR4 := (show Hid (RdR _ _ _ _ _ _ _ _ _ _ _ _) from hR4); have HB4 : Hid (Below B w w4) := (HB3.out _).trans hb4; clear hR4 hb4))
  obtain ⟨a1, k1, hv4⟩ := row_len HR4.out.row
  rw [hv4] at HR4
  obtain ⟨pb, X, hpb, hcap, o3, hPA⟩ := rows_tail HR4.out.row HR4.out.part hp2
  subst hpb
  have HEm : Hid (∀ u : BwI w4, Calls Tryz.prog 17 #[X] u.wo fun e w' => ∃ v', e = .returned v' ∧ (∃ ys, w'.ownsRow 0 32 5 v' (emphI (R2.parts.drop (o.part + 1))).len ys ∧ KidI w' (fun _ => True) (emphI (R2.parts.drop (o.part + 1))) ys) ∧ Below u.wo.heap.size u.wo w') := fun u => iemph_any _ l.length (by have := wtL_split R2.parts (o.part + 1); omega) (by omega) (fun p hp => hn2 p (List.mem_of_mem_drop hp)) X u.wo (hPA.below u.is)
  have g3 := fun u : BwI w4 => (HR4.out.below u.is).c.2.2.2.1
  have g1 : ∀ u : BwI w4, u.wo.cell? ⟨w.heap.size, 1, none⟩ = some (.int .i64 (o.part : Int)) := fun u => blk.cell_blk (blk.blk_below (HR4.out.alone.own) u.is) (i := 1) rfl
  have hpi : (o.part : Int) + 1 ≤ 4294967296 := by have := len_wt R2.parts; omega
  have hB4w : B ≤ w4.heap.size := Nat.le_trans hBw HB4.out.size
  refine region_tail (fun w' => ∃ u : BwI w4, w' = u.wo) 8 (by kernel_rfl) (by kernel_rfl) (BwI.first w4) ?_
  haveI := BwI.some w4
  simp only [List.take_succ_cons, List.take_zero]
  repeat (go_big_quiet_step (first | exact rfl))
  refine wpQuiet_nil ?_
  intro w5 hw5
  obtain ⟨u, hu⟩ := hw5
  subst hu
  simp only [List.drop_succ_cons, List.drop_zero]
  go_wp2_with (go_at_call 17; refine Calls.mono (HEm.out u) ?_; rintro e w6 ⟨v', rfl, ⟨ys, hr6, hk6⟩, hb6⟩; obtain ⟨ka, kn, kc, hv6⟩ := row_slice hr6; subst hv6; have hbw : Below w4.heap.size w4 w6 := u.is.trans (hb6.mono u.is.size); have HR6 := (show Hid (RdR _ _ _ _ _ _ _ _ _ _ _ _) from HR4.out.below hbw); have HB6 : Hid (Below B w w6) := HB4.out.trans (hbw.mono hB4w); have HK6 : Hid (w6.ownsRow 0 32 5 (.slice ka kn kc) (emphI (R2.parts.drop (o.part + 1))).len ys ∧ KidI w6 (fun _ => True) (emphI (R2.parts.drop (o.part + 1))) ys) := ⟨hr6, hk6⟩; clear hr6 hk6 hb6 hbw)
  clear g3 g1
  have s3 : w6.drew.cell? ⟨rb, 3, none⟩ = some (.slice (some ⟨pb, 0, none⟩) R2.parts.length k1) := HR6.out.c.2.2.2.1
  have s3f : w6.drew.frozen? ⟨rb, 3, none⟩ = false := HR6.out.f 3
  have s1 : w6.drew.cell? ⟨w.heap.size, 1, none⟩ = some (.int .i64 (o.part : Int)) := blk.cell_blk (w := w6.drew) HR6.out.alone.own (i := 1) rfl
  have hpc : o.part ≤ k1 := by omega
  (try simp only [Exit.then])
  go_region
  have HR7 : Hid (RdR (GstR (GstR G w.heap.size (.cells #[.int .i64 (o.kind : Int), .int .i64 (o.part : Int), .int .i64 (o.start : Int)] 71 (0, 0))) w3.heap.size (.cells #[.string ⟨L.toArray⟩, .string ⟨D.toArray⟩, .string ⟨V.toArray⟩] 35 (0, 0))) B l m n (firstD df) (w6.setCell ⟨rb, 3, none⟩ (.slice (some ⟨pb, 0, none⟩) o.part k1)).drew rb (.slice (some ⟨pb, 0, none⟩) o.part k1) (.slice (some ⟨og, 0, none⟩) k k2) (xs4.take (o.part * 9)) { R2 with parts := R2.parts.take o.part }) := by
    refine HR6.out.reset (w' := (w6.setCell ⟨rb, 3, none⟩ (.slice (some ⟨pb, 0, none⟩) o.part k1)).drew) (blk.set_blk HR6.out.blk 3 _) (fun g hg => set1_other hg) ?_ (PartI.take _ _ o.part HR6.out.part).1 HR6.out.ops rfl rfl
    show World.ownsRow _ _ _ _ _ (R2.parts.take o.part).length _
    rw [List.length_take, Nat.min_eq_left (by omega)]
    exact row_cut HR6.out.row (by omega)
  have hK7 : KeepI w6 (w6.setCell ⟨rb, 3, none⟩ (.slice (some ⟨pb, 0, none⟩) o.part k1)).drew := (KeepI.refl w6).set HR6.out.blk (by decide) 3 (.slice (some ⟨pb, 0, none⟩) o.part k1)
  have HB7 : Hid (Below B w (w6.setCell ⟨rb, 3, none⟩ (.slice (some ⟨pb, 0, none⟩) o.part k1)).drew) := Below.drew (blk.below_set HB6.out hbs)
  have HAd : Hid (Calls Tryz.prog 33 #[ptrB rb, .agg #[.int .i64 (o.kind : Int), .string ⟨#[]⟩, .string ⟨D.toArray⟩, .string ⟨V.toArray⟩, .slice ka kn kc, .int .u8 0, .int .i64 0, .bool false, .bool false], .int .i64 (q : Int)] (w6.setCell ⟨rb, 3, none⟩ (.slice (some ⟨pb, 0, none⟩) o.part k1)).drew _) := iadd_any HR7.out HO6.out hl { i := { kind := o.kind, dest := D, title := V }, kids := emphI (R2.parts.drop (o.part + 1)) } q (by show R2.at0 + q ≤ _; omega) ka kn kc (irow_keepI HK6.out.1 hK7) (KidI.stay (fun _ _ => trivial) hK7 _ _ HK6.out.2)
  have t0 := blk.cell_blk HR7.out.alone.own (i := 0) rfl
  have t1 := blk.cell_blk HR7.out.own (i := 1) rfl
  have t2 := blk.cell_blk HR7.out.own (i := 2) rfl
  clear s3 s3f s1 hK7
  generalize (w6.setCell ⟨rb, 3, none⟩ (.slice (some ⟨pb, 0, none⟩) o.part k1)).drew = W7 at *
  (try simp only [Exit.then])
  go_wp2_with (go_at_call 33; refine Calls.mono HAd.out ?_; rintro e w8 ⟨rfl, ⟨vp8, xs8, hR8⟩, hb8⟩; have v0 := blk.cell_blk hR8.alone.own (i := 0) rfl; have v5 := hR8.c.2.2.2.2.2.1; have v5f := hR8.f 5; have HR8 := (show Hid (RdR _ _ _ _ _ _ _ _ _ _ _ _) from hR8.alone.alone); have HB8 : Hid (Below B w w8) := HB7.out.trans hb8; clear hR8 hb8)
  go_end0
  exact ⟨rfl, ⟨_, _, _, by rw [HE.out]; exact HR8.out.num.2.2 k⟩, blk.below_set HB8.out hbs⟩

end Go.Proofs.YtjdijlaoeoikhaaGreatDoor

/- Plain mathematics: each step leaves the reader as it may be, and goes on. -/
namespace Go.Proofs.YtjdijlaoeoikhaaGreatDoor

theorem innerL_len (l : Str8) : (innerL l).length ≤ l.length := by
  unfold innerL
  simp only
  split
  · rw [List.length_dropLast, List.length_drop, List.length_map]; omega
  · rw [List.length_map]; exact Nat.le_refl _
theorem code_len {s x : Str8} {n : Nat} (h : codeL s = some (x, n)) : x.length ≤ n := by
  unfold codeL at h
  split at h
  · cases h
  · split at h
    · cases h
    · rename_i m _
      injection h with h
      injection h with h1 h2
      rw [← h1, ← h2]
      refine Nat.le_trans (innerL_len _) ?_
      rw [List.length_take]
      omega
theorem target_pos {l : Str8} {df : List Df8} {r : Rd} {o : Op} {d : Str8 × Str8} {n : Nat} (h : r.target l df o = some (d, n)) (hat : r.at0 < l.length) : 0 < n ∧ r.at0 + n ≤ l.length := by
  have hdl : (l.drop (r.at0 + 1)).length = l.length - (r.at0 + 1) := List.length_drop
  have dd : ∀ {u : Str8} {z : Nat}, definedI df u z = some (d, n) → z = n := fun {u z} q => by
    rw [defined_is] at q
    cases hf : firstD df (fold u) with
    | none => rw [hf] at q; cases q
    | some x => rw [hf] at q; exact congrArg Prod.snd (Option.some.inj q)
  unfold Rd.target at h
  simp only at h
  split at h
  · rename_i d' z hp
    have := inPlace_pos hp
    have e : 1 + z = n := congrArg Prod.snd (Option.some.inj h)
    omega
  · split at h
    · rename_i u z hla
      have := label_len hla
      have e := dd h
      omega
    · split at h
      · cases h
      · rename_i u z hlo
        split at h
        · cases h
        · have e := dd h
          split at e
          · rename_i hpre
            have := (List.isPrefixOf_iff_prefix.1 hpre).length_le
            simp only [List.length_cons, List.length_nil] at this
            omega
          · omega

def Knd (r : Rd) : Prop := ∀ o ∈ r.openers, o.kind = 6 ∨ o.kind = 7
/-- As it may be, and further on. -/
def Nxt (l : Str8) (r r' : Rd) : Prop := r'.Ok l ∧ Knd r' ∧ r.at0 < r'.at0
theorem Nxt.pass {l : Str8} {r : Rd} (h : r.Ok l) (hk : Knd r) {n : Nat} (h1 : 0 < n) (hn : r.at0 + n ≤ l.length) : Nxt l r (r.pass n) := ⟨h.pass hn, hk, by show r.at0 < r.at0 + n; omega⟩
theorem Nxt.add {l : Str8} {r : Rd} (h : r.Ok l) (hk : Knd r) {p : Pt} {n : Nat} (h1 : 0 < n) (hn : r.at0 + n ≤ l.length) (hp : p.i.text.length ≤ n) (hd : p.d.number ≤ l.length) : Nxt l r (r.add l p n) := ⟨h.add h1 hn hp hd, hk, by show r.at0 < r.at0 + n; omega⟩
theorem Nxt.brk {l : Str8} {r : Rd} (h : r.Ok l) (hk : Knd r) {kind ahead : Nat} (hn : r.at0 + ahead + 1 ≤ l.length) : Nxt l r (r.addBreak l kind ahead) := by
  have hr := rowI_le (· == 32) (l.drop (r.at0 + ahead + 1))
  rw [List.length_drop] at hr
  exact Nxt.add h hk (by omega) (by omega) (Nat.zero_le _) (Nat.zero_le _)
theorem Nxt.opener {l : Str8} {r : Rd} (h : r.Ok l) (hk : Knd r) {t : Str8} (k : Nat) (hkk : k = 6 ∨ k = 7) (h1 : 0 < t.length) (hn : r.at0 + t.length ≤ l.length) : Nxt l r { r.add l { i := { text := t } } t.length with openers := (r.add l { i := { text := t } } t.length).openers ++ [{ kind := k, part := (r.add l { i := { text := t } } t.length).parts.length - 1, start := (r.add l { i := { text := t } } t.length).at0 - 1 }] } := by
  have ha := Nxt.add h hk (p := { i := { text := t } }) h1 hn (Nat.le_refl _) (Nat.zero_le _)
  have hpl : (r.add l { i := { text := t } } t.length).parts.length = (r.endText l).parts.length + 1 := by rw [Rd.add_is]; show ((r.endText l).parts ++ [_]).length = _; rw [List.length_append]; rfl
  refine ⟨ha.1.opener (by omega) (by have := ha.2.2; omega) (fun o ho => ?_) k, fun o ho => ?_, ha.2.2⟩
  · have := h.endText.ops o ho
    omega
  · rcases List.mem_append.1 ho with ho | ho
    · exact hk o ho
    · rw [List.mem_singleton.1 ho]; exact hkk
theorem Nxt.closer {l : Str8} {df : List Df8} {r : Rd} (h : r.Ok l) (hk : Knd r) (hat : r.at0 < l.length) : Nxt l r (r.closer l df) := by
  rcases List.eq_nil_or_concat r.openers with he | ⟨os, o, he⟩
  · rw [closer_none l df r he]
    exact Nxt.pass h hk (by omega) (by omega)
  · rw [List.concat_eq_append] at he
    have hk1 : Knd { r with openers := os, inactive := min r.inactive os.length } := fun x hx => hk x (by rw [he]; exact List.mem_append_left _ hx)
    have hi : min r.inactive os.length ≤ 2 * l.length := by have := h.ina; omega
    have h1 := h.drop he (min r.inactive os.length) hi
    have h6 := h.endText.cutBack (os := os) (o := o) he (min r.inactive os.length) hi
    have hol : os.length ≤ 2 * l.length := by
      have h2 := h.len.2
      have hf := h.frm
      have ha := h.at0
      rw [he, List.length_append] at h2
      omega
    rw [closer_some l df r he]
    simp only
    split
    · exact Nxt.pass (r := { r with openers := os, inactive := min r.inactive os.length }) h1 hk1 (by omega) (show r.at0 + 1 ≤ _ by omega)
    · split
      · exact Nxt.pass (r := { r with openers := os, inactive := min r.inactive os.length }) h1 hk1 (by omega) (show r.at0 + 1 ≤ _ by omega)
      · rename_i d n ht
        obtain ⟨hn1, hn2⟩ := target_pos ht hat
        have hx := Nxt.add (r := { Rd.endText l { r with openers := os, inactive := min r.inactive os.length } with parts := (Rd.endText l { r with openers := os, inactive := min r.inactive os.length }).parts.take o.part }) h6 hk1 (p := { i := { kind := o.kind, dest := d.1, title := d.2 }, kids := emphI ((Rd.endText l { r with openers := os, inactive := min r.inactive os.length }).parts.drop (o.part + 1)) }) hn1 hn2 (Nat.zero_le _) (Nat.zero_le _)
        split
        · exact ⟨⟨hx.1.frm, hx.1.at0, hx.1.wt, hx.1.num, hx.1.ops, hx.1.ord, hol⟩, hx.2.1, hx.2.2⟩
        · exact hx

theorem rowI_head {p : UInt8 → Bool} {c : UInt8} {t : Str8} (h : p c = true) : 0 < rowI p (c :: t) := by
  unfold rowI
  rw [List.takeWhile_cons, if_pos h, List.length_cons]
  omega
theorem Nxt.step {l : Str8} {df : List Df8} {r : Rd} (h : r.Ok l) (hk : Knd r) (hat : r.at0 < l.length) : Nxt l r (r.step l df) := by
  obtain ⟨c, T, hd⟩ : ∃ c T, l.drop r.at0 = c :: T := ⟨_, _, List.drop_eq_getElem_cons hat⟩
  have hlen : r.at0 + 1 + T.length = l.length := by
    have e := congrArg List.length hd
    rw [List.length_drop, List.length_cons] at e
    omega
  have hcl : (c :: T).length = T.length + 1 := rfl
  by_cases h92 : c = 92
  · subst h92
    cases T with
    | nil => rw [bsl_nil l r df hd]; exact Nxt.pass h hk (by omega) (by omega)
    | cons b T0 =>
      rw [bsl_cons l r df b T0 hd]
      have hb2 : (b :: T0).length = T0.length + 1 := rfl
      split
      · exact Nxt.brk h hk (by omega)
      · split
        · have he := h.endText
          refine ⟨⟨?_, ?_, ?_, he.num, fun o ho => ?_, he.ord, he.ina⟩, hk, ?_⟩
          · show r.at0 + 1 ≤ r.at0 + 2; omega
          · show r.at0 + 2 ≤ l.length; omega
          · have := he.wt
            have e : (r.endText l).frm = r.at0 := rfl
            show wtL (r.endText l).parts ≤ 2 * (r.at0 + 1)
            omega
          · have := he.ops o ho
            have e : (r.endText l).at0 = r.at0 := rfl
            exact ⟨this.1, by show o.start < r.at0 + 2; omega⟩
          · show r.at0 < r.at0 + 2; omega
        · exact Nxt.pass h hk (by omega) (by omega)
  · by_cases h32 : c = 32 ∨ c = 10
    · rw [blanks_step l r df hd h32]
      have hrl := rowI_le (· == 32) (c :: T)
      split
      · rename_i h10
        have h0 : 0 < rowI (· == 32) (c :: T) := by
          rcases h32 with rfl | rfl
          · exact rowI_head rfl
          · exact absurd rfl h10
        exact Nxt.pass h hk h0 (by omega)
      · rename_i h10
        have h10' : ((c :: T).drop (rowI (· == 32) (c :: T))).head? = some 10 := Classical.not_not.1 h10
        have := head_lt h10'
        split
        · exact Nxt.brk h hk (by omega)
        · exact Nxt.brk h hk (by omega)
    · by_cases h96 : c = 96
      · subst h96
        rw [code_step l r df hd]
        cases hc : codeL (96 :: T) with
        | some q =>
          obtain ⟨x, z⟩ := q
          obtain ⟨q1, q2, _⟩ := code_front hc
          exact Nxt.add h hk q2 (by omega) (code_len hc) (Nat.zero_le _)
        | none =>
          have hrl := rowI_le (· == 96) (96 :: T)
          exact Nxt.pass h hk (rowI_head rfl) (by omega)
      · by_cases h60 : c = 60
        · subst h60
          rw [angle_step l r df hd]
          cases hc : autoL (60 :: T) with
          | some q =>
            obtain ⟨d, x, z⟩ := q
            obtain ⟨q1, q2, _⟩ := auto_front hc
            exact Nxt.add h hk (by omega) (by omega) (Nat.zero_le _) (Nat.zero_le _)
          | none =>
            have hrl := rawN_le (60 :: T)
            show Nxt l r (if 0 < rawN (60 :: T) then _ else _)
            split
            · rename_i h0
              exact Nxt.add h hk h0 (by omega) (by show ((60 :: T).take _).length ≤ _; rw [List.length_take]; omega) (Nat.zero_le _)
            · exact Nxt.pass h hk (by omega) (by omega)
        · by_cases h38 : c = 38
          · subst h38
            rw [ref_step l r df hd]
            have hel := esc.entity_len (38 :: T)
            split
            · exact Nxt.pass h hk (by omega) (by omega)
            · exact Nxt.add h hk (by omega) (by omega) hel.1 (Nat.zero_le _)
          · by_cases h42 : c = 42 ∨ c = 95
            · rw [del_step l r df hd h42]
              have hrl := rowI_le (· == c) (c :: T)
              refine Nxt.add h hk (rowI_head (by simp)) (by omega) (by show ((c :: T).take _).length ≤ _; rw [List.length_take]; omega) ?_
              show (delimI l r.at0 (r.at0 + rowI (· == c) (c :: T))).number ≤ l.length
              unfold delimI
              simp only
              split <;> (simp only; omega)
            · by_cases h33 : c = 33
              · subst h33
                rw [bang_step l r df hd]
                split
                · rename_i hh
                  have : 1 ≤ T.length := by
                    cases T with
                    | nil => cases hh
                    | cons a t => show 1 ≤ t.length + 1; omega
                  exact Nxt.opener h hk (t := [33, 91]) 7 (.inr rfl) (by decide) (by show r.at0 + 2 ≤ _; omega)
                · exact Nxt.pass h hk (by omega) (by omega)
              · by_cases h91 : c = 91
                · subst h91
                  rw [open_step l r df hd]
                  exact Nxt.opener h hk (t := [91]) 6 (.inl rfl) (by decide) (by show r.at0 + 1 ≤ _; omega)
                · have e : r.step l df = if c = 93 then r.closer l df else r.pass 1 := by
                    unfold Rd.step
                    rw [hd]
                    simp only
                    rw [if_neg h92, if_neg h32, if_neg h96, if_neg h60, if_neg h38, if_neg h42, if_neg h33, if_neg h91]
                  rw [e]
                  split
                  · exact Nxt.closer h hk hat
                  · exact Nxt.pass h hk (by omega) (by omega)

end Go.Proofs.YtjdijlaoeoikhaaGreatDoor

/- Package inline: read; walked. -/
namespace Go.Proofs.YtjdijlaoeoikhaaGreatDoor
open Go.RowKit

set_option maxHeartbeats 2000000 in
set_option maxRecDepth 20000 in
theorem iread_92 {G : Nat → Obj → Prop} {B m n rb : Nat} {l : Str8} {look : Str8 → Option Df8} {w : World} {vp vo : Value} {xs : List Value} {r : Rd} (h : RdR G B l m n look w rb vp vo xs r) (hl : l.length ≤ 1073741824) {T : Str8} (hd : l.drop r.at0 = 92 :: T) {r' : Rd} (HX : Hid (∀ u : BwI w, Calls Tryz.prog 18 #[ptrB rb] u.wo fun e w' => LeftR G B l m n look u.wo rb r' e w')) :
    Calls Tryz.prog 15 #[ptrB rb] w fun e w' => LeftR G B l m n look w rb r' e w' := by
  have hBw : B ≤ w.heap.size := Nat.le_trans h.base (Nat.le_of_lt (blk.lt_of_block h.blk))
  have HR : Hid (∀ u : BwI w, RdR G B l m n look u.wo rb vp vo xs r) := fun u => h.below u.is
  have HBu : Hid (∀ u : BwI w, Below B w u.wo) := fun u => u.is.mono hBw
  have c0 := fun u : BwI w => (HR.out u).c.1
  have c1 := fun u : BwI w => (HR.out u).c.2.1
  have hbs := h.base
  obtain ⟨hT, hat, hlen⟩ := drop_next hd
  have hix : l[r.at0]'hat = 92 := by
    have := List.getElem_cons_drop hat
    rw [hd] at this
    exact (List.cons.inj this).1
  have hsz : r.at0 < (ByteArray.mk l.toArray).size := by rw [size_list]; exact hat
  have hby : (ByteArray.mk l.toArray)[r.at0]'hsz = 92 := by rw [byte_at, list_data, List.getD_eq_getElem?_getD, List.getElem?_eq_getElem hat, hix]; rfl
  have hszi : (r.at0 : Int) < ((ByteArray.mk l.toArray).size : Int) := by rw [size_list]; omega
  clear h hd hT hix hlen
  go_enter Tryz.func15, Tryz.ntmps15
  go_wp2
  refine region_classI (fun w' => ∃ u : BwI w, w' = u.wo) (by kernel_rfl) (by kernel_rfl) (BwI.first w) ?_
  haveI := BwI.some w
  repeat (go_big_quiet_step (first | exact rfl))
  refine wpQuiet_nil ?_
  intro _ hw'
  obtain ⟨u, hu⟩ := hw'
  subst hu
  have HB := (show Hid _ from HBu.out u)
  (try simp only [Exit.then])
  go_wp2_with (go_at_call 18; refine Calls.mono (HX.out u) ?_; rintro e u2 ⟨rfl, h1, h2⟩)
  go_end0
  exact ⟨rfl, h1, HB.out.trans h2⟩

set_option maxHeartbeats 2000000 in
set_option maxRecDepth 20000 in
theorem iread_32 {G : Nat → Obj → Prop} {B m n rb : Nat} {l : Str8} {look : Str8 → Option Df8} {w : World} {vp vo : Value} {xs : List Value} {r : Rd} (h : RdR G B l m n look w rb vp vo xs r) (hl : l.length ≤ 1073741824) {T : Str8} (hd : l.drop r.at0 = 32 :: T) {r' : Rd} (HX : Hid (∀ u : BwI w, Calls Tryz.prog 19 #[ptrB rb] u.wo fun e w' => LeftR G B l m n look u.wo rb r' e w')) :
    Calls Tryz.prog 15 #[ptrB rb] w fun e w' => LeftR G B l m n look w rb r' e w' := by
  have hBw : B ≤ w.heap.size := Nat.le_trans h.base (Nat.le_of_lt (blk.lt_of_block h.blk))
  have HR : Hid (∀ u : BwI w, RdR G B l m n look u.wo rb vp vo xs r) := fun u => h.below u.is
  have HBu : Hid (∀ u : BwI w, Below B w u.wo) := fun u => u.is.mono hBw
  have c0 := fun u : BwI w => (HR.out u).c.1
  have c1 := fun u : BwI w => (HR.out u).c.2.1
  have hbs := h.base
  obtain ⟨hT, hat, hlen⟩ := drop_next hd
  have hix : l[r.at0]'hat = 32 := by
    have := List.getElem_cons_drop hat
    rw [hd] at this
    exact (List.cons.inj this).1
  have hsz : r.at0 < (ByteArray.mk l.toArray).size := by rw [size_list]; exact hat
  have hby : (ByteArray.mk l.toArray)[r.at0]'hsz = 32 := by rw [byte_at, list_data, List.getD_eq_getElem?_getD, List.getElem?_eq_getElem hat, hix]; rfl
  have hszi : (r.at0 : Int) < ((ByteArray.mk l.toArray).size : Int) := by rw [size_list]; omega
  clear h hd hT hix hlen
  go_enter Tryz.func15, Tryz.ntmps15
  go_wp2
  refine region_classI (fun w' => ∃ u : BwI w, w' = u.wo) (by kernel_rfl) (by kernel_rfl) (BwI.first w) ?_
  haveI := BwI.some w
  repeat (go_big_quiet_step (first | exact rfl))
  refine wpQuiet_nil ?_
  intro _ hw'
  obtain ⟨u, hu⟩ := hw'
  subst hu
  have HB := (show Hid _ from HBu.out u)
  (try simp only [Exit.then])
  go_wp2_with (go_at_call 19; refine Calls.mono (HX.out u) ?_; rintro e u2 ⟨rfl, h1, h2⟩)
  go_end0
  exact ⟨rfl, h1, HB.out.trans h2⟩

set_option maxHeartbeats 2000000 in
set_option maxRecDepth 20000 in
theorem iread_10 {G : Nat → Obj → Prop} {B m n rb : Nat} {l : Str8} {look : Str8 → Option Df8} {w : World} {vp vo : Value} {xs : List Value} {r : Rd} (h : RdR G B l m n look w rb vp vo xs r) (hl : l.length ≤ 1073741824) {T : Str8} (hd : l.drop r.at0 = 10 :: T) {r' : Rd} (HX : Hid (∀ u : BwI w, Calls Tryz.prog 19 #[ptrB rb] u.wo fun e w' => LeftR G B l m n look u.wo rb r' e w')) :
    Calls Tryz.prog 15 #[ptrB rb] w fun e w' => LeftR G B l m n look w rb r' e w' := by
  have hBw : B ≤ w.heap.size := Nat.le_trans h.base (Nat.le_of_lt (blk.lt_of_block h.blk))
  have HR : Hid (∀ u : BwI w, RdR G B l m n look u.wo rb vp vo xs r) := fun u => h.below u.is
  have HBu : Hid (∀ u : BwI w, Below B w u.wo) := fun u => u.is.mono hBw
  have c0 := fun u : BwI w => (HR.out u).c.1
  have c1 := fun u : BwI w => (HR.out u).c.2.1
  have hbs := h.base
  obtain ⟨hT, hat, hlen⟩ := drop_next hd
  have hix : l[r.at0]'hat = 10 := by
    have := List.getElem_cons_drop hat
    rw [hd] at this
    exact (List.cons.inj this).1
  have hsz : r.at0 < (ByteArray.mk l.toArray).size := by rw [size_list]; exact hat
  have hby : (ByteArray.mk l.toArray)[r.at0]'hsz = 10 := by rw [byte_at, list_data, List.getD_eq_getElem?_getD, List.getElem?_eq_getElem hat, hix]; rfl
  have hszi : (r.at0 : Int) < ((ByteArray.mk l.toArray).size : Int) := by rw [size_list]; omega
  clear h hd hT hix hlen
  go_enter Tryz.func15, Tryz.ntmps15
  go_wp2
  refine region_classI (fun w' => ∃ u : BwI w, w' = u.wo) (by kernel_rfl) (by kernel_rfl) (BwI.first w) ?_
  haveI := BwI.some w
  repeat (go_big_quiet_step (first | exact rfl))
  refine wpQuiet_nil ?_
  intro _ hw'
  obtain ⟨u, hu⟩ := hw'
  subst hu
  have HB := (show Hid _ from HBu.out u)
  (try simp only [Exit.then])
  go_wp2_with (go_at_call 19; refine Calls.mono (HX.out u) ?_; rintro e u2 ⟨rfl, h1, h2⟩)
  go_end0
  exact ⟨rfl, h1, HB.out.trans h2⟩

set_option maxHeartbeats 2000000 in
set_option maxRecDepth 20000 in
theorem iread_96 {G : Nat → Obj → Prop} {B m n rb : Nat} {l : Str8} {look : Str8 → Option Df8} {w : World} {vp vo : Value} {xs : List Value} {r : Rd} (h : RdR G B l m n look w rb vp vo xs r) (hl : l.length ≤ 1073741824) {T : Str8} (hd : l.drop r.at0 = 96 :: T) {r' : Rd} (HX : Hid (∀ u : BwI w, Calls Tryz.prog 20 #[ptrB rb] u.wo fun e w' => LeftR G B l m n look u.wo rb r' e w')) :
    Calls Tryz.prog 15 #[ptrB rb] w fun e w' => LeftR G B l m n look w rb r' e w' := by
  have hBw : B ≤ w.heap.size := Nat.le_trans h.base (Nat.le_of_lt (blk.lt_of_block h.blk))
  have HR : Hid (∀ u : BwI w, RdR G B l m n look u.wo rb vp vo xs r) := fun u => h.below u.is
  have HBu : Hid (∀ u : BwI w, Below B w u.wo) := fun u => u.is.mono hBw
  have c0 := fun u : BwI w => (HR.out u).c.1
  have c1 := fun u : BwI w => (HR.out u).c.2.1
  have hbs := h.base
  obtain ⟨hT, hat, hlen⟩ := drop_next hd
  have hix : l[r.at0]'hat = 96 := by
    have := List.getElem_cons_drop hat
    rw [hd] at this
    exact (List.cons.inj this).1
  have hsz : r.at0 < (ByteArray.mk l.toArray).size := by rw [size_list]; exact hat
  have hby : (ByteArray.mk l.toArray)[r.at0]'hsz = 96 := by rw [byte_at, list_data, List.getD_eq_getElem?_getD, List.getElem?_eq_getElem hat, hix]; rfl
  have hszi : (r.at0 : Int) < ((ByteArray.mk l.toArray).size : Int) := by rw [size_list]; omega
  clear h hd hT hix hlen
  go_enter Tryz.func15, Tryz.ntmps15
  go_wp2
  refine region_classI (fun w' => ∃ u : BwI w, w' = u.wo) (by kernel_rfl) (by kernel_rfl) (BwI.first w) ?_
  haveI := BwI.some w
  repeat (go_big_quiet_step (first | exact rfl))
  refine wpQuiet_nil ?_
  intro _ hw'
  obtain ⟨u, hu⟩ := hw'
  subst hu
  have HB := (show Hid _ from HBu.out u)
  (try simp only [Exit.then])
  go_wp2_with (go_at_call 20; refine Calls.mono (HX.out u) ?_; rintro e u2 ⟨rfl, h1, h2⟩)
  go_end0
  exact ⟨rfl, h1, HB.out.trans h2⟩

set_option maxHeartbeats 2000000 in
set_option maxRecDepth 20000 in
theorem iread_60 {G : Nat → Obj → Prop} {B m n rb : Nat} {l : Str8} {look : Str8 → Option Df8} {w : World} {vp vo : Value} {xs : List Value} {r : Rd} (h : RdR G B l m n look w rb vp vo xs r) (hl : l.length ≤ 1073741824) {T : Str8} (hd : l.drop r.at0 = 60 :: T) {r' : Rd} (HX : Hid (∀ u : BwI w, Calls Tryz.prog 21 #[ptrB rb] u.wo fun e w' => LeftR G B l m n look u.wo rb r' e w')) :
    Calls Tryz.prog 15 #[ptrB rb] w fun e w' => LeftR G B l m n look w rb r' e w' := by
  have hBw : B ≤ w.heap.size := Nat.le_trans h.base (Nat.le_of_lt (blk.lt_of_block h.blk))
  have HR : Hid (∀ u : BwI w, RdR G B l m n look u.wo rb vp vo xs r) := fun u => h.below u.is
  have HBu : Hid (∀ u : BwI w, Below B w u.wo) := fun u => u.is.mono hBw
  have c0 := fun u : BwI w => (HR.out u).c.1
  have c1 := fun u : BwI w => (HR.out u).c.2.1
  have hbs := h.base
  obtain ⟨hT, hat, hlen⟩ := drop_next hd
  have hix : l[r.at0]'hat = 60 := by
    have := List.getElem_cons_drop hat
    rw [hd] at this
    exact (List.cons.inj this).1
  have hsz : r.at0 < (ByteArray.mk l.toArray).size := by rw [size_list]; exact hat
  have hby : (ByteArray.mk l.toArray)[r.at0]'hsz = 60 := by rw [byte_at, list_data, List.getD_eq_getElem?_getD, List.getElem?_eq_getElem hat, hix]; rfl
  have hszi : (r.at0 : Int) < ((ByteArray.mk l.toArray).size : Int) := by rw [size_list]; omega
  clear h hd hT hix hlen
  go_enter Tryz.func15, Tryz.ntmps15
  go_wp2
  refine region_classI (fun w' => ∃ u : BwI w, w' = u.wo) (by kernel_rfl) (by kernel_rfl) (BwI.first w) ?_
  haveI := BwI.some w
  repeat (go_big_quiet_step (first | exact rfl))
  refine wpQuiet_nil ?_
  intro _ hw'
  obtain ⟨u, hu⟩ := hw'
  subst hu
  have HB := (show Hid _ from HBu.out u)
  (try simp only [Exit.then])
  go_wp2_with (go_at_call 21; refine Calls.mono (HX.out u) ?_; rintro e u2 ⟨rfl, h1, h2⟩)
  go_end0
  exact ⟨rfl, h1, HB.out.trans h2⟩

set_option maxHeartbeats 2000000 in
set_option maxRecDepth 20000 in
theorem iread_38 {G : Nat → Obj → Prop} {B m n rb : Nat} {l : Str8} {look : Str8 → Option Df8} {w : World} {vp vo : Value} {xs : List Value} {r : Rd} (h : RdR G B l m n look w rb vp vo xs r) (hl : l.length ≤ 1073741824) {T : Str8} (hd : l.drop r.at0 = 38 :: T) {r' : Rd} (HX : Hid (∀ u : BwI w, Calls Tryz.prog 22 #[ptrB rb] u.wo fun e w' => LeftR G B l m n look u.wo rb r' e w')) :
    Calls Tryz.prog 15 #[ptrB rb] w fun e w' => LeftR G B l m n look w rb r' e w' := by
  have hBw : B ≤ w.heap.size := Nat.le_trans h.base (Nat.le_of_lt (blk.lt_of_block h.blk))
  have HR : Hid (∀ u : BwI w, RdR G B l m n look u.wo rb vp vo xs r) := fun u => h.below u.is
  have HBu : Hid (∀ u : BwI w, Below B w u.wo) := fun u => u.is.mono hBw
  have c0 := fun u : BwI w => (HR.out u).c.1
  have c1 := fun u : BwI w => (HR.out u).c.2.1
  have hbs := h.base
  obtain ⟨hT, hat, hlen⟩ := drop_next hd
  have hix : l[r.at0]'hat = 38 := by
    have := List.getElem_cons_drop hat
    rw [hd] at this
    exact (List.cons.inj this).1
  have hsz : r.at0 < (ByteArray.mk l.toArray).size := by rw [size_list]; exact hat
  have hby : (ByteArray.mk l.toArray)[r.at0]'hsz = 38 := by rw [byte_at, list_data, List.getD_eq_getElem?_getD, List.getElem?_eq_getElem hat, hix]; rfl
  have hszi : (r.at0 : Int) < ((ByteArray.mk l.toArray).size : Int) := by rw [size_list]; omega
  clear h hd hT hix hlen
  go_enter Tryz.func15, Tryz.ntmps15
  go_wp2
  refine region_classI (fun w' => ∃ u : BwI w, w' = u.wo) (by kernel_rfl) (by kernel_rfl) (BwI.first w) ?_
  haveI := BwI.some w
  repeat (go_big_quiet_step (first | exact rfl))
  refine wpQuiet_nil ?_
  intro _ hw'
  obtain ⟨u, hu⟩ := hw'
  subst hu
  have HB := (show Hid _ from HBu.out u)
  (try simp only [Exit.then])
  go_wp2_with (go_at_call 22; refine Calls.mono (HX.out u) ?_; rintro e u2 ⟨rfl, h1, h2⟩)
  go_end0
  exact ⟨rfl, h1, HB.out.trans h2⟩

set_option maxHeartbeats 2000000 in
set_option maxRecDepth 20000 in
theorem iread_42 {G : Nat → Obj → Prop} {B m n rb : Nat} {l : Str8} {look : Str8 → Option Df8} {w : World} {vp vo : Value} {xs : List Value} {r : Rd} (h : RdR G B l m n look w rb vp vo xs r) (hl : l.length ≤ 1073741824) {T : Str8} (hd : l.drop r.at0 = 42 :: T) {r' : Rd} (HX : Hid (∀ u : BwI w, Calls Tryz.prog 23 #[ptrB rb] u.wo fun e w' => LeftR G B l m n look u.wo rb r' e w')) :
    Calls Tryz.prog 15 #[ptrB rb] w fun e w' => LeftR G B l m n look w rb r' e w' := by
  have hBw : B ≤ w.heap.size := Nat.le_trans h.base (Nat.le_of_lt (blk.lt_of_block h.blk))
  have HR : Hid (∀ u : BwI w, RdR G B l m n look u.wo rb vp vo xs r) := fun u => h.below u.is
  have HBu : Hid (∀ u : BwI w, Below B w u.wo) := fun u => u.is.mono hBw
  have c0 := fun u : BwI w => (HR.out u).c.1
  have c1 := fun u : BwI w => (HR.out u).c.2.1
  have hbs := h.base
  obtain ⟨hT, hat, hlen⟩ := drop_next hd
  have hix : l[r.at0]'hat = 42 := by
    have := List.getElem_cons_drop hat
    rw [hd] at this
    exact (List.cons.inj this).1
  have hsz : r.at0 < (ByteArray.mk l.toArray).size := by rw [size_list]; exact hat
  have hby : (ByteArray.mk l.toArray)[r.at0]'hsz = 42 := by rw [byte_at, list_data, List.getD_eq_getElem?_getD, List.getElem?_eq_getElem hat, hix]; rfl
  have hszi : (r.at0 : Int) < ((ByteArray.mk l.toArray).size : Int) := by rw [size_list]; omega
  clear h hd hT hix hlen
  go_enter Tryz.func15, Tryz.ntmps15
  go_wp2
  refine region_classI (fun w' => ∃ u : BwI w, w' = u.wo) (by kernel_rfl) (by kernel_rfl) (BwI.first w) ?_
  haveI := BwI.some w
  repeat (go_big_quiet_step (first | exact rfl))
  refine wpQuiet_nil ?_
  intro _ hw'
  obtain ⟨u, hu⟩ := hw'
  subst hu
  have HB := (show Hid _ from HBu.out u)
  (try simp only [Exit.then])
  go_wp2_with (go_at_call 23; refine Calls.mono (HX.out u) ?_; rintro e u2 ⟨rfl, h1, h2⟩)
  go_end0
  exact ⟨rfl, h1, HB.out.trans h2⟩

set_option maxHeartbeats 2000000 in
set_option maxRecDepth 20000 in
theorem iread_95 {G : Nat → Obj → Prop} {B m n rb : Nat} {l : Str8} {look : Str8 → Option Df8} {w : World} {vp vo : Value} {xs : List Value} {r : Rd} (h : RdR G B l m n look w rb vp vo xs r) (hl : l.length ≤ 1073741824) {T : Str8} (hd : l.drop r.at0 = 95 :: T) {r' : Rd} (HX : Hid (∀ u : BwI w, Calls Tryz.prog 23 #[ptrB rb] u.wo fun e w' => LeftR G B l m n look u.wo rb r' e w')) :
    Calls Tryz.prog 15 #[ptrB rb] w fun e w' => LeftR G B l m n look w rb r' e w' := by
  have hBw : B ≤ w.heap.size := Nat.le_trans h.base (Nat.le_of_lt (blk.lt_of_block h.blk))
  have HR : Hid (∀ u : BwI w, RdR G B l m n look u.wo rb vp vo xs r) := fun u => h.below u.is
  have HBu : Hid (∀ u : BwI w, Below B w u.wo) := fun u => u.is.mono hBw
  have c0 := fun u : BwI w => (HR.out u).c.1
  have c1 := fun u : BwI w => (HR.out u).c.2.1
  have hbs := h.base
  obtain ⟨hT, hat, hlen⟩ := drop_next hd
  have hix : l[r.at0]'hat = 95 := by
    have := List.getElem_cons_drop hat
    rw [hd] at this
    exact (List.cons.inj this).1
  have hsz : r.at0 < (ByteArray.mk l.toArray).size := by rw [size_list]; exact hat
  have hby : (ByteArray.mk l.toArray)[r.at0]'hsz = 95 := by rw [byte_at, list_data, List.getD_eq_getElem?_getD, List.getElem?_eq_getElem hat, hix]; rfl
  have hszi : (r.at0 : Int) < ((ByteArray.mk l.toArray).size : Int) := by rw [size_list]; omega
  clear h hd hT hix hlen
  go_enter Tryz.func15, Tryz.ntmps15
  go_wp2
  refine region_classI (fun w' => ∃ u : BwI w, w' = u.wo) (by kernel_rfl) (by kernel_rfl) (BwI.first w) ?_
  haveI := BwI.some w
  repeat (go_big_quiet_step (first | exact rfl))
  refine wpQuiet_nil ?_
  intro _ hw'
  obtain ⟨u, hu⟩ := hw'
  subst hu
  have HB := (show Hid _ from HBu.out u)
  (try simp only [Exit.then])
  go_wp2_with (go_at_call 23; refine Calls.mono (HX.out u) ?_; rintro e u2 ⟨rfl, h1, h2⟩)
  go_end0
  exact ⟨rfl, h1, HB.out.trans h2⟩

set_option maxHeartbeats 2000000 in
set_option maxRecDepth 20000 in
theorem iread_33 {G : Nat → Obj → Prop} {B m n rb : Nat} {l : Str8} {look : Str8 → Option Df8} {w : World} {vp vo : Value} {xs : List Value} {r : Rd} (h : RdR G B l m n look w rb vp vo xs r) (hl : l.length ≤ 1073741824) {T : Str8} (hd : l.drop r.at0 = 33 :: T) {r' : Rd} (HX : Hid (∀ u : BwI w, Calls Tryz.prog 24 #[ptrB rb] u.wo fun e w' => LeftR G B l m n look u.wo rb r' e w')) :
    Calls Tryz.prog 15 #[ptrB rb] w fun e w' => LeftR G B l m n look w rb r' e w' := by
  have hBw : B ≤ w.heap.size := Nat.le_trans h.base (Nat.le_of_lt (blk.lt_of_block h.blk))
  have HR : Hid (∀ u : BwI w, RdR G B l m n look u.wo rb vp vo xs r) := fun u => h.below u.is
  have HBu : Hid (∀ u : BwI w, Below B w u.wo) := fun u => u.is.mono hBw
  have c0 := fun u : BwI w => (HR.out u).c.1
  have c1 := fun u : BwI w => (HR.out u).c.2.1
  have hbs := h.base
  obtain ⟨hT, hat, hlen⟩ := drop_next hd
  have hix : l[r.at0]'hat = 33 := by
    have := List.getElem_cons_drop hat
    rw [hd] at this
    exact (List.cons.inj this).1
  have hsz : r.at0 < (ByteArray.mk l.toArray).size := by rw [size_list]; exact hat
  have hby : (ByteArray.mk l.toArray)[r.at0]'hsz = 33 := by rw [byte_at, list_data, List.getD_eq_getElem?_getD, List.getElem?_eq_getElem hat, hix]; rfl
  have hszi : (r.at0 : Int) < ((ByteArray.mk l.toArray).size : Int) := by rw [size_list]; omega
  clear h hd hT hix hlen
  go_enter Tryz.func15, Tryz.ntmps15
  go_wp2
  refine region_classI (fun w' => ∃ u : BwI w, w' = u.wo) (by kernel_rfl) (by kernel_rfl) (BwI.first w) ?_
  haveI := BwI.some w
  repeat (go_big_quiet_step (first | exact rfl))
  refine wpQuiet_nil ?_
  intro _ hw'
  obtain ⟨u, hu⟩ := hw'
  subst hu
  have HB := (show Hid _ from HBu.out u)
  (try simp only [Exit.then])
  go_wp2_with (go_at_call 24; refine Calls.mono (HX.out u) ?_; rintro e u2 ⟨rfl, h1, h2⟩)
  go_end0
  exact ⟨rfl, h1, HB.out.trans h2⟩

set_option maxHeartbeats 2000000 in
set_option maxRecDepth 20000 in
theorem iread_91 {G : Nat → Obj → Prop} {B m n rb : Nat} {l : Str8} {look : Str8 → Option Df8} {w : World} {vp vo : Value} {xs : List Value} {r : Rd} (h : RdR G B l m n look w rb vp vo xs r) (hl : l.length ≤ 1073741824) {T : Str8} (hd : l.drop r.at0 = 91 :: T) {r' : Rd} (HX : Hid (∀ u : BwI w, Calls Tryz.prog 24 #[ptrB rb] u.wo fun e w' => LeftR G B l m n look u.wo rb r' e w')) :
    Calls Tryz.prog 15 #[ptrB rb] w fun e w' => LeftR G B l m n look w rb r' e w' := by
  have hBw : B ≤ w.heap.size := Nat.le_trans h.base (Nat.le_of_lt (blk.lt_of_block h.blk))
  have HR : Hid (∀ u : BwI w, RdR G B l m n look u.wo rb vp vo xs r) := fun u => h.below u.is
  have HBu : Hid (∀ u : BwI w, Below B w u.wo) := fun u => u.is.mono hBw
  have c0 := fun u : BwI w => (HR.out u).c.1
  have c1 := fun u : BwI w => (HR.out u).c.2.1
  have hbs := h.base
  obtain ⟨hT, hat, hlen⟩ := drop_next hd
  have hix : l[r.at0]'hat = 91 := by
    have := List.getElem_cons_drop hat
    rw [hd] at this
    exact (List.cons.inj this).1
  have hsz : r.at0 < (ByteArray.mk l.toArray).size := by rw [size_list]; exact hat
  have hby : (ByteArray.mk l.toArray)[r.at0]'hsz = 91 := by rw [byte_at, list_data, List.getD_eq_getElem?_getD, List.getElem?_eq_getElem hat, hix]; rfl
  have hszi : (r.at0 : Int) < ((ByteArray.mk l.toArray).size : Int) := by rw [size_list]; omega
  clear h hd hT hix hlen
  go_enter Tryz.func15, Tryz.ntmps15
  go_wp2
  refine region_classI (fun w' => ∃ u : BwI w, w' = u.wo) (by kernel_rfl) (by kernel_rfl) (BwI.first w) ?_
  haveI := BwI.some w
  repeat (go_big_quiet_step (first | exact rfl))
  refine wpQuiet_nil ?_
  intro _ hw'
  obtain ⟨u, hu⟩ := hw'
  subst hu
  have HB := (show Hid _ from HBu.out u)
  (try simp only [Exit.then])
  go_wp2_with (go_at_call 24; refine Calls.mono (HX.out u) ?_; rintro e u2 ⟨rfl, h1, h2⟩)
  go_end0
  exact ⟨rfl, h1, HB.out.trans h2⟩

set_option maxHeartbeats 2000000 in
set_option maxRecDepth 20000 in
theorem iread_93 {G : Nat → Obj → Prop} {B m n rb : Nat} {l : Str8} {look : Str8 → Option Df8} {w : World} {vp vo : Value} {xs : List Value} {r : Rd} (h : RdR G B l m n look w rb vp vo xs r) (hl : l.length ≤ 1073741824) {T : Str8} (hd : l.drop r.at0 = 93 :: T) {r' : Rd} (HX : Hid (∀ u : BwI w, Calls Tryz.prog 25 #[ptrB rb] u.wo fun e w' => LeftR G B l m n look u.wo rb r' e w')) :
    Calls Tryz.prog 15 #[ptrB rb] w fun e w' => LeftR G B l m n look w rb r' e w' := by
  have hBw : B ≤ w.heap.size := Nat.le_trans h.base (Nat.le_of_lt (blk.lt_of_block h.blk))
  have HR : Hid (∀ u : BwI w, RdR G B l m n look u.wo rb vp vo xs r) := fun u => h.below u.is
  have HBu : Hid (∀ u : BwI w, Below B w u.wo) := fun u => u.is.mono hBw
  have c0 := fun u : BwI w => (HR.out u).c.1
  have c1 := fun u : BwI w => (HR.out u).c.2.1
  have hbs := h.base
  obtain ⟨hT, hat, hlen⟩ := drop_next hd
  have hix : l[r.at0]'hat = 93 := by
    have := List.getElem_cons_drop hat
    rw [hd] at this
    exact (List.cons.inj this).1
  have hsz : r.at0 < (ByteArray.mk l.toArray).size := by rw [size_list]; exact hat
  have hby : (ByteArray.mk l.toArray)[r.at0]'hsz = 93 := by rw [byte_at, list_data, List.getD_eq_getElem?_getD, List.getElem?_eq_getElem hat, hix]; rfl
  have hszi : (r.at0 : Int) < ((ByteArray.mk l.toArray).size : Int) := by rw [size_list]; omega
  clear h hd hT hix hlen
  go_enter Tryz.func15, Tryz.ntmps15
  go_wp2
  refine region_classI (fun w' => ∃ u : BwI w, w' = u.wo) (by kernel_rfl) (by kernel_rfl) (BwI.first w) ?_
  haveI := BwI.some w
  repeat (go_big_quiet_step (first | exact rfl))
  refine wpQuiet_nil ?_
  intro _ hw'
  obtain ⟨u, hu⟩ := hw'
  subst hu
  have HB := (show Hid _ from HBu.out u)
  (try simp only [Exit.then])
  go_wp2_with (go_at_call 25; refine Calls.mono (HX.out u) ?_; rintro e u2 ⟨rfl, h1, h2⟩)
  go_end0
  exact ⟨rfl, h1, HB.out.trans h2⟩

set_option maxHeartbeats 2000000 in
set_option maxRecDepth 20000 in
theorem iread_else {G : Nat → Obj → Prop} {B m n rb : Nat} {l : Str8} {look : Str8 → Option Df8} {w : World} {vp vo : Value} {xs : List Value} {r : Rd} (h : RdR G B l m n look w rb vp vo xs r) (hl : l.length ≤ 1073741824) {c : UInt8} {T : Str8} (hd : l.drop r.at0 = c :: T) (hne : c ≠ 92 ∧ c ≠ 32 ∧ c ≠ 10 ∧ c ≠ 96 ∧ c ≠ 60 ∧ c ≠ 38 ∧ c ≠ 42 ∧ c ≠ 95 ∧ c ≠ 33 ∧ c ≠ 91 ∧ c ≠ 93):
    Calls Tryz.prog 15 #[ptrB rb] w fun e w' => LeftR G B l m n look w rb (r.pass 1) e w' := by
  have hBw : B ≤ w.heap.size := Nat.le_trans h.base (Nat.le_of_lt (blk.lt_of_block h.blk))
  have HR : Hid (∀ u : BwI w, RdR G B l m n look u.wo rb vp vo xs r) := fun u => h.below u.is
  have HBu : Hid (∀ u : BwI w, Below B w u.wo) := fun u => u.is.mono hBw
  have c0 := fun u : BwI w => (HR.out u).c.1
  have c1 := fun u : BwI w => (HR.out u).c.2.1
  have hbs := h.base
  obtain ⟨hT, hat, hlen⟩ := drop_next hd
  have hix : l[r.at0]'hat = c := by
    have := List.getElem_cons_drop hat
    rw [hd] at this
    exact (List.cons.inj this).1
  have hsz : r.at0 < (ByteArray.mk l.toArray).size := by rw [size_list]; exact hat
  have hby : (ByteArray.mk l.toArray)[r.at0]'hsz = c := by rw [byte_at, list_data, List.getD_eq_getElem?_getD, List.getElem?_eq_getElem hat, hix]; rfl
  have hszi : (r.at0 : Int) < ((ByteArray.mk l.toArray).size : Int) := by rw [size_list]; omega
  have ne : ∀ d : UInt8, c ≠ d → ((c.toNat : Int) == (d.toNat : Int)) = false := fun d q => by
    have : ¬ (c.toNat : Int) = (d.toNat : Int) := fun e => q (UInt8.toNat_inj.1 (by omega))
    simpa using this
  obtain ⟨n92, n32, n10, n96, n60, n38, n42, n95, n33, n91, n93⟩ := hne
  have m92 : ((c.toNat : Int) == 92) = false := ne 92 n92
  have m32 : ((c.toNat : Int) == 32) = false := ne 32 n32
  have m10 : ((c.toNat : Int) == 10) = false := ne 10 n10
  have m96 : ((c.toNat : Int) == 96) = false := ne 96 n96
  have m60 : ((c.toNat : Int) == 60) = false := ne 60 n60
  have m38 : ((c.toNat : Int) == 38) = false := ne 38 n38
  have m42 : ((c.toNat : Int) == 42) = false := ne 42 n42
  have m95 : ((c.toNat : Int) == 95) = false := ne 95 n95
  have m33 : ((c.toNat : Int) == 33) = false := ne 33 n33
  have m91 : ((c.toNat : Int) == 91) = false := ne 91 n91
  have m93 : ((c.toNat : Int) == 93) = false := ne 93 n93
  have hati : (r.at0 : Int) + 1 ≤ (l.length : Int) := by omega
  have hli : (l.length : Int) ≤ 1073741824 := by omega
  clear h hd hT hix hlen ne n92 n32 n10 n96 n60 n38 n42 n95 n33 n91 n93
  go_enter Tryz.func15, Tryz.ntmps15
  go_wp2
  refine region_classI (fun w' => ∃ u : BwI w, w' = u.wo) (by kernel_rfl) (by kernel_rfl) (BwI.first w) ?_
  haveI := BwI.some w
  repeat (go_big_quiet_step (first | exact rfl))
  refine wpQuiet_nil ?_
  intro _ hw'
  obtain ⟨u, hu⟩ := hw'
  subst hu
  have hRV := HR.out u
  have HBV := (show Hid (Below _ _ _) from HBu.out u)
  generalize u.wo = V at *
  clear HR HBu c0 c1
  have e1 := hRV.c.2.1
  have e2 := hRV.f 1
  have HF := (show Hid (RdR _ _ _ _ _ _ _ _ _ _ _ _) from hRV.num.1 (r.at0 + 1))
  have hsum : ((r.at0 + 1 : Nat) : Int) = (r.at0 : Int) + 1 := by omega
  rw [hsum] at HF
  clear hRV hsum
  (try simp only [Exit.then])
  go_wp2
  go_end0
  exact ⟨rfl, ⟨_, _, _, HF.out⟩, blk.below_set HBV.out hbs⟩

theorem iclos_any {G : Nat → Obj → Prop} {B m n rb : Nat} {l : Str8} {df : List Df8} {w : World} {vp vo : Value} {xs : List Value} {r : Rd} (h : RdR G B l m n (firstD df) w rb vp vo xs r) (ho : r.Ok l) (hk : Knd r) (hl : l.length ≤ 1073741824) (hat : r.at0 < l.length) :
    Calls Tryz.prog 25 #[ptrB rb] w fun e w' => LeftR G B l m n (firstD df) w rb (r.closer l df) e w' := by
  rcases List.eq_nil_or_concat r.openers with he | ⟨os, o, he⟩
  · exact iclos_none h ho hl hat he
  · rw [List.concat_eq_append] at he
    rcases hk o (by rw [he]; exact List.mem_append_right _ List.mem_cons_self) with h6 | h7
    · by_cases hge : r.inactive ≤ os.length
      · by_cases ht : r.target l df o = none
        · exact iclos_no6 h ho hl hat he h6 hge ht
        · exact iclos_yes6 h ho hl hat he h6 hge ht
      · exact iclos_off h ho hl hat he (by omega) hge
    · by_cases ht : r.target l df o = none
      · exact iclos_no7 h ho hl hat he h7 ht
      · exact iclos_yes7 h ho hl hat he h7 ht

theorem iread_any {G : Nat → Obj → Prop} {B m n rb : Nat} {l : Str8} {df : List Df8} {w : World} {vp vo : Value} {xs : List Value} {r : Rd} (h : RdR G B l m n (firstD df) w rb vp vo xs r) (ho : r.Ok l) (hk : Knd r) (hl : l.length ≤ 1073741824) (hat : r.at0 < l.length) (hg : Glob w) :
    Calls Tryz.prog 15 #[ptrB rb] w fun e w' => LeftR G B l m n (firstD df) w rb (r.step l df) e w' := by
  obtain ⟨c, T, hd⟩ : ∃ c T, l.drop r.at0 = c :: T := ⟨_, _, List.drop_eq_getElem_cons hat⟩
  by_cases h92 : c = 92
  · subst h92; exact iread_92 h hl hd (fun u => ibsl_any (h.below u.is) ho hl df hd)
  · by_cases h32 : c = 32
    · subst h32; exact iread_32 h hl hd (fun u => iblanks_any (h.below u.is) ho hl df hd (.inl rfl))
    · by_cases h10 : c = 10
      · subst h10; exact iread_10 h hl hd (fun u => iblanks_any (h.below u.is) ho hl df hd (.inr rfl))
      · by_cases h96 : c = 96
        · subst h96; exact iread_96 h hl hd (fun u => icode_any (h.below u.is) ho hl (hg.at u) df hd)
        · by_cases h60 : c = 60
          · subst h60; exact iread_60 h hl hd (fun u => iangle_any (h.below u.is) ho hl (hg.at u) df hd)
          · by_cases h38 : c = 38
            · subst h38; exact iread_38 h hl hd (fun u => iref_any (h.below u.is) ho hl df hd)
            · by_cases h42 : c = 42
              · subst h42; exact iread_42 h hl hd (fun u => idels_any (h.below u.is) ho hl (hg.at u) df hd (.inl rfl))
              · by_cases h95 : c = 95
                · subst h95; exact iread_95 h hl hd (fun u => idels_any (h.below u.is) ho hl (hg.at u) df hd (.inr rfl))
                · by_cases h33 : c = 33
                  · subst h33
                    by_cases hh : T.head? = some 91
                    · exact iread_33 h hl hd (fun u => ibang_yes (h.below u.is) ho hl df hd hh)
                    · exact iread_33 h hl hd (fun u => ibang_no (h.below u.is) ho hl df hd hh)
                  · by_cases h91 : c = 91
                    · subst h91; exact iread_91 h hl hd (fun u => ibrack_any (h.below u.is) ho hl df hd)
                    · have e : r.step l df = if c = 93 then r.closer l df else r.pass 1 := by
                        unfold Rd.step
                        rw [hd]
                        simp only
                        rw [if_neg h92, if_neg (by rintro (x | x) <;> contradiction), if_neg h96, if_neg h60, if_neg h38, if_neg (by rintro (x | x) <;> contradiction), if_neg h33, if_neg h91]
                      rw [e]
                      by_cases h93 : c = 93
                      · subst h93
                        rw [if_pos rfl]
                        exact iread_93 h hl hd (fun u => iclos_any (h.below u.is) ho hk hl hat)
                      · rw [if_neg h93]
                        exact iread_else h hl hd ⟨h92, h32, h10, h96, h60, h38, h42, h95, h33, h91, h93⟩

end Go.Proofs.YtjdijlaoeoikhaaGreatDoor

/- Package inline: Parse; walked. -/
namespace Go.Proofs.YtjdijlaoeoikhaaGreatDoor
open Go.RowKit

theorem runF_stop (l : Str8) (df : List Df8) : ∀ (f : Nat) (r : Rd), ¬ r.at0 < l.length → Rd.runF l df f r = r
  | 0, r, _ => rfl
  | f + 1, r, h => by rw [Rd.runF, if_neg h]

def atOf (rb : Nat) (w : World) : Nat := match w.cell? ⟨rb, 1, none⟩ with
  | some (.int _ z) => z.toNat
  | _ => 0
theorem RdR.atOf {G : Nat → Obj → Prop} {B m n rb : Nat} {l : Str8} {look : Str8 → Option Df8} {w : World} {vp vo : Value} {xs : List Value} {r : Rd} (h : RdR G B l m n look w rb vp vo xs r) : Go.Proofs.YtjdijlaoeoikhaaGreatDoor.atOf rb w = r.at0 := by
  unfold Go.Proofs.YtjdijlaoeoikhaaGreatDoor.atOf
  rw [h.c.2.1]
  exact Int.toNat_natCast _

set_option maxHeartbeats 4000000 in
set_option maxRecDepth 20000 in
theorem iparse_any (l : Str8) (hl : l.length ≤ 1073741824) (df : List Df8) (hn : df.length ≤ 1099511627776) (hls : ∀ d ∈ df, d.1.length ≤ 1099511627776) (v : Value) (w : World) (hd : DefsAt w v df) (hg : Glob w) :
    Calls Tryz.prog 9 #[strI l, v] w fun e w' => ∃ v', e = .returned v' ∧ (∃ ys, w'.ownsRow 0 32 5 v' (parseI l df).len ys ∧ KidI w' (fun _ => True) (parseI l df) ys) ∧ Below w.heap.size w w' := by
  have HBL : Hid (Calls Tryz.prog 14 #[v] w fun e w' => e = .returned (.map (some w.heap.size)) ∧ (∃ n, n ≤ df.length ∧ MapD w' w.heap.size n (firstD df)) ∧ Below w.heap.size w w') := ibyl_any df hn hls w v hd
  have h3 := hg.2.2
  clear hd
  go_enter Tryz.func9, Tryz.ntmps9
  go_wp2_with (go_at_call 14; refine Calls.mono HBL.out ?_; rintro e w1 ⟨rfl, ⟨n, hn1, hM⟩, hb1⟩; have HM := (show Hid (MapD _ _ _ _) from hM); have HB1 := (show Hid (Below _ _ _) from hb1); clear hM hb1)
  have hW0 : (w1.alloc (.cells #[strI l, .int .i64 0, .int .i64 0, .slice none 0 0, .slice none 0 0, .int .i64 0, .map (some w.heap.size)] 45)).heap[w1.heap.size]? = some (.cells (rdCells l {} (.slice none 0 0) (.slice none 0 0) w.heap.size).toArray 45 (0, 0)) := heap_alloc_new w1 _
  have hB1 : w.heap.size ≤ w1.heap.size := HB1.out.size
  have hal : Below w1.heap.size w1 (w1.alloc (.cells #[strI l, .int .i64 0, .int .i64 0, .slice none 0 0, .slice none 0 0, .int .i64 0, .map (some w.heap.size)] 45)) := (Below.refl _ _).alloc (Nat.le_refl _) _
  have HR0 : Hid (RdR (fun _ _ => False) w.heap.size l w.heap.size n (firstD df) (w1.alloc (.cells #[strI l, .int .i64 0, .int .i64 0, .slice none 0 0, .slice none 0 0, .int .i64 0, .map (some w.heap.size)] 45)) w1.heap.size (.slice none 0 0) (.slice none 0 0) [] {}) := ⟨hW0, hB1, World.ownsRow_nil _ _ _ _, rfl, World.ownsRow_nil _ _ _ _, mapd_below HM.out hal, fun g o hg => hg.elim⟩
  have HB0 : Hid (Below w.heap.size w (w1.alloc (.cells #[strI l, .int .i64 0, .int .i64 0, .slice none 0 0, .slice none 0 0, .int .i64 0, .map (some w.heap.size)] 45))) := HB1.out.alloc hB1 _
  clear hW0 hal HM
  go_loopw [] (fun wr => ∃ (f : Nat) (r : Rd), Hid (∃ vp vo xs, RdR (fun _ _ => False) w.heap.size l w.heap.size n (firstD df) wr w1.heap.size vp vo xs r) ∧ Hid (r.Ok l ∧ Knd r) ∧ Hid (Below w.heap.size w wr) ∧ Hid (l.length - r.at0 ≤ f) ∧ Hid (Rd.runF l df l.length {} = Rd.runF l df f r)) (fun wr => l.length - atOf w1.heap.size wr)
  case atStart => exact ⟨l.length, {}, ⟨_, _, _, HR0.out⟩, ⟨Rd.Ok.first l, fun o ho => by cases ho⟩, HB0.out, Nat.sub_le _ _, rfl⟩
  case round =>
    obtain ⟨f, r, HS, HO, HB, Hf, HE⟩ := hrel
    obtain ⟨vp, vo, xs, hR⟩ := HS.out
    have e1 := hR.c.2.1
    have HA := (show Hid _ from hR.atOf)
    have HRr := (show Hid (RdR _ _ _ _ _ _ _ _ _ _ _ _) from hR)
    have HG : Hid (Glob wr) := hg.below (B := w.heap.size) h3 HB.out
    clear hR HS
    by_cases hlt : r.at0 < l.length
    · have hlti : (r.at0 : Int) < (l.length : Int) := by omega
      have HRd : Hid (Calls Tryz.prog 15 #[ptrB w1.heap.size] wr fun e w' => LeftR (fun _ _ => False) w.heap.size l w.heap.size n (firstD df) wr w1.heap.size (r.step l df) e w') := iread_any HRr.out HO.out.1 HO.out.2 hl hlt HG.out
      have HN := (show Hid (Nxt _ _ _) from Nxt.step (df := df) HO.out.1 HO.out.2 hlt)
      have HE2 : Hid (∃ f', l.length - (r.step l df).at0 ≤ f' ∧ Rd.runF l df l.length {} = Rd.runF l df f' (r.step l df)) := by
        have hf := Hf.out
        obtain ⟨f', rfl⟩ : ∃ f', f = f' + 1 := ⟨f - 1, by omega⟩
        refine ⟨f', by have := HN.out.2.2; omega, ?_⟩
        rw [HE.out, Rd.runF, if_pos hlt]
      clear HE Hf
      go_wp2_with (go_at_call 15; refine Calls.mono HRd.out ?_; rintro e u ⟨rfl, hT, hb⟩; have HT2 := (show Hid (∃ vp vo xs, RdR _ _ _ _ _ _ _ _ vp vo xs _) from hT); have HB2 : Hid (Below w.heap.size w u) := HB.out.trans hb; clear hT hb)
      go_roundw
      case rel =>
        obtain ⟨f', hf', hE'⟩ := HE2.out
        exact ⟨f', r.step l df, HT2, ⟨HN.out.1, HN.out.2.1⟩, HB2, hf', hE'⟩
      case measure =>
        obtain ⟨vp2, vo2, xs2, hR2⟩ := HT2.out
        have a1 := HA.out
        have a2 := hR2.atOf
        have a3 := HN.out.2.2
        rw [a1, a2]
        omega
    · have hge : ¬ (r.at0 : Int) < (l.length : Int) := by omega
      have HE2 : Hid (parseI l df = emphI (r.endText l).parts) := by
        show _ = _
        unfold parseI
        rw [HE.out, runF_stop l df f r hlt]
      have HEn : Hid (Calls Tryz.prog 16 #[ptrB w1.heap.size] wr fun e w' => e = .returned (.tuple #[]) ∧ (∃ vp' xs', RdR (fun _ _ => False) w.heap.size l w.heap.size n (firstD df) w' w1.heap.size vp' vo xs' (r.endText l)) ∧ Below w.heap.size wr w' ∧ KeepI wr w') := iend_any HRr.out HO.out.1 hl
      have hO2 := HO.out.1.endText
      have hw2 := hO2.wt
      have hn2 := hO2.num
      have hf2 : (r.endText l).frm = r.at0 := rfl
      have ha2 := HO.out.1.at0
      have HEm : Hid (∀ (u : World) (v : Value), PartsAt u v (r.endText l).parts → Calls Tryz.prog 17 #[v] u fun e w' => ∃ v', e = .returned v' ∧ (∃ ys, w'.ownsRow 0 32 5 v' (emphI (r.endText l).parts).len ys ∧ KidI w' (fun _ => True) (emphI (r.endText l).parts) ys) ∧ Below u.heap.size u w') := fun u v hv => iemph_any _ l.length (by omega) (by omega) hn2 v u hv
      clear HE Hf hO2 hw2 hn2 hf2 ha2
      go_wp2_with (first
        | (go_at_call 16; refine Calls.mono HEn.out ?_; rintro e u ⟨rfl, ⟨vp', xs', hR'⟩, hb, _⟩; have g3 := hR'.c.2.2.2.1; have HB2 : Hid (Below w.heap.size w u) := HB.out.trans hb; obtain ⟨pa, pc, hv'⟩ := row_len hR'.row; have HPa : Hid (PartsAt u vp' (r.endText l).parts) := (by subst hv'; exact ⟨pa, pc, xs', rfl, hR'.part, fun j x hj => (by obtain ⟨g, e, _, hc⟩ := row_cell hR'.row hj; exact ⟨g, 0, e, by rw [Nat.zero_add]; exact hc⟩)⟩); subst hv'; clear hR' hb)
        | (go_at_call 17; refine Calls.mono (HEm.out _ _ HPa.out) ?_; rintro e u2 ⟨v', rfl, hk, hb2⟩))
      go_ret
      refine ⟨v', rfl, ?_, HB2.out.trans (hb2.mono HB2.out.size)⟩
      rw [HE2.out]
      exact hk

end Go.Proofs.YtjdijlaoeoikhaaGreatDoor

/- The law's small case: what it is told. -/
namespace Go.Proofs.YtjdijlaoeoikhaaGreatDoor
open Go.RowKit

def shText : Str8 := [42, 97, 32, 42, 42, 98, 42, 42, 32, 99, 42, 32, 91, 120, 93, 32, 96, 100, 96]
def shDefs : List Df8 := [([120], [47, 121], [])]
def shTold : Is := .cons { kind := 4 } (.cons { text := [97, 32] } .nil (.cons { kind := 5 } (.cons { text := [98] } .nil .nil) (.cons { text := [32, 99] } .nil .nil))) (.cons { text := [32] } .nil (.cons { kind := 6, dest := [47, 121] } (.cons { text := [120] } .nil .nil) (.cons { text := [32] } .nil (.cons { kind := 3, text := [100] } .nil .nil))))
theorem sh_is : parseI shText shDefs = shTold := by kernel_rfl

set_option maxHeartbeats 4000000 in
set_option maxRecDepth 20000 in
theorem ishown_any (w : World) (hg : Glob w) : Calls Tryz.prog 7 #[] w fun e w' => e = .returned (.bool true) ∧ Below w.heap.size w w' := by
  have hal : Below w.heap.size w (w.alloc (.cells #[.string ⟨#[120]⟩, .string ⟨#[47, 121]⟩, .string ⟨#[]⟩] 35)) := (Below.refl _ _).alloc (Nat.le_refl _) _
  have hdf : DefsAt (w.alloc (.cells #[.string ⟨#[120]⟩, .string ⟨#[47, 121]⟩, .string ⟨#[]⟩] 35)) (.slice (some ⟨w.heap.size, 0, none⟩) 1 1) shDefs := by
    refine ⟨some ⟨w.heap.size, 0, none⟩, 1, rfl, fun i q hq => ?_⟩
    have hb := heap_alloc_new w (.cells #[.string ⟨#[120]⟩, .string ⟨#[47, 121]⟩, .string ⟨#[]⟩] 35)
    have hi : i = 0 := by
      have := (List.getElem?_eq_some_iff.1 hq).1
      have e : shDefs.length = 1 := rfl
      omega
    subst hi
    cases hq
    exact ⟨w.heap.size, 0, rfl, blk.lt_of_block hb, blk.cell_blk hb rfl, blk.cell_blk hb rfl, blk.cell_blk hb rfl⟩
  have hP := iparse_any shText (by decide) shDefs (by decide) (fun d hd => by simp [shDefs] at hd; subst hd; decide) _ _ hdf (hg.below hg.2.2 hal)
  rw [sh_is] at hP
  have HP : Hid (Calls Tryz.prog 9 #[.string ⟨#[42, 97, 32, 42, 42, 98, 42, 42, 32, 99, 42, 32, 91, 120, 93, 32, 96, 100, 96]⟩, .slice (some ⟨w.heap.size, 0, none⟩) 1 1] (w.alloc (.cells #[.string ⟨#[120]⟩, .string ⟨#[47, 121]⟩, .string ⟨#[]⟩] 35)) _) := hP
  have HB := (show Hid (Below _ _ _) from hal)
  clear hP hdf hal hg
  go_enter Tryz.func7, Tryz.ntmps7
  go_wp2_with (go_at_call 9; refine Calls.mono HP.out ?_; rintro e u ⟨v', rfl, ⟨xs, hr, hk⟩, hb⟩; obtain ⟨a, c, hv⟩ := row_len hr; subst hv; obtain ⟨v0, y0, z0, hx0, r0, _, k0, v1, y1, z1, hx1, _, _, _, v2, y2, z2, hx2, _, _, _, v3, y3, z3, hx3, _, _, _, v4, y4, z4, hx4, _, _, _, hx5⟩ := hk; obtain ⟨v00, _, z00, hy0, _, _, _, v01, _, z01, hy1, _, _, _, v02, _, z02, hy2, _, _, _, hy3⟩ := k0; subst hx5; subst hx4; subst hx3; subst hx2; subst hx1; subst hx0; subst hy3; subst hy2; subst hy1; subst hy0; obtain ⟨g, hga, _, q0⟩ := row_cell hr (j := 0) rfl; subst hga; have q4 : u.cell? ⟨g, 4, none⟩ = some v0 := (by obtain ⟨g', e, _, q⟩ := row_cell hr (j := 4) rfl; cases e; exact q); have q6 : u.cell? ⟨g, 6, none⟩ = some (strW [32]) := (by obtain ⟨g', e, _, q⟩ := row_cell hr (j := 6) rfl; cases e; exact q); have q10 : u.cell? ⟨g, 10, none⟩ = some (.int .i64 6) := (by obtain ⟨g', e, _, q⟩ := row_cell hr (j := 10) rfl; cases e; exact q); have q12 : u.cell? ⟨g, 12, none⟩ = some (strW [47, 121]) := (by obtain ⟨g', e, _, q⟩ := row_cell hr (j := 12) rfl; cases e; exact q); have q20 : u.cell? ⟨g, 20, none⟩ = some (.int .i64 3) := (by obtain ⟨g', e, _, q⟩ := row_cell hr (j := 20) rfl; cases e; exact q); have q21 : u.cell? ⟨g, 21, none⟩ = some (strW [100]) := (by obtain ⟨g', e, _, q⟩ := row_cell hr (j := 21) rfl; cases e; exact q); obtain ⟨a0, c0, hv0⟩ := row_len r0; subst hv0; obtain ⟨h, hha, _, p5⟩ := row_cell r0 (j := 5) rfl; subst hha; have HBu : Hid (Below w.heap.size w u) := HB.out.trans (hb.mono HB.out.size); clear hb)
  go_ret
  exact ⟨rfl, HBu.out⟩

end Go.Proofs.YtjdijlaoeoikhaaGreatDoor
