/- take (include); walked. -/
import Derived.Test.YtkjicdldlnefeaaDoorNMid
import Derived.Lib.ConvBytes
set_option linter.unusedVariables false
namespace Go.Proofs.YtkjicdldlnefeaaDoor
open Go.RowKit

theorem nbytes_conv (w : World) (l : List UInt8) (cap : Nat) : run.BytesIn (Lib.bytesWorld w 5 ⟨l.toArray⟩) (some ⟨w.heap.size, 0, none⟩) l.length cap l := by
  refine ⟨rfl, fun w1 hb => ?_⟩
  refine run_convert_bytes_back w1 54 9 5 ⟨w.heap.size, 0, none⟩ cap l Tryd.underlying54 Tryd.underlying5 Tryd.underlying9 ?_
  intro j hj
  have hadd : (⟨w.heap.size, 0, none⟩ : Addr).add j = ⟨w.heap.size, j, none⟩ := by unfold Addr.add; split <;> simp_all
  rw [hadd, hb.cell (p := ⟨w.heap.size, j, none⟩) (by rw [Lib.bytesWorld_size]; show w.heap.size < _; omega), Lib.bytesWorld_cell _ _ _ _ (by rw [size_list]; exact hj)]
  simp [hj]
theorem nbelow_conv {w0 w : World} {B : Nat} (hb : Below B w0 w) (hB : B ≤ w.heap.size) (s : ByteArray) : Below B w0 (Lib.bytesWorld w 5 s) :=
  hb.trans ⟨rfl, rfl, rfl, by rw [Lib.bytesWorld_size]; omega, fun k hk => Lib.bytesWorld_at_old w _ s k (by omega)⟩

theorem nlines_le (l : StrA) : (lines l).length ≤ l.length := by have := linesF_le l (l.length - 0) 0; exact this
set_option maxHeartbeats 16000000 in
set_option maxRecDepth 8000 in
theorem ntake_step {pages : List PgA} (hl : pages.length ≤ 9223372036854775000) (htx : ∀ p ∈ pages, p.text.length ≤ 200000000) {may : List StrA} (hm : may.length ≤ 9223372036854775000) (f : Nat) (hIH : TakeC pages may f) : TakeC pages may (f + 1) := by
  intro r chain x xb vp vm vo vt vc w hc9 hf hW h hp hms hvc hap
  have hxb := h.lt
  have HAd0 : Hid (∀ u, Below w.heap.size w u → Calls Tryd.prog 45 #[ptrX xb, aggR r, vc] u fun e w' => e = .returned (.tuple #[aggP (admitA pages may r chain x.takes).1, .int .i64 (admitA pages may r chain x.takes).2]) ∧ Below u.heap.size u w') := fun u hu => by
    have hu1 := hu.mono (Nat.le_of_lt hxb)
    have hxu := h.below hu
    exact nadmit_any pages hl may hm r chain (by omega) x.takes xb vp vm vc u (cell_blkN hxu.blk (i := 0) rfl) (cell_blkN hxu.blk (i := 1) rfl) (cell_blkN hxu.blk (i := 4) rfl) hxu.lt ((hp.below hu1).n (Nat.le_of_lt hxu.lt)) ((hms.below hu1).n (Nat.le_of_lt hxu.lt)) (rfs_row (nrow_below hvc hu))
  have HTk : Hid (takeA pages may (f + 1) r chain x = if (admitA pages may r chain x.takes).2 ≠ 0 then ((admitA pages may r chain x.takes).2, x) else linesA (fun r' x' => takeA pages may f r' (chain ++ [(admitA pages may r chain x.takes).1.ref]) x') (lines (clean (admitA pages may r chain x.takes).1.text)) (metA chain (admitA pages may r chain x.takes).1.ref x)) := rfl
  have HOk : Hid ((admitA pages may r chain x.takes).2 = 0 → chain.length ≤ 8 ∧ x.takes < 256 ∧ (admitA pages may r chain x.takes).1.text.length ≤ 200000000) := fun q => by
    obtain ⟨q1, q2, q3, q4, _⟩ := admit_ok q
    exact ⟨q1, q2, by rw [q4]; exact htx _ (find_mem q3).1⟩
  obtain ⟨RES, hRES⟩ : ∃ RES, takeA pages may (f + 1) r chain x = RES := ⟨_, rfl⟩
  rw [hRES] at HTk ⊢
  clear hRES
  generalize admitA pages may r chain x.takes = A at *
  obtain ⟨⟨⟨pt, pd, pv⟩, px⟩, E⟩ := A
  simp only at HTk HOk
  obtain ⟨t, d, v⟩ := r
  have HAd : Hid (∀ u, Below w.heap.size w u → Calls Tryd.prog 45 #[ptrX xb, .agg #[strA t, strA d, .int .i64 v], vc] u fun e w' => e = .returned (.tuple #[.agg #[strA pt, strA pd, .int .i64 pv, strA px], .int .i64 E]) ∧ Below u.heap.size u w') := HAd0
  have HX := (show Hid (ExM w xb vp vm vo vt x) from h)
  have HVc := (show Hid (w.ownsRow (xb + 1) 24 3 vc chain.length (rfCs chain)) from hvc)
  have Hap := (show Hid (∀ g, vc.ownBlock = some g → vt.ownBlock ≠ some g) from hap)
  have Hpp := (show Hid (∀ u, Below xb w u → PgsX xb u vp pages) from fun u hu => hp.below hu)
  have Hmm := (show Hid (∀ u, Below xb w u → StrsX xb u vm may) from fun u hu => hms.below hu)
  have HIH := (show Hid (TakeC pages may f) from hIH)
  have HWx := (show Hid (WfX x) from hW)
  obtain ⟨ac, cc, hvc2⟩ := nrow_len hvc
  subst hvc2
  clear HAd0 h hp hms hvc hap hIH htx hl hm hW
  show Calls Tryd.prog 29 #[ptrX xb, .agg #[strA t, strA d, .int .i64 v], .slice ac chain.length cc] w _
  obtain ⟨W1, hW1⟩ : ∃ W1, W1 = w.alloc (.cells #[strA t, strA d, .int .i64 v] 24) := ⟨_, rfl⟩
  have HB1 : Hid (Below w.heap.size w W1) := by show Below _ _ _; rw [hW1]; exact (Below.refl _ _).alloc (Nat.le_refl _) _
  have HB1' := (show Hid (Below w.heap.size w (w.alloc (.cells #[strA t, strA d, .int .i64 v] 24))) from by have := HB1.out; rw [hW1] at this; exact this)
  go_enter Tryd.func29, Tryd.ntmps29
  go_wp2_with (go_at_call 45; refine Calls.mono (HAd.out _ HB1'.out) ?_)
  rw [← hW1]
  rintro e wa2 ⟨rfl, hb2⟩
  have HB2 := (show Hid (Below w.heap.size w wa2) from HB1.out.trans (hb2.mono HB1.out.size))
  obtain ⟨W3, hW3⟩ : ∃ W3, W3 = wa2.alloc (.cells #[strA pt, strA pd, .int .i64 pv, strA px] 38) := ⟨_, rfl⟩
  have HB3 : Hid (Below w.heap.size w W3) := by show Below _ _ _; rw [hW3]; exact HB2.out.alloc HB2.out.size _
  have HP3 : Hid (W3.heap[wa2.heap.size]? = some (.cells #[strA pt, strA pd, .int .i64 pv, strA px] 38 (0, 0))) := by show _ = _; rw [hW3]; exact blk_newN _ _ _
  have HX3 := (show Hid (ExM W3 xb vp vm vo vt x) from HX.out.below HB3.out)
  have HV3 := (show Hid (W3.ownsRow (xb + 1) 24 3 (.slice ac chain.length cc) chain.length (rfCs chain)) from nrow_below HVc.out HB3.out)
  have HF3 := (show Hid (FrN xb vt vt (Value.slice ac chain.length cc).ownBlock w W3) from FrN.of_below HB3.out (Nat.le_of_lt hxb))
  clear hb2 HAd HB1 HB1' hW1
  by_cases hE : E = 0
  case neg =>
    have heb : (E != 0) = true := by simpa using hE
    have HR2 : Hid (RES = (E, x)) := by show _ = _; rw [HTk.out, if_pos hE]
    clear HTk HOk hE Hap Hpp Hmm HIH HWx
    go_wp2
    rw [← hW3]
    go_ret
    exact ⟨(by rw [HR2.out]; first | done | rfl), vo, vt, (by rw [HR2.out]; exact HX3.out), HV3.out, HF3.out⟩
  subst hE
  obtain ⟨hc8, ht256, htl⟩ := HOk.out rfl
  have HRES0 : Hid (linesA (fun r' x' => takeA pages may f r' (chain ++ [⟨pt, pd, pv⟩]) x') (lines (clean px)) (metA chain ⟨pt, pd, pv⟩ x) = RES) := by show _ = _; rw [HTk.out, if_neg (by simp)]
  have hpxl : px.length ≤ 1073741824 := by omega
  obtain ⟨CT, HCT⟩ : ∃ CT, Hid (CT = clean px) := ⟨_, rfl⟩
  obtain ⟨L, HL⟩ : ∃ L, Hid (L = lines CT) := ⟨_, rfl⟩
  have HCTl : Hid (CT.length ≤ 1073741824) := by show _ ≤ _; rw [HCT.out]; have := clean_le px; omega
  have HLs : Hid (∀ s ∈ L, s.length ≤ 4294967296) := fun s hs => by rw [HL.out] at hs; have := lines_len hs; have := HCTl.out; omega
  have HLl : Hid (L.length ≤ 1073741824) := by show _ ≤ _; rw [HL.out]; have := nlines_le CT; have := HCTl.out; omega
  have hLi : (L.length : Int) ≤ 1073741824 := by have := HLl.out; omega
  have HRES : Hid (linesA (fun r' x' => takeA pages may f r' (chain ++ [⟨pt, pd, pv⟩]) x') (L.drop 0) (metA chain ⟨pt, pd, pv⟩ x) = RES) := by show _ = _; rw [List.drop_zero, HL.out, HCT.out]; exact HRES0.out
  have HWf := (show Hid (WfX (metA chain ⟨pt, pd, pv⟩ x)) from met_wf HWx.out ht256)
  have Hml : Hid (x.met.length ≤ 300) := by show _ ≤ _; have := HWx.out.2.1; omega
  obtain ⟨i0, hi, hz0, hz1, hz2⟩ := info_parts infoRf
  have hti : (x.takes : Int) < 256 := by omega
  have htc : ((x.takes + 1 : Nat) : Int) = (x.takes : Int) + 1 := by omega
  obtain ⟨W4, hW4⟩ : ∃ W4, W4 = W3.setCell ⟨xb, 4, none⟩ (.int .i64 ((x.takes : Int) + 1)) := ⟨_, rfl⟩
  have HX4 : Hid (ExM W4 xb vp vm vo vt ⟨x.out, x.met, x.takes + 1⟩) := by
    show ExM _ _ _ _ _ _ _
    rw [hW4]
    refine ⟨?_, nrow_kept HX3.out.out fun g cs hg hBg hb => blk_setN hb (by omega) 4 _, nrow_kept HX3.out.met fun g cs hg hBg hb => blk_setN hb (by omega) 4 _⟩
    have := set_blkN HX3.out.blk 4 (.int .i64 ((x.takes : Int) + 1))
    show _ = some (Obj.cells #[vp, vm, vo, vt, .int .i64 ((x.takes + 1 : Nat) : Int)] _ _)
    rw [htc]
    exact this
  have HP4 : Hid (W4.heap[wa2.heap.size]? = some (.cells #[strA pt, strA pd, .int .i64 pv, strA px] 38 (0, 0))) := by show _ = _; rw [hW4]; exact blk_setN HP3.out (by have := HX.out.lt; have := HB2.out.size; omega) 4 _
  have HV4 : Hid (W4.ownsRow (xb + 1) 24 3 (.slice ac chain.length cc) chain.length (rfCs chain)) := by show World.ownsRow _ _ _ _ _ _ _; rw [hW4]; exact nrow_kept HV3.out fun g cs hg hBg hb => blk_setN hb (by omega) 4 _
  have HF4 : Hid (FrN xb vt vt (Value.slice ac chain.length cc).ownBlock w W4) := by
    show FrN _ _ _ _ _ _
    rw [hW4]
    exact ⟨HF3.out.bel.setCell (Nat.le_refl _) _, fun b cs t hb h1 h2 h3 h4 => blk_setN (HF3.out.keep b cs t hb h1 h2 h3 h4) (fun e => h1 e.symm) 4 _, HF3.out.nt⟩
  have c4 : W3.cell? ⟨xb, 4, none⟩ = some (.int .i64 (x.takes : Int)) := cell_blkN HX3.out.blk (i := 4) rfl
  have f4 : W3.frozen? ⟨xb, 4, none⟩ = false := free_blkN HX3.out.blk 4
  rw [hW3] at c4 f4
  have HltV : Hid (∀ g, (Value.slice ac chain.length cc).ownBlock = some g → g < w.heap.size) := fun g hg => (World.ownsRow.lt HVc.out g hg).2
  have hpx2 := hpxl
  clear HTk HOk HX HVc HX3 HV3 HF3 HP3 HRES0 HWx htc ht256 htl
  by_cases hch : 0 < chain.length
  · have hchi : (0 : Int) < (chain.length : Int) := by omega
    have hMt : metA chain ⟨pt, pd, pv⟩ x = ⟨x.out, meetA x.met ⟨pt, pd, pv⟩, x.takes + 1⟩ := by unfold metA; rw [if_pos hch]
    have hMe := nmeet_any HX4.out Hml.out ⟨pt, pd, pv⟩ none
    simp only at hMe
    rw [← hMt] at hMe
    have HMe := (show Hid (Calls Tryd.prog 46 #[ptrX xb, .agg #[strA pt, strA pd, .int .i64 pv]] W4 fun e w' => e = .returned (.tuple #[]) ∧ ∃ vt', ExM w' xb vp vm vo vt' (metA chain ⟨pt, pd, pv⟩ x) ∧ FrN xb vt vt' none W4 w') from hMe)
    rw [hW4, hW3] at HMe
    have p0 : W4.cell? ⟨wa2.heap.size, 0, none⟩ = some (strA pt) := cell_blkN HP4.out (i := 0) rfl
    have p1 : W4.cell? ⟨wa2.heap.size, 1, none⟩ = some (strA pd) := cell_blkN HP4.out (i := 1) rfl
    have p2 : W4.cell? ⟨wa2.heap.size, 2, none⟩ = some (.int .i64 pv) := cell_blkN HP4.out (i := 2) rfl
    rw [hW4, hW3] at p0 p1 p2
    clear hMe hMt
    go_wp2_with (go_at_call 46; refine Calls.mono HMe.out ?_)
    rw [← hW3, ← hW4]
    rintro e wa5 ⟨rfl, vt5, hx5, hf5⟩
    have HXV := (show Hid (ExM wa5 xb vp vm vo vt5 (metA chain ⟨pt, pd, pv⟩ x)) from hx5)
    have HPg := (show Hid (wa5.heap[wa2.heap.size]? = some (.cells #[strA pt, strA pd, .int .i64 pv, strA px] 38 (0, 0))) from hf5.keep _ _ _ HP4.out (by have := HX4.out.lt; have := HB2.out.size; omega) (by decide) (nrow_neq HX4.out.met HP4.out (by decide)) (by simp))
    have HVcV := (show Hid (wa5.ownsRow (xb + 1) 24 3 (.slice ac chain.length cc) chain.length (rfCs chain)) from hf5.row HV4.out (Nat.lt_succ_self _) (by decide) Hap.out (fun g hg => by simp))
    have HapV := (show Hid (∀ g, (Value.slice ac chain.length cc).ownBlock = some g → vt5.ownBlock ≠ some g) from fun g hg e => by rcases hf5.nt g e with q | q; (· exact Hap.out g hg q); (· have := (World.ownsRow.lt HV4.out g hg).2; omega))
    have HFV := (show Hid (FrN xb vt vt5 (Value.slice ac chain.length cc).ownBlock w wa5) from HF4.out.trans hf5 (fun g hg => by cases hg))
    clear p0 p1 p2 c4 f4 HMe HF4 HX4 HV4 HP4 hx5 hf5 HB3 HB2 Hap Hml hW3 hW4
    have p0 : wa5.cell? ⟨wa2.heap.size, 0, none⟩ = some (strA pt) := cell_blkN HPg.out (i := 0) rfl
    have p1 : wa5.cell? ⟨wa2.heap.size, 1, none⟩ = some (strA pd) := cell_blkN HPg.out (i := 1) rfl
    have p2 : wa5.cell? ⟨wa2.heap.size, 2, none⟩ = some (.int .i64 pv) := cell_blkN HPg.out (i := 2) rfl
    have HSV : Hid (xb + 1 ≤ wa5.heap.size) := HXV.out.lt
    go_wp2_with (at_builtin; refine wpList_append_keeps rfl _ _ 31 rfl (xb + 1) 24 i0 (.agg #[.string ⟨#[]⟩, .string ⟨#[]⟩, .int .i64 0]) 3 40 Tryd.underlying31 hi hz0 hz1 hz2 rfl (by decide) _ _ _ rfl (World.ownsRow.alloc HVcV.out _) ⟨wa5.heap.size, 0, none⟩ 1 1 [strA pt, strA pd, .int .i64 pv] rfl rfl (lit_cells _ _ _) ?d3 (by decide) ?d4 ?d5 ?d6 ?_)
    case d3 => first | (intro u hu; simp at hu; rcases hu with rfl | rfl | rfl <;> rfl) | exact ⟨rfl, rfl, rfl⟩
    case d4 => unfold maxLen; omega
    case d5 => omega
    case d6 => have := HSV.out; simp; omega
    intro g7 c7 w7 hown7 hgrow7 hkeep7 hat7
    have hM := mid_of (ref := ⟨pt, pd, pv⟩) HXV.out HFV.out HVcV.out HapV.out HltV.out rfl hown7 hgrow7 hkeep7 (by rcases hat7 with ⟨q1, q2⟩ | ⟨q, _⟩; (· exact .inl ⟨chain.length, by rw [q1, q2]⟩); (· exact .inr (by first | omega | (simp at q ⊢; omega))))
    have HMid := (show Hid (MidN w xb vt (.slice ac chain.length cc) chain ⟨pt, pd, pv⟩ g7 c7 vt5 w7) from hM.2.1)
    have HX7 := (show Hid (ExM w7 xb vp vm vo vt5 (metA chain ⟨pt, pd, pv⟩ x)) from hM.1)
    have hPg7 := hM.2.2 _ _ _ HPg.out (by decide)
    have p3 : w7.cell? ⟨wa2.heap.size, 3, none⟩ = some (strA px) := cell_blkN hPg7 (i := 3) rfl
    have hcv := Lib.run_convert_string_bytes (P := Tryd.prog) w7 9 54 5 ⟨px.toArray⟩ Tryd.underlying9 Tryd.underlying54 Tryd.underlying5
    rw [size_list] at hcv
    have hB8 := nbelow_conv (Below.refl w7.heap.size w7) (Nat.le_refl _) ⟨px.toArray⟩
    have HB8 := (show Hid _ from hB8)
    have hCl := run.clean_any _ _ (grownCap w7 px.length 0 5) px _ hpxl (nbytes_conv w7 px _)
    have HCl := (show Hid (Calls Tryd.prog 48 #[.slice (some ⟨w7.heap.size, 0, none⟩) px.length (grownCap w7 px.length 0 5)] (Lib.bytesWorld w7 5 ⟨px.toArray⟩) fun e w' => e = .returned (.string ⟨CT.toArray⟩) ∧ Below (Lib.bytesWorld w7 5 ⟨px.toArray⟩).heap.size (Lib.bytesWorld w7 5 ⟨px.toArray⟩) w') from (by rw [HCT.out]; exact hCl))
    clear hM hown7 hgrow7 hkeep7 hat7 hPg7 hCl hB8 p0 p1 p2 HXV HFV HVcV HapV HltV HPg HSV
    go_wp2_with (go_at_call 48; refine Calls.mono HCl.out ?_)
    rintro e wa8 ⟨rfl, hb8⟩
    have HB9 := (show Hid (Below w7.heap.size w7 wa8) from HB8.out.trans (hb8.mono HB8.out.size))
    clear hb8 HB8 HCl hcv p3
    have HLn := (show Hid (Calls Tryd.prog 47 #[.string ⟨CT.toArray⟩] wa8 fun e w' => ∃ v, e = .returned v ∧ w'.ownsRow wa8.heap.size 9 1 v L.length (run.strVs L) ∧ Below wa8.heap.size wa8 w') from (by have := run.lines_any ⟨CT.toArray⟩ wa8 (by rw [size_list]; exact HCTl.out); rw [list_data, ← HL.out] at this; exact this))
    go_wp2_with (go_at_call 47; refine Calls.mono HLn.out ?_)
    rintro e wa9 ⟨vl, rfl, hvl, hb9⟩
    obtain ⟨al, cl, hvl2⟩ := nrow_len hvl
    subst hvl2
    have HB10 := (show Hid (Below w7.heap.size w7 wa9) from HB9.out.trans (hb9.mono HB9.out.size))
    have HMid9 := (show Hid (MidN w xb vt (.slice ac chain.length cc) chain ⟨pt, pd, pv⟩ g7 c7 vt5 wa9) from HMid.out.below HB10.out)
    have HX9 := (show Hid (ExM wa9 xb vp vm vo vt5 (metA chain ⟨pt, pd, pv⟩ x)) from HX7.out.below HB10.out)
    have HLr := (show Hid (wa9.ownsRow (xb + 1) 9 1 (.slice al L.length cl) L.length (run.strVs L)) from nrow_base hvl (by have := HB9.out.size; have := HX7.out.lt; omega))
    clear hvl hb9 HB9 HB10 HMid HX7 HLn
    go_wp2
    go_loopw [47] (fun i wr => ∃ (k : Nat) (x' : ExA) (vo' vt' : Value), i = .int .i64 (k : Int) ∧ k ≤ L.length ∧ Hid (linesA (fun r' x' => takeA pages may f r' (chain ++ [⟨pt, pd, pv⟩]) x') (L.drop k) x' = RES) ∧ Hid (WfX x') ∧ Hid (ExM wr xb vp vm vo' vt' x') ∧ Hid (wr.ownsRow (xb + 1) 24 3 (.slice (some ⟨g7, 0, none⟩) (chain.length + 1) c7) (chain.length + 1) (rfCs (chain ++ [⟨pt, pd, pv⟩]))) ∧ Hid (wr.ownsRow (xb + 1) 9 1 (.slice al L.length cl) L.length (run.strVs L)) ∧ Hid (FrN xb vt5 vt' (some g7) wa9 wr)) (fun i _ => L.length - (intOf i).toNat)
    case atStart => exact ⟨0, _, vo, vt5, rfl, Nat.zero_le _, HRES, HWf, HX9, HMid9.out.own, HLr, FrN.of_below (Below.refl _ _) HMid9.out.xlt⟩
    case round =>
      clear HRES HWf HX9 HLr
      obtain ⟨k, y, vo2, vt2, rfl, hk, HRs, HWy, HXy, HV7, HLy, HFy⟩ := hrel
      by_cases hlt : k < L.length
      · have hlt1 : (k : Int) < (L.length : Int) := by omega
        obtain ⟨s, hs⟩ : ∃ s, L[k]? = some s := ⟨_, List.getElem?_eq_getElem hlt⟩
        have hsm : (run.strVs L)[k]? = some (strA s) := by unfold run.strVs; rw [List.getElem?_map, hs]; rfl
        obtain ⟨gl, hal, hgl1, hgl2, cl0⟩ := nrow_cell HLy.out hsm
        have HLy2 := (show Hid (wr.ownsRow (xb + 1) 9 1 (.slice al L.length cl) L.length (run.strVs L)) from HLy.out)
        subst hal
        have hcell : wr.cell? ⟨gl, k, none⟩ = some (strA s) := cl0
        have hdr : L.drop k = s :: L.drop (k + 1) := by rw [List.drop_eq_getElem_cons hlt, (List.getElem?_eq_some_iff.1 hs).2]
        have HRn : Hid (RES = if (lineA (fun r' x' => takeA pages may f r' (chain ++ [⟨pt, pd, pv⟩]) x') s y).1 = 0 then linesA (fun r' x' => takeA pages may f r' (chain ++ [⟨pt, pd, pv⟩]) x') (L.drop (k + 1)) (lineA (fun r' x' => takeA pages may f r' (chain ++ [⟨pt, pd, pv⟩]) x') s y).2 else lineA (fun r' x' => takeA pages may f r' (chain ++ [⟨pt, pd, pv⟩]) x') s y) := by
          show _ = _
          rw [← HRs.out, hdr]
          rfl
        have hwf2 : WfX (lineA (fun r' x' => takeA pages may f r' (chain ++ [⟨pt, pd, pv⟩]) x') s y).2 := line_wf (fun r x hx => take_wf pages may f r _ x hx) s HWy.out
        have HW2 := (show Hid _ from hwf2)
        have hap2 : ∀ g, (Value.slice (some ⟨g7, 0, none⟩) (chain.length + 1) c7).ownBlock = some g → vt2.ownBlock ≠ some g := fun g hg e => by
          have e7 : g7 = g := by simpa [Value.ownBlock] using hg
          subst e7
          rcases HFy.out.nt g7 e with q | q
          · exact HMid9.out.ap7 q
          · have := (World.ownsRow.lt HMid9.out.own g7 rfl).2
            omega
        have hln := nline_any (f := f) (HIH.out) s (HLs.out s (List.mem_of_getElem? hs)) (chain ++ [⟨pt, pd, pv⟩]) (vc := .slice (some ⟨g7, 0, none⟩) (chain.length + 1) c7) (by rw [List.length_append]; simp; omega) (by rw [List.length_append]; simp; omega) HWy.out HXy.out (Hpp.out wr (HMid9.out.fr.bel.trans HFy.out.bel)) (Hmm.out wr (HMid9.out.fr.bel.trans HFy.out.bel)) (by rw [List.length_append]; exact HV7.out) hap2
        generalize lineA (fun r' x' => takeA pages may f r' (chain ++ [⟨pt, pd, pv⟩]) x') s y = LR at *
        obtain ⟨LE, LX⟩ := LR
        simp only at hln HRn HW2
        have HLN := (show Hid (Calls Tryd.prog 49 #[ptrX xb, strA s, .slice (some ⟨g7, 0, none⟩) (chain.length + 1) c7] wr fun e w' => e = .returned (.int .i64 LE) ∧ ∃ vo' vt', ExM w' xb vp vm vo' vt' LX ∧ w'.ownsRow (xb + 1) 24 3 (.slice (some ⟨g7, 0, none⟩) (chain.length + 1) c7) (chain ++ [(⟨pt, pd, pv⟩ : RfA)]).length (rfCs (chain ++ [⟨pt, pd, pv⟩])) ∧ FrN xb vt2 vt' (some g7) wr w') from hln)
        have Hst := (show Hid (∀ g, (Value.slice (some ⟨gl, 0, none⟩) L.length cl).ownBlock = some g → vt2.ownBlock ≠ some g ∧ some g7 ≠ some g) from fun g hg => ⟨nrows_apart HLy2.out HXy.out.met (by decide) g hg, fun e => nrows_apart HLy2.out HV7.out (by decide) g hg (by cases e; rfl)⟩)
        clear hsm cl0 hdr hwf2 hap2 hln hs HRs HWy HXy
        go_wp2_with (go_at_call 49; refine Calls.mono HLN.out ?_)
        rintro e wb ⟨rfl, vo3, vt3, hx3, hc3, hf3⟩
        rw [List.length_append] at hc3
        have H3 := (show Hid (ExM wb xb vp vm vo3 vt3 LX ∧ wb.ownsRow (xb + 1) 24 3 (.slice (some ⟨g7, 0, none⟩) (chain.length + 1) c7) (chain.length + 1) (rfCs (chain ++ [⟨pt, pd, pv⟩])) ∧ FrN xb vt2 vt3 (some g7) wr wb ∧ wb.ownsRow (xb + 1) 9 1 (.slice (some ⟨gl, 0, none⟩) L.length cl) L.length (run.strVs L)) from ⟨hx3, hc3, hf3, hf3.row HLy2.out (Nat.lt_succ_self _) (by decide) (fun g hg => (Hst.out g hg).1) (fun g hg => (Hst.out g hg).2)⟩)
        have HF3 := (show Hid (FrN xb vt5 vt3 (some g7) wa9 wb) from HFy.out.trans hf3 (fun g hg => .inl hg))
        clear hx3 hc3 hf3 HLN Hst HLy HLy2 HFy HV7 hcell
        by_cases he : LE = 0
        · subst he
          have HR2 : Hid (linesA (fun r' x' => takeA pages may f r' (chain ++ [⟨pt, pd, pv⟩]) x') (L.drop (k + 1)) LX = RES) := by show _ = _; rw [HRn.out, if_pos rfl]
          clear HRn
          go_wp2
          exact ⟨⟨k + 1, LX, vo3, vt3, by go_num, by omega, HR2, HW2, H3.out.1, H3.out.2.1, H3.out.2.2.2, HF3⟩, by (simp [intOf]) <;> omega⟩
        · have heb : (LE != 0) = true := by simpa using he
          have HR2 : Hid (RES = (LE, LX)) := by show _ = _; rw [HRn.out, if_neg he]
          have HFin := (show Hid _ from HMid9.out.fin HF3.out H3.out.2.1)
          clear HRn he
          go_wp2
          go_ret
          exact ⟨(by rw [HR2.out]; first | done | rfl), vo3, vt3, (by rw [HR2.out]; exact H3.out.1), HFin.out.1, HFin.out.2⟩
      · have hlt1 : ¬ (k : Int) < (L.length : Int) := by omega
        obtain rfl : k = L.length := by omega
        have HR2 : Hid (RES = (0, y)) := by show _ = _; rw [← HRs.out, List.drop_length]; rfl
        have HFin := (show Hid _ from HMid9.out.fin HFy.out HV7.out)
        clear HRs
        go_wp2
        go_ret
        exact ⟨(by rw [HR2.out]; first | done | rfl), vo2, vt2, (by rw [HR2.out]; exact HXy.out), HFin.out.1, HFin.out.2⟩
  · have hchi : decide ((0 : Int) < (chain.length : Int)) = false := decide_eq_false (by omega)
    have hMt : metA chain ⟨pt, pd, pv⟩ x = ⟨x.out, x.met, x.takes + 1⟩ := by unfold metA; rw [if_neg hch]
    have HXV := (show Hid (ExM W4 xb vp vm vo vt (metA chain ⟨pt, pd, pv⟩ x)) from by rw [hMt]; exact HX4.out)
    have HPg := HP4
    have HVcV := HV4
    have HapV := Hap
    have HFV := HF4
    have p0' : W4.cell? ⟨wa2.heap.size, 0, none⟩ = some (strA pt) := cell_blkN HP4.out (i := 0) rfl
    clear HX4 HV4 HP4 HF4 hMt HB3 HB2 Hml p0'
    have p0 : W4.cell? ⟨wa2.heap.size, 0, none⟩ = some (strA pt) := cell_blkN HPg.out (i := 0) rfl
    have p1 : W4.cell? ⟨wa2.heap.size, 1, none⟩ = some (strA pd) := cell_blkN HPg.out (i := 1) rfl
    have p2 : W4.cell? ⟨wa2.heap.size, 2, none⟩ = some (.int .i64 pv) := cell_blkN HPg.out (i := 2) rfl
    have HSV : Hid (xb + 1 ≤ W4.heap.size) := HXV.out.lt
    have HSZ4 : Hid (wa2.heap.size + 1 = W4.heap.size) := by show _ = _; rw [hW4, hW3]; simp
    rw [hW4, hW3] at p0 p1 p2
    go_wp2_with (at_builtin; rw [← hW3, ← hW4, HSZ4.out]; refine wpList_append_keeps rfl _ _ 31 rfl (xb + 1) 24 i0 (.agg #[.string ⟨#[]⟩, .string ⟨#[]⟩, .int .i64 0]) 3 40 Tryd.underlying31 hi hz0 hz1 hz2 rfl (by decide) _ _ _ rfl (World.ownsRow.alloc HVcV.out _) ⟨W4.heap.size, 0, none⟩ 1 1 [strA pt, strA pd, .int .i64 pv] rfl rfl (lit_cells _ _ _) ?d3 (by decide) ?d4 ?d5 ?d6 ?_)
    case d3 => first | (intro u hu; simp at hu; rcases hu with rfl | rfl | rfl <;> rfl) | exact ⟨rfl, rfl, rfl⟩
    case d4 => unfold maxLen; omega
    case d5 => omega
    case d6 => have := HSV.out; simp; omega
    intro g7 c7 w7 hown7 hgrow7 hkeep7 hat7
    rw [← hW3, ← hW4] at hgrow7
    have hM := mid_of (ref := ⟨pt, pd, pv⟩) HXV.out HFV.out HVcV.out HapV.out HltV.out rfl hown7 hgrow7 hkeep7 (by rcases hat7 with ⟨q1, q2⟩ | ⟨q, _⟩; (· exact .inl ⟨chain.length, by rw [q1, q2]⟩); (· exact .inr (by have := HSZ4.out; omega)))
    have HMid := (show Hid (MidN w xb vt (.slice ac chain.length cc) chain ⟨pt, pd, pv⟩ g7 c7 vt w7) from hM.2.1)
    have HX7 := (show Hid (ExM w7 xb vp vm vo vt (metA chain ⟨pt, pd, pv⟩ x)) from hM.1)
    have hPg7 := hM.2.2 _ _ _ HPg.out (by decide)
    have p3 : w7.cell? ⟨wa2.heap.size, 3, none⟩ = some (strA px) := cell_blkN hPg7 (i := 3) rfl
    have hcv := Lib.run_convert_string_bytes (P := Tryd.prog) w7 9 54 5 ⟨px.toArray⟩ Tryd.underlying9 Tryd.underlying54 Tryd.underlying5
    rw [size_list] at hcv
    have hB8 := nbelow_conv (Below.refl w7.heap.size w7) (Nat.le_refl _) ⟨px.toArray⟩
    have HB8 := (show Hid _ from hB8)
    have hCl := run.clean_any _ _ (grownCap w7 px.length 0 5) px _ hpxl (nbytes_conv w7 px _)
    have HCl := (show Hid (Calls Tryd.prog 48 #[.slice (some ⟨w7.heap.size, 0, none⟩) px.length (grownCap w7 px.length 0 5)] (Lib.bytesWorld w7 5 ⟨px.toArray⟩) fun e w' => e = .returned (.string ⟨CT.toArray⟩) ∧ Below (Lib.bytesWorld w7 5 ⟨px.toArray⟩).heap.size (Lib.bytesWorld w7 5 ⟨px.toArray⟩) w') from (by rw [HCT.out]; exact hCl))
    clear hM hown7 hgrow7 hkeep7 hat7 hPg7 hCl hB8 p0 p1 p2 HXV HFV HVcV HapV HltV HPg HSV c4 f4 hW3 hW4 HSZ4
    go_wp2_with (go_at_call 48; refine Calls.mono HCl.out ?_)
    rintro e wa8 ⟨rfl, hb8⟩
    have HB9 := (show Hid (Below w7.heap.size w7 wa8) from HB8.out.trans (hb8.mono HB8.out.size))
    clear hb8 HB8 HCl hcv p3
    have HLn := (show Hid (Calls Tryd.prog 47 #[.string ⟨CT.toArray⟩] wa8 fun e w' => ∃ v, e = .returned v ∧ w'.ownsRow wa8.heap.size 9 1 v L.length (run.strVs L) ∧ Below wa8.heap.size wa8 w') from (by have := run.lines_any ⟨CT.toArray⟩ wa8 (by rw [size_list]; exact HCTl.out); rw [list_data, ← HL.out] at this; exact this))
    go_wp2_with (go_at_call 47; refine Calls.mono HLn.out ?_)
    rintro e wa9 ⟨vl, rfl, hvl, hb9⟩
    obtain ⟨al, cl, hvl2⟩ := nrow_len hvl
    subst hvl2
    have HB10 := (show Hid (Below w7.heap.size w7 wa9) from HB9.out.trans (hb9.mono HB9.out.size))
    have HMid9 := (show Hid (MidN w xb vt (.slice ac chain.length cc) chain ⟨pt, pd, pv⟩ g7 c7 vt wa9) from HMid.out.below HB10.out)
    have HX9 := (show Hid (ExM wa9 xb vp vm vo vt (metA chain ⟨pt, pd, pv⟩ x)) from HX7.out.below HB10.out)
    have HLr := (show Hid (wa9.ownsRow (xb + 1) 9 1 (.slice al L.length cl) L.length (run.strVs L)) from nrow_base hvl (by have := HB9.out.size; have := HX7.out.lt; omega))
    clear hvl hb9 HB9 HB10 HMid HX7 HLn
    go_wp2
    go_loopw [47] (fun i wr => ∃ (k : Nat) (x' : ExA) (vo' vt' : Value), i = .int .i64 (k : Int) ∧ k ≤ L.length ∧ Hid (linesA (fun r' x' => takeA pages may f r' (chain ++ [⟨pt, pd, pv⟩]) x') (L.drop k) x' = RES) ∧ Hid (WfX x') ∧ Hid (ExM wr xb vp vm vo' vt' x') ∧ Hid (wr.ownsRow (xb + 1) 24 3 (.slice (some ⟨g7, 0, none⟩) (chain.length + 1) c7) (chain.length + 1) (rfCs (chain ++ [⟨pt, pd, pv⟩]))) ∧ Hid (wr.ownsRow (xb + 1) 9 1 (.slice al L.length cl) L.length (run.strVs L)) ∧ Hid (FrN xb vt vt' (some g7) wa9 wr)) (fun i _ => L.length - (intOf i).toNat)
    case atStart => exact ⟨0, _, vo, vt, rfl, Nat.zero_le _, HRES, HWf, HX9, HMid9.out.own, HLr, FrN.of_below (Below.refl _ _) HMid9.out.xlt⟩
    case round =>
      clear HRES HWf HX9 HLr
      obtain ⟨k, y, vo2, vt2, rfl, hk, HRs, HWy, HXy, HV7, HLy, HFy⟩ := hrel
      by_cases hlt : k < L.length
      · have hlt1 : (k : Int) < (L.length : Int) := by omega
        obtain ⟨s, hs⟩ : ∃ s, L[k]? = some s := ⟨_, List.getElem?_eq_getElem hlt⟩
        have hsm : (run.strVs L)[k]? = some (strA s) := by unfold run.strVs; rw [List.getElem?_map, hs]; rfl
        obtain ⟨gl, hal, hgl1, hgl2, cl0⟩ := nrow_cell HLy.out hsm
        have HLy2 := (show Hid (wr.ownsRow (xb + 1) 9 1 (.slice al L.length cl) L.length (run.strVs L)) from HLy.out)
        subst hal
        have hcell : wr.cell? ⟨gl, k, none⟩ = some (strA s) := cl0
        have hdr : L.drop k = s :: L.drop (k + 1) := by rw [List.drop_eq_getElem_cons hlt, (List.getElem?_eq_some_iff.1 hs).2]
        have HRn : Hid (RES = if (lineA (fun r' x' => takeA pages may f r' (chain ++ [⟨pt, pd, pv⟩]) x') s y).1 = 0 then linesA (fun r' x' => takeA pages may f r' (chain ++ [⟨pt, pd, pv⟩]) x') (L.drop (k + 1)) (lineA (fun r' x' => takeA pages may f r' (chain ++ [⟨pt, pd, pv⟩]) x') s y).2 else lineA (fun r' x' => takeA pages may f r' (chain ++ [⟨pt, pd, pv⟩]) x') s y) := by
          show _ = _
          rw [← HRs.out, hdr]
          rfl
        have hwf2 : WfX (lineA (fun r' x' => takeA pages may f r' (chain ++ [⟨pt, pd, pv⟩]) x') s y).2 := line_wf (fun r x hx => take_wf pages may f r _ x hx) s HWy.out
        have HW2 := (show Hid _ from hwf2)
        have hap2 : ∀ g, (Value.slice (some ⟨g7, 0, none⟩) (chain.length + 1) c7).ownBlock = some g → vt2.ownBlock ≠ some g := fun g hg e => by
          have e7 : g7 = g := by simpa [Value.ownBlock] using hg
          subst e7
          rcases HFy.out.nt g7 e with q | q
          · exact HMid9.out.ap7 q
          · have := (World.ownsRow.lt HMid9.out.own g7 rfl).2
            omega
        have hln := nline_any (f := f) (HIH.out) s (HLs.out s (List.mem_of_getElem? hs)) (chain ++ [⟨pt, pd, pv⟩]) (vc := .slice (some ⟨g7, 0, none⟩) (chain.length + 1) c7) (by rw [List.length_append]; simp; omega) (by rw [List.length_append]; simp; omega) HWy.out HXy.out (Hpp.out wr (HMid9.out.fr.bel.trans HFy.out.bel)) (Hmm.out wr (HMid9.out.fr.bel.trans HFy.out.bel)) (by rw [List.length_append]; exact HV7.out) hap2
        generalize lineA (fun r' x' => takeA pages may f r' (chain ++ [⟨pt, pd, pv⟩]) x') s y = LR at *
        obtain ⟨LE, LX⟩ := LR
        simp only at hln HRn HW2
        have HLN := (show Hid (Calls Tryd.prog 49 #[ptrX xb, strA s, .slice (some ⟨g7, 0, none⟩) (chain.length + 1) c7] wr fun e w' => e = .returned (.int .i64 LE) ∧ ∃ vo' vt', ExM w' xb vp vm vo' vt' LX ∧ w'.ownsRow (xb + 1) 24 3 (.slice (some ⟨g7, 0, none⟩) (chain.length + 1) c7) (chain ++ [(⟨pt, pd, pv⟩ : RfA)]).length (rfCs (chain ++ [⟨pt, pd, pv⟩])) ∧ FrN xb vt2 vt' (some g7) wr w') from hln)
        have Hst := (show Hid (∀ g, (Value.slice (some ⟨gl, 0, none⟩) L.length cl).ownBlock = some g → vt2.ownBlock ≠ some g ∧ some g7 ≠ some g) from fun g hg => ⟨nrows_apart HLy2.out HXy.out.met (by decide) g hg, fun e => nrows_apart HLy2.out HV7.out (by decide) g hg (by cases e; rfl)⟩)
        clear hsm cl0 hdr hwf2 hap2 hln hs HRs HWy HXy
        go_wp2_with (go_at_call 49; refine Calls.mono HLN.out ?_)
        rintro e wb ⟨rfl, vo3, vt3, hx3, hc3, hf3⟩
        rw [List.length_append] at hc3
        have H3 := (show Hid (ExM wb xb vp vm vo3 vt3 LX ∧ wb.ownsRow (xb + 1) 24 3 (.slice (some ⟨g7, 0, none⟩) (chain.length + 1) c7) (chain.length + 1) (rfCs (chain ++ [⟨pt, pd, pv⟩])) ∧ FrN xb vt2 vt3 (some g7) wr wb ∧ wb.ownsRow (xb + 1) 9 1 (.slice (some ⟨gl, 0, none⟩) L.length cl) L.length (run.strVs L)) from ⟨hx3, hc3, hf3, hf3.row HLy2.out (Nat.lt_succ_self _) (by decide) (fun g hg => (Hst.out g hg).1) (fun g hg => (Hst.out g hg).2)⟩)
        have HF3 := (show Hid (FrN xb vt vt3 (some g7) wa9 wb) from HFy.out.trans hf3 (fun g hg => .inl hg))
        clear hx3 hc3 hf3 HLN Hst HLy HLy2 HFy HV7 hcell
        by_cases he : LE = 0
        · subst he
          have HR2 : Hid (linesA (fun r' x' => takeA pages may f r' (chain ++ [⟨pt, pd, pv⟩]) x') (L.drop (k + 1)) LX = RES) := by show _ = _; rw [HRn.out, if_pos rfl]
          clear HRn
          go_wp2
          exact ⟨⟨k + 1, LX, vo3, vt3, by go_num, by omega, HR2, HW2, H3.out.1, H3.out.2.1, H3.out.2.2.2, HF3⟩, by (simp [intOf]) <;> omega⟩
        · have heb : (LE != 0) = true := by simpa using he
          have HR2 : Hid (RES = (LE, LX)) := by show _ = _; rw [HRn.out, if_neg he]
          have HFin := (show Hid _ from HMid9.out.fin HF3.out H3.out.2.1)
          clear HRn he
          go_wp2
          go_ret
          exact ⟨(by rw [HR2.out]; first | done | rfl), vo3, vt3, (by rw [HR2.out]; exact H3.out.1), HFin.out.1, HFin.out.2⟩
      · have hlt1 : ¬ (k : Int) < (L.length : Int) := by omega
        obtain rfl : k = L.length := by omega
        have HR2 : Hid (RES = (0, y)) := by show _ = _; rw [← HRs.out, List.drop_length]; rfl
        have HFin := (show Hid _ from HMid9.out.fin HFy.out HV7.out)
        clear HRs
        go_wp2
        go_ret
        exact ⟨(by rw [HR2.out]; first | done | rfl), vo2, vt2, (by rw [HR2.out]; exact HXy.out), HFin.out.1, HFin.out.2⟩
theorem ntake_all {pages : List PgA} (hl : pages.length ≤ 9223372036854775000) (htx : ∀ p ∈ pages, p.text.length ≤ 200000000) {may : List StrA} (hm : may.length ≤ 9223372036854775000) : ∀ f, TakeC pages may f
  | 0 => fun r chain x xb vp vm vo vt vc w h1 h2 _ _ _ _ _ _ => absurd h2 (by omega)
  | f + 1 => ntake_step hl htx hm f (ntake_all hl htx hm f)
end Go.Proofs.YtkjicdldlnefeaaDoor
