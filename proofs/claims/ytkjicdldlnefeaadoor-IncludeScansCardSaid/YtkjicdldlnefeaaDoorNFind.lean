/- find (include); walked. -/
import Derived.Test.YtkjicdldlnefeaaDoorNLat
set_option linter.unusedVariables false
namespace Go.Proofs.YtkjicdldlnefeaaDoor
open Go.RowKit

abbrev aggP (p : PgA) : Value := .agg #[strA p.ref.tenant, strA p.ref.doc, .int .i64 p.ref.ver, strA p.text]
theorem firstP_next {pages : List PgA} {k : Nat} {p : PgA} {r : RfA} (hp : pages[k]? = some p) : firstP (pages.drop k) r = if eqR p.ref r = true then (p, true) else firstP (pages.drop (k + 1)) r := by
  have hk := (List.getElem?_eq_some_iff.1 hp).1
  have : pages.drop k = p :: pages.drop (k + 1) := by
    rw [List.drop_eq_getElem_cons hk, (List.getElem?_eq_some_iff.1 hp).2]
  rw [this]
  rfl
set_option maxHeartbeats 8000000 in
set_option maxRecDepth 8000 in
theorem nfind_any (pages : List PgA) (hl : pages.length ≤ 9223372036854775000) (r0 : RfA) (xb : Nat) (vp : Value) (w : World) (hx : w.cell? ⟨xb, 0, none⟩ = some vp) (hxb : xb < w.heap.size) (hv : PgsN w vp pages) : Calls Tryd.prog 60 #[.pointer (some ⟨xb, 0, none⟩), aggR r0] w fun e w' => e = .returned (.tuple #[aggP (findA pages r0).1, .bool (findA pages r0).2]) ∧ Below w.heap.size w w' := by
  have HLat0 : Hid (∀ u, Below w.heap.size w u → Calls Tryd.prog 74 #[.pointer (some ⟨xb, 0, none⟩), aggR r0] u fun e w' => e = .returned (aggR (latF pages r0 false)) ∧ Below u.heap.size u w') := fun u hu => nlatest_any pages hl r0 xb vp u ((hu.cell (p := ⟨xb, 0, none⟩) hxb).trans hx) (Nat.lt_of_lt_of_le hxb hu.size) (hv.below hu)
  obtain ⟨a, cap, rfl, hc⟩ := hv
  have HC := (show Hid (∀ i p, pages[i]? = some p → ∃ b o, a = some ⟨b, o, none⟩ ∧ b < w.heap.size ∧ w.cell? ⟨b, o + i * 4, none⟩ = some (strA p.ref.tenant) ∧ w.cell? ⟨b, o + i * 4 + 1, none⟩ = some (strA p.ref.doc) ∧ w.cell? ⟨b, o + i * 4 + 2, none⟩ = some (.int .i64 p.ref.ver) ∧ w.cell? ⟨b, o + i * 4 + 3, none⟩ = some (strA p.text)) from hc)
  have hli : (pages.length : Int) ≤ 9223372036854775000 := by omega
  obtain ⟨RES, hRES⟩ : ∃ RES, findA pages r0 = RES := ⟨_, rfl⟩
  rw [hRES]
  have HRES0 := (show Hid (firstP (pages.drop 0) (findR pages r0) = RES) from hRES)
  have HFR : Hid (findR pages r0 = if r0.ver = 0 then latF pages r0 false else r0) := rfl
  obtain ⟨t, d, v⟩ := r0
  have HLat : Hid (∀ u, Below w.heap.size w u → Calls Tryd.prog 74 #[.pointer (some ⟨xb, 0, none⟩), .agg #[strA t, strA d, .int .i64 v]] u fun e w' => e = .returned (aggR (latF pages ⟨t, d, v⟩ false)) ∧ Below u.heap.size u w') := HLat0
  simp only at HFR
  clear hc hRES HLat0
  show Calls Tryd.prog 60 #[.pointer (some ⟨xb, 0, none⟩), .agg #[strA t, strA d, .int .i64 v]] w fun e w' => e = .returned (.tuple #[aggP RES.1, .bool RES.2]) ∧ Below w.heap.size w w'
  have HX : Hid (∀ u, Below w.heap.size w u → u.cell? ⟨xb, 0, none⟩ = some (.slice a pages.length cap)) := fun u hu => (hu.cell (p := ⟨xb, 0, none⟩) hxb).trans hx
  obtain ⟨W1, hW1⟩ : ∃ W1, W1 = w.alloc (.cells #[strA t, strA d, .int .i64 v] 24) := ⟨_, rfl⟩
  have hs1 : W1.heap.size = w.heap.size + 1 := by rw [hW1]; simp
  obtain ⟨W2, hW2⟩ : ∃ W2, W2 = W1.alloc (.cells #[.string ⟨#[]⟩, .string ⟨#[]⟩, .int .i64 0, .string ⟨#[]⟩] 38) := ⟨_, rfl⟩
  have HB1 : Hid (Below w.heap.size w W1) := by show Below _ _ _; rw [hW1]; exact (Below.refl _ _).alloc (Nat.le_refl _) _
  have HB2 : Hid (Below w.heap.size w W2) := by show Below _ _ _; rw [hW2]; exact HB1.out.alloc HB1.out.size _
  have HK1 : Hid (W2.heap[w.heap.size]? = some (.cells #[strA t, strA d, .int .i64 v] 24 (0, 0))) := by show _ = _; rw [hW2]; refine blk_allocN ?_ _; rw [hW1]; exact blk_newN _ _ _
  have HK2 : Hid (W2.heap[w.heap.size + 1]? = some (.cells #[.string ⟨#[]⟩, .string ⟨#[]⟩, .int .i64 0, .string ⟨#[]⟩] 38 (0, 0))) := by show _ = _; rw [hW2, ← hs1]; exact blk_newN _ _ _
  have HS : Hid (w.heap.size ≠ w.heap.size + 1) := by show _ ≠ _; omega
  by_cases hv0 : v = 0
  · subst hv0
    have HRES1 : Hid (firstP (pages.drop 0) (latF pages ⟨t, d, 0⟩ false) = RES) := by have := HRES0.out; rw [HFR.out, if_pos rfl] at this; exact this
    generalize latF pages ⟨t, d, 0⟩ false = R at *
    have HB2w := (show Hid (Below w.heap.size w ((w.alloc (.cells #[strA t, strA d, .int .i64 0] 24)).alloc (.cells #[.string ⟨#[]⟩, .string ⟨#[]⟩, .int .i64 0, .string ⟨#[]⟩] 38))) from by have := HB2.out; rw [hW2, hW1] at this; exact this)
    clear HRES0 HFR hx
    go_enter Tryd.func60, Tryd.ntmps60
    go_wp2_with (go_at_call 74; refine Calls.mono (HLat.out _ HB2w.out) ?_)
    rw [← hW1, ← hW2]
    rintro e wa3 ⟨rfl, hb3⟩
    have HB3 := (show Hid (Below w.heap.size w wa3) from HB2.out.trans (hb3.mono HB2.out.size))
    have hk1 := blk_belowN HK1.out hb3
    have hk2 := blk_belowN HK2.out hb3
    obtain ⟨rt, rd, rv⟩ := R
    have c0 : wa3.cell? ⟨w.heap.size, 0, none⟩ = some (strA t) := cell_blkN hk1 (i := 0) rfl
    have c1 : wa3.cell? ⟨w.heap.size, 1, none⟩ = some (strA d) := cell_blkN hk1 (i := 1) rfl
    have c2 : wa3.cell? ⟨w.heap.size, 2, none⟩ = some (.int .i64 0) := cell_blkN hk1 (i := 2) rfl
    have f0 : wa3.frozen? ⟨w.heap.size, 0, none⟩ = false := free_blkN hk1 0
    have f1 : wa3.frozen? ⟨w.heap.size, 1, none⟩ = false := free_blkN hk1 1
    have f2 : wa3.frozen? ⟨w.heap.size, 2, none⟩ = false := free_blkN hk1 2
    obtain ⟨W4, hW4⟩ : ∃ W4, W4 = ((wa3.setCell ⟨w.heap.size, 0, none⟩ (strA rt)).setCell ⟨w.heap.size, 1, none⟩ (strA rd)).setCell ⟨w.heap.size, 2, none⟩ (.int .i64 rv) := ⟨_, rfl⟩
    have HBs : Hid (Below w.heap.size w W4) := by show Below _ _ _; rw [hW4]; exact ((HB3.out.setCell (Nat.le_refl _) _).setCell (Nat.le_refl _) _).setCell (Nat.le_refl _) _
    have HKs1 : Hid (W4.heap[w.heap.size]? = some (.cells #[strA rt, strA rd, .int .i64 rv] 24 (0, 0))) := by show _ = _; rw [hW4]; exact set_blkN (set_blkN (set_blkN hk1 0 (strA rt)) 1 (strA rd)) 2 (.int .i64 rv)
    have HKs2 : Hid (W4.heap[w.heap.size + 1]? = some (.cells #[.string ⟨#[]⟩, .string ⟨#[]⟩, .int .i64 0, .string ⟨#[]⟩] 38 (0, 0))) := by show _ = _; rw [hW4]; exact blk_setN (blk_setN (blk_setN hk2 HS.out 0 _) HS.out 1 _) HS.out 2 _
    have HRES := (show Hid (firstP (pages.drop 0) ⟨rt, rd, rv⟩ = RES) from HRES1.out)
    have hxW : W4.cell? ⟨xb, 0, none⟩ = some (.slice a pages.length cap) := HX.out W4 HBs.out
    rw [hW4] at hxW
    clear HRES1 HB1 HB2 HB2w HK1 HK2 hk1 hk2 hb3 HB3 HLat hs1
    go_wp2
    rw [← hW4]
    clear hxW c0 c1 c2 f0 f1 f2 hW1 hW2 hW4
    go_loopw [19] (fun i wr => ∃ k : Nat, i = .int .i64 (k : Int) ∧ k ≤ pages.length ∧ Hid (firstP (pages.drop k) ⟨rt, rd, rv⟩ = RES) ∧ Hid (wr.heap[w.heap.size]? = some (.cells #[strA rt, strA rd, .int .i64 rv] 24 (0, 0))) ∧ Hid (wr.heap[w.heap.size + 1]? = some (.cells #[.string ⟨#[]⟩, .string ⟨#[]⟩, .int .i64 0, .string ⟨#[]⟩] 38 (0, 0))) ∧ Hid (Below w.heap.size w wr)) (fun i _ => pages.length - (intOf i).toNat)
    case atStart => exact ⟨0, rfl, Nat.zero_le _, HRES, HKs1, HKs2, HBs⟩
    case round =>
      clear HRES HKs1 HKs2 HBs
      obtain ⟨k, rfl, hk, HL, HK1, HK2, HB⟩ := hrel
      by_cases hlt : k < pages.length
      · have hlt1 : (k : Int) < (pages.length : Int) := by omega
        obtain ⟨p, hp⟩ : ∃ p, pages[k]? = some p := ⟨_, List.getElem?_eq_getElem hlt⟩
        obtain ⟨b, o, ha, hb, p0, p1, p2, p3⟩ := HC.out k p hp
        subst ha
        have d0 : wr.cell? ⟨b, o + k * 4, none⟩ = some (strA p.ref.tenant) := (HB.out.cell (p := ⟨b, o + k * 4, none⟩) hb).trans p0
        have d1 : wr.cell? ⟨b, o + k * 4 + 1, none⟩ = some (strA p.ref.doc) := (HB.out.cell (p := ⟨b, o + k * 4 + 1, none⟩) hb).trans p1
        have d2 : wr.cell? ⟨b, o + k * 4 + 2, none⟩ = some (.int .i64 p.ref.ver) := (HB.out.cell (p := ⟨b, o + k * 4 + 2, none⟩) hb).trans p2
        have d3 : wr.cell? ⟨b, o + k * 4 + 3, none⟩ = some (strA p.text) := (HB.out.cell (p := ⟨b, o + k * 4 + 3, none⟩) hb).trans p3
        have HN := (show Hid (firstP (pages.drop k) ⟨rt, rd, rv⟩ = if eqR p.ref ⟨rt, rd, rv⟩ = true then (p, true) else firstP (pages.drop (k + 1)) ⟨rt, rd, rv⟩) from firstP_next hp)
        rw [HL.out] at HN
        clear HC hp p0 p1 p2 p3 HL
        obtain ⟨⟨pt, pd, pv⟩, px⟩ := p
        simp only at d0 d1 d2 d3 HN
        have c0 : ∀ o, (wr.alloc o).cell? ⟨w.heap.size, 0, none⟩ = some (strA rt) := fun o => cell_blkN (blk_allocN HK1.out o) (i := 0) rfl
        have c1 : ∀ o, (wr.alloc o).cell? ⟨w.heap.size, 1, none⟩ = some (strA rd) := fun o => cell_blkN (blk_allocN HK1.out o) (i := 1) rfl
        have c2 : ∀ o, (wr.alloc o).cell? ⟨w.heap.size, 2, none⟩ = some (.int .i64 rv) := fun o => cell_blkN (blk_allocN HK1.out o) (i := 2) rfl
        have HBa : Hid (∀ o, Below w.heap.size w (wr.alloc o)) := fun o => HB.out.alloc HB.out.size o
        have HKa1 : Hid (∀ o, (wr.alloc o).heap[w.heap.size]? = some (.cells #[strA rt, strA rd, .int .i64 rv] 24 (0, 0))) := fun o => blk_allocN HK1.out o
        have HKa2 : Hid (∀ o, (wr.alloc o).heap[w.heap.size + 1]? = some (.cells #[.string ⟨#[]⟩, .string ⟨#[]⟩, .int .i64 0, .string ⟨#[]⟩] 38 (0, 0))) := fun o => blk_allocN HK2.out o
        have HEq : Hid (eqR ⟨pt, pd, pv⟩ ⟨rt, rd, rv⟩ = ((pt == rt) && (pd == rd) && (pv == rv))) := rfl
        generalize eqR ⟨pt, pd, pv⟩ ⟨rt, rd, rv⟩ = EQ at *
        have hsplit : ∃ q1 q2 q3, (pt == rt) = q1 ∧ (pd == rd) = q2 ∧ (pv == rv) = q3 := ⟨_, _, _, rfl, rfl, rfl⟩
        obtain ⟨q1, q2, q3, e1, e2, e3⟩ := hsplit
        rw [e1, e2, e3] at HEq
        clear HK1 HK2 HB
        cases hq : (q1 && q2 && q3)
        · rw [hq] at HEq
          have HN2 : Hid (firstP (pages.drop (k + 1)) ⟨rt, rd, rv⟩ = RES) := by show _ = _; rw [HN.out, HEq.out]; rfl
          have h3 : q1 = false ∨ (q1 = true ∧ q2 = false) ∨ (q1 = true ∧ q2 = true ∧ q3 = false) := by revert hq; cases q1 <;> cases q2 <;> cases q3 <;> simp
          clear HEq hq HN
          rcases h3 with rfl | ⟨rfl, rfl⟩ | ⟨rfl, rfl, rfl⟩
          all_goals
            go_wp2
            exact ⟨⟨k + 1, by go_num, by omega, HN2, HKa1.out _, HKa2.out _, HBa.out _⟩, by (simp [intOf]) <;> omega⟩
        · rw [hq] at HEq
          have HN2 : Hid (RES = (⟨⟨pt, pd, pv⟩, px⟩, true)) := by show _ = _; rw [HN.out, HEq.out]; rfl
          have h3 : q1 = true ∧ q2 = true ∧ q3 = true := by revert hq; cases q1 <;> cases q2 <;> cases q3 <;> simp
          obtain ⟨rfl, rfl, rfl⟩ := h3
          have k0 : ∀ o, (wr.alloc o).cell? ⟨w.heap.size + 1, 0, none⟩ = some (.string ⟨#[]⟩) := fun o => cell_blkN (HKa2.out o) (i := 0) rfl
          have k1 : ∀ o, (wr.alloc o).cell? ⟨w.heap.size + 1, 1, none⟩ = some (.string ⟨#[]⟩) := fun o => cell_blkN (HKa2.out o) (i := 1) rfl
          have k2 : ∀ o, (wr.alloc o).cell? ⟨w.heap.size + 1, 2, none⟩ = some (.int .i64 0) := fun o => cell_blkN (HKa2.out o) (i := 2) rfl
          have k3 : ∀ o, (wr.alloc o).cell? ⟨w.heap.size + 1, 3, none⟩ = some (.string ⟨#[]⟩) := fun o => cell_blkN (HKa2.out o) (i := 3) rfl
          have f0 : ∀ o, (wr.alloc o).frozen? ⟨w.heap.size + 1, 0, none⟩ = false := fun o => free_blkN (HKa2.out o) 0
          have f1 : ∀ o, (wr.alloc o).frozen? ⟨w.heap.size + 1, 1, none⟩ = false := fun o => free_blkN (HKa2.out o) 1
          have f2 : ∀ o, (wr.alloc o).frozen? ⟨w.heap.size + 1, 2, none⟩ = false := fun o => free_blkN (HKa2.out o) 2
          have f3 : ∀ o, (wr.alloc o).frozen? ⟨w.heap.size + 1, 3, none⟩ = false := fun o => free_blkN (HKa2.out o) 3
          clear HEq hq HN
          go_wp2
          (try simp only [Exit.inBlock, Exit.then])
          have hB3 := fun o => set_blkN (set_blkN (set_blkN (set_blkN (HKa2.out o) 0 (strA pt)) 1 (strA pd)) 2 (.int .i64 pv)) 3 (strA px)
          have g0 := fun o => cell_blkN (hB3 o) (i := 0) (v := strA pt) rfl
          have g1 := fun o => cell_blkN (hB3 o) (i := 1) (v := strA pd) rfl
          have g2 := fun o => cell_blkN (hB3 o) (i := 2) (v := .int .i64 pv) rfl
          have g3 := fun o => cell_blkN (hB3 o) (i := 3) (v := strA px) rfl
          refine bodyPost_ret (v := .tuple #[.agg #[strA pt, strA pd, .int .i64 pv, strA px], .bool true]) ?_ rfl ⟨?_, ?_⟩
          · rw [results_cell_tmp rfl]
            go_simp
          · rw [HN2.out]
          · exact (((((HBa.out _).setCell (Nat.le_succ _) _).setCell (Nat.le_succ _) _).setCell (Nat.le_succ _) _).setCell (Nat.le_succ _) _)
      · have hlt1 : ¬ (k : Int) < (pages.length : Int) := by omega
        obtain rfl : k = pages.length := by omega
        have HN2 : Hid (RES = ({}, false)) := by show _ = _; rw [← HL.out, List.drop_length]; rfl
        have k0 : wr.cell? ⟨w.heap.size + 1, 0, none⟩ = some (.string ⟨#[]⟩) := cell_blkN HK2.out (i := 0) rfl
        have k1 : wr.cell? ⟨w.heap.size + 1, 1, none⟩ = some (.string ⟨#[]⟩) := cell_blkN HK2.out (i := 1) rfl
        have k2 : wr.cell? ⟨w.heap.size + 1, 2, none⟩ = some (.int .i64 0) := cell_blkN HK2.out (i := 2) rfl
        have k3 : wr.cell? ⟨w.heap.size + 1, 3, none⟩ = some (.string ⟨#[]⟩) := cell_blkN HK2.out (i := 3) rfl
        have f0 : wr.frozen? ⟨w.heap.size + 1, 0, none⟩ = false := free_blkN HK2.out 0
        have f1 : wr.frozen? ⟨w.heap.size + 1, 1, none⟩ = false := free_blkN HK2.out 1
        have f2 : wr.frozen? ⟨w.heap.size + 1, 2, none⟩ = false := free_blkN HK2.out 2
        have f3 : wr.frozen? ⟨w.heap.size + 1, 3, none⟩ = false := free_blkN HK2.out 3
        clear HL HC HK1
        go_wp2
        (try simp only [Exit.inBlock, Exit.then])
        have hB3 := set_blkN (set_blkN (set_blkN (set_blkN HK2.out 0 (.string ⟨#[]⟩)) 1 (.string ⟨#[]⟩)) 2 (.int .i64 0)) 3 (.string ⟨#[]⟩)
        have g0 := cell_blkN hB3 (i := 0) (v := .string ⟨#[]⟩) rfl
        have g1 := cell_blkN hB3 (i := 1) (v := .string ⟨#[]⟩) rfl
        have g2 := cell_blkN hB3 (i := 2) (v := .int .i64 0) rfl
        have g3 := cell_blkN hB3 (i := 3) (v := .string ⟨#[]⟩) rfl
        refine bodyPost_ret (v := .tuple #[.agg #[.string ⟨#[]⟩, .string ⟨#[]⟩, .int .i64 0, .string ⟨#[]⟩], .bool false]) ?_ rfl ⟨?_, ?_⟩
        · rw [results_cell_tmp rfl]
          go_simp
        · rw [HN2.out]
        · exact ((((HB.out.setCell (Nat.le_succ _) _).setCell (Nat.le_succ _) _).setCell (Nat.le_succ _) _).setCell (Nat.le_succ _) _)
  · have HRES : Hid (firstP (pages.drop 0) ⟨t, d, v⟩ = RES) := by have := HRES0.out; rw [HFR.out, if_neg hv0] at this; exact this
    have hvb : (v == 0) = false := by simpa using hv0
    obtain ⟨rt, hrt⟩ : ∃ rt, rt = t := ⟨_, rfl⟩
    obtain ⟨rd, hrd⟩ : ∃ rd, rd = d := ⟨_, rfl⟩
    obtain ⟨rv, hrv⟩ : ∃ rv, rv = v := ⟨_, rfl⟩
    subst hrt
    subst hrd
    subst hrv
    have HBs := HB2
    have HKs1 := HK1
    have HKs2 := HK2
    have hxW : W2.cell? ⟨xb, 0, none⟩ = some (.slice a pages.length cap) := HX.out W2 HB2.out
    rw [hW2, hW1] at hxW
    clear HRES0 HFR hx HLat HK1 HK2 HB2 HB1 hs1 hv0
    go_enter Tryd.func60, Tryd.ntmps60
    go_wp2
    rw [← hW1, ← hW2]
    clear hxW hW1 hW2
    go_loopw [19] (fun i wr => ∃ k : Nat, i = .int .i64 (k : Int) ∧ k ≤ pages.length ∧ Hid (firstP (pages.drop k) ⟨rt, rd, rv⟩ = RES) ∧ Hid (wr.heap[w.heap.size]? = some (.cells #[strA rt, strA rd, .int .i64 rv] 24 (0, 0))) ∧ Hid (wr.heap[w.heap.size + 1]? = some (.cells #[.string ⟨#[]⟩, .string ⟨#[]⟩, .int .i64 0, .string ⟨#[]⟩] 38 (0, 0))) ∧ Hid (Below w.heap.size w wr)) (fun i _ => pages.length - (intOf i).toNat)
    case atStart => exact ⟨0, rfl, Nat.zero_le _, HRES, HKs1, HKs2, HBs⟩
    case round =>
      clear HRES HKs1 HKs2 HBs
      obtain ⟨k, rfl, hk, HL, HK1, HK2, HB⟩ := hrel
      by_cases hlt : k < pages.length
      · have hlt1 : (k : Int) < (pages.length : Int) := by omega
        obtain ⟨p, hp⟩ : ∃ p, pages[k]? = some p := ⟨_, List.getElem?_eq_getElem hlt⟩
        obtain ⟨b, o, ha, hb, p0, p1, p2, p3⟩ := HC.out k p hp
        subst ha
        have d0 : wr.cell? ⟨b, o + k * 4, none⟩ = some (strA p.ref.tenant) := (HB.out.cell (p := ⟨b, o + k * 4, none⟩) hb).trans p0
        have d1 : wr.cell? ⟨b, o + k * 4 + 1, none⟩ = some (strA p.ref.doc) := (HB.out.cell (p := ⟨b, o + k * 4 + 1, none⟩) hb).trans p1
        have d2 : wr.cell? ⟨b, o + k * 4 + 2, none⟩ = some (.int .i64 p.ref.ver) := (HB.out.cell (p := ⟨b, o + k * 4 + 2, none⟩) hb).trans p2
        have d3 : wr.cell? ⟨b, o + k * 4 + 3, none⟩ = some (strA p.text) := (HB.out.cell (p := ⟨b, o + k * 4 + 3, none⟩) hb).trans p3
        have HN := (show Hid (firstP (pages.drop k) ⟨rt, rd, rv⟩ = if eqR p.ref ⟨rt, rd, rv⟩ = true then (p, true) else firstP (pages.drop (k + 1)) ⟨rt, rd, rv⟩) from firstP_next hp)
        rw [HL.out] at HN
        clear HC hp p0 p1 p2 p3 HL
        obtain ⟨⟨pt, pd, pv⟩, px⟩ := p
        simp only at d0 d1 d2 d3 HN
        have c0 : ∀ o, (wr.alloc o).cell? ⟨w.heap.size, 0, none⟩ = some (strA rt) := fun o => cell_blkN (blk_allocN HK1.out o) (i := 0) rfl
        have c1 : ∀ o, (wr.alloc o).cell? ⟨w.heap.size, 1, none⟩ = some (strA rd) := fun o => cell_blkN (blk_allocN HK1.out o) (i := 1) rfl
        have c2 : ∀ o, (wr.alloc o).cell? ⟨w.heap.size, 2, none⟩ = some (.int .i64 rv) := fun o => cell_blkN (blk_allocN HK1.out o) (i := 2) rfl
        have HBa : Hid (∀ o, Below w.heap.size w (wr.alloc o)) := fun o => HB.out.alloc HB.out.size o
        have HKa1 : Hid (∀ o, (wr.alloc o).heap[w.heap.size]? = some (.cells #[strA rt, strA rd, .int .i64 rv] 24 (0, 0))) := fun o => blk_allocN HK1.out o
        have HKa2 : Hid (∀ o, (wr.alloc o).heap[w.heap.size + 1]? = some (.cells #[.string ⟨#[]⟩, .string ⟨#[]⟩, .int .i64 0, .string ⟨#[]⟩] 38 (0, 0))) := fun o => blk_allocN HK2.out o
        have HEq : Hid (eqR ⟨pt, pd, pv⟩ ⟨rt, rd, rv⟩ = ((pt == rt) && (pd == rd) && (pv == rv))) := rfl
        generalize eqR ⟨pt, pd, pv⟩ ⟨rt, rd, rv⟩ = EQ at *
        have hsplit : ∃ q1 q2 q3, (pt == rt) = q1 ∧ (pd == rd) = q2 ∧ (pv == rv) = q3 := ⟨_, _, _, rfl, rfl, rfl⟩
        obtain ⟨q1, q2, q3, e1, e2, e3⟩ := hsplit
        rw [e1, e2, e3] at HEq
        clear HK1 HK2 HB
        cases hq : (q1 && q2 && q3)
        · rw [hq] at HEq
          have HN2 : Hid (firstP (pages.drop (k + 1)) ⟨rt, rd, rv⟩ = RES) := by show _ = _; rw [HN.out, HEq.out]; rfl
          have h3 : q1 = false ∨ (q1 = true ∧ q2 = false) ∨ (q1 = true ∧ q2 = true ∧ q3 = false) := by revert hq; cases q1 <;> cases q2 <;> cases q3 <;> simp
          clear HEq hq HN
          rcases h3 with rfl | ⟨rfl, rfl⟩ | ⟨rfl, rfl, rfl⟩
          all_goals
            go_wp2
            exact ⟨⟨k + 1, by go_num, by omega, HN2, HKa1.out _, HKa2.out _, HBa.out _⟩, by (simp [intOf]) <;> omega⟩
        · rw [hq] at HEq
          have HN2 : Hid (RES = (⟨⟨pt, pd, pv⟩, px⟩, true)) := by show _ = _; rw [HN.out, HEq.out]; rfl
          have h3 : q1 = true ∧ q2 = true ∧ q3 = true := by revert hq; cases q1 <;> cases q2 <;> cases q3 <;> simp
          obtain ⟨rfl, rfl, rfl⟩ := h3
          have k0 : ∀ o, (wr.alloc o).cell? ⟨w.heap.size + 1, 0, none⟩ = some (.string ⟨#[]⟩) := fun o => cell_blkN (HKa2.out o) (i := 0) rfl
          have k1 : ∀ o, (wr.alloc o).cell? ⟨w.heap.size + 1, 1, none⟩ = some (.string ⟨#[]⟩) := fun o => cell_blkN (HKa2.out o) (i := 1) rfl
          have k2 : ∀ o, (wr.alloc o).cell? ⟨w.heap.size + 1, 2, none⟩ = some (.int .i64 0) := fun o => cell_blkN (HKa2.out o) (i := 2) rfl
          have k3 : ∀ o, (wr.alloc o).cell? ⟨w.heap.size + 1, 3, none⟩ = some (.string ⟨#[]⟩) := fun o => cell_blkN (HKa2.out o) (i := 3) rfl
          have f0 : ∀ o, (wr.alloc o).frozen? ⟨w.heap.size + 1, 0, none⟩ = false := fun o => free_blkN (HKa2.out o) 0
          have f1 : ∀ o, (wr.alloc o).frozen? ⟨w.heap.size + 1, 1, none⟩ = false := fun o => free_blkN (HKa2.out o) 1
          have f2 : ∀ o, (wr.alloc o).frozen? ⟨w.heap.size + 1, 2, none⟩ = false := fun o => free_blkN (HKa2.out o) 2
          have f3 : ∀ o, (wr.alloc o).frozen? ⟨w.heap.size + 1, 3, none⟩ = false := fun o => free_blkN (HKa2.out o) 3
          clear HEq hq HN
          go_wp2
          (try simp only [Exit.inBlock, Exit.then])
          have hB3 := fun o => set_blkN (set_blkN (set_blkN (set_blkN (HKa2.out o) 0 (strA pt)) 1 (strA pd)) 2 (.int .i64 pv)) 3 (strA px)
          have g0 := fun o => cell_blkN (hB3 o) (i := 0) (v := strA pt) rfl
          have g1 := fun o => cell_blkN (hB3 o) (i := 1) (v := strA pd) rfl
          have g2 := fun o => cell_blkN (hB3 o) (i := 2) (v := .int .i64 pv) rfl
          have g3 := fun o => cell_blkN (hB3 o) (i := 3) (v := strA px) rfl
          refine bodyPost_ret (v := .tuple #[.agg #[strA pt, strA pd, .int .i64 pv, strA px], .bool true]) ?_ rfl ⟨?_, ?_⟩
          · rw [results_cell_tmp rfl]
            go_simp
          · rw [HN2.out]
          · exact (((((HBa.out _).setCell (Nat.le_succ _) _).setCell (Nat.le_succ _) _).setCell (Nat.le_succ _) _).setCell (Nat.le_succ _) _)
      · have hlt1 : ¬ (k : Int) < (pages.length : Int) := by omega
        obtain rfl : k = pages.length := by omega
        have HN2 : Hid (RES = ({}, false)) := by show _ = _; rw [← HL.out, List.drop_length]; rfl
        have k0 : wr.cell? ⟨w.heap.size + 1, 0, none⟩ = some (.string ⟨#[]⟩) := cell_blkN HK2.out (i := 0) rfl
        have k1 : wr.cell? ⟨w.heap.size + 1, 1, none⟩ = some (.string ⟨#[]⟩) := cell_blkN HK2.out (i := 1) rfl
        have k2 : wr.cell? ⟨w.heap.size + 1, 2, none⟩ = some (.int .i64 0) := cell_blkN HK2.out (i := 2) rfl
        have k3 : wr.cell? ⟨w.heap.size + 1, 3, none⟩ = some (.string ⟨#[]⟩) := cell_blkN HK2.out (i := 3) rfl
        have f0 : wr.frozen? ⟨w.heap.size + 1, 0, none⟩ = false := free_blkN HK2.out 0
        have f1 : wr.frozen? ⟨w.heap.size + 1, 1, none⟩ = false := free_blkN HK2.out 1
        have f2 : wr.frozen? ⟨w.heap.size + 1, 2, none⟩ = false := free_blkN HK2.out 2
        have f3 : wr.frozen? ⟨w.heap.size + 1, 3, none⟩ = false := free_blkN HK2.out 3
        clear HL HC HK1
        go_wp2
        (try simp only [Exit.inBlock, Exit.then])
        have hB3 := set_blkN (set_blkN (set_blkN (set_blkN HK2.out 0 (.string ⟨#[]⟩)) 1 (.string ⟨#[]⟩)) 2 (.int .i64 0)) 3 (.string ⟨#[]⟩)
        have g0 := cell_blkN hB3 (i := 0) (v := .string ⟨#[]⟩) rfl
        have g1 := cell_blkN hB3 (i := 1) (v := .string ⟨#[]⟩) rfl
        have g2 := cell_blkN hB3 (i := 2) (v := .int .i64 0) rfl
        have g3 := cell_blkN hB3 (i := 3) (v := .string ⟨#[]⟩) rfl
        refine bodyPost_ret (v := .tuple #[.agg #[.string ⟨#[]⟩, .string ⟨#[]⟩, .int .i64 0, .string ⟨#[]⟩], .bool false]) ?_ rfl ⟨?_, ?_⟩
        · rw [results_cell_tmp rfl]
          go_simp
        · rw [HN2.out]
        · exact ((((HB.out.setCell (Nat.le_succ _) _).setCell (Nat.le_succ _) _).setCell (Nat.le_succ _) _).setCell (Nat.le_succ _) _)
end Go.Proofs.YtkjicdldlnefeaaDoor
