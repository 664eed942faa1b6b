/- latest (include); walked. -/
import Derived.Test.YtkjicdldlnefeaaDoorNCont
set_option linter.unusedVariables false
namespace Go.Proofs.YtkjicdldlnefeaaDoor
open Go.RowKit

/-- A row of pages in memory. -/
def PgsN (w : World) (v : Value) (l : List PgA) : Prop := ∃ a cap, v = .slice a l.length cap ∧ ∀ i p, l[i]? = some p → ∃ b o, a = some ⟨b, o, none⟩ ∧ b < w.heap.size ∧ w.cell? ⟨b, o + i * 4, none⟩ = some (strA p.ref.tenant) ∧ w.cell? ⟨b, o + i * 4 + 1, none⟩ = some (strA p.ref.doc) ∧ w.cell? ⟨b, o + i * 4 + 2, none⟩ = some (.int .i64 p.ref.ver) ∧ w.cell? ⟨b, o + i * 4 + 3, none⟩ = some (strA p.text)
theorem PgsN.below {w w' : World} {v : Value} {l : List PgA} (h : PgsN w v l) (hb : Below w.heap.size w w') : PgsN w' v l := by
  obtain ⟨a, cap, rfl, hc⟩ := h
  refine ⟨a, cap, rfl, fun i s hs => ?_⟩
  obtain ⟨b, o, e, hbw, q0, q1, q2, q3⟩ := hc i s hs
  exact ⟨b, o, e, Nat.lt_of_lt_of_le hbw hb.size, (hb.cell (p := ⟨b, o + i * 4, none⟩) hbw).trans q0, (hb.cell (p := ⟨b, o + i * 4 + 1, none⟩) hbw).trans q1, (hb.cell (p := ⟨b, o + i * 4 + 2, none⟩) hbw).trans q2, (hb.cell (p := ⟨b, o + i * 4 + 3, none⟩) hbw).trans q3⟩
theorem results_cellN {fn : Func} {p : Tmp} {ty : TypeId} (h : fn.results = #[.cell p ty]) (tmps : Array Value) (P : Program) (w : World) :
    (results fn tmps).run P w = ((asAddr (tmps.getD p undef)).run P w).andThen fun a w₁ => (loadVar ty a).run P w₁ := by
  simp only [results, h]
  simp [Sem.run_bind, Result.andThen]
theorem latF_next {pages : List PgA} {k : Nat} {p : PgA} {r : RfA} {F : Bool} (hp : pages[k]? = some p) : latF (pages.drop k) r F = if p.ref.tenant = r.tenant ∧ p.ref.doc = r.doc ∧ (F = false ∨ r.ver < p.ref.ver) then latF (pages.drop (k + 1)) p.ref true else latF (pages.drop (k + 1)) r F := by
  have hk := (List.getElem?_eq_some_iff.1 hp).1
  have : pages.drop k = p :: pages.drop (k + 1) := by
    rw [List.drop_eq_getElem_cons hk, (List.getElem?_eq_some_iff.1 hp).2]
  rw [this]
  rfl
theorem blk_allocN {w : World} {b : Nat} {o : Obj} (h : w.heap[b]? = some o) (o' : Obj) : (w.alloc o').heap[b]? = some o := (heap_alloc_old w o' (Array.getElem?_eq_some_iff.1 h).1).trans h
theorem blk_setN {w : World} {b b' : Nat} {o : Obj} (h : w.heap[b]? = some o) (hne : b' ≠ b) (i : Nat) (u : Value) : (w.setCell ⟨b', i, none⟩ u).heap[b]? = some o := (heap_setCell_other w ⟨b', i, none⟩ b u (fun e => hne e.symm)).trans h

set_option maxHeartbeats 8000000 in
set_option maxRecDepth 8000 in
theorem nlatest_any (pages : List PgA) (hl : pages.length ≤ 9223372036854775000) (r0 : RfA) (xb : Nat) (vp : Value) (w : World) (hx : w.cell? ⟨xb, 0, none⟩ = some vp) (hxb : xb < w.heap.size) (hv : PgsN w vp pages) : Calls Tryd.prog 74 #[.pointer (some ⟨xb, 0, none⟩), aggR r0] w fun e w' => e = .returned (aggR (latF pages r0 false)) ∧ Below w.heap.size w w' := by
  obtain ⟨a, cap, rfl, hc⟩ := hv
  have HC := (show Hid (∀ i p, pages[i]? = some p → ∃ b o, a = some ⟨b, o, none⟩ ∧ b < w.heap.size ∧ w.cell? ⟨b, o + i * 4, none⟩ = some (strA p.ref.tenant) ∧ w.cell? ⟨b, o + i * 4 + 1, none⟩ = some (strA p.ref.doc) ∧ w.cell? ⟨b, o + i * 4 + 2, none⟩ = some (.int .i64 p.ref.ver) ∧ w.cell? ⟨b, o + i * 4 + 3, none⟩ = some (strA p.text)) from hc)
  have hli : (pages.length : Int) ≤ 9223372036854775000 := by omega
  obtain ⟨RES, hRES⟩ : ∃ RES, latF pages r0 false = RES := ⟨_, rfl⟩
  rw [hRES]
  have HRES := (show Hid (latF (pages.drop 0) r0 false = RES) from hRES)
  obtain ⟨t, d, v⟩ := r0
  clear hc hRES
  show Calls Tryd.prog 74 #[.pointer (some ⟨xb, 0, none⟩), .agg #[strA t, strA d, .int .i64 v]] w fun e w' => e = .returned (aggR RES) ∧ Below w.heap.size w w'
  obtain ⟨W1, hW1⟩ : ∃ W1, W1 = w.alloc (.cells #[strA t, strA d, .int .i64 v] 24) := ⟨_, rfl⟩
  have hs1 : W1.heap.size = w.heap.size + 1 := by rw [hW1]; simp
  obtain ⟨W2, hW2⟩ : ∃ W2, W2 = W1.alloc (.cells #[.string ⟨#[]⟩, .string ⟨#[]⟩, .int .i64 0] 24) := ⟨_, rfl⟩
  have HB1 : Hid (Below w.heap.size w W1) := by show Below _ _ _; rw [hW1]; exact (Below.refl _ _).alloc (Nat.le_refl _) _
  have HB2 : Hid (Below w.heap.size w W2) := by show Below _ _ _; rw [hW2]; exact HB1.out.alloc HB1.out.size _
  have HK1 : Hid (W2.heap[w.heap.size]? = some (.cells #[strA t, strA d, .int .i64 v] 24 (0, 0))) := by show _ = _; rw [hW2]; refine blk_allocN ?_ _; rw [hW1]; exact blk_newN _ _ _
  have HK2 : Hid (W2.heap[w.heap.size + 1]? = some (.cells #[.string ⟨#[]⟩, .string ⟨#[]⟩, .int .i64 0] 24 (0, 0))) := by show _ = _; rw [hW2, ← hs1]; exact blk_newN _ _ _
  have hxW : W2.cell? ⟨xb, 0, none⟩ = some (.slice a pages.length cap) := (HB2.out.cell (p := ⟨xb, 0, none⟩) hxb).trans hx
  go_enter Tryd.func74, Tryd.ntmps74
  rw [hW2, hW1] at hxW
  go_wp2
  rw [← hW1, ← hW2]
  have HS : Hid (w.heap.size ≠ w.heap.size + 1) := by show _ ≠ _; omega
  clear hxW hW1 hW2 hs1 hx
  go_loopw [5, 14] (fun f i wr => ∃ (k : Nat) (r : RfA) (F : Bool), i = .int .i64 (k : Int) ∧ k ≤ pages.length ∧ f = .bool F ∧ Hid (latF (pages.drop k) r F = RES) ∧ Hid (wr.heap[w.heap.size]? = some (.cells #[strA r.tenant, strA r.doc, .int .i64 r.ver] 24 (0, 0))) ∧ Hid (wr.heap[w.heap.size + 1]? = some (.cells #[.string ⟨#[]⟩, .string ⟨#[]⟩, .int .i64 0] 24 (0, 0))) ∧ Hid (Below w.heap.size w wr)) (fun _ i _ => pages.length - (intOf i).toNat)
  case atStart => exact ⟨0, ⟨t, d, v⟩, false, rfl, Nat.zero_le _, rfl, HRES, HK1, HK2, HB2⟩
  case round =>
    clear HRES HK1 HK2 HB1 HB2
    obtain ⟨k, r, F, rfl, hk, rfl, HL, HK1, HK2, HB⟩ := hrel
    by_cases hlt : k < pages.length
    · have hlt1 : (k : Int) < (pages.length : Int) := by omega
      obtain ⟨p, hp⟩ : ∃ p, pages[k]? = some p := ⟨_, List.getElem?_eq_getElem hlt⟩
      obtain ⟨b, o, ha, hb, p0, p1, p2, p3⟩ := HC.out k p hp
      subst ha
      have d0 : wr.cell? ⟨b, o + k * 4, none⟩ = some (strA p.ref.tenant) := (HB.out.cell (p := ⟨b, o + k * 4, none⟩) hb).trans p0
      have d1 : wr.cell? ⟨b, o + k * 4 + 1, none⟩ = some (strA p.ref.doc) := (HB.out.cell (p := ⟨b, o + k * 4 + 1, none⟩) hb).trans p1
      have d2 : wr.cell? ⟨b, o + k * 4 + 2, none⟩ = some (.int .i64 p.ref.ver) := (HB.out.cell (p := ⟨b, o + k * 4 + 2, none⟩) hb).trans p2
      have d3 : wr.cell? ⟨b, o + k * 4 + 3, none⟩ = some (strA p.text) := (HB.out.cell (p := ⟨b, o + k * 4 + 3, none⟩) hb).trans p3
      have HN := (show Hid (latF (pages.drop k) r F = if p.ref.tenant = r.tenant ∧ p.ref.doc = r.doc ∧ (F = false ∨ r.ver < p.ref.ver) then latF (pages.drop (k + 1)) p.ref true else latF (pages.drop (k + 1)) r F) from latF_next hp)
      rw [HL.out] at HN
      clear HC hp p0 p1 p2 p3 HL
      obtain ⟨⟨pt, pd, pv⟩, px⟩ := p
      obtain ⟨rt, rd, rv⟩ := r
      simp only at d0 d1 d2 d3 HN HK1
      have c0 : ∀ o, (wr.alloc o).cell? ⟨w.heap.size, 0, none⟩ = some (strA rt) := fun o => cell_blkN (blk_allocN HK1.out o) (i := 0) rfl
      have c1 : ∀ o, (wr.alloc o).cell? ⟨w.heap.size, 1, none⟩ = some (strA rd) := fun o => cell_blkN (blk_allocN HK1.out o) (i := 1) rfl
      have c2 : ∀ o, (wr.alloc o).cell? ⟨w.heap.size, 2, none⟩ = some (.int .i64 rv) := fun o => cell_blkN (blk_allocN HK1.out o) (i := 2) rfl
      have HBa : Hid (∀ o, Below w.heap.size w (wr.alloc o)) := fun o => HB.out.alloc HB.out.size o
      have HKa1 : Hid (∀ o, (wr.alloc o).heap[w.heap.size]? = some (.cells #[strA rt, strA rd, .int .i64 rv] 24 (0, 0))) := fun o => blk_allocN HK1.out o
      have HKa2 : Hid (∀ o, (wr.alloc o).heap[w.heap.size + 1]? = some (.cells #[.string ⟨#[]⟩, .string ⟨#[]⟩, .int .i64 0] 24 (0, 0))) := fun o => blk_allocN HK2.out o
      have stays : ∀ (q : ¬ (pt = rt ∧ pd = rd ∧ (F = false ∨ rv < pv))), Hid (latF (pages.drop (k + 1)) ⟨rt, rd, rv⟩ F = RES) := fun q => by show _ = _; rw [HN.out, if_neg q]
      by_cases q1 : pt = rt
      · have e1 : (pt == rt) = true := by simpa using q1
        by_cases q2 : pd = rd
        · have e2 : (pd == rd) = true := by simpa using q2
          by_cases q3 : F = false ∨ rv < pv
          · have HL2 : Hid (latF (pages.drop (k + 1)) ⟨pt, pd, pv⟩ true = RES) := by show _ = _; rw [HN.out, if_pos ⟨q1, q2, q3⟩]
            have f0 : ∀ o, (wr.alloc o).frozen? ⟨w.heap.size, 0, none⟩ = false := fun o => free_blkN (HKa1.out o) 0
            have f1 : ∀ o, (wr.alloc o).frozen? ⟨w.heap.size, 1, none⟩ = false := fun o => free_blkN (HKa1.out o) 1
            have f2 : ∀ o, (wr.alloc o).frozen? ⟨w.heap.size, 2, none⟩ = false := fun o => free_blkN (HKa1.out o) 2
            clear stays HN q1 q2 HK1 HK2 HB
            rcases Bool.eq_false_or_eq_true F with hF | hF
            · subst hF
              have q4 : rv < pv := by rcases q3 with q | q; (· cases q); (· exact q)
              clear q3
              go_wp2
              exact ⟨⟨k + 1, ⟨pt, pd, pv⟩, true, by go_num, by omega, rfl, HL2, set_blkN (set_blkN (set_blkN (HKa1.out _) 0 (strA pt)) 1 (strA pd)) 2 (.int .i64 pv), blk_setN (blk_setN (blk_setN (HKa2.out _) HS.out 0 _) HS.out 1 _) HS.out 2 _, (((HBa.out _).setCell (Nat.le_refl _) _).setCell (Nat.le_refl _) _).setCell (Nat.le_refl _) _⟩, by (simp [intOf]) <;> omega⟩
            · subst hF
              clear q3
              go_wp2
              exact ⟨⟨k + 1, ⟨pt, pd, pv⟩, true, by go_num, by omega, rfl, HL2, set_blkN (set_blkN (set_blkN (HKa1.out _) 0 (strA pt)) 1 (strA pd)) 2 (.int .i64 pv), blk_setN (blk_setN (blk_setN (HKa2.out _) HS.out 0 _) HS.out 1 _) HS.out 2 _, (((HBa.out _).setCell (Nat.le_refl _) _).setCell (Nat.le_refl _) _).setCell (Nat.le_refl _) _⟩, by (simp [intOf]) <;> omega⟩
          · have HL2 := stays (fun q => q3 q.2.2)
            have hF : F = true := by cases F; (· exact absurd (.inl rfl) q3); (· rfl)
            subst hF
            have q4 : ¬ rv < pv := fun q => q3 (.inr q)
            clear stays HN q1 q2 q3 HK1 HK2 HB
            go_wp2
            exact ⟨⟨k + 1, ⟨rt, rd, rv⟩, true, by go_num, by omega, rfl, HL2, HKa1.out _, HKa2.out _, HBa.out _⟩, by (simp [intOf]) <;> omega⟩
        · have e2 : (pd == rd) = false := by simpa using q2
          have HL2 := stays (fun q => q2 q.2.1)
          clear stays HN q1 q2 HK1 HK2 HB
          go_wp2
          exact ⟨⟨k + 1, ⟨rt, rd, rv⟩, F, by go_num, by omega, rfl, HL2, HKa1.out _, HKa2.out _, HBa.out _⟩, by (simp [intOf]) <;> omega⟩
      · have e1 : (pt == rt) = false := by simpa using q1
        have HL2 := stays (fun q => q1 q.1)
        clear stays HN q1 HK1 HK2 HB
        go_wp2
        exact ⟨⟨k + 1, ⟨rt, rd, rv⟩, F, by go_num, by omega, rfl, HL2, HKa1.out _, HKa2.out _, HBa.out _⟩, by (simp [intOf]) <;> omega⟩
    · have hlt1 : ¬ (k : Int) < (pages.length : Int) := by omega
      obtain rfl : k = pages.length := by omega
      have HR : Hid (r = RES) := by have := HL.out; rw [List.drop_length] at this; exact this
      have hr := HR.out
      subst hr
      obtain ⟨rt, rd, rv⟩ := r
      simp only at HK1
      have c0 : wr.cell? ⟨w.heap.size, 0, none⟩ = some (strA rt) := cell_blkN HK1.out (i := 0) rfl
      have c1 : wr.cell? ⟨w.heap.size, 1, none⟩ = some (strA rd) := cell_blkN HK1.out (i := 1) rfl
      have c2 : wr.cell? ⟨w.heap.size, 2, none⟩ = some (.int .i64 rv) := cell_blkN HK1.out (i := 2) rfl
      have k0 : wr.cell? ⟨w.heap.size + 1, 0, none⟩ = some (.string ⟨#[]⟩) := cell_blkN HK2.out (i := 0) rfl
      have k1 : wr.cell? ⟨w.heap.size + 1, 1, none⟩ = some (.string ⟨#[]⟩) := cell_blkN HK2.out (i := 1) rfl
      have k2 : wr.cell? ⟨w.heap.size + 1, 2, none⟩ = some (.int .i64 0) := cell_blkN HK2.out (i := 2) rfl
      have f0 : wr.frozen? ⟨w.heap.size + 1, 0, none⟩ = false := free_blkN HK2.out 0
      have f1 : wr.frozen? ⟨w.heap.size + 1, 1, none⟩ = false := free_blkN HK2.out 1
      have f2 : wr.frozen? ⟨w.heap.size + 1, 2, none⟩ = false := free_blkN HK2.out 2
      clear HL HR HC
      go_wp2
      (try simp only [Exit.inBlock, Exit.then])
      have hB3 := set_blkN (set_blkN (set_blkN HK2.out 0 (strA rt)) 1 (strA rd)) 2 (.int .i64 rv)
      have d0 := cell_blkN hB3 (i := 0) (v := strA rt) rfl
      have d1 := cell_blkN hB3 (i := 1) (v := strA rd) rfl
      have d2 := cell_blkN hB3 (i := 2) (v := .int .i64 rv) rfl
      refine bodyPost_ret (v := .agg #[strA rt, strA rd, .int .i64 rv]) ?_ rfl ⟨rfl, ?_⟩
      · rw [results_cellN rfl]
        go_simp
      · exact ((HB.out.setCell (Nat.le_succ _) _).setCell (Nat.le_succ _) _).setCell (Nat.le_succ _) _
end Go.Proofs.YtkjicdldlnefeaaDoor
