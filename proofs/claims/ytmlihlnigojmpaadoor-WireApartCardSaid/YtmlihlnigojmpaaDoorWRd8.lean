/- A letter from bytes: wire's Decode, walked. -/
import Derived.Test.YtmlihlnigojmpaaDoorWRd7
set_option linter.unusedVariables false
namespace Go.Proofs.YtmlihlnigojmpaaDoor
open Go.RowKit

set_option maxHeartbeats 1000000 in
set_option maxRecDepth 100000 in
/-- The deferred function, where reading gave up. -/
theorem caught (q : Nat) (p : Nat) (x : Value) (older : List PanicEntry) (w : World) (h : w.heap[q]? = some (.cells #[x] 37 (0, 0))) :
    CallsD Tryd.prog 36 #[.pointer (some ⟨q, 0, none⟩)] (.panicking ({ v := .iface 84 (.agg #[.int .i64 (p : Int)]), recovered := false } :: older)) w fun e u' w' =>
      e = .returned (.tuple #[]) ∧ u' = .panicking ({ v := .iface 84 (.agg #[.int .i64 (p : Int)]), recovered := true } :: older) ∧
        ∃ v, FltB w' v p ∧ w'.heap[q]? = some (.cells #[v] 37 (0, 0)) ∧ (∀ k, k ≠ q → k < w.heap.size → w'.heap[k]? = w.heap[k]?) ∧ Below q w w' := by
  refine callsD_of_wpS Tryd.func36 rfl fun c₀ cs hu => ?_
  apply wpS_seq
  apply wpS_region
  simp [wpOpsS, go_sem, recoverD, hu, Tryd.ntmps36, Exit.thenS]
  refine wpS_of_wp ?_
  have hc := sfault_any p w
  go_wp2_with (go_at_call 37; refine hc.mono ?_)
  rintro e w1 ⟨v, rfl, ⟨g, rfl, hg⟩, hb⟩
  have hq := blk_below h hb
  have hq0 := cell_blk hq (i := 0) rfl
  have hz0 := free_blk hq 0
  have hne : g ≠ q := by
    rintro rfl
    rw [hg] at hq
    cases hq
  have hs := set_blk hq 0 (.iface 68 (.pointer (some ⟨g, 0, none⟩)))
  have hqlt := lt_of_block h
  go_wp2
  refine ⟨rfl, _, rfl, .tuple #[], by simp [results, Tryd.results36], rfl, rfl, _, ⟨g, rfl, ?_⟩, hs, ?_, ?_⟩
  · rw [Below.heap_setCell _ _ _ _ (by simpa using hne)]
    exact hg
  · intro k hk hlt
    rw [Below.heap_setCell _ _ _ _ (by simpa using hk)]
    exact hb.block k hlt
  · exact below_set (hb.mono (Nat.le_of_lt hqlt)) (Nat.le_refl _)


set_option maxHeartbeats 1000000 in
set_option maxRecDepth 100000 in
/-- The deferred function, where nothing was given up. -/
theorem calm (q : Nat) (x : Value) (w : World) (h : w.heap[q]? = some (.cells #[x] 37 (0, 0))) :
    CallsD Tryd.prog 36 #[.pointer (some ⟨q, 0, none⟩)] .returning w fun e u' w' => e = .returned (.tuple #[]) ∧ u' = .returning ∧ w' = w := by
  refine callsD_of_wpS Tryd.func36 rfl fun c₀ cs hu => ?_
  apply wpS_seq
  apply wpS_region
  simp [wpOpsS, go_sem, recoverD, hu, Tryd.ntmps36, Exit.thenS]
  refine wpS_of_wp ?_
  go_wp2
  exact ⟨rfl, _, rfl, .tuple #[], by simp [results, Tryd.results36], rfl, hu, rfl⟩

def ltZ : Lt := { k := 0, f := 0, t := 0, tm := 0, i := 0, lt := 0, cm := 0, rd := 0, ok := false, es := [], sx := 0, st := 0, ns := [], da := [] }
def ltA0 : LtA := ⟨none, 0, none, 0, none, 0⟩
/-- What Decode answers. -/
def DecQ (w : World) (X : Except Nat Lt) (e : Ending) (w' : World) : Prop :=
  Below w.heap.size w w' ∧ match X with
    | .error q => ∃ v, e = .returned (.tuple #[ltV ltZ ltA0, v]) ∧ FltB w' v q
    | .ok M => ∃ A, e = .returned (.tuple #[ltV M A, .nilIface]) ∧ LtK w' w.heap.size M A

set_option maxHeartbeats 8000000 in
set_option maxRecDepth 100000 in
theorem decode_any {a : Option Addr} {len cap : Nat} {L : List UInt8} {w : World} (hs : Src w a len cap L) :
    Calls Tryd.prog 14 #[.slice a len cap] w (DecQ w (decL L)) := by
  have hmf : ∀ (fn : Fn) (first cap : Array Value) (w : World), (Instr.makeFunc fn first cap).run Tryd.prog w = .ok (.func fn first cap) w := fun _ _ _ _ => rfl
  obtain ⟨wa, hwa⟩ : ∃ wa, wa = (w.alloc (.cells #[.int .i64 0, .int .i64 0, .int .i64 0, .int .i64 0, .int .i64 0, .int .i64 0, .int .i64 0, .int .i64 0, .bool false, .slice none 0 0, .int .i64 0, .int .i64 0, .slice none 0 0, .slice none 0 0] 28)).alloc (.cells #[.nilIface] 37) := ⟨_, rfl⟩
  have hba : Below w.heap.size w wa := by rw [hwa]; exact ((Below.refl _ _).alloc (Nat.le_refl _) _).alloc (by simp) _
  have hsz : wa.heap.size = w.heap.size + 2 := by rw [hwa]; simp
  have hc := rletter (a := a) (len := len) (cap := cap) (L := L) (w := wa) ⟨hs.row.below hba, hs.hm, hs.hcap, hs.hcap2⟩
  have hqa : wa.heap[w.heap.size + 1]? = some (.cells #[.nilIface] 37 (0, 0)) := by
    have := new_blk (w.alloc (.cells #[.int .i64 0, .int .i64 0, .int .i64 0, .int .i64 0, .int .i64 0, .int .i64 0, .int .i64 0, .int .i64 0, .bool false, .slice none 0 0, .int .i64 0, .int .i64 0, .slice none 0 0, .slice none 0 0] 28)) #[.nilIface] 37
    rw [World.size_alloc] at this
    rw [hwa]
    exact this
  have hsa : wa.heap[w.heap.size]? = some (.cells #[.int .i64 0, .int .i64 0, .int .i64 0, .int .i64 0, .int .i64 0, .int .i64 0, .int .i64 0, .int .i64 0, .bool false, .slice none 0 0, .int .i64 0, .int .i64 0, .slice none 0 0, .slice none 0 0] 28 (0, 0)) := by
    have h1 := new_blk w #[.int .i64 0, .int .i64 0, .int .i64 0, .int .i64 0, .int .i64 0, .int .i64 0, .int .i64 0, .int .i64 0, .bool false, .slice none 0 0, .int .i64 0, .int .i64 0, .slice none 0 0, .slice none 0 0] 28
    rw [hwa]
    exact blk_below h1 ((Below.refl _ _).alloc (Nat.le_refl _) _)
  obtain ⟨X, hX⟩ : ∃ X, decL L = X := ⟨_, rfl⟩
  rw [hX] at hc ⊢
  clear hs hX
  go_enter_defers Tryd.func14, Tryd.ntmps14
  cases X with
  | error q =>
    go_upto_region 2 with fail
    rw [← hwa]
    clear hwa
    go_wp2_with (go_at_call 38; refine hc.mono ?_)
    rintro e w1 ⟨hb1, he⟩
    have he' : e = gaveUp q := he
    subst he'
    go_wp2
    refine leaves_cons (f := 36) (args := #[.pointer (some ⟨w.heap.size + 1, 0, none⟩)]) (by simp) (by simp [go_sem]) ?_
    refine (caught (w.heap.size + 1) q .nilIface [] w1 (blk_below hqa hb1)).mono ?_
    rintro e u' w2 ⟨rfl, rfl, v, hv, hq2, hk2, hb2⟩
    have hs2 : w2.heap[w.heap.size]? = some (.cells #[.int .i64 0, .int .i64 0, .int .i64 0, .int .i64 0, .int .i64 0, .int .i64 0, .int .i64 0, .int .i64 0, .bool false, .slice none 0 0, .int .i64 0, .int .i64 0, .slice none 0 0, .slice none 0 0] 28 (0, 0)) := by
      rw [hk2 _ (by omega) (by have := lt_of_block (blk_below hsa hb1); omega)]
      exact blk_below hsa hb1
    have e0 := cell_blk hs2 (i := 0) (v := .int .i64 0) rfl
    have e1 := cell_blk hs2 (i := 1) (v := .int .i64 0) rfl
    have e2 := cell_blk hs2 (i := 2) (v := .int .i64 0) rfl
    have e3 := cell_blk hs2 (i := 3) (v := .int .i64 0) rfl
    have e4 := cell_blk hs2 (i := 4) (v := .int .i64 0) rfl
    have e5 := cell_blk hs2 (i := 5) (v := .int .i64 0) rfl
    have e6 := cell_blk hs2 (i := 6) (v := .int .i64 0) rfl
    have e7 := cell_blk hs2 (i := 7) (v := .int .i64 0) rfl
    have e8 := cell_blk hs2 (i := 8) (v := .bool false) rfl
    have e9 := cell_blk hs2 (i := 9) (v := .slice none 0 0) rfl
    have e10 := cell_blk hs2 (i := 10) (v := .int .i64 0) rfl
    have e11 := cell_blk hs2 (i := 11) (v := .int .i64 0) rfl
    have e12 := cell_blk hs2 (i := 12) (v := .slice none 0 0) rfl
    have e13 := cell_blk hs2 (i := 13) (v := .slice none 0 0) rfl
    have e14 := cell_blk hq2 (i := 0) rfl
    have hbz : Below w.heap.size w w2 := (hba.trans (hb1.mono hba.size)).trans (hb2.mono (by omega))
    show Leaves _ _ _ _ _ _ _
    refine ⟨.tuple #[ltV ltZ ltA0, v], ?_, hbz, v, rfl, hv⟩
    unfold ltV ltC ltZ ltA0
    simp [results, Tryd.results14, go_sem, e0, e1, e2, e3, e4, e5, e6, e7, e8, e9, e10, e11, e12, e13, e14]
  | ok M =>
    go_upto_region 2 with fail
    rw [← hwa]
    clear hwa
    go_wp2_with (go_at_call 38; refine hc.mono ?_)
    rintro e w1 ⟨hb1, he⟩
    obtain ⟨A, he', hlk⟩ := he
    subst he'
    have hz1 := blk_below hsa hb1
    have hq1 := blk_below hqa hb1
    have HV : Hid (LtK w1 (w.heap.size + 2) M A ∧ Below w.heap.size w w1 ∧ w.heap.size + 2 ≤ w1.heap.size ∧ w1.heap[w.heap.size + 1]? = some (.cells #[.nilIface] 37 (0, 0)) ∧ w1.heap[w.heap.size]? = some (.cells #[.int .i64 0, .int .i64 0, .int .i64 0, .int .i64 0, .int .i64 0, .int .i64 0, .int .i64 0, .int .i64 0, .bool false, .slice none 0 0, .int .i64 0, .int .i64 0, .slice none 0 0, .slice none 0 0] 28 (0, 0))) := ⟨hsz ▸ hlk, hba.trans (hb1.mono hba.size), by have := hb1.size; omega, hq1, hz1⟩
    have v0 : w1.cell? ⟨w.heap.size, 0, none⟩ = some (.int .i64 0) := pcell hz1 rfl
    have f0 : w1.frozen? ⟨w.heap.size, 0, none⟩ = false := free_blk hz1 0
    have v1 : w1.cell? ⟨w.heap.size, 1, none⟩ = some (.int .i64 0) := pcell hz1 rfl
    have f1 : w1.frozen? ⟨w.heap.size, 1, none⟩ = false := free_blk hz1 1
    have v2 : w1.cell? ⟨w.heap.size, 2, none⟩ = some (.int .i64 0) := pcell hz1 rfl
    have f2 : w1.frozen? ⟨w.heap.size, 2, none⟩ = false := free_blk hz1 2
    have v3 : w1.cell? ⟨w.heap.size, 3, none⟩ = some (.int .i64 0) := pcell hz1 rfl
    have f3 : w1.frozen? ⟨w.heap.size, 3, none⟩ = false := free_blk hz1 3
    have v4 : w1.cell? ⟨w.heap.size, 4, none⟩ = some (.int .i64 0) := pcell hz1 rfl
    have f4 : w1.frozen? ⟨w.heap.size, 4, none⟩ = false := free_blk hz1 4
    have v5 : w1.cell? ⟨w.heap.size, 5, none⟩ = some (.int .i64 0) := pcell hz1 rfl
    have f5 : w1.frozen? ⟨w.heap.size, 5, none⟩ = false := free_blk hz1 5
    have v6 : w1.cell? ⟨w.heap.size, 6, none⟩ = some (.int .i64 0) := pcell hz1 rfl
    have f6 : w1.frozen? ⟨w.heap.size, 6, none⟩ = false := free_blk hz1 6
    have v7 : w1.cell? ⟨w.heap.size, 7, none⟩ = some (.int .i64 0) := pcell hz1 rfl
    have f7 : w1.frozen? ⟨w.heap.size, 7, none⟩ = false := free_blk hz1 7
    have v8 : w1.cell? ⟨w.heap.size, 8, none⟩ = some (.bool false) := pcell hz1 rfl
    have f8 : w1.frozen? ⟨w.heap.size, 8, none⟩ = false := free_blk hz1 8
    have v9 : w1.cell? ⟨w.heap.size, 9, none⟩ = some (.slice none 0 0) := pcell hz1 rfl
    have f9 : w1.frozen? ⟨w.heap.size, 9, none⟩ = false := free_blk hz1 9
    have v10 : w1.cell? ⟨w.heap.size, 10, none⟩ = some (.int .i64 0) := pcell hz1 rfl
    have f10 : w1.frozen? ⟨w.heap.size, 10, none⟩ = false := free_blk hz1 10
    have v11 : w1.cell? ⟨w.heap.size, 11, none⟩ = some (.int .i64 0) := pcell hz1 rfl
    have f11 : w1.frozen? ⟨w.heap.size, 11, none⟩ = false := free_blk hz1 11
    have v12 : w1.cell? ⟨w.heap.size, 12, none⟩ = some (.slice none 0 0) := pcell hz1 rfl
    have f12 : w1.frozen? ⟨w.heap.size, 12, none⟩ = false := free_blk hz1 12
    have v13 : w1.cell? ⟨w.heap.size, 13, none⟩ = some (.slice none 0 0) := pcell hz1 rfl
    have f13 : w1.frozen? ⟨w.heap.size, 13, none⟩ = false := free_blk hz1 13
    have v14 : w1.cell? ⟨w.heap.size + 1, 0, none⟩ = some .nilIface := pcell hq1 rfl
    have f14 : w1.frozen? ⟨w.heap.size + 1, 0, none⟩ = false := free_blk hq1 0
    clear hc hb1 hlk hz1 hq1 hqa hsa hba
    unfold ltV
    go_wp2
    obtain ⟨w2, hw2⟩ : ∃ w2, w2 = ((((((((((((((w1.setCell ⟨w.heap.size, 0, none⟩ (.int .i64 M.k)).setCell ⟨w.heap.size, 1, none⟩ (.int .i64 M.f)).setCell ⟨w.heap.size, 2, none⟩ (.int .i64 M.t)).setCell ⟨w.heap.size, 3, none⟩ (.int .i64 M.tm)).setCell ⟨w.heap.size, 4, none⟩ (.int .i64 M.i)).setCell ⟨w.heap.size, 5, none⟩ (.int .i64 M.lt)).setCell ⟨w.heap.size, 6, none⟩ (.int .i64 M.cm)).setCell ⟨w.heap.size, 7, none⟩ (.int .i64 M.rd)).setCell ⟨w.heap.size, 8, none⟩ (.bool M.ok)).setCell ⟨w.heap.size, 9, none⟩ (.slice A.ea M.es.length A.ec)).setCell ⟨w.heap.size, 10, none⟩ (.int .i64 M.sx)).setCell ⟨w.heap.size, 11, none⟩ (.int .i64 M.st)).setCell ⟨w.heap.size, 12, none⟩ (.slice A.na M.ns.length A.nc)).setCell ⟨w.heap.size, 13, none⟩ (.slice A.da M.da.length A.dc)) := ⟨_, rfl⟩
    have hs14 := set14 (.int .i64 M.k) (.int .i64 M.f) (.int .i64 M.t) (.int .i64 M.tm) (.int .i64 M.i) (.int .i64 M.lt) (.int .i64 M.cm) (.int .i64 M.rd) (.bool M.ok) (.slice A.ea M.es.length A.ec) (.int .i64 M.sx) (.int .i64 M.st) (.slice A.na M.ns.length A.nc) (.slice A.da M.da.length A.dc) HV.out.2.2.2.2
    rw [← hw2] at hs14
    have hf2 : Fx (fun k => k = w.heap.size) w1 w2 := by
      rw [hw2]
      exact Fx.set (S := fun k => k = w.heap.size) (Fx.set (S := fun k => k = w.heap.size) (Fx.set (S := fun k => k = w.heap.size) (Fx.set (S := fun k => k = w.heap.size) (Fx.set (S := fun k => k = w.heap.size) (Fx.set (S := fun k => k = w.heap.size) (Fx.set (S := fun k => k = w.heap.size) (Fx.set (S := fun k => k = w.heap.size) (Fx.set (S := fun k => k = w.heap.size) (Fx.set (S := fun k => k = w.heap.size) (Fx.set (S := fun k => k = w.heap.size) (Fx.set (S := fun k => k = w.heap.size) (Fx.set (S := fun k => k = w.heap.size) (Fx.set (S := fun k => k = w.heap.size) (Fx.refl _ w1) rfl _ _) rfl _ _) rfl _ _) rfl _ _) rfl _ _) rfl _ _) rfl _ _) rfl _ _) rfl _ _) rfl _ _) rfl _ _) rfl _ _) rfl _ _) rfl _ _
    have hq2 : w2.heap[w.heap.size + 1]? = some (.cells #[.nilIface] 37 (0, 0)) := (hf2.block (by have := HV.out.2.2.1; omega) (by omega)).trans HV.out.2.2.2.1
    rw [← hw2]
    clear hw2
    obtain ⟨w3, hw3⟩ : ∃ w3, w3 = w2.setCell ⟨w.heap.size + 1, 0, none⟩ .nilIface := ⟨_, rfl⟩
    have hf3 : Fx (fun k => k = w.heap.size + 1) w2 w3 := by rw [hw3]; exact Fx.set (S := fun k => k = w.heap.size + 1) (Fx.refl _ w2) rfl 0 _
    have hq3 : w3.heap[w.heap.size + 1]? = some (.cells #[.nilIface] 37 (0, 0)) := by rw [hw3]; exact set_blk hq2 0 .nilIface
    have hs3 := (hf3.block (Array.getElem?_eq_some_iff.1 hs14).1 (by omega)).trans hs14
    rw [← hw3]
    clear hw3
    refine leaves_cons (f := 36) (args := #[.pointer (some ⟨w.heap.size + 1, 0, none⟩)]) (by simp) (by simp [go_sem]) ?_
    refine (calm (w.heap.size + 1) .nilIface w3 hq3).mono ?_
    rintro e u' w4 ⟨rfl, rfl, hw4⟩
    subst hw4
    have e0 := cell_blk hs3 (i := 0) (v := .int .i64 M.k) rfl
    have e1 := cell_blk hs3 (i := 1) (v := .int .i64 M.f) rfl
    have e2 := cell_blk hs3 (i := 2) (v := .int .i64 M.t) rfl
    have e3 := cell_blk hs3 (i := 3) (v := .int .i64 M.tm) rfl
    have e4 := cell_blk hs3 (i := 4) (v := .int .i64 M.i) rfl
    have e5 := cell_blk hs3 (i := 5) (v := .int .i64 M.lt) rfl
    have e6 := cell_blk hs3 (i := 6) (v := .int .i64 M.cm) rfl
    have e7 := cell_blk hs3 (i := 7) (v := .int .i64 M.rd) rfl
    have e8 := cell_blk hs3 (i := 8) (v := .bool M.ok) rfl
    have e9 := cell_blk hs3 (i := 9) (v := .slice A.ea M.es.length A.ec) rfl
    have e10 := cell_blk hs3 (i := 10) (v := .int .i64 M.sx) rfl
    have e11 := cell_blk hs3 (i := 11) (v := .int .i64 M.st) rfl
    have e12 := cell_blk hs3 (i := 12) (v := .slice A.na M.ns.length A.nc) rfl
    have e13 := cell_blk hs3 (i := 13) (v := .slice A.da M.da.length A.dc) rfl
    have e14 := cell_blk hq3 (i := 0) rfl
    have hbz : Below w.heap.size w w4 := (HV.out.2.1.trans (hf2.below HV.out.2.1.size (fun k hk => by omega))).trans (hf3.below (by have := HV.out.2.2.1; have := hf2.size; omega) (fun k hk => by omega))
    have hlk4 : LtK w4 w.heap.size M A := ((HV.out.1.keep hf2 (fun k hk => by omega)).keep hf3 (fun k hk => by omega)).lower (by omega)
    show Leaves _ _ _ _ _ _ _
    refine ⟨.tuple #[ltV M A, .nilIface], ?_, hbz, A, rfl, hlk4⟩
    unfold ltV ltC
    simp [results, Tryd.results14, go_sem, e0, e1, e2, e3, e4, e5, e6, e7, e8, e9, e10, e11, e12, e13, e14]
end Go.Proofs.YtmlihlnigojmpaaDoor
