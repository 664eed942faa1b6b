/- A letter that was handed in, opened. -/
import Derived.Test.YtmlihlnigojmpaaDoorWSame
import Derived.Test.YtmlihlnigojmpaaDoorWLaid
import Derived.Deep.Slices
set_option linter.unusedVariables false
namespace Go.Proofs.YtmlihlnigojmpaaDoor
open Go.ChangeShapes Go.WideShapes Go.ChangeAt Go.RowKit

theorem lweights_all {H : Type} {P : Program} {e : TypeId} : ∀ {ds : List (DataW H)} {d : DataW H}, d ∈ ds → ∀ n ∈ d.weights P e, n ∈ DataW.weightsAll P e ds
  | x :: r, d, hd, n, hn => by
    simp only [DataW.weightsAll, List.mem_append]
    rcases List.mem_cons.1 hd with rfl | h
    · exact Or.inl hn
    · exact Or.inr (lweights_all h n hn)
theorem llist4 {α : Type} : ∀ {l : List α}, l.length = 4 → ∃ a0 a1 a2 a3, l = [a0, a1, a2, a3]
  | [a0, a1, a2, a3], _ => ⟨a0, a1, a2, a3, rfl⟩
  | [], h => by simp at h
  | [_], h => by simp at h
  | [_, _], h => by simp at h
  | [_, _, _], h => by simp at h
  | _ :: _ :: _ :: _ :: _ :: _, h => by simp at h
theorem llist5 {α : Type} : ∀ {l : List α}, l.length = 5 → ∃ a0 a1 a2 a3 a4, l = [a0, a1, a2, a3, a4]
  | [a0, a1, a2, a3, a4], _ => ⟨a0, a1, a2, a3, a4, rfl⟩
  | [], h => by simp at h
  | [_], h => by simp at h
  | [_, _], h => by simp at h
  | [_, _, _], h => by simp at h
  | [_, _, _, _], h => by simp at h
  | _ :: _ :: _ :: _ :: _ :: _ :: _, h => by simp at h
theorem llist11 {α : Type} : ∀ {l : List α}, l.length = 11 → ∃ a0 a1 a2 a3 a4 a5 a6 a7 a8 a9 a10, l = [a0, a1, a2, a3, a4, a5, a6, a7, a8, a9, a10]
  | [a0, a1, a2, a3, a4, a5, a6, a7, a8, a9, a10], _ => ⟨a0, a1, a2, a3, a4, a5, a6, a7, a8, a9, a10, rfl⟩
  | [], h => by simp at h
  | [_], h => by simp at h
  | [_, _], h => by simp at h
  | [_, _, _], h => by simp at h
  | [_, _, _, _], h => by simp at h
  | [_, _, _, _, _], h => by simp at h
  | [_, _, _, _, _, _], h => by simp at h
  | [_, _, _, _, _, _, _], h => by simp at h
  | [_, _, _, _, _, _, _, _], h => by simp at h
  | [_, _, _, _, _, _, _, _, _], h => by simp at h
  | [_, _, _, _, _, _, _, _, _, _], h => by simp at h
  | _ :: _ :: _ :: _ :: _ :: _ :: _ :: _ :: _ :: _ :: _ :: _ :: _, h => by simp at h
theorem llist14 {α : Type} : ∀ {l : List α}, l.length = 14 → ∃ a0 a1 a2 a3 a4 a5 a6 a7 a8 a9 a10 a11 a12 a13, l = [a0, a1, a2, a3, a4, a5, a6, a7, a8, a9, a10, a11, a12, a13]
  | [a0, a1, a2, a3, a4, a5, a6, a7, a8, a9, a10, a11, a12, a13], _ => ⟨a0, a1, a2, a3, a4, a5, a6, a7, a8, a9, a10, a11, a12, a13, rfl⟩
  | [], h => by simp at h
  | [_], h => by simp at h
  | [_, _], h => by simp at h
  | [_, _, _], h => by simp at h
  | [_, _, _, _], h => by simp at h
  | [_, _, _, _, _], h => by simp at h
  | [_, _, _, _, _, _], h => by simp at h
  | [_, _, _, _, _, _, _], h => by simp at h
  | [_, _, _, _, _, _, _, _], h => by simp at h
  | [_, _, _, _, _, _, _, _, _], h => by simp at h
  | [_, _, _, _, _, _, _, _, _, _], h => by simp at h
  | [_, _, _, _, _, _, _, _, _, _, _], h => by simp at h
  | [_, _, _, _, _, _, _, _, _, _, _, _], h => by simp at h
  | [_, _, _, _, _, _, _, _, _, _, _, _, _], h => by simp at h
  | _ :: _ :: _ :: _ :: _ :: _ :: _ :: _ :: _ :: _ :: _ :: _ :: _ :: _ :: _ :: _, h => by simp at h
theorem lund_ent : ∃ f0 f1 f2 f3 f4 : Field, Tryd.prog.underlying 45 = some (.struct #[f0, f1, f2, f3, f4]) ∧ f0.offset = 0 ∧ f1.offset = 1 ∧ f2.offset = 2 ∧ f3.offset = 3 ∧ f4.offset = 4 ∧ f0.type = 3 ∧ f1.type = 3 ∧ f2.type = 3 ∧ f3.type = 24 ∧ f4.type = 23 := ⟨_, _, _, _, _, Tryd.underlying45, rfl, rfl, rfl, rfl, rfl, rfl, rfl, rfl, rfl, rfl⟩
theorem lund_snap : ∃ f0 f1 f2 f3 : Field, Tryd.prog.underlying 26 = some (.struct #[f0, f1, f2, f3]) ∧ f0.offset = 0 ∧ f1.offset = 1 ∧ f2.offset = 2 ∧ f3.offset = 3 ∧ f0.type = 3 ∧ f1.type = 3 ∧ f2.type = 23 ∧ f3.type = 24 := ⟨_, _, _, _, Tryd.underlying26, rfl, rfl, rfl, rfl, rfl, rfl, rfl, rfl⟩
theorem lund_let : ∃ f0 f1 f2 f3 f4 f5 f6 f7 f8 f9 f10 : Field, Tryd.prog.underlying 28 = some (.struct #[f0, f1, f2, f3, f4, f5, f6, f7, f8, f9, f10]) ∧ f0.offset = 0 ∧ f1.offset = 1 ∧ f2.offset = 2 ∧ f3.offset = 3 ∧ f4.offset = 4 ∧ f5.offset = 5 ∧ f6.offset = 6 ∧ f7.offset = 7 ∧ f8.offset = 8 ∧ f9.offset = 9 ∧ f10.offset = 10 ∧ f0.type = 3 ∧ f1.type = 3 ∧ f2.type = 3 ∧ f3.type = 3 ∧ f4.type = 3 ∧ f5.type = 3 ∧ f6.type = 3 ∧ f7.type = 3 ∧ f8.type = 4 ∧ f9.type = 22 ∧ f10.type = 26 := ⟨_, _, _, _, _, _, _, _, _, _, _, Tryd.underlying28, rfl, rfl, rfl, rfl, rfl, rfl, rfl, rfl, rfl, rfl, rfl, rfl, rfl, rfl, rfl, rfl, rfl, rfl, rfl, rfl, rfl, rfl⟩
theorem lcells_ent : Tryd.prog.cellsOf 45 = 5 := by kernel_rfl
theorem lcells_snap : Tryd.prog.cellsOf 26 = 4 := by kernel_rfl
theorem lcells_let : Tryd.prog.cellsOf 28 = 14 := by kernel_rfl
theorem lcells_int : Tryd.prog.cellsOf 3 = 1 := by kernel_rfl
theorem lcells_bool : Tryd.prog.cellsOf 4 = 1 := by kernel_rfl
theorem lcells_by : Tryd.prog.cellsOf 24 = 1 := by kernel_rfl
theorem lcells_ints : Tryd.prog.cellsOf 23 = 1 := by kernel_rfl
theorem lcells_ents : Tryd.prog.cellsOf 22 = 1 := by kernel_rfl
theorem ladd_off (b off i : Nat) : (⟨b, off, none⟩ : Addr).add i = ⟨b, off + i, none⟩ := by unfold Addr.add; split <;> simp_all
instance : Inhabited En := ⟨⟨0, 0, 0, [], []⟩⟩
theorem hrb17 : reachBytes ≤ 140737488355328 := by decide

/-- A row of numbers. -/
theorem open_nodes {H : Type} {enc : TypeId × Value → H} {W : World} {base fuel : Nat} {a : Option Addr} {len cap : Nat} {x : DataW H × List MemPlace}
    (h : DataW.trod enc Tryd.prog W base (fun _ => true) true fuel 23 [.slice a len cap] = some x) (hw : ∀ n ∈ DataW.weights Tryd.prog 23 x.1, n ≤ reachBytes) : ∃ zs : List Int, zs.length = len ∧ NRow W a zs ∧ len ≤ 140737488355328 := by
  have hrb := hrb17
  rcases open_ints Tryd.underlying23 Tryd.underlying3 (by kernel_rfl) h with ⟨hcs, _⟩ | ⟨y, l, c, zs, hcs, _, hl, hm, hz, hx, hcell, hwz⟩
  · simp at hcs
    obtain ⟨rfl, rfl, rfl⟩ := hcs
    exact ⟨[], rfl, fun j z hj => by simp at hj, by omega⟩
  · simp at hcs
    obtain ⟨rfl, rfl, rfl⟩ := hcs
    have hz' : zs.length = cap := by simpa using hz
    have hd : x.1 = .slice (lits .i64 (zs.take len)) (lits .i64 (zs.drop len)) := by rw [hx]
    have hlen : (zs.take len).length = len := by rw [List.length_take]; omega
    refine ⟨zs.take len, hlen, fun j z hj => ?_, ?_⟩
    · have hjl : j < len := by have := (List.getElem?_eq_some_iff.1 hj).1; omega
      have h1 := hcell j (by omega)
      have h2 : zs.getD j 0 = z := by
        rw [List.getElem?_take, if_pos hjl] at hj
        rw [List.getD_eq_getElem?_getD, hj]
        rfl
      rw [h2] at h1
      have h0 := hcell 0 (by omega)
      obtain ⟨g, off, spot⟩ := y
      have hspot : spot = none := by simpa [Addr.add] using World.cell?_spot h0
      subst hspot
      rw [ladd_off] at h1
      exact ⟨g, off, rfl, h1⟩
    · have hb : Tryd.prog.bytesOf 3 = 8 := by kernel_rfl
      have := hw (((lits .i64 (zs.take len) : List (DataW H)).length + (lits .i64 (zs.drop len) : List (DataW H)).length) * 8) (by
        rw [hd]
        simp [DataW.weights, Tryd.underlying23, hb])
      simp [lits] at this
      omega
/-- A row of bytes. -/
theorem open_data {H : Type} {enc : TypeId × Value → H} {W : World} {base fuel : Nat} {a : Option Addr} {len cap : Nat} {x : DataW H × List MemPlace}
    (h : DataW.trod enc Tryd.prog W base (fun _ => true) true fuel 24 [.slice a len cap] = some x) (hw : ∀ n ∈ DataW.weights Tryd.prog 24 x.1, n ≤ reachBytes) : ∃ l, BRow W a len cap l ∧ len ≤ cap ∧ len ≤ 140737488355328 := by
  have hrb := hrb17
  obtain ⟨l, hl, _⟩ := open_bytes (x := x) h
  have hc := caps_bytes (x := x) h
  refine ⟨l, hl, hc.1, ?_⟩
  rcases open_ints Tryd.underlying24 Tryd.underlying5 (by kernel_rfl) h with ⟨hcs, _⟩ | ⟨y, l', c, zs, hcs, _, hl', hm, hz, hx, hcell, hwz⟩
  · simp at hcs
    omega
  · simp at hcs
    obtain ⟨rfl, rfl, rfl⟩ := hcs
    have hz' : zs.length = cap := by simpa using hz
    have hd : x.1 = .slice (lits .u8 (zs.take len)) (lits .u8 (zs.drop len)) := by rw [hx]
    have hb : Tryd.prog.bytesOf 5 = 1 := by kernel_rfl
    have := hw ((lits .u8 (zs.take len) : List (DataW H)).length + (lits .u8 (zs.drop len) : List (DataW H)).length) (by
      rw [hd]
      simp [DataW.weights, Tryd.underlying24, hb])
    simp [lits] at this
    omega
theorem slice_of {H : Type} {enc : TypeId × Value → H} {w : World} {base fuel : Nat} {t e : TypeId} {v : Value} {x : DataW H × List MemPlace} (ht : Tryd.prog.underlying t = some (.slice e))
    (h : DataW.trod enc Tryd.prog w base (fun _ => true) true fuel t [v] = some x) : ∃ a n c, v = .slice a n c := by
  rcases Go.Deep.open_slice ht h with ⟨hq, _⟩ | ⟨q0, ql, qc, _, _, _, _, hq, _⟩
  · cases hq; exact ⟨_, _, _, rfl⟩
  · cases hq; exact ⟨_, _, _, rfl⟩

set_option maxRecDepth 20000 in
theorem open_ents {H : Type} {enc : TypeId × Value → H} {w : World} {base fuel : Nat} {a : Option Addr} {len cap : Nat} {x : DataW H × List MemPlace}
    (h : DataW.trod enc Tryd.prog w base (fun _ => true) true fuel 22 [.slice a len cap] = some x) (hw : ∀ n ∈ x.1.weights Tryd.prog 22, n ≤ reachBytes) :
    ∃ es : List En, es.length = len ∧ EnRow w a es ∧ len ≤ 140737488355328 := by
  have hrb := hrb17
  rcases Go.Deep.open_slice Tryd.underlying22 h with ⟨hcs, _⟩ | ⟨x0, l, c, m, n, D, Pl, hcs, hb, hl, hm, hmm, hx, hel⟩
  · cases hcs
    exact ⟨[], rfl, fun j e hj => by simp at hj, by omega⟩
  · cases hcs
    have hlm : len ≤ m := by rw [hmm]; exact hl
    have hlen : len ≤ 140737488355328 := by
      have hb72 : Tryd.prog.bytesOf 45 = 72 := by kernel_rfl
      have := hw ((((List.range len).map D).length + ((List.range (m - len)).map fun j => D (len + j)).length) * 72) (by
        rw [hx]
        simp only [DataW.weights, Tryd.underlying22, hb72]
        exact List.mem_cons_self)
      simp at this
      omega
    obtain ⟨f0, f1, f2, f3, f4, hu, o0, o1, o2, o3, o4, t0, t1, t2, t3, t4⟩ := lund_ent
    by_cases h00 : len = 0
    · subst h00
      exact ⟨[], rfl, fun j e hj => by simp at hj, by omega⟩
    · obtain ⟨b, off, spot⟩ := x0
      have hspot : spot = none := by
        obtain ⟨cs', h1, h2⟩ := hel 0 (by omega)
        rw [lcells_ent] at h1
        obtain ⟨_, hlen, hcell⟩ := World.cells?_some h1
        obtain ⟨v0, v1, v2, v3, v4, rfl⟩ := llist5 hlen
        have hc : w.cell? (((⟨b, off, spot⟩ : Addr).add (0 * 5)).add 0) = some v0 := hcell 0 (by omega)
        have := World.cell?_spot hc
        simpa [Addr.add] using this
      subst hspot
      have each : ∀ i, i < len → ∃ e : En, ∃ da dc na nc, EnAt w b (off + i * 5) e da dc na nc := by
        intro i hi
        obtain ⟨cs', h1, h2⟩ := hel i (by omega)
        rw [lcells_ent] at h1
        obtain ⟨_, hlen, hcell⟩ := World.cells?_some h1
        obtain ⟨xs, k, hk, hxy, _, hxl, hf⟩ := DataW.trod_struct hu h2
        obtain ⟨y0, y1, y2, y3, y4, rfl⟩ := llist5 (show xs.length = 5 from hxl)
        obtain ⟨v0, v1, v2, v3, v4, rfl⟩ := llist5 hlen
        have g0 := hf 0 f0 rfl
        have g1 := hf 1 f1 rfl
        have g2 := hf 2 f2 rfl
        have g3 := hf 3 f3 rfl
        have g4 := hf 4 f4 rfl
        simp [o0, o1, o2, o3, o4, t0, t1, t2, t3, t4, lcells_int, lcells_by, lcells_ints] at g0 g1 g2 g3 g4
        obtain ⟨z0, e0, r0, w0'⟩ := DataW.trod_int Tryd.underlying3 g0
        obtain ⟨z1, e1, r1, w1'⟩ := DataW.trod_int Tryd.underlying3 g1
        obtain ⟨z2, e2, r2, w2'⟩ := DataW.trod_int Tryd.underlying3 g2
        cases e0
        cases e1
        cases e2
        subst r0
        subst r1
        subst r2
        have c0 := hcell 0 (by omega)
        have c1 := hcell 1 (by omega)
        have c2 := hcell 2 (by omega)
        have c3 := hcell 3 (by omega)
        have c4 := hcell 4 (by omega)
        rw [Go.Deep.add_add, ladd_off] at c0 c1 c2 c3 c4
        simp only [Prod.mk.injEq] at hxy
        have hD : D i = .agg [.lit (.int .i64 z0), .lit (.int .i64 z1), .lit (.int .i64 z2), y3.1, y4.1] := by simpa using hxy.1
        have hmem : D i ∈ (List.range len).map D := List.mem_map_of_mem (List.mem_range.2 hi)
        have hwt : ∀ z, z ∈ (D i).weights Tryd.prog 45 → z ≤ reachBytes := fun z hz => by
          refine hw z ?_
          rw [hx]
          simp only [DataW.weights, Tryd.underlying22]
          exact List.mem_cons_of_mem _ (List.mem_append_left _ (lweights_all hmem z hz))
        have hws : (D i).weights Tryd.prog 45 = y3.1.weights Tryd.prog 24 ++ (y4.1.weights Tryd.prog 23 ++ []) := by
          rw [hD]
          simp [DataW.weights, hu, DataW.weightsEach, t0, t1, t2, t3, t4]
        rw [hws] at hwt
        obtain ⟨da, dn, dc, hv3⟩ := slice_of Tryd.underlying24 g3
        subst hv3
        obtain ⟨na, nn, nc, hv4⟩ := slice_of Tryd.underlying23 g4
        subst hv4
        obtain ⟨dl, hrow, hcap, hlen'⟩ := open_data (x := y3) g3 (fun z hz => hwt z (by simp [hz]))
        obtain ⟨zs, hzl, hnod, hnl⟩ := open_nodes (x := y4) g4 (fun z hz => hwt z (by simp [hz]))
        have hdl := hrow.1
        subst hdl
        subst hzl
        refine ⟨⟨z0, z1, z2, dl, zs⟩, da, dc, na, nc, { c0 := ?_, c1 := ?_, c2 := ?_, c3 := ?_, c4 := ?_, row := hrow, nod := hnod, dl := hlen', nl := hnl, ri := int_range w0', rt := int_range w1', rk := int_range w2' }⟩
        · simpa using c0
        · rw [Nat.add_assoc]; simpa using c1
        · rw [Nat.add_assoc]; simpa using c2
        · rw [Nat.add_assoc]; simpa using c3
        · rw [Nat.add_assoc]; simpa using c4
      obtain ⟨E, hE⟩ := Go.Deep.choose_lt each
      refine ⟨(List.range len).map E, by simp, fun j e hj => ?_, hlen⟩
      have hjl : j < len := by have := (List.getElem?_eq_some_iff.1 hj).1; simpa using this
      have he : E j = e := by
        simp [hjl] at hj
        exact hj
      subst he
      obtain ⟨da, dc, na, nc, hat⟩ := hE j hjl
      exact ⟨b, off, da, dc, na, nc, rfl, hat⟩

set_option maxRecDepth 20000 in
theorem open_letter {H : Type} {enc : TypeId × Value → H} {w : World} {base : Nat} {r : Reach} {b0 : Nat} {v : Value} {d : DataW H} {p : List MemPlace}
    (hv : Value.okWide Tryd.prog w r b0 28 v) (h : DataW.Trod enc Tryd.prog w base (fun _ => true) true 28 v d p) (hw : ∀ n ∈ d.weights Tryd.prog 28, n ≤ reachBytes) : ∃ M A, v = ltV M A ∧ LtW w M A := by
  obtain ⟨f0, f1, f2, f3, f4, f5, f6, f7, f8, f9, f10, hu, o0, o1, o2, o3, o4, o5, o6, o7, o8, o9, o10, t0, t1, t2, t3, t4, t5, t6, t7, t8, t9, t10⟩ := lund_let
  obtain ⟨F0, F1, F2, F3, hus, q0, q1, q2, q3, s0, s1, s2, s3⟩ := lund_snap
  obtain ⟨cs, rfl, hsz⟩ := okWide_struct hu hv
  obtain ⟨fuel, hf⟩ := h
  have hl : cs.toList.length = 14 := by rw [Array.length_toList, hsz]; exact lcells_let
  obtain ⟨v0, v1, v2, v3, v4, v5, v6, v7, v8, v9, v10, v11, v12, v13, hcs⟩ := llist14 hl
  obtain rfl : cs = #[v0, v1, v2, v3, v4, v5, v6, v7, v8, v9, v10, v11, v12, v13] := by
    apply Array.toList_inj.1
    rw [hcs]
  obtain ⟨xs, k, hk, hxy, _, hxl, hg⟩ := DataW.trod_struct hu hf
  obtain ⟨y0, y1, y2, y3, y4, y5, y6, y7, y8, y9, y10, rfl⟩ := llist11 (show xs.length = 11 from hxl)
  have g0 := hg 0 f0 rfl
  have g1 := hg 1 f1 rfl
  have g2 := hg 2 f2 rfl
  have g3 := hg 3 f3 rfl
  have g4 := hg 4 f4 rfl
  have g5 := hg 5 f5 rfl
  have g6 := hg 6 f6 rfl
  have g7 := hg 7 f7 rfl
  have g8 := hg 8 f8 rfl
  have g9 := hg 9 f9 rfl
  have g10 := hg 10 f10 rfl
  simp [Value.cells, o0, o1, o2, o3, o4, o5, o6, o7, o8, o9, o10, t0, t1, t2, t3, t4, t5, t6, t7, t8, t9, t10, lcells_int, lcells_bool, lcells_ents, lcells_snap] at g0 g1 g2 g3 g4 g5 g6 g7 g8 g9 g10
  obtain ⟨z0, e0, r0, w0⟩ := DataW.trod_int Tryd.underlying3 g0
  cases e0
  subst r0
  obtain ⟨z1, e1, r1, w1⟩ := DataW.trod_int Tryd.underlying3 g1
  cases e1
  subst r1
  obtain ⟨z2, e2, r2, w2⟩ := DataW.trod_int Tryd.underlying3 g2
  cases e2
  subst r2
  obtain ⟨z3, e3, r3, w3⟩ := DataW.trod_int Tryd.underlying3 g3
  cases e3
  subst r3
  obtain ⟨z4, e4, r4, w4⟩ := DataW.trod_int Tryd.underlying3 g4
  cases e4
  subst r4
  obtain ⟨z5, e5, r5, w5⟩ := DataW.trod_int Tryd.underlying3 g5
  cases e5
  subst r5
  obtain ⟨z6, e6, r6, w6⟩ := DataW.trod_int Tryd.underlying3 g6
  cases e6
  subst r6
  obtain ⟨z7, e7, r7, w7⟩ := DataW.trod_int Tryd.underlying3 g7
  cases e7
  subst r7
  obtain ⟨ob, e8, r8⟩ := DataW.trod_bool Tryd.underlying4 g8
  cases e8
  subst r8
  obtain ⟨ys, k2, hk2, hxy2, _, hyl, hg2⟩ := DataW.trod_struct hus g10
  obtain ⟨u0, u1, u2, u3, rfl⟩ := llist4 (show ys.length = 4 from hyl)
  have p0 := hg2 0 F0 rfl
  have p1 := hg2 1 F1 rfl
  have p2 := hg2 2 F2 rfl
  have p3 := hg2 3 F3 rfl
  simp [q0, q1, q2, q3, s0, s1, s2, s3, lcells_int, lcells_ints, lcells_by] at p0 p1 p2 p3
  obtain ⟨z10, e10, r10, w10⟩ := DataW.trod_int Tryd.underlying3 p0
  cases e10
  subst r10
  obtain ⟨z11, e11, r11, w11⟩ := DataW.trod_int Tryd.underlying3 p1
  cases e11
  subst r11
  simp only [Prod.mk.injEq] at hxy hxy2
  have hy10 : y10.1 = .agg [.lit (.int .i64 z10), .lit (.int .i64 z11), u2.1, u3.1] := by rw [hxy2]; simp
  have hd : d = .agg [.lit (.int .i64 z0), .lit (.int .i64 z1), .lit (.int .i64 z2), .lit (.int .i64 z3), .lit (.int .i64 z4), .lit (.int .i64 z5), .lit (.int .i64 z6), .lit (.int .i64 z7), .lit (.bool ob), y9.1, y10.1] := by simpa using hxy.1
  have hws : d.weights Tryd.prog 28 = y9.1.weights Tryd.prog 22 ++ ((u2.1.weights Tryd.prog 23 ++ (u3.1.weights Tryd.prog 24 ++ [])) ++ []) := by
    rw [hd, hy10]
    simp [DataW.weights, hu, hus, DataW.weightsEach, t0, t1, t2, t3, t4, t5, t6, t7, t8, t9, t10, s0, s1, s2, s3]
  rw [hws] at hw
  obtain ⟨ea, en, ec, hv9⟩ := slice_of Tryd.underlying22 g9
  subst hv9
  obtain ⟨na, nn, nc, hv12⟩ := slice_of Tryd.underlying23 p2
  subst hv12
  obtain ⟨da, dn, dc, hv13⟩ := slice_of Tryd.underlying24 p3
  subst hv13
  obtain ⟨es, hel, her, he9⟩ := open_ents (x := y9) g9 (fun z hz => hw z (by simp [hz]))
  obtain ⟨zs, hzl, hnod, hnl⟩ := open_nodes (x := u2) p2 (fun z hz => hw z (by simp [hz]))
  obtain ⟨dl, hrow, hcap, hdl9⟩ := open_data (x := u3) p3 (fun z hz => hw z (by simp [hz]))
  have hdl := hrow.1
  subst hel
  subst hzl
  subst hdl
  exact ⟨⟨z0, z1, z2, z3, z4, z5, z6, z7, ob, es, z10, z11, zs, dl⟩, ⟨ea, ec, na, nc, da, dc⟩, rfl, { es := her, ns := hnod, da := hrow, el := he9, nl := hnl, dl := hdl9, dcl := hcap, rk := int_range w0, rf := int_range w1, rt := int_range w2, rtm := int_range w3, ri := int_range w4, rlt := int_range w5, rcm := int_range w6, rrd := int_range w7, rsx := int_range w10, rst := int_range w11 }⟩
end Go.Proofs.YtmlihlnigojmpaaDoor
