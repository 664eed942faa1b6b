/- Rows of pages and of texts, and a Ref, that were handed in, opened. -/
import Derived.Test.YtkjicdldlnefeaaDoorNLaw
import Derived.ProofKit
import Derived.OpenShut
import Derived.JoinedCond
import Derived.SizedLaws
import Derived.Deep.Slices
import Derived.Lib.SmallJoins
set_option linter.unusedVariables false
namespace Go.Proofs.YtkjicdldlnefeaaDoor
open Go.ChangeShapes Go.WideShapes Go.ChangeAt Go.RowKit

theorem nweights_all {H : Type} {P : Program} {e : TypeId} : ∀ {ds : List (DataW H)} {d : DataW H}, d ∈ ds → ∀ n ∈ d.weights P e, n ∈ DataW.weightsAll P e ds
  | x :: r, d, hd, n, hn => by
    simp only [DataW.weightsAll, List.mem_append]
    rcases List.mem_cons.1 hd with rfl | h
    · exact Or.inl hn
    · exact Or.inr (nweights_all h n hn)
theorem nlist2 {α : Type} : ∀ {l : List α}, l.length = 2 → ∃ a b, l = [a, b]
  | [a, b], _ => ⟨a, b, rfl⟩
  | [], h => by simp at h
  | [_], h => by simp at h
  | _ :: _ :: _ :: _, h => by simp at h
theorem nlist3 {α : Type} : ∀ {l : List α}, l.length = 3 → ∃ a b c, l = [a, b, c]
  | [a, b, c], _ => ⟨a, b, c, rfl⟩
  | [], h => by simp at h
  | [_], h => by simp at h
  | [_, _], h => by simp at h
  | _ :: _ :: _ :: _ :: _, h => by simp at h
theorem nlist4 {α : Type} : ∀ {l : List α}, l.length = 4 → ∃ a b c d, l = [a, b, c, d]
  | [a, b, c, d], _ => ⟨a, b, c, d, rfl⟩
  | [], h => by simp at h
  | [_], h => by simp at h
  | [_, _], h => by simp at h
  | [_, _, _], h => by simp at h
  | _ :: _ :: _ :: _ :: _ :: _, h => by simp at h
theorem und_ref : ∃ f0 f1 f2 : Field, Tryd.prog.underlying 24 = some (.struct #[f0, f1, f2]) ∧ f0.offset = 0 ∧ f1.offset = 1 ∧ f2.offset = 2 ∧ f0.type = 9 ∧ f1.type = 9 ∧ f2.type = 3 := ⟨_, _, _, Tryd.underlying24, rfl, rfl, rfl, rfl, rfl, rfl⟩
theorem und_page : ∃ f0 f1 : Field, Tryd.prog.underlying 38 = some (.struct #[f0, f1]) ∧ f0.offset = 0 ∧ f1.offset = 3 ∧ f0.type = 24 ∧ f1.type = 9 := ⟨_, _, Tryd.underlying38, rfl, rfl, rfl, rfl⟩
theorem ncells_page : Tryd.prog.cellsOf 38 = 4 := by kernel_rfl
theorem ncells_ref : Tryd.prog.cellsOf 24 = 3 := by kernel_rfl
theorem ncells_str : Tryd.prog.cellsOf 9 = 1 := by kernel_rfl
theorem ncells_int : Tryd.prog.cellsOf 3 = 1 := by kernel_rfl
theorem nbytes_page : Tryd.prog.bytesOf 38 = 56 := by kernel_rfl
theorem nbytes_str : Tryd.prog.bytesOf 9 = 16 := by kernel_rfl
theorem add_offN (b off i : Nat) : (⟨b, off, none⟩ : Addr).add i = ⟨b, off + i, none⟩ := by unfold Addr.add; split <;> simp_all
theorem key_str (s : ByteArray) : (.string s : Value) = strA s.data.toList := by simp

/-- A Ref's cells, read. -/
theorem trod_ref {H : Type} {enc : TypeId × Value → H} {w : World} {base : Nat} {spare : Nat → Bool} {held : Bool} {n : Nat} {v0 v1 v2 : Value} {y : DataW H × List MemPlace} (h : DataW.trod enc Tryd.prog w base spare held n 24 [v0, v1, v2] = some y) :
    ∃ (r : RfA), v0 = strA r.tenant ∧ v1 = strA r.doc ∧ v2 = .int .i64 r.ver ∧ y.1.weights Tryd.prog 24 = [r.tenant.length, r.doc.length] := by
  obtain ⟨f0, f1, f2, hu, o0, o1, o2, t0, t1, t2⟩ := und_ref
  obtain ⟨xs, k, hk, hxy, _, hxl, hf⟩ := DataW.trod_struct hu h
  obtain ⟨y0, y1, y2, rfl⟩ := nlist3 (show xs.length = 3 from hxl)
  have g0 := hf 0 f0 rfl
  have g1 := hf 1 f1 rfl
  have g2 := hf 2 f2 rfl
  simp [o0, o1, o2, t0, t1, t2, ncells_str, ncells_int] at g0 g1 g2
  obtain ⟨s0, e0, r0, _⟩ := DataW.trod_string Tryd.underlying9 g0
  obtain ⟨s1, e1, r1, _⟩ := DataW.trod_string Tryd.underlying9 g1
  obtain ⟨z2, e2, r2, _⟩ := DataW.trod_int Tryd.underlying3 g2
  cases e0
  cases e1
  cases e2
  subst r0
  subst r1
  subst r2
  refine ⟨⟨s0.data.toList, s1.data.toList, z2⟩, key_str s0, key_str s1, rfl, ?_⟩
  have hD : y.1 = .agg [.lit (.string s0.data.toList), .lit (.string s1.data.toList), .lit (.int .i64 z2)] := by rw [hxy]; simp
  rw [hD]
  simp [DataW.weights, hu, DataW.weightsEach, t0, t1, t2]

theorem open_pages {H : Type} {enc : TypeId × Value → H} {w : World} {base : Nat} {spare : Nat → Bool} {held : Bool} {fuel : Nat} {a : Option Addr} {len cap : Nat} {x : DataW H × List MemPlace}
    (h : DataW.trod enc Tryd.prog w base spare held fuel 28 [.slice a len cap] = some x) (hw : ∀ n ∈ x.1.weights Tryd.prog 28, n ≤ reachBytes) :
    ∃ l : List PgA, l.length = len ∧ PgsN w (.slice a len cap) l ∧ len ≤ 140737488355328 ∧ ∀ p ∈ l, p.text.length ≤ 140737488355328 := by
  have hrb : reachBytes ≤ 140737488355328 := by decide
  rcases Go.Deep.open_slice Tryd.underlying28 h with ⟨hcs, _⟩ | ⟨x0, l, c, m, n, D, Pl, hcs, hb, hl, hm, hmm, hx, hel⟩
  · cases hcs
    exact ⟨[], rfl, ⟨none, 0, rfl, fun i p hp => by cases hp⟩, Nat.zero_le _, fun p hp => by cases hp⟩
  · cases hcs
    have hlm : len ≤ m := by rw [hmm]; split <;> omega
    have hlen : len ≤ 140737488355328 := by
      have h1 : ∃ k, (len + k) * 56 ∈ x.1.weights Tryd.prog 28 := by
        rw [hx]
        simp only [DataW.weights, Tryd.underlying28, nbytes_page, List.length_map, List.length_range]
        exact ⟨_, List.mem_cons_self⟩
      obtain ⟨k, hk⟩ := h1
      have := hw _ hk
      omega
    obtain ⟨f0, f1, hu, o0, o1, t0, t1⟩ := und_page
    have each : ∀ i, i < len → ∃ q : PgA, (w.cell? (x0.add (i * 4)) = some (strA q.ref.tenant) ∧ w.cell? (x0.add (i * 4 + 1)) = some (strA q.ref.doc) ∧ w.cell? (x0.add (i * 4 + 2)) = some (.int .i64 q.ref.ver) ∧ w.cell? (x0.add (i * 4 + 3)) = some (strA q.text)) ∧ q.text.length ≤ 140737488355328 := by
      intro i hi
      obtain ⟨cs', h1, h2⟩ := hel i (by omega)
      rw [ncells_page] at h1
      obtain ⟨_, hlen', hcell⟩ := World.cells?_some h1
      obtain ⟨xs, k, hk, hxy, _, hxl, hf⟩ := DataW.trod_struct hu h2
      obtain ⟨y0, y1, rfl⟩ := nlist2 (show xs.length = 2 from hxl)
      obtain ⟨v0, v1, v2, v3, rfl⟩ := nlist4 hlen'
      have g0 := hf 0 f0 rfl
      have g1 := hf 1 f1 rfl
      simp [o0, o1, t0, t1, ncells_str, ncells_ref] at g0 g1
      obtain ⟨r, rfl, rfl, rfl, hrw⟩ := trod_ref g0
      obtain ⟨s1, e1, r1, _⟩ := DataW.trod_string Tryd.underlying9 g1
      cases e1
      subst r1
      have c0 := hcell 0 (by omega)
      have c1 := hcell 1 (by omega)
      have c2 := hcell 2 (by omega)
      have c3 := hcell 3 (by omega)
      rw [Go.Deep.add_add] at c0 c1 c2 c3
      simp only [Prod.mk.injEq] at hxy
      have hD : D i = .agg [y0.1, .lit (.string s1.data.toList)] := by simpa using hxy.1
      have hmem : D i ∈ (List.range len).map D := List.mem_map_of_mem (List.mem_range.2 hi)
      have hwt : ∀ z, z ∈ (D i).weights Tryd.prog 38 → z ≤ reachBytes := fun z hz => by
        refine hw z ?_
        rw [hx]
        simp only [DataW.weights, Tryd.underlying28]
        exact List.mem_cons_of_mem _ (List.mem_append_left _ (nweights_all hmem z hz))
      have hws : s1.data.toList.length ∈ (D i).weights Tryd.prog 38 := by
        rw [hD]
        simp [DataW.weights, hu, DataW.weightsEach, t0, t1]
      refine ⟨⟨r, s1.data.toList⟩, ⟨by simpa using c0, by simpa using c1, by simpa using c2, ?_⟩, Nat.le_trans (hwt _ hws) hrb⟩
      rw [← key_str]
      simpa using c3
    by_cases h00 : len = 0
    · subst h00
      exact ⟨[], rfl, ⟨_, _, rfl, fun i p hp => by cases hp⟩, Nat.zero_le _, fun p hp => by cases hp⟩
    · haveI : Inhabited PgA := ⟨{}⟩
      obtain ⟨q, hq⟩ := Go.Deep.choose_lt each
      obtain ⟨b, off, spot⟩ := x0
      have hc := (hq 0 (by omega)).1.1
      have hspot : spot = none := by simpa [Addr.add] using World.cell?_spot hc
      subst hspot
      refine ⟨(List.range len).map q, by simp, ⟨some ⟨b, off, none⟩, cap, by simp, fun i p hp => ?_⟩, hlen, fun p hp => ?_⟩
      · have hi := (List.getElem?_eq_some_iff.1 hp).1
        rw [List.length_map, List.length_range] at hi
        have hp2 : p = q i := by
          simp [hi] at hp
          exact hp.symm
        subst hp2
        obtain ⟨⟨g0, g1, g2, g3⟩, _⟩ := hq i hi
        rw [add_offN] at g0 g1 g2 g3
        exact ⟨b, off, rfl, World.block_lt_of_cell? w ⟨b, off + i * 4, none⟩ g0, g0, g1, g2, g3⟩
      · obtain ⟨i, hi, rfl⟩ := List.mem_map.1 hp
        exact (hq i (List.mem_range.1 hi)).2

theorem open_strsN {H : Type} {enc : TypeId × Value → H} {w : World} {base : Nat} {spare : Nat → Bool} {held : Bool} {fuel : Nat} {a : Option Addr} {len cap : Nat} {x : DataW H × List MemPlace}
    (h : DataW.trod enc Tryd.prog w base spare held fuel 29 [.slice a len cap] = some x) (hw : ∀ n ∈ x.1.weights Tryd.prog 29, n ≤ reachBytes) :
    ∃ l : List StrA, l.length = len ∧ StrsN w (.slice a len cap) l ∧ len ≤ 140737488355328 := by
  have hrb : reachBytes ≤ 140737488355328 := by decide
  rcases Go.Deep.open_slice Tryd.underlying29 h with ⟨hcs, _⟩ | ⟨x0, l, c, m, n, D, Pl, hcs, hb, hl, hm, hmm, hx, hel⟩
  · cases hcs
    exact ⟨[], rfl, ⟨none, 0, rfl, fun i p hp => by cases hp⟩, Nat.zero_le _⟩
  · cases hcs
    have hlm : len ≤ m := by rw [hmm]; split <;> omega
    have hlen : len ≤ 140737488355328 := by
      have h1 : ∃ k, (len + k) * 16 ∈ x.1.weights Tryd.prog 29 := by
        rw [hx]
        simp only [DataW.weights, Tryd.underlying29, nbytes_str, List.length_map, List.length_range]
        exact ⟨_, List.mem_cons_self⟩
      obtain ⟨k, hk⟩ := h1
      have := hw _ hk
      omega
    have each : ∀ i, i < len → ∃ q : StrA, w.cell? (x0.add i) = some (strA q) := by
      intro i hi
      obtain ⟨cs', h1, h2⟩ := hel i (by omega)
      rw [ncells_str] at h1
      obtain ⟨_, hlen', hcell⟩ := World.cells?_some h1
      have c0 := hcell 0 (by omega)
      match cs', hlen', h2, c0 with
      | [v0], _, h2, c0 =>
        obtain ⟨s0, e0, r0, _⟩ := DataW.trod_string Tryd.underlying9 h2
        cases e0
        refine ⟨s0.data.toList, ?_⟩
        rw [← key_str]
        have c1 := c0
        rw [Go.Deep.add_add] at c1
        simpa using c1
    by_cases h00 : len = 0
    · subst h00
      exact ⟨[], rfl, ⟨_, _, rfl, fun i p hp => by cases hp⟩, Nat.zero_le _⟩
    · obtain ⟨q, hq⟩ := Go.Deep.choose_lt each
      obtain ⟨b, off, spot⟩ := x0
      have hc := hq 0 (by omega)
      have hspot : spot = none := by simpa [Addr.add] using World.cell?_spot hc
      subst hspot
      refine ⟨(List.range len).map q, by simp, ⟨some ⟨b, off, none⟩, cap, by simp, fun i p hp => ?_⟩, hlen⟩
      have hi := (List.getElem?_eq_some_iff.1 hp).1
      rw [List.length_map, List.length_range] at hi
      have hp2 : p = q i := by
        simp [hi] at hp
        exact hp.symm
      subst hp2
      have g0 := hq i hi
      rw [add_offN] at g0
      exact ⟨b, off, rfl, World.block_lt_of_cell? w ⟨b, off + i, none⟩ g0, g0⟩

theorem open_ref {H : Type} {enc : TypeId × Value → H} {w : World} {base : Nat} {spare : Nat → Bool} {held : Bool} {r : Reach} {b0 : Nat} {v : Value} {d : DataW H} {p : List MemPlace}
    (hv : Value.okWide Tryd.prog w r b0 24 v) (h : DataW.Trod enc Tryd.prog w base spare held 24 v d p) : ∃ g : RfA, v = aggR g := by
  obtain ⟨v0, v1, v2, y0, y1, y2, n, rfl, rfl, rfl, h0, h1, h2⟩ := Go.Joins.open_agg3 Tryd.underlying24 (by kernel_rfl) ncells_ref hv h
  have g0 : DataW.trod enc Tryd.prog w base spare held n 9 [v0] = some y0 := h0
  have g1 : DataW.trod enc Tryd.prog w base spare held n 9 [v1] = some y1 := h1
  have g2 : DataW.trod enc Tryd.prog w base spare held n 3 [v2] = some y2 := h2
  obtain ⟨s0, e0, r0, _⟩ := DataW.trod_string Tryd.underlying9 g0
  obtain ⟨s1, e1, r1, _⟩ := DataW.trod_string Tryd.underlying9 g1
  obtain ⟨z2, e2, r2, _⟩ := DataW.trod_int Tryd.underlying3 g2
  cases e0
  cases e1
  cases e2
  exact ⟨⟨s0.data.toList, s1.data.toList, z2⟩, by rw [key_str s0, key_str s1]⟩
end Go.Proofs.YtkjicdldlnefeaaDoor
