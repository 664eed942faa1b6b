/- The law's small case. -/
import Derived.Test.YtkjicdldlnefeaaDoorNExp
set_option linter.unusedVariables false
namespace Go.Proofs.YtkjicdldlnefeaaDoor
open Go.RowKit

def pgCs : List PgA → List Value
  | [] => []
  | p :: t => strA p.ref.tenant :: strA p.ref.doc :: .int .i64 p.ref.ver :: strA p.text :: pgCs t
theorem pgCs_app : ∀ a b : List PgA, pgCs (a ++ b) = pgCs a ++ pgCs b
  | [], _ => rfl
  | r :: t, b => by show _ :: _ :: _ :: _ :: pgCs (t ++ b) = _; rw [pgCs_app t b]; rfl
theorem pgCs_len : ∀ a : List PgA, (pgCs a).length = a.length * 4
  | [] => rfl
  | r :: t => by show (pgCs t).length + 1 + 1 + 1 + 1 = _; rw [pgCs_len t, List.length_cons]; omega
theorem pgCs_get : ∀ (d : List PgA) (i : Nat) (q : PgA), d[i]? = some q → (pgCs d)[i * 4]? = some (strA q.ref.tenant) ∧ (pgCs d)[i * 4 + 1]? = some (strA q.ref.doc) ∧ (pgCs d)[i * 4 + 2]? = some (.int .i64 q.ref.ver) ∧ (pgCs d)[i * 4 + 3]? = some (strA q.text)
  | [], i, q, h => by cases h
  | p :: r, 0, q, h => by
    cases h
    exact ⟨rfl, rfl, rfl, rfl⟩
  | p :: r, i + 1, q, h => by
    obtain ⟨h1, h2, h3, h4⟩ := pgCs_get r i q h
    have key : ∀ m, (pgCs (p :: r))[m + 4]? = (pgCs r)[m]? := fun m => rfl
    refine ⟨?_, ?_, ?_, ?_⟩
    · rw [show (i + 1) * 4 = i * 4 + 4 by omega, key]; exact h1
    · rw [show (i + 1) * 4 + 1 = i * 4 + 1 + 4 by omega, key]; exact h2
    · rw [show (i + 1) * 4 + 2 = i * 4 + 2 + 4 by omega, key]; exact h3
    · rw [show (i + 1) * 4 + 3 = i * 4 + 3 + 4 by omega, key]; exact h4
theorem pgs_row {w : World} {B : Nat} {v : Value} {l : List PgA} (h : w.ownsRow B 38 4 v l.length (pgCs l)) : PgsN w v l := by
  obtain ⟨a, c, rfl⟩ := nrow_len h
  refine ⟨a, c, rfl, fun i q hq => ?_⟩
  obtain ⟨h1, h2, h3, h4⟩ := pgCs_get l i q hq
  obtain ⟨g, e, _, hg, q1⟩ := nrow_cell h h1
  refine ⟨g, 0, e, hg, ?_, ?_, ?_, ?_⟩
  · rw [Nat.zero_add]; exact q1
  · obtain ⟨g', e', _, _, q⟩ := nrow_cell h h2; rw [e] at e'; cases e'; rw [Nat.zero_add]; exact q
  · obtain ⟨g', e', _, _, q⟩ := nrow_cell h h3; rw [e] at e'; cases e'; rw [Nat.zero_add]; exact q
  · obtain ⟨g', e', _, _, q⟩ := nrow_cell h h4; rw [e] at e'; cases e'; rw [Nat.zero_add]; exact q
theorem pgs_blk {w : World} {b c : Nat} {t : TypeId} {l : List PgA} (h : w.heap[b]? = some (.cells (pgCs l).toArray t (0, 0))) : PgsN w (.slice (some ⟨b, 0, none⟩) l.length c) l := by
  refine ⟨_, c, rfl, fun i q hq => ?_⟩
  obtain ⟨h1, h2, h3, h4⟩ := pgCs_get l i q hq
  refine ⟨b, 0, rfl, (Array.getElem?_eq_some_iff.1 h).1, ?_, ?_, ?_, ?_⟩
  · rw [Nat.zero_add]; exact cell_blkN h (by simpa using h1)
  · rw [Nat.zero_add]; exact cell_blkN h (by simpa using h2)
  · rw [Nat.zero_add]; exact cell_blkN h (by simpa using h3)
  · rw [Nat.zero_add]; exact cell_blkN h (by simpa using h4)
theorem strs_blk {w : World} {b c : Nat} {t : TypeId} {l : List StrA} (h : w.heap[b]? = some (.cells (l.map strA).toArray t (0, 0))) : StrsN w (.slice (some ⟨b, 0, none⟩) l.length c) l := by
  refine ⟨_, c, rfl, fun i q hq => ?_⟩
  refine ⟨b, 0, rfl, (Array.getElem?_eq_some_iff.1 h).1, ?_⟩
  rw [Nat.zero_add]
  exact cell_blkN h (by simp [hq])
theorem strs_nil (w : World) (a : Option Addr) (c : Nat) : StrsN w (.slice a 0 c) [] := ⟨a, c, rfl, fun i g h => by cases h⟩

set_option maxHeartbeats 4000000 in
theorem npage_any (d : StrA) (v : Int) (t : StrA) (w : World) : Calls Tryd.prog 19 #[strA d, .int .i64 v, strA t] w fun e w' => e = .returned (.agg #[.string ⟨#[97]⟩, strA d, .int .i64 v, strA t]) ∧ Below w.heap.size w w' := by
  have HB : Hid (∀ o, Below w.heap.size w (w.alloc o)) := fun o => (Below.refl _ _).alloc (Nat.le_refl _) o
  go_enter Tryd.func19, Tryd.ntmps19
  go_wp2
  (try simp only [Exit.inBlock, Exit.then])
  have hk := blk_newN w #[.string ⟨#[97]⟩, strA d, .int .i64 v, strA t] 38
  have d0 := cell_blkN hk (i := 0) (v := .string ⟨#[97]⟩) rfl
  have d1 := cell_blkN hk (i := 1) (v := strA d) rfl
  have d2 := cell_blkN hk (i := 2) (v := .int .i64 v) rfl
  have d3 := cell_blkN hk (i := 3) (v := strA t) rfl
  refine bodyPost_ret (v := .agg #[.string ⟨#[97]⟩, strA d, .int .i64 v, strA t]) ?_ rfl ⟨rfl, ?_⟩
  · rw [results_cellN rfl]
    go_simp
  · exact HB.out _

def shT : StrA := [49, 10, 32, 123, 123, 105, 110, 99, 108, 117, 100, 101, 32, 97, 47, 121, 125, 125, 10, 50]
def shL : List PgA := [⟨⟨[97], [120], 1⟩, shT⟩, ⟨⟨[97], [121], 2⟩, [110, 101, 119]⟩, ⟨⟨[97], [121], 1⟩, [111, 108, 100]⟩]
theorem sh_one : expandA shL [[97]] ⟨[97], [120], 0⟩ = ([49, 10, 110, 101, 119, 10, 50, 10], [⟨[97], [121], 2⟩], 0) := by kernel_rfl
theorem sh_two : expandA shL [] ⟨[97], [120], 0⟩ = ([], [], 6) := by kernel_rfl
end Go.Proofs.YtkjicdldlnefeaaDoor
