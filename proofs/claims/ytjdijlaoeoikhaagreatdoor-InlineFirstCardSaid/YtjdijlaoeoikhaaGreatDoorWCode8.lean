/- InlineCode: what stands between grave accents is code; walked. -/
import Derived.Test.YtjdijlaoeoikhaaGreatDoorG49
import Derived.Test.YtjdijlaoeoikhaaGreatDoorG05
import Derived.Laws.Strings3
set_option linter.unusedVariables false
namespace Go.Proofs.YtjdijlaoeoikhaaGreatDoor
open Go.RowKit

theorem sadd8 (A B : Str8) (h : A.length + B.length ≤ 9223372036854775000) : ∀ w, (Op.stringOp .add (ByteArray.mk A.toArray) (ByteArray.mk B.toArray)).run Tryz.prog w = .ok (.string ⟨(A ++ B).toArray⟩) w := by
  intro w
  rw [← cat_eq]
  exact run_string_add_sum (w := w) _ _ (by rw [size_list, size_list]; omega)
theorem and_bits8 (m : Nat) (hm : m < 1000000) (z : Int) : ∃ n : Nat, n ≤ m ∧ bits .and .i64 z (m : Int) = (n : Int) := by
  have h0 : (BitVec.ofInt 64 (m : Int)).toNat = m := by
    rw [BitVec.toNat_ofInt]
    omega
  have h : (BitVec.ofInt 64 z &&& BitVec.ofInt 64 (m : Int)).toNat ≤ m := by
    rw [BitVec.toNat_and]
    exact Nat.le_trans Nat.and_le_right (by omega)
  refine ⟨(BitVec.ofInt 64 z &&& BitVec.ofInt 64 (m : Int)).toNat, h, ?_⟩
  show IntKind.i64.wrap (((BitVec.ofInt 64 z &&& BitVec.ofInt 64 (m : Int)).toNat : Nat) : Int) = _
  rw [IntKind.wrap_i64]
  omega
theorem defs_none (w : World) : DefsAt w (.slice none 0 0) [] := ⟨none, 0, rfl, fun i q hq => by cases hq⟩
/-- Parse without definitions. -/
theorem iparse_nil (l : Str8) (hl : l.length ≤ 1073741824) (w : World) (hg : Glob w) : Calls Tryz.prog 9 #[strI l, .slice none 0 0] w fun e w' => ∃ v', e = .returned v' ∧ (∃ ys, w'.ownsRow 0 32 5 v' (parseI l []).len ys ∧ KidI w' (fun _ => True) (parseI l []) ys) ∧ Below w.heap.size w w' :=
  iparse_any l hl [] (Nat.zero_le _) (fun d hd => by cases hd) _ w (defs_none w) hg

/-- A row of inlines in memory. -/
def InRow (w : World) (I : Is) (v : Value) : Prop := ∃ ys, w.ownsRow 0 32 5 v I.len ys ∧ KidI w (fun _ => True) I ys
theorem inrow_one {w : World} {b : II} {k : Is} {v : Value} (h : InRow w (.cons b k .nil) v) : ∃ g c v', v = .slice (some ⟨g, 0, none⟩) 1 c ∧ w.cell? ⟨g, 0, none⟩ = some (.int .i64 (b.kind : Int)) ∧ w.cell? ⟨g, 1, none⟩ = some (strW b.text) ∧ w.cell? ⟨g, 4, none⟩ = some v' ∧ InRow w k v' := by
  obtain ⟨ys, hr, hk⟩ := h
  obtain ⟨v', ys', zs, e, h1, h2, h3, h4⟩ := hk
  have h4 : zs = [] := h4
  subst h4
  subst e
  obtain ⟨a, c, rfl⟩ := row_len hr
  obtain ⟨g, rfl, _, q0⟩ := row_cell hr (j := 0) rfl
  refine ⟨g, c, v', rfl, q0, ?_, ?_, ys', h1, h3⟩
  · obtain ⟨g', e, _, q⟩ := row_cell hr (j := 1) rfl; cases e; exact q
  · obtain ⟨g', e, _, q⟩ := row_cell hr (j := 4) rfl; cases e; exact q

def Fold8 (a x : Int) (m : Int) : Prop := (¬ a < 0 ∧ a.tmod m = x) ∨ (a < 0 ∧ -9223372036854775808 ≤ a ∧ (-(a + 1)).tmod m = x)
theorem fold8_ex (a m : Int) (h0 : -9223372036854775808 ≤ a) (hm : 0 < m) : ∃ x : Int, 0 ≤ x ∧ x < m ∧ Fold8 a x m := by
  by_cases h : 0 ≤ a
  · exact ⟨a.tmod m, Int.tmod_nonneg _ h, by rw [Int.tmod_eq_emod_of_nonneg h]; exact Int.emod_lt_of_pos _ hm, .inl ⟨by omega, rfl⟩⟩
  · exact ⟨(-(a + 1)).tmod m, Int.tmod_nonneg _ (by omega), by rw [Int.tmod_eq_emod_of_nonneg (by omega)]; exact Int.emod_lt_of_pos _ hm, .inr ⟨by omega, h0, rfl⟩⟩

/-- The bytes of a text's front that are neither. -/
def codB (c : UInt8) : Bool := c != 96 && c != 10
def codT (l : Str8) (k : Nat) : Str8 := 97 :: (l.take k).filter codB
theorem cod_next {l : Str8} {k : Nat} {z : UInt8} (h : l[k]? = some z) : codT l (k + 1) = codT l k ++ (if codB z = true then [z] else []) := by
  unfold codT
  rw [List.take_add_one, h, List.filter_append]
  cases hz : codB z <;> simp [hz]
theorem cod_len (l : Str8) (k : Nat) : (codT l k).length ≤ k + 1 := by
  have h1 := List.length_filter_le codB (l.take k)
  rw [List.length_take] at h1
  unfold codT
  rw [List.length_cons]
  omega
theorem cod_ok (l : Str8) (k : Nat) : (∀ c ∈ codT l k ++ [122], c ≠ 96) ∧ (∀ c ∈ codT l k ++ [122], c ≠ 10) ∧ (codT l k ++ [122]).head? = some 97 := by
  have key : ∀ c ∈ codT l k, c ≠ 96 ∧ c ≠ 10 := fun c hc => by
    rcases List.mem_cons.1 hc with rfl | h
    · decide
    · have := (List.mem_filter.1 h).2
      simpa [codB] using this
  refine ⟨fun c hc => ?_, fun c hc => ?_, rfl⟩
  · rcases List.mem_append.1 hc with h | h
    · exact (key c h).1
    · rw [List.mem_singleton.1 h]; decide
  · rcases List.mem_append.1 hc with h | h
    · exact (key c h).2
    · rw [List.mem_singleton.1 h]; decide

end Go.Proofs.YtjdijlaoeoikhaaGreatDoor
