/- RunesJoin: for every texts and every numbers, lines that are put together are these lines; no condition. -/
import Derived.Test.YtnpboadefhannaaWalkJoin
set_option linter.unusedVariables false
namespace Go.Proofs.Ytnpboadefhannaa.runesJoin
open Go.ChangeShapes Go.WideShapes Go.ChangeAt Go.RowKit

theorem add_off (b off i : Nat) : (⟨b, off, none⟩ : Addr).add i = ⟨b, off + i, none⟩ := by unfold Addr.add; split <;> simp_all

set_option maxRecDepth 100000 in
theorem lifted (os : Os) (started : os.Started) (H : Type) (enc : TypeId × Value → H) :
    ReturnsInHanded {} Try.checked os 7 .any (Rows.runesJoinSpec.pre6 enc Try.prog Try.f7 Rows.runesJoinRow.domain false) (Rows.runesJoinSpec.post enc Try.prog Try.f7 false true false false) := by
  refine returnsInHanded_of_change (C := Try.checked) own started (by kernel_rfl) Try.func7
    (ChangeSpec.witness6 (enc := enc) (C := Try.checked) false ⟨#[], #[.slice none 0 0, .slice none 0 0], []⟩ 8 (by kernel_rfl) (by kernel_rfl) (by kernel_rfl) (by kernel_rfl)) ?_
  intro W base args ds gs before hval0 hW hcnd _
  have hval : ∀ (j : Nat) t v, Try.f7.params[j]? = some t → args[j]? = some v → Value.okWide Try.prog W .any base t v := hval0
  have hW' := hW
  obtain ⟨p, q, hA0, hV, rfl, hfz, hnd⟩ := hW
  have hA : DataW.TrodAll enc Try.prog W 0 (fun _ => true) true Try.f7.params.toList args.toList ds p := hA0
  rw [Try.params7] at hA hval
  obtain ⟨v0, vs0, d0, ds0, p0, q0, hargs, rfl, rfl, h0, r0⟩ := trodAll_cons hA
  obtain ⟨v1, vs1, d1, ds1, p1, q1, rfl, rfl, rfl, h1, r1⟩ := trodAll_cons r0
  obtain ⟨rfl, rfl, rfl⟩ := trodAll_nil r1
  obtain rfl : args = #[v0, v1] := by cases args; simp_all
  obtain ⟨rfl, rfl⟩ := trodVars_none hV
  obtain ⟨a0, len0, cap0, rfl⟩ := okWide_slice Try.underlying28 (hval 0 28 v0 rfl rfl)
  obtain ⟨a1, len1, cap1, rfl⟩ := okWide_slice Try.underlying36 (hval 1 36 v1 rfl rfl)
  have k0 := h0
  have k1 := h1
  have lt0 : ∀ x ∈ p0, x.block < W.heap.size := by obtain ⟨m, hm⟩ := k0; exact DataW.trod_lt m _ _ _ hm
  have lt1 : ∀ x ∈ p1, x.block < W.heap.size := by obtain ⟨m, hm⟩ := k1; exact DataW.trod_lt m _ _ _ hm
  obtain ⟨bt, ot, txt, t1, t2, t3, t4⟩ : ∃ (bt ot : Nat) (txt : Nat → ByteArray), (0 < len0 → a0 = some ⟨bt, ot, none⟩) ∧ (∀ i, i < len0 → W.cell? ⟨bt, ot + i, none⟩ = some (.string (txt i))) ∧ len0 ≤ maxLen ∧ (∀ i, (txt i).size ≤ maxLen) := by
    obtain ⟨fuel, hf⟩ := h0
    rcases open_strings Try.underlying28 Try.underlying9 (by kernel_rfl) hf with ⟨hcs, _⟩ | ⟨x, l, c, ss, hcs, _, hl, hm, hz, _, hcell, hws⟩
    · simp [Value.cells] at hcs
      obtain ⟨rfl, rfl, rfl⟩ := hcs
      exact ⟨0, 0, fun _ => ⟨#[]⟩, fun h => by omega, fun i hi => by omega, by unfold maxLen; omega, fun i => by show 0 ≤ maxLen; unfold maxLen; omega⟩
    · simp [Value.cells] at hcs
      obtain ⟨rfl, rfl, rfl⟩ := hcs
      have hz' : ss.length = cap0 := by simpa using hz
      have hsz : ∀ i, (ss.getD i ByteArray.empty).size ≤ maxLen := by
        intro i
        rw [List.getD_eq_getElem?_getD]
        cases hg : ss[i]? with
        | none => show (0 : Nat) ≤ maxLen; unfold maxLen; omega
        | some s => exact hws s (List.mem_of_getElem? hg)
      by_cases h00 : len0 = 0
      · exact ⟨0, 0, fun i => ss.getD i ByteArray.empty, fun h => by omega, fun i hi => by omega, by omega, hsz⟩
      · obtain ⟨b, off, spot⟩ := x
        have hc := hcell 0 (by omega)
        have hspot : spot = none := by simpa [Addr.add] using World.cell?_spot hc
        subst hspot
        refine ⟨b, off, fun i => ss.getD i ByteArray.empty, fun _ => rfl, fun i hi => ?_, by omega, hsz⟩
        have := hcell i (by omega)
        rwa [add_off] at this
  obtain ⟨be, oe, num, e1, e2, e3⟩ : ∃ (be oe : Nat) (num : Nat → Int), (0 < len1 → a1 = some ⟨be, oe, none⟩) ∧ (∀ i, i < len1 → W.cell? ⟨be, oe + i, none⟩ = some (.int .i64 (num i))) ∧ len1 ≤ maxLen := by
    obtain ⟨fuel, hf⟩ := h1
    rcases open_ints Try.underlying36 Try.underlying3 (by kernel_rfl) hf with ⟨hcs, _⟩ | ⟨x, l, c, zs, hcs, _, hl, hm, hz, _, hcell, hwz⟩
    · simp [Value.cells] at hcs
      obtain ⟨rfl, rfl, rfl⟩ := hcs
      exact ⟨0, 0, fun _ => 0, fun h => by omega, fun i hi => by omega, by unfold maxLen; omega⟩
    · simp [Value.cells] at hcs
      obtain ⟨rfl, rfl, rfl⟩ := hcs
      have hz' : zs.length = cap1 := by simpa using hz
      by_cases h00 : len1 = 0
      · exact ⟨0, 0, fun i => zs.getD i 0, fun h => by omega, fun i hi => by omega, by omega⟩
      · obtain ⟨b, off, spot⟩ := x
        have hc := hcell 0 (by omega)
        have hspot : spot = none := by simpa [Addr.add] using World.cell?_spot hc
        subst hspot
        refine ⟨b, off, fun i => zs.getD i 0, fun _ => rfl, fun i hi => ?_, by omega⟩
        have := hcell i (by omega)
        rwa [add_off] at this
  clear hA0 hval0
  refine (walk a0 bt ot len0 cap0 txt a1 be oe len1 cap1 num W t1 t2 t3 t4 e1 e2 e3).mono fun e W' ⟨he, bel⟩ => ?_
  subst he
  exact ⟨_, rfl, _, _, _, [], _, [], hW', trodAll_mk1 (shut_bool Try.underlying4 _), (trodAll_cons_mk (Below.trod laidOut (by kernel_rfl) (of_decide_eq_true (by kernel_rfl)) k0 bel lt0) (trodAll_cons_mk (Below.trod laidOut (by kernel_rfl) (of_decide_eq_true (by kernel_rfl)) k1 bel lt1) trodAll_mk0)), rfl, bel.frame _, fun h => by cases h⟩

theorem over : Rows.runesJoinRow.holds Try.pinned (OpenSpec.ofChange Rows.runesJoinSpec) :=
  OpenClaim.holds_of_wide 7 Try.f7 rfl rfl rfl rfl rfl rfl rfl ⟨rfl, rfl, rfl, rfl, rfl⟩ rfl rfl rfl rfl rfl (by kernel_rfl) Try.func7 (by kernel_rfl)
    (of_decide_eq_true (by kernel_rfl)) (by unfold Func.isWrapper; first | (rw [if_pos (by decide +kernel)]; kernel_rfl) | (rw [if_neg (by decide +kernel)]; exact ⟨rfl, rfl⟩))
    (fun os started H enc _ => lifted os started H enc)

theorem proved : Rows.RunesJoinSaid :=
  over
#print axioms proved
end Go.Proofs.Ytnpboadefhannaa.runesJoin
