/- Proved: AclSets returns true, and its arguments read as they did, for every grants and every grant; no condition. -/
import Derived.Test.YtocfdpjclmieiaaASetsIn
import Derived.ProofKit
import Derived.OpenShut
import Derived.ShutString
import Derived.ChangeOld
import Derived.Below
import Derived.JoinedCond
import Derived.SizedLaws
set_option linter.unusedVariables false
namespace Go.Proofs.Ytocfdpjclmieiaa.aclSets
open Go.ChangeShapes Go.WideShapes Go.ChangeAt Go.RowKit
open Go.ChangeMaps (open_string shut_string)

theorem own : ownKnob Try.prog.godebug = none := by kernel_rfl
theorem laidOut : laidOutB Try.prog = true := by kernel_rfl

theorem walk (a : Option Addr) (b o len cap : Nat) (lb de : Nat → StrA) (ti : Nat → Int) (sh : ShA a len cap) (g : GrA) (hgt : g.tenant.length ≤ 140737488355328) (hgw : g.who.length ≤ 140737488355328) (w : World)
    (e1 : 0 < len → a = some ⟨b, o, none⟩) (e2 : ∀ i, i < len → w.cell? ⟨b, o + i * 3, none⟩ = some (strA (lb i)) ∧ w.cell? ⟨b, o + i * 3 + 1, none⟩ = some (strA (de i)) ∧ w.cell? ⟨b, o + i * 3 + 2, none⟩ = some (.int .i64 (ti i))) (e3 : len ≤ maxLen) (e4 : ∀ i, (lb i).length ≤ 140737488355328 ∧ (de i).length ≤ 140737488355328) :
    Calls Try.prog 4 #[.slice a len cap, aggA g] w fun e w' => e = .returned (.bool true) ∧ Below w.heap.size w w' := by
  obtain ⟨L, hL⟩ : ∃ L : List GrA, L = (List.range len).map (fun i => ⟨lb i, de i, ti i⟩) := ⟨_, rfl⟩
  have hlen : L.length = len := by rw [hL]; simp
  have hv : GrsAt w (.slice a L.length cap) L := by
    refine ⟨a, cap, rfl, fun i g hg => ?_⟩
    have hi := (List.getElem?_eq_some_iff.1 hg).1
    rw [hlen] at hi
    have hg2 : g = ⟨lb i, de i, ti i⟩ := by
      rw [hL] at hg
      simp [hi] at hg
      exact hg.symm
    subst hg2
    obtain ⟨c0, c1, c2⟩ := e2 i hi
    exact ⟨b, o, e1 (by omega), World.block_lt_of_cell? w ⟨b, o + i * 3, none⟩ c0, c0, c1, c2⟩
  have hLe : Lens2 L := fun g hg => by
    rw [hL] at hg
    obtain ⟨i, _, rfl⟩ := List.mem_map.1 hg
    have := e4 i
    show (lb i).length ≤ _ ∧ (de i).length ≤ _
    omega
  rw [← hlen]
  rw [← hlen] at sh
  exact wsets L hLe a cap sh g (by omega) (by omega) w hv

theorem int_range {n : Int} (h : (Lit.int .i64 n).wf = true) : -9223372036854775808 ≤ n ∧ n ≤ 9223372036854775807 := by
  simp only [Lit.wf, Bool.and_eq_true, decide_eq_true_eq] at h
  exact h

theorem add_off (b off i : Nat) : (⟨b, off, none⟩ : Addr).add i = ⟨b, off + i, none⟩ := by unfold Addr.add; split <;> simp_all

set_option maxRecDepth 100000 in
theorem lifted (os : Os) (started : os.Started) (H : Type) (enc : TypeId × Value → H) :
    ReturnsInHanded {} Try.checked os 4 .any (Rows.aclSetsSpec.pre6 enc Try.prog Try.f4 Rows.aclSetsRow.domain false) (Rows.aclSetsSpec.post enc Try.prog Try.f4 false true false false) := by
  refine returnsInHanded_of_change_sized (C := Try.checked) own started (by kernel_rfl) Try.func4
    (ChangeSpec.witness6 (enc := enc) (C := Try.checked) false ⟨#[], #[.slice none 0 0, .agg #[.string ⟨#[]⟩, .string ⟨#[]⟩, .int .i64 0]], []⟩ 8 (by kernel_rfl) (by kernel_rfl) (by kernel_rfl) (by kernel_rfl)) ?_
  intro W base args ds gs before hval0 hW hcnd hsz0 _
  have hsz1 : (DataW.weightsEach Try.prog (Try.f4.params.toList ++ []) (ds ++ gs)).all (· ≤ reachBytes) = true := hsz0
  clear hsz0
  have hval : ∀ (j : Nat) t v, Try.f4.params[j]? = some t → args[j]? = some v → Value.okWide Try.prog W .any base t v := hval0
  have hW' := hW
  obtain ⟨p, q, hA0, hV, rfl, hfz, hnd⟩ := hW
  have hA : DataW.TrodAll enc Try.prog W 0 (fun _ => true) true Try.f4.params.toList args.toList ds p := hA0
  rw [Try.params4] at hA hval hsz1
  obtain ⟨v0, vs0, d0, ds0, p0, q0, hargs, rfl, rfl, h0, r0⟩ := trodAll_cons hA
  obtain ⟨v1, vs1, d1, ds1, p1, q1, rfl, rfl, rfl, h1, r1⟩ := trodAll_cons r0
  obtain ⟨rfl, rfl, rfl⟩ := trodAll_nil r1
  obtain rfl : args = #[v0, v1] := by cases args; simp_all
  obtain ⟨rfl, rfl⟩ := trodVars_none hV
  obtain ⟨a0, len0, cap0, rfl⟩ := okWide_slice Try.underlying22 (hval 0 22 v0 rfl rfl)
  have k0 := h0
  have lt0 : ∀ x ∈ p0, x.block < W.heap.size := by obtain ⟨m, hm⟩ := k0; exact DataW.trod_lt m _ _ _ hm
  obtain ⟨b0, o0, lb0, de0, ti0, e01, e02, e03, e04⟩ := open_grants (x := (d0, p0)) h0.choose_spec (fun n hn => by have := List.all_eq_true.1 hsz1 n (DataW.weights_mem_each (j := 0) (t := 22) (d := d0) rfl rfl n hn); simpa using this)
  have sh0 : ShA a0 len0 cap0 := open_shape (x := (d0, p0)) k0.choose_spec
  have k1 := h1
  have lt1 : ∀ x ∈ p1, x.block < W.heap.size := by obtain ⟨m, hm⟩ := k1; exact DataW.trod_lt m _ _ _ hm
  obtain ⟨g1, hg1, hgt1, hgw1⟩ := open_grant2 (hval 1 33 v1 rfl rfl) h1 (fun n hn => by have := List.all_eq_true.1 hsz1 n (DataW.weights_mem_each (j := 1) (t := 33) (d := d1) rfl rfl n hn); simpa using this)
  subst hg1
  clear hA0 hval0 hsz1
  simp only [List.append_nil] at hW'
  refine (walk a0 b0 o0 len0 cap0 lb0 de0 ti0 sh0 g1 hgt1 hgw1 W e01 e02 e03 e04).mono fun e W' ⟨he, bel⟩ => ?_
  subst he
  exact ⟨_, rfl, _, _, _, [], _, [], hW', trodAll_mk1 (shut_bool Try.underlying4 _), (trodAll_cons_mk (Below.trod laidOut (by kernel_rfl) (of_decide_eq_true (by kernel_rfl)) k0 bel lt0) (trodAll_cons_mk (Below.trod laidOut (by kernel_rfl) (of_decide_eq_true (by kernel_rfl)) k1 bel lt1) trodAll_mk0)), rfl, bel.frame _, fun h => by cases h⟩

theorem over : Rows.aclSetsRow.holds Try.pinned (OpenSpec.ofChange Rows.aclSetsSpec) :=
  OpenClaim.holds_of_wide 4 Try.f4 rfl rfl rfl rfl rfl rfl rfl ⟨rfl, rfl, rfl, rfl, rfl⟩ rfl rfl rfl rfl rfl (by kernel_rfl) Try.func4 (by kernel_rfl)
    (of_decide_eq_true (by kernel_rfl)) (by unfold Func.isWrapper; first | (rw [if_pos (by decide +kernel)]; kernel_rfl) | (rw [if_neg (by decide +kernel)]; exact ⟨rfl, rfl⟩))
    (fun os started H enc _ => lifted os started H enc)

theorem proved : Rows.AclSetsSaid :=
  over
#print axioms proved
end Go.Proofs.Ytocfdpjclmieiaa.aclSets
