/- RunesStays: for every list of numbers, Clean of the right characters among the first 500, written, is what was written; no condition. -/
import Derived.Test.YtnpboadefhannaaRefPut
import Derived.ProofKit
import Derived.OpenShut
import Derived.ShutString
import Derived.ChangeOld
import Derived.Below
set_option linter.unusedVariables false
namespace Go.Proofs.Ytnpboadefhannaa.runesStays
open Go.ChangeShapes Go.WideShapes Go.ChangeAt Go.RowKit
open Go.ChangeMaps (open_string shut_string)

theorem own : ownKnob Try.prog.godebug = none := by kernel_rfl
theorem laidOut : laidOutB Try.prog = true := by kernel_rfl

/-- What the walk is told of a slice of integers that came in. -/
def IsRow (k : IntKind) (w : World) (a : Option Addr) (len cap : Nat) (zs : List Int) : Prop :=
  (a = none ∧ len = 0 ∧ cap = 0 ∧ zs = []) ∨
  ∃ x, a = some x ∧ len ≤ cap ∧ cap ≤ maxLen ∧ zs.length = cap ∧ (∀ i, i < zs.length → w.cell? (x.add i) = some (.int k (zs.getD i 0))) ∧ ∀ n ∈ zs, (Lit.int k n).wf = true

theorem and_mask (z : Int) : 0 ≤ bits .and .i64 z 2097151 ∧ bits .and .i64 z 2097151 ≤ 2097151 := by
  have h : (BitVec.ofInt 64 z &&& BitVec.ofInt 64 2097151).toNat ≤ 2097151 := by
    rw [BitVec.toNat_and]
    exact Nat.le_trans Nat.and_le_right (by decide)
  show 0 ≤ IntKind.i64.wrap _ ∧ IntKind.i64.wrap _ ≤ _
  show 0 ≤ IntKind.i64.wrap (((BitVec.ofInt 64 z &&& BitVec.ofInt 64 2097151).toNat : Nat) : Int) ∧ IntKind.i64.wrap (((BitVec.ofInt 64 z &&& BitVec.ofInt 64 2097151).toNat : Nat) : Int) ≤ 2097151
  rw [IntKind.wrap_i64]
  omega

set_option maxHeartbeats 4000000 in
set_option maxRecDepth 100000 in
theorem walk_some (ao : Option Addr) (b off len cap : Nat) (z : List Int) (w : World) (hao : 0 < len → ao = some ⟨b, off, none⟩) (hl : len ≤ cap) (hm : cap ≤ maxLen) (hz : z.length = cap) (hcell : ∀ i, i < len → w.cell? ⟨b, off + i, none⟩ = some (.int .i64 (z.getD i 0))) :
    Calls Try.prog 8 #[.slice ao len cap] w fun e w' => e = .returned (.bool true) ∧ Below w.heap.size w w' := by
  unfold maxLen at hm
  have hblt : 0 < len → b < w.heap.size := fun h => World.block_lt_of_cell? w ⟨b, off + 0, none⟩ (hcell 0 h)
  go_enter Try.func8, Try.ntmps8
  go_wp2_with (go_at_call 9; refine (shown_any _).mono ?_)
  rintro e w1 ⟨rfl, hb1⟩
  go_wp2
  go_loopw [4, 5] (fun s i wr => ∃ (k : Nat) (rs : List Nat), k ≤ len ∧ i = .int .i64 k ∧ s = .string ⟨(encAll rs).toArray⟩ ∧ (∀ r ∈ rs, Ok r ∧ r ≠ 0) ∧ rs.length ≤ k ∧ k ≤ 500 ∧ Below w.heap.size w wr) (fun _ i _ => 500 - (intOf i).toNat)
  case atStart => exact ⟨0, [], by omega, rfl, rfl, (fun r hr => by cases hr), by simp, by omega, hb1⟩
  case round =>
    obtain ⟨k, rs, hk, rfl, rfl, hok, hrl, hk5, hbw⟩ := hrel
    by_cases hlt : k < len ∧ k < 500
    · obtain ⟨h1, h2⟩ := hlt
      have hao' := hao (by omega)
      clear hao
      subst hao'
      have hck : wr.cell? ⟨b, off + k, none⟩ = some (.int .i64 (z.getD k 0)) := (hbw.cell (p := ⟨b, off + k, none⟩) (hblt (by omega))).trans (hcell k h1)
      obtain ⟨x, hx⟩ : ∃ x, bits BinOp.and IntKind.i64 (z[k]?.getD 0) 2097151 = x := ⟨_, rfl⟩
      have hb := and_mask (z[k]?.getD 0)
      rw [hx] at hb
      obtain ⟨hx0, hx1⟩ := hb
      clear hcell hblt hz
      have hc : x = 0 ∨ (0 < x ∧ x < 55296) ∨ (55296 ≤ x ∧ x ≤ 57343) ∨ (57343 < x ∧ x ≤ 1114111) ∨ 1114111 < x := by omega
      rcases hc with hc | ⟨hc, hc'⟩ | ⟨hc, hc'⟩ | ⟨hc, hc'⟩ | hc
      case inr.inl | inr.inr.inr.inl =>
        have hne : (x == 0) = false := by simp; omega
        have d3 : decide ((1114111 : Int) < x) = false := by simp; omega
        first | have d1 : decide ((55296 : Int) ≤ x) = false := by (simp; omega) | have d2 : decide (x ≤ 57343) = false := by (simp; omega)
        have hput := (show Hid (∀ w', Calls Try.prog 23 #[.int .i64 x] w' fun e w'' => e = .returned (.string ⟨(enc x.toNat).toArray⟩) ∧ Below w'.heap.size w' w'') from fun w' => put_int x hx0 (by omega) w')
        go_wp2_with (go_at_call 23; refine (hput.out _).mono ?_)
        rintro e w2 ⟨rfl, hb2⟩
        have hbd : (encAll rs).length + (enc x.toNat).length ≤ 3000 := by have h1 := (encAll_le rs).2; have h2 := enc_len x.toNat; omega
        go_wp2
        go_roundw
        case rel =>
          refine ⟨k + 1, rs ++ [x.toNat], by omega, by go_num, ?_, ?_, by simp; omega, by omega, hbw.trans (hb2.mono hbw.size)⟩
          · rw [encAll_append, encAll_cons, encAll_nil, List.append_nil, ← cat_eq]
          · intro r hr
            rcases List.mem_append.1 hr with h | h
            · exact hok r h
            · simp only [List.mem_cons, List.not_mem_nil, or_false] at h
              subst h
              exact ⟨by simp only [Ok]; omega, by omega⟩
        case measure => simp [intOf]; omega
      case inl =>
        subst hc
        go_wp2
        go_roundw
        case rel => exact ⟨k + 1, rs, by omega, by go_num, rfl, hok, by omega, by omega, hbw⟩
        case measure => simp [intOf]; omega
      all_goals
        have hne : (x == 0) = false := by simp; omega
        first | have d2 : decide (x ≤ 57343) = false := by (simp; omega) | have d2 : decide (x ≤ 57343) = true := by (simp; omega)
        go_wp2
        go_roundw
        case rel => exact ⟨k + 1, rs, by omega, by go_num, rfl, hok, by omega, by omega, hbw⟩
        case measure => simp [intOf]; omega
    · have hcv := Lib.run_convert_string_bytes (P := Try.prog) wr 9 22 5 ⟨(encAll rs).toArray⟩ Try.underlying9 Try.underlying22 Try.underlying5
      have hcl := clean_encAll rs hok
      have hle := (encAll_le rs).2
      rw [size_list] at hcv
      have hcall := clean_any _ _ _ _ _ (by omega) (bytes_conv wr (encAll rs) (grownCap wr (encAll rs).length 0 5))
      rw [hcl] at hcall
      have hcc : k < len ∨ len ≤ k := by omega
      have hbe := below_conv hbw hbw.size ⟨(encAll rs).toArray⟩
      clear hcell hblt hz hok hcl
      rcases hcc with hc | hc
      · have h5 : 500 ≤ k := by omega
        have hd : decide ((k : Int) < 500) = false := by simp; omega
        have hkl : ((k : Int) < (len : Int)) := by omega
        clear hlt
        go_wp2_with (go_at_call 10; refine hcall.mono ?_)
        rintro e w2 ⟨rfl, hb2⟩
        go_wp2
        go_ret
        exact ⟨rfl, hbe.trans (hb2.mono hbe.size)⟩
      · clear hlt
        go_wp2_with (go_at_call 10; refine hcall.mono ?_)
        rintro e w2 ⟨rfl, hb2⟩
        go_wp2
        go_ret
        exact ⟨rfl, hbe.trans (hb2.mono hbe.size)⟩

theorem walk (a : Option Addr) (len cap : Nat) (z : List Int) (w : World) (w0 : IsRow .i64 w a len cap z) :
    Calls Try.prog 8 #[.slice a len cap] w fun e w' => e = .returned (.bool true) ∧ Below w.heap.size w w' := by
  rcases w0 with ⟨rfl, rfl, rfl, rfl⟩ | ⟨x, rfl, hl, hm, hz, hcell, hwz⟩
  · exact walk_some none 0 0 0 0 [] w (fun h => by omega) (by omega) (by unfold maxLen; omega) rfl (fun i hi => by omega)
  · by_cases h0 : len = 0
    · subst h0
      exact walk_some (some x) 0 0 0 cap z w (fun h => by omega) hl hm hz (fun i hi => by omega)
    · obtain ⟨b, off, spot⟩ := x
      have hc := hcell 0 (by omega)
      have hspot : spot = none := by simpa [Addr.add] using World.cell?_spot hc
      subst hspot
      refine walk_some _ b off len cap z w (fun _ => rfl) hl hm hz (fun i hi => ?_)
      have := hcell i (by omega)
      have hadd : (⟨b, off, none⟩ : Addr).add i = ⟨b, off + i, none⟩ := by unfold Addr.add; split <;> simp_all
      rwa [hadd] at this

set_option maxRecDepth 100000 in
theorem lifted (os : Os) (started : os.Started) (H : Type) (enc : TypeId × Value → H) :
    ReturnsInHanded {} Try.checked os 8 .any (Rows.runesStaysSpec.pre6 enc Try.prog Try.f8 Rows.runesStaysRow.domain false) (Rows.runesStaysSpec.post enc Try.prog Try.f8 false true false false) := by
  refine returnsInHanded_of_change (C := Try.checked) own started (by kernel_rfl) Try.func8
    (ChangeSpec.witness6 (enc := enc) (C := Try.checked) false ⟨#[], #[.slice none 0 0], []⟩ 8 (by kernel_rfl) (by kernel_rfl) (by kernel_rfl) (by kernel_rfl)) ?_
  intro W base args ds gs before hval0 hW hcnd _
  have hval : ∀ (j : Nat) t v, Try.f8.params[j]? = some t → args[j]? = some v → Value.okWide Try.prog W .any base t v := hval0
  have hW' := hW
  obtain ⟨p, q, hA0, hV, rfl, hfz, hnd⟩ := hW
  have hA : DataW.TrodAll enc Try.prog W 0 (fun _ => true) true Try.f8.params.toList args.toList ds p := hA0
  rw [Try.params8] at hA hval
  obtain ⟨v0, vs0, d0, ds0, p0, q0, hargs, rfl, rfl, h0, r0⟩ := trodAll_cons hA
  obtain ⟨rfl, rfl, rfl⟩ := trodAll_nil r0
  obtain rfl : args = #[v0] := by cases args; simp_all
  obtain ⟨rfl, rfl⟩ := trodVars_none hV
  obtain ⟨a0, len0, cap0, rfl⟩ := okWide_slice Try.underlying36 (hval 0 36 v0 rfl rfl)
  have k0 := h0
  have lt0 : ∀ x ∈ p0, x.block < W.heap.size := by obtain ⟨m, hm⟩ := k0; exact DataW.trod_lt m _ _ _ hm
  obtain ⟨z0, w0⟩ : ∃ zs, IsRow .i64 W a0 len0 cap0 zs := by
    obtain ⟨fuel, hf⟩ := h0
    rcases open_ints Try.underlying36 Try.underlying3 (by kernel_rfl) hf with ⟨hcs, _⟩ | ⟨x, l, c, zs, hcs, _, hl, hm, hz, _, hcell, hwz⟩
    · simp [Value.cells] at hcs
      obtain ⟨rfl, rfl, rfl⟩ := hcs
      exact ⟨[], .inl ⟨rfl, rfl, rfl, rfl⟩⟩
    · simp [Value.cells] at hcs
      obtain ⟨rfl, rfl, rfl⟩ := hcs
      exact ⟨zs, .inr ⟨_, rfl, hl, hm, by simpa using hz, hcell, hwz⟩⟩
  clear hA0 hval0
  refine (walk a0 len0 cap0 z0 W w0).mono fun e W' ⟨he, bel⟩ => ?_
  subst he
  exact ⟨_, rfl, _, _, _, [], _, [], hW', trodAll_mk1 (shut_bool Try.underlying4 _), (trodAll_cons_mk (Below.trod laidOut (by kernel_rfl) (of_decide_eq_true (by kernel_rfl)) k0 bel lt0) trodAll_mk0), rfl, bel.frame _, fun h => by cases h⟩

theorem over : Rows.runesStaysRow.holds Try.pinned (OpenSpec.ofChange Rows.runesStaysSpec) :=
  OpenClaim.holds_of_wide 8 Try.f8 rfl rfl rfl rfl rfl rfl rfl ⟨rfl, rfl, rfl, rfl, rfl⟩ rfl rfl rfl rfl rfl (by kernel_rfl) Try.func8 (by kernel_rfl)
    (of_decide_eq_true (by kernel_rfl)) (by unfold Func.isWrapper; first | (rw [if_pos (by decide +kernel)]; kernel_rfl) | (rw [if_neg (by decide +kernel)]; exact ⟨rfl, rfl⟩))
    (fun os started H enc _ => lifted os started H enc)

theorem proved : Rows.RunesStaysSaid :=
  over
#print axioms proved
end Go.Proofs.Ytnpboadefhannaa.runesStays
