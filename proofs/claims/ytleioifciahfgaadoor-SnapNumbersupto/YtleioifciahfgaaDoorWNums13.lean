/- SnapNumbers' walk. -/
import Derived.Test.YtleioifciahfgaaDoorWBack13
import Derived.Test.YtleioifciahfgaaDoorZTextR
import Derived.Deep.RegionHeldLaw
set_option linter.unusedVariables false
namespace Go.Proofs.YtleioifciahfgaaDoor
open Go.RowKit

/-- A call by its contract, as a guarded step of a region that draws its order. -/
theorem step_callG {P : Program} {w : World} {ops : Array Oper} {o : Oper} {c : Act} {K : Act → World → Prop} {Q : Exit → Act → World → Prop} {E : Prop} {R : Ending → World → Prop}
    (hw : Region.wanted o (yielded ops c.tmps) = true) (f : FuncId) (args : Array Value) (hrun : (execOp c.eval o).run P w = .ok (.enter f args) w) (hc : Calls P f args w R)
    (hR : ∀ e w', R e w' → ∃ v, e = .returned v)
    (hK : ∀ v w', R (.returned v) w' → K (c.put o.dst v) w') :
    if Region.wanted o (yielded ops c.tmps) = true then Oper.wp P o c w K Q else E := by
  rw [if_pos hw]
  unfold Oper.wp
  rw [hrun, Oper.upon_enter]
  refine hc.mono fun e w' h => ?_
  obtain ⟨v, rfl⟩ := hR e w' h
  exact hK v w' h

set_option maxHeartbeats 4000000 in
set_option maxRecDepth 100000 in
theorem nums_any (a : Option Addr) (len cap : Nat) (l : List UInt8) (hlen : len ≤ 1048576) (hcap : len ≤ cap) (hcapm : cap ≤ 9223372036854775807) (n : Nat) (hn : n < 18446744073709551616) (s : ByteArray) (hs : s.size ≤ 1048576) (most : Int) (hmo : -9223372036854775808 ≤ most ∧ most ≤ 9223372036854775807) (w : World) (hr : BRow w a len cap l) (hG : EType w) :
    Calls Tryd.prog 3 #[.slice a len cap, .int .u64 (n : Int), .string s, .int .i64 most] w fun e w' => e = .returned (.bool true) ∧ Below w.heap.size w w' := by
  have hpl : (putN n).length ≤ 10 := putN_len n 10 (by omega) (by omega)
  have hpl2 : (putN s.size).length ≤ 10 := putN_len s.size 10 (by omega) (by omega)
  have hll := hr.1
  have hsl : s.data.toList.length = s.size := len_data s
  go_enter Tryd.func3, Tryd.ntmps3
  go_wp2_with (go_at_call 5; refine (shown_any w hG).mono ?_)
  rintro e w1 ⟨rfl, hb1⟩
  have hba : Below w1.heap.size w1 (w1.alloc (.cells #[] 5)) := (Below.refl _ _).alloc (Nat.le_refl _) _
  have hb0a := hb1.trans (hba.mono hb1.size)
  go_wp2_with (at_builtin; refine wpList_copy (own_made0 w1 w1.heap.size (Nat.le_refl _)) (hr.below hb0a) ?c1 hba.size rfl _ _ rfl rfl rfl ?_)
  case c1 => simp; omega
  intro v2 w2 hown2 hb12
  have hb2 := hba.trans hb12
  have hb02 := hb1.trans (hb2.mono hb1.size)
  go_wp2_with (at_builtin; refine wpList_copy (l := [99]) (hown2.alloc _) (brow_one _ _ _ rfl _) ?c1 ?c2 rfl _ _ rfl rfl rfl ?_)
  case c1 => simp; omega
  case c2 => simp; have := hb2.size; omega
  intro v3 w3 hown3 hb23
  have hb3 : Below w1.heap.size w1 w3 := (hb2.alloc hb2.size _).trans hb23
  have hb03 := hb1.trans (hb3.mono hb1.size)
  obtain ⟨a3, cap3, rfl, hle3, hcm3, hr3⟩ := own_all hown3
  unfold maxLen at hcm3
  have hl3 : (l ++ [99]).length = len + 1 := by simp; omega
  rw [hl3] at hle3 hr3
  obtain ⟨x3, rfl, _⟩ := hr3.at 0 (by omega)
  have hrt : BRow w3 (some x3) len cap3 l := by
    have := hr3.take len (by omega)
    rwa [List.take_left' hll] at this
  have hr0 : BRow w3 a len cap l := hr.below hb03
  have c1 := getnum_any (some x3) len cap3 l w3 hrt (by unfold maxLen; omega)
  have c2 := rgetnum_any a len cap l w3 hr0 (by unfold maxLen; omega)
  have c3 := getText_any (some x3) len cap3 l most w3 hrt (by omega) (by omega) (by omega) hmo
  have c4 := rgetText_any a len cap l most w3 hr0 (by omega) hcap hcapm hmo
  generalize getN 0 0 l = G at c1 c2
  generalize getT l most = H at c3 c4
  have c5 := putNumber_any (some x3) len cap3 l n w3 hrt hn (by omega)
  clear hown3 hown2
  go_wp2_with (fail)
  refine c1.mono ?_
  rintro e w' ⟨rfl, he⟩
  have he := he.symm
  subst he
  clear c1
  go_wp2_with (fail)
  refine c2.mono ?_
  rintro e w' ⟨rfl, he⟩
  have he := he.symm
  subst he
  clear c2
  go_wp2_with (fail)
  refine c3.mono ?_
  rintro e w' ⟨rfl, he⟩
  have he := he.symm
  subst he
  clear c3
  go_wp2_with (fail)
  refine c4.mono ?_
  rintro e w' ⟨rfl, he⟩
  have he := he.symm
  subst he
  clear c4
  go_wp2_with (fail)
  refine c5.mono ?_
  rintro e w5 ⟨v5, rfl, hown5, hb35⟩
  clear c5
  have c6 := putText_any (some x3) len cap3 l s w5 (hrt.below hb35) (by omega)
  go_wp2_with (fail)
  refine c6.mono ?_
  rintro e w7 ⟨v7, rfl, hown7, hb57⟩
  clear c6
  have hb37 := hb35.trans (hb57.mono hb35.size)
  have hb07 := hb03.trans (hb37.mono hb03.size)
  obtain ⟨P, hP⟩ : ∃ P, l ++ putN n = P := ⟨_, rfl⟩
  obtain ⟨T, hT⟩ : ∃ T, l ++ putT s.data.toList = T := ⟨_, rfl⟩
  rw [hP] at hown5
  rw [hT] at hown7
  obtain ⟨a5, cap5, rfl, hle5, hcm5, hr5⟩ := own_all hown5
  obtain ⟨a7, cap7, rfl, hle7, hcm7, hr7⟩ := own_all hown7
  have HS : Hid (∀ u, Below w7.heap.size w7 u →
      ((convert 22 9 (.slice a5 P.length cap5)).run Tryd.prog u = .ok (.string ⟨P.toArray⟩) u ∧
      (convert 22 9 (.slice a7 T.length cap7)).run Tryd.prog u = .ok (.string ⟨T.toArray⟩) u ∧
      (convert 22 9 (.slice (some x3) (len + 1) cap3)).run Tryd.prog u = .ok (.string ⟨(l ++ [99]).toArray⟩) u ∧
      (convert 22 9 (.slice a len cap)).run Tryd.prog u = .ok (.string ⟨l.toArray⟩) u)) := fun u hu =>
    ⟨(hr5.below (hb57.trans (hu.mono hb57.size))).string, (hr7.below hu).string, (hr3.below (hb37.trans (hu.mono hb37.size))).string, (hr.below (hb07.trans (hu.mono hb07.size))).string⟩
  have HN : Hid (∀ u, Below w7.heap.size w7 u → Calls Tryd.prog 12 #[.slice a len cap, .int .u64 (n : Int)] u (Made u P)) := fun u hu =>
    rputNumber_any a len cap l n u (hr.below (hb07.trans (hu.mono hb07.size))) hn (by omega) |> fun c => by rw [hP] at c; exact c
  have HP : Hid (∀ u, Below w7.heap.size w7 u → Calls Tryd.prog 13 #[.slice a len cap, .string s] u (Made u T)) := fun u hu =>
    rputText_any a len cap l s u (hr.below (hb07.trans (hu.mono hb07.size))) (by omega) |> fun c => by rw [hT] at c; exact c
  have hcat : ByteArray.mk l.toArray ++ ByteArray.mk #[99] = ⟨(l ++ [99]).toArray⟩ := cat_eq l [99]
  have HD : Hid (Below w7.heap.size w7 w7.drew) := ⟨rfl, rfl, rfl, Nat.le_refl _, fun _ _ => rfl⟩
  have hI1 : (len : Int) + 1 ≤ (cap3 : Int) := by omega
  have hI0 : (0 : Int) ≤ (len : Int) + 1 := by omega
  have hI2 : ¬ cap3 = 0 := by omega
  have hI3 : ¬ (0 : Nat) = cap3 := by omega
  have hI4 : ((len : Int) + 1).toNat = len + 1 := by omega
  have hwr : IntKind.i64.wrap ((len : Int) + 1) = (len : Int) + 1 := by rw [IntKind.wrap_i64]; omega
  have hsl : ∀ u, (Instr.slice 22 (.slice (some x3) len cap3) none (some (.int .i64 ((len : Int) + 1))) none).run Tryd.prog u = .ok (.slice (some x3) (len + 1) cap3) u := fun u => by
    rw [run_slice_h (P := Tryd.prog) u 22 (some x3) len cap3 Tryd.underlying22 .i64 _ hI0 hI1]
    simp [go_sem, hI4]
  have hsl2 : ∀ u, (Instr.sliceAt 22 (.slice (some x3) len cap3) none (some (.int .i64 ((len : Int) + 1))) none).run Tryd.prog u = .ok (.slice (some x3) (len + 1) cap3) u := fun u => by
    rw [run_sliceAt_slice (P := Tryd.prog) u 22 _ _ _ _ Tryd.underlying22]
    exact hsl u
  have hadd : ∀ u, (Op.stringOp .add ⟨l.toArray⟩ ⟨#[99]⟩).run Tryd.prog u = .ok (.string ⟨(l ++ [99]).toArray⟩) u := fun u => by
    rw [run_string_add_sum (P := Tryd.prog) u _ _ (by rw [size_list]; show l.length + 1 ≤ _; omega), hcat]
  have hbd1 : len + 1 ≤ 9223372036854775807 := by omega
  clear hP hT hr5 hr7 hr3 hrt hr0 hr hown5 hown7 hle5 hle7 hle3 hcm5 hcm7 hb3 hb2 hb12 hb23 hba hb0a hb02 hb35 hb57 hb37
  go_wp2_with (fail)
  go_region_held_law (fun u => (convert 22 9 (.slice a5 P.length cap5)).run Tryd.prog u = .ok (.string ⟨P.toArray⟩) u ∧
      (convert 22 9 (.slice a7 T.length cap7)).run Tryd.prog u = .ok (.string ⟨T.toArray⟩) u ∧
      (convert 22 9 (.slice (some x3) (len + 1) cap3)).run Tryd.prog u = .ok (.string ⟨(l ++ [99]).toArray⟩) u ∧
      (convert 22 9 (.slice a len cap)).run Tryd.prog u = .ok (.string ⟨l.toArray⟩) u) (first | exact HS.out _ HD.out | exact HS.out _ HB8.out | exact HS.out _ HB9.out)
    (first
      | (go_at_call 12; refine (HN.out _ HD.out).mono ?_; rintro e w8 ⟨v8, rfl, hown8, hb8⟩; obtain ⟨a8, cap8, rfl, _, _, hr8⟩ := own_all hown8; have HB8 : Hid (Below w7.heap.size w7 w8) := HD.out.trans hb8; have f5 := hr8.string; clear hown8 hr8 hb8)
      | (go_at_call 13; refine (HP.out _ HB8.out).mono ?_; rintro e w9 ⟨v9, rfl, hown9, hb9⟩; obtain ⟨a9, cap9, rfl, _, _, hr9⟩ := own_all hown9; have HB9 : Hid (Below w7.heap.size w7 w9) := HB8.out.trans (hb9.mono HB8.out.size); have g5 := hr9.string; clear hown9 hr9 hb9))
  all_goals
    go_wp2
    go_ret
    exact ⟨rfl, hb07.trans (HB9.out.mono hb07.size)⟩
end Go.Proofs.YtleioifciahfgaaDoor
