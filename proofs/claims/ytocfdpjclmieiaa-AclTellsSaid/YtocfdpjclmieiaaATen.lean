/- Tenants; walked. -/
import Derived.Test.YtocfdpjclmieiaaXTen
set_option linter.unusedVariables false
namespace Go.Proofs.Ytocfdpjclmieiaa
open Go.RowKit

theorem may_right {l : List GrA} (h : rightA l = true) (t o : StrA) : mayA l t o = mayInA l t o := by rw [may_is, h]; rfl
theorem ten_wrong {l : List GrA} (h : rightA l = false) (who : StrA) (all : List StrA) : tenL l who all = [] := by
  unfold tenL
  refine List.filter_eq_nil_iff.2 fun t _ => ?_
  rw [may_is, h]
  simp
set_option maxHeartbeats 8000000 in
set_option maxRecDepth 8000 in
theorem aten_any (l : List GrA) (hle : Lens l) (all : List StrA) (hal2 : all.length ≤ 100) (who : StrA) (hO : who.length ≤ 9223372036854775000) (v v2 : Value) (w : World) (hv : GrsAt w v l) (hv2 : StrsAt w v2 all) : Calls Try.prog 8 #[v, v2, strA who] w fun e w' => (∃ v', e = .returned v' ∧ w'.ownsRow w.heap.size 9 1 v' (tenL l who all).length ((tenL l who all).map strA)) ∧ Below w.heap.size w w' := by
  have HR : Hid (Calls Try.prog 11 #[v] w fun e w' => e = .returned (.bool (rightA l)) ∧ Below w.heap.size w w') := aright_any l hle v w hv
  cases hr : rightA l
  · rw [hr] at HR
    have HE := (show Hid (tenL l who all = []) from ten_wrong hr who all)
    obtain ⟨a0, c0, rfl, _⟩ := hv
    obtain ⟨a, cap, rfl, hc⟩ := hv2
    clear hc hle hO hr
    go_enter Try.func8, Try.ntmps8
    go_wp2_with (go_at_call 11; refine Calls.mono HR.out ?_; rintro e u1 ⟨rfl, hb1⟩; have HB1 := (show Hid (Below w.heap.size w u1) from hb1); clear hb1)
    go_ret
    refine ⟨⟨_, rfl, ?_⟩, HB1.out⟩
    rw [HE.out]
    exact World.ownsRow_nil _ _ _ _
  · obtain ⟨h64, _, hasc⟩ := right_asc hr
    have HM : Hid (∀ t u, Below w.heap.size w u → Calls Try.prog 21 #[v, strA t, strA who] u fun e w' => e = .returned (.int .i64 (mayA l t who)) ∧ Below u.heap.size u w') := fun t u hu => by rw [may_right hr]; exact amayIn_any l h64 hasc t who hO v u (hv.below hu)
    rw [hr] at HR
    obtain ⟨a0, c0, rfl, _⟩ := hv
    obtain ⟨a, cap, rfl, hc⟩ := hv2
    have HC := (show Hid (∀ i s, all[i]? = some s → ∃ b o, a = some ⟨b, o, none⟩ ∧ b < w.heap.size ∧ w.cell? ⟨b, o + i, none⟩ = some (strA s)) from hc)
    have hli : (all.length : Int) ≤ 100 := by omega
    obtain ⟨i0, hi, hz0, hz1, hz2⟩ := info_parts info11S
    clear hc hle hO hr hasc
    go_enter Try.func8, Try.ntmps8
    go_wp2_with (go_at_call 11; refine Calls.mono HR.out ?_; rintro e u1 ⟨rfl, hb1⟩; have HB1 := (show Hid (Below w.heap.size w u1) from hb1); clear hb1)
    go_loopw [7, 15] (fun x i wr => ∃ k : Nat, i = .int .i64 (k : Int) ∧ k ≤ all.length ∧ Hid (wr.ownsRow w.heap.size 9 1 x (tenL l who (all.take k)).length ((tenL l who (all.take k)).map strA)) ∧ Hid (Below w.heap.size w wr)) (fun _ i _ => all.length - (intOf i).toNat)
    case atStart => exact ⟨0, rfl, Nat.zero_le _, World.ownsRow_nil _ _ _ _, HB1⟩
    case round =>
      obtain ⟨k, rfl, hk, HR1, HB⟩ := hrel
      obtain ⟨av, cv, hvv⟩ := arow_len HR1.out
      subst hvv
      by_cases hlt : k < all.length
      · have hlt1 : (k : Int) < (all.length : Int) := by omega
        obtain ⟨s, hg⟩ : ∃ s, all[k]? = some s := ⟨_, List.getElem?_eq_getElem hlt⟩
        obtain ⟨b, o, ha, hbw, q0⟩ := HC.out k s hg
        subst ha
        have d0 : wr.cell? ⟨b, o + k, none⟩ = some (strA s) := (HB.out.cell (p := ⟨b, o + k, none⟩) hbw).trans q0
        have HMs : Hid (Calls Try.prog 21 #[.slice a0 l.length c0, strA s, strA who] wr fun e w' => e = .returned (.int .i64 (mayA l s who)) ∧ Below wr.heap.size wr w') := HM.out s wr HB.out
        have HT := (show Hid (tenL l who (all.take (k + 1)) = tenL l who (all.take k) ++ (if 1 ≤ mayA l s who then [s] else [])) from ten_next l who hg)
        have HLn : Hid ((tenL l who (all.take k)).length ≤ k) := by
          show _ ≤ _
          refine Nat.le_trans (List.length_filter_le _ _) ?_
          rw [List.length_take]; omega
        clear HM HC hg q0
        generalize mayA l s who = V at *
        obtain ⟨T1, HT1⟩ : ∃ T1, Hid (T1 = tenL l who (all.take (k + 1))) := ⟨_, rfl⟩
        rw [← HT1.out] at HT
        generalize tenL l who (all.take k) = T0 at *
        go_wp2_with (go_at_call 21; refine Calls.mono HMs.out ?_)
        first | (intro e u2 he1 hb2; subst he1) | rintro e u2 ⟨rfl, hb2⟩
        have HB2 := (show Hid (Below w.heap.size w u2) from HB.out.trans (hb2.mono HB.out.size))
        have HR2 := (show Hid (World.ownsRow u2 w.heap.size 9 1 (.slice av T0.length cv) T0.length (T0.map strA)) from arow_keepsX HR1.out hb2)
        clear hb2 HMs d0 HR1 HB
        by_cases h1 : 1 ≤ V
        · have hT : T1 = T0 ++ [s] := by rw [HT.out, if_pos h1]
          subst hT
          clear HT
          have hT0 : T0.length ≤ 100 := by have := HLn.out; omega
          go_wp2_with (at_builtin; refine wpList_append_own_at _ rfl _ _ 23 rfl w.heap.size 9 i0 (.string ⟨#[]⟩) 1 16 Try.underlying23 hi hz0 hz1 hz2 rfl (by decide) _ _ _ rfl (World.ownsRow.alloc HR2.out _) ⟨u2.heap.size, 0, none⟩ 1 1 [strA s] rfl rfl (lit_cells _ _ _) (fun u hu => by simp at hu; subst hu; rfl) (by unfold maxLen; omega) (by omega) (by have := HB2.out.size; simp; omega) ?_)
          intro v3 w3 hown3 hgrow3 _ _
          have HB3 := (show Hid (Below w.heap.size w w3) from (HB2.out.alloc HB2.out.size _).grown hgrow3 (by have := HB2.out.size; simp; omega) (fun k hk => (World.ownsRow.lt HR2.out k hk).1))
          have HO3 := (show Hid (w3.ownsRow w.heap.size 9 1 v3 (T0 ++ [s]).length ((T0 ++ [s]).map strA)) from (by rw [List.length_append, List.map_append]; exact hown3))
          obtain ⟨av3, cv3, hv3⟩ := arow_len HO3.out
          subst hv3
          clear hown3 hgrow3 HR2 HB2
          go_wp2
          go_roundw
          case rel => exact ⟨k + 1, by go_num, by omega, (by rw [← HT1.out]; exact HO3), HB3⟩
          case measure => (simp [intOf]) <;> omega
        · have hT : T1 = T0 := by rw [HT.out, if_neg h1, List.append_nil]
          subst hT
          have h1b : V < 1 := by omega
          clear HT h1
          go_wp2
          go_roundw
          case rel => exact ⟨k + 1, by go_num, by omega, (by rw [← HT1.out]; exact HR2), HB2⟩
          case measure => (simp [intOf]) <;> omega
      · have hlt1 : ¬ (k : Int) < (all.length : Int) := by omega
        obtain rfl : k = all.length := by omega
        have hkl : all.take all.length = all := List.take_of_length_le (Nat.le_refl _)
        have HR2 := (show Hid (wr.ownsRow w.heap.size 9 1 (.slice av (tenL l who (all.take all.length)).length cv) (tenL l who all).length ((tenL l who all).map strA)) from by have := HR1.out; rwa [hkl] at this ⊢)
        clear HM HC HR1
        generalize (tenL l who (all.take all.length)).length = n at *
        go_wp2
        go_ret
        exact ⟨⟨_, rfl, HR2.out⟩, HB.out⟩
end Go.Proofs.Ytocfdpjclmieiaa
