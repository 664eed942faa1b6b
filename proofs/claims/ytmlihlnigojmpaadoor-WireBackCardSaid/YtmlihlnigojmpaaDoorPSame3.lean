/- Are two rows of entries the same: walked. -/
import Derived.Test.YtmlihlnigojmpaaDoorPSame2
import Derived.Test.YtmlihlnigojmpaaDoorROrd
import Derived.Test.YtmlihlnigojmpaaDoorWPut1
set_option linter.unusedVariables false
namespace Go.Proofs.YtmlihlnigojmpaaDoor
open Go.RowKit

set_option maxHeartbeats 8000000 in
set_option maxRecDepth 40000 in
theorem sameEntries_any {w : World} {a b : Option Addr} {n m c d : Nat} {es fs : List En} (h : EnRow w a es) (k : EnRow w b fs) (hn : es.length = n) (hm : fs.length = m) (hn2 : n ≤ 140737488355328) (hm2 : m ≤ 140737488355328) :
    Calls Tryd.prog 39 #[.slice a n c, .slice b m d] w fun e w' => e = .returned (.bool (decide (es = fs))) ∧ Below w.heap.size w w' := by
  obtain ⟨R, hR⟩ : ∃ R, decide (es = fs) = R := ⟨_, rfl⟩
  rw [hR]
  have bn : (n : Int) ≤ 140737488355328 := by omega
  have bm : (m : Int) ≤ 140737488355328 := by omega
  by_cases hnm : n = m
  · subst hnm
    have HZ : Hid (EnRow w a es ∧ EnRow w b fs ∧ es.length = n ∧ fs.length = n ∧ decide (es = fs) = R) := ⟨h, k, hn, hm, hR⟩
    clear h k hn hm hn2 hm2 hR
    go_enter Tryd.func39, Tryd.ntmps39
    go_wp2_with fail
    go_loopw [5] (fun i wr => ∃ (j : Nat), i = .int .i64 (j : Int) ∧ j ≤ n ∧ Hid (es.take j = fs.take j) ∧ Hid (Below w.heap.size w wr)) (fun i _ => n - (intOf i).toNat)
    case atStart => exact ⟨0, rfl, Nat.zero_le _, by simp [Hid], Below.refl _ _⟩
    case round =>
      obtain ⟨j, rfl, hj, HG, HB⟩ := hrel
      by_cases hlt : j < n
      · obtain ⟨e, he⟩ : ∃ z, es[j]? = some z := ⟨es[j]'(by have := HZ.out; omega), List.getElem?_eq_getElem _⟩
        obtain ⟨f, hf⟩ : ∃ y, fs[j]? = some y := ⟨fs[j]'(by have := HZ.out; omega), List.getElem?_eq_getElem _⟩
        obtain ⟨g, o, da, dc, na, nc, hx, hat⟩ := (HZ.out.1.below HB.out) j e he
        obtain ⟨g2, o2, da2, dc2, na2, nc2, hx2, hat2⟩ := (HZ.out.2.1.below HB.out) j f hf
        subst hx
        subst hx2
        obtain ⟨dn, hdn⟩ : ∃ q, e.data.length = q := ⟨_, rfl⟩
        obtain ⟨nn, hnn⟩ : ∃ q, e.nodes.length = q := ⟨_, rfl⟩
        obtain ⟨dn2, hdn2⟩ : ∃ q, f.data.length = q := ⟨_, rfl⟩
        obtain ⟨nn2, hnn2⟩ : ∃ q, f.nodes.length = q := ⟨_, rfl⟩
        have HX : Hid (∀ u, Below wr.heap.size wr u → u.cell? ⟨g, o + j * 5, none⟩ = some (.int .i64 e.idx) ∧ u.cell? ⟨g, o + j * 5 + 1, none⟩ = some (.int .i64 e.term) ∧ u.cell? ⟨g, o + j * 5 + 2, none⟩ = some (.int .i64 e.kind) ∧ u.cell? ⟨g, o + j * 5 + 3, none⟩ = some (.slice da dn dc) ∧ u.cell? ⟨g, o + j * 5 + 4, none⟩ = some (.slice na nn nc)) := fun u hu => by
          have h9 := hat.below hu
          rw [← hdn, ← hnn]
          exact ⟨h9.c0, h9.c1, h9.c2, h9.c3, h9.c4⟩
        have HY : Hid (∀ u, Below wr.heap.size wr u → u.cell? ⟨g2, o2 + j * 5, none⟩ = some (.int .i64 f.idx) ∧ u.cell? ⟨g2, o2 + j * 5 + 1, none⟩ = some (.int .i64 f.term) ∧ u.cell? ⟨g2, o2 + j * 5 + 2, none⟩ = some (.int .i64 f.kind) ∧ u.cell? ⟨g2, o2 + j * 5 + 3, none⟩ = some (.slice da2 dn2 dc2) ∧ u.cell? ⟨g2, o2 + j * 5 + 4, none⟩ = some (.slice na2 nn2 nc2)) := fun u hu => by
          have h9 := hat2.below hu
          rw [← hdn2, ← hnn2]
          exact ⟨h9.c0, h9.c1, h9.c2, h9.c3, h9.c4⟩
        obtain ⟨B, hB⟩ : ∃ B, decide (e = f) = B := ⟨_, rfl⟩
        have HS : Hid (∀ u, Below wr.heap.size wr u → Calls Tryd.prog 60 #[enV e.idx e.term e.kind da dn dc na nn nc, enV f.idx f.term f.kind da2 dn2 dc2 na2 nn2 nc2] u fun r w' => r = .returned (.bool B) ∧ Below u.heap.size u w') := fun u hu => by
          have h9 := hat.below hu
          have h8 := hat2.below hu
          rw [← hdn, ← hnn, ← hdn2, ← hnn2, ← hB]
          exact sameEntry_any e f h9.row h9.nod rfl h8.row h8.nod rfl h9.nl h8.nl
        have HBj : Hid (decide (e = f) = B ∧ es[j]? = some e ∧ fs[j]? = some f) := ⟨hB, he, hf⟩
        have jI : (j : Int) < (n : Int) := by omega
        have j0 : (0 : Int) ≤ (j : Int) := by omega
        clear hB he hf hat hat2 hdn hnn hdn2 hnn2
        go_upto_region 6 with fail
        refine regionC (fun (w' : World) => Below wr.heap.size wr w') 9 (by kernel_rfl) ?_
        (try (change wpAnyC _ _ _ _ _ _ _ _ _ (World.drew _)))
        refine nameW (fun W0 hW0 => ?_)
        have hC : Hid (Below wr.heap.size wr W0) := by show Below _ _ _; rw [hW0]; exact ⟨rfl, rfl, rfl, Nat.le_refl _, fun _ _ => rfl⟩
        clear hW0
        refine takeC (i := 0) (v := ?_) rfl (by kernel_rfl) (by kernel_rfl) (by kernel_rfl) (by kernel_rfl) (by kernel_rfl) (fun _ _ _ h => h) hC.out (Or.inl ⟨by rfl, ?_⟩) ?_
        rotate_left 1
        · intro w' hw'
          skip
          go_simp
          first | done | with_reducible rfl
        (try simp only [Act.put])
        (try simp only [List.setIfInBounds_toArray])
        (try simp only [List.set_cons_succ])
        (try simp only [List.set_cons_zero])
        refine takeC (i := 1) (v := ?_) rfl (by kernel_rfl) (by kernel_rfl) (by kernel_rfl) (by kernel_rfl) (by kernel_rfl) (fun _ _ _ h => h) hC.out (Or.inl ⟨by rfl, ?_⟩) ?_
        rotate_left 1
        · intro w' hw'
          skip
          go_simp
          first | done | with_reducible rfl
        (try simp only [Act.put])
        (try simp only [List.setIfInBounds_toArray])
        (try simp only [List.set_cons_succ])
        (try simp only [List.set_cons_zero])
        refine takeC (i := 2) (v := ?_) rfl (by kernel_rfl) (by kernel_rfl) (by kernel_rfl) (by kernel_rfl) (by kernel_rfl) (fun _ _ _ h => h) hC.out (Or.inl ⟨by rfl, ?_⟩) ?_
        rotate_left 1
        · intro w' hw'
          skip
          go_simp
          first | done | with_reducible rfl
        (try simp only [Act.put])
        (try simp only [List.setIfInBounds_toArray])
        (try simp only [List.set_cons_succ])
        (try simp only [List.set_cons_zero])
        refine takeC (i := 3) (v := ?_) rfl (by kernel_rfl) (by kernel_rfl) (by kernel_rfl) (by kernel_rfl) (by kernel_rfl) (fun _ _ _ h => h) hC.out (Or.inl ⟨by rfl, ?_⟩) ?_
        rotate_left 1
        · intro w' hw'
          obtain ⟨z0, z1, z2, z3, z4⟩ := HX.out w' hw'
          go_simp
          first | done | with_reducible rfl
        (try simp only [Act.put])
        (try simp only [List.setIfInBounds_toArray])
        (try simp only [List.set_cons_succ])
        (try simp only [List.set_cons_zero])
        refine takeC (i := 4) (v := ?_) rfl (by kernel_rfl) (by kernel_rfl) (by kernel_rfl) (by kernel_rfl) (by kernel_rfl) (fun _ _ _ h => h) hC.out (Or.inl ⟨by rfl, ?_⟩) ?_
        rotate_left 1
        · intro w' hw'
          skip
          go_simp
          first | done | with_reducible rfl
        (try simp only [Act.put])
        (try simp only [List.setIfInBounds_toArray])
        (try simp only [List.set_cons_succ])
        (try simp only [List.set_cons_zero])
        refine takeC (i := 5) (v := ?_) rfl (by kernel_rfl) (by kernel_rfl) (by kernel_rfl) (by kernel_rfl) (by kernel_rfl) (fun _ _ _ h => h) hC.out (Or.inl ⟨by rfl, ?_⟩) ?_
        rotate_left 1
        · intro w' hw'
          skip
          go_simp
          first | done | with_reducible rfl
        (try simp only [Act.put])
        (try simp only [List.setIfInBounds_toArray])
        (try simp only [List.set_cons_succ])
        (try simp only [List.set_cons_zero])
        refine takeC (i := 6) (v := ?_) rfl (by kernel_rfl) (by kernel_rfl) (by kernel_rfl) (by kernel_rfl) (by kernel_rfl) (fun _ _ _ h => h) hC.out (Or.inl ⟨by rfl, ?_⟩) ?_
        rotate_left 1
        · intro w' hw'
          skip
          go_simp
          first | done | with_reducible rfl
        (try simp only [Act.put])
        (try simp only [List.setIfInBounds_toArray])
        (try simp only [List.set_cons_succ])
        (try simp only [List.set_cons_zero])
        refine takeC (i := 7) (v := ?_) rfl (by kernel_rfl) (by kernel_rfl) (by kernel_rfl) (by kernel_rfl) (by kernel_rfl) (fun _ _ _ h => h) hC.out (Or.inl ⟨by rfl, ?_⟩) ?_
        rotate_left 1
        · intro w' hw'
          obtain ⟨z0, z1, z2, z3, z4⟩ := HY.out w' hw'
          go_simp
          first | done | with_reducible rfl
        (try simp only [Act.put])
        (try simp only [List.setIfInBounds_toArray])
        (try simp only [List.set_cons_succ])
        (try simp only [List.set_cons_zero])
        refine readyC (rs := [8]) (by kernel_rfl) (by simp) ?_
        refine ReadyC.cons rfl (fun K hK => ?_) ReadyC.nil
        refine stepV_call rfl 60 #[enV e.idx e.term e.kind da dn dc na nn nc, enV f.idx f.term f.kind da2 dn2 dc2 na2 nn2 nc2] (by kernel_rfl) (HS.out W0 hC.out) (fun e' w' h => ?_) ?_
        · obtain ⟨rfl, _⟩ := h
          exact ⟨_, rfl⟩
        intro v1 W2 hq
        obtain ⟨hv1, hb⟩ := hq
        have hv1' := Ending.returned.inj hv1
        subst hv1'
        have hC2 : Below wr.heap.size wr W2 := hC.out.trans (hb.mono hC.out.size)
        refine hK _ _ (fun _ => hC2) ?_
        replace hC : Hid (Below wr.heap.size wr W2) := hC2
        clear hK K hv1 hb hC2 HS HX HY
        (try simp only [Act.put])
        (try simp only [List.setIfInBounds_toArray])
        (try simp only [List.set_cons_succ])
        (try simp only [List.set_cons_zero])
        refine readyC (rs := [9]) (by kernel_rfl) (by simp) ?_
        refine ReadyC.cons rfl (fun K hK => ?_) ReadyC.nil
        go_simp
        refine hK _ _ (fun h => absurd rfl h) ?_
        clear hK K
        (try simp only [Act.put])
        (try simp only [List.setIfInBounds_toArray])
        (try simp only [List.set_cons_succ])
        (try simp only [List.set_cons_zero])
        refine doneC (by kernel_rfl) ?_ _
        have HB2 : Hid (Below w.heap.size w W2) := HB.out.trans (hC.out.mono HB.out.size)
        clear hC
        cases B with
        | true =>
          have HG2 : Hid (es.take (j + 1) = fs.take (j + 1)) := by
            show _ = _
            have h1 := (List.getElem?_eq_some_iff.1 HBj.out.2.1)
            have h2 := (List.getElem?_eq_some_iff.1 HBj.out.2.2)
            have h3 : e = f := by simpa using HBj.out.1
            rw [List.take_succ_eq_append_getElem h1.1, List.take_succ_eq_append_getElem h2.1, HG.out, h1.2, h2.2, h3]
          clear HBj HG HB
          go_wp2_with fail
          go_roundw
          case rel => exact ⟨j + 1, by first | rfl | go_num, by omega, HG2, HB2⟩
          case measure => simp [intOf]; omega
        | false =>
          have HF : Hid (R = false) := by
            show R = false
            rw [← HZ.out.2.2.2.2]
            have h3 : ¬ e = f := by simpa using HBj.out.1
            simp
            intro e9
            have h1 := HBj.out.2.1
            rw [e9, HBj.out.2.2] at h1
            exact h3 (Option.some.inj h1).symm
          clear HBj HG HB
          go_wp2_with fail
          go_ret
          exact ⟨by rw [HF.out]; rfl, HB2.out⟩
      · have hjn : j = n := by omega
        subst hjn
        have HF : Hid (R = true) := by
          show R = true
          rw [← HZ.out.2.2.2.2]
          have h1 := HG.out
          rw [List.take_of_length_le (by have := HZ.out; omega), List.take_of_length_le (by have := HZ.out; omega)] at h1
          simp [h1]
        clear HG
        go_wp2_with fail
        go_ret
        exact ⟨by rw [HF.out]; rfl, HB.out⟩
  · have q1 : ((n : Int) != (m : Int)) = true := by simp; omega
    have HF : Hid (R = false) := by
      show R = false
      rw [← hR]
      simp
      intro e
      rw [e, hm] at hn
      exact hnm hn.symm
    clear hR h k hn hm hn2 hm2
    go_enter Tryd.func39, Tryd.ntmps39
    go_wp2_with fail
    go_ret
    exact ⟨by rw [HF.out]; rfl, Below.refl _ _⟩
end Go.Proofs.YtmlihlnigojmpaaDoor
