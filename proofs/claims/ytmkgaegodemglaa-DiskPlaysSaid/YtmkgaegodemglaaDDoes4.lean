/- does: a step on a disk and on the document's; walked. -/
import Derived.Test.YtmkgaegodemglaaDDoes0
import Derived.Deep.CutRange
set_option linter.unusedVariables false
namespace Go.Proofs.Ytmkgaegodemglaa
open Go.RowKit

set_option maxHeartbeats 8000000 in
set_option maxRecDepth 20000 in
theorem does4_any {w0 w : World} {b m c : Nat} {S1 S2 : Nat → Prop} {d : Dk} (h : PrD w b m c S1 S2 d) (hb0 : Below w0.heap.size w0 w) (hS0 : ∀ k, S1 k ∨ S2 k → w0.heap.size ≤ k) (n tn : Nm) (hn : n.length ≤ 140737488355328) (hto : tn.length ≤ 140737488355328) (ba : Option Addr) (bl0 bc : Nat) (l0 : List UInt8) (hr : BRow w0 ba bl0 bc l0) (hbc : bl0 ≤ bc) (hbl : bl0 ≤ 140737488355328) (k : Int) (hk : -9223372036854775808 ≤ k ∧ k ≤ 9223372036854775807) (keep : Nat) (hkp : keep < 18446744073709551616)
    (hus : usedL d.files + 3000 ≤ 1099511627776) (hfw : d.files.length + 1 ≤ 1048576) :
    Calls Try.prog 12 #[dptr b, dptr c, .agg #[.int .i64 4, strN n, strN tn, .slice ba bl0 bc, .int .i64 k, .int .u64 (keep : Int)]] w fun e w' => e = .returned (.bool true) ∧ BothD w b m c S1 S2 (stepD d 4 n tn (l0.take 3000) k keep) w' := by
  obtain ⟨l, hl⟩ : ∃ l, l0.take 3000 = l := ⟨_, rfl⟩
  rw [hl]
  have HTk : Hid (l0.take 3000 = l) := hl
  clear hl
  have HP : Hid (PrD w b m c S1 S2 d) := h
  have HR0 : Hid (BRow w0 ba bl0 bc l0) := hr
  have HB0 : Hid (Below w0.heap.size w0 w) := hb0
  have HS0g : Hid (∀ k, S1 k ∨ S2 k → w0.heap.size ≤ k) := hS0
  have jb0 : (bl0 : Int) ≤ 140737488355328 := by omega
  have HC0 : Hid (bl0 ≤ bc) := hbc
  have HL0 : Hid (l0.length = bl0) := hr.1
  clear h hr hbc hb0 hS0
  have hnew : ∀ cs : Array Value, (w.alloc (.cells cs 32)).heap[w.heap.size]? = some (.cells cs 32 (0, 0)) := fun cs => by
    show (w.heap.push _)[w.heap.size]? = _
    exact Array.getElem?_push_size
  go_enter Try.func12, Try.ntmps12
  go_upto_if 13 with fail
  go_cut [] from 10 to 145 (fun wx => ∃ bl, Hid (BxR w0 w wx 4 n tn ba bl bc k keep l))
  case first =>
    by_cases hlt : (3000 : Int) < (bl0 : Int)
    · have q : decide ((3000 : Int) < (bl0 : Int)) = true := by simpa using hlt
      have s1 : ∀ w, (Instr.slice 29 (.slice ba bl0 bc) none (some (.int .i64 3000)) none).run Try.prog w = .ok (.slice ba 3000 bc) w := slice_to ba bl0 bc 3000 (by omega) HC0.out
      have h3 : 3000 ≤ bc := by have := HC0.out; omega
      have h3' : (3000 : Int) ≤ (bc : Int) := by omega
      have HB := (show Hid (BxR w0 w _ 4 n tn ba 3000 bc k keep l) from ⟨(show Below w.heap.size w (w.alloc (.cells #[.int .i64 4, strN n, strN tn, .slice ba 3000 bc, .int .i64 k, .int .u64 (keep : Int)] 32)) from (Below.refl _ w).alloc (Nat.le_refl _) _), hnew _, by rw [← HTk.out]; exact HR0.out.pre (by omega), by have := HC0.out; omega, Nat.le_refl _⟩)
      clear hlt hnew
      rw [q]
      go_wp2
      go_meet
      case rel => exact ⟨3000, HB⟩
    · have q : decide ((3000 : Int) < (bl0 : Int)) = false := by simpa using hlt
      have HB := (show Hid (BxR w0 w _ 4 n tn ba bl0 bc k keep l) from ⟨(show Below w.heap.size w (w.alloc (.cells #[.int .i64 4, strN n, strN tn, .slice ba bl0 bc, .int .i64 k, .int .u64 (keep : Int)] 32)) from (Below.refl _ w).alloc (Nat.le_refl _) _), hnew _, by rw [← HTk.out, List.take_of_length_le (by have := HL0.out; omega)]; exact HR0.out, HC0.out, by omega⟩)
      clear hlt hnew
      rw [q]
      go_wp2
      go_meet
      case rel => exact ⟨bl0, HB⟩
  case rest =>
    obtain ⟨bl, HBx⟩ := hcut
    clear HTk HR0 HL0 HC0 jb0 hbl hnew
    obtain ⟨wa, hwa⟩ : ∃ wa, wa = wc := ⟨_, rfl⟩
    subst hwa
    have jbl : (bl : Int) ≤ 3000 := by have := HBx.out.le; omega
    have HLl : Hid (l.length = bl) := HBx.out.row.1
    go_upto_region 3 with fail
    go_cut [7] from 10 to 145 (fun v7 wx => ∃ av cv, v7 = .slice av bl cv ∧ Hid (LnR w wx av bl cv l) ∧ Hid (Below wa.heap.size wa wx))
    case first =>
      have HC1c : ∀ w', Below wa.heap.size wa w' → w'.cell? ⟨w.heap.size, 3, none⟩ = some (.slice ba bl bc) := fun w' hw' => cell_blk ((hw'.block _ (lt_blk HBx.out.blk)).trans HBx.out.blk) rfl
      have HWc : Hid (w.heap.size + 1 ≤ wa.heap.size) := by have := lt_blk HBx.out.blk; exact this
      have HRw : Hid (BRow wa ba bl bc l) := HBx.out.row.below (HB0.out.trans (HBx.out.below.mono HB0.out.size))
      refine regionC (fun w' => Below wa.heap.size wa w') 10 (by kernel_rfl) ?_
      (try (change wpAnyC _ _ _ _ _ _ _ _ _ (World.drew _)))
      refine nameC (fun W0 hW0 => ?_)
      have hC : Hid (Below wa.heap.size wa W0) := by show Below _ _ _; rw [hW0]; exact ⟨rfl, rfl, rfl, Nat.le_refl _, fun _ _ => rfl⟩
      clear hW0
      refine takeC (i := 1) (v := ?_) rfl (by kernel_rfl) (by kernel_rfl) (by kernel_rfl) (by kernel_rfl) (by kernel_rfl) (fun _ _ _ h => h) hC.out (Or.inl ⟨by rfl, ?_⟩) ?_
      rotate_left 1
      · intro w' hw'
        skip
        go_simp
        first | done | with_reducible rfl
      (try simp only [Act.put])
      (try simp only [List.setIfInBounds_toArray])
      (try simp only [List.set_cons_succ])
      (try simp only [List.set_cons_zero])
      refine takeC (i := 2) (v := ?_) rfl (by kernel_rfl) (by kernel_rfl) (by kernel_rfl) (by kernel_rfl) (by kernel_rfl) (fun _ _ _ h => h) hC.out (Or.inl ⟨by rfl, ?_⟩) ?_
      rotate_left 1
      · intro w' hw'
        have z0 := HC1c w' hw'
        go_simp
        first | done | with_reducible rfl
      (try simp only [Act.put])
      (try simp only [List.setIfInBounds_toArray])
      (try simp only [List.set_cons_succ])
      (try simp only [List.set_cons_zero])
      refine takeC (i := 6) (v := ?_) rfl (by kernel_rfl) (by kernel_rfl) (by kernel_rfl) (by kernel_rfl) (by kernel_rfl) (fun _ _ _ h => h) hC.out (Or.inl ⟨by rfl, ?_⟩) ?_
      rotate_left 1
      · intro w' hw'
        skip
        go_simp
        first | done | with_reducible rfl
      (try simp only [Act.put])
      (try simp only [List.setIfInBounds_toArray])
      (try simp only [List.set_cons_succ])
      (try simp only [List.set_cons_zero])
      refine takeC (i := 7) (v := ?_) rfl (by kernel_rfl) (by kernel_rfl) (by kernel_rfl) (by kernel_rfl) (by kernel_rfl) (fun _ _ _ h => h) hC.out (Or.inl ⟨by rfl, ?_⟩) ?_
      rotate_left 1
      · intro w' hw'
        have z0 := HC1c w' hw'
        go_simp
        first | done | with_reducible rfl
      (try simp only [Act.put])
      (try simp only [List.setIfInBounds_toArray])
      (try simp only [List.set_cons_succ])
      (try simp only [List.set_cons_zero])
      refine takeC (i := 8) (v := ?_) rfl (by kernel_rfl) (by kernel_rfl) (by kernel_rfl) (by kernel_rfl) (by kernel_rfl) (fun _ _ _ h => h) hC.out (Or.inl ⟨by rfl, ?_⟩) ?_
      rotate_left 1
      · intro w' hw'
        skip
        go_simp
        first | done | with_reducible rfl
      (try simp only [Act.put])
      (try simp only [List.setIfInBounds_toArray])
      (try simp only [List.set_cons_succ])
      (try simp only [List.set_cons_zero])
      refine readyC (rs := [0, 4]) (by kernel_rfl) (by simp) ?_
      refine ReadyC.cons rfl (fun K hK => ?_) ?_
      · go_simp
        refine hK _ _ (fun _ => hC.out.alloc hC.out.size _) ?_
        clear hK K
        (try simp only [Act.put])
        (try simp only [List.setIfInBounds_toArray])
        (try simp only [List.set_cons_succ])
        (try simp only [List.set_cons_zero])
        refine nameC (fun Wx1 hW => ?_)
        have hx : Below W0.heap.size W0 Wx1 := by rw [hW]; exact (Below.refl _ _).alloc (Nat.le_refl _) _
        have hO : Hid (OwnB Wx1 wa.heap.size (.slice (some ⟨W0.heap.size, 0, none⟩) 0 0) []) := by show OwnB _ _ _ _; rw [hW]; exact own_made0 _ _ hC.out.size
        have hOl : Hid (W0.heap.size < Wx1.heap.size) := by show _ < _; rw [hW]; simp
        replace hC : Hid (Below wa.heap.size wa Wx1) := hC.out.trans (hx.mono hC.out.size)
        clear hx hW
        refine readyC (rs := [3, 4]) (by kernel_rfl) (by simp) ?_
        refine ReadyC.cons rfl (fun K hK => ?_) ?_
        · refine stepC_runs rfl (.tmp 18) (.tmp 20) rfl _ _ rfl rfl _ (app_bytesG hO.out (HRw.out.below hC.out) (by have := HBx.out.le; show 0 + bl ≤ _; omega) hC.out.size _) ?_
          intro v8 Wx2 hA
          obtain ⟨hA1, hA2, hA3, a8, m8, c8, hv, hm⟩ := hA
          subst hv
          refine hK _ _ (fun _ => hC.out.trans hA2) ?_
          clear hK K
          (try simp only [Act.put])
          (try simp only [List.setIfInBounds_toArray])
          (try simp only [List.set_cons_succ])
          (try simp only [List.set_cons_zero])
          rw [List.nil_append] at hA1 hm
          replace hO : Hid (OwnB Wx2 wa.heap.size (.slice a8 m8 c8) l) := hA1
          replace hC : Hid (Below wa.heap.size wa Wx2) := hC.out.trans hA2
          clear hA1 hA2 hA3 hm
          refine readyC (rs := [4]) (by kernel_rfl) (by simp) ?_
          refine ReadyC.cons rfl (fun K hK => ?_) ReadyC.nil
          go_simp
          refine hK _ _ (fun _ => hC.out.alloc hC.out.size _) ?_
          clear hK K
          (try simp only [Act.put])
          (try simp only [List.setIfInBounds_toArray])
          (try simp only [List.set_cons_succ])
          (try simp only [List.set_cons_zero])
          refine nameC (fun Wx3 hW => ?_)
          have hx : Below Wx2.heap.size Wx2 Wx3 := by rw [hW]; exact (Below.refl _ _).alloc (Nat.le_refl _) _
          have hLit0 : BRow Wx3 (some ⟨Wx2.heap.size, 0, none⟩) 1 1 [1] := by rw [hW]; exact brow_one Wx2 1 1 rfl 1
          obtain ⟨lg, hlg⟩ : ∃ lg, Wx2.heap.size = lg := ⟨_, rfl⟩
          rw [hlg] at hLit0 ⊢
          have hLit : Hid (BRow Wx3 (some ⟨lg, 0, none⟩) 1 1 [1]) := hLit0
          have hLg : Hid (lg < Wx3.heap.size) := by show _ < _; rw [hW, ← hlg]; simp
          replace hO := (show Hid (OwnB Wx3 wa.heap.size _ _) from own_below2 hO.out hx)
          replace hC : Hid (Below wa.heap.size wa Wx3) := hC.out.trans (hx.mono hC.out.size)
          clear hx hW hLit0 hlg
          refine readyC (rs := [5]) (by kernel_rfl) (by simp) ?_
          refine ReadyC.cons rfl (fun K hK => ?_) ReadyC.nil
          refine stepC_runs rfl (.tmp 21) (.tmp 22) rfl _ _ rfl rfl _ (app_bytesG hO.out hLit.out (by have := HBx.out.le; have := HLl.out; omega) hC.out.size _) ?_
          intro v9 Wx4 hA
          obtain ⟨hA1, hA2, hA3, a9, m9, c9, hv, hm⟩ := hA
          subst hv
          refine hK _ _ (fun _ => hC.out.trans hA2) ?_
          clear hK K
          (try simp only [Act.put])
          (try simp only [List.setIfInBounds_toArray])
          (try simp only [List.set_cons_succ])
          (try simp only [List.set_cons_zero])
          replace hO : Hid (OwnB Wx4 wa.heap.size (.slice a9 m9 c9) (l ++ [1])) := hA1
          replace hC : Hid (Below wa.heap.size wa Wx4) := hC.out.trans hA2
          have hmm : m9 = bl + 1 := by rw [hm, List.length_append, HLl.out]; rfl
          obtain ⟨_, hcap, hpre⟩ := own_take hA1 bl (by omega)
          have htl : (l ++ [1]).take bl = l := by rw [← HLl.out]; exact List.take_left
          rw [htl] at hpre
          have hLn : Hid (LnR w Wx4 a9 bl c9 l) := by
            refine ⟨hpre.1, ?_⟩
            rcases hpre.2 with q | ⟨g', cp, cr, e1, hB, r⟩
            · exact .inl q
            · exact .inr ⟨g', cp, cr, e1, Nat.le_trans HWc.out hB, r⟩
          have s3 := slice_to a9 m9 c9 bl (by omega) hcap
          have hbc9 : bl ≤ c9 := by omega
          clear hA1 hA2 hA3 hm hmm hcap hpre htl
          refine readyC (rs := [9]) (by kernel_rfl) (by simp) ?_
          refine ReadyC.cons rfl (fun K hK => ?_) ReadyC.nil
          go_simp
          refine hK _ _ (fun _ => hC.out) ?_
          clear hK K
          (try simp only [Act.put])
          (try simp only [List.setIfInBounds_toArray])
          (try simp only [List.set_cons_succ])
          (try simp only [List.set_cons_zero])
          refine readyC (rs := [10]) (by kernel_rfl) (by simp) ?_
          refine ReadyC.cons rfl (fun K hK => ?_) ReadyC.nil
          go_simp
          refine hK _ _ (fun _ => hC.out) ?_
          clear hK K
          (try simp only [Act.put])
          (try simp only [List.setIfInBounds_toArray])
          (try simp only [List.set_cons_succ])
          (try simp only [List.set_cons_zero])
          refine doneC (by kernel_rfl) ?_ _
          clear HC1c
          go_wp2_with (fail)
          go_meet
          case rel => exact ⟨a9, c9, rfl, hLn, hC⟩
        refine ReadyC.cons rfl (fun K hK => ?_) ReadyC.nil
        go_simp
        refine hK _ _ (fun _ => hC.out.alloc hC.out.size _) ?_
        clear hK K
        (try simp only [Act.put])
        (try simp only [List.setIfInBounds_toArray])
        (try simp only [List.set_cons_succ])
        (try simp only [List.set_cons_zero])
        refine nameC (fun Wx2 hW => ?_)
        have hx : Below Wx1.heap.size Wx1 Wx2 := by rw [hW]; exact (Below.refl _ _).alloc (Nat.le_refl _) _
        have hLit0 : BRow Wx2 (some ⟨Wx1.heap.size, 0, none⟩) 1 1 [1] := by rw [hW]; exact brow_one Wx1 1 1 rfl 1
        obtain ⟨lg, hlg⟩ : ∃ lg, Wx1.heap.size = lg := ⟨_, rfl⟩
        rw [hlg] at hLit0 ⊢
        have hLit : Hid (BRow Wx2 (some ⟨lg, 0, none⟩) 1 1 [1]) := hLit0
        have hLg : Hid (lg < Wx2.heap.size) := by show _ < _; rw [hW, ← hlg]; simp
        have hNe2 : Hid (W0.heap.size < lg) := by have := hOl.out; show _ < _; omega
        replace hO := (show Hid (OwnB Wx2 wa.heap.size _ _) from own_below2 hO.out hx)
        replace hC : Hid (Below wa.heap.size wa Wx2) := hC.out.trans (hx.mono hC.out.size)
        clear hx hW hLit0 hlg
        refine readyC (rs := [3]) (by kernel_rfl) (by simp) ?_
        refine ReadyC.cons rfl (fun K hK => ?_) ReadyC.nil
        refine stepC_runs rfl (.tmp 18) (.tmp 20) rfl _ _ rfl rfl _ (app_bytesG hO.out (HRw.out.below hC.out) (by have := HBx.out.le; show 0 + bl ≤ _; omega) hC.out.size _) ?_
        intro v8 Wx3 hA
        obtain ⟨hA1, hA2, hA3, a8, m8, c8, hv, hm⟩ := hA
        subst hv
        refine hK _ _ (fun _ => hC.out.trans hA2) ?_
        clear hK K
        (try simp only [Act.put])
        (try simp only [List.setIfInBounds_toArray])
        (try simp only [List.set_cons_succ])
        (try simp only [List.set_cons_zero])
        rw [List.nil_append] at hA1 hm
        replace hLit : Hid (BRow Wx3 (some ⟨lg, 0, none⟩) 1 1 [1]) := hLit.out.grown hA3 (by intro e; have e2 : W0.heap.size = lg := Option.some.inj e; have := hNe2.out; omega)
        replace hO : Hid (OwnB Wx3 wa.heap.size (.slice a8 m8 c8) l) := hA1
        replace hC : Hid (Below wa.heap.size wa Wx3) := hC.out.trans hA2
        clear hA1 hA2 hA3 hm
        refine readyC (rs := [5]) (by kernel_rfl) (by simp) ?_
        refine ReadyC.cons rfl (fun K hK => ?_) ReadyC.nil
        refine stepC_runs rfl (.tmp 21) (.tmp 22) rfl _ _ rfl rfl _ (app_bytesG hO.out hLit.out (by have := HBx.out.le; have := HLl.out; omega) hC.out.size _) ?_
        intro v9 Wx4 hA
        obtain ⟨hA1, hA2, hA3, a9, m9, c9, hv, hm⟩ := hA
        subst hv
        refine hK _ _ (fun _ => hC.out.trans hA2) ?_
        clear hK K
        (try simp only [Act.put])
        (try simp only [List.setIfInBounds_toArray])
        (try simp only [List.set_cons_succ])
        (try simp only [List.set_cons_zero])
        replace hO : Hid (OwnB Wx4 wa.heap.size (.slice a9 m9 c9) (l ++ [1])) := hA1
        replace hC : Hid (Below wa.heap.size wa Wx4) := hC.out.trans hA2
        have hmm : m9 = bl + 1 := by rw [hm, List.length_append, HLl.out]; rfl
        obtain ⟨_, hcap, hpre⟩ := own_take hA1 bl (by omega)
        have htl : (l ++ [1]).take bl = l := by rw [← HLl.out]; exact List.take_left
        rw [htl] at hpre
        have hLn : Hid (LnR w Wx4 a9 bl c9 l) := by
          refine ⟨hpre.1, ?_⟩
          rcases hpre.2 with q | ⟨g', cp, cr, e1, hB, r⟩
          · exact .inl q
          · exact .inr ⟨g', cp, cr, e1, Nat.le_trans HWc.out hB, r⟩
        have s3 := slice_to a9 m9 c9 bl (by omega) hcap
        have hbc9 : bl ≤ c9 := by omega
        clear hA1 hA2 hA3 hm hmm hcap hpre htl
        refine readyC (rs := [9]) (by kernel_rfl) (by simp) ?_
        refine ReadyC.cons rfl (fun K hK => ?_) ReadyC.nil
        go_simp
        refine hK _ _ (fun _ => hC.out) ?_
        clear hK K
        (try simp only [Act.put])
        (try simp only [List.setIfInBounds_toArray])
        (try simp only [List.set_cons_succ])
        (try simp only [List.set_cons_zero])
        refine readyC (rs := [10]) (by kernel_rfl) (by simp) ?_
        refine ReadyC.cons rfl (fun K hK => ?_) ReadyC.nil
        go_simp
        refine hK _ _ (fun _ => hC.out) ?_
        clear hK K
        (try simp only [Act.put])
        (try simp only [List.setIfInBounds_toArray])
        (try simp only [List.set_cons_succ])
        (try simp only [List.set_cons_zero])
        refine doneC (by kernel_rfl) ?_ _
        clear HC1c
        go_wp2_with (fail)
        go_meet
        case rel => exact ⟨a9, c9, rfl, hLn, hC⟩
      refine ReadyC.cons rfl (fun K hK => ?_) ReadyC.nil
      go_simp
      refine hK _ _ (fun _ => hC.out.alloc hC.out.size _) ?_
      clear hK K
      (try simp only [Act.put])
      (try simp only [List.setIfInBounds_toArray])
      (try simp only [List.set_cons_succ])
      (try simp only [List.set_cons_zero])
      refine nameC (fun Wx1 hW => ?_)
      have hx : Below W0.heap.size W0 Wx1 := by rw [hW]; exact (Below.refl _ _).alloc (Nat.le_refl _) _
      have hLit0 : BRow Wx1 (some ⟨W0.heap.size, 0, none⟩) 1 1 [1] := by rw [hW]; exact brow_one W0 1 1 rfl 1
      obtain ⟨lg, hlg⟩ : ∃ lg, W0.heap.size = lg := ⟨_, rfl⟩
      rw [hlg] at hLit0 ⊢
      have hLit : Hid (BRow Wx1 (some ⟨lg, 0, none⟩) 1 1 [1]) := hLit0
      have hLg : Hid (lg < Wx1.heap.size) := by show _ < _; rw [hW, ← hlg]; simp
      replace hC : Hid (Below wa.heap.size wa Wx1) := hC.out.trans (hx.mono hC.out.size)
      clear hx hW hLit0 hlg
      refine readyC (rs := [0]) (by kernel_rfl) (by simp) ?_
      refine ReadyC.cons rfl (fun K hK => ?_) ReadyC.nil
      go_simp
      refine hK _ _ (fun _ => hC.out.alloc hC.out.size _) ?_
      clear hK K
      (try simp only [Act.put])
      (try simp only [List.setIfInBounds_toArray])
      (try simp only [List.set_cons_succ])
      (try simp only [List.set_cons_zero])
      refine nameC (fun Wx2 hW => ?_)
      have hx : Below Wx1.heap.size Wx1 Wx2 := by rw [hW]; exact (Below.refl _ _).alloc (Nat.le_refl _) _
      have hO : Hid (OwnB Wx2 wa.heap.size (.slice (some ⟨Wx1.heap.size, 0, none⟩) 0 0) []) := by show OwnB _ _ _ _; rw [hW]; exact own_made0 _ _ hC.out.size
      have hOl : Hid (Wx1.heap.size < Wx2.heap.size) := by show _ < _; rw [hW]; simp
      have hNe : Hid (lg < Wx1.heap.size) := hLg
      replace hLit : Hid (BRow Wx2 (some ⟨lg, 0, none⟩) 1 1 [1]) := hLit.out.below hx
      replace hC : Hid (Below wa.heap.size wa Wx2) := hC.out.trans (hx.mono hC.out.size)
      clear hx hW
      refine readyC (rs := [3]) (by kernel_rfl) (by simp) ?_
      refine ReadyC.cons rfl (fun K hK => ?_) ReadyC.nil
      refine stepC_runs rfl (.tmp 18) (.tmp 20) rfl _ _ rfl rfl _ (app_bytesG hO.out (HRw.out.below hC.out) (by have := HBx.out.le; show 0 + bl ≤ _; omega) hC.out.size _) ?_
      intro v8 Wx3 hA
      obtain ⟨hA1, hA2, hA3, a8, m8, c8, hv, hm⟩ := hA
      subst hv
      refine hK _ _ (fun _ => hC.out.trans hA2) ?_
      clear hK K
      (try simp only [Act.put])
      (try simp only [List.setIfInBounds_toArray])
      (try simp only [List.set_cons_succ])
      (try simp only [List.set_cons_zero])
      rw [List.nil_append] at hA1 hm
      replace hLit : Hid (BRow Wx3 (some ⟨lg, 0, none⟩) 1 1 [1]) := hLit.out.grown hA3 (by intro e; have e2 : Wx1.heap.size = lg := Option.some.inj e; have := hNe.out; omega)
      replace hO : Hid (OwnB Wx3 wa.heap.size (.slice a8 m8 c8) l) := hA1
      replace hC : Hid (Below wa.heap.size wa Wx3) := hC.out.trans hA2
      clear hA1 hA2 hA3 hm
      refine readyC (rs := [5]) (by kernel_rfl) (by simp) ?_
      refine ReadyC.cons rfl (fun K hK => ?_) ReadyC.nil
      refine stepC_runs rfl (.tmp 21) (.tmp 22) rfl _ _ rfl rfl _ (app_bytesG hO.out hLit.out (by have := HBx.out.le; have := HLl.out; omega) hC.out.size _) ?_
      intro v9 Wx4 hA
      obtain ⟨hA1, hA2, hA3, a9, m9, c9, hv, hm⟩ := hA
      subst hv
      refine hK _ _ (fun _ => hC.out.trans hA2) ?_
      clear hK K
      (try simp only [Act.put])
      (try simp only [List.setIfInBounds_toArray])
      (try simp only [List.set_cons_succ])
      (try simp only [List.set_cons_zero])
      replace hO : Hid (OwnB Wx4 wa.heap.size (.slice a9 m9 c9) (l ++ [1])) := hA1
      replace hC : Hid (Below wa.heap.size wa Wx4) := hC.out.trans hA2
      have hmm : m9 = bl + 1 := by rw [hm, List.length_append, HLl.out]; rfl
      obtain ⟨_, hcap, hpre⟩ := own_take hA1 bl (by omega)
      have htl : (l ++ [1]).take bl = l := by rw [← HLl.out]; exact List.take_left
      rw [htl] at hpre
      have hLn : Hid (LnR w Wx4 a9 bl c9 l) := by
        refine ⟨hpre.1, ?_⟩
        rcases hpre.2 with q | ⟨g', cp, cr, e1, hB, r⟩
        · exact .inl q
        · exact .inr ⟨g', cp, cr, e1, Nat.le_trans HWc.out hB, r⟩
      have s3 := slice_to a9 m9 c9 bl (by omega) hcap
      have hbc9 : bl ≤ c9 := by omega
      clear hA1 hA2 hA3 hm hmm hcap hpre htl
      refine readyC (rs := [9]) (by kernel_rfl) (by simp) ?_
      refine ReadyC.cons rfl (fun K hK => ?_) ReadyC.nil
      go_simp
      refine hK _ _ (fun _ => hC.out) ?_
      clear hK K
      (try simp only [Act.put])
      (try simp only [List.setIfInBounds_toArray])
      (try simp only [List.set_cons_succ])
      (try simp only [List.set_cons_zero])
      refine readyC (rs := [10]) (by kernel_rfl) (by simp) ?_
      refine ReadyC.cons rfl (fun K hK => ?_) ReadyC.nil
      go_simp
      refine hK _ _ (fun _ => hC.out) ?_
      clear hK K
      (try simp only [Act.put])
      (try simp only [List.setIfInBounds_toArray])
      (try simp only [List.set_cons_succ])
      (try simp only [List.set_cons_zero])
      refine doneC (by kernel_rfl) ?_ _
      clear HC1c
      go_wp2_with (fail)
      go_meet
      case rel => exact ⟨a9, c9, rfl, hLn, hC⟩
    case rest =>
      obtain ⟨av, cv, hv7, HLn, HB2⟩ := hcut
      subst hv7
      obtain ⟨W, hW⟩ : ∃ W, W = wc := ⟨_, rfl⟩
      subst hW
      have HB : Hid (Below w.heap.size w W) := HBx.out.below.trans (HB2.out.mono HBx.out.below.size)
      have HT : Hid (TwD W b m c S1 S2 d d) := HP.out.two.below HB.out
      have HBk : Hid (W.heap[w.heap.size]? = some (.cells #[.int .i64 4, strN n, strN tn, .slice ba bl bc, .int .i64 k, .int .u64 (keep : Int)] 32 (0, 0))) := (HB2.out.block _ (lt_blk HBx.out.blk)).trans HBx.out.blk
      have HNo : Hid (¬ S1 w.heap.size ∧ ¬ S2 w.heap.size) := ⟨fun q => Nat.lt_irrefl _ (HP.out.two.lt1 _ q), fun q => Nat.lt_irrefl _ (HP.out.two.lt2 _ q)⟩
      have HSt : Hid (StU w S1 S2 W S1 S2) := StU.of_below HB.out
      have HRw0 : Hid (BRow w0 ba bl bc l) := HBx.out.row
      have HCp : Hid (bl ≤ bc) := HBx.out.cap
      have z0 : W.cell? ⟨w.heap.size, 0, none⟩ = some (.int .i64 4) := cell_blk HBk.out rfl
      obtain ⟨ob, hob⟩ : ∃ ob, ob = w.heap.size := ⟨_, rfl⟩
      rw [← hob] at HBk HNo z0 ⊢
      have HOb : Hid (ob = w.heap.size) := hob
      clear hob HBx HB2
      have HC1 : Hid (∀ w' : World, w'.heap[ob]? = some (.cells #[.int .i64 4, strN n, strN tn, .slice ba bl bc, .int .i64 k, .int .u64 (keep : Int)] 32 (0, 0)) → w'.cell? ⟨ob, 1, none⟩ = some (strN n) ∧ w'.cell? ⟨ob, 2, none⟩ = some (strN tn) ∧ w'.cell? ⟨ob, 3, none⟩ = some (.slice ba bl bc) ∧ w'.cell? ⟨ob, 4, none⟩ = some (.int .i64 k) ∧ w'.cell? ⟨ob, 5, none⟩ = some (.int .u64 (keep : Int))) := fun w' hw' => ⟨cell_blk hw' rfl, cell_blk hw' rfl, cell_blk hw' rfl, cell_blk hw' rfl, cell_blk hw' rfl⟩
      obtain ⟨E, hE⟩ : ∃ E, (renameP d n tn).1 = E := ⟨_, rfl⟩
      obtain ⟨D', hD'⟩ : ∃ D', (renameP d n tn).2 = D' := ⟨_, rfl⟩
      have HcA : Hid (∀ W', TwD W' b m c S1 S2 d d → Calls Try.prog 22 #[dptr b, strN n, strN tn] W' fun e w' => e = .returned (.int .i64 (E : Int)) ∧ ∃ T1, TwD w' b m c T1 S2 D' d ∧ StU W' S1 S2 w' T1 S2) := fun W' ht => by
        obtain ⟨sl, hc⟩ := ht.code
        refine (rename_any hc n hn tn hto).mono fun e w' q => ?_
        rw [hE, hD'] at q
        exact ⟨q.1, ht.stepC q.2.toS⟩
      have HcB : Hid (∀ W' T1 D1, TwD W' b m c T1 S2 D1 d → Calls Try.prog 30 #[dptr c, strN n, strN tn] W' fun e w' => e = .returned (.int .i64 (E : Int)) ∧ ∃ T2, TwD w' b m c T1 T2 D1 D' ∧ StU W' T1 S2 w' T1 T2) := fun W' T1 D1 ht => by
        obtain ⟨fs, fl, hc⟩ := ht.doc
        refine (rrename_any hc n hn tn hto).mono fun e w' q => ?_
        rw [hE, hD'] at q
        exact ⟨q.1, ht.stepR q.2⟩
      have HStD : Hid (stepD d 4 n tn l k keep = D') := by show _ = _; rw [← hD']; rfl
      clear hE hD'
      have HC1c := HC1.out
      go_wp2
      refine regionC (fun (w' : World) => w'.heap[ob]? = some (.cells #[.int .i64 4, strN n, strN tn, .slice ba bl bc, .int .i64 k, .int .u64 (keep : Int)] 32 (0, 0))) 13 (by kernel_rfl) ?_
      (try (change wpAnyC _ _ _ _ _ _ _ _ _ (World.drew _)))
      refine nameC (fun W0 hW0 => ?_)
      have hC : Hid (W0.heap[ob]? = some (.cells #[.int .i64 4, strN n, strN tn, .slice ba bl bc, .int .i64 k, .int .u64 (keep : Int)] 32 (0, 0))) := by show _ = _; rw [hW0]; exact HBk.out
      have HT0 : Hid (TwD W0 b m c S1 S2 d d) := by show TwD _ _ _ _ _ _ _ _; rw [hW0]; exact HT.out.below ⟨rfl, rfl, rfl, Nat.le_refl _, fun _ _ => rfl⟩
      have HS0 : Hid (StU w S1 S2 W0 S1 S2) := by show StU _ _ _ _ _ _; rw [hW0]; exact HSt.out.trans (StU.of_below ⟨rfl, rfl, rfl, Nat.le_refl _, fun _ _ => rfl⟩)
      clear hW0
      refine takeC (i := 0) (v := ?_) rfl (by kernel_rfl) (by kernel_rfl) (by kernel_rfl) (by kernel_rfl) (by kernel_rfl) (fun _ _ _ h => h) hC.out (Or.inl ⟨by rfl, ?_⟩) ?_
      rotate_left 1
      · intro w' hw'
        skip
        go_simp
        first | done | with_reducible rfl
      (try simp only [Act.put])
      (try simp only [List.setIfInBounds_toArray])
      (try simp only [List.set_cons_succ])
      (try simp only [List.set_cons_zero])
      refine takeC (i := 1) (v := ?_) rfl (by kernel_rfl) (by kernel_rfl) (by kernel_rfl) (by kernel_rfl) (by kernel_rfl) (fun _ _ _ h => h) hC.out (Or.inl ⟨by rfl, ?_⟩) ?_
      rotate_left 1
      · intro w' hw'
        skip
        go_simp
        first | done | with_reducible rfl
      (try simp only [Act.put])
      (try simp only [List.setIfInBounds_toArray])
      (try simp only [List.set_cons_succ])
      (try simp only [List.set_cons_zero])
      refine takeC (i := 2) (v := ?_) rfl (by kernel_rfl) (by kernel_rfl) (by kernel_rfl) (by kernel_rfl) (by kernel_rfl) (fun _ _ _ h => h) hC.out (Or.inl ⟨by rfl, ?_⟩) ?_
      rotate_left 1
      · intro w' hw'
        have z0 := HC1c w' hw'
        go_simp
        first | done | with_reducible rfl
      (try simp only [Act.put])
      (try simp only [List.setIfInBounds_toArray])
      (try simp only [List.set_cons_succ])
      (try simp only [List.set_cons_zero])
      refine takeC (i := 3) (v := ?_) rfl (by kernel_rfl) (by kernel_rfl) (by kernel_rfl) (by kernel_rfl) (by kernel_rfl) (fun _ _ _ h => h) hC.out (Or.inl ⟨by rfl, ?_⟩) ?_
      rotate_left 1
      · intro w' hw'
        skip
        go_simp
        first | done | with_reducible rfl
      (try simp only [Act.put])
      (try simp only [List.setIfInBounds_toArray])
      (try simp only [List.set_cons_succ])
      (try simp only [List.set_cons_zero])
      refine takeC (i := 4) (v := ?_) rfl (by kernel_rfl) (by kernel_rfl) (by kernel_rfl) (by kernel_rfl) (by kernel_rfl) (fun _ _ _ h => h) hC.out (Or.inl ⟨by rfl, ?_⟩) ?_
      rotate_left 1
      · intro w' hw'
        have z0 := HC1c w' hw'
        go_simp
        first | done | with_reducible rfl
      (try simp only [Act.put])
      (try simp only [List.setIfInBounds_toArray])
      (try simp only [List.set_cons_succ])
      (try simp only [List.set_cons_zero])
      refine takeC (i := 6) (v := ?_) rfl (by kernel_rfl) (by kernel_rfl) (by kernel_rfl) (by kernel_rfl) (by kernel_rfl) (fun _ _ _ h => h) hC.out (Or.inl ⟨by rfl, ?_⟩) ?_
      rotate_left 1
      · intro w' hw'
        skip
        go_simp
        first | done | with_reducible rfl
      (try simp only [Act.put])
      (try simp only [List.setIfInBounds_toArray])
      (try simp only [List.set_cons_succ])
      (try simp only [List.set_cons_zero])
      refine takeC (i := 7) (v := ?_) rfl (by kernel_rfl) (by kernel_rfl) (by kernel_rfl) (by kernel_rfl) (by kernel_rfl) (fun _ _ _ h => h) hC.out (Or.inl ⟨by rfl, ?_⟩) ?_
      rotate_left 1
      · intro w' hw'
        skip
        go_simp
        first | done | with_reducible rfl
      (try simp only [Act.put])
      (try simp only [List.setIfInBounds_toArray])
      (try simp only [List.set_cons_succ])
      (try simp only [List.set_cons_zero])
      refine takeC (i := 8) (v := ?_) rfl (by kernel_rfl) (by kernel_rfl) (by kernel_rfl) (by kernel_rfl) (by kernel_rfl) (fun _ _ _ h => h) hC.out (Or.inl ⟨by rfl, ?_⟩) ?_
      rotate_left 1
      · intro w' hw'
        have z0 := HC1c w' hw'
        go_simp
        first | done | with_reducible rfl
      (try simp only [Act.put])
      (try simp only [List.setIfInBounds_toArray])
      (try simp only [List.set_cons_succ])
      (try simp only [List.set_cons_zero])
      refine takeC (i := 9) (v := ?_) rfl (by kernel_rfl) (by kernel_rfl) (by kernel_rfl) (by kernel_rfl) (by kernel_rfl) (fun _ _ _ h => h) hC.out (Or.inl ⟨by rfl, ?_⟩) ?_
      rotate_left 1
      · intro w' hw'
        skip
        go_simp
        first | done | with_reducible rfl
      (try simp only [Act.put])
      (try simp only [List.setIfInBounds_toArray])
      (try simp only [List.set_cons_succ])
      (try simp only [List.set_cons_zero])
      refine takeC (i := 10) (v := ?_) rfl (by kernel_rfl) (by kernel_rfl) (by kernel_rfl) (by kernel_rfl) (by kernel_rfl) (fun _ _ _ h => h) hC.out (Or.inl ⟨by rfl, ?_⟩) ?_
      rotate_left 1
      · intro w' hw'
        have z0 := HC1c w' hw'
        go_simp
        first | done | with_reducible rfl
      (try simp only [Act.put])
      (try simp only [List.setIfInBounds_toArray])
      (try simp only [List.set_cons_succ])
      (try simp only [List.set_cons_zero])
      refine readyC (rs := [5]) (by kernel_rfl) (by simp) ?_
      refine ReadyC.cons rfl (fun K hK => ?_) ReadyC.nil
      refine stepC_call rfl 22 #[dptr b, strN n, strN tn] (by kernel_rfl) (HcA.out W0 HT0.out) (fun e w' h => ⟨_, h.1⟩) ?_
      intro v1 Wx1 hq
      obtain ⟨hv1, T1, hT1, hS1⟩ := hq
      have hv1' := Ending.returned.inj hv1
      subst hv1'
      obtain ⟨hk1, hn1, hn2⟩ := hS1.at hC.out HNo.out.1 HNo.out.2
      refine hK _ _ (fun _ => hk1) ?_
      clear hK K
      (try simp only [Act.put])
      (try simp only [List.setIfInBounds_toArray])
      (try simp only [List.set_cons_succ])
      (try simp only [List.set_cons_zero])
      replace hC : Hid (Wx1.heap[ob]? = some (.cells #[.int .i64 4, strN n, strN tn, .slice ba bl bc, .int .i64 k, .int .u64 (keep : Int)] 32 (0, 0))) := hk1
      have HT1 : Hid (TwD Wx1 b m c T1 S2 D' d) := hT1
      have HS1 : Hid (StU w S1 S2 Wx1 T1 S2) := HS0.out.trans hS1
      have HN1 : Hid (¬ T1 ob ∧ ¬ S2 ob) := ⟨hn1, hn2⟩
      clear hv1 hT1 hS1 hk1 hn1 hn2
      refine readyC (rs := [11]) (by kernel_rfl) (by simp) ?_
      refine ReadyC.cons rfl (fun K hK => ?_) ReadyC.nil
      refine stepC_call rfl 30 #[dptr c, strN n, strN tn] (by kernel_rfl) (HcB.out Wx1 T1 D' HT1.out) (fun e w' h => ⟨_, h.1⟩) ?_
      intro v2 Wx2 hq
      obtain ⟨hv2, T2, hT2, hS2⟩ := hq
      have hv2' := Ending.returned.inj hv2
      subst hv2'
      obtain ⟨hk2, _, _⟩ := hS2.at hC.out HN1.out.1 HN1.out.2
      refine hK _ _ (fun _ => hk2) ?_
      clear hK K
      (try simp only [Act.put])
      (try simp only [List.setIfInBounds_toArray])
      (try simp only [List.set_cons_succ])
      (try simp only [List.set_cons_zero])
      replace hC : Hid (Wx2.heap[ob]? = some (.cells #[.int .i64 4, strN n, strN tn, .slice ba bl bc, .int .i64 k, .int .u64 (keep : Int)] 32 (0, 0))) := hk2
      have HF : Hid (BothD w b m c S1 S2 D' Wx2) := ⟨T1, T2, hT2.one, HS1.out.trans hS2⟩
      clear hv2 hT2 hS2 hk2
      refine readyC (rs := [12]) (by kernel_rfl) (by simp) ?_
      refine ReadyC.cons rfl (fun K hK => ?_) ReadyC.nil
      go_simp
      refine hK _ _ (fun _ => hC.out) ?_
      clear hK K
      (try simp only [Act.put])
      (try simp only [List.setIfInBounds_toArray])
      (try simp only [List.set_cons_succ])
      (try simp only [List.set_cons_zero])
      refine readyC (rs := [13]) (by kernel_rfl) (by simp) ?_
      refine ReadyC.cons rfl (fun K hK => ?_) ReadyC.nil
      go_simp
      refine hK _ _ (fun _ => hC.out) ?_
      clear hK K
      (try simp only [Act.put])
      (try simp only [List.setIfInBounds_toArray])
      (try simp only [List.set_cons_succ])
      (try simp only [List.set_cons_zero])
      refine doneC (by kernel_rfl) ?_ _
      clear HC1c
      go_wp2
      go_ret
      exact ⟨rfl, by rw [HStD.out]; exact HF.out⟩
end Go.Proofs.Ytmkgaegodemglaa
