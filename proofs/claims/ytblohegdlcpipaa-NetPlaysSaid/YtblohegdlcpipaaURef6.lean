/- The document's net: Move; walked. -/
import Derived.Test.YtblohegdlcpipaaURef5
set_option linter.unusedVariables false
set_option linter.unusedSimpArgs false
namespace Go.Proofs.Ytblohegdlcpipaa
open Go.RowKit

set_option maxHeartbeats 4000000 in
set_option maxRecDepth 20000 in
theorem rmove_any {w : World} {b : Nat} {v : Value} {sd : Nat} {ls : List L3} (h : RfW w b v sd ls) (i k : Int) :
    Calls Try.prog 21 #[nptr b, .int .i64 i, .int .i64 k] w fun e w' => e = .returned (.bool (hasB ls.length i && hasB ls.length k)) ∧ RfGo w b v sd (moveA ls i k) w' := by
  have HL : Hid (Calls Try.prog 23 #[nptr b, .int .i64 i] w fun e w' => e = .returned (.tuple #[aggR (lookR ls i), .bool (hasB ls.length i)]) ∧ Below w.heap.size w w') := rlook_any h i
  have HH : Hid (RfW w b v sd ls) := h
  obtain ⟨y, hy⟩ : ∃ y, lookR ls i = y := ⟨_, rfl⟩
  rw [hy] at HL
  by_cases hik : hasB ls.length i = true ∧ hasB ls.length k = true
  · obtain ⟨hi, hk⟩ := hik
    have hmv : moveA ls i k = insA (ls.eraseIdx i.toNat) k.toNat y := by
      unfold moveA
      rw [if_pos ⟨hi, hk⟩, ← hy, lookR, if_pos hi]
      rfl
    rw [hmv, hi, hk]
    rw [hi] at HL
    obtain ⟨i0, i1⟩ := hasB_iff.1 hi
    obtain ⟨k0, k1⟩ := hasB_iff.1 hk
    obtain ⟨I, rfl⟩ : ∃ I : Nat, i = (I : Int) := ⟨i.toNat, by omega⟩
    obtain ⟨K, rfl⟩ : ∃ K : Nat, k = (K : Int) := ⟨k.toNat, by omega⟩
    obtain ⟨m, hm⟩ : ∃ m, ls.length = m + 1 := ⟨ls.length - 1, by omega⟩
    have hymem : y ∈ ls := by
      rw [← hy, lookR, if_pos hi, Int.toNat_natCast, List.getD_eq_getElem?_getD, List.getElem?_eq_getElem (by omega)]
      exact List.getElem_mem _
    have HP : Hid (ls.length = m + 1 ∧ I ≤ m ∧ K ≤ m ∧ m + 1 ≤ 200 ∧ hasB ls.length (K : Int) = true ∧ y ∈ ls) := ⟨hm, by omega, by omega, by have := h.few; omega, hk, hymem⟩
    have bK : (K : Int) ≤ (m : Int) := by omega
    simp only [Int.toNat_natCast]
    clear hmv hi hk hy hymem i0 i1 k0 k1 hm
    go_enter Try.func21, Try.ntmps21
    go_wp2_with (fail)
    refine HL.out.mono ?_
    rintro e w2 ⟨rfl, hb⟩
    obtain ⟨w3, hw3⟩ : ∃ w3, w3 = w2.alloc (.cells #[.int .i64 (y.1 : Int), .int .i64 (y.2.1 : Int), .string ⟨y.2.2.toArray⟩] 39) := ⟨_, rfl⟩
    have hb3 : Below w.heap.size w w3 := by rw [hw3]; exact hb.alloc hb.size _
    have hk3 : w3.heap[w2.heap.size]? = some (.cells #[.int .i64 (y.1 : Int), .int .i64 (y.2.1 : Int), .string ⟨y.2.2.toArray⟩] 39 (0, 0)) := by rw [hw3]; exact heap_alloc_new _ _
    have h3 := h.below hb3
    have HHs : Hid (Calls Try.prog 33 #[nptr b, .int .i64 (K : Int)] w3 fun e w' => e = .returned (.bool true) ∧ w' = w3) := by
      have := rhas_any h3 (K : Int)
      rwa [HP.out.2.2.2.2.1] at this
    have HOu : Hid (Calls Try.prog 32 #[nptr b, .int .i64 (I : Int)] w3 fun e w' => ∃ v', e = .returned v' ∧ OwnR w' w3.heap.size v' (ls.eraseIdx I) ∧ Below w3.heap.size w3 w') := rout_any h3 (by have := HP.out; omega)
    have H3 : Hid (RfW w3 b v sd ls ∧ Below w.heap.size w w3 ∧ w3.heap[w2.heap.size]? = some (.cells #[.int .i64 (y.1 : Int), .int .i64 (y.2.1 : Int), .string ⟨y.2.2.toArray⟩] 39 (0, 0))) := ⟨h3, hb3, hk3⟩
    clear HL hb hb3 hk3 h3 h
    go_upto_region 2 with fail
    rw [← hw3]
    clear hw3
    go_wp2_with (fail)
    refine HHs.out.mono ?_
    rintro e wq ⟨rfl, hw⟩
    replace hw := hw.symm
    subst hw
    clear HHs
    go_wp2_with (fail)
    refine HOu.out.mono ?_
    rintro e w5 ⟨vo, rfl, ho, hb5⟩
    clear HOu
    obtain ⟨ra, rc, hvo⟩ := ho.slice
    have hel : (ls.eraseIdx I).length = m := by rw [List.length_eraseIdx]; have := HP.out; split <;> omega
    rw [hel] at hvo
    subst hvo
    have hrd : RdR w5 ra m rc (ls.eraseIdx I) := ho.rd.1
    have HR : Hid (RdR w5 ra m rc (ls.eraseIdx I) ∧ (ls.eraseIdx I).length = m) := ⟨hrd, hel⟩
    have z1 : ∀ u, (Instr.slice 27 (.slice ra m rc) none (some (.int .i64 (K : Int))) none).run Try.prog u = .ok (.slice ra K rc) u := fun u => toR _ m rc K (by have := HP.out; omega) hrd.2.1 u
    have z2 : ∀ u, (Instr.slice 27 (.slice ra m rc) (some (.int .i64 (K : Int))) none none).run Try.prog u = .ok (.slice (cutR ra rc K) (m - K) (rc - K)) u := fun u => fromR ra m rc K (by have := HP.out; omega) hrd.2.1 u
    have hk5 := blk_below H3.out.2.2 hb5
    have Y : Hid (∀ u, Below w5.heap.size w5 u → u.heap[w2.heap.size]? = some (.cells #[.int .i64 (y.1 : Int), .int .i64 (y.2.1 : Int), .string ⟨y.2.2.toArray⟩] 39 (0, 0))) := fun u hu => blk_below hk5 hu
    have H5 : Hid (RfW w5 b v sd ls ∧ Below w3.heap.size w3 w5) := ⟨H3.out.1.below hb5, hb5⟩
    clear ho hb5 hel hrd hk5
    go_upto_region 6 with fail
    refine regionC (fun (w' : World) => Below w5.heap.size w5 w') 15 (by kernel_rfl) ?_
    (try (change wpAnyC _ _ _ _ _ _ _ _ _ (World.drew _)))
    refine nameW (fun W0 hW0 => ?_)
    have hC : Hid (Below w5.heap.size w5 W0) := by
      show Below _ _ _; rw [hW0]; exact (Below.refl _ _).drew
    clear hW0
    refine takeC (i := 0) (v := ?_) rfl (by kernel_rfl) (by kernel_rfl) (by kernel_rfl) (by kernel_rfl) (by kernel_rfl) (fun _ _ _ h => h) hC.out (Or.inl ⟨by rfl, ?_⟩) ?_
    rotate_left 1
    · intro w' hw'
      skip
      go_simp
      first | done | with_reducible rfl | exact z1 _ | exact z2 _
    (try simp only [Act.put])
    (try simp only [List.setIfInBounds_toArray])
    (try simp only [List.set_cons_succ])
    (try simp only [List.set_cons_zero])
    refine takeC (i := 2) (v := ?_) rfl (by kernel_rfl) (by kernel_rfl) (by kernel_rfl) (by kernel_rfl) (by kernel_rfl) (fun _ _ _ h => h) hC.out (Or.inl ⟨by rfl, ?_⟩) ?_
    rotate_left 1
    · intro w' hw'
      skip
      go_simp
      first | done | with_reducible rfl | exact z1 _ | exact z2 _
    (try simp only [Act.put])
    (try simp only [List.setIfInBounds_toArray])
    (try simp only [List.set_cons_succ])
    (try simp only [List.set_cons_zero])
    refine takeC (i := 3) (v := ?_) rfl (by kernel_rfl) (by kernel_rfl) (by kernel_rfl) (by kernel_rfl) (by kernel_rfl) (fun _ _ _ h => h) hC.out (Or.inl ⟨by rfl, ?_⟩) ?_
    rotate_left 1
    · intro w' hw'
      skip
      go_simp
      first | done | with_reducible rfl | exact z1 _ | exact z2 _
    (try simp only [Act.put])
    (try simp only [List.setIfInBounds_toArray])
    (try simp only [List.set_cons_succ])
    (try simp only [List.set_cons_zero])
    refine takeC (i := 4) (v := ?_) rfl (by kernel_rfl) (by kernel_rfl) (by kernel_rfl) (by kernel_rfl) (by kernel_rfl) (fun _ _ _ h => h) hC.out (Or.inl ⟨by rfl, ?_⟩) ?_
    rotate_left 1
    · intro w' hw'
      skip
      go_simp
      first | done | with_reducible rfl | exact z1 _ | exact z2 _
    (try simp only [Act.put])
    (try simp only [List.setIfInBounds_toArray])
    (try simp only [List.set_cons_succ])
    (try simp only [List.set_cons_zero])
    refine takeC (i := 6) (v := ?_) rfl (by kernel_rfl) (by kernel_rfl) (by kernel_rfl) (by kernel_rfl) (by kernel_rfl) (fun _ _ _ h => h) hC.out (Or.inl ⟨by rfl, ?_⟩) ?_
    rotate_left 1
    · intro w' hw'
      have z := cell_blk (Y.out w' hw') (i := 0) rfl; have z3 := cell_blk (Y.out w' hw') (i := 1) rfl; have z4 := cell_blk (Y.out w' hw') (i := 2) rfl
      go_simp
      first | done | with_reducible rfl | exact z1 _ | exact z2 _
    (try simp only [Act.put])
    (try simp only [List.setIfInBounds_toArray])
    (try simp only [List.set_cons_succ])
    (try simp only [List.set_cons_zero])
    refine takeC (i := 9) (v := ?_) rfl (by kernel_rfl) (by kernel_rfl) (by kernel_rfl) (by kernel_rfl) (by kernel_rfl) (fun _ _ _ h => h) hC.out (Or.inl ⟨by rfl, ?_⟩) ?_
    rotate_left 1
    · intro w' hw'
      skip
      go_simp
      first | done | with_reducible rfl | exact z1 _ | exact z2 _
    (try simp only [Act.put])
    (try simp only [List.setIfInBounds_toArray])
    (try simp only [List.set_cons_succ])
    (try simp only [List.set_cons_zero])
    refine takeC (i := 10) (v := ?_) rfl (by kernel_rfl) (by kernel_rfl) (by kernel_rfl) (by kernel_rfl) (by kernel_rfl) (fun _ _ _ h => h) hC.out (Or.inl ⟨by rfl, ?_⟩) ?_
    rotate_left 1
    · intro w' hw'
      skip
      go_simp
      first | done | with_reducible rfl | exact z1 _ | exact z2 _
    (try simp only [Act.put])
    (try simp only [List.setIfInBounds_toArray])
    (try simp only [List.set_cons_succ])
    (try simp only [List.set_cons_zero])
    refine takeC (i := 11) (v := ?_) rfl (by kernel_rfl) (by kernel_rfl) (by kernel_rfl) (by kernel_rfl) (by kernel_rfl) (fun _ _ _ h => h) hC.out (Or.inl ⟨by rfl, ?_⟩) ?_
    rotate_left 1
    · intro w' hw'
      skip
      go_simp
      first | done | with_reducible rfl | exact z1 _ | exact z2 _
    (try simp only [Act.put])
    (try simp only [List.setIfInBounds_toArray])
    (try simp only [List.set_cons_succ])
    (try simp only [List.set_cons_zero])
    refine readyC (rs := [1, 7]) (by kernel_rfl) (by simp) ?_
    refine ReadyC.cons rfl (fun KK hK => ?_) (ReadyC.cons rfl (fun KK hK => ?_) ReadyC.nil)
    · have hC1 : Below w5.heap.size w5 (W0.alloc (.cells #[] 39)) := hC.out.alloc hC.out.size _
      have HO0 : Hid (OwnR (W0.alloc (.cells #[] 39)) w5.heap.size (.slice (some ⟨W0.heap.size, 0, none⟩) 0 0) []) := madeR W0 _ hC.out.size
      go_simp
      refine hK _ _ (fun _ => hC1) ?_
      clear hK KK
      (try simp only [Act.put])
      (try simp only [List.setIfInBounds_toArray])
      (try simp only [List.set_cons_succ])
      (try simp only [List.set_cons_zero])
      obtain ⟨V1, hV1⟩ : ∃ V1, V1 = (W0.alloc (.cells #[] 39)) := ⟨_, rfl⟩
      rw [← hV1] at hC1 HO0 ⊢
      replace hC : Hid (Below w5.heap.size w5 V1) := hC1
      clear hC1 hV1
      refine readyC (rs := [5, 7]) (by kernel_rfl) (by simp) ?_
      refine ReadyC.cons rfl (fun KK hK => ?_) (ReadyC.cons rfl (fun KK hK => ?_) ReadyC.nil)
      · have HAp : Hid (∀ ty, ∃ vo w2, (Builtin.append_ #[27, 27] ty #[.slice (some ⟨W0.heap.size, 0, none⟩) 0 0, .slice ra K rc]).run Try.prog V1 = .ok vo w2 ∧ AppR V1 w5.heap.size (.slice (some ⟨W0.heap.size, 0, none⟩) 0 0) ([] ++ (ls.eraseIdx I).take K) vo w2) := fun ty => appR HO0.out ((HR.out.1.below hC.out).take K (by have := HP.out; omega)) (by have := HP.out; simp; omega) hC.out.size ty
        refine stepC_runs rfl (.tmp 30) (.tmp 33) rfl _ _ rfl rfl _ (HAp.out _) ?_
        intro vo1 V2 hA
        have hC2 : Below w5.heap.size w5 V2 := hC.out.trans hA.2.1
        have HO4 : Hid (OwnR V2 w5.heap.size vo1 ([] ++ (ls.eraseIdx I).take K)) := hA.1
        refine hK _ _ (fun _ => hC2) ?_
        replace hC : Hid (Below w5.heap.size w5 V2) := hC2
        clear hA hC2 hK KK HAp HO0
        (try simp only [Act.put])
        (try simp only [List.setIfInBounds_toArray])
        (try simp only [List.set_cons_succ])
        (try simp only [List.set_cons_zero])
        refine readyC (rs := [7]) (by kernel_rfl) (by simp) ?_
        refine ReadyC.cons rfl (fun KK hK => ?_) ReadyC.nil
        have hC1 : Below w5.heap.size w5 (V2.alloc (.cells #[.int .i64 (y.1 : Int), .int .i64 (y.2.1 : Int), .string ⟨y.2.2.toArray⟩] 39)) := hC.out.alloc hC.out.size _
        have HLy : Hid (RdR (V2.alloc (.cells #[.int .i64 (y.1 : Int), .int .i64 (y.2.1 : Int), .string ⟨y.2.2.toArray⟩] 39)) (some ⟨V2.heap.size, 0, none⟩) 1 1 [y] ∧ V2.heap.size < (V2.alloc (.cells #[.int .i64 (y.1 : Int), .int .i64 (y.2.1 : Int), .string ⟨y.2.2.toArray⟩] 39)).heap.size) := ⟨layR V2 y, by simp⟩
        have HO42 : Hid (OwnR (V2.alloc (.cells #[.int .i64 (y.1 : Int), .int .i64 (y.2.1 : Int), .string ⟨y.2.2.toArray⟩] 39)) w5.heap.size vo1 ([] ++ (ls.eraseIdx I).take K)) := HO4.out.below ((Below.refl _ _).alloc (Nat.le_refl _) _)
        go_simp
        refine hK _ _ (fun _ => hC1) ?_
        clear hK KK
        (try simp only [Act.put])
        (try simp only [List.setIfInBounds_toArray])
        (try simp only [List.set_cons_succ])
        (try simp only [List.set_cons_zero])
        obtain ⟨V3, hV3⟩ : ∃ V3, V3 = (V2.alloc (.cells #[.int .i64 (y.1 : Int), .int .i64 (y.2.1 : Int), .string ⟨y.2.2.toArray⟩] 39)) := ⟨_, rfl⟩
        rw [← hV3] at hC1 HLy HO42 ⊢
        replace hC : Hid (Below w5.heap.size w5 V3) := hC1
        clear hC1 hV3
        replace HO4 := HO42
        refine readyC (rs := [8]) (by kernel_rfl) (by simp) ?_
        refine ReadyC.cons rfl (fun KK hK => ?_) ReadyC.nil
        have HAp : Hid (∀ ty, ∃ vo w2, (Builtin.append_ #[27, 27] ty #[vo1, .slice (some ⟨V2.heap.size, 0, none⟩) 1 1]).run Try.prog V3 = .ok vo w2 ∧ AppR V3 w5.heap.size vo1 (([] ++ (ls.eraseIdx I).take K) ++ [y]) vo w2) := fun ty => appR HO4.out HLy.out.1 (by have := HP.out; have := HR.out.2; simp; omega) hC.out.size ty
        refine stepC_runs rfl (.tmp 34) (.tmp 36) rfl _ _ rfl rfl _ (HAp.out _) ?_
        intro vo2 V4 hA
        have hC2 : Below w5.heap.size w5 V4 := hC.out.trans hA.2.1
        have HO7 : Hid (OwnR V4 w5.heap.size vo2 (([] ++ (ls.eraseIdx I).take K) ++ [y])) := hA.1
        refine hK _ _ (fun _ => hC2) ?_
        replace hC : Hid (Below w5.heap.size w5 V4) := hC2
        clear hA hC2 hK KK HAp HO4
        (try simp only [Act.put])
        (try simp only [List.setIfInBounds_toArray])
        (try simp only [List.set_cons_succ])
        (try simp only [List.set_cons_zero])
        refine readyC (rs := [12]) (by kernel_rfl) (by simp) ?_
        refine ReadyC.cons rfl (fun KK hK => ?_) ReadyC.nil
        have HAp : Hid (∀ ty, ∃ vo w2, (Builtin.append_ #[27, 27] ty #[vo2, .slice (cutR ra rc K) (m - K) (rc - K)]).run Try.prog V4 = .ok vo w2 ∧ AppR V4 w5.heap.size vo2 ((([] ++ (ls.eraseIdx I).take K) ++ [y]) ++ (ls.eraseIdx I).drop K) vo w2) := fun ty => appR HO7.out ((HR.out.1.below hC.out).drop K (by have := HP.out; omega)) (by have := HP.out; have := HR.out.2; simp; omega) hC.out.size ty
        refine stepC_runs rfl (.tmp 37) (.tmp 40) rfl _ _ rfl rfl _ (HAp.out _) ?_
        intro vo3 V5 hA
        obtain ⟨oa, oc, hvo⟩ := hA.1.slice
        obtain ⟨on, hon⟩ : ∃ on, ((([] ++ (ls.eraseIdx I).take K) ++ [y]) ++ (ls.eraseIdx I).drop K).length = on := ⟨_, rfl⟩
        rw [hon] at hvo
        clear hon
        subst hvo
        have hC2 : Below w5.heap.size w5 V5 := hC.out.trans hA.2.1
        have HO8 : Hid (OwnR V5 w5.heap.size (.slice oa on oc) (insA (ls.eraseIdx I) K y)) := by
          have h8 := hA.1
          rw [List.nil_append, List.append_assoc, List.singleton_append] at h8
          exact h8
        have hbk := blk_below H5.out.1.blk hC2
        have z := cell_blk hbk (i := 0) rfl
        have zf : V5.frozen? ⟨b, 0, none⟩ = false := free_blk hbk 0
        refine hK _ _ (fun _ => hC2) ?_
        replace hC : Hid (Below w5.heap.size w5 V5) := hC2
        clear hA hC2 hK KK HAp HO7 hbk
        (try simp only [Act.put])
        (try simp only [List.setIfInBounds_toArray])
        (try simp only [List.set_cons_succ])
        (try simp only [List.set_cons_zero])
        refine readyC (rs := [13]) (by kernel_rfl) (by simp) ?_
        refine ReadyC.cons rfl (fun KK hK => ?_) ReadyC.nil
        go_simp
        refine hK _ _ (fun _ => hC.out) ?_
        clear hK KK
        (try simp only [Act.put])
        (try simp only [List.setIfInBounds_toArray])
        (try simp only [List.set_cons_succ])
        (try simp only [List.set_cons_zero])
        refine readyC (rs := [14]) (by kernel_rfl) (by simp) ?_
        refine ReadyC.cons rfl (fun KK hK => ?_) ReadyC.nil
        go_simp
        refine hK _ _ (fun _ => hC.out) ?_
        clear hK KK
        (try simp only [Act.put])
        (try simp only [List.setIfInBounds_toArray])
        (try simp only [List.set_cons_succ])
        (try simp only [List.set_cons_zero])
        refine readyC (rs := [15]) (by kernel_rfl) (by simp) ?_
        refine ReadyC.cons rfl (fun KK hK => ?_) ReadyC.nil
        go_simp
        refine hK _ _ (fun h => absurd rfl h) ?_
        clear hK KK
        (try simp only [Act.put])
        (try simp only [List.setIfInBounds_toArray])
        (try simp only [List.set_cons_succ])
        (try simp only [List.set_cons_zero])
        refine doneC (by kernel_rfl) ?_ _
        have HF : Hid (RfGo w b v sd (insA (ls.eraseIdx I) K y) (V5.setCell ⟨b, 0, none⟩ (.slice oa on oc))) := by
          have hfr : Below w.heap.size w w5 := H3.out.2.1.trans (H5.out.2.mono H3.out.2.1.size)
          refine RfGo.pre hfr (H5.out.1.stored (Fr.of_below _ hC.out) (HO8.out.low (Nat.zero_le _)) (fun g hg => Or.inr (HO8.out.block hg).1) ?_ ?_)
          · have := HR.out.2
            have := HP.out
            unfold insA
            rw [List.length_append, List.length_cons, List.length_take, List.length_drop]
            omega
          · intro q hq
            unfold insA at hq
            rcases List.mem_append.1 hq with hq | hq
            · exact HH.out.nod q (List.mem_of_mem_eraseIdx (List.mem_of_mem_take hq))
            · rcases List.mem_cons.1 hq with rfl | hq
              · exact HH.out.nod _ HP.out.2.2.2.2.2
              · exact HH.out.nod q (List.mem_of_mem_eraseIdx (List.mem_of_mem_drop hq))
        clear zf z
        go_wp2
        go_ret
        exact ⟨rfl, HF.out⟩
      · have hC1 : Below w5.heap.size w5 (V1.alloc (.cells #[.int .i64 (y.1 : Int), .int .i64 (y.2.1 : Int), .string ⟨y.2.2.toArray⟩] 39)) := hC.out.alloc hC.out.size _
        have HLy : Hid (RdR (V1.alloc (.cells #[.int .i64 (y.1 : Int), .int .i64 (y.2.1 : Int), .string ⟨y.2.2.toArray⟩] 39)) (some ⟨V1.heap.size, 0, none⟩) 1 1 [y] ∧ V1.heap.size < (V1.alloc (.cells #[.int .i64 (y.1 : Int), .int .i64 (y.2.1 : Int), .string ⟨y.2.2.toArray⟩] 39)).heap.size) := ⟨layR V1 y, by simp⟩
        have HO02 : Hid (OwnR (V1.alloc (.cells #[.int .i64 (y.1 : Int), .int .i64 (y.2.1 : Int), .string ⟨y.2.2.toArray⟩] 39)) w5.heap.size (.slice (some ⟨W0.heap.size, 0, none⟩) 0 0) []) := HO0.out.below ((Below.refl _ _).alloc (Nat.le_refl _) _)
        have HLn : Hid (V1.heap.size ≠ W0.heap.size) := by
          obtain ⟨_, cur, hc⟩ := HO0.out.block (g := W0.heap.size) rfl
          have := lt_blk hc
          show _ ≠ _
          omega
        go_simp
        refine hK _ _ (fun _ => hC1) ?_
        clear hK KK
        (try simp only [Act.put])
        (try simp only [List.setIfInBounds_toArray])
        (try simp only [List.set_cons_succ])
        (try simp only [List.set_cons_zero])
        obtain ⟨V9, hV9⟩ : ∃ V9, V9 = (V1.alloc (.cells #[.int .i64 (y.1 : Int), .int .i64 (y.2.1 : Int), .string ⟨y.2.2.toArray⟩] 39)) := ⟨_, rfl⟩
        rw [← hV9] at hC1 HLy HO02 ⊢
        replace hC : Hid (Below w5.heap.size w5 V9) := hC1
        clear hC1 hV9
        replace HO0 := HO02
        refine readyC (rs := [5]) (by kernel_rfl) (by simp) ?_
        refine ReadyC.cons rfl (fun KK hK => ?_) ReadyC.nil
        have HAp : Hid (∀ ty, ∃ vo w2, (Builtin.append_ #[27, 27] ty #[.slice (some ⟨W0.heap.size, 0, none⟩) 0 0, .slice ra K rc]).run Try.prog V9 = .ok vo w2 ∧ AppR V9 w5.heap.size (.slice (some ⟨W0.heap.size, 0, none⟩) 0 0) ([] ++ (ls.eraseIdx I).take K) vo w2) := fun ty => appR HO0.out ((HR.out.1.below hC.out).take K (by have := HP.out; omega)) (by have := HP.out; simp; omega) hC.out.size ty
        refine stepC_runs rfl (.tmp 30) (.tmp 33) rfl _ _ rfl rfl _ (HAp.out _) ?_
        intro vo1 V10 hA
        have hC2 : Below w5.heap.size w5 V10 := hC.out.trans hA.2.1
        have HO4 : Hid (OwnR V10 w5.heap.size vo1 ([] ++ (ls.eraseIdx I).take K)) := hA.1
        replace HLy : Hid (RdR V10 (some ⟨V1.heap.size, 0, none⟩) 1 1 [y] ∧ V1.heap.size < V10.heap.size) := ⟨HLy.out.1.grown hA.2.2.1 (fun e => HLn.out (Option.some.inj e).symm), by have := HLy.out.2; have := hA.2.2.1.size; omega⟩
        refine hK _ _ (fun _ => hC2) ?_
        replace hC : Hid (Below w5.heap.size w5 V10) := hC2
        clear hA hC2 hK KK HAp HO0
        (try simp only [Act.put])
        (try simp only [List.setIfInBounds_toArray])
        (try simp only [List.set_cons_succ])
        (try simp only [List.set_cons_zero])
        refine readyC (rs := [8]) (by kernel_rfl) (by simp) ?_
        refine ReadyC.cons rfl (fun KK hK => ?_) ReadyC.nil
        have HAp : Hid (∀ ty, ∃ vo w2, (Builtin.append_ #[27, 27] ty #[vo1, .slice (some ⟨V1.heap.size, 0, none⟩) 1 1]).run Try.prog V10 = .ok vo w2 ∧ AppR V10 w5.heap.size vo1 (([] ++ (ls.eraseIdx I).take K) ++ [y]) vo w2) := fun ty => appR HO4.out HLy.out.1 (by have := HP.out; have := HR.out.2; simp; omega) hC.out.size ty
        refine stepC_runs rfl (.tmp 34) (.tmp 36) rfl _ _ rfl rfl _ (HAp.out _) ?_
        intro vo2 V11 hA
        have hC2 : Below w5.heap.size w5 V11 := hC.out.trans hA.2.1
        have HO7 : Hid (OwnR V11 w5.heap.size vo2 (([] ++ (ls.eraseIdx I).take K) ++ [y])) := hA.1
        refine hK _ _ (fun _ => hC2) ?_
        replace hC : Hid (Below w5.heap.size w5 V11) := hC2
        clear hA hC2 hK KK HAp HO4
        (try simp only [Act.put])
        (try simp only [List.setIfInBounds_toArray])
        (try simp only [List.set_cons_succ])
        (try simp only [List.set_cons_zero])
        refine readyC (rs := [12]) (by kernel_rfl) (by simp) ?_
        refine ReadyC.cons rfl (fun KK hK => ?_) ReadyC.nil
        have HAp : Hid (∀ ty, ∃ vo w2, (Builtin.append_ #[27, 27] ty #[vo2, .slice (cutR ra rc K) (m - K) (rc - K)]).run Try.prog V11 = .ok vo w2 ∧ AppR V11 w5.heap.size vo2 ((([] ++ (ls.eraseIdx I).take K) ++ [y]) ++ (ls.eraseIdx I).drop K) vo w2) := fun ty => appR HO7.out ((HR.out.1.below hC.out).drop K (by have := HP.out; omega)) (by have := HP.out; have := HR.out.2; simp; omega) hC.out.size ty
        refine stepC_runs rfl (.tmp 37) (.tmp 40) rfl _ _ rfl rfl _ (HAp.out _) ?_
        intro vo3 V12 hA
        obtain ⟨oa, oc, hvo⟩ := hA.1.slice
        obtain ⟨on, hon⟩ : ∃ on, ((([] ++ (ls.eraseIdx I).take K) ++ [y]) ++ (ls.eraseIdx I).drop K).length = on := ⟨_, rfl⟩
        rw [hon] at hvo
        clear hon
        subst hvo
        have hC2 : Below w5.heap.size w5 V12 := hC.out.trans hA.2.1
        have HO8 : Hid (OwnR V12 w5.heap.size (.slice oa on oc) (insA (ls.eraseIdx I) K y)) := by
          have h8 := hA.1
          rw [List.nil_append, List.append_assoc, List.singleton_append] at h8
          exact h8
        have hbk := blk_below H5.out.1.blk hC2
        have z := cell_blk hbk (i := 0) rfl
        have zf : V12.frozen? ⟨b, 0, none⟩ = false := free_blk hbk 0
        refine hK _ _ (fun _ => hC2) ?_
        replace hC : Hid (Below w5.heap.size w5 V12) := hC2
        clear hA hC2 hK KK HAp HO7 hbk
        (try simp only [Act.put])
        (try simp only [List.setIfInBounds_toArray])
        (try simp only [List.set_cons_succ])
        (try simp only [List.set_cons_zero])
        refine readyC (rs := [13]) (by kernel_rfl) (by simp) ?_
        refine ReadyC.cons rfl (fun KK hK => ?_) ReadyC.nil
        go_simp
        refine hK _ _ (fun _ => hC.out) ?_
        clear hK KK
        (try simp only [Act.put])
        (try simp only [List.setIfInBounds_toArray])
        (try simp only [List.set_cons_succ])
        (try simp only [List.set_cons_zero])
        refine readyC (rs := [14]) (by kernel_rfl) (by simp) ?_
        refine ReadyC.cons rfl (fun KK hK => ?_) ReadyC.nil
        go_simp
        refine hK _ _ (fun _ => hC.out) ?_
        clear hK KK
        (try simp only [Act.put])
        (try simp only [List.setIfInBounds_toArray])
        (try simp only [List.set_cons_succ])
        (try simp only [List.set_cons_zero])
        refine readyC (rs := [15]) (by kernel_rfl) (by simp) ?_
        refine ReadyC.cons rfl (fun KK hK => ?_) ReadyC.nil
        go_simp
        refine hK _ _ (fun h => absurd rfl h) ?_
        clear hK KK
        (try simp only [Act.put])
        (try simp only [List.setIfInBounds_toArray])
        (try simp only [List.set_cons_succ])
        (try simp only [List.set_cons_zero])
        refine doneC (by kernel_rfl) ?_ _
        have HF : Hid (RfGo w b v sd (insA (ls.eraseIdx I) K y) (V12.setCell ⟨b, 0, none⟩ (.slice oa on oc))) := by
          have hfr : Below w.heap.size w w5 := H3.out.2.1.trans (H5.out.2.mono H3.out.2.1.size)
          refine RfGo.pre hfr (H5.out.1.stored (Fr.of_below _ hC.out) (HO8.out.low (Nat.zero_le _)) (fun g hg => Or.inr (HO8.out.block hg).1) ?_ ?_)
          · have := HR.out.2
            have := HP.out
            unfold insA
            rw [List.length_append, List.length_cons, List.length_take, List.length_drop]
            omega
          · intro q hq
            unfold insA at hq
            rcases List.mem_append.1 hq with hq | hq
            · exact HH.out.nod q (List.mem_of_mem_eraseIdx (List.mem_of_mem_take hq))
            · rcases List.mem_cons.1 hq with rfl | hq
              · exact HH.out.nod _ HP.out.2.2.2.2.2
              · exact HH.out.nod q (List.mem_of_mem_eraseIdx (List.mem_of_mem_drop hq))
        clear zf z
        go_wp2
        go_ret
        exact ⟨rfl, HF.out⟩
    · have hC1 : Below w5.heap.size w5 (W0.alloc (.cells #[.int .i64 (y.1 : Int), .int .i64 (y.2.1 : Int), .string ⟨y.2.2.toArray⟩] 39)) := hC.out.alloc hC.out.size _
      have HLy : Hid (RdR (W0.alloc (.cells #[.int .i64 (y.1 : Int), .int .i64 (y.2.1 : Int), .string ⟨y.2.2.toArray⟩] 39)) (some ⟨W0.heap.size, 0, none⟩) 1 1 [y] ∧ W0.heap.size < (W0.alloc (.cells #[.int .i64 (y.1 : Int), .int .i64 (y.2.1 : Int), .string ⟨y.2.2.toArray⟩] 39)).heap.size) := ⟨layR W0 y, by simp⟩
      go_simp
      refine hK _ _ (fun _ => hC1) ?_
      clear hK KK
      (try simp only [Act.put])
      (try simp only [List.setIfInBounds_toArray])
      (try simp only [List.set_cons_succ])
      (try simp only [List.set_cons_zero])
      obtain ⟨V16, hV16⟩ : ∃ V16, V16 = (W0.alloc (.cells #[.int .i64 (y.1 : Int), .int .i64 (y.2.1 : Int), .string ⟨y.2.2.toArray⟩] 39)) := ⟨_, rfl⟩
      rw [← hV16] at hC1 HLy ⊢
      replace hC : Hid (Below w5.heap.size w5 V16) := hC1
      clear hC1 hV16
      refine readyC (rs := [1]) (by kernel_rfl) (by simp) ?_
      refine ReadyC.cons rfl (fun KK hK => ?_) ReadyC.nil
      have hC1 : Below w5.heap.size w5 (V16.alloc (.cells #[] 39)) := hC.out.alloc hC.out.size _
      have HO0 : Hid (OwnR (V16.alloc (.cells #[] 39)) w5.heap.size (.slice (some ⟨V16.heap.size, 0, none⟩) 0 0) []) := madeR V16 _ hC.out.size
      have HLy2 : Hid (RdR (V16.alloc (.cells #[] 39)) (some ⟨W0.heap.size, 0, none⟩) 1 1 [y] ∧ W0.heap.size ≠ V16.heap.size) := ⟨HLy.out.1.below ((Below.refl _ _).alloc (Nat.le_refl _) _), by have := HLy.out.2; omega⟩
      go_simp
      refine hK _ _ (fun _ => hC1) ?_
      clear hK KK
      (try simp only [Act.put])
      (try simp only [List.setIfInBounds_toArray])
      (try simp only [List.set_cons_succ])
      (try simp only [List.set_cons_zero])
      obtain ⟨V17, hV17⟩ : ∃ V17, V17 = (V16.alloc (.cells #[] 39)) := ⟨_, rfl⟩
      rw [← hV17] at hC1 HO0 HLy2 ⊢
      replace HLy : Hid (RdR V17 (some ⟨W0.heap.size, 0, none⟩) 1 1 [y] ∧ W0.heap.size < V17.heap.size) := ⟨HLy2.out.1, by have h := HLy.out.2; have hb : Below V16.heap.size V16 V17 := (by rw [hV17]; exact (Below.refl _ _).alloc (Nat.le_refl _) _); have := hb.size; omega⟩
      have HLn : Hid (W0.heap.size ≠ V16.heap.size) := HLy2.out.2
      replace hC : Hid (Below w5.heap.size w5 V17) := hC1
      clear hC1 hV17
      refine readyC (rs := [5]) (by kernel_rfl) (by simp) ?_
      refine ReadyC.cons rfl (fun KK hK => ?_) ReadyC.nil
      have HAp : Hid (∀ ty, ∃ vo w2, (Builtin.append_ #[27, 27] ty #[.slice (some ⟨V16.heap.size, 0, none⟩) 0 0, .slice ra K rc]).run Try.prog V17 = .ok vo w2 ∧ AppR V17 w5.heap.size (.slice (some ⟨V16.heap.size, 0, none⟩) 0 0) ([] ++ (ls.eraseIdx I).take K) vo w2) := fun ty => appR HO0.out ((HR.out.1.below hC.out).take K (by have := HP.out; omega)) (by have := HP.out; simp; omega) hC.out.size ty
      refine stepC_runs rfl (.tmp 30) (.tmp 33) rfl _ _ rfl rfl _ (HAp.out _) ?_
      intro vo1 V18 hA
      have hC2 : Below w5.heap.size w5 V18 := hC.out.trans hA.2.1
      have HO4 : Hid (OwnR V18 w5.heap.size vo1 ([] ++ (ls.eraseIdx I).take K)) := hA.1
      replace HLy : Hid (RdR V18 (some ⟨W0.heap.size, 0, none⟩) 1 1 [y] ∧ W0.heap.size < V18.heap.size) := ⟨HLy.out.1.grown hA.2.2.1 (fun e => HLn.out (Option.some.inj e).symm), by have := HLy.out.2; have := hA.2.2.1.size; omega⟩
      refine hK _ _ (fun _ => hC2) ?_
      replace hC : Hid (Below w5.heap.size w5 V18) := hC2
      clear hA hC2 hK KK HAp HO0
      (try simp only [Act.put])
      (try simp only [List.setIfInBounds_toArray])
      (try simp only [List.set_cons_succ])
      (try simp only [List.set_cons_zero])
      refine readyC (rs := [8]) (by kernel_rfl) (by simp) ?_
      refine ReadyC.cons rfl (fun KK hK => ?_) ReadyC.nil
      have HAp : Hid (∀ ty, ∃ vo w2, (Builtin.append_ #[27, 27] ty #[vo1, .slice (some ⟨W0.heap.size, 0, none⟩) 1 1]).run Try.prog V18 = .ok vo w2 ∧ AppR V18 w5.heap.size vo1 (([] ++ (ls.eraseIdx I).take K) ++ [y]) vo w2) := fun ty => appR HO4.out HLy.out.1 (by have := HP.out; have := HR.out.2; simp; omega) hC.out.size ty
      refine stepC_runs rfl (.tmp 34) (.tmp 36) rfl _ _ rfl rfl _ (HAp.out _) ?_
      intro vo2 V19 hA
      have hC2 : Below w5.heap.size w5 V19 := hC.out.trans hA.2.1
      have HO7 : Hid (OwnR V19 w5.heap.size vo2 (([] ++ (ls.eraseIdx I).take K) ++ [y])) := hA.1
      refine hK _ _ (fun _ => hC2) ?_
      replace hC : Hid (Below w5.heap.size w5 V19) := hC2
      clear hA hC2 hK KK HAp HO4
      (try simp only [Act.put])
      (try simp only [List.setIfInBounds_toArray])
      (try simp only [List.set_cons_succ])
      (try simp only [List.set_cons_zero])
      refine readyC (rs := [12]) (by kernel_rfl) (by simp) ?_
      refine ReadyC.cons rfl (fun KK hK => ?_) ReadyC.nil
      have HAp : Hid (∀ ty, ∃ vo w2, (Builtin.append_ #[27, 27] ty #[vo2, .slice (cutR ra rc K) (m - K) (rc - K)]).run Try.prog V19 = .ok vo w2 ∧ AppR V19 w5.heap.size vo2 ((([] ++ (ls.eraseIdx I).take K) ++ [y]) ++ (ls.eraseIdx I).drop K) vo w2) := fun ty => appR HO7.out ((HR.out.1.below hC.out).drop K (by have := HP.out; omega)) (by have := HP.out; have := HR.out.2; simp; omega) hC.out.size ty
      refine stepC_runs rfl (.tmp 37) (.tmp 40) rfl _ _ rfl rfl _ (HAp.out _) ?_
      intro vo3 V20 hA
      obtain ⟨oa, oc, hvo⟩ := hA.1.slice
      obtain ⟨on, hon⟩ : ∃ on, ((([] ++ (ls.eraseIdx I).take K) ++ [y]) ++ (ls.eraseIdx I).drop K).length = on := ⟨_, rfl⟩
      rw [hon] at hvo
      clear hon
      subst hvo
      have hC2 : Below w5.heap.size w5 V20 := hC.out.trans hA.2.1
      have HO8 : Hid (OwnR V20 w5.heap.size (.slice oa on oc) (insA (ls.eraseIdx I) K y)) := by
        have h8 := hA.1
        rw [List.nil_append, List.append_assoc, List.singleton_append] at h8
        exact h8
      have hbk := blk_below H5.out.1.blk hC2
      have z := cell_blk hbk (i := 0) rfl
      have zf : V20.frozen? ⟨b, 0, none⟩ = false := free_blk hbk 0
      refine hK _ _ (fun _ => hC2) ?_
      replace hC : Hid (Below w5.heap.size w5 V20) := hC2
      clear hA hC2 hK KK HAp HO7 hbk
      (try simp only [Act.put])
      (try simp only [List.setIfInBounds_toArray])
      (try simp only [List.set_cons_succ])
      (try simp only [List.set_cons_zero])
      refine readyC (rs := [13]) (by kernel_rfl) (by simp) ?_
      refine ReadyC.cons rfl (fun KK hK => ?_) ReadyC.nil
      go_simp
      refine hK _ _ (fun _ => hC.out) ?_
      clear hK KK
      (try simp only [Act.put])
      (try simp only [List.setIfInBounds_toArray])
      (try simp only [List.set_cons_succ])
      (try simp only [List.set_cons_zero])
      refine readyC (rs := [14]) (by kernel_rfl) (by simp) ?_
      refine ReadyC.cons rfl (fun KK hK => ?_) ReadyC.nil
      go_simp
      refine hK _ _ (fun _ => hC.out) ?_
      clear hK KK
      (try simp only [Act.put])
      (try simp only [List.setIfInBounds_toArray])
      (try simp only [List.set_cons_succ])
      (try simp only [List.set_cons_zero])
      refine readyC (rs := [15]) (by kernel_rfl) (by simp) ?_
      refine ReadyC.cons rfl (fun KK hK => ?_) ReadyC.nil
      go_simp
      refine hK _ _ (fun h => absurd rfl h) ?_
      clear hK KK
      (try simp only [Act.put])
      (try simp only [List.setIfInBounds_toArray])
      (try simp only [List.set_cons_succ])
      (try simp only [List.set_cons_zero])
      refine doneC (by kernel_rfl) ?_ _
      have HF : Hid (RfGo w b v sd (insA (ls.eraseIdx I) K y) (V20.setCell ⟨b, 0, none⟩ (.slice oa on oc))) := by
        have hfr : Below w.heap.size w w5 := H3.out.2.1.trans (H5.out.2.mono H3.out.2.1.size)
        refine RfGo.pre hfr (H5.out.1.stored (Fr.of_below _ hC.out) (HO8.out.low (Nat.zero_le _)) (fun g hg => Or.inr (HO8.out.block hg).1) ?_ ?_)
        · have := HR.out.2
          have := HP.out
          unfold insA
          rw [List.length_append, List.length_cons, List.length_take, List.length_drop]
          omega
        · intro q hq
          unfold insA at hq
          rcases List.mem_append.1 hq with hq | hq
          · exact HH.out.nod q (List.mem_of_mem_eraseIdx (List.mem_of_mem_take hq))
          · rcases List.mem_cons.1 hq with rfl | hq
            · exact HH.out.nod _ HP.out.2.2.2.2.2
            · exact HH.out.nod q (List.mem_of_mem_eraseIdx (List.mem_of_mem_drop hq))
      clear zf z
      go_wp2
      go_ret
      exact ⟨rfl, HF.out⟩
  · have hmv : moveA ls i k = ls := by unfold moveA; rw [if_neg hik]
    rw [hmv]
    obtain ⟨P, hP⟩ : ∃ P, hasB ls.length i = P := ⟨_, rfl⟩
    obtain ⟨Q, hQ⟩ : ∃ Q, hasB ls.length k = Q := ⟨_, rfl⟩
    rw [hP, hQ] at hik ⊢
    rw [hP] at HL
    clear hmv hy hP
    go_enter Try.func21, Try.ntmps21
    go_wp2_with (fail)
    refine HL.out.mono ?_
    rintro e w2 ⟨rfl, hb⟩
    obtain ⟨w3, hw3⟩ : ∃ w3, w3 = w2.alloc (.cells #[.int .i64 (y.1 : Int), .int .i64 (y.2.1 : Int), .string ⟨y.2.2.toArray⟩] 39) := ⟨_, rfl⟩
    have hb3 : Below w.heap.size w w3 := by rw [hw3]; exact hb.alloc hb.size _
    have HHs : Hid (Calls Try.prog 33 #[nptr b, .int .i64 k] w3 fun e w' => e = .returned (.bool (hasB ls.length k)) ∧ w' = w3) := rhas_any (h.below hb3) k
    have HF : Hid (RfGo w b v sd ls w3) := h.go hb3
    rw [hQ] at HHs
    clear HL hb hb3 h HH hQ
    go_upto_region 2 with fail
    rw [← hw3]
    clear hw3
    go_wp2_with (fail)
    refine HHs.out.mono ?_
    rintro e wq ⟨rfl, hw⟩
    replace hw := hw.symm
    subst hw
    clear HHs
    cases P with
    | false =>
      clear hik
      go_wp2
      go_ret
      exact ⟨rfl, HF.out⟩
    | true =>
      cases Q with
      | false =>
        clear hik
        go_wp2
        go_ret
        exact ⟨rfl, HF.out⟩
      | true => exact absurd ⟨rfl, rfl⟩ hik
end Go.Proofs.Ytblohegdlcpipaa
