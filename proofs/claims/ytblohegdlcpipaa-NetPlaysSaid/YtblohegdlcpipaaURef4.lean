/- The document's net: Copy; walked. -/
import Derived.Test.YtblohegdlcpipaaURef3
set_option linter.unusedVariables false
set_option linter.unusedSimpArgs false
namespace Go.Proofs.Ytblohegdlcpipaa
open Go.RowKit

theorem RfGo.pre {w w1 w2 : World} {b : Nat} {v : Value} {sd : Nat} {ls : List L3} (hb : Below w.heap.size w w1) (h : RfGo w1 b v sd ls w2) : RfGo w b v sd ls w2 := by
  obtain ⟨v', h1, h2, h3⟩ := h
  exact ⟨v', h1, Fr.pre hb h2 (fun _ h => h), fun g hg => (h3 g hg).imp id (fun h => Nat.le_trans hb.size h)⟩

set_option maxHeartbeats 4000000 in
set_option maxRecDepth 20000 in
theorem rcopy_any {w : World} {b : Nat} {v : Value} {sd : Nat} {ls : List L3} (h : RfW w b v sd ls) (i : Int) :
    Calls Try.prog 20 #[nptr b, .int .i64 i] w fun e w' => e = .returned (.bool (hasB ls.length i && decide (ls.length < 200))) ∧ RfGo w b v sd (if hasB ls.length i = true then copyA ls i else ls) w' := by
  have HL : Hid (Calls Try.prog 23 #[nptr b, .int .i64 i] w fun e w' => e = .returned (.tuple #[aggR (lookR ls i), .bool (hasB ls.length i)]) ∧ Below w.heap.size w w') := rlook_any h i
  have HH : Hid (RfW w b v sd ls) := h
  obtain ⟨a, c, hv⟩ := h.row.slice
  obtain ⟨n, hn⟩ : ∃ n, ls.length = n := ⟨_, rfl⟩
  have bn : (n : Int) ≤ 200 := by have := h.few; omega
  have HN : Hid (ls.length = n ∧ v = .slice a n c) := ⟨hn, by rw [hv, hn]⟩
  rw [hn] at HL ⊢
  clear h hv
  cases hi : hasB n i with
  | false =>
    rw [hi] at HL
    clear hi hn
    obtain ⟨y, hy⟩ : ∃ y, lookR ls i = y := ⟨_, rfl⟩
    rw [hy] at HL
    clear hy
    go_enter Try.func20, Try.ntmps20
    go_wp2_with (fail)
    refine HL.out.mono ?_
    rintro e w2 ⟨rfl, hb⟩
    have HF : Hid (RfGo w b v sd ls (w2.alloc (.cells #[.int .i64 (y.1 : Int), .int .i64 (y.2.1 : Int), .string ⟨y.2.2.toArray⟩] 39))) := HH.out.go (hb.alloc hb.size _)
    clear HL hb
    go_wp2
    go_ret
    exact ⟨rfl, HF.out⟩
  | true =>
    rw [hi] at HL
    obtain ⟨i0, i1⟩ := hasB_iff.1 hi
    obtain ⟨j, rfl⟩ : ∃ j : Nat, i = (j : Int) := ⟨i.toNat, by omega⟩
    obtain ⟨y, hy⟩ : ∃ y, ls[j]? = some y := ⟨ls[j]'(by omega), List.getElem?_eq_getElem _⟩
    have hlk : lookR ls (j : Int) = y := by
      unfold lookR
      rw [hn, if_pos hi, Int.toNat_natCast, List.getD_eq_getElem?_getD, hy]
      rfl
    rw [hlk] at HL
    have hmem := List.mem_of_getElem? hy
    by_cases hl : n < 200
    · have q1 : ¬ (200 : Int) ≤ (n : Int) := by omega
      have hcp : copyA ls (j : Int) = ls ++ [y] := by
        unfold copyA
        rw [if_pos (by omega), Int.toNat_natCast, hy]
        rfl
      rw [decide_eq_true hl, if_pos rfl, hcp]
      have HM : Hid (y ∈ ls ∧ n < 200) := ⟨hmem, hl⟩
      clear hi i0 i1 hy hlk hmem hl hcp hn
      go_enter Try.func20, Try.ntmps20
      go_wp2_with (fail)
      refine HL.out.mono ?_
      rintro e w2 ⟨rfl, hb⟩
      clear HL
      obtain ⟨w3, hw3⟩ : ∃ w3, w3 = w2.alloc (.cells #[.int .i64 (y.1 : Int), .int .i64 (y.2.1 : Int), .string ⟨y.2.2.toArray⟩] 39) := ⟨_, rfl⟩
      have hb3 : Below w.heap.size w w3 := by rw [hw3]; exact hb.alloc hb.size _
      have hk3 : w3.heap[w2.heap.size]? = some (.cells #[.int .i64 (y.1 : Int), .int .i64 (y.2.1 : Int), .string ⟨y.2.2.toArray⟩] 39 (0, 0)) := by rw [hw3]; exact heap_alloc_new _ _
      have h3 := HH.out.below hb3
      have H3 : Hid (RfW w3 b v sd ls ∧ Below w.heap.size w w3) := ⟨h3, hb3⟩
      have hgl : ∀ k, v.ownBlock = some k → k < w.heap.size ∧ k ≠ b := fun k hk => ⟨by obtain ⟨_, cur, hc⟩ := HH.out.row.block hk; exact lt_blk hc, HH.out.ne hk⟩
      have X0 : Hid (∀ u, Fr (fun k => v.ownBlock = some k) w3 u → u.heap[b]? = some (.cells #[v, .int .u64 (sd : Int)] 30 (0, 0))) := fun u hu => hu.at h3.blk (fun e => (hgl b e).2 rfl)
      have Y : Hid (∀ u, Fr (fun k => v.ownBlock = some k) w3 u → u.heap[w2.heap.size]? = some (.cells #[.int .i64 (y.1 : Int), .int .i64 (y.2.1 : Int), .string ⟨y.2.2.toArray⟩] 39 (0, 0))) := fun u hu => hu.at hk3 (fun e => by have := (hgl _ e).1; have := hb.size; omega)
      have x0 : w3.cell? ⟨b, 0, none⟩ = some (.slice a n c) := by rw [← HN.out.2]; exact h3.c0
      clear hb hb3 hk3 h3 hgl
      go_upto_region 2 with fail
      rw [← hw3]
      clear hw3
      go_upto_region 4 with fail
      clear x0
      refine regionC (fun (w' : World) => Fr (fun k => v.ownBlock = some k) w3 w') 10 (by kernel_rfl) ?_
      (try (change wpAnyC _ _ _ _ _ _ _ _ _ (World.drew _)))
      refine nameW (fun W0 hW0 => ?_)
      have hC : Hid (Fr (fun k => v.ownBlock = some k) w3 W0) := by
        show Fr _ _ _; rw [hW0]; exact (Fr.refl _ _).drew
      have HR0 : Hid (OwnR W0 0 v ls) := by show OwnR _ _ _ _; rw [hW0]; exact H3.out.1.row.keep (fun _ _ => rfl)
      have HB0 : Hid (Below w3.heap.size w3 W0) := by show Below _ _ _; rw [hW0]; exact (Below.refl _ _).drew
      clear hW0
      refine takeC (i := 0) (v := ?_) rfl (by kernel_rfl) (by kernel_rfl) (by kernel_rfl) (by kernel_rfl) (by kernel_rfl) (fun _ _ _ h => h) hC.out (Or.inl ⟨by rfl, ?_⟩) ?_
      rotate_left 1
      · intro w' hw'
        skip
        go_simp
        first | done | with_reducible rfl
      (try simp only [Act.put])
      (try simp only [List.setIfInBounds_toArray])
      (try simp only [List.set_cons_succ])
      (try simp only [List.set_cons_zero])
      refine takeC (i := 1) (v := ?_) rfl (by kernel_rfl) (by kernel_rfl) (by kernel_rfl) (by kernel_rfl) (by kernel_rfl) (fun _ _ _ h => h) hC.out (Or.inl ⟨by rfl, ?_⟩) ?_
      rotate_left 1
      · intro w' hw'
        skip
        go_simp
        first | done | with_reducible rfl
      (try simp only [Act.put])
      (try simp only [List.setIfInBounds_toArray])
      (try simp only [List.set_cons_succ])
      (try simp only [List.set_cons_zero])
      refine takeC (i := 2) (v := ?_) rfl (by kernel_rfl) (by kernel_rfl) (by kernel_rfl) (by kernel_rfl) (by kernel_rfl) (fun _ _ _ h => h) hC.out (Or.inl ⟨by rfl, ?_⟩) ?_
      rotate_left 1
      · intro w' hw'
        skip
        go_simp
        first | done | with_reducible rfl
      (try simp only [Act.put])
      (try simp only [List.setIfInBounds_toArray])
      (try simp only [List.set_cons_succ])
      (try simp only [List.set_cons_zero])
      refine takeC (i := 3) (v := ?_) rfl (by kernel_rfl) (by kernel_rfl) (by kernel_rfl) (by kernel_rfl) (by kernel_rfl) (fun _ _ _ h => h) hC.out (Or.inl ⟨by rfl, ?_⟩) ?_
      rotate_left 1
      · intro w' hw'
        skip
        go_simp
        first | done | with_reducible rfl
      (try simp only [Act.put])
      (try simp only [List.setIfInBounds_toArray])
      (try simp only [List.set_cons_succ])
      (try simp only [List.set_cons_zero])
      refine takeC (i := 4) (v := ?_) rfl (by kernel_rfl) (by kernel_rfl) (by kernel_rfl) (by kernel_rfl) (by kernel_rfl) (fun _ _ _ h => h) hC.out (Or.inl ⟨by rfl, ?_⟩) ?_
      rotate_left 1
      · intro w' hw'
        have z := cell_blk (X0.out w' hw') (i := 0) rfl; have z' := HN.out.2; rw [z'] at z
        go_simp
        first | done | with_reducible rfl
      (try simp only [Act.put])
      (try simp only [List.setIfInBounds_toArray])
      (try simp only [List.set_cons_succ])
      (try simp only [List.set_cons_zero])
      refine takeC (i := 5) (v := ?_) rfl (by kernel_rfl) (by kernel_rfl) (by kernel_rfl) (by kernel_rfl) (by kernel_rfl) (fun _ _ _ h => h) hC.out (Or.inl ⟨by rfl, ?_⟩) ?_
      rotate_left 1
      · intro w' hw'
        have z := cell_blk (Y.out w' hw') (i := 0) rfl; have z1 := cell_blk (Y.out w' hw') (i := 1) rfl; have z2 := cell_blk (Y.out w' hw') (i := 2) rfl
        go_simp
        first | done | with_reducible rfl
      (try simp only [Act.put])
      (try simp only [List.setIfInBounds_toArray])
      (try simp only [List.set_cons_succ])
      (try simp only [List.set_cons_zero])
      refine readyC (rs := [6]) (by kernel_rfl) (by simp) ?_
      refine ReadyC.cons rfl (fun K hK => ?_) ReadyC.nil
      have hC4 : Fr (fun k => v.ownBlock = some k) w3 (W0.alloc (.cells #[.int .i64 (y.1 : Int), .int .i64 (y.2.1 : Int), .string ⟨y.2.2.toArray⟩] 39)) := hC.out.alloc _
      have HAp : Hid (∀ ty, ∃ vo w2, (Builtin.append_ #[27, 27] ty #[.slice a n c, .slice (some ⟨W0.heap.size, 0, none⟩) 1 1]).run Try.prog (W0.alloc (.cells #[.int .i64 (y.1 : Int), .int .i64 (y.2.1 : Int), .string ⟨y.2.2.toArray⟩] 39)) = .ok vo w2 ∧ PushR W0 v (ls ++ [y]) vo w2) := fun ty => by
        have := app_letter HR0.out y HH.out.few ty
        rw [HN.out.2] at this ⊢
        exact this
      go_simp
      refine hK _ _ (fun _ => hC4) ?_
      clear hK K
      (try simp only [Act.put])
      (try simp only [List.setIfInBounds_toArray])
      (try simp only [List.set_cons_succ])
      (try simp only [List.set_cons_zero])
      obtain ⟨W1, hW1⟩ : ∃ W1, W1 = (W0.alloc (.cells #[.int .i64 (y.1 : Int), .int .i64 (y.2.1 : Int), .string ⟨y.2.2.toArray⟩] 39)) := ⟨_, rfl⟩
      rw [← hW1] at hC4 HAp ⊢
      replace hC : Hid (Fr (fun k => v.ownBlock = some k) w3 W1) := hC4
      clear hC4 hW1
      refine readyC (rs := [7]) (by kernel_rfl) (by simp) ?_
      refine ReadyC.cons rfl (fun K hK => ?_) ReadyC.nil
      refine stepC_runs rfl (.tmp 27) (.tmp 29) rfl _ _ rfl rfl _ (HAp.out _) ?_
      intro vo W2 hA
      obtain ⟨oa, oc, hvo⟩ := hA.1.slice
      obtain ⟨on, hon⟩ : ∃ on, (ls ++ [y]).length = on := ⟨_, rfl⟩
      rw [hon] at hvo
      clear hon
      subst hvo
      have hC5 : Fr (fun k => v.ownBlock = some k) w3 W2 := (Fr.of_below _ HB0.out).tr hA.2.1
      have HA : Hid (OwnR W2 0 (.slice oa on oc) (ls ++ [y]) ∧ ∀ g, (Value.slice oa on oc).ownBlock = some g → v.ownBlock = some g ∨ w3.heap.size ≤ g) := ⟨hA.1, fun g hg => (hA.2.2 g hg).imp id (fun h => Nat.le_trans HB0.out.size h)⟩
      refine hK _ _ (fun _ => hC5) ?_
      clear hK K
      (try simp only [Act.put])
      (try simp only [List.setIfInBounds_toArray])
      (try simp only [List.set_cons_succ])
      (try simp only [List.set_cons_zero])
      replace hC : Hid (Fr (fun k => v.ownBlock = some k) w3 W2) := hC5
      have hbk := X0.out W2 hC5
      have z := cell_blk hbk (i := 0) rfl
      have zf : W2.frozen? ⟨b, 0, none⟩ = false := free_blk hbk 0
      clear hC5 hA HAp hbk
      refine readyC (rs := [8]) (by kernel_rfl) (by simp) ?_
      refine ReadyC.cons rfl (fun K hK => ?_) ReadyC.nil
      go_simp
      refine hK _ _ (fun _ => hC.out) ?_
      clear hK K
      (try simp only [Act.put])
      (try simp only [List.setIfInBounds_toArray])
      (try simp only [List.set_cons_succ])
      (try simp only [List.set_cons_zero])
      refine readyC (rs := [9]) (by kernel_rfl) (by simp) ?_
      refine ReadyC.cons rfl (fun K hK => ?_) ReadyC.nil
      go_simp
      refine hK _ _ (fun _ => hC.out) ?_
      clear hK K
      (try simp only [Act.put])
      (try simp only [List.setIfInBounds_toArray])
      (try simp only [List.set_cons_succ])
      (try simp only [List.set_cons_zero])
      refine readyC (rs := [10]) (by kernel_rfl) (by simp) ?_
      refine ReadyC.cons rfl (fun K hK => ?_) ReadyC.nil
      go_simp
      refine hK _ _ (fun h => absurd rfl h) ?_
      clear hK K
      (try simp only [Act.put])
      (try simp only [List.setIfInBounds_toArray])
      (try simp only [List.set_cons_succ])
      (try simp only [List.set_cons_zero])
      refine doneC (by kernel_rfl) ?_ _
      have HF : Hid (RfGo w b v sd (ls ++ [y]) (W2.setCell ⟨b, 0, none⟩ (.slice oa on oc))) := RfGo.pre H3.out.2 (H3.out.1.stored hC.out HA.out.1 HA.out.2 (by have := HN.out.1; have := HM.out.2; simp; omega) (fun z hz => by
        rcases List.mem_append.1 hz with hz | hz
        · exact HH.out.nod z hz
        · simp at hz; subst hz; exact HH.out.nod _ HM.out.1))
      clear zf z
      go_wp2
      go_ret
      exact ⟨rfl, HF.out⟩
    · have q1 : (200 : Int) ≤ (n : Int) := by omega
      have hcp : copyA ls (j : Int) = ls := by
        unfold copyA
        rw [if_neg (by omega)]
      rw [decide_eq_false hl, if_pos rfl, hcp]
      clear hi i0 i1 hy hlk hmem hl hcp hn
      go_enter Try.func20, Try.ntmps20
      go_wp2_with (fail)
      refine HL.out.mono ?_
      rintro e w2 ⟨rfl, hb⟩
      clear HL
      obtain ⟨w3, hw3⟩ : ∃ w3, w3 = w2.alloc (.cells #[.int .i64 (y.1 : Int), .int .i64 (y.2.1 : Int), .string ⟨y.2.2.toArray⟩] 39) := ⟨_, rfl⟩
      have hb3 : Below w.heap.size w w3 := by rw [hw3]; exact hb.alloc hb.size _
      have HF : Hid (RfGo w b v sd ls w3) := HH.out.go hb3
      have x0 : w3.cell? ⟨b, 0, none⟩ = some (.slice a n c) := by rw [← HN.out.2]; exact (HH.out.below hb3).c0
      clear hb hb3
      go_upto_region 2 with fail
      rw [← hw3]
      clear hw3
      go_wp2
      go_ret
      exact ⟨rfl, HF.out⟩
end Go.Proofs.Ytblohegdlcpipaa
