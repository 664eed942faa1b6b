/- A net: Move; walked. -/
import Derived.Test.YtblohegdlcpipaaUIns2
set_option linter.unusedVariables false
set_option linter.unusedSimpArgs false
namespace Go.Proofs.Ytblohegdlcpipaa
open Go.RowKit

/-- The row is set anew. -/
theorem NetW.stored3 {w w1 W2 : World} {b : Nat} {v vo : Value} {sd : Nat} {xs ys : List Lr} (h : NetW w b v sd xs) (hb : Below w.heap.size w w1) (hf2 : Fr (fun k => v.ownBlock = some k) w1 W2) (hA1 : OwnL W2 vo ys)
    (hd : ∀ x ∈ ys, x ∈ xs) (hl : ys.length ≤ 200) : NetW (W2.setCell ⟨b, 0, none⟩ vo) b vo sd ys ∧ Fr (NetB b v) w (W2.setCell ⟨b, 0, none⟩ vo) := by
  have h1 := h.below hb
  have hblk := hf2.at h1.blk (fun e => h1.ne e rfl)
  refine ⟨⟨set_blk hblk 0 vo, hA1.keep (fun g hg => ?_), fun x hx => ownB_keep (w := w1) (h1.dat x (hd x hx)) (fun g hg => ?_), hl, fun x hx => h.nod x (hd x hx), fun x hx => h.short x (hd x hx), h.side⟩, ?_⟩
  · obtain ⟨cur, hc⟩ := hA1.block hg
    exact set_other _ (type_ne hc hblk (by decide))
  · obtain ⟨cur, hc⟩ := ownB_block (h1.dat x (hd x hx)) hg
    have hne : ¬ v.ownBlock = some g := fun e => by
      obtain ⟨c2, hc2⟩ := h1.row.block e
      exact type_ne hc hc2 (by decide) rfl
    have hc' := hf2.at hc hne
    exact (set_other _ (type_ne hc' hblk (by decide))).trans (hc'.trans hc.symm)
  · exact Fr.set (S := NetB b v) (p := ⟨b, 0, none⟩) (Fr.pre hb hf2 (fun k hk => Or.inr hk)) (Or.inl rfl) vo

set_option maxHeartbeats 4000000 in
set_option maxRecDepth 20000 in
theorem udropx_any {w : World} {b g k c : Nat} {sd : Nat} {xs : List Lr} (h : NetW w b (.slice (some ⟨g, 0, none⟩) (k + 1) c) sd xs) {j : Nat} (hj : j ≤ k) :
    Calls Try.prog 28 #[nptr b, .int .i64 (j : Int)] w fun e w' => e = .returned (.tuple #[]) ∧ NetW w' b (.slice (some ⟨g, 0, none⟩) k c) sd (xs.eraseIdx j) ∧ Fr (NetB b (.slice (some ⟨g, 0, none⟩) (k + 1) c)) w w' := by
  have x0 := h.c0
  have f0 := h.fz 0
  have hrow : OwnL w (.slice (some ⟨g, 0, none⟩) (k + 1) c) xs := h.row
  have hk := hrow.cap.1
  have hfew := h.few
  have hdel := udelete_any hrow (i := j) hj (by omega)
  have HD : Hid (Calls Try.prog 34 #[.slice (some ⟨g, 0, none⟩) (k + 1) c, .int .i64 (j : Int), .int .i64 ((j : Int) + 1)] w fun e w' => e = .returned (.slice (some ⟨g, 0, none⟩) k c) ∧ OwnL w' (.slice (some ⟨g, 0, none⟩) k c) (xs.eraseIdx j) ∧ Fr (fun q => q = g) w w') := hdel
  have HH : Hid (NetW w b (.slice (some ⟨g, 0, none⟩) (k + 1) c) sd xs ∧ (xs.eraseIdx j).length ≤ 200) := ⟨h, by rw [List.length_eraseIdx]; split <;> omega⟩
  have bj : (j : Int) ≤ 200 := by omega
  clear h hrow hk hfew hdel hj
  go_enter Try.func28, Try.ntmps28
  go_wp2_with (fail)
  refine HD.out.mono ?_
  rintro e w2 ⟨rfl, ho, hf⟩
  have hf2 : Fr (fun q => (Value.slice (some ⟨g, 0, none⟩) (k + 1) c).ownBlock = some q) w w2 := hf.wide (fun q hq => by rw [hq]; rfl)
  have hblk := hf2.at HH.out.1.blk (fun e => HH.out.1.ne e rfl)
  have z0 := cell_blk hblk (i := 0) (v := .slice (some ⟨g, 0, none⟩) (k + 1) c) rfl
  have zf : w2.frozen? ⟨b, 0, none⟩ = false := free_blk hblk 0
  have HF : Hid (NetW (w2.setCell ⟨b, 0, none⟩ (.slice (some ⟨g, 0, none⟩) k c)) b (.slice (some ⟨g, 0, none⟩) k c) sd (xs.eraseIdx j) ∧ Fr (NetB b (.slice (some ⟨g, 0, none⟩) (k + 1) c)) w (w2.setCell ⟨b, 0, none⟩ (.slice (some ⟨g, 0, none⟩) k c))) :=
    HH.out.1.stored3 (Below.refl _ _) hf2 ho (fun x hx => List.mem_of_mem_eraseIdx hx) HH.out.2
  clear HD ho hf hf2 hblk x0
  go_wp2
  go_end0
  exact ⟨rfl, HF.out⟩

/-- A letter of a list put elsewhere. -/
def insA (ls : List L3) (k : Nat) (y : L3) : List L3 := ls.take k ++ y :: ls.drop k
def moveA (ls : List L3) (i k : Int) : List L3 := if hasB ls.length i = true ∧ hasB ls.length k = true then insA (ls.eraseIdx i.toNat) k.toNat (ls.getD i.toNat (0, 0, [])) else ls
theorem insA3_val (xs : List Lr) (k : Nat) (x : Lr) : (insA3 xs k x).map Lr.v = insA (xs.map Lr.v) k x.v := by simp [insA3, insA]

set_option maxHeartbeats 4000000 in
set_option maxRecDepth 20000 in
theorem umove_no {w : World} {b : Nat} {v : Value} {sd : Nat} {ls : List L3} (h : NetC w b v sd ls) (i k : Int) (hh : (hasB ls.length i && hasB ls.length k) = false) :
    Calls Try.prog 14 #[nptr b, .int .i64 i, .int .i64 k] w fun e w' => e = .returned (.bool false) ∧ GoC w b v sd (moveA ls i k) w' := by
  have hm : moveA ls i k = ls := by
    unfold moveA
    rw [if_neg]
    rintro ⟨h1, h2⟩
    rw [h1, h2] at hh
    cases hh
  rw [hm]
  have HF : Hid (GoC w b v sd ls w) := h.go (Below.refl _ _)
  obtain ⟨xs, hx, hxm⟩ := h
  have hlen : ls.length = xs.length := by rw [← hxm, List.length_map]
  have h1 := uhas_any hx i
  have h2 := uhas_any hx k
  rw [← hlen] at h1 h2
  cases hi : hasB ls.length i with
  | false =>
    rw [hi] at h1
    clear hx hxm hlen h2 hi hh hm
    go_enter Try.func14, Try.ntmps14
    go_wp2_with (fail)
    refine h1.mono ?_
    rintro e w1 ⟨rfl, hw⟩
    replace hw := hw.symm
    subst hw
    clear h1
    go_wp2
    go_ret
    exact ⟨rfl, HF.out⟩
  | true =>
    rw [hi] at h1 hh
    have hk : hasB ls.length k = false := by simpa using hh
    rw [hk] at h2
    clear hx hxm hlen hi hh hk hm
    go_enter Try.func14, Try.ntmps14
    go_wp2_with (fail)
    refine h1.mono ?_
    rintro e w1 ⟨rfl, hw⟩
    replace hw := hw.symm
    subst hw
    clear h1
    go_wp2_with (fail)
    refine h2.mono ?_
    rintro e w1 ⟨rfl, hw⟩
    replace hw := hw.symm
    subst hw
    clear h2
    go_wp2
    go_ret
    exact ⟨rfl, HF.out⟩

set_option maxHeartbeats 4000000 in
set_option maxRecDepth 20000 in
theorem umove_yes {w : World} {b : Nat} {v : Value} {sd : Nat} {ls : List L3} (h : NetC w b v sd ls) {i k : Nat} (hi : i < ls.length) (hk : k < ls.length) :
    Calls Try.prog 14 #[nptr b, .int .i64 (i : Int), .int .i64 (k : Int)] w fun e w' => e = .returned (.bool true) ∧ GoC w b v sd (moveA ls (i : Int) (k : Int)) w' := by
  obtain ⟨xs, hx, hxm⟩ := h
  have hlen : ls.length = xs.length := by rw [← hxm, List.length_map]
  have h1 := uhas_any hx (i : Int)
  have h2 := uhas_any hx (k : Int)
  rw [hasB_iff.2 ⟨by omega, by omega⟩] at h1 h2
  obtain ⟨x, hxi⟩ : ∃ x, xs[i]? = some x := ⟨xs[i], List.getElem?_eq_getElem (by omega)⟩
  have hmv : moveA ls (i : Int) (k : Int) = (insA3 (xs.eraseIdx i) k x).map Lr.v := by
    unfold moveA
    rw [if_pos ⟨hasB_iff.2 ⟨by omega, by omega⟩, hasB_iff.2 ⟨by omega, by omega⟩⟩, insA3_val, map_erase, hxm, Int.toNat_natCast, Int.toNat_natCast]
    congr 1
    rw [← hxm, List.getD_eq_getElem?_getD, List.getElem?_map, hxi]
    rfl
  rw [hmv]
  obtain ⟨n, hn⟩ : ∃ n, xs.length = n + 1 := ⟨xs.length - 1, by omega⟩
  obtain ⟨g, c, hv, hnc, y0, y1, y2⟩ := hx.row.at hxi
  rw [hn] at hv
  subst hv
  have hfew := hx.few
  have x0 := hx.c0
  obtain ⟨wa, hwa⟩ : ∃ wa, wa = w.alloc (.cells #[.int .i64 (x.f : Int), .int .i64 (x.t : Int), .slice x.a x.d.length x.c] 57) := ⟨_, rfl⟩
  have hba : Below w.heap.size w wa := by rw [hwa]; exact (Below.refl _ w).alloc (Nat.le_refl _) _
  have hka : wa.heap[w.heap.size]? = some (.cells #[.int .i64 (x.f : Int), .int .i64 (x.t : Int), .slice x.a x.d.length x.c] 57 (0, 0)) := by rw [hwa]; exact heap_alloc_new _ _
  have HD : Hid (Calls Try.prog 28 #[nptr b, .int .i64 (i : Int)] wa fun e w' => e = .returned (.tuple #[]) ∧ NetW w' b (.slice (some ⟨g, 0, none⟩) n c) sd (xs.eraseIdx i) ∧ Fr (NetB b (.slice (some ⟨g, 0, none⟩) (n + 1) c)) wa w') := udropx_any (hx.below hba) (by omega)
  have hgb : g ≠ b := hx.ne rfl
  have hgl : g < w.heap.size := NetB.lt hx (k := g) (Or.inr rfl)
  have hbl : b < w.heap.size := lt_blk hx.blk
  have hel : (xs.eraseIdx i).length = n := by rw [List.length_eraseIdx]; split <;> omega
  have HH : Hid (NetW w b (.slice (some ⟨g, 0, none⟩) (n + 1) c) sd xs ∧ Below w.heap.size w wa ∧ wa.heap[w.heap.size]? = some (.cells #[.int .i64 (x.f : Int), .int .i64 (x.t : Int), .slice x.a x.d.length x.c] 57 (0, 0)) ∧ (g ≠ b ∧ g < w.heap.size ∧ b < w.heap.size) ∧ ((xs.eraseIdx i).length = n ∧ n + 1 ≤ c ∧ n + 1 ≤ 200 ∧ k ≤ n ∧ i ≤ n) ∧ x ∈ xs) := ⟨hx, hba, hka, ⟨hgb, hgl, hbl⟩, ⟨hel, by omega, by omega, by omega, by omega⟩, List.mem_of_getElem? hxi⟩
  obtain ⟨m, hm⟩ : ∃ m, x.d.length = m := ⟨_, rfl⟩
  have HM : Hid (x.d.length = m) := hm
  rw [hm] at y2 hwa
  have bn : (n : Int) + 1 ≤ 200 := by omega
  have bi : (i : Int) ≤ (n : Int) := by omega
  have bk : (k : Int) ≤ (n : Int) := by omega
  have bi2 : (i : Int) < (n : Int) + 1 := by omega
  clear hx hxm hlen hxi hmv hn hnc hfew hba hka hgb hgl hbl hel hm hi hk
  go_enter Try.func14, Try.ntmps14
  go_wp2_with (fail)
  refine h1.mono ?_
  rintro e w1 ⟨rfl, hw⟩
  replace hw := hw.symm
  subst hw
  clear h1
  go_wp2_with (fail)
  refine h2.mono ?_
  rintro e w1 ⟨rfl, hw⟩
  replace hw := hw.symm
  subst hw
  clear h2
  go_upto_region 3 with fail
  go_upto_region 4 with fail
  rw [← hwa]
  clear hwa x0 y0 y1 y2
  go_wp2_with (fail)
  refine HD.out.mono ?_
  rintro e w2 ⟨rfl, hn2, hf2⟩
  clear HD
  have hl2 : ¬ NetB b (.slice (some ⟨g, 0, none⟩) (n + 1) c) w.heap.size := by
    rintro (e | e)
    · have := HH.out.2.2.2.1.2.2; omega
    · have := HH.out.2.2.2.1.2.1; have := Option.some.inj e; simp only at this; omega
  have hk2 := hf2.at HH.out.2.2.1 hl2
  have HN2 : Hid (NetW w2 b (.slice (some ⟨g, 0, none⟩) n c) sd (xs.eraseIdx i) ∧ Fr (NetB b (.slice (some ⟨g, 0, none⟩) (n + 1) c)) wa w2) := ⟨hn2, hf2⟩
  have X0 : Hid (∀ u, Fr (fun q => q = g) w2 u → u.heap[b]? = some (.cells #[.slice (some ⟨g, 0, none⟩) n c, .int .u64 (sd : Int)] 52 (0, 0))) := fun u hu => hu.at hn2.blk (fun e => HH.out.2.2.2.1.1 e.symm)
  have Y : Hid (∀ u, Fr (fun q => q = g) w2 u → u.heap[w.heap.size]? = some (.cells #[.int .i64 (x.f : Int), .int .i64 (x.t : Int), .slice x.a m x.c] 57 (0, 0))) := fun u hu => by
    rw [← HM.out]
    exact hu.at hk2 (fun e => by have := HH.out.2.2.2.1.2.1; omega)
  clear hn2 hf2 hl2 hk2
  go_upto_region 5 with fail
  refine regionC (fun (w' : World) => Fr (fun q => q = g) w2 w') 11 (by kernel_rfl) ?_
  (try (change wpAnyC _ _ _ _ _ _ _ _ _ (World.drew _)))
  refine nameW (fun W0 hW0 => ?_)
  have hC : Hid (Fr (fun q => q = g) w2 W0) := by
    show Fr _ _ _; rw [hW0]; exact (Fr.refl _ _).drew
  have HR0 : Hid (OwnL W0 (.slice (some ⟨g, 0, none⟩) n c) (xs.eraseIdx i)) := by show OwnL _ _ _; rw [hW0]; exact HN2.out.1.row.keep (fun _ _ => rfl)
  clear hW0
  refine takeC (i := 0) (v := ?_) rfl (by kernel_rfl) (by kernel_rfl) (by kernel_rfl) (by kernel_rfl) (by kernel_rfl) (fun _ _ _ h => h) hC.out (Or.inl ⟨by rfl, ?_⟩) ?_
  rotate_left 1
  · intro w' hw'
    skip
    go_simp
    first | done | with_reducible rfl
  (try simp only [Act.put])
  (try simp only [List.setIfInBounds_toArray])
  (try simp only [List.set_cons_succ])
  (try simp only [List.set_cons_zero])
  refine takeC (i := 1) (v := ?_) rfl (by kernel_rfl) (by kernel_rfl) (by kernel_rfl) (by kernel_rfl) (by kernel_rfl) (fun _ _ _ h => h) hC.out (Or.inl ⟨by rfl, ?_⟩) ?_
  rotate_left 1
  · intro w' hw'
    skip
    go_simp
    first | done | with_reducible rfl
  (try simp only [Act.put])
  (try simp only [List.setIfInBounds_toArray])
  (try simp only [List.set_cons_succ])
  (try simp only [List.set_cons_zero])
  refine takeC (i := 2) (v := ?_) rfl (by kernel_rfl) (by kernel_rfl) (by kernel_rfl) (by kernel_rfl) (by kernel_rfl) (fun _ _ _ h => h) hC.out (Or.inl ⟨by rfl, ?_⟩) ?_
  rotate_left 1
  · intro w' hw'
    skip
    go_simp
    first | done | with_reducible rfl
  (try simp only [Act.put])
  (try simp only [List.setIfInBounds_toArray])
  (try simp only [List.set_cons_succ])
  (try simp only [List.set_cons_zero])
  refine takeC (i := 3) (v := ?_) rfl (by kernel_rfl) (by kernel_rfl) (by kernel_rfl) (by kernel_rfl) (by kernel_rfl) (fun _ _ _ h => h) hC.out (Or.inl ⟨by rfl, ?_⟩) ?_
  rotate_left 1
  · intro w' hw'
    skip
    go_simp
    first | done | with_reducible rfl
  (try simp only [Act.put])
  (try simp only [List.setIfInBounds_toArray])
  (try simp only [List.set_cons_succ])
  (try simp only [List.set_cons_zero])
  refine takeC (i := 4) (v := ?_) rfl (by kernel_rfl) (by kernel_rfl) (by kernel_rfl) (by kernel_rfl) (by kernel_rfl) (fun _ _ _ h => h) hC.out (Or.inl ⟨by rfl, ?_⟩) ?_
  rotate_left 1
  · intro w' hw'
    have z := cell_blk (X0.out w' hw') (i := 0) rfl
    go_simp
    first | done | with_reducible rfl
  (try simp only [Act.put])
  (try simp only [List.setIfInBounds_toArray])
  (try simp only [List.set_cons_succ])
  (try simp only [List.set_cons_zero])
  refine takeC (i := 5) (v := ?_) rfl (by kernel_rfl) (by kernel_rfl) (by kernel_rfl) (by kernel_rfl) (by kernel_rfl) (fun _ _ _ h => h) hC.out (Or.inl ⟨by rfl, ?_⟩) ?_
  rotate_left 1
  · intro w' hw'
    skip
    go_simp
    first | done | with_reducible rfl
  (try simp only [Act.put])
  (try simp only [List.setIfInBounds_toArray])
  (try simp only [List.set_cons_succ])
  (try simp only [List.set_cons_zero])
  refine takeC (i := 6) (v := ?_) rfl (by kernel_rfl) (by kernel_rfl) (by kernel_rfl) (by kernel_rfl) (by kernel_rfl) (fun _ _ _ h => h) hC.out (Or.inl ⟨by rfl, ?_⟩) ?_
  rotate_left 1
  · intro w' hw'
    have z := cell_blk (Y.out w' hw') (i := 0) rfl; have z1 := cell_blk (Y.out w' hw') (i := 1) rfl; have z2 := cell_blk (Y.out w' hw') (i := 2) rfl
    go_simp
    first | done | with_reducible rfl
  (try simp only [Act.put])
  (try simp only [List.setIfInBounds_toArray])
  (try simp only [List.set_cons_succ])
  (try simp only [List.set_cons_zero])
  refine readyC (rs := [7]) (by kernel_rfl) (by simp) ?_
  refine ReadyC.cons rfl (fun K hK => ?_) ReadyC.nil
  have hC4 : Fr (fun q => q = g) w2 (W0.alloc (.cells #[.int .i64 (x.f : Int), .int .i64 (x.t : Int), .slice x.a m x.c] 57)) := hC.out.alloc _
  have hN4 : (W0.alloc (.cells #[.int .i64 (x.f : Int), .int .i64 (x.t : Int), .slice x.a m x.c] 57)).heap[W0.heap.size]? = some (.cells #[.int .i64 (x.f : Int), .int .i64 (x.t : Int), .slice x.a m x.c] 57 (0, 0)) := heap_alloc_new _ _
  have hB4 : Below W0.heap.size W0 (W0.alloc (.cells #[.int .i64 (x.f : Int), .int .i64 (x.t : Int), .slice x.a m x.c] 57)) := (Below.refl _ _).alloc (Nat.le_refl _) _
  go_simp
  refine hK _ _ (fun _ => hC4) ?_
  clear hK K
  (try simp only [Act.put])
  (try simp only [List.setIfInBounds_toArray])
  (try simp only [List.set_cons_succ])
  (try simp only [List.set_cons_zero])
  obtain ⟨W1, hW1⟩ : ∃ W1, W1 = (W0.alloc (.cells #[.int .i64 (x.f : Int), .int .i64 (x.t : Int), .slice x.a m x.c] 57)) := ⟨_, rfl⟩
  rw [← hW1] at hC4 hN4 hB4 ⊢
  have HIn : Hid (Calls Try.prog 29 #[.slice (some ⟨g, 0, none⟩) n c, .int .i64 (k : Int), .slice (some ⟨W0.heap.size, 0, none⟩) 1 1] W1 fun e w' => e = .returned (.slice (some ⟨g, 0, none⟩) (n + 1) c) ∧ OwnL w' (.slice (some ⟨g, 0, none⟩) (n + 1) c) (insA3 (xs.eraseIdx i) k x) ∧ Fr (fun q => q = g) W1 w') := by
    have hOw : OwnL W1 (.slice (some ⟨g, 0, none⟩) n c) (xs.eraseIdx i) := HR0.out.keep (fun q hq => by obtain ⟨cur, hc⟩ := HR0.out.block hq; exact hB4.block q (lt_blk hc))
    obtain ⟨_, _, cur, hc, _⟩ := HR0.out.cap
    have hne : W0.heap.size ≠ g := by have := lt_blk hc; omega
    obtain ⟨l1, l2, l3, l4, l5⟩ := HH.out.2.2.2.2.1
    rw [← HM.out] at hN4
    by_cases hkn : k = n
    · subst hkn
      exact uins_end hOw l2 (by omega) x hN4
    · exact uins_mid hOw (by omega) l2 (by omega) x hN4 hne
  replace hC : Hid (Fr (fun q => q = g) w2 W1) := hC4
  clear hC4 hN4 hB4 hW1 HR0
  refine readyC (rs := [8]) (by kernel_rfl) (by simp) ?_
  refine ReadyC.cons rfl (fun K hK => ?_) ReadyC.nil
  refine pstepV_call rfl 29 #[.slice (some ⟨g, 0, none⟩) n c, .int .i64 (k : Int), .slice (some ⟨W0.heap.size, 0, none⟩) 1 1] (by kernel_rfl) HIn.out (fun e' w' h => ⟨_, h.1⟩) ?_
  intro v1 W2 hq
  obtain ⟨hv1, hown, hfi⟩ := hq
  have hv1' := Ending.returned.inj hv1
  subst hv1'
  have hC2 : Fr (fun q => q = g) w2 W2 := hC.out.tr hfi
  have HO2 : Hid (OwnL W2 (.slice (some ⟨g, 0, none⟩) (n + 1) c) (insA3 (xs.eraseIdx i) k x)) := hown
  refine hK _ _ (fun _ => hC2) ?_
  replace hC : Hid (Fr (fun q => q = g) w2 W2) := hC2
  have hbk := X0.out W2 hC2
  have z := cell_blk hbk (i := 0) rfl
  have zf : W2.frozen? ⟨b, 0, none⟩ = false := free_blk hbk 0
  clear hK K hv1 hown hfi hC2 HIn hbk
  (try simp only [Act.put])
  (try simp only [List.setIfInBounds_toArray])
  (try simp only [List.set_cons_succ])
  (try simp only [List.set_cons_zero])
  refine readyC (rs := [9]) (by kernel_rfl) (by simp) ?_
  refine ReadyC.cons rfl (fun K hK => ?_) ReadyC.nil
  go_simp
  refine hK _ _ (fun _ => hC.out) ?_
  clear hK K
  (try simp only [Act.put])
  (try simp only [List.setIfInBounds_toArray])
  (try simp only [List.set_cons_succ])
  (try simp only [List.set_cons_zero])
  refine readyC (rs := [10]) (by kernel_rfl) (by simp) ?_
  refine ReadyC.cons rfl (fun K hK => ?_) ReadyC.nil
  go_simp
  refine hK _ _ (fun _ => hC.out) ?_
  clear hK K
  (try simp only [Act.put])
  (try simp only [List.setIfInBounds_toArray])
  (try simp only [List.set_cons_succ])
  (try simp only [List.set_cons_zero])
  refine readyC (rs := [11]) (by kernel_rfl) (by simp) ?_
  refine ReadyC.cons rfl (fun K hK => ?_) ReadyC.nil
  go_simp
  refine hK _ _ (fun h => absurd rfl h) ?_
  clear hK K
  (try simp only [Act.put])
  (try simp only [List.setIfInBounds_toArray])
  (try simp only [List.set_cons_succ])
  (try simp only [List.set_cons_zero])
  refine doneC (by kernel_rfl) ?_ _
  obtain ⟨W3, hW3⟩ : ∃ W3, W3 = W2.setCell ⟨b, 0, none⟩ (.slice (some ⟨g, 0, none⟩) (n + 1) c) := ⟨_, rfl⟩
  have HF : Hid (GoC w b (.slice (some ⟨g, 0, none⟩) (n + 1) c) sd ((insA3 (xs.eraseIdx i) k x).map Lr.v) W3) := by
    show GoC _ _ _ _ _ _
    rw [hW3]
    obtain ⟨hx, hba, hka, ⟨hgb, hgl, hbl⟩, ⟨l1, l2, l3, l4, l5⟩, hmem⟩ := HH.out
    have hsub : ∀ y ∈ insA3 (xs.eraseIdx i) k x, y ∈ xs := fun y hy => by
      unfold insA3 at hy
      rcases List.mem_append.1 hy with hy | hy
      · exact List.mem_of_mem_eraseIdx (List.mem_of_mem_take hy)
      · rcases List.mem_cons.1 hy with rfl | hy
        · exact hmem
        · exact List.mem_of_mem_eraseIdx (List.mem_of_mem_drop hy)
    have hlen : (insA3 (xs.eraseIdx i) k x).length = n + 1 := by
      unfold insA3
      rw [List.length_append, List.length_cons, List.length_take, List.length_drop, l1]
      omega
    have h4 : NetW w2 b (.slice (some ⟨g, 0, none⟩) n c) sd (xs.eraseIdx i) := HN2.out.1
    have hfw : Fr (NetB b (.slice (some ⟨g, 0, none⟩) (n + 1) c)) w w2 := (Fr.of_below _ hba).tr HN2.out.2
    have hblk2 := X0.out W2 hC.out
    have hfin : Fr (NetB b (.slice (some ⟨g, 0, none⟩) (n + 1) c)) w (W2.setCell ⟨b, 0, none⟩ (.slice (some ⟨g, 0, none⟩) (n + 1) c)) :=
      Fr.set (p := ⟨b, 0, none⟩) (hfw.tr (hC.out.wide (fun q hq => Or.inr (by rw [hq]; rfl)))) (Or.inl rfl) _
    refine ⟨_, ⟨insA3 (xs.eraseIdx i) k x, ⟨set_blk hblk2 0 _, HO2.out.keep (fun q hq => ?_), fun y hy => ownB_keep (w := w) (hx.dat y (hsub y hy)) (fun q hq => ?_), by omega, fun y hy => hx.nod y (hsub y hy), fun y hy => hx.short y (hsub y hy), hx.side⟩, rfl⟩, hfin, fun q hq => .inl hq⟩
    · obtain ⟨cur, hc⟩ := HO2.out.block hq
      exact set_other _ (type_ne hc hblk2 (by decide))
    · obtain ⟨cur, hc⟩ := ownB_block (hx.dat y (hsub y hy)) hq
      exact hfin.block q (lt_blk hc) (hx.u8 hc)
  rw [← hW3]
  clear hW3 zf z
  go_wp2
  go_ret
  exact ⟨rfl, HF.out⟩
end Go.Proofs.Ytblohegdlcpipaa
