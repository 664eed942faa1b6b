/- A net: a letter more; Send and Copy; walked. -/
import Derived.Test.YtblohegdlcpipaaULook
set_option linter.unusedVariables false
namespace Go.Proofs.Ytblohegdlcpipaa
open Go.RowKit

theorem infoL : (Try.prog.info? 57).map (fun i => (i.zero, i.size, i.bytes)) = some (some (.agg #[.int .i64 0, .int .i64 0, .slice none 0 0]), 3, 40) := by kernel_rfl
/-- What an append onto a row of letters leaves. -/
def AppL (u : World) (v : Value) (xs : List Lr) (vo : Value) (w2 : World) : Prop := OwnL w2 vo xs ∧ u.grownBy w2 v.ownBlock ∧ ∀ g, vo.ownBlock = some g → v.ownBlock = some g ∨ u.heap.size ≤ g
theorem app_one {u : World} {v : Value} {xs : List Lr} (h : OwnL u v xs) (x : Lr) {ad : Addr} (hx : ∀ (j : Nat) (z : Value), x.cells[j]? = some z → u.cell? (ad.add j) = some z) (hl : xs.length ≤ 200) (c : Nat) (ty : TypeId) :
    ∃ vo w2, (Builtin.append_ #[50, 50] ty #[v, .slice (some ad) 1 c]).run Try.prog u = .ok vo w2 ∧ AppL u v (xs ++ [x]) vo w2 := by
  obtain ⟨i0, hi, hz0, hz1, hz2⟩ := info_parts infoL
  obtain ⟨vo, w2, hr, h1, h2, _, h4⟩ := run_append_own_at (P := Try.prog) u 0 50 ty 57 i0 (.agg #[.int .i64 0, .int .i64 0, .slice none 0 0]) 3 40 Try.underlying50 hi hz0 hz1 hz2 rfl (by decide) v xs.length (flatL xs) h ad 1 c x.cells (by simp [Lr.cells]) hx
    (by intro z hz; exact flatL_one (xs := [x]) (by simp [flatL]; exact hz)) (by unfold maxLen; omega) (by omega) (Nat.zero_le _)
  refine ⟨vo, w2, hr, ?_, h2, fun g hg => ?_⟩
  · show w2.ownsRow _ _ _ _ (xs ++ [x]).length _
    rw [List.length_append, flatL_append]
    simpa [flatL] using h1
  · rcases h4 with e | e
    · exact .inl (e ▸ hg)
    · rw [e] at hg
      exact .inr (by have := Option.some.inj hg; omega)

abbrev L3 := Nat × Nat × List UInt8
def Lr.v (x : Lr) : L3 := (x.f, x.t, x.d)
/-- A net that has just these letters. -/
def NetC (w : World) (b : Nat) (v : Value) (sd : Nat) (ls : List L3) : Prop := ∃ xs, NetW w b v sd xs ∧ xs.map Lr.v = ls
def GoC (w : World) (b : Nat) (v : Value) (sd : Nat) (ls : List L3) (w' : World) : Prop := ∃ v', NetC w' b v' sd ls ∧ Fr (NetB b v) w w' ∧ ∀ g, v'.ownBlock = some g → v.ownBlock = some g ∨ w.heap.size ≤ g
theorem NetGo.c {w w' : World} {b : Nat} {v : Value} {sd : Nat} {xs : List Lr} (h : NetGo w b v sd xs w') : GoC w b v sd (xs.map Lr.v) w' := by
  obtain ⟨v', h1, h2, h3⟩ := h
  exact ⟨v', ⟨xs, h1, rfl⟩, h2, h3⟩
theorem Fr.pre {S T : Nat → Prop} {w w1 w2 : World} (hb : Below w.heap.size w w1) (h : Fr S w1 w2) (hs : ∀ k, S k → T k) : Fr T w w2 := (Fr.of_below T hb).tr (h.wide hs)
theorem NetGo.pre {w w1 w2 : World} {b : Nat} {v : Value} {sd : Nat} {xs : List Lr} (hb : Below w.heap.size w w1) (h : NetGo w1 b v sd xs w2) : NetGo w b v sd xs w2 := by
  obtain ⟨v', h1, h2, h3⟩ := h
  exact ⟨v', h1, Fr.pre hb h2 (fun _ h => h), fun g hg => (h3 g hg).imp id (fun h => Nat.le_trans hb.size h)⟩

/-- The row is set anew. -/
theorem NetW.stored {w w1 W1 W2 : World} {b : Nat} {v vo : Value} {sd : Nat} {xs ys : List Lr} (h : NetW w b v sd xs) (hb : Below w.heap.size w w1) (hf : Fr (fun k => v.ownBlock = some k) w1 W1) (hA : AppL W1 v ys vo W2)
    (hd : ∀ x ∈ ys, OwnB w1 0 (.slice x.a x.d.length x.c) x.d) (hl : ys.length ≤ 200) (hn : ∀ x ∈ ys, x.f ≤ 63 ∧ x.t ≤ 63) (hs : ∀ x ∈ ys, x.d.length ≤ 1000) : NetGo w b v sd ys (W2.setCell ⟨b, 0, none⟩ vo) := by
  obtain ⟨hA1, hA2, hA3⟩ := hA
  have h1 := h.below hb
  have hf2 : Fr (fun k => v.ownBlock = some k) w1 W2 := hf.grown hA2 (fun k hk => hk)
  have hblk := hf2.at h1.blk (fun e => h1.ne e rfl)
  refine ⟨vo, ⟨set_blk hblk 0 vo, hA1.keep (fun g hg => ?_), fun x hx => ownB_keep (w := w1) (hd x hx) (fun g hg => ?_), hl, hn, hs, h.side⟩, ?_, fun g hg => ?_⟩
  · obtain ⟨cur, hc⟩ := hA1.block hg
    exact set_other _ (type_ne hc hblk (by decide))
  · obtain ⟨cur, hc⟩ := ownB_block (hd x hx) hg
    have hne : ¬ v.ownBlock = some g := fun e => by
      obtain ⟨c2, hc2⟩ := h1.row.block e
      exact type_ne hc hc2 (by decide) rfl
    have hc' := hf2.at hc hne
    exact (set_other _ (type_ne hc' hblk (by decide))).trans (hc'.trans hc.symm)
  · exact Fr.set (S := NetB b v) (p := ⟨b, 0, none⟩) (Fr.pre hb hf2 (fun k hk => Or.inr hk)) (Or.inl rfl) vo
  · exact (hA3 g hg).imp id (fun h' => Nat.le_trans hb.size (Nat.le_trans hf.size h'))

def addA (xs : List Lr) (x : Lr) : List Lr := if xs.length < 200 then xs ++ [x] else xs
set_option maxHeartbeats 4000000 in
set_option maxRecDepth 20000 in
theorem uadd_any {w : World} {b : Nat} {v : Value} {sd : Nat} {xs : List Lr} (h : NetW w b v sd xs) (x : Lr) (hx : OwnB w 0 (.slice x.a x.d.length x.c) x.d) (hxn : x.f ≤ 63 ∧ x.t ≤ 63) (hxs : x.d.length ≤ 1000) :
    Calls Try.prog 27 #[nptr b, .agg #[.int .i64 (x.f : Int), .int .i64 (x.t : Int), .slice x.a x.d.length x.c]] w fun e w' => e = .returned (.bool (decide (xs.length < 200))) ∧ NetGo w b v sd (addA xs x) w' := by
  obtain ⟨w1, hw1⟩ : ∃ w1, w1 = w.alloc (.cells #[.int .i64 (x.f : Int), .int .i64 (x.t : Int), .slice x.a x.d.length x.c] 57) := ⟨_, rfl⟩
  have hb1 : Below w.heap.size w w1 := by rw [hw1]; exact (Below.refl _ w).alloc (Nat.le_refl _) _
  have hk1 : w1.heap[w.heap.size]? = some (.cells #[.int .i64 (x.f : Int), .int .i64 (x.t : Int), .slice x.a x.d.length x.c] 57 (0, 0)) := by rw [hw1]; exact heap_alloc_new _ _
  have h1 := h.below hb1
  have HH : Hid (NetW w b v sd xs ∧ Below w.heap.size w w1 ∧ OwnB w 0 (.slice x.a x.d.length x.c) x.d ∧ (x.f ≤ 63 ∧ x.t ≤ 63) ∧ x.d.length ≤ 1000) := ⟨h, hb1, hx, hxn, hxs⟩
  have HK : Hid (w1.heap[w.heap.size]? = some (.cells #[.int .i64 (x.f : Int), .int .i64 (x.t : Int), .slice x.a x.d.length x.c] 57 (0, 0))) := hk1
  obtain ⟨va, vc, hv⟩ := h.row.slice
  obtain ⟨n, hn⟩ : ∃ n, xs.length = n := ⟨_, rfl⟩
  have bn : (n : Int) ≤ 200 := by have := h.few; omega
  have x0 := h1.c0
  rw [hv, hn] at x0
  have HN : Hid (xs.length = n ∧ v = .slice va n vc) := ⟨hn, by rw [hv, hn]⟩
  have hne : ∀ k, v.ownBlock = some k → k < w.heap.size ∧ k ≠ b := fun k hk => ⟨by obtain ⟨cur, hc⟩ := h.row.block hk; exact lt_blk hc, h.ne hk⟩
  have X0 : Hid (∀ u, Fr (fun k => v.ownBlock = some k) w1 u → u.cell? ⟨b, 0, none⟩ = some (.slice va n vc)) := fun u hu => by
    have := cell_blk (hu.at h1.blk (fun e => (hne b e).2 rfl)) (i := 0) rfl
    rw [this, ← HN.out.2]
    rfl
  have Y : ∀ (i : Nat) (z : Value), #[Value.int .i64 (x.f : Int), .int .i64 (x.t : Int), .slice x.a x.d.length x.c][i]? = some z → ∀ u, Fr (fun k => v.ownBlock = some k) w1 u → u.cell? ⟨w.heap.size, i, none⟩ = some z := fun i z hz u hu => cell_blk (hu.at hk1 (fun e => by have := (hne _ e).1; omega)) hz
  have Y0 : Hid (∀ u, Fr (fun k => v.ownBlock = some k) w1 u → u.cell? ⟨w.heap.size, 0, none⟩ = some (.int .i64 (x.f : Int))) := Y 0 _ rfl
  have Y1 : Hid (∀ u, Fr (fun k => v.ownBlock = some k) w1 u → u.cell? ⟨w.heap.size, 1, none⟩ = some (.int .i64 (x.t : Int))) := Y 1 _ rfl
  have Y2 : Hid (∀ u, Fr (fun k => v.ownBlock = some k) w1 u → u.cell? ⟨w.heap.size, 2, none⟩ = some (.slice x.a x.d.length x.c)) := Y 2 _ rfl
  have HO : Hid (OwnL w1 v xs) := h1.row
  obtain ⟨m, hm⟩ : ∃ m, x.d.length = m := ⟨_, rfl⟩
  unfold addA
  have HM : Hid (x.d.length = m) := hm
  rw [hm] at hw1 Y2 ⊢
  rw [hn]
  clear h h1 hb1 hk1 hx hxn hxs hv hn hne Y hm
  go_enter Try.func27, Try.ntmps27
  go_upto_region 1 with fail
  rw [← hw1]
  clear hw1
  by_cases hl : n < 200
  · have q1 : ¬ (200 : Int) ≤ (n : Int) := by omega
    have HL : Hid (n < 200) := hl
    have HI : Hid (decide (n < 200) = true ∧ (if n < 200 then xs ++ [x] else xs) = xs ++ [x]) := ⟨decide_eq_true hl, if_pos hl⟩
    clear hl
    go_upto_region 3 with fail
    clear x0
    refine regionC (fun (w' : World) => Fr (fun k => v.ownBlock = some k) w1 w') 10 (by kernel_rfl) ?_
    (try (change wpAnyC _ _ _ _ _ _ _ _ _ (World.drew _)))
    refine nameW (fun W0 hW0 => ?_)
    have hC : Hid (Fr (fun k => v.ownBlock = some k) w1 W0) := by
      show Fr _ _ _; rw [hW0]; exact (Fr.refl _ _).drew
    have HR0 : Hid (OwnL W0 v xs) := by show OwnL _ _ _; rw [hW0]; exact HO.out.keep (fun _ _ => rfl)
    clear hW0
    refine takeC (i := 0) (v := ?_) rfl (by kernel_rfl) (by kernel_rfl) (by kernel_rfl) (by kernel_rfl) (by kernel_rfl) (fun _ _ _ h => h) hC.out (Or.inl ⟨by rfl, ?_⟩) ?_
    rotate_left 1
    · intro w' hw'
      skip
      go_simp
      first | done | with_reducible rfl
    (try simp only [Act.put])
    (try simp only [List.setIfInBounds_toArray])
    (try simp only [List.set_cons_succ])
    (try simp only [List.set_cons_zero])
    refine takeC (i := 1) (v := ?_) rfl (by kernel_rfl) (by kernel_rfl) (by kernel_rfl) (by kernel_rfl) (by kernel_rfl) (fun _ _ _ h => h) hC.out (Or.inl ⟨by rfl, ?_⟩) ?_
    rotate_left 1
    · intro w' hw'
      skip
      go_simp
      first | done | with_reducible rfl
    (try simp only [Act.put])
    (try simp only [List.setIfInBounds_toArray])
    (try simp only [List.set_cons_succ])
    (try simp only [List.set_cons_zero])
    refine takeC (i := 2) (v := ?_) rfl (by kernel_rfl) (by kernel_rfl) (by kernel_rfl) (by kernel_rfl) (by kernel_rfl) (fun _ _ _ h => h) hC.out (Or.inl ⟨by rfl, ?_⟩) ?_
    rotate_left 1
    · intro w' hw'
      skip
      go_simp
      first | done | with_reducible rfl
    (try simp only [Act.put])
    (try simp only [List.setIfInBounds_toArray])
    (try simp only [List.set_cons_succ])
    (try simp only [List.set_cons_zero])
    refine takeC (i := 3) (v := ?_) rfl (by kernel_rfl) (by kernel_rfl) (by kernel_rfl) (by kernel_rfl) (by kernel_rfl) (fun _ _ _ h => h) hC.out (Or.inl ⟨by rfl, ?_⟩) ?_
    rotate_left 1
    · intro w' hw'
      skip
      go_simp
      first | done | with_reducible rfl
    (try simp only [Act.put])
    (try simp only [List.setIfInBounds_toArray])
    (try simp only [List.set_cons_succ])
    (try simp only [List.set_cons_zero])
    refine takeC (i := 4) (v := ?_) rfl (by kernel_rfl) (by kernel_rfl) (by kernel_rfl) (by kernel_rfl) (by kernel_rfl) (fun _ _ _ h => h) hC.out (Or.inl ⟨by rfl, ?_⟩) ?_
    rotate_left 1
    · intro w' hw'
      have z := X0.out w' hw'
      go_simp
      first | done | with_reducible rfl
    (try simp only [Act.put])
    (try simp only [List.setIfInBounds_toArray])
    (try simp only [List.set_cons_succ])
    (try simp only [List.set_cons_zero])
    refine takeC (i := 5) (v := ?_) rfl (by kernel_rfl) (by kernel_rfl) (by kernel_rfl) (by kernel_rfl) (by kernel_rfl) (fun _ _ _ h => h) hC.out (Or.inl ⟨by rfl, ?_⟩) ?_
    rotate_left 1
    · intro w' hw'
      have z := Y0.out w' hw'; have z1 := Y1.out w' hw'; have z2 := Y2.out w' hw'
      go_simp
      first | done | with_reducible rfl
    (try simp only [Act.put])
    (try simp only [List.setIfInBounds_toArray])
    (try simp only [List.set_cons_succ])
    (try simp only [List.set_cons_zero])
    refine readyC (rs := [6]) (by kernel_rfl) (by simp) ?_
    refine ReadyC.cons rfl (fun K hK => ?_) ReadyC.nil
    have hC4 : Fr (fun k => v.ownBlock = some k) w1 (W0.alloc (.cells #[.int .i64 (x.f : Int), .int .i64 (x.t : Int), .slice x.a m x.c] 57)) := hC.out.alloc _
    have hN4 : (W0.alloc (.cells #[.int .i64 (x.f : Int), .int .i64 (x.t : Int), .slice x.a m x.c] 57)).heap[W0.heap.size]? = some (.cells #[.int .i64 (x.f : Int), .int .i64 (x.t : Int), .slice x.a m x.c] 57 (0, 0)) := heap_alloc_new _ _
    have hB4 : Below W0.heap.size W0 (W0.alloc (.cells #[.int .i64 (x.f : Int), .int .i64 (x.t : Int), .slice x.a m x.c] 57)) := (Below.refl _ _).alloc (Nat.le_refl _) _
    go_simp
    refine hK _ _ (fun _ => hC4) ?_
    clear hK K
    (try simp only [Act.put])
    (try simp only [List.setIfInBounds_toArray])
    (try simp only [List.set_cons_succ])
    (try simp only [List.set_cons_zero])
    obtain ⟨W1, hW1⟩ : ∃ W1, W1 = W0.alloc (.cells #[.int .i64 (x.f : Int), .int .i64 (x.t : Int), .slice x.a m x.c] 57) := ⟨_, rfl⟩
    rw [← hW1] at hC4 hN4 hB4 ⊢
    have HAp : Hid (∀ ty, ∃ vo w2, (Builtin.append_ #[50, 50] ty #[.slice va n vc, .slice (some ⟨W0.heap.size, 0, none⟩) 1 1]).run Try.prog W1 = .ok vo w2 ∧ AppL W1 v (xs ++ [x]) vo w2) := fun ty => by
      have hOw : OwnL W1 v xs := HR0.out.keep (fun g hg => by obtain ⟨cur, hc⟩ := HR0.out.block hg; exact hB4.block g (lt_blk hc))
      have := app_one hOw x (ad := ⟨W0.heap.size, 0, none⟩) (fun j z hz => by
        rw [Addr.add_lit, Nat.zero_add]
        exact cell_blk hN4 (by rw [← HM.out]; simpa [Lr.cells] using hz)) (by have := HN.out.1; have := HL.out; omega) 1 ty
      rw [HN.out.2] at this ⊢
      exact this
    replace hC : Hid (Fr (fun k => v.ownBlock = some k) w1 W1) := hC4
    clear hC4 hN4 hB4 hW1
    refine readyC (rs := [7]) (by kernel_rfl) (by simp) ?_
    refine ReadyC.cons rfl (fun K hK => ?_) ReadyC.nil
    refine stepC_runs rfl (.tmp 15) (.tmp 17) rfl _ _ rfl rfl _ (HAp.out _) ?_
    intro vo W2 hA
    obtain ⟨oa, oc, hvo⟩ := hA.1.slice
    obtain ⟨on, hon⟩ : ∃ on, (xs ++ [x]).length = on := ⟨_, rfl⟩
    rw [hon] at hvo
    clear hon
    subst hvo
    have HA : Hid (AppL W1 v (xs ++ [x]) (.slice oa on oc) W2) := hA
    have hC5 : Fr (fun k => v.ownBlock = some k) w1 W2 := hC.out.grown hA.2.1 (fun k hk => hk)
    have HC1 : Hid (Fr (fun k => v.ownBlock = some k) w1 W1) := hC.out
    refine hK _ _ (fun _ => hC5) ?_
    clear hK K
    (try simp only [Act.put])
    (try simp only [List.setIfInBounds_toArray])
    (try simp only [List.set_cons_succ])
    (try simp only [List.set_cons_zero])
    replace hC : Hid (Fr (fun k => v.ownBlock = some k) w1 W2) := hC5
    have z := X0.out W2 hC5
    have zf : W2.frozen? ⟨b, 0, none⟩ = false := by
      have h := HH.out.1.below HH.out.2.1
      exact free_blk (hC5.at h.blk (fun e => h.ne e rfl)) 0
    clear hC5 hA HAp
    refine readyC (rs := [8]) (by kernel_rfl) (by simp) ?_
    refine ReadyC.cons rfl (fun K hK => ?_) ReadyC.nil
    go_simp
    refine hK _ _ (fun _ => hC.out) ?_
    clear hK K
    (try simp only [Act.put])
    (try simp only [List.setIfInBounds_toArray])
    (try simp only [List.set_cons_succ])
    (try simp only [List.set_cons_zero])
    refine readyC (rs := [9]) (by kernel_rfl) (by simp) ?_
    refine ReadyC.cons rfl (fun K hK => ?_) ReadyC.nil
    go_simp
    refine hK _ _ (fun _ => hC.out) ?_
    clear hK K
    (try simp only [Act.put])
    (try simp only [List.setIfInBounds_toArray])
    (try simp only [List.set_cons_succ])
    (try simp only [List.set_cons_zero])
    refine readyC (rs := [10]) (by kernel_rfl) (by simp) ?_
    refine ReadyC.cons rfl (fun K hK => ?_) ReadyC.nil
    go_simp
    refine hK _ _ (fun h => absurd rfl h) ?_
    clear hK K
    (try simp only [Act.put])
    (try simp only [List.setIfInBounds_toArray])
    (try simp only [List.set_cons_succ])
    (try simp only [List.set_cons_zero])
    refine doneC (by kernel_rfl) ?_ _
    obtain ⟨W3, hW3⟩ : ∃ W3, W3 = W2.setCell ⟨b, 0, none⟩ (.slice oa on oc) := ⟨_, rfl⟩
    have HF : Hid (NetGo w b v sd (xs ++ [x]) W3) := by
      show NetGo _ _ _ _ _ _
      rw [hW3]
      have h := HH.out.1
      refine h.stored HH.out.2.1 HC1.out HA.out (fun y hy => ?_) (by have := HN.out.1; have := HL.out; simp; omega) (fun y hy => ?_) (fun y hy => ?_)
      · rcases List.mem_append.1 hy with hy | hy
        · exact (h.below HH.out.2.1).dat y hy
        · simp at hy; subst hy
          exact ownB_keep HH.out.2.2.1 (fun g hg => by obtain ⟨cur, hc⟩ := ownB_block HH.out.2.2.1 hg; exact HH.out.2.1.block g (lt_blk hc))
      · rcases List.mem_append.1 hy with hy | hy
        · exact h.nod y hy
        · simp at hy; subst hy
          exact HH.out.2.2.2.1
      · rcases List.mem_append.1 hy with hy | hy
        · exact h.short y hy
        · simp at hy; subst hy
          exact HH.out.2.2.2.2
    rw [← hW3]
    clear hW3 zf z
    go_wp2
    go_ret
    exact ⟨by first | rfl | (rw [HI.out.1]; rfl), by first | exact HF.out | (rw [HI.out.2]; exact HF.out)⟩
  · have q1 : (200 : Int) ≤ (n : Int) := by omega
    have HI : Hid (decide (n < 200) = false ∧ (if n < 200 then xs ++ [x] else xs) = xs) := ⟨decide_eq_false hl, if_neg hl⟩
    clear hl
    go_wp2
    go_ret
    exact ⟨by first | rfl | (rw [HI.out.1]; rfl), by first | exact NetGo.same HH.out.1 HH.out.2.1 | (rw [HI.out.2]; exact NetGo.same HH.out.1 HH.out.2.1)⟩
end Go.Proofs.Ytblohegdlcpipaa
