/- The document's net: all letters but one; Send; Copy; walked. -/
import Derived.Test.YtblohegdlcpipaaURef2
set_option linter.unusedVariables false
set_option linter.unusedSimpArgs false
namespace Go.Proofs.Ytblohegdlcpipaa
open Go.RowKit

set_option maxHeartbeats 4000000 in
set_option maxRecDepth 20000 in
theorem rout_any {w : World} {b : Nat} {v : Value} {sd : Nat} {ls : List L3} (h : RfW w b v sd ls) {i : Nat} (hi : i < ls.length) :
    Calls Try.prog 32 #[nptr b, .int .i64 (i : Int)] w fun e w' => ∃ v', e = .returned v' ∧ OwnR w' w.heap.size v' (ls.eraseIdx i) ∧ Below w.heap.size w w' := by
  obtain ⟨a, c, hv⟩ := h.row.slice
  subst hv
  obtain ⟨n, hn⟩ : ∃ n, ls.length = n := ⟨_, rfl⟩
  have hrd : RdR w a n c ls := by have := h.row.rd.1; rwa [hn] at this
  have HR : Hid (RdR w a n c ls) := hrd
  have hblk := h.blk
  rw [hn] at hblk hi
  have X0 : Hid (∀ u, Below w.heap.size w u → u.cell? ⟨b, 0, none⟩ = some (.slice a n c)) := fun u hu => cell_blk (blk_below hblk hu) rfl
  have HK : Hid (i < n ∧ ls.length = n ∧ n ≤ 200) := ⟨hi, hn, by have := h.few; omega⟩
  have bn : (n : Int) ≤ 200 := by have := h.few; omega
  have bi : (i : Int) < (n : Int) := by omega
  have ej : IntKind.i64.wrap ((i : Int) + 1) = (i : Int) + 1 := by rw [IntKind.wrap_i64]; omega
  have z1 : ∀ u, (Instr.slice 27 (.slice a n c) none (some (.int .i64 (i : Int))) none).run Try.prog u = .ok (.slice a i c) u := fun u => toR a n c i (by omega) hrd.2.1 u
  have z2 : ∀ u, (Instr.slice 27 (.slice a n c) (some (.int .i64 ((i : Int) + 1))) none none).run Try.prog u = .ok (.slice (cutR a c (i + 1)) (n - (i + 1)) (c - (i + 1))) u := fun u => by
    have := fromR a n c (i + 1) (by omega) hrd.2.1 u
    rwa [show ((i + 1 : Nat) : Int) = (i : Int) + 1 by omega] at this
  clear h hn hrd hblk hi
  go_enter Try.func32, Try.ntmps32
  go_upto_region 1 with fail
  refine regionC (fun (w' : World) => Below w.heap.size w w') 16 (by kernel_rfl) ?_
  (try (change wpAnyC _ _ _ _ _ _ _ _ _ (World.drew _)))
  refine nameW (fun W0 hW0 => ?_)
  have hC : Hid (Below w.heap.size w W0) := by
    show Below _ _ _; rw [hW0]; exact (Below.refl _ _).drew
  clear hW0
  refine takeC (i := 1) (v := ?_) rfl (by kernel_rfl) (by kernel_rfl) (by kernel_rfl) (by kernel_rfl) (by kernel_rfl) (fun _ _ _ h => h) hC.out (Or.inl ⟨by rfl, ?_⟩) ?_
  rotate_left 1
  · intro w' hw'
    skip
    go_simp
    first | done | with_reducible rfl | exact z1 _ | exact z2 _
  (try simp only [Act.put])
  (try simp only [List.setIfInBounds_toArray])
  (try simp only [List.set_cons_succ])
  (try simp only [List.set_cons_zero])
  refine takeC (i := 2) (v := ?_) rfl (by kernel_rfl) (by kernel_rfl) (by kernel_rfl) (by kernel_rfl) (by kernel_rfl) (fun _ _ _ h => h) hC.out (Or.inl ⟨by rfl, ?_⟩) ?_
  rotate_left 1
  · intro w' hw'
    skip
    go_simp
    first | done | with_reducible rfl | exact z1 _ | exact z2 _
  (try simp only [Act.put])
  (try simp only [List.setIfInBounds_toArray])
  (try simp only [List.set_cons_succ])
  (try simp only [List.set_cons_zero])
  refine takeC (i := 3) (v := ?_) rfl (by kernel_rfl) (by kernel_rfl) (by kernel_rfl) (by kernel_rfl) (by kernel_rfl) (fun _ _ _ h => h) hC.out (Or.inl ⟨by rfl, ?_⟩) ?_
  rotate_left 1
  · intro w' hw'
    skip
    go_simp
    first | done | with_reducible rfl | exact z1 _ | exact z2 _
  (try simp only [Act.put])
  (try simp only [List.setIfInBounds_toArray])
  (try simp only [List.set_cons_succ])
  (try simp only [List.set_cons_zero])
  refine takeC (i := 4) (v := ?_) rfl (by kernel_rfl) (by kernel_rfl) (by kernel_rfl) (by kernel_rfl) (by kernel_rfl) (fun _ _ _ h => h) hC.out (Or.inl ⟨by rfl, ?_⟩) ?_
  rotate_left 1
  · intro w' hw'
    have z := X0.out w' hw'
    go_simp
    first | done | with_reducible rfl | exact z1 _ | exact z2 _
  (try simp only [Act.put])
  (try simp only [List.setIfInBounds_toArray])
  (try simp only [List.set_cons_succ])
  (try simp only [List.set_cons_zero])
  refine takeC (i := 5) (v := ?_) rfl (by kernel_rfl) (by kernel_rfl) (by kernel_rfl) (by kernel_rfl) (by kernel_rfl) (fun _ _ _ h => h) hC.out (Or.inl ⟨by rfl, ?_⟩) ?_
  rotate_left 1
  · intro w' hw'
    skip
    go_simp
    first | done | with_reducible rfl | exact z1 _ | exact z2 _
  (try simp only [Act.put])
  (try simp only [List.setIfInBounds_toArray])
  (try simp only [List.set_cons_succ])
  (try simp only [List.set_cons_zero])
  refine takeC (i := 6) (v := ?_) rfl (by kernel_rfl) (by kernel_rfl) (by kernel_rfl) (by kernel_rfl) (by kernel_rfl) (fun _ _ _ h => h) hC.out (Or.inl ⟨by rfl, ?_⟩) ?_
  rotate_left 1
  · intro w' hw'
    skip
    go_simp
    first | done | with_reducible rfl | exact z1 _ | exact z2 _
  (try simp only [Act.put])
  (try simp only [List.setIfInBounds_toArray])
  (try simp only [List.set_cons_succ])
  (try simp only [List.set_cons_zero])
  refine takeC (i := 8) (v := ?_) rfl (by kernel_rfl) (by kernel_rfl) (by kernel_rfl) (by kernel_rfl) (by kernel_rfl) (fun _ _ _ h => h) hC.out (Or.inl ⟨by rfl, ?_⟩) ?_
  rotate_left 1
  · intro w' hw'
    skip
    go_simp
    first | done | with_reducible rfl | exact z1 _ | exact z2 _
  (try simp only [Act.put])
  (try simp only [List.setIfInBounds_toArray])
  (try simp only [List.set_cons_succ])
  (try simp only [List.set_cons_zero])
  refine takeC (i := 9) (v := ?_) rfl (by kernel_rfl) (by kernel_rfl) (by kernel_rfl) (by kernel_rfl) (by kernel_rfl) (fun _ _ _ h => h) hC.out (Or.inl ⟨by rfl, ?_⟩) ?_
  rotate_left 1
  · intro w' hw'
    skip
    go_simp
    first | done | with_reducible rfl | exact z1 _ | exact z2 _
  (try simp only [Act.put])
  (try simp only [List.setIfInBounds_toArray])
  (try simp only [List.set_cons_succ])
  (try simp only [List.set_cons_zero])
  refine takeC (i := 10) (v := ?_) rfl (by kernel_rfl) (by kernel_rfl) (by kernel_rfl) (by kernel_rfl) (by kernel_rfl) (fun _ _ _ h => h) hC.out (Or.inl ⟨by rfl, ?_⟩) ?_
  rotate_left 1
  · intro w' hw'
    skip
    go_simp
    first | done | with_reducible rfl | exact z1 _ | exact z2 _
  (try simp only [Act.put])
  (try simp only [List.setIfInBounds_toArray])
  (try simp only [List.set_cons_succ])
  (try simp only [List.set_cons_zero])
  refine takeC (i := 11) (v := ?_) rfl (by kernel_rfl) (by kernel_rfl) (by kernel_rfl) (by kernel_rfl) (by kernel_rfl) (fun _ _ _ h => h) hC.out (Or.inl ⟨by rfl, ?_⟩) ?_
  rotate_left 1
  · intro w' hw'
    have z := X0.out w' hw'
    go_simp
    first | done | with_reducible rfl | exact z1 _ | exact z2 _
  (try simp only [Act.put])
  (try simp only [List.setIfInBounds_toArray])
  (try simp only [List.set_cons_succ])
  (try simp only [List.set_cons_zero])
  refine takeC (i := 12) (v := ?_) rfl (by kernel_rfl) (by kernel_rfl) (by kernel_rfl) (by kernel_rfl) (by kernel_rfl) (fun _ _ _ h => h) hC.out (Or.inl ⟨by rfl, ?_⟩) ?_
  rotate_left 1
  · intro w' hw'
    skip
    go_simp
    first | done | with_reducible rfl | exact z1 _ | exact z2 _
  (try simp only [Act.put])
  (try simp only [List.setIfInBounds_toArray])
  (try simp only [List.set_cons_succ])
  (try simp only [List.set_cons_zero])
  refine takeC (i := 13) (v := ?_) rfl (by kernel_rfl) (by kernel_rfl) (by kernel_rfl) (by kernel_rfl) (by kernel_rfl) (fun _ _ _ h => h) hC.out (Or.inl ⟨by rfl, ?_⟩) ?_
  rotate_left 1
  · intro w' hw'
    skip
    go_simp
    first | done | with_reducible rfl | exact z1 _ | exact z2 _
  (try simp only [Act.put])
  (try simp only [List.setIfInBounds_toArray])
  (try simp only [List.set_cons_succ])
  (try simp only [List.set_cons_zero])
  refine takeC (i := 14) (v := ?_) rfl (by kernel_rfl) (by kernel_rfl) (by kernel_rfl) (by kernel_rfl) (by kernel_rfl) (fun _ _ _ h => h) hC.out (Or.inl ⟨by rfl, ?_⟩) ?_
  rotate_left 1
  · intro w' hw'
    skip
    go_simp
    first | done | with_reducible rfl | exact z1 _ | exact z2 _
  (try simp only [Act.put])
  (try simp only [List.setIfInBounds_toArray])
  (try simp only [List.set_cons_succ])
  (try simp only [List.set_cons_zero])
  refine readyC (rs := [0]) (by kernel_rfl) (by simp) ?_
  refine ReadyC.cons rfl (fun K hK => ?_) ReadyC.nil
  have hC1 : Below w.heap.size w (W0.alloc (.cells #[] 39)) := hC.out.alloc hC.out.size _
  have HO1 : Hid (OwnR (W0.alloc (.cells #[] 39)) w.heap.size (.slice (some ⟨W0.heap.size, 0, none⟩) 0 0) []) := madeR W0 _ hC.out.size
  go_simp
  refine hK _ _ (fun _ => hC1) ?_
  clear hK K
  (try simp only [Act.put])
  (try simp only [List.setIfInBounds_toArray])
  (try simp only [List.set_cons_succ])
  (try simp only [List.set_cons_zero])
  obtain ⟨W1, hW1⟩ : ∃ W1, W1 = (W0.alloc (.cells #[] 39)) := ⟨_, rfl⟩
  rw [← hW1] at hC1 HO1 ⊢
  replace hC : Hid (Below w.heap.size w W1) := hC1
  have HA1 : Hid (∀ ty, ∃ vo w2, (Builtin.append_ #[27, 27] ty #[.slice (some ⟨W0.heap.size, 0, none⟩) 0 0, .slice a i c]).run Try.prog W1 = .ok vo w2 ∧ AppR W1 w.heap.size (.slice (some ⟨W0.heap.size, 0, none⟩) 0 0) ([] ++ ls.take i) vo w2) := fun ty => appR HO1.out ((HR.out.below hC1).take i (by have := HK.out; omega)) (by have := HK.out; simp; omega) hC1.size ty
  clear hC1 hW1
  refine readyC (rs := [7]) (by kernel_rfl) (by simp) ?_
  refine ReadyC.cons rfl (fun K hK => ?_) ReadyC.nil
  refine stepC_runs rfl (.tmp 5) (.tmp 11) rfl _ _ rfl rfl _ (HA1.out _) ?_
  intro vo1 W2 hA
  have hC2 : Below w.heap.size w W2 := hC.out.trans hA.2.1
  have HO2 : Hid (OwnR W2 w.heap.size vo1 ([] ++ ls.take i)) := hA.1
  refine hK _ _ (fun _ => hC2) ?_
  replace hC : Hid (Below w.heap.size w W2) := hC2
  have HA2 : Hid (∀ ty, ∃ vo w2, (Builtin.append_ #[27, 27] ty #[vo1, .slice (cutR a c (i + 1)) (n - (i + 1)) (c - (i + 1))]).run Try.prog W2 = .ok vo w2 ∧ AppR W2 w.heap.size vo1 (([] ++ ls.take i) ++ ls.drop (i + 1)) vo w2) := fun ty => appR HO2.out ((HR.out.below hC2).drop (i + 1) (by have := HK.out; omega)) (by have := HK.out; simp; omega) hC2.size ty
  clear hA hC2 hK K HA1 HO1
  (try simp only [Act.put])
  (try simp only [List.setIfInBounds_toArray])
  (try simp only [List.set_cons_succ])
  (try simp only [List.set_cons_zero])
  refine readyC (rs := [15]) (by kernel_rfl) (by simp) ?_
  refine ReadyC.cons rfl (fun K hK => ?_) ReadyC.nil
  refine stepC_runs rfl (.tmp 12) (.tmp 19) rfl _ _ rfl rfl _ (HA2.out _) ?_
  intro vo2 W3 hA
  have hC3 : Below w.heap.size w W3 := hC.out.trans hA.2.1
  have HF : Hid (OwnR W3 w.heap.size vo2 (ls.eraseIdx i) ∧ Below w.heap.size w W3) := by
    have := hA.1
    rw [List.nil_append, ← List.eraseIdx_eq_take_drop_succ] at this
    exact ⟨this, hC3⟩
  refine hK _ _ (fun _ => hC3) ?_
  replace hC : Hid (Below w.heap.size w W3) := hC3
  clear hA hC3 hK K HA2 HO2
  (try simp only [Act.put])
  (try simp only [List.setIfInBounds_toArray])
  (try simp only [List.set_cons_succ])
  (try simp only [List.set_cons_zero])
  refine readyC (rs := [16]) (by kernel_rfl) (by simp) ?_
  refine ReadyC.cons rfl (fun K hK => ?_) ReadyC.nil
  go_simp
  refine hK _ _ (fun _ => hC.out) ?_
  clear hK K
  (try simp only [Act.put])
  (try simp only [List.setIfInBounds_toArray])
  (try simp only [List.set_cons_succ])
  (try simp only [List.set_cons_zero])
  refine doneC (by kernel_rfl) ?_ _
  go_wp2
  go_ret
  exact ⟨vo2, rfl, HF.out⟩

/-- What an append of one letter leaves. -/
def PushR (w : World) (v : Value) (l : List L3) (vo : Value) (w2 : World) : Prop := OwnR w2 0 vo l ∧ Fr (fun k => v.ownBlock = some k) w w2 ∧ ∀ g, vo.ownBlock = some g → v.ownBlock = some g ∨ w.heap.size ≤ g
/-- One letter more. -/
theorem app_letter {w : World} {v : Value} {ls : List L3} (h : OwnR w 0 v ls) (y : L3) (hl : ls.length ≤ 200) (ty : TypeId) :
    ∃ vo w2, (Builtin.append_ #[27, 27] ty #[v, .slice (some ⟨w.heap.size, 0, none⟩) 1 1]).run Try.prog (w.alloc (.cells #[.int .i64 (y.1 : Int), .int .i64 (y.2.1 : Int), .string ⟨y.2.2.toArray⟩] 39)) = .ok vo w2 ∧ PushR w v (ls ++ [y]) vo w2 := by
  have hb : Below w.heap.size w (w.alloc (.cells #[.int .i64 (y.1 : Int), .int .i64 (y.2.1 : Int), .string ⟨y.2.2.toArray⟩] 39)) := (Below.refl _ _).alloc (Nat.le_refl _) _
  obtain ⟨vo, w2, hr, h1, h2, h3, h4⟩ := appR (h.below hb) (layR w y) (by omega) (Nat.zero_le _) ty
  exact ⟨vo, w2, hr, h1, (Fr.of_below _ hb).grown h3 (fun k hk => hk), fun g hg => (h4 g hg).imp id (fun h => Nat.le_trans hb.size h)⟩

set_option maxHeartbeats 4000000 in
set_option maxRecDepth 20000 in
theorem rsend_any {w : World} {b : Nat} {v : Value} {sd : Nat} {ls : List L3} (h : RfW w b v sd ls) (f t : Int) (l : List UInt8) :
    Calls Try.prog 18 #[nptr b, .int .i64 f, .int .i64 t, .string ⟨l.toArray⟩] w fun e w' => e = .returned (.tuple #[]) ∧ RfGo w b v sd (sendA ls f t l) w' := by
  obtain ⟨R, hR⟩ : ∃ R, sendA ls f t l = R := ⟨_, rfl⟩
  rw [hR]
  have h1 := rnode_any f w
  have h2 := rnode_any t w
  have HH : Hid (RfW w b v sd ls) := h
  have hsame : ¬ (nodeB f = true ∧ nodeB t = true ∧ ls.length < 200) → R = ls := fun hh => by rw [← hR, sendA, if_neg hh]
  cases hf : nodeB f with
  | false =>
    have hs := hsame (fun q => by rw [hf] at q; cases q.1)
    have HF : Hid (RfGo w b v sd R w) := by show RfGo _ _ _ _ _ _; rw [hs]; exact h.go (Below.refl _ _)
    rw [hf] at h1
    clear h h2 hsame hs hf hR
    go_enter Try.func18, Try.ntmps18
    go_wp2_with (fail)
    refine h1.mono ?_
    rintro e wq ⟨rfl, hw⟩
    replace hw := hw.symm
    subst hw
    clear h1
    go_wp2
    go_end0
    exact ⟨rfl, HF.out⟩
  | true =>
    rw [hf] at h1
    cases ht : nodeB t with
    | false =>
      have hs := hsame (fun q => by rw [ht] at q; cases q.2.1)
      have HF : Hid (RfGo w b v sd R w) := by show RfGo _ _ _ _ _ _; rw [hs]; exact h.go (Below.refl _ _)
      rw [ht] at h2
      clear h hsame hs hf ht hR
      go_enter Try.func18, Try.ntmps18
      go_wp2_with (fail)
      refine h1.mono ?_
      rintro e wq ⟨rfl, hw⟩
      replace hw := hw.symm
      subst hw
      clear h1
      go_wp2_with (fail)
      refine h2.mono ?_
      rintro e wq ⟨rfl, hw⟩
      replace hw := hw.symm
      subst hw
      clear h2
      go_wp2
      go_end0
      exact ⟨rfl, HF.out⟩
    | true =>
      rw [ht] at h2
      obtain ⟨a, c, hv⟩ := h.row.slice
      have x0 := h.c0
      have fz : w.frozen? ⟨b, 0, none⟩ = false := free_blk h.blk 0
      obtain ⟨n, hn⟩ : ∃ n, ls.length = n := ⟨_, rfl⟩
      rw [hv, hn] at x0
      have bn : (n : Int) ≤ 200 := by have := h.few; omega
      by_cases hl : n < 200
      · have q1 : (n : Int) < 200 := by omega
        obtain ⟨f0, f1⟩ := nodeB_iff.1 hf
        obtain ⟨t0, t1⟩ := nodeB_iff.1 ht
        obtain ⟨F, rfl⟩ : ∃ F : Nat, f = (F : Int) := ⟨f.toNat, by omega⟩
        obtain ⟨T, rfl⟩ : ∃ T : Nat, t = (T : Int) := ⟨t.toNat, by omega⟩
        have hRe : R = ls ++ [(F, T, l)] := by rw [← hR, sendA, if_pos ⟨hf, ht, by omega⟩]; rfl
        have HAp : Hid (∀ ty, ∃ vo w2, (Builtin.append_ #[27, 27] ty #[.slice a n c, .slice (some ⟨w.heap.size, 0, none⟩) 1 1]).run Try.prog (w.alloc (.cells #[.int .i64 (F : Int), .int .i64 (T : Int), .string ⟨l.toArray⟩] 39)) = .ok vo w2 ∧ PushR w v R vo w2) := fun ty => by
          have := app_letter h.row (F, T, l) h.few ty
          rw [hRe]
          rw [hv, hn] at this ⊢
          exact this
        have HN : Hid (R.length ≤ 200 ∧ ∀ y ∈ R, y.1 ≤ 63 ∧ y.2.1 ≤ 63) := by
          rw [hRe]
          refine ⟨by rw [List.length_append, hn]; simp; omega, fun y hy => ?_⟩
          rcases List.mem_append.1 hy with hy | hy
          · exact h.nod y hy
          · simp at hy; subst hy; exact ⟨by dsimp only; omega, by dsimp only; omega⟩
        clear h hsame hf ht hR hv hn hRe f0 f1 t0 t1
        go_enter Try.func18, Try.ntmps18
        go_wp2_with (fail)
        refine h1.mono ?_
        rintro e wq ⟨rfl, hw⟩
        replace hw := hw.symm
        subst hw
        clear h1
        go_wp2_with (fail)
        refine h2.mono ?_
        rintro e wq ⟨rfl, hw⟩
        replace hw := hw.symm
        subst hw
        clear h2
        go_wp2_with (at_builtin; refine wpList_runs rfl (.tmp 26) (.tmp 31) rfl _ _ rfl rfl _ (HAp.out _) ?_)
        intro vo W2 hA
        obtain ⟨oa, oc, hvo⟩ := hA.1.slice
        obtain ⟨on, hon⟩ : ∃ on, R.length = on := ⟨_, rfl⟩
        rw [hon] at hvo
        clear hon
        subst hvo
        have hbk := hA.2.1.at HH.out.blk (fun e => HH.out.ne e rfl)
        have z := cell_blk hbk (i := 0) rfl
        have zf : W2.frozen? ⟨b, 0, none⟩ = false := free_blk hbk 0
        have HF : Hid (RfGo w b v sd R (W2.setCell ⟨b, 0, none⟩ (.slice oa on oc))) := HH.out.stored hA.2.1 hA.1 hA.2.2 HN.out.1 HN.out.2
        clear hA hbk HAp x0
        go_wp2
        go_end0
        exact ⟨rfl, HF.out⟩
      · have q1 : ¬ ((n : Int) < 200) := by omega
        have hs := hsame (fun q => by omega)
        have HF : Hid (RfGo w b v sd R w) := by show RfGo _ _ _ _ _ _; rw [hs]; exact h.go (Below.refl _ _)
        clear h hsame hs hf ht hR hv hn hl
        go_enter Try.func18, Try.ntmps18
        go_wp2_with (fail)
        refine h1.mono ?_
        rintro e wq ⟨rfl, hw⟩
        replace hw := hw.symm
        subst hw
        clear h1
        go_wp2_with (fail)
        refine h2.mono ?_
        rintro e wq ⟨rfl, hw⟩
        replace hw := hw.symm
        subst hw
        clear h2
        go_wp2
        go_end0
        exact ⟨rfl, HF.out⟩
end Go.Proofs.Ytblohegdlcpipaa
