/- A step on a net and the document's own: Reach; walked. -/
import Derived.Test.YtblohegdlcpipaaUDoes0
set_option linter.unusedVariables false
set_option linter.unusedSimpArgs false
namespace Go.Proofs.Ytblohegdlcpipaa
open Go.RowKit

set_option maxHeartbeats 16000000 in
set_option maxRecDepth 40000 in
theorem udoes6 {w0 w : World} {bn br sd : Nat} {vn vr : Value} {ls : List L3} (h : Pr w0 w bn vn br vr sd ls) (kind A B : Int) (hkind : kind = 6) (S : Nat) (hS : S < 18446744073709551616) {da : Option Addr} {dn dc : Nat} {l0 : List UInt8} (hd : BRow w0 da dn dc l0) (hdc : dn ≤ dc) (hdn : dn ≤ 140737488355328) :
    Calls Try.prog 9 #[nptr bn, nptr br, .agg #[.int .i64 kind, .int .i64 A, .int .i64 B, .slice da dn dc, .int .u64 (S : Int)]] w fun e w' => e = .returned (.bool true) ∧ PrGo w0 w bn vn br vr w' := by
  obtain ⟨w1, hw1⟩ : ∃ w1, w1 = w.alloc (.cells #[.int .i64 kind, .int .i64 A, .int .i64 B, .slice da dn dc, .int .u64 (S : Int)] 34) := ⟨_, rfl⟩
  have hb1 : Below w.heap.size w w1 := by rw [hw1]; exact (Below.refl _ w).alloc (Nat.le_refl _) _
  have hk1 : w1.heap[w.heap.size]? = some (.cells #[.int .i64 kind, .int .i64 A, .int .i64 B, .slice da dn dc, .int .u64 (S : Int)] 34 (0, 0)) := by rw [hw1]; exact heap_alloc_new _ _
  have HH : Hid (Pr w0 w bn vn br vr sd ls ∧ S < 18446744073709551616) := ⟨h, hS⟩
  have H1 : Hid (Below w.heap.size w w1 ∧ w1.heap[w.heap.size]? = some (.cells #[.int .i64 kind, .int .i64 A, .int .i64 B, .slice da dn dc, .int .u64 (S : Int)] 34 (0, 0)) ∧ BRow w0 da dn dc l0 ∧ dn ≤ dc) := ⟨hb1, hk1, hd, hdc⟩
  have x3 := cell_blk hk1 (i := 3) rfl
  have fz := free_blk hk1 3
  have bd : (dn : Int) ≤ 140737488355328 := by omega
  have zs : ∀ u, 1000 ≤ dn → (Instr.slice 32 (.slice da dn dc) none (some (.int .i64 1000)) none).run Try.prog u = .ok (.slice da 1000 dc) u := fun u hk => toB da dn dc 1000 hk hdc u
  have HKi : Hid (kind = 6) := hkind
  clear hkind
  clear h hS hd hdc hdn hb1 hk1
  go_enter Try.func9, Try.ntmps9
  go_upto_region 1 with fail
  rw [← hw1]
  clear hw1
  go_upto_if 24 with fail
  go_cut [] from 21 to 191 (fun wz => ∃ m l, Hid (OpAt w0 w wz kind A B da m dc S l))
  case first =>
    by_cases h1000 : dn ≤ 1000
    · have q1 : ¬ ((1000 : Int) < (dn : Int)) := by omega
      go_wp2_with (fail)
      go_meet
      case rel => exact ⟨dn, l0, H1.out.1, H1.out.2.1, H1.out.2.2.1, h1000, lt_blk H1.out.2.1⟩
    · have q1 : (1000 : Int) < (dn : Int) := by omega
      have z := fun u => zs u (by omega)
      go_wp2_with (fail)
      go_meet
      case rel => exact ⟨1000, l0.take 1000, H1.out.1.setCell (Nat.le_refl _) _, set_blk H1.out.2.1 3 _, H1.out.2.2.1.pre' (by omega), Nat.le_refl _, by rw [set_size]; exact lt_blk H1.out.2.1⟩
  case rest =>
    obtain ⟨m, l, HO⟩ := hcut
    clear H1 x3 fz zs bd
    have y0 := cell_blk HO.out.blk (i := 0) rfl
    have y1 := cell_blk HO.out.blk (i := 1) rfl
    have y2 := cell_blk HO.out.blk (i := 2) rfl
    have y3 := cell_blk HO.out.blk (i := 3) rfl
    have y4 := cell_blk HO.out.blk (i := 4) rfl
    have HP : Hid (Pr w0 wc bn vn br vr sd ls) := HH.out.1.below HO.out.bel
    have hkind := HKi.out
    subst hkind
    obtain ⟨X, hX⟩ : ∃ X, (reachB sd A B) = X := ⟨_, rfl⟩
    have eX : (X == X) = true := by simp
    have HX : Hid ((reachB sd A B) = X) := hX
    clear hX y3 y4
    go_upto_region 29 with fail
    clear y0 y1 y2
    refine regionC (fun (w' : World) => w'.heap[w.heap.size]? = some (.cells #[.int .i64 6, .int .i64 A, .int .i64 B, .slice da m dc, .int .u64 (S : Int)] 34 (0, 0))) 13 (by kernel_rfl) ?_
    (try (change wpAnyC _ _ _ _ _ _ _ _ _ (World.drew _)))
    refine nameW (fun W0 hW0 => ?_)
    have hC : Hid (W0.heap[w.heap.size]? = some (.cells #[.int .i64 6, .int .i64 A, .int .i64 B, .slice da m dc, .int .u64 (S : Int)] 34 (0, 0))) := by
      show _ = _; rw [hW0]; exact HO.out.blk
    have H0 : Hid (Pr w0 W0 bn vn br vr sd ls ∧ Below w.heap.size w W0) := by
      have hd : Below wc.heap.size wc W0 := by rw [hW0]; exact (Below.refl _ _).drew
      exact ⟨HP.out.below hd, HO.out.bel.trans (hd.mono HO.out.bel.size)⟩
    clear hW0
    refine takeC (i := 0) (v := ?_) rfl (by kernel_rfl) (by kernel_rfl) (by kernel_rfl) (by kernel_rfl) (by kernel_rfl) (fun _ _ _ h => h) hC.out (Or.inl ⟨by rfl, ?_⟩) ?_
    rotate_left 1
    · intro w' hw'
      have z1 := cell_blk hw' (i := 1) rfl; have z2 := cell_blk hw' (i := 2) rfl
      go_simp
      first | done | with_reducible rfl
    (try simp only [Act.put])
    (try simp only [List.setIfInBounds_toArray])
    (try simp only [List.set_cons_succ])
    (try simp only [List.set_cons_zero])
    refine takeC (i := 1) (v := ?_) rfl (by kernel_rfl) (by kernel_rfl) (by kernel_rfl) (by kernel_rfl) (by kernel_rfl) (fun _ _ _ h => h) hC.out (Or.inl ⟨by rfl, ?_⟩) ?_
    rotate_left 1
    · intro w' hw'
      have z1 := cell_blk hw' (i := 1) rfl; have z2 := cell_blk hw' (i := 2) rfl
      go_simp
      first | done | with_reducible rfl
    (try simp only [Act.put])
    (try simp only [List.setIfInBounds_toArray])
    (try simp only [List.set_cons_succ])
    (try simp only [List.set_cons_zero])
    refine takeC (i := 2) (v := ?_) rfl (by kernel_rfl) (by kernel_rfl) (by kernel_rfl) (by kernel_rfl) (by kernel_rfl) (fun _ _ _ h => h) hC.out (Or.inl ⟨by rfl, ?_⟩) ?_
    rotate_left 1
    · intro w' hw'
      have z1 := cell_blk hw' (i := 1) rfl; have z2 := cell_blk hw' (i := 2) rfl
      go_simp
      first | done | with_reducible rfl
    (try simp only [Act.put])
    (try simp only [List.setIfInBounds_toArray])
    (try simp only [List.set_cons_succ])
    (try simp only [List.set_cons_zero])
    refine takeC (i := 3) (v := ?_) rfl (by kernel_rfl) (by kernel_rfl) (by kernel_rfl) (by kernel_rfl) (by kernel_rfl) (fun _ _ _ h => h) hC.out (Or.inl ⟨by rfl, ?_⟩) ?_
    rotate_left 1
    · intro w' hw'
      have z1 := cell_blk hw' (i := 1) rfl; have z2 := cell_blk hw' (i := 2) rfl
      go_simp
      first | done | with_reducible rfl
    (try simp only [Act.put])
    (try simp only [List.setIfInBounds_toArray])
    (try simp only [List.set_cons_succ])
    (try simp only [List.set_cons_zero])
    refine takeC (i := 4) (v := ?_) rfl (by kernel_rfl) (by kernel_rfl) (by kernel_rfl) (by kernel_rfl) (by kernel_rfl) (fun _ _ _ h => h) hC.out (Or.inl ⟨by rfl, ?_⟩) ?_
    rotate_left 1
    · intro w' hw'
      have z1 := cell_blk hw' (i := 1) rfl; have z2 := cell_blk hw' (i := 2) rfl
      go_simp
      first | done | with_reducible rfl
    (try simp only [Act.put])
    (try simp only [List.setIfInBounds_toArray])
    (try simp only [List.set_cons_succ])
    (try simp only [List.set_cons_zero])
    refine takeC (i := 6) (v := ?_) rfl (by kernel_rfl) (by kernel_rfl) (by kernel_rfl) (by kernel_rfl) (by kernel_rfl) (fun _ _ _ h => h) hC.out (Or.inl ⟨by rfl, ?_⟩) ?_
    rotate_left 1
    · intro w' hw'
      have z1 := cell_blk hw' (i := 1) rfl; have z2 := cell_blk hw' (i := 2) rfl
      go_simp
      first | done | with_reducible rfl
    (try simp only [Act.put])
    (try simp only [List.setIfInBounds_toArray])
    (try simp only [List.set_cons_succ])
    (try simp only [List.set_cons_zero])
    refine takeC (i := 7) (v := ?_) rfl (by kernel_rfl) (by kernel_rfl) (by kernel_rfl) (by kernel_rfl) (by kernel_rfl) (fun _ _ _ h => h) hC.out (Or.inl ⟨by rfl, ?_⟩) ?_
    rotate_left 1
    · intro w' hw'
      have z1 := cell_blk hw' (i := 1) rfl; have z2 := cell_blk hw' (i := 2) rfl
      go_simp
      first | done | with_reducible rfl
    (try simp only [Act.put])
    (try simp only [List.setIfInBounds_toArray])
    (try simp only [List.set_cons_succ])
    (try simp only [List.set_cons_zero])
    refine takeC (i := 8) (v := ?_) rfl (by kernel_rfl) (by kernel_rfl) (by kernel_rfl) (by kernel_rfl) (by kernel_rfl) (fun _ _ _ h => h) hC.out (Or.inl ⟨by rfl, ?_⟩) ?_
    rotate_left 1
    · intro w' hw'
      have z1 := cell_blk hw' (i := 1) rfl; have z2 := cell_blk hw' (i := 2) rfl
      go_simp
      first | done | with_reducible rfl
    (try simp only [Act.put])
    (try simp only [List.setIfInBounds_toArray])
    (try simp only [List.set_cons_succ])
    (try simp only [List.set_cons_zero])
    refine takeC (i := 9) (v := ?_) rfl (by kernel_rfl) (by kernel_rfl) (by kernel_rfl) (by kernel_rfl) (by kernel_rfl) (fun _ _ _ h => h) hC.out (Or.inl ⟨by rfl, ?_⟩) ?_
    rotate_left 1
    · intro w' hw'
      have z1 := cell_blk hw' (i := 1) rfl; have z2 := cell_blk hw' (i := 2) rfl
      go_simp
      first | done | with_reducible rfl
    (try simp only [Act.put])
    (try simp only [List.setIfInBounds_toArray])
    (try simp only [List.set_cons_succ])
    (try simp only [List.set_cons_zero])
    refine takeC (i := 10) (v := ?_) rfl (by kernel_rfl) (by kernel_rfl) (by kernel_rfl) (by kernel_rfl) (by kernel_rfl) (fun _ _ _ h => h) hC.out (Or.inl ⟨by rfl, ?_⟩) ?_
    rotate_left 1
    · intro w' hw'
      have z1 := cell_blk hw' (i := 1) rfl; have z2 := cell_blk hw' (i := 2) rfl
      go_simp
      first | done | with_reducible rfl
    (try simp only [Act.put])
    (try simp only [List.setIfInBounds_toArray])
    (try simp only [List.set_cons_succ])
    (try simp only [List.set_cons_zero])
    have HC1 : Hid (Calls Try.prog 17 #[nptr bn, .int .i64 A, .int .i64 B] W0 fun e w' => e = .returned (.bool X) ∧ PrMid w0 W0 bn vn br vr sd sd ls ls w') := by
      refine (ureachc_any H0.out.1.net A B).mono ?_
      rintro e w' ⟨he, hg⟩
      rw [HX.out] at he
      exact ⟨he, H0.out.1.mid (H0.out.1.net.go (by rw [hg]; exact Below.refl _ _))⟩
    refine readyC (rs := [5]) (by kernel_rfl) (by simp) ?_
    refine ReadyC.cons rfl (fun K hK => ?_) ReadyC.nil
    refine pstepV_call rfl 17 #[nptr bn, .int .i64 A, .int .i64 B] (by kernel_rfl) HC1.out (fun e' w' h => ⟨_, h.1⟩) ?_
    intro v1 W1 hq
    obtain ⟨hv1, hmid⟩ := hq
    have hv1' := Ending.returned.inj hv1
    subst hv1'
    have hC2 := kt_blk hmid.kt hC.out
    have HC2 : Hid (Calls Try.prog 22 #[nptr br, .int .i64 A, .int .i64 B] W1 fun e w' => e = .returned (.bool X) ∧ PrGo w0 W0 bn vn br vr w') := by
      refine (rreach_any hmid.ref A B).mono ?_
      rintro e w' ⟨he, hg⟩
      rw [HX.out] at he
      exact ⟨he, hmid.done (RfGo.same hmid.ref hg)⟩
    refine hK _ _ (fun _ => hC2) ?_
    clear hK K hv1 HC1
    (try simp only [Act.put])
    (try simp only [List.setIfInBounds_toArray])
    (try simp only [List.set_cons_succ])
    (try simp only [List.set_cons_zero])
    refine readyC (rs := [11]) (by kernel_rfl) (by simp) ?_
    refine ReadyC.cons rfl (fun K hK => ?_) ReadyC.nil
    refine pstepV_call rfl 22 #[nptr br, .int .i64 A, .int .i64 B] (by kernel_rfl) HC2.out (fun e' w' h => ⟨_, h.1⟩) ?_
    intro v2 W2 hq
    obtain ⟨hv2, hgo⟩ := hq
    have hv2' := Ending.returned.inj hv2
    subst hv2'
    have hC3 : W2.heap[w.heap.size]? = some (.cells #[.int .i64 6, .int .i64 A, .int .i64 B, .slice da m dc, .int .u64 (S : Int)] 34 (0, 0)) := by
      obtain ⟨_, _, _, _, _, hfr, _⟩ := hgo
      have hlt : w.heap.size < W0.heap.size := lt_blk hC.out
      refine (hfr.block _ hlt ?_).trans hC.out
      rintro (hb | hb)
      · exact H0.out.1.net.kt_ne hC.out hb
      · exact H0.out.1.ref.kr_ne hC.out hb
    have HF : Hid (PrGo w0 w bn vn br vr W2) := PrGo.pre H0.out.2 hgo
    refine hK _ _ (fun _ => hC3) ?_
    replace hC : Hid (W2.heap[w.heap.size]? = some (.cells #[.int .i64 6, .int .i64 A, .int .i64 B, .slice da m dc, .int .u64 (S : Int)] 34 (0, 0))) := hC3
    clear hK K hv2 HC2 hC2 hC3 hgo hmid
    (try simp only [Act.put])
    (try simp only [List.setIfInBounds_toArray])
    (try simp only [List.set_cons_succ])
    (try simp only [List.set_cons_zero])
    refine readyC (rs := [12]) (by kernel_rfl) (by simp) ?_
    refine ReadyC.cons rfl (fun K hK => ?_) ReadyC.nil
    go_simp
    refine hK _ _ (fun _ => hC.out) ?_
    clear hK K
    (try simp only [Act.put])
    (try simp only [List.setIfInBounds_toArray])
    (try simp only [List.set_cons_succ])
    (try simp only [List.set_cons_zero])
    refine readyC (rs := [13]) (by kernel_rfl) (by simp) ?_
    refine ReadyC.cons rfl (fun K hK => ?_) ReadyC.nil
    go_simp
    refine hK _ _ (fun _ => hC.out) ?_
    clear hK K
    (try simp only [Act.put])
    (try simp only [List.setIfInBounds_toArray])
    (try simp only [List.set_cons_succ])
    (try simp only [List.set_cons_zero])
    refine doneC (by kernel_rfl) ?_ _
    go_wp2
    go_ret
    exact ⟨rfl, HF.out⟩
end Go.Proofs.Ytblohegdlcpipaa
