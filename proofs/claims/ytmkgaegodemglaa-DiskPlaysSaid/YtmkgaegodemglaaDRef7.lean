/- The document's disk: deed, Append; walked. -/
import Derived.Test.YtmkgaegodemglaaDRef6
set_option linter.unusedVariables false
namespace Go.Proofs.Ytmkgaegodemglaa
open Go.RowKit

set_option maxHeartbeats 1000000 in
theorem rdeed_any {w : World} {b : Nat} {S : Nat → Prop} {fs : Value} {l : FV} {d : Dk} (h : RkW w b S fs l d) (hu : d.up = true) :
    Calls Try.prog 49 #[dptr b] w fun e w' => e = .returned (.int .i64 ((if d.ahead = 0 then 13 else 0 : Nat) : Int)) ∧ (d.ahead = 0 → RidS w b S (failD d) w') ∧ (d.ahead ≠ 0 → RkW w' b S fs l (failD d) ∧ Fr S w w') := by
  have hF := rfails_any h
  have HKp : Hid (d.keep < 18446744073709551616) := h.ok.keep
  clear h
  by_cases h0 : d.ahead = 0
  · have qd : decide (d.ahead = 0) = true := by simpa using h0
    have hdd : doneD d = d := by unfold doneD; rw [if_neg (by omega)]
    rw [qd, hdd] at hF
    rw [if_pos h0]
    have HF : Hid (Calls Try.prog 51 #[dptr b] w fun e w' => e = .returned (.bool true) ∧ RkW w' b S fs l d ∧ Fr S w w') := hF
    have HE : Hid (crashD d d.keep = failD d) := by show _ = _; unfold crashD failD; rw [if_pos hu, if_pos h0]
    have HZ : Hid (d.ahead = 0) := h0
    clear hF h0 qd hdd hu
    go_enter Try.func49, Try.ntmps49
    go_wp2_with (fail)
    refine HF.out.mono ?_
    rintro e w1 ⟨rfl, hR, hf⟩
    have HR : Hid (RkW w1 b S fs l d) := hR
    have HFr : Hid (Fr S w w1) := hf
    have c4 := hR.c4
    clear hR hf
    go_wp2_with (fail)
    refine (rcrash_any HR.out d.keep HKp.out).mono ?_
    rintro e w2 ⟨rfl, hR2⟩
    rw [HE.out] at hR2
    go_wp2_with (fail)
    go_ret
    exact ⟨rfl, fun _ => RidS.trans HFr.out (fun j hj => .inl hj) hR2, fun hc => absurd HZ.out hc⟩
  · have qd : decide (d.ahead = 0) = false := by simpa using h0
    have hdd : doneD d = failD d := by unfold failD; rw [if_neg h0]
    rw [qd, hdd] at hF
    rw [if_neg h0]
    have HF : Hid (Calls Try.prog 51 #[dptr b] w fun e w' => e = .returned (.bool false) ∧ RkW w' b S fs l (failD d) ∧ Fr S w w') := hF
    have HZ : Hid (¬ d.ahead = 0) := h0
    clear hF h0 qd hdd hu
    go_enter Try.func49, Try.ntmps49
    go_wp2_with (fail)
    refine HF.out.mono ?_
    rintro e w1 ⟨rfl, hR, hf⟩
    go_wp2_with (fail)
    go_ret
    exact ⟨rfl, fun hc => absurd hc HZ.out, fun _ => ⟨hR, hf⟩⟩

theorem RidS.up {w w' : World} {b : Nat} {S : Nat → Prop} {d : Dk} (h : RidS w b S d w') : ∃ S' fs l, RkW w' b S' fs l d ∧ Fr S w w' ∧ ∀ k, S' k → S k ∨ w.heap.size ≤ k := h
theorem deed_both {w w1 w2 : World} {b : Nat} {S S1 : Nat → Prop} {fs : Value} {l : FV} {d : Dk} (hf : Fr S w w1) (hs : ∀ k, S1 k → S k ∨ w.heap.size ≤ k) (h1 : d.ahead = 0 → RidS w1 b S1 (failD d) w2) (h2 : d.ahead ≠ 0 → RkW w2 b S1 fs l (failD d) ∧ Fr S1 w1 w2) : RidS w b S (failD d) w2 := by
  refine RidS.trans hf hs ?_
  by_cases h0 : d.ahead = 0
  · exact h1 h0
  · obtain ⟨q1, q2⟩ := h2 h0
    exact RidS.mk1 q1 q2

/-- A file of a name, and of nothing, just laid. -/
theorem new_file (w : World) (j : Nat) (n : Nm) : Below w.heap.size w (((((w.drewN j).alloc (.cells #[.string ⟨#[]⟩, .slice none 0 0, .int .i64 0] 71)).setCell ⟨w.heap.size, 0, none⟩ (strN n)).setCell ⟨w.heap.size, 1, none⟩ (.slice none 0 0)).setCell ⟨w.heap.size, 2, none⟩ (.int .i64 0)) ∧
    (((((w.drewN j).alloc (.cells #[.string ⟨#[]⟩, .slice none 0 0, .int .i64 0] 71)).setCell ⟨w.heap.size, 0, none⟩ (strN n)).setCell ⟨w.heap.size, 1, none⟩ (.slice none 0 0)).setCell ⟨w.heap.size, 2, none⟩ (.int .i64 0)).heap[w.heap.size]? = some (.cells #[strN n, .slice none 0 0, .int .i64 0] 71 (0, 0)) ∧
    (((((w.drewN j).alloc (.cells #[.string ⟨#[]⟩, .slice none 0 0, .int .i64 0] 71)).setCell ⟨w.heap.size, 0, none⟩ (strN n)).setCell ⟨w.heap.size, 1, none⟩ (.slice none 0 0)).setCell ⟨w.heap.size, 2, none⟩ (.int .i64 0)).heap.size = w.heap.size + 1 := by
  have q : Below w.heap.size w ((w.drewN j).alloc (.cells #[.string ⟨#[]⟩, .slice none 0 0, .int .i64 0] 71)) := (below_drewN (Below.refl _ w) j).alloc (Nat.le_refl _) _
  have e : ((w.drewN j).alloc (.cells #[.string ⟨#[]⟩, .slice none 0 0, .int .i64 0] 71)).heap[w.heap.size]? = some (.cells #[.string ⟨#[]⟩, .slice none 0 0, .int .i64 0] 71 (0, 0)) := by
    show (w.heap.push _)[w.heap.size]? = _
    exact Array.getElem?_push_size
  refine ⟨⟨q.os, q.tape, q.output, by rw [set_size, set_size, set_size]; exact q.size, fun k hk => ?_⟩, set_blk (set_blk (set_blk e 0 _) 1 _) 2 _, ?_⟩
  · rw [set_other _ (by omega), set_other _ (by omega), set_other _ (by omega)]
    exact q.block k hk
  · rw [set_size, set_size, set_size]
    show (w.heap.push _).size = _
    simp

/-- What an append leaves may be put. -/
theorem putok_add {d : Dk} (h : DkOk d) {n : Nm} (hn : n.length ≤ 140737488355328) {l : List UInt8} (hr : usedL d.files + l.length ≤ d.room) (hs : usedL d.files + l.length ≤ 1099511627776) (hf : d.files.length + 1 ≤ 1048576) : PutOk d n ((oldF d n).bs ++ l) (oldF d n).la := by
  have hus := usedL_put n ⟨(oldF d n).bs ++ l, (oldF d n).la⟩ d.files h.rises
  have e : (oldF d n).bs.length = ((getA n d.files).getD ⟨[], 0⟩).bs.length := rfl
  simp only [List.length_append] at hus
  refine ⟨?_, hn, by omega, ?_, by omega⟩
  · rw [List.length_append]
    cases hg : getA n d.files with
    | none => show ((getA n d.files).getD ⟨[], 0⟩).la ≤ ((getA n d.files).getD ⟨[], 0⟩).bs.length + _; rw [hg]; exact Nat.zero_le _
    | some f => show ((getA n d.files).getD ⟨[], 0⟩).la ≤ ((getA n d.files).getD ⟨[], 0⟩).bs.length + _; rw [hg]; exact Nat.le_trans (h.lasts _ (getA_mem hg)) (Nat.le_add_right _ _)
  · have := putA_length n (⟨(oldF d n).bs ++ l, (oldF d n).la⟩ : Fl) d.files
    omega

set_option maxHeartbeats 4000000 in
set_option maxRecDepth 20000 in
theorem rappend_any {w : World} {b : Nat} {S : Nat → Prop} {fs : Value} {fl : FV} {d : Dk} (h : RkW w b S fs fl d) (n : Nm) (hn : n.length ≤ 140737488355328) {a : Option Addr} {len cap : Nat} {l : List UInt8} (hrow : BRow w a len cap l) (hsm : usedL d.files + l.length ≤ 1099511627776) (hfew : d.files.length + 1 ≤ 1048576) :
    Calls Try.prog 27 #[dptr b, strN n, .slice a len cap] w fun e w' => e = .returned (.int .i64 ((appendP d n l).1 : Int)) ∧ RidS w b S (appendP d n l).2 w' := by
  have hlen : l.length = len := hrow.1
  subst hlen
  have c2 := h.c2
  have HD : Hid (RkW w b S fs fl d) := h
  have hMN := rnamed_any n hn w
  unfold appendP
  cases hu : d.up with
  | false =>
    rw [hu] at c2
    rw [if_pos rfl]
    generalize mayN n = M at *
    clear h hrow hsm
    go_enter Try.func27, Try.ntmps27
    go_wp2_with (go_at_call 46; refine hMN.mono ?_; rintro e wm ⟨rfl, hw⟩; subst wm)
    go_ret
    exact ⟨rfl, RidS.mk1 HD.out (Fr.refl S w)⟩
  | true =>
    rw [hu] at c2
    rw [if_neg (by decide)]
    cases hm : mayN n with
    | false =>
      rw [hm] at hMN
      rw [if_pos rfl]
      clear h hrow hsm
      go_enter Try.func27, Try.ntmps27
      go_wp2_with (go_at_call 46; refine hMN.mono ?_; rintro e wm ⟨rfl, hw⟩; subst wm)
      go_ret
      exact ⟨rfl, RidS.mk1 HD.out (Fr.refl S w)⟩
    | true =>
      rw [hm] at hMN
      rw [if_neg (by decide)]
      have c0 : ∀ j, (w.drewN j).cell? ⟨b, 0, none⟩ = some (.int .i64 (d.room : Int)) := fun j => h.c0
      have HUs : Hid (∀ j, Calls Try.prog 37 #[dptr b] (w.drewN j) fun e w' => e = .returned (.int .i64 (usedL d.files : Int)) ∧ ∃ m, w' = w.drewN m) := fun j => (rused_any (HD.out.drewN j)).mono fun e w' q => ⟨by rw [q.1, if_pos hu], j, q.2⟩
      have hfit := h.ok.fits
      have hroom := h.ok.room
      obtain ⟨U, hU⟩ : ∃ U, U = usedL d.files := ⟨_, rfl⟩
      obtain ⟨R, hR⟩ : ∃ R, R = d.room := ⟨_, rfl⟩
      rw [← hU] at hsm hfit HUs ⊢
      rw [← hR] at c0 hroom hfit ⊢
      have HU : Hid (U = usedL d.files) := hU
      have HR : Hid (R = d.room) := hR
      have HRow : Hid (BRow w a l.length cap l) := hrow
      have i1 : (U : Int) ≤ 1099511627776 := by omega
      have i2 : (R : Int) ≤ 9223372036854775807 := by omega
      have i3 : (l.length : Int) ≤ 1099511627776 := by omega
      have i4 : (U : Int) ≤ (R : Int) := by omega
      by_cases hfull : R < U + l.length
      · rw [if_pos hfull]
        have q : decide ((R : Int) - (U : Int) < (l.length : Int)) = true := by simp; omega
        have q' : (R : Int) - (U : Int) < (l.length : Int) := by omega
        clear h hrow hsm hU hR hfull hfit hroom
        go_enter Try.func27, Try.ntmps27
        go_wp2_with (go_at_call 46; refine hMN.mono ?_; rintro e wm ⟨rfl, hw⟩; subst wm)
        go_quiet ((go_at_call 37; exact HUs.out _))
        go_wp2
        go_ret
        exact ⟨rfl, RidS.mk1 (HD.out.drewN _) ((Fr.refl S w).drewN _)⟩
      · rw [if_neg hfull]
        have q : decide ((R : Int) - (U : Int) < (l.length : Int)) = false := by simp; omega
        have q' : ¬ (R : Int) - (U : Int) < (l.length : Int) := by omega
        have HPK : Hid (PutOk d n ((oldF d n).bs ++ l) (oldF d n).la) := putok_add h.ok hn (by rw [← hU, ← hR]; omega) (by rw [← hU]; omega) hfew
        have HUp : Hid (d.up = true) := hu
        have HBl : Hid (l.length ≤ 1099511627776) := by show _ ≤ _; omega
        have hobl : (oldF d n).bs.length ≤ 1099511627776 := by
          have := usedL_del n d.files h.ok.rises
          show ((getA n d.files).getD ⟨[], 0⟩).bs.length ≤ _
          omega
        have HOBL : Hid ((oldF d n).bs.length ≤ 1099511627776) := hobl
        unfold addD
        clear hrow hsm hU hR hfull hfit hroom hfew hm hu hobl
        rcases fidx_cases n d.files with ⟨hz, hg⟩ | ⟨i, f, hz, hi, hg⟩
        · obtain ⟨obs, hobs⟩ : ∃ obs : List UInt8, obs = [] := ⟨_, rfl⟩
          have HOb : Hid (obs = []) := hobs
          have HO : Hid (oldF d n = ⟨obs, 0⟩) := by show (getA n d.files).getD ⟨[], 0⟩ = _; rw [hg, hobs]; rfl
          clear hobs
          rw [HO.out] at HPK HOBL ⊢
          simp only at HPK HOBL ⊢
          have HFi : Hid (∀ u, RkW u b S fs fl d → Calls Try.prog 47 #[dptr b, strN n] u fun e w' => e = .returned (.int .i64 (-1)) ∧ w' = u) := fun u hu => by have := rfind_any hu n; rw [hz] at this; exact this
          obtain ⟨DD, hDD⟩ : ∃ DD : Dk, DD = { d with files := putA n ⟨obs ++ l, 0⟩ d.files } := ⟨_, rfl⟩
          rw [← hDD]
          have HDD : Hid (DD = { d with files := putA n ⟨obs ++ l, 0⟩ d.files }) := hDD
          have HDu : Hid (DD.up = true) := by show _ = _; rw [hDD]; exact HUp.out
          have HDa : Hid (DD.ahead = d.ahead) := by show _ = _; rw [hDD]
          clear hDD hz hg h
          have hkk : ∀ j, ((w.drewN j).alloc (.cells #[.string ⟨#[]⟩, .slice none 0 0, .int .i64 0] 71)).heap[w.heap.size]? = some (.cells #[.string ⟨#[]⟩, .slice none 0 0, .int .i64 0] 71 (0, 0)) := fun j => by
            show (w.heap.push _)[w.heap.size]? = _
            exact Array.getElem?_push_size
          have k0 := fun j => cell_blk (hkk j) (i := 0) rfl
          have k1 := fun j => cell_blk (hkk j) (i := 1) rfl
          have k2 := fun j => cell_blk (hkk j) (i := 2) rfl
          have kf := fun j i => free_blk (hkk j) i
          go_enter Try.func27, Try.ntmps27
          go_wp2_with (go_at_call 46; refine hMN.mono ?_; rintro e wm ⟨rfl, hw⟩; subst wm)
          go_quiet ((go_at_call 37; exact HUs.out _))
          go_wp2_with (fail)
          refine (HFi.out _ (HD.out.below (new_file w _ n).1)).mono ?_
          rintro e W9 ⟨rfl, hw⟩
          clear k0 k1 k2 kf hkk
          obtain ⟨fb, hfb⟩ : ∃ fb, fb = w.heap.size := ⟨_, rfl⟩
          have hb9 : Below w.heap.size w W9 := by rw [hw]; exact (new_file w _ n).1
          have hk9 : W9.heap[fb]? = some (.cells #[strN n, .slice none 0 0, .int .i64 0] 71 (0, 0)) := by rw [hw, hfb]; exact (new_file w _ n).2.1
          have hs9 : W9.heap.size = fb + 1 := by rw [hw, hfb]; exact (new_file w _ n).2.2
          have HD9 : Hid (RkW W9 b S fs fl d) := HD.out.below hb9
          have HB9 : Hid (Below w.heap.size w W9) := hb9
          have HFB : Hid (fb = w.heap.size) := hfb
          rw [← hfb]
          have HZ9 : Hid (W9.heap.size = fb + 1) := hs9
          have HK9 : Hid (W9.heap[fb]? = some (.cells #[strN n, .slice none 0 0, .int .i64 0] 71 (0, 0))) := hk9
          have HOr : Hid (BRow W9 none 0 0 obs) := ⟨by rw [HOb.out]; rfl, .inl ⟨rfl, rfl, rfl⟩⟩
          have x0 : W9.cell? ⟨fb, 0, none⟩ = some (strN n) := cell_blk hk9 rfl
          have x1 : W9.cell? ⟨fb, 1, none⟩ = some (.slice none 0 0) := cell_blk hk9 rfl
          have x2 : W9.cell? ⟨fb, 2, none⟩ = some (.int .i64 0) := cell_blk hk9 rfl
          have x1a : ∀ o, (W9.alloc o).cell? ⟨fb, 1, none⟩ = some (.slice none 0 0) := fun o => cell_blk (((Below.refl _ W9).alloc (Nat.le_refl _) o).block fb (lt_blk hk9) |>.trans hk9) rfl
          clear hw hb9 hk9 hs9 hfb
          have HBA : Hid (Below W9.heap.size W9 (W9.alloc (.cells #[] 5))) := (Below.refl _ W9).alloc (Nat.le_refl _) _
          go_wp2_with (at_builtin; refine wpList_copy (own_made0 W9 W9.heap.size (Nat.le_refl _)) (HOr.out.below HBA.out) ?c1 HBA.out.size rfl _ _ rfl rfl rfl ?_)
          case c1 => have := HOBL.out; first | (show 0 + obs.length ≤ _; omega) | (show 0 + 0 ≤ _; omega)
          intro v13 w13 ho13 hb13
          have O13 : Hid (OwnB w13 W9.heap.size v13 obs) := by first | exact ho13 | (rw [List.nil_append] at ho13; exact ho13)
          have B13 : Hid (Below W9.heap.size W9 w13) := HBA.out.trans hb13
          have W13 : Hid (Below w.heap.size w w13) := HB9.out.trans (B13.out.mono HB9.out.size)
          clear ho13 hb13
          go_wp2_with (at_builtin; refine wpList_copy O13.out (HRow.out.below W13.out) ?c1 B13.out.size rfl _ _ rfl rfl rfl ?_)
          case c1 => have := HOBL.out; have := HBl.out; show obs.length + l.length ≤ _; omega
          intro v14 w14 ho14 hb14
          have ho14' : OwnB w14 W9.heap.size v14 (obs ++ l) := ho14
          obtain ⟨va, vc, hv14⟩ : ∃ a c, v14 = .slice a (obs ++ l).length c := own_slice ho14'
          subst hv14
          have hb14' : Below W9.heap.size W9 w14 := B13.out.trans hb14
          have hk14 : w14.heap[fb]? = some (.cells #[strN n, .slice none 0 0, .int .i64 0] 71 (0, 0)) := (hb14'.block fb (lt_blk HK9.out)).trans HK9.out
          obtain ⟨W15, hW15⟩ : ∃ W15, W15 = w14.setCell ⟨fb, 1, none⟩ (.slice va (obs ++ l).length vc) := ⟨_, rfl⟩
          have hk15 : W15.heap[fb]? = some (.cells #[strN n, .slice va (obs ++ l).length vc, .int .i64 (0)] 71 (0, 0)) := by rw [hW15]; exact set_blk hk14 1 _
          have z0 : w14.cell? ⟨fb, 0, none⟩ = some (strN n) := cell_blk hk14 rfl
          have z1 : w14.cell? ⟨fb, 1, none⟩ = some (.slice none 0 0) := cell_blk hk14 rfl
          have z2 : w14.cell? ⟨fb, 2, none⟩ = some (.int .i64 (0)) := cell_blk hk14 rfl
          have zf := free_blk hk14 1
          have y0 : W15.cell? ⟨fb, 0, none⟩ = some (strN n) := cell_blk hk15 rfl
          have y1 : W15.cell? ⟨fb, 1, none⟩ = some (.slice va (obs ++ l).length vc) := cell_blk hk15 rfl
          have y2 : W15.cell? ⟨fb, 2, none⟩ = some (.int .i64 (0)) := cell_blk hk15 rfl
          have hgv : ∀ g, (Value.slice va (obs ++ l).length vc).ownBlock = some g → W9.heap.size ≤ g ∧ g < w14.heap.size := fun g hg => by
            obtain ⟨cur, hc⟩ := ownB_block ho14' hg
            rcases ho14'.2 with ⟨e, _⟩ | ⟨g', cap', cur', e, hB, _⟩
            · rw [e] at hg; cases hg
            · rw [e] at hg; cases hg; exact ⟨hB, lt_blk hc⟩
          have hfbl : fb < W9.heap.size := lt_blk HK9.out
          have hnb : b ≠ fb := fun e => by have := HD.out.lt b HD.out.sb; have := HFB.out; omega
          have hb15 : Below w.heap.size w W15 := by
            rw [hW15]
            have q : Below w.heap.size w w14 := HB9.out.trans (hb14'.mono HB9.out.size)
            refine ⟨q.os, q.tape, q.output, by rw [set_size]; exact q.size, fun k hk => ?_⟩
            rw [set_other _ (by have := HFB.out; omega)]
            exact q.block k hk
          have HD15 : Hid (RkW W15 b (fun k => S k ∨ (Value.slice va (obs ++ l).length vc).ownBlock = some k) fs fl d) := by
            refine RkW.more (HD.out.below hb15) (fun k hk => .inl hk) (fun k hk => ?_)
            rcases hk with hk | hk
            · exact Nat.lt_of_lt_of_le (HD.out.lt k hk) hb15.size
            · rw [hW15, set_size]; exact (hgv k hk).2
          have HV15 : Hid (OwnB W15 0 (.slice va (obs ++ l).length vc) (obs ++ l)) := by
            show OwnB _ _ _ _
            rw [hW15]
            exact ownB_keep (ownB_lower ho14') (fun g hg => set_other _ (by have := (hgv g hg).1; omega))
          have HFr15 : Hid (Fr S w W15) := Fr.of_below S hb15
          have HS15 : Hid (∀ k, (S k ∨ (Value.slice va (obs ++ l).length vc).ownBlock = some k) → S k ∨ w.heap.size ≤ k) := fun k hk => by
            rcases hk with hk | hk
            · exact .inl hk
            · have := (hgv k hk).1; have := HB9.out.size; exact .inr (by omega)
          clear ho14 ho14' hb14 hb14' hk14 hk15 hgv hfbl hnb hb15
          obtain ⟨BL, hBL⟩ : ∃ BL, BL = (obs ++ l).length := ⟨_, rfl⟩
          rw [← hBL] at y1 hW15 ⊢
          have HBL : Hid (BL = (obs ++ l).length) := hBL
          clear hBL
          go_wp2_with (fail)
          rw [← hW15]
          rw [HBL.out]
          refine (rput_any HD15.out n va vc (obs ++ l) 0 HV15.out (fun g hg => .inr hg) HPK.out).mono ?_
          rintro e w16 ⟨rfl, hR16⟩
          rw [← HDD.out] at hR16
          obtain ⟨S16, fs16, l16, h16, hf16, hs16⟩ := hR16
          have HR16 : Hid (RkW w16 b S16 fs16 l16 DD) := h16
          have HF16 : Hid (Fr S w w16) := HFr15.out.trans hf16 HS15.out
          have HS16 : Hid (∀ k, S16 k → S k ∨ w.heap.size ≤ k) := fun k hk => by
            rcases hs16 k hk with q | q
            · exact HS15.out k q
            · exact .inr (Nat.le_trans HFr15.out.size q)
          clear h16 hf16 hs16 hW15 z0 z1 z2 zf y0 y1 y2
          go_wp2_with (fail)
          refine (rdeed_any HR16.out HDu.out).mono ?_
          rintro e w17 ⟨rfl, h17a, h17b⟩
          rw [HDa.out]
          go_wp2_with (fail)
          all_goals go_ret
          all_goals exact ⟨rfl, deed_both HF16.out HS16.out h17a h17b⟩
        · have HO : Hid (oldF d n = f) := by show (getA n d.files).getD ⟨[], 0⟩ = _; rw [hg]; rfl
          rw [HO.out] at HPK HOBL ⊢
          have HFi : Hid (∀ u, RkW u b S fs fl d → Calls Try.prog 47 #[dptr b, strN n] u fun e w' => e = .returned (.int .i64 (i : Int)) ∧ w' = u) := fun u hu => by have := rfind_any hu n; rw [hz] at this; exact this
          obtain ⟨obs, ola⟩ := f
          simp only at HPK HOBL ⊢
          obtain ⟨DD, hDD⟩ : ∃ DD : Dk, DD = { d with files := putA n ⟨obs ++ l, ola⟩ d.files } := ⟨_, rfl⟩
          rw [← hDD]
          have HDD : Hid (DD = { d with files := putA n ⟨obs ++ l, ola⟩ d.files }) := hDD
          have HDu : Hid (DD.up = true) := by show _ = _; rw [hDD]; exact HUp.out
          have HDa : Hid (DD.ahead = d.ahead) := by show _ = _; rw [hDD]
          have HI : Hid (d.files[i]? = some (n, ⟨obs, ola⟩)) := hi
          have n0 : ¬ (i : Int) < 0 := by omega
          have q0 : decide ((0 : Int) ≤ (i : Int)) = true := by simp
          have hif : i < fl.length := by rw [h.len]; exact (List.getElem?_eq_some_iff.1 hi).1
          have hif' : (i : Int) < (fl.length : Int) := by omega
          have jfl : (fl.length : Int) ≤ 1048576 := by have := h.ok.few; rw [h.len]; omega
          clear hDD hz hg h hi hif
          have hkk : ∀ j, ((w.drewN j).alloc (.cells #[.string ⟨#[]⟩, .slice none 0 0, .int .i64 0] 71)).heap[w.heap.size]? = some (.cells #[.string ⟨#[]⟩, .slice none 0 0, .int .i64 0] 71 (0, 0)) := fun j => by
            show (w.heap.push _)[w.heap.size]? = _
            exact Array.getElem?_push_size
          have k0 := fun j => cell_blk (hkk j) (i := 0) rfl
          have k1 := fun j => cell_blk (hkk j) (i := 1) rfl
          have k2 := fun j => cell_blk (hkk j) (i := 2) rfl
          have kf := fun j i => free_blk (hkk j) i
          go_enter Try.func27, Try.ntmps27
          go_wp2_with (go_at_call 46; refine hMN.mono ?_; rintro e wm ⟨rfl, hw⟩; subst wm)
          go_quiet ((go_at_call 37; exact HUs.out _))
          go_wp2_with (fail)
          refine (HFi.out _ (HD.out.below (new_file w _ n).1)).mono ?_
          rintro e W9 ⟨rfl, hw⟩
          clear k0 k1 k2 kf hkk
          obtain ⟨fb, hfb⟩ : ∃ fb, fb = w.heap.size := ⟨_, rfl⟩
          have hb9 : Below w.heap.size w W9 := by rw [hw]; exact (new_file w _ n).1
          have hk9 : W9.heap[fb]? = some (.cells #[strN n, .slice none 0 0, .int .i64 0] 71 (0, 0)) := by rw [hw, hfb]; exact (new_file w _ n).2.1
          have hs9 : W9.heap.size = fb + 1 := by rw [hw, hfb]; exact (new_file w _ n).2.2
          have HD9 : Hid (RkW W9 b S fs fl d) := HD.out.below hb9
          have HB9 : Hid (Below w.heap.size w W9) := hb9
          have HFB : Hid (fb = w.heap.size) := hfb
          rw [← hfb]
          have HZ9 : Hid (W9.heap.size = fb + 1) := hs9
          obtain ⟨v0, hlk⟩ := HD9.out.get HI.out
          obtain ⟨g, c', he, hSg, hgb, p0, p1, p2, pf⟩ := HD9.out.at hlk
          have hown := HD9.out.bytes _ (List.mem_of_getElem? hlk)
          simp only at hown p1 p2
          obtain ⟨oa, oc, rfl⟩ := own_slice hown
          have c1 := HD9.out.c1
          rw [he] at c1
          have x0 : W9.cell? ⟨fb, 0, none⟩ = some (strN n) := cell_blk hk9 rfl
          have x1 : W9.cell? ⟨fb, 1, none⟩ = some (.slice none 0 0) := cell_blk hk9 rfl
          have x2 : W9.cell? ⟨fb, 2, none⟩ = some (.int .i64 0) := cell_blk hk9 rfl
          have f0 := free_blk hk9 0
          have f1 := free_blk hk9 1
          have f2 := free_blk hk9 2
          obtain ⟨W10, hW10⟩ : ∃ W10, W10 = ((W9.setCell ⟨fb, 0, none⟩ (strN n)).setCell ⟨fb, 1, none⟩ (.slice oa obs.length oc)).setCell ⟨fb, 2, none⟩ (.int .i64 (ola : Int)) := ⟨_, rfl⟩
          have hk10 : W10.heap[fb]? = some (.cells #[strN n, .slice oa obs.length oc, .int .i64 (ola : Int)] 71 (0, 0)) := by rw [hW10]; exact set_blk (set_blk (set_blk hk9 0 _) 1 _) 2 _
          have HK10 : Hid (W10.heap[fb]? = some (.cells #[strN n, .slice oa obs.length oc, .int .i64 (ola : Int)] 71 (0, 0))) := hk10
          have HB10 : Hid (Below w.heap.size w W10) := by
            show Below _ _ _
            rw [hW10]
            refine ⟨hb9.os, hb9.tape, hb9.output, by rw [set_size, set_size, set_size]; exact hb9.size, fun k hk => ?_⟩
            rw [set_other _ (by omega), set_other _ (by omega), set_other _ (by omega)]
            exact hb9.block k hk
          have HOr : Hid (BRow W10 oa obs.length oc obs) := by
            show BRow _ _ _ _ _
            rw [hW10]
            refine own_brow (ownB_keep hown (fun j hj => ?_))
            have hjl : j < w.heap.size := HD.out.lt j (HD9.out.sr _ (List.mem_of_getElem? hlk) j hj)
            rw [set_other _ (by omega), set_other _ (by omega), set_other _ (by omega)]
          have x1a : ∀ o, (W10.alloc o).cell? ⟨fb, 1, none⟩ = some (.slice oa obs.length oc) := fun o => cell_blk (((Below.refl _ W10).alloc (Nat.le_refl _) o).block fb (lt_blk hk10) |>.trans hk10) rfl
          have x1b := x1a
          rw [hW10] at x1b
          have HZ10 : Hid (W9.heap.size = W10.heap.size) := by show _ = _; rw [hW10, set_size, set_size, set_size]
          have HW10 := (show Hid (W10 = _) from hW10)
          clear hW10 x1a
          clear hw hb9 hk9 hs9 hfb hown he hSg hgb pf hlk hk10
          have HBA : Hid (Below W10.heap.size W10 (W10.alloc (.cells #[] 5))) := (Below.refl _ W10).alloc (Nat.le_refl _) _
          go_wp2_with (at_builtin; rw [← HW10.out]; rw [HZ10.out]; refine wpList_copy (own_made0 W10 W10.heap.size (Nat.le_refl _)) (HOr.out.below HBA.out) ?c1 HBA.out.size rfl _ _ rfl rfl rfl ?_)
          case c1 => have := HOBL.out; first | (show 0 + obs.length ≤ _; omega) | (show 0 + 0 ≤ _; omega)
          intro v13 w13 ho13 hb13
          have O13 : Hid (OwnB w13 W10.heap.size v13 obs) := by first | exact ho13 | (rw [List.nil_append] at ho13; exact ho13)
          have B13 : Hid (Below W10.heap.size W10 w13) := HBA.out.trans hb13
          have W13 : Hid (Below w.heap.size w w13) := HB10.out.trans (B13.out.mono HB10.out.size)
          clear ho13 hb13
          go_wp2_with (at_builtin; refine wpList_copy O13.out (HRow.out.below W13.out) ?c1 B13.out.size rfl _ _ rfl rfl rfl ?_)
          case c1 => have := HOBL.out; have := HBl.out; show obs.length + l.length ≤ _; omega
          intro v14 w14 ho14 hb14
          have ho14' : OwnB w14 W10.heap.size v14 (obs ++ l) := ho14
          obtain ⟨va, vc, hv14⟩ : ∃ a c, v14 = .slice a (obs ++ l).length c := own_slice ho14'
          subst hv14
          have hb14' : Below W10.heap.size W10 w14 := B13.out.trans hb14
          have hk14 : w14.heap[fb]? = some (.cells #[strN n, .slice oa obs.length oc, .int .i64 (ola : Int)] 71 (0, 0)) := (hb14'.block fb (lt_blk HK10.out)).trans HK10.out
          obtain ⟨W15, hW15⟩ : ∃ W15, W15 = w14.setCell ⟨fb, 1, none⟩ (.slice va (obs ++ l).length vc) := ⟨_, rfl⟩
          have hk15 : W15.heap[fb]? = some (.cells #[strN n, .slice va (obs ++ l).length vc, .int .i64 ((ola : Int))] 71 (0, 0)) := by rw [hW15]; exact set_blk hk14 1 _
          have z0 : w14.cell? ⟨fb, 0, none⟩ = some (strN n) := cell_blk hk14 rfl
          have z1 : w14.cell? ⟨fb, 1, none⟩ = some (.slice oa obs.length oc) := cell_blk hk14 rfl
          have z2 : w14.cell? ⟨fb, 2, none⟩ = some (.int .i64 ((ola : Int))) := cell_blk hk14 rfl
          have zf := free_blk hk14 1
          have y0 : W15.cell? ⟨fb, 0, none⟩ = some (strN n) := cell_blk hk15 rfl
          have y1 : W15.cell? ⟨fb, 1, none⟩ = some (.slice va (obs ++ l).length vc) := cell_blk hk15 rfl
          have y2 : W15.cell? ⟨fb, 2, none⟩ = some (.int .i64 ((ola : Int))) := cell_blk hk15 rfl
          have hgv : ∀ g, (Value.slice va (obs ++ l).length vc).ownBlock = some g → W10.heap.size ≤ g ∧ g < w14.heap.size := fun g hg => by
            obtain ⟨cur, hc⟩ := ownB_block ho14' hg
            rcases ho14'.2 with ⟨e, _⟩ | ⟨g', cap', cur', e, hB, _⟩
            · rw [e] at hg; cases hg
            · rw [e] at hg; cases hg; exact ⟨hB, lt_blk hc⟩
          have hfbl : fb < W10.heap.size := lt_blk HK10.out
          have hnb : b ≠ fb := fun e => by have := HD.out.lt b HD.out.sb; have := HFB.out; omega
          have hb15 : Below w.heap.size w W15 := by
            rw [hW15]
            have q : Below w.heap.size w w14 := HB10.out.trans (hb14'.mono HB10.out.size)
            refine ⟨q.os, q.tape, q.output, by rw [set_size]; exact q.size, fun k hk => ?_⟩
            rw [set_other _ (by have := HFB.out; omega)]
            exact q.block k hk
          have HD15 : Hid (RkW W15 b (fun k => S k ∨ (Value.slice va (obs ++ l).length vc).ownBlock = some k) fs fl d) := by
            refine RkW.more (HD.out.below hb15) (fun k hk => .inl hk) (fun k hk => ?_)
            rcases hk with hk | hk
            · exact Nat.lt_of_lt_of_le (HD.out.lt k hk) hb15.size
            · rw [hW15, set_size]; exact (hgv k hk).2
          have HV15 : Hid (OwnB W15 0 (.slice va (obs ++ l).length vc) (obs ++ l)) := by
            show OwnB _ _ _ _
            rw [hW15]
            exact ownB_keep (ownB_lower ho14') (fun g hg => set_other _ (by have := (hgv g hg).1; omega))
          have HFr15 : Hid (Fr S w W15) := Fr.of_below S hb15
          have HS15 : Hid (∀ k, (S k ∨ (Value.slice va (obs ++ l).length vc).ownBlock = some k) → S k ∨ w.heap.size ≤ k) := fun k hk => by
            rcases hk with hk | hk
            · exact .inl hk
            · have := (hgv k hk).1; have := HB10.out.size; exact .inr (by omega)
          clear ho14 ho14' hb14 hb14' hk14 hk15 hgv hfbl hnb hb15
          obtain ⟨BL, hBL⟩ : ∃ BL, BL = (obs ++ l).length := ⟨_, rfl⟩
          rw [← hBL] at y1 hW15 ⊢
          have HBL : Hid (BL = (obs ++ l).length) := hBL
          clear hBL
          go_wp2_with (fail)
          rw [← hW15]
          rw [HBL.out]
          refine (rput_any HD15.out n va vc (obs ++ l) ola HV15.out (fun g hg => .inr hg) HPK.out).mono ?_
          rintro e w16 ⟨rfl, hR16⟩
          rw [← HDD.out] at hR16
          obtain ⟨S16, fs16, l16, h16, hf16, hs16⟩ := hR16
          have HR16 : Hid (RkW w16 b S16 fs16 l16 DD) := h16
          have HF16 : Hid (Fr S w w16) := HFr15.out.trans hf16 HS15.out
          have HS16 : Hid (∀ k, S16 k → S k ∨ w.heap.size ≤ k) := fun k hk => by
            rcases hs16 k hk with q | q
            · exact HS15.out k q
            · exact .inr (Nat.le_trans HFr15.out.size q)
          clear h16 hf16 hs16 hW15 z0 z1 z2 zf y0 y1 y2
          go_wp2_with (fail)
          refine (rdeed_any HR16.out HDu.out).mono ?_
          rintro e w17 ⟨rfl, h17a, h17b⟩
          rw [HDa.out]
          go_wp2_with (fail)
          all_goals go_ret
          all_goals exact ⟨rfl, deed_both HF16.out HS16.out h17a h17b⟩
end Go.Proofs.Ytmkgaegodemglaa
