/- DiskPlays, walked. -/
import Derived.Test.YtmkgaegodemglaaPlainPlays
set_option linter.unusedVariables false
namespace Go.Proofs.Ytmkgaegodemglaa
open Go.RowKit

/-- Two disks, each with the document's beside it, all apart. -/
structure Quad (w0 w : World) (b1 m1 c1 b2 m2 c2 : Nat) (A1 A2 B1 B2 : Nat → Prop) (dx dy : Dk) : Prop where
  x : PrD w b1 m1 c1 A1 A2 dx
  y : PrD w b2 m2 c2 B1 B2 dy
  apart : ∀ k, (A1 k ∨ A2 k) → ¬ (B1 k ∨ B2 k)
  geA : ∀ k, (A1 k ∨ A2 k) → w0.heap.size ≤ k
  geB : ∀ k, (B1 k ∨ B2 k) → w0.heap.size ≤ k
  below : Below w0.heap.size w0 w
theorem Quad.swap {w0 w : World} {b1 m1 c1 b2 m2 c2 : Nat} {A1 A2 B1 B2 : Nat → Prop} {dx dy : Dk} (h : Quad w0 w b1 m1 c1 b2 m2 c2 A1 A2 B1 B2 dx dy) : Quad w0 w b2 m2 c2 b1 m1 c1 B1 B2 A1 A2 dy dx :=
  ⟨h.y, h.x, fun k hk q => h.apart k q hk, h.geB, h.geA, h.below⟩
theorem Quad.same {w0 w w' : World} {b1 m1 c1 b2 m2 c2 : Nat} {A1 A2 B1 B2 : Nat → Prop} {dx dy : Dk} (h : Quad w0 w b1 m1 c1 b2 m2 c2 A1 A2 B1 B2 dx dy) (hb : Below w.heap.size w w') : Quad w0 w' b1 m1 c1 b2 m2 c2 A1 A2 B1 B2 dx dy :=
  ⟨h.x.below hb, h.y.below hb, h.apart, h.geA, h.geB, h.below.trans (hb.mono h.below.size)⟩
theorem Quad.step {w0 w w' : World} {b1 m1 c1 b2 m2 c2 : Nat} {A1 A2 B1 B2 : Nat → Prop} {dx dy d' : Dk} (h : Quad w0 w b1 m1 c1 b2 m2 c2 A1 A2 B1 B2 dx dy) (hb : BothD w b1 m1 c1 A1 A2 d' w') : ∃ T1 T2, Quad w0 w' b1 m1 c1 b2 m2 c2 T1 T2 B1 B2 d' dy := by
  obtain ⟨T1, T2, hp, hf, h1, h2⟩ := hb
  have hT : ∀ k, (T1 k ∨ T2 k) → (A1 k ∨ A2 k) ∨ w.heap.size ≤ k := fun k hk => by
    rcases hk with hk | hk
    · rcases h1 k hk with q | q
      · exact .inl (.inl q)
      · exact .inr q
    · rcases h2 k hk with q | q
      · exact .inl (.inr q)
      · exact .inr q
  have hBl : ∀ k, (B1 k ∨ B2 k) → k < w.heap.size := fun k hk => by
    rcases hk with hk | hk
    · exact h.y.two.lt1 k hk
    · exact h.y.two.lt2 k hk
  obtain ⟨sl, hc⟩ := h.y.code
  obtain ⟨fs, fl, hd⟩ := h.y.doc
  refine ⟨T1, T2, hp, ⟨⟨sl, hc.keep hf.size (fun k hk => hf.block k (hc.lt k hk) (fun q => h.apart k q (.inl hk)))⟩, ⟨fs, fl, hd.keep hf.size (fun k hk => hf.block k (hd.lt k hk) (fun q => h.apart k q (.inr hk)))⟩, h.y.apart⟩, fun k hk q => ?_, fun k hk => ?_, h.geB, h.below.trans (hf.below h.geA h.below.size)⟩
  · rcases hT k hk with r | r
    · exact h.apart k r q
    · have := hBl k q; omega
  · rcases hT k hk with r | r
    · exact h.geA k r
    · exact Nat.le_trans h.below.size r

/-- A step of a script, as it lies in memory. -/
structure OpM (w : World) (bb p : Nat) (kind : Int) (n tn : Nm) (ba : Option Addr) (bl bc : Nat) (l : List UInt8) (k : Int) (keep : Nat) : Prop where
  c0 : w.cell? ⟨bb, p, none⟩ = some (.int .i64 kind)
  c1 : w.cell? ⟨bb, p + 1, none⟩ = some (strN n)
  c2 : w.cell? ⟨bb, p + 2, none⟩ = some (strN tn)
  c3 : w.cell? ⟨bb, p + 3, none⟩ = some (.slice ba bl bc)
  c4 : w.cell? ⟨bb, p + 4, none⟩ = some (.int .i64 k)
  c5 : w.cell? ⟨bb, p + 5, none⟩ = some (.int .u64 (keep : Int))
  row : BRow w ba bl bc l
  cap : bl ≤ bc
  len : bl ≤ 140737488355328
  kd : -9223372036854775808 ≤ kind ∧ kind ≤ 9223372036854775807
  hk : -9223372036854775808 ≤ k ∧ k ≤ 9223372036854775807
  hn : n.length ≤ 140737488355328
  ht : tn.length ≤ 140737488355328
  kp : keep < 18446744073709551616

set_option maxHeartbeats 4000000 in
set_option maxRecDepth 20000 in
theorem wplays (room : Int) (hro : -9223372036854775808 ≤ room ∧ room ≤ 9223372036854775807) (other : Int) (hot : -9223372036854775808 ≤ other ∧ other ≤ 9223372036854775807) (a : Option Addr) (bb oo len cap : Nat) (w : World)
    (e1 : 0 < len → a = some ⟨bb, oo, none⟩) (e2 : ∀ i, i < len → ∃ kind n tn ba bl bc l k keep, OpM w bb (oo + i * 6) kind n tn ba bl bc l k keep) (e3 : len ≤ maxLen) :
    Calls Try.prog 3 #[.int .i64 room, .int .i64 other, .slice a len cap] w fun e w' => e = .returned (.bool true) ∧ Below w.heap.size w w' := by
  have HE1 : Hid (0 < len → a = some ⟨bb, oo, none⟩) := e1
  have HE2 : Hid (∀ i, i < len → ∃ kind n tn ba bl bc l k keep, OpM w bb (oo + i * 6) kind n tn ba bl bc l k keep) := e2
  have jlen : (len : Int) ≤ 9223372036854775807 := by unfold maxLen at e3; omega
  clear e1 e2 e3
  go_enter Try.func3, Try.ntmps3
  go_wp2_with (fail)
  refine (shown_any w).mono ?_
  rintro e w1 ⟨rfl, hb1⟩
  have B1h : Hid (Below w.heap.size w w1) := hb1
  clear hb1
  go_wp2_with (fail)
  refine (new_any room hro.2 w1).mono ?_
  rintro e w2 ⟨rfl, ha, hb2⟩
  obtain ⟨s1, hs1⟩ : ∃ s1, s1 = w1.heap.size := ⟨_, rfl⟩
  rw [← hs1] at ha ⊢
  have HA : Hid (DkW w2 (s1 + 1) s1 (fun k => k = s1 ∨ k = s1 + 1) (fun _ => .slice none 0 0) none (newD room)) := ha
  have B2h : Hid (Below w1.heap.size w1 w2) := hb2
  have HS1 : Hid (s1 = w1.heap.size) := hs1
  clear ha hb2 hs1
  obtain ⟨b1, hb1'⟩ : ∃ b1, b1 = s1 + 1 := ⟨_, rfl⟩
  rw [← hb1'] at HA ⊢
  have HB1e : Hid (b1 = s1 + 1) := hb1'
  clear hb1'
  go_wp2_with (fail)
  refine (new_any other hot.2 w2).mono ?_
  rintro e w3 ⟨rfl, ha, hb2⟩
  obtain ⟨s2, hs2⟩ : ∃ s2, s2 = w2.heap.size := ⟨_, rfl⟩
  rw [← hs2] at ha ⊢
  obtain ⟨b2, hb2'⟩ : ∃ b2, b2 = s2 + 1 := ⟨_, rfl⟩
  rw [← hb2'] at ha ⊢
  have HA2 : Hid (DkW w3 b2 s2 (fun k => k = s2 ∨ k = b2) (fun _ => .slice none 0 0) none (newD other)) := ha
  have B3h : Hid (Below w2.heap.size w2 w3) := hb2
  have HS2 : Hid (s2 = w2.heap.size ∧ b2 = s2 + 1) := ⟨hs2, hb2'⟩
  clear ha hb2 hs2 hb2'
  go_wp2_with (fail)
  refine (rnew_any room hro.2 w3).mono ?_
  rintro e w4 ⟨rfl, ha, hb2⟩
  obtain ⟨s3, hs3⟩ : ∃ s3, s3 = w3.heap.size := ⟨_, rfl⟩
  rw [← hs3] at ha ⊢
  have HA3 : Hid (RkW w4 s3 (fun k => k = s3) (.slice none 0 0) [] (newD room)) := ha
  have B4h : Hid (Below w3.heap.size w3 w4) := hb2
  have HS3 : Hid (s3 = w3.heap.size) := hs3
  clear ha hb2 hs3
  go_wp2_with (fail)
  refine (rnew_any other hot.2 w4).mono ?_
  rintro e w5 ⟨rfl, ha, hb2⟩
  obtain ⟨s4, hs4⟩ : ∃ s4, s4 = w4.heap.size := ⟨_, rfl⟩
  rw [← hs4] at ha ⊢
  have q21 := B2h.out.size
  have q32 := B3h.out.size
  have q43 := B4h.out.size
  have q54 := hb2.size
  have l1 := HA.out.lt b1 (.inr rfl)
  have l2 := HA2.out.lt b2 (.inr rfl)
  have l3 := HA3.out.lt s3 rfl
  have z1 := HS1.out
  have z2 := HS2.out
  have z3 := HS3.out
  have z4 := HB1e.out
  have z5 := B1h.out.size
  have HQ : Hid (Quad w w5 b1 s1 s3 b2 s2 s4 (fun k => k = s1 ∨ k = b1) (fun k => k = s3) (fun k => k = s2 ∨ k = b2) (fun k => k = s4) (newD room) (newD other)) := by
    have r54 : Below w4.heap.size w4 w5 := hb2
    have r53 : Below w3.heap.size w3 w5 := B4h.out.trans (r54.mono q43)
    have r52 : Below w2.heap.size w2 w5 := B3h.out.trans (r53.mono q32)
    refine ⟨⟨⟨_, HA.out.below r52⟩, ⟨_, _, HA3.out.below r54⟩, ?_⟩, ⟨⟨_, HA2.out.below r53⟩, ⟨_, _, ha⟩, ?_⟩, ?_, ?_, ?_, B1h.out.trans ((B2h.out.trans (r52.mono q21)).mono z5)⟩
    · intro k hk hk2; omega
    · intro k hk hk2; omega
    · intro k hk hk2; omega
    · intro k hk; omega
    · intro k hk; omega
  clear ha hb2 hs4 q21 q32 q43 q54 l1 l2 l3 z1 z2 z3 z4 z5 HA HA2 HA3 B1h B2h B3h B4h HS1 HS2 HS3 HB1e
  go_wp2_with (fail)
  go_loopw [12] (fun i wr => ∃ (j : Nat) (A1 A2 B1 B2 : Nat → Prop) (dx dy : Dk), i = .int .i64 (j : Int) ∧ j ≤ len ∧ j ≤ 100 ∧ Hid (Quad w wr b1 s1 s3 b2 s2 s4 A1 A2 B1 B2 dx dy) ∧ Hid (Bd (3000 * j) j dx.files ∧ Bd (3000 * j) j dy.files)) (fun i _ => len - (intOf i).toNat)
  case atStart => exact ⟨0, _, _, _, _, _, _, rfl, Nat.zero_le _, by omega, HQ, ⟨⟨Nat.zero_le _, Nat.zero_le _⟩, ⟨Nat.zero_le _, Nat.zero_le _⟩⟩⟩
  case round =>
    obtain ⟨j, A1, A2, B1, B2, dx, dy, rfl, hjl, hj1, HQr, HBd⟩ := hrel
    by_cases hlt : j < len
    · have dlt : decide ((j : Int) < (len : Int)) = true := by simpa using hlt
      have hlt' : (j : Int) < (len : Int) := by omega
      by_cases h100 : j < 100
      · have d100 : decide ((j : Int) < 100) = true := by simp; omega
        have h100' : (j : Int) < 100 := by omega
        have hae := HE1.out (by omega)
        subst hae
        obtain ⟨kind, n, tn, ba, bl, bc, l, k, keep, hop⟩ := HE2.out j hlt
        have HOp : Hid (OpM w bb (oo + j * 6) kind n tn ba bl bc l k keep) := hop
        have hbel := HQr.out.below
        have p0 : wr.cell? ⟨bb, oo + j * 6, none⟩ = some (.int .i64 kind) := (hbel.cell (World.block_lt_of_cell? w _ hop.c0)).trans hop.c0
        have p1 : wr.cell? ⟨bb, oo + j * 6 + 1, none⟩ = some (strN n) := (hbel.cell (World.block_lt_of_cell? w _ hop.c1)).trans hop.c1
        have p2 : wr.cell? ⟨bb, oo + j * 6 + 2, none⟩ = some (strN tn) := (hbel.cell (World.block_lt_of_cell? w _ hop.c2)).trans hop.c2
        have p3 : wr.cell? ⟨bb, oo + j * 6 + 3, none⟩ = some (.slice ba bl bc) := (hbel.cell (World.block_lt_of_cell? w _ hop.c3)).trans hop.c3
        have p4 : wr.cell? ⟨bb, oo + j * 6 + 4, none⟩ = some (.int .i64 k) := (hbel.cell (World.block_lt_of_cell? w _ hop.c4)).trans hop.c4
        have p5 : wr.cell? ⟨bb, oo + j * 6 + 5, none⟩ = some (.int .u64 (keep : Int)) := (hbel.cell (World.block_lt_of_cell? w _ hop.c5)).trans hop.c5
        have hl3 : (l.take 3000).length ≤ 3000 := by rw [List.length_take]; exact Nat.min_le_left _ _
        have HJ : Hid (3000 * j + 3000 ≤ 1000000 ∧ j + 1 ≤ 101) := ⟨by omega, by omega⟩
        clear hop hbel
        by_cases h3 : j % 3 = 2
        · have hm3 : (j : Int).tmod 3 = 2 := by rw [Int.tmod_eq_emod_of_nonneg (by omega)]; omega
          obtain ⟨sly, hcy⟩ := HQr.out.y.code
          have HDo := (show Hid (Calls _ _ _ _ _) from does_any HQr.out.y HQr.out.below HQr.out.geB kind HOp.out.kd n tn HOp.out.hn HOp.out.ht ba bl bc l HOp.out.row HOp.out.cap HOp.out.len k HOp.out.hk keep HOp.out.kp (by have := HBd.out.2.1; have := HJ.out; omega) (by have := HBd.out.2.2; have := HJ.out; omega))
          have HBn : Hid (Bd (3000 * (j + 1)) (j + 1) dx.files ∧ Bd (3000 * (j + 1)) (j + 1) (stepD dy kind n tn (l.take 3000) k keep).files) := ⟨HBd.out.1.more (by omega) (by omega), (bd_step hcy.ok HBd.out.2 kind n tn hl3 k keep).more (by omega) (by omega)⟩
          generalize stepD dy kind n tn (l.take 3000) k keep = dn at *
          clear hcy hl3 HBd h3
          go_wp2_with (fail)
          refine HDo.out.mono ?_
          intro e w6 hq
          obtain ⟨rfl, hq2⟩ := hq
          obtain ⟨T1, T2, hqq⟩ := HQr.out.swap.step hq2
          have HQ6 : Hid (Quad w w6 b1 s1 s3 b2 s2 s4 A1 A2 T1 T2 dx dn) := hqq.swap
          clear hq2 hqq
          go_wp2_with (fail)
          refine (same_any HQ6.out.x).mono ?_
          rintro e w7 ⟨rfl, hb7⟩
          have HQ7 : Hid (Quad w w7 b1 s1 s3 b2 s2 s4 A1 A2 T1 T2 dx dn) := HQ6.out.same hb7
          clear hb7
          go_wp2_with (fail)
          refine (same_any HQ7.out.y).mono ?_
          rintro e w8 ⟨rfl, hb8⟩
          have HQ8 : Hid (Quad w w8 b1 s1 s3 b2 s2 s4 A1 A2 T1 T2 dx dn) := HQ7.out.same hb8
          clear hb8
          go_wp2_with (fail)
          go_roundw
          case rel => exact ⟨j + 1, A1, A2, T1, T2, dx, dn, by go_num, by omega, by omega, HQ8, HBn⟩
          case measure => simp [intOf]; omega
        · obtain ⟨jm, hjm⟩ : ∃ jm : Nat, jm = j % 3 := ⟨_, rfl⟩
          have hm3 : (j : Int).tmod 3 = (jm : Int) := by rw [Int.tmod_eq_emod_of_nonneg (by omega)]; omega
          have hmb : ((jm : Int) == 2) = false := by simp; omega
          obtain ⟨slx, hcx⟩ := HQr.out.x.code
          have HDo := (show Hid (Calls _ _ _ _ _) from does_any HQr.out.x HQr.out.below HQr.out.geA kind HOp.out.kd n tn HOp.out.hn HOp.out.ht ba bl bc l HOp.out.row HOp.out.cap HOp.out.len k HOp.out.hk keep HOp.out.kp (by have := HBd.out.1.1; have := HJ.out; omega) (by have := HBd.out.1.2; have := HJ.out; omega))
          have HBn : Hid (Bd (3000 * (j + 1)) (j + 1) (stepD dx kind n tn (l.take 3000) k keep).files ∧ Bd (3000 * (j + 1)) (j + 1) dy.files) := ⟨(bd_step hcx.ok HBd.out.1 kind n tn hl3 k keep).more (by omega) (by omega), HBd.out.2.more (by omega) (by omega)⟩
          generalize stepD dx kind n tn (l.take 3000) k keep = dn at *
          clear hcx hl3 HBd h3 hjm
          go_wp2_with (fail)
          refine HDo.out.mono ?_
          intro e w6 hq
          obtain ⟨rfl, hq2⟩ := hq
          obtain ⟨T1, T2, hqq⟩ := HQr.out.step hq2
          have HQ6 : Hid (Quad w w6 b1 s1 s3 b2 s2 s4 T1 T2 B1 B2 dn dy) := hqq
          clear hq2 hqq
          go_wp2_with (fail)
          refine (same_any HQ6.out.x).mono ?_
          rintro e w7 ⟨rfl, hb7⟩
          have HQ7 : Hid (Quad w w7 b1 s1 s3 b2 s2 s4 T1 T2 B1 B2 dn dy) := HQ6.out.same hb7
          clear hb7
          go_wp2_with (fail)
          refine (same_any HQ7.out.y).mono ?_
          rintro e w8 ⟨rfl, hb8⟩
          have HQ8 : Hid (Quad w w8 b1 s1 s3 b2 s2 s4 T1 T2 B1 B2 dn dy) := HQ7.out.same hb8
          clear hb8
          go_wp2_with (fail)
          go_roundw
          case rel => exact ⟨j + 1, T1, T2, B1, B2, dn, dy, by go_num, by omega, by omega, HQ8, HBn⟩
          case measure => simp [intOf]; omega
      · have d100 : decide ((j : Int) < 100) = false := by simp; omega
        have h100' : ¬ (j : Int) < 100 := by omega
        go_wp2_with (fail)
        go_ret
        exact ⟨rfl, HQr.out.below⟩
    · have dlt : decide ((j : Int) < (len : Int)) = false := by simpa using hlt
      have hlt' : ¬ (j : Int) < (len : Int) := by omega
      go_wp2_with (fail)
      go_ret
      exact ⟨rfl, HQr.out.below⟩
end Go.Proofs.Ytmkgaegodemglaa
