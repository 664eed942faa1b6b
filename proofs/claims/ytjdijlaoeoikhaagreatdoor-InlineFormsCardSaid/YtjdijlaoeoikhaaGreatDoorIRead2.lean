/- Package inline: readBlanks, readCode; walked. -/
import Derived.Test.YtjdijlaoeoikhaaGreatDoorG38
import Derived.Test.YtjdijlaoeoikhaaGreatDoorG40
import Derived.Test.YtjdijlaoeoikhaaGreatDoorSRaw
set_option linter.unusedVariables false
namespace Go.Proofs.YtjdijlaoeoikhaaGreatDoor
open Go.RowKit

/-- What the library's tables hold. -/
def Glob (w : World) : Prop := ML w ∧ Lib.Utf8Tabs 1 2 w ∧ 3 ≤ w.heap.size
theorem Glob.below {B : Nat} {w w' : World} (h : Glob w) (hB : 3 ≤ B) (hb : Below B w w') : Glob w' := by
  obtain ⟨⟨m, h1⟩, h2, h3⟩ := h
  exact ⟨⟨m, (hb.cell (show (⟨0, 0, none⟩ : Addr).block < B from by show 0 < B; omega)).trans h1⟩, u8_below h2 (hb.mono hB) (Nat.le_refl _), Nat.le_trans h3 hb.size⟩
theorem Glob.at {w : World} (h : Glob w) (u : BwI w) : Glob u.wo := h.below h.2.2 u.is

theorem wrap_small {x : Int} (h1 : 0 ≤ x) (h2 : x ≤ 9223372036854775807) : IntKind.i64.wrap x = x := by
  unfold IntKind.wrap
  simp [IntKind.signed, IntKind.bits]
  omega

theorem blanks_step (l : Str8) (r : Rd) (df : List Df8) {c : UInt8} {T : Str8} (hd : l.drop r.at0 = c :: T) (hc : c = 32 ∨ c = 10) : r.step l df = if ((c :: T).drop (rowI (· == 32) (c :: T))).head? ≠ some 10 then r.pass (rowI (· == 32) (c :: T)) else if rowI (· == 32) (c :: T) < 2 then r.addBreak l 1 (rowI (· == 32) (c :: T)) else r.addBreak l 2 (rowI (· == 32) (c :: T)) := by
  unfold Rd.step
  rw [hd]
  rcases hc with rfl | rfl <;> rfl

set_option maxHeartbeats 4000000 in
set_option maxRecDepth 20000 in
theorem iblanks_any {G : Nat → Obj → Prop} {B m n rb : Nat} {l : Str8} {look : Str8 → Option Df8} {w : World} {vp vo : Value} {xs : List Value} {r : Rd} (h : RdR G B l m n look w rb vp vo xs r) (ho : r.Ok l) (hl : l.length ≤ 1073741824) (df : List Df8) {c : UInt8} {T : Str8} (hd : l.drop r.at0 = c :: T) (hcc : c = 32 ∨ c = 10) :
    Calls Tryz.prog 19 #[ptrB rb] w fun e w' => LeftR G B l m n look w rb (r.step l df) e w' := by
  have hBw : B ≤ w.heap.size := Nat.le_trans h.base (Nat.le_of_lt (blk.lt_of_block h.blk))
  have HR : Hid (∀ u : BwI w, RdR G B l m n look u.wo rb vp vo xs r) := fun u => h.below u.is
  have HBu : Hid (∀ u : BwI w, Below B w u.wo) := fun u => u.is.mono hBw
  have c0 := fun u : BwI w => (HR.out u).c.1
  have c1 := fun u : BwI w => (HR.out u).c.2.1
  have hbs := h.base
  have hli : (l.length : Int) ≤ 1073741824 := by omega
  rw [blanks_step l r df hd hcc]
  obtain ⟨hT, hat, hlen⟩ := drop_next hd
  obtain ⟨R, hR⟩ : ∃ R, R = c :: T := ⟨_, rfl⟩
  rw [← hR] at hd ⊢
  have hRl : r.at0 + R.length = l.length := by rw [hR, List.length_cons]; omega
  have o1 := from_is l r.at0 (by omega) (by omega)
  rw [hd] at o1
  obtain ⟨k, hk⟩ : ∃ k, k = rowI (· == 32) R := ⟨_, rfl⟩
  have hkl : k ≤ R.length := by rw [hk]; exact rowI_le _ _
  have o2 := from_is l (r.at0 + k) (by omega) (by omega)
  have hc : ((r.at0 + k : Nat) : Int) = (r.at0 : Int) + (k : Int) := by omega
  have hdk : l.drop (r.at0 + k) = R.drop k := by rw [← List.drop_drop, hd]
  rw [hc, hdk] at o2
  rw [← hk]
  have HRow : Hid (∀ u : BwI w, Calls Tryz.prog 31 #[strI R, .string ⟨#[32]⟩] u.wo fun e w' => e = .returned (.int .i64 (k : Int)) ∧ ∃ u' : BwI w, w' = u'.wo) := fun u => by
    rw [hk]
    exact (irow_any R (by omega) [32] (by decide) (by decide) (· == 32) blank_is u.wo).mono fun e w' q => ⟨q.1, BwI.of (u.is.trans (q.2.mono u.is.size)), rfl⟩
  obtain ⟨K, hK⟩ : ∃ K, K = R.drop k := ⟨_, rfl⟩
  have HH0 : Hid (∀ u : BwI w, Calls Tryz.prog 28 #[.string ⟨K.toArray⟩, .string ⟨#[10]⟩] u.wo fun e w' => e = .returned (.bool (K.head? == some 10)) ∧ ∃ u' : BwI w, w' = u'.wo) := fun u => (ihas_any K 10 u.wo).mono fun e w' q => ⟨q.1, u, q.2⟩
  rw [← hK] at o2 ⊢
  have hkb : K.head? = some 10 → r.at0 + k + 1 ≤ l.length := fun q => by
    have hne : k < R.length := by
      rcases Nat.lt_or_ge k R.length with x | x
      · exact x
      · rw [hK, List.drop_of_length_le x] at q; cases q
    omega
  have hki : (r.at0 : Int) + (k : Int) ≤ (l.length : Int) := by omega
  clear h hd hT hR hk hdk hK hlen hcc
  by_cases h10 : K.head? = some 10
  · rw [if_neg (fun q => q h10)]
    have HH : Hid (∀ u : BwI w, Calls Tryz.prog 28 #[.string ⟨K.toArray⟩, .string ⟨#[10]⟩] u.wo fun e w' => e = .returned (.bool true) ∧ ∃ u' : BwI w, w' = u'.wo) := fun u => by have := HH0.out u; rw [h10] at this; exact this
    have hk1 := hkb h10
    clear hkb h10 HH0
    by_cases h2 : k < 2
    · rw [if_pos h2]
      have h2i : (k : Int) < 2 := by omega
      have HA : Hid (∀ u : BwI w, Calls Tryz.prog 29 #[ptrB rb, .int .i64 1, .int .i64 (k : Int)] u.wo fun e w' => LeftR G B l m n look u.wo rb (r.addBreak l 1 k) e w') := fun u => ibreak_any (HR.out u) ho hl 1 k hk1
      clear h2
      go_enter Tryz.func19, Tryz.ntmps19
      go_wp2
      refine region_classI (fun w' => ∃ u : BwI w, w' = u.wo) (by kernel_rfl) (by kernel_rfl) (BwI.first w) ?_
      haveI := BwI.some w
      repeat (go_big_quiet_step (first | (go_at_call 31; exact HRow.out _) | exact rfl))
      refine wpQuiet_nil ?_
      intro _ hw'
      obtain ⟨u, hu⟩ := hw'
      subst hu
      (try simp only [Exit.then])
      go_wp2
      refine region_classI (fun w' => ∃ u : BwI w, w' = u.wo) (by kernel_rfl) (by kernel_rfl) ⟨BwI.of (w := u.wo.drew) (u.is.trans ⟨rfl, rfl, rfl, Nat.le_refl _, fun _ _ => rfl⟩), rfl⟩ ?_
      haveI := BwI.some w
      repeat (go_big_quiet_step (first | (go_at_call 28; exact HH.out _) | exact rfl))
      refine wpQuiet_nil ?_
      intro _ hw'
      obtain ⟨u2, hu⟩ := hw'
      subst hu
      have HB := (show Hid _ from HBu.out u2)
      (try simp only [Exit.then])
      go_wp2_with (go_at_call 29; refine Calls.mono (HA.out u2) ?_; rintro e u3 ⟨rfl, h1, h2⟩)
      go_end0
      exact ⟨rfl, h1, HB.out.trans h2⟩
    · rw [if_neg h2]
      have h2i : ¬ (k : Int) < 2 := by omega
      have HA : Hid (∀ u : BwI w, Calls Tryz.prog 29 #[ptrB rb, .int .i64 2, .int .i64 (k : Int)] u.wo fun e w' => LeftR G B l m n look u.wo rb (r.addBreak l 2 k) e w') := fun u => ibreak_any (HR.out u) ho hl 2 k hk1
      clear h2
      go_enter Tryz.func19, Tryz.ntmps19
      go_wp2
      refine region_classI (fun w' => ∃ u : BwI w, w' = u.wo) (by kernel_rfl) (by kernel_rfl) (BwI.first w) ?_
      haveI := BwI.some w
      repeat (go_big_quiet_step (first | (go_at_call 31; exact HRow.out _) | exact rfl))
      refine wpQuiet_nil ?_
      intro _ hw'
      obtain ⟨u, hu⟩ := hw'
      subst hu
      (try simp only [Exit.then])
      go_wp2
      refine region_classI (fun w' => ∃ u : BwI w, w' = u.wo) (by kernel_rfl) (by kernel_rfl) ⟨BwI.of (w := u.wo.drew) (u.is.trans ⟨rfl, rfl, rfl, Nat.le_refl _, fun _ _ => rfl⟩), rfl⟩ ?_
      haveI := BwI.some w
      repeat (go_big_quiet_step (first | (go_at_call 28; exact HH.out _) | exact rfl))
      refine wpQuiet_nil ?_
      intro _ hw'
      obtain ⟨u2, hu⟩ := hw'
      subst hu
      have HB := (show Hid _ from HBu.out u2)
      (try simp only [Exit.then])
      go_wp2_with (go_at_call 29; refine Calls.mono (HA.out u2) ?_; rintro e u3 ⟨rfl, h1, h2⟩)
      go_end0
      exact ⟨rfl, h1, HB.out.trans h2⟩
  · rw [if_pos h10]
    have hb : (K.head? == some 10) = false := by simpa using h10
    have HH : Hid (∀ u : BwI w, Calls Tryz.prog 28 #[.string ⟨K.toArray⟩, .string ⟨#[10]⟩] u.wo fun e w' => e = .returned (.bool false) ∧ ∃ u' : BwI w, w' = u'.wo) := fun u => by have := HH0.out u; rw [hb] at this; exact this
    clear h10 hb hkb HH0
    go_enter Tryz.func19, Tryz.ntmps19
    go_wp2
    refine region_classI (fun w' => ∃ u : BwI w, w' = u.wo) (by kernel_rfl) (by kernel_rfl) (BwI.first w) ?_
    haveI := BwI.some w
    repeat (go_big_quiet_step (first | (go_at_call 31; exact HRow.out _) | exact rfl))
    refine wpQuiet_nil ?_
    intro _ hw'
    obtain ⟨u, hu⟩ := hw'
    subst hu
    (try simp only [Exit.then])
    go_wp2
    refine region_classI (fun w' => ∃ u : BwI w, w' = u.wo) (by kernel_rfl) (by kernel_rfl) ⟨BwI.of (w := u.wo.drew) (u.is.trans ⟨rfl, rfl, rfl, Nat.le_refl _, fun _ _ => rfl⟩), rfl⟩ ?_
    haveI := BwI.some w
    repeat (go_big_quiet_step (first | (go_at_call 28; exact HH.out _) | exact rfl))
    refine wpQuiet_nil ?_
    intro _ hw'
    obtain ⟨u2, hu⟩ := hw'
    subst hu
    have hRV := HR.out u2
    have HBV := (show Hid (Below _ _ _) from HBu.out u2)
    generalize u2.wo = V at *
    clear HR HBu c0 c1
    have e1 := hRV.c.2.1
    have e2 := hRV.f 1
    have HF := (show Hid (RdR _ _ _ _ _ _ _ _ _ _ _ _) from hRV.num.1 (r.at0 + k))
    have hsum : ((r.at0 + k : Nat) : Int) = (r.at0 : Int) + (k : Int) := by omega
    rw [hsum] at HF
    clear hRV hsum
    (try simp only [Exit.then])
    go_wp2
    go_end0
    exact ⟨rfl, ⟨_, _, _, HF.out⟩, blk.below_set HBV.out hbs⟩

theorem tick_is : (fun b => ([96] : Str8).contains b) = (· == 96) := by
  funext b
  rw [List.contains_cons]
  simp
theorem code_step (l : Str8) (r : Rd) (df : List Df8) {T : Str8} (hd : l.drop r.at0 = 96 :: T) : r.step l df = match codeL (96 :: T) with
      | some (x, n) => r.add l { i := { kind := 3, text := x } } n
      | none => r.pass (rowI (· == 96) (96 :: T)) := by
  unfold Rd.step
  rw [hd]
  rfl

set_option maxHeartbeats 4000000 in
set_option maxRecDepth 20000 in
theorem icode_any {G : Nat → Obj → Prop} {B m n rb : Nat} {l : Str8} {look : Str8 → Option Df8} {w : World} {vp vo : Value} {xs : List Value} {r : Rd} (h : RdR G B l m n look w rb vp vo xs r) (ho : r.Ok l) (hl : l.length ≤ 1073741824) (hg : Glob w) (df : List Df8) {T : Str8} (hd : l.drop r.at0 = 96 :: T) :
    Calls Tryz.prog 20 #[ptrB rb] w fun e w' => LeftR G B l m n look w rb (r.step l df) e w' := by
  have hBw : B ≤ w.heap.size := Nat.le_trans h.base (Nat.le_of_lt (blk.lt_of_block h.blk))
  have HR : Hid (∀ u : BwI w, RdR G B l m n look u.wo rb vp vo xs r) := fun u => h.below u.is
  have HBu : Hid (∀ u : BwI w, Below B w u.wo) := fun u => u.is.mono hBw
  have c0 := fun u : BwI w => (HR.out u).c.1
  have c1 := fun u : BwI w => (HR.out u).c.2.1
  have hbs := h.base
  have hli : (l.length : Int) ≤ 1073741824 := by omega
  rw [code_step l r df hd]
  obtain ⟨hT, hat, hlen⟩ := drop_next hd
  obtain ⟨R, hR⟩ : ∃ R, R = 96 :: T := ⟨_, rfl⟩
  rw [← hR] at hd ⊢
  have hRl : r.at0 + R.length = l.length := by rw [hR, List.length_cons]; omega
  have o1 := from_is l r.at0 (by omega) (by omega)
  rw [hd] at o1
  have HC : Hid (∀ u : BwI w, Calls Tryz.prog 32 #[.string ⟨R.toArray⟩] u.wo fun e w' => e = .returned (codeV (codeL R)) ∧ Below u.wo.heap.size u.wo w') := fun u => by
    have := code_any ⟨R.toArray⟩ (by rw [size_list]; omega) u.wo (hg.at u).1
    rw [list_data] at this
    exact this
  clear h hd hT hR hlen hg
  cases hcd : codeL R with
  | none =>
    rw [hcd] at HC
    obtain ⟨k, hk⟩ : ∃ k, k = rowI (· == 96) R := ⟨_, rfl⟩
    have hkl : k ≤ R.length := by rw [hk]; exact rowI_le _ _
    have HRow : Hid (∀ u : World, Calls Tryz.prog 31 #[.string ⟨R.toArray⟩, .string ⟨#[96]⟩] u fun e w' => e = .returned (.int .i64 (k : Int)) ∧ Below u.heap.size u w') := fun u => by
      rw [hk]
      exact irow_any R (by omega) [96] (by decide) (by decide) (· == 96) tick_is u
    show Calls _ _ _ _ fun e w' => LeftR G B l m n look w rb (r.pass (rowI (· == 96) R)) e w'
    rw [← hk]
    have hki : (r.at0 : Int) + (k : Int) ≤ (l.length : Int) := by omega
    have HCn : Hid (∀ u : BwI w, Calls Tryz.prog 32 #[.string ⟨R.toArray⟩] u.wo fun e w' => e = .returned (.tuple #[.string ⟨#[]⟩, .int .i64 0]) ∧ Below u.wo.heap.size u.wo w') := HC
    clear hk hcd HC
    go_enter Tryz.func20, Tryz.ntmps20
    go_wp2
    refine region_classI (fun w' => ∃ u : BwI w, w' = u.wo) (by kernel_rfl) (by kernel_rfl) (BwI.first w) ?_
    haveI := BwI.some w
    repeat (go_big_quiet_step (first | exact rfl))
    refine wpQuiet_nil ?_
    intro _ hw'
    obtain ⟨u, hu⟩ := hw'
    subst hu
    (try simp only [Exit.then])
    go_wp2_with (go_at_call 32; refine Calls.mono (HCn.out u) ?_; rintro e w1 ⟨rfl, hb1⟩; have hw1 : Below w.heap.size w w1 := u.is.trans (hb1.mono u.is.size))
    obtain ⟨v1, hv1⟩ : ∃ v1 : BwI w, w1 = v1.wo := ⟨BwI.of hw1, rfl⟩
    subst hv1
    clear hb1 hw1
    have d1 := fun u : BwI w => (HR.out u).c.2.1
    have d2 := fun u : BwI w => (HR.out u).f 1
    have hwrap : IntKind.i64.wrap ((r.at0 : Int) + (k : Int)) = (r.at0 : Int) + (k : Int) := wrap_small (by omega) (by omega)
    go_region_with (go_at_call 31; refine Calls.mono (HRow.out _) ?_; rintro e w2 ⟨rfl, hb2⟩; have hw2 : Below w.heap.size w w2 := v1.is.trans ((Below.trans (Below.drew (Below.refl v1.wo.heap.size v1.wo)) hb2).mono v1.is.size); obtain ⟨v2, hv2⟩ := (show ∃ v2 : BwI w, w2 = v2.wo from ⟨BwI.of hw2, rfl⟩); subst hv2; clear hb2 hw2)
    all_goals
      have HF := (show Hid (RdR _ _ _ _ _ _ _ _ _ _ _ _) from (HR.out v2).num.1 (r.at0 + k))
      have hsum : ((r.at0 + k : Nat) : Int) = (r.at0 : Int) + (k : Int) := by omega
      rw [hsum] at HF
      have HB := (show Hid _ from HBu.out v2)
      clear hsum
      (try simp only [Exit.then])
      go_wp2
      go_end0
      exact ⟨rfl, ⟨_, _, _, HF.out⟩, blk.below_set HB.out hbs⟩
  | some q =>
    obtain ⟨x, z⟩ := q
    rw [hcd] at HC
    obtain ⟨hz1, hz2, _⟩ := code_front hcd
    have HCs : Hid (∀ u : BwI w, Calls Tryz.prog 32 #[.string ⟨R.toArray⟩] u.wo fun e w' => e = .returned (.tuple #[.string ⟨x.toArray⟩, .int .i64 (z : Int)]) ∧ Below u.wo.heap.size u.wo w') := HC
    have HA : Hid (∀ u : BwI w, Calls Tryz.prog 33 #[ptrB rb, .agg #[.int .i64 3, .string ⟨x.toArray⟩, .string ⟨#[]⟩, .string ⟨#[]⟩, .slice none 0 0, .int .u8 0, .int .i64 0, .bool false, .bool false], .int .i64 (z : Int)] u.wo fun e w' => e = .returned (.tuple #[]) ∧ (∃ vp' xs', RdR G B l m n look w' rb vp' vo xs' (r.add l { i := { kind := 3, text := x } } z)) ∧ Below B u.wo w') := fun u => iadd_any (HR.out u) ho hl { i := { kind := 3, text := x } } z (by omega) none 0 0 (ys := []) (World.ownsRow_nil _ _ _ _) rfl
    show Calls _ _ _ _ fun e w' => LeftR G B l m n look w rb (r.add l { i := { kind := 3, text := x } } z) e w'
    have hzi : ((z : Int) > 0) := by omega
    clear hcd HC
    go_enter Tryz.func20, Tryz.ntmps20
    go_wp2
    refine region_classI (fun w' => ∃ u : BwI w, w' = u.wo) (by kernel_rfl) (by kernel_rfl) (BwI.first w) ?_
    haveI := BwI.some w
    repeat (go_big_quiet_step (first | exact rfl))
    refine wpQuiet_nil ?_
    intro _ hw'
    obtain ⟨u, hu⟩ := hw'
    subst hu
    (try simp only [Exit.then])
    go_wp2_with (first
      | (go_at_call 32; refine Calls.mono (HCs.out u) ?_; rintro e w1 ⟨rfl, hb1⟩; have hw1 : Below w.heap.size w w1 := u.is.trans (hb1.mono u.is.size); obtain ⟨v1, hv1⟩ := (show ∃ v1 : BwI w, w1 = v1.wo from ⟨BwI.of hw1, rfl⟩); subst hv1; clear hb1 hw1)
      | (go_at_call 33; refine Calls.mono (HA.out v1) ?_; rintro e u3 ⟨rfl, h1, h2⟩))
    go_end0
    obtain ⟨vp', xs', h1⟩ := h1
    exact ⟨rfl, ⟨_, _, _, h1⟩, (HBu.out v1).trans h2⟩

end Go.Proofs.YtjdijlaoeoikhaaGreatDoor
