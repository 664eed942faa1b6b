/- Several texts in one. -/
import Derived.Test.YtjdijlaoeoikhaaGreatDoorIRead2
import Derived.Test.YtjdijlaoeoikhaaGreatDoorSAuto2
import Derived.Test.YtjdijlaoeoikhaaGreatDoorG10
import Derived.Test.YtjdijlaoeoikhaaGreatDoorIDelOf
import Derived.Test.YtjdijlaoeoikhaaGreatDoorIApp
import Derived.Test.YtjdijlaoeoikhaaGreatDoorG29
set_option linter.unusedVariables false
/- Package inline: readAngle, readReference; walked. -/
namespace Go.Proofs.YtjdijlaoeoikhaaGreatDoor
open Go.RowKit

theorem to_is (l : Str8) (k : Nat) (hk : k ≤ l.length) (hl : l.length ≤ 140737488351232) : ∀ w', (Instr.slice 9 (.string ⟨l.toArray⟩) none (some (.int .i64 (k : Int))) none).run Tryz.prog w' = .ok (.string ⟨(l.take k).toArray⟩) w' := fun w' => by
  have x1 : (ByteArray.mk l.toArray).extract 0 k = ⟨(l.take k).toArray⟩ := by rw [extract_eq, list_data]; rfl
  rw [run_slice_string_to_if w' 9 _ .i64 (k : Int) Tryz.underlying9, if_pos (by rw [size_list]; omega), Int.toNat_natCast, x1]

theorem angle_step (l : Str8) (r : Rd) (df : List Df8) {T : Str8} (hd : l.drop r.at0 = 60 :: T) : r.step l df = match autoL (60 :: T) with
      | some (d, x, n) => r.add l { i := { kind := 6, dest := d }, kids := .cons { text := x } .nil .nil } n
      | none => if 0 < rawN (60 :: T) then r.add l { i := { kind := 8, text := (60 :: T).take (rawN (60 :: T)) } } (rawN (60 :: T)) else r.pass 1 := by
  unfold Rd.step
  rw [hd]
  rfl

set_option maxHeartbeats 4000000 in
set_option maxRecDepth 20000 in
theorem iangle_any {G : Nat → Obj → Prop} {B m n rb : Nat} {l : Str8} {look : Str8 → Option Df8} {w : World} {vp vo : Value} {xs : List Value} {r : Rd} (h : RdR G B l m n look w rb vp vo xs r) (ho : r.Ok l) (hl : l.length ≤ 1073741824) (hg : Glob w) (df : List Df8) {T : Str8} (hd : l.drop r.at0 = 60 :: T) :
    Calls Tryz.prog 21 #[ptrB rb] w fun e w' => LeftR G B l m n look w rb (r.step l df) e w' := by
  have hBw : B ≤ w.heap.size := Nat.le_trans h.base (Nat.le_of_lt (blk.lt_of_block h.blk))
  have HR : Hid (∀ u : BwI w, RdR G B l m n look u.wo rb vp vo xs r) := fun u => h.below u.is
  have HBu : Hid (∀ u : BwI w, Below B w u.wo) := fun u => u.is.mono hBw
  have c0 := fun u : BwI w => (HR.out u).c.1
  have c1 := fun u : BwI w => (HR.out u).c.2.1
  have hbs := h.base
  have hli : (l.length : Int) ≤ 1073741824 := by omega
  rw [angle_step l r df hd]
  obtain ⟨hT, hat, hlen⟩ := drop_next hd
  obtain ⟨R, hR⟩ : ∃ R, R = 60 :: T := ⟨_, rfl⟩
  rw [← hR] at hd ⊢
  have hRl : r.at0 + R.length = l.length := by rw [hR, List.length_cons]; omega
  have o1 := from_is l r.at0 (by omega) (by omega)
  rw [hd] at o1
  have HC : Hid (∀ u : BwI w, Calls Tryz.prog 34 #[.string ⟨R.toArray⟩] u.wo fun e w' => e = .returned (autoV (autoL R)) ∧ Below u.wo.heap.size u.wo w') := fun u => by
    have := auto_any ⟨R.toArray⟩ (by rw [size_list]; omega) u.wo (hg.at u).1
    rw [list_data] at this
    exact this
  have HW : Hid (∀ u : BwI w, Calls Tryz.prog 35 #[.string ⟨R.toArray⟩] u.wo fun e w' => e = .returned (.int .i64 (rawN R : Int)) ∧ Below u.wo.heap.size u.wo w') := fun u => by
    have := raw_any ⟨R.toArray⟩ (by rw [size_list]; omega) u.wo (hg.at u).1
    rw [list_data] at this
    exact this.mono fun e w' q => ⟨q.1, by obtain ⟨k, rfl⟩ := q.2; exact drewN_below _ _⟩
  have hrl := rawN_le R
  clear h hd hT hR hlen hg
  cases hau : autoL R with
  | some q =>
    obtain ⟨d, x, z⟩ := q
    rw [hau] at HC
    obtain ⟨hz1, hz2, _⟩ := auto_front hau
    have HCs : Hid (∀ u : BwI w, Calls Tryz.prog 34 #[.string ⟨R.toArray⟩] u.wo fun e w' => e = .returned (.tuple #[.string ⟨d.toArray⟩, .string ⟨x.toArray⟩, .int .i64 (z : Int)]) ∧ Below u.wo.heap.size u.wo w') := HC
    have HA : Hid (∀ u : BwI w, Calls Tryz.prog 33 #[ptrB rb, .agg #[.int .i64 6, .string ⟨#[]⟩, .string ⟨d.toArray⟩, .string ⟨#[]⟩, .slice (some ⟨u.wo.heap.size, 0, none⟩) 1 1, .int .u8 0, .int .i64 0, .bool false, .bool false], .int .i64 (z : Int)] (u.wo.alloc (.cells #[.int .i64 0, .string ⟨x.toArray⟩, .string ⟨#[]⟩, .string ⟨#[]⟩, .slice none 0 0] 32)) fun e w' => e = .returned (.tuple #[]) ∧ (∃ vp' xs', RdR G B l m n look w' rb vp' vo xs' (r.add l { i := { kind := 6, dest := d }, kids := .cons { text := x } .nil .nil } z)) ∧ Below B (u.wo.alloc (.cells #[.int .i64 0, .string ⟨x.toArray⟩, .string ⟨#[]⟩, .string ⟨#[]⟩, .slice none 0 0] 32)) w') := fun u => iadd_any ((HR.out u).below ((Below.refl _ _).alloc (Nat.le_refl _) _)) ho hl { i := { kind := 6, dest := d }, kids := .cons { text := x } .nil .nil } z (by omega) _ 1 1 (ys := iiCells { text := x } (.slice none 0 0)) (World.ownsRow_lit u.wo _ 1 (Nat.zero_le _) (by unfold maxLen; omega) rfl) ⟨.slice none 0 0, [], [], rfl, World.ownsRow_nil _ _ _ _, fun g hg => (by cases hg), rfl, rfl⟩
    show Calls _ _ _ _ fun e w' => LeftR G B l m n look w rb (r.add l { i := { kind := 6, dest := d }, kids := .cons { text := x } .nil .nil } z) e w'
    have hzi : ((z : Int) > 0) := by omega
    clear hau HC hz1 hz2
    go_enter Tryz.func21, Tryz.ntmps21
    go_wp2
    refine region_classI (fun w' => ∃ u : BwI w, w' = u.wo) (by kernel_rfl) (by kernel_rfl) (BwI.first w) ?_
    haveI := BwI.some w
    repeat (go_big_quiet_step (first | exact rfl))
    refine wpQuiet_nil ?_
    intro _ hw'
    obtain ⟨u, hu⟩ := hw'
    subst hu
    (try simp only [Exit.then])
    go_wp2_with (first
      | (go_at_call 34; refine Calls.mono (HCs.out u) ?_; rintro e w1 ⟨rfl, hb1⟩; have hw1 : Below w.heap.size w w1 := u.is.trans (hb1.mono u.is.size); obtain ⟨v1, hv1⟩ := (show ∃ v1 : BwI w, w1 = v1.wo from ⟨BwI.of hw1, rfl⟩); subst hv1; clear hb1 hw1)
      | (go_at_call 33; refine Calls.mono (HA.out v1) ?_; rintro e u3 ⟨rfl, h1, h2⟩))
    go_end0
    obtain ⟨vp', xs', h1⟩ := h1
    exact ⟨rfl, ⟨_, _, _, h1⟩, ((HBu.out v1).alloc (Nat.le_trans hBw v1.is.size) _).trans h2⟩
  | none =>
    rw [hau] at HC
    have HCn : Hid (∀ u : BwI w, Calls Tryz.prog 34 #[.string ⟨R.toArray⟩] u.wo fun e w' => e = .returned (.tuple #[.string ⟨#[]⟩, .string ⟨#[]⟩, .int .i64 0]) ∧ Below u.wo.heap.size u.wo w') := HC
    show Calls _ _ _ _ fun e w' => LeftR G B l m n look w rb (if 0 < rawN R then r.add l { i := { kind := 8, text := R.take (rawN R) } } (rawN R) else r.pass 1) e w'
    clear hau HC
    have o2 := to_is R (rawN R) hrl (by omega)
    generalize rawN R = z at *
    by_cases hz : 0 < z
    · rw [if_pos hz]
      have HA : Hid (∀ u : BwI w, Calls Tryz.prog 33 #[ptrB rb, .agg #[.int .i64 8, .string ⟨(R.take z).toArray⟩, .string ⟨#[]⟩, .string ⟨#[]⟩, .slice none 0 0, .int .u8 0, .int .i64 0, .bool false, .bool false], .int .i64 (z : Int)] u.wo fun e w' => e = .returned (.tuple #[]) ∧ (∃ vp' xs', RdR G B l m n look w' rb vp' vo xs' (r.add l { i := { kind := 8, text := R.take z } } z)) ∧ Below B u.wo w') := fun u => iadd_any (HR.out u) ho hl { i := { kind := 8, text := R.take z } } z (by omega) none 0 0 (ys := []) (World.ownsRow_nil _ _ _ _) rfl
      have hzi : ((z : Int) > 0) := by omega
      have hzl : (z : Int) ≤ (R.length : Int) := by omega
      generalize R.take z = Q at *
      go_enter Tryz.func21, Tryz.ntmps21
      go_wp2
      refine region_classI (fun w' => ∃ u : BwI w, w' = u.wo) (by kernel_rfl) (by kernel_rfl) (BwI.first w) ?_
      haveI := BwI.some w
      repeat (go_big_quiet_step (first | exact rfl))
      refine wpQuiet_nil ?_
      intro _ hw'
      obtain ⟨u, hu⟩ := hw'
      subst hu
      (try simp only [Exit.then])
      go_wp2_with (first
        | (go_at_call 34; refine Calls.mono (HCn.out u) ?_; rintro e w1 ⟨rfl, hb1⟩; have hw1 : Below w.heap.size w w1 := u.is.trans (hb1.mono u.is.size); obtain ⟨v1, hv1⟩ := (show ∃ v1 : BwI w, w1 = v1.wo from ⟨BwI.of hw1, rfl⟩); subst hv1; clear hb1 hw1)
        | (go_at_call 35; refine Calls.mono (HW.out v1) ?_; rintro e w2 ⟨rfl, hb2⟩; have hw2 : Below w.heap.size w w2 := v1.is.trans (hb2.mono v1.is.size); obtain ⟨v2, hv2⟩ := (show ∃ v2 : BwI w, w2 = v2.wo from ⟨BwI.of hw2, rfl⟩); subst hv2; have e1 := (HR.out v2).c.2.1; have e2 := (HR.out v2).f 1; clear hb2 hw2)
        | (go_at_call 33; refine Calls.mono (HA.out v2) ?_; rintro e u3 ⟨rfl, h1, h2⟩))
      go_end0
      obtain ⟨vp', xs', h1⟩ := h1
      exact ⟨rfl, ⟨_, _, _, h1⟩, (HBu.out v2).trans h2⟩
    · rw [if_neg hz]
      have hz0 : z = 0 := by omega
      subst hz0
      have hati : (r.at0 : Int) + 1 ≤ (l.length : Int) := by omega
      clear o2
      go_enter Tryz.func21, Tryz.ntmps21
      go_wp2
      refine region_classI (fun w' => ∃ u : BwI w, w' = u.wo) (by kernel_rfl) (by kernel_rfl) (BwI.first w) ?_
      haveI := BwI.some w
      repeat (go_big_quiet_step (first | exact rfl))
      refine wpQuiet_nil ?_
      intro _ hw'
      obtain ⟨u, hu⟩ := hw'
      subst hu
      (try simp only [Exit.then])
      go_wp2_with (first
        | (go_at_call 34; refine Calls.mono (HCn.out u) ?_; rintro e w1 ⟨rfl, hb1⟩; have hw1 : Below w.heap.size w w1 := u.is.trans (hb1.mono u.is.size); obtain ⟨v1, hv1⟩ := (show ∃ v1 : BwI w, w1 = v1.wo from ⟨BwI.of hw1, rfl⟩); subst hv1; clear hb1 hw1)
        | (go_at_call 35; refine Calls.mono (HW.out v1) ?_; rintro e w2 ⟨rfl, hb2⟩; have hw2 : Below w.heap.size w w2 := v1.is.trans (hb2.mono v1.is.size); obtain ⟨v2, hv2⟩ := (show ∃ v2 : BwI w, w2 = v2.wo from ⟨BwI.of hw2, rfl⟩); subst hv2; have e1 := (HR.out v2).c.2.1; have e2 := (HR.out v2).f 1; clear hb2 hw2))
      go_end0
      have HF := (HR.out v2).num.1 (r.at0 + 1)
      have hsum : ((r.at0 + 1 : Nat) : Int) = (r.at0 : Int) + 1 := by omega
      rw [hsum] at HF
      exact ⟨rfl, ⟨_, _, _, HF⟩, blk.below_set (HBu.out v2) hbs⟩

theorem ref_step (l : Str8) (r : Rd) (df : List Df8) {T : Str8} (hd : l.drop r.at0 = 38 :: T) : r.step l df = if (entity (38 :: T)).2 = 0 then r.pass 1 else r.add l { i := { text := (entity (38 :: T)).1 } } (entity (38 :: T)).2 := by
  unfold Rd.step
  rw [hd]
  rfl

set_option maxHeartbeats 4000000 in
set_option maxRecDepth 20000 in
theorem iref_any {G : Nat → Obj → Prop} {B m n rb : Nat} {l : Str8} {look : Str8 → Option Df8} {w : World} {vp vo : Value} {xs : List Value} {r : Rd} (h : RdR G B l m n look w rb vp vo xs r) (ho : r.Ok l) (hl : l.length ≤ 1073741824) (df : List Df8) {T : Str8} (hd : l.drop r.at0 = 38 :: T) :
    Calls Tryz.prog 22 #[ptrB rb] w fun e w' => LeftR G B l m n look w rb (r.step l df) e w' := by
  have hBw : B ≤ w.heap.size := Nat.le_trans h.base (Nat.le_of_lt (blk.lt_of_block h.blk))
  have HR : Hid (∀ u : BwI w, RdR G B l m n look u.wo rb vp vo xs r) := fun u => h.below u.is
  have HBu : Hid (∀ u : BwI w, Below B w u.wo) := fun u => u.is.mono hBw
  have c0 := fun u : BwI w => (HR.out u).c.1
  have c1 := fun u : BwI w => (HR.out u).c.2.1
  have hbs := h.base
  have hli : (l.length : Int) ≤ 1073741824 := by omega
  rw [ref_step l r df hd]
  obtain ⟨hT, hat, hlen⟩ := drop_next hd
  obtain ⟨R, hR⟩ : ∃ R, R = 38 :: T := ⟨_, rfl⟩
  rw [← hR] at hd ⊢
  have hRl : r.at0 + R.length = l.length := by rw [hR, List.length_cons]; omega
  have o1 := from_is l r.at0 (by omega) (by omega)
  rw [hd] at o1
  have HC0 : Hid (∀ u : BwI w, Calls Tryz.prog 36 #[strI R] u.wo fun e w' => e = .returned (.tuple #[.string ⟨(entity R).1.toArray⟩, .int .i64 ((entity R).2 : Nat)]) ∧ ∃ u' : BwI w, w' = u'.wo) := fun u => by
    have := esc.entity_any ⟨R.toArray⟩ (by rw [size_list]; omega) u.wo
    rw [list_data] at this
    exact this.mono fun e w' q => ⟨q.1, u, q.2.symm⟩
  have hel := esc.entity_len R
  clear h hd hT hR hlen
  generalize entity R = E at *
  obtain ⟨x, z⟩ := E
  have HC : Hid (∀ u : BwI w, Calls Tryz.prog 36 #[strI R] u.wo fun e w' => e = .returned (.tuple #[.string ⟨x.toArray⟩, .int .i64 (z : Int)]) ∧ ∃ u' : BwI w, w' = u'.wo) := HC0
  simp only at hel
  clear HC0
  show Calls _ _ _ _ fun e w' => LeftR G B l m n look w rb (if z = 0 then r.pass 1 else r.add l { i := { text := x } } z) e w'
  rcases Nat.eq_zero_or_pos z with hz | hz
  · subst hz
    rw [if_pos rfl]
    have hati : (r.at0 : Int) + 1 ≤ (l.length : Int) := by omega
    go_enter Tryz.func22, Tryz.ntmps22
    go_wp2
    refine region_classI (fun w' => ∃ u : BwI w, w' = u.wo) (by kernel_rfl) (by kernel_rfl) (BwI.first w) ?_
    haveI := BwI.some w
    repeat (go_big_quiet_step (first | (go_at_call 36; exact HC.out _) | exact rfl))
    refine wpQuiet_nil ?_
    intro _ hw'
    obtain ⟨u, hu⟩ := hw'
    subst hu
    have hRV := HR.out u
    have HBV := (show Hid (Below _ _ _) from HBu.out u)
    generalize u.wo = V at *
    clear HR HBu c0 c1
    have e1 := hRV.c.2.1
    have e2 := hRV.f 1
    have HF := (show Hid (RdR _ _ _ _ _ _ _ _ _ _ _ _) from hRV.num.1 (r.at0 + 1))
    have hsum : ((r.at0 + 1 : Nat) : Int) = (r.at0 : Int) + 1 := by omega
    rw [hsum] at HF
    clear hRV hsum
    (try simp only [Exit.then])
    go_wp2
    go_end0
    exact ⟨rfl, ⟨_, _, _, HF.out⟩, blk.below_set HBV.out hbs⟩
  · rw [if_neg (by omega)]
    have hzb : ((z : Int) == 0) = false := by simp; omega
    have HA : Hid (∀ u : BwI w, Calls Tryz.prog 37 #[ptrB rb, .string ⟨x.toArray⟩, .int .i64 (z : Int)] u.wo fun e w' => e = .returned (.tuple #[]) ∧ (∃ vp' xs', RdR G B l m n look w' rb vp' vo xs' (r.add l { i := { text := x } } z)) ∧ Below B u.wo w') := fun u => iaddt_any (HR.out u) ho hl x z (by omega)
    go_enter Tryz.func22, Tryz.ntmps22
    go_wp2
    refine region_classI (fun w' => ∃ u : BwI w, w' = u.wo) (by kernel_rfl) (by kernel_rfl) (BwI.first w) ?_
    haveI := BwI.some w
    repeat (go_big_quiet_step (first | (go_at_call 36; exact HC.out _) | exact rfl))
    refine wpQuiet_nil ?_
    intro _ hw'
    obtain ⟨u, hu⟩ := hw'
    subst hu
    have HB := (show Hid _ from HBu.out u)
    (try simp only [Exit.then])
    go_wp2_with (go_at_call 37; refine Calls.mono (HA.out u) ?_; rintro e u3 ⟨rfl, h1, h2⟩)
    go_end0
    obtain ⟨vp', xs', h1⟩ := h1
    exact ⟨rfl, ⟨_, _, _, h1⟩, HB.out.trans h2⟩

end Go.Proofs.YtjdijlaoeoikhaaGreatDoor

/- Package inline: readDelimiters; walked. -/
namespace Go.Proofs.YtjdijlaoeoikhaaGreatDoor
open Go.RowKit

theorem one_is (c : UInt8) : (fun b => ([c] : Str8).contains b) = (· == c) := by
  funext b
  rw [List.contains_cons]
  simp
theorem del_step (l : Str8) (r : Rd) (df : List Df8) {c : UInt8} {T : Str8} (hd : l.drop r.at0 = c :: T) (hc : c = 42 ∨ c = 95) : r.step l df = r.add l { i := { text := (c :: T).take (rowI (· == c) (c :: T)) }, d := delimI l r.at0 (r.at0 + rowI (· == c) (c :: T)) } (rowI (· == c) (c :: T)) := by
  unfold Rd.step
  rw [hd]
  rcases hc with rfl | rfl <;> rfl

/-- What stands in memory and in the slots while a run of delimiters is told, once so many operations are done. -/
def ZDl (W1 : World) (D : Dl) (b14 b15 b16 : Bool) (x3 x43 : Value) (w' : World) : Prop :=
  (∃ u : BwI W1, w' = u.wo) ∧ (b14 = true → x43 = Value.agg #[.int .u8 (D.sign.toNat : Int), .int .i64 (D.number : Int), .bool D.opens, .bool D.closes]) ∧
  (b15 = true → ∃ g v0 v1 v2 v3, x3 = .pointer (some ⟨g, 0, none⟩) ∧ W1.heap.size ≤ g ∧ Blk4 w' g 51 v0 v1 v2 v3 ∧ (b16 = true → Value.agg #[.int .u8 (D.sign.toNat : Int), .int .i64 (D.number : Int), .bool D.opens, .bool D.closes] = .agg #[v0, v1, v2, v3])) ∧ (b16 = true → b15 = true)

def InvDl (W1 : World) (rb : Nat) (l : Str8) (an k : Nat) (D : Dl) (y1 y4 y5 y6 y7 y8 y9 y10 y11 y12 y13 y14 y15 y16 y17 y18 y19 y20 y21 y22 y23 y24 y25 y26 y27 y28 : Value) (s : Array Bool) (a : Act) (w' : World) : Prop :=
  ∃ x3 x29 x30 x31 x32 x33 x34 x35 x36 x37 x38 x39 x40 x41 x42 x43, a = ⟨#[ptrB rb, y1, .int .i64 (k : Int), x3, y4, y5, y6, y7, y8, y9, y10, y11, y12, y13, y14, y15, y16, y17, y18, y19, y20, y21, y22, y23, y24, y25, y26, y27, y28, x29, x30, x31, x32, x33, x34, x35, x36, x37, x38, x39, x40, x41, x42, x43, undef, undef, undef, undef, undef, undef, undef, undef, undef, undef, undef, undef, undef, undef, undef, undef, undef, undef, undef, undef, undef, undef], []⟩ ∧
    (s.getD 0 false = true → x29 = ptrB rb) ∧
    (s.getD 1 false = true → x30 = .pointer (some ⟨rb, 0, none⟩)) ∧
    (s.getD 2 false = true → x31 = .pointer (some ⟨rb, 0, none⟩)) ∧
    (s.getD 3 false = true → x32 = strW l) ∧
    (s.getD 4 false = true → x33 = ptrB rb) ∧
    (s.getD 5 false = true → x34 = .pointer (some ⟨rb, 0, none⟩)) ∧
    (s.getD 6 false = true → x35 = .pointer (some ⟨rb, 1, none⟩)) ∧
    (s.getD 7 false = true → x36 = .int .i64 (an : Int)) ∧
    (s.getD 8 false = true → x37 = ptrB rb) ∧
    (s.getD 9 false = true → x38 = .pointer (some ⟨rb, 0, none⟩)) ∧
    (s.getD 10 false = true → x39 = .pointer (some ⟨rb, 1, none⟩)) ∧
    (s.getD 11 false = true → x40 = .int .i64 (an : Int)) ∧
    (s.getD 12 false = true → x41 = .int .i64 (k : Int)) ∧
    (s.getD 13 false = true → x42 = .int .i64 ((an : Int) + (k : Int))) ∧
    ZDl W1 D (s.getD 14 false) (s.getD 15 false) (s.getD 16 false) x3 x43 w' ∧ s.size = 17

set_option maxHeartbeats 4000000 in
set_option maxRecDepth 20000 in
theorem idels_any {G : Nat → Obj → Prop} {B m n rb : Nat} {l : Str8} {look : Str8 → Option Df8} {w : World} {vp vo : Value} {xs : List Value} {r : Rd} (h : RdR G B l m n look w rb vp vo xs r) (ho : r.Ok l) (hl : l.length ≤ 1073741824) (hg : Glob w) (df : List Df8) {c : UInt8} {T : Str8} (hd : l.drop r.at0 = c :: T) (hcc : c = 42 ∨ c = 95) :
    Calls Tryz.prog 23 #[ptrB rb] w fun e w' => LeftR G B l m n look w rb (r.step l df) e w' := by
  have hBw : B ≤ w.heap.size := Nat.le_trans h.base (Nat.le_of_lt (blk.lt_of_block h.blk))
  have HR : Hid (∀ u : BwI w, RdR G B l m n look u.wo rb vp vo xs r) := fun u => h.below u.is
  have HBu : Hid (∀ u : BwI w, Below B w u.wo) := fun u => u.is.mono hBw
  have c0 := fun u : BwI w => (HR.out u).c.1
  have c1 := fun u : BwI w => (HR.out u).c.2.1
  have hbs := h.base
  have hli : (l.length : Int) ≤ 1073741824 := by omega
  rw [del_step l r df hd hcc]
  have hc128 : c.toNat < 128 := by rcases hcc with rfl | rfl <;> decide
  obtain ⟨hT, hat, hlen⟩ := drop_next hd
  have hrow1 : 1 ≤ rowI (· == c) (c :: T) := by
    unfold rowI
    rw [List.takeWhile_cons, if_pos (by simp), List.length_cons]
    omega
  have hone : (l.take (r.at0 + 1)).drop r.at0 = [c] := by
    rw [List.drop_take, hd, Nat.add_sub_cancel_left]
    rfl
  obtain ⟨R, hR⟩ : ∃ R, R = c :: T := ⟨_, rfl⟩
  rw [← hR] at hd hrow1 ⊢
  have hRl : r.at0 + R.length = l.length := by rw [hR, List.length_cons]; omega
  have o1 := from_is l r.at0 (by omega) (by omega)
  rw [hd] at o1
  have o2 := sub_is l r.at0 (r.at0 + 1) (by omega) (by omega) (by omega)
  have hc1 : ((r.at0 + 1 : Nat) : Int) = (r.at0 : Int) + 1 := by omega
  rw [hone, hc1] at o2
  obtain ⟨k, hk⟩ : ∃ k, k = rowI (· == c) R := ⟨_, rfl⟩
  have hkl : k ≤ R.length := by rw [hk]; exact rowI_le _ _
  have HRow : Hid (∀ u : BwI w, Calls Tryz.prog 31 #[strI R, .string ⟨[c].toArray⟩] u.wo fun e w' => e = .returned (.int .i64 (k : Int)) ∧ ∃ u' : BwI w, w' = u'.wo) := fun u => by
    rw [hk]
    exact (irow_any R (by omega) [c] (by show 1 < 100; omega) (by simp [hc128]) (· == c) (one_is c) u.wo).mono fun e w' q => ⟨q.1, BwI.of (u.is.trans (q.2.mono u.is.size)), rfl⟩
  rw [← hk] at hrow1 ⊢
  have o3 := sub_is l r.at0 (r.at0 + k) (by omega) (by omega) (by omega)
  have hc2 : ((r.at0 + k : Nat) : Int) = (r.at0 : Int) + (k : Int) := by omega
  have hsub : (l.take (r.at0 + k)).drop r.at0 = R.take k := by rw [List.drop_take, hd, Nat.add_sub_cancel_left]
  rw [hc2, hsub] at o3
  obtain ⟨D, hD⟩ : ∃ D, D = delimI l r.at0 (r.at0 + k) := ⟨_, rfl⟩
  rw [← hD]
  have HDl : Hid (∀ u : BwI w, Calls Tryz.prog 38 #[strI l, .int .i64 (r.at0 : Int), .int .i64 ((r.at0 : Int) + (k : Int))] u.wo fun e w' => e = .returned (.agg #[.int .u8 (D.sign.toNat : Int), .int .i64 (D.number : Int), .bool D.opens, .bool D.closes]) ∧ Below u.wo.heap.size u.wo w') := fun u => by
    have q := idelim_any l (by omega) r.at0 (r.at0 + k) (by omega) (by omega) u.wo (hg.at u).2.1 (hg.at u).2.2
    rw [hc2, ← hD] at q
    exact q
  obtain ⟨Q, hQ⟩ : ∃ Q, Q = R.take k := ⟨_, rfl⟩
  rw [← hQ] at o3 ⊢
  have HA : Hid (∀ u : BwI w, Calls Tryz.prog 33 #[ptrB rb, .agg #[.int .i64 0, .string ⟨Q.toArray⟩, .string ⟨#[]⟩, .string ⟨#[]⟩, .slice none 0 0, .int .u8 (D.sign.toNat : Int), .int .i64 (D.number : Int), .bool D.opens, .bool D.closes], .int .i64 (k : Int)] u.wo fun e w' => e = .returned (.tuple #[]) ∧ (∃ vp' xs', RdR G B l m n look w' rb vp' vo xs' (r.add l { i := { text := Q }, d := D } k)) ∧ Below B u.wo w') := fun u => iadd_any (HR.out u) ho hl { i := { text := Q }, d := D } k (by omega) none 0 0 (ys := []) (World.ownsRow_nil _ _ _ _) rfl
  have hki : (r.at0 : Int) + (k : Int) ≤ (l.length : Int) := by omega
  have hati : (r.at0 : Int) + 1 ≤ (l.length : Int) := by omega
  clear h hd hT hR hk hlen hcc hg hD hQ hsub hone hc1 hc2 hc128
  go_enter Tryz.func23, Tryz.ntmps23
  go_wp2
  refine region_classI (fun w' => ∃ u : BwI w, w' = u.wo) (by kernel_rfl) (by kernel_rfl) (BwI.first w) ?_
  haveI := BwI.some w
  repeat (go_big_quiet_step (first | (go_at_call 31; exact HRow.out _) | exact rfl))
  refine wpQuiet_nil ?_
  intro _ hw'
  obtain ⟨u, hu⟩ := hw'
  subst hu
  (try simp only [Exit.then])
  go_wp2
  have hwrap : IntKind.i64.wrap ((r.at0 : Int) + (k : Int)) = (r.at0 : Int) + (k : Int) := wrap_small (by omega) (by omega)
  refine region_inv (InvDl w rb l r.at0 k D undef undef (ptrB rb) (.pointer (some ⟨rb, 0, none⟩)) (.pointer (some ⟨rb, 0, none⟩)) (strW l) (ptrB rb) (.pointer (some ⟨rb, 0, none⟩)) (.pointer (some ⟨rb, 1, none⟩)) (.int .i64 (r.at0 : Int)) (.string ⟨R.toArray⟩) (ptrB rb) (.pointer (some ⟨rb, 0, none⟩)) (.pointer (some ⟨rb, 0, none⟩)) (strW l) (ptrB rb) (.pointer (some ⟨rb, 0, none⟩)) (.pointer (some ⟨rb, 1, none⟩)) (.int .i64 (r.at0 : Int)) (ptrB rb) (.pointer (some ⟨rb, 0, none⟩)) (.pointer (some ⟨rb, 1, none⟩)) (.int .i64 (r.at0 : Int)) (.int .i64 ((r.at0 : Int) + 1)) (.string ⟨[c].toArray⟩) (.int .i64 (k : Int))) (by kernel_rfl) ?start ?step ?fin
  case start =>
    refine ⟨_, _, _, _, _, _, _, _, _, _, _, _, _, _, _, _, rfl, fun q => (noflag q).elim, fun q => (noflag q).elim, fun q => (noflag q).elim, fun q => (noflag q).elim, fun q => (noflag q).elim, fun q => (noflag q).elim, fun q => (noflag q).elim, fun q => (noflag q).elim, fun q => (noflag q).elim, fun q => (noflag q).elim, fun q => (noflag q).elim, fun q => (noflag q).elim, fun q => (noflag q).elim, fun q => (noflag q).elim, ?_, by simp⟩
    rw [noflag8, noflag8, noflag8]
    exact ⟨⟨BwI.of (w := u.wo.drew) (Below.drew u.is), rfl⟩, fun q => (by cases q), fun q => (by cases q), fun q => (by cases q)⟩
  case step =>
    intro s a wr i K inv hi hK
    have hin : i < 17 := by
      obtain ⟨_, o, ho, _⟩ := mem_ready.1 hi
      exact (Array.getElem?_eq_some_iff.1 ho).1
    obtain ⟨x3, x29, x30, x31, x32, x33, x34, x35, x36, x37, x38, x39, x40, x41, x42, x43, rfl, h0, h1, h2, h3, h4, h5, h6, h7, h8, h9, h10, h11, h12, h13, hZ, hsz⟩ := inv
    have hu := (mem_ready.1 hi).1
    have hcase : i = 0 ∨ i = 1 ∨ i = 2 ∨ i = 3 ∨ i = 4 ∨ i = 5 ∨ i = 6 ∨ i = 7 ∨ i = 8 ∨ i = 9 ∨ i = 10 ∨ i = 11 ∨ i = 12 ∨ i = 13 ∨ i = 14 ∨ i = 15 ∨ i = 16 := by omega
    clear hin
    rcases hcase with rfl | rfl | rfl | rfl | rfl | rfl | rfl | rfl | rfl | rfl | rfl | rfl | rfl | rfl | rfl | rfl | rfl
    · exact wpOp_val rfl rfl (v := ptrB rb) (w' := wr) (by kernel_rfl) (hK _ _ ⟨_, _, _, _, _, _, _, _, _, _, _, _, _, _, _, _, rfl, fun _ => rfl, fun q => h1 (flag_ne (by decide) q), fun q => h2 (flag_ne (by decide) q), fun q => h3 (flag_ne (by decide) q), fun q => h4 (flag_ne (by decide) q), fun q => h5 (flag_ne (by decide) q), fun q => h6 (flag_ne (by decide) q), fun q => h7 (flag_ne (by decide) q), fun q => h8 (flag_ne (by decide) q), fun q => h9 (flag_ne (by decide) q), fun q => h10 (flag_ne (by decide) q), fun q => h11 (flag_ne (by decide) q), fun q => h12 (flag_ne (by decide) q), fun q => h13 (flag_ne (by decide) q), by rw [flag_same (i := 0) (k := 14) (by decide), flag_same (i := 0) (k := 15) (by decide), flag_same (i := 0) (k := 16) (by decide)]; exact hZ, by rw [Array.size_setIfInBounds]; exact hsz⟩)
    · have e0 := h0 (ready_dep hi rfl (by kernel_rfl))
      subst e0
      exact wpOp_val rfl rfl (v := .pointer (some ⟨rb, 0, none⟩)) (w' := wr) (by kernel_rfl) (hK _ _ ⟨_, _, _, _, _, _, _, _, _, _, _, _, _, _, _, _, rfl, fun q => h0 (flag_ne (by decide) q), fun _ => rfl, fun q => h2 (flag_ne (by decide) q), fun q => h3 (flag_ne (by decide) q), fun q => h4 (flag_ne (by decide) q), fun q => h5 (flag_ne (by decide) q), fun q => h6 (flag_ne (by decide) q), fun q => h7 (flag_ne (by decide) q), fun q => h8 (flag_ne (by decide) q), fun q => h9 (flag_ne (by decide) q), fun q => h10 (flag_ne (by decide) q), fun q => h11 (flag_ne (by decide) q), fun q => h12 (flag_ne (by decide) q), fun q => h13 (flag_ne (by decide) q), by rw [flag_same (i := 1) (k := 14) (by decide), flag_same (i := 1) (k := 15) (by decide), flag_same (i := 1) (k := 16) (by decide)]; exact hZ, by rw [Array.size_setIfInBounds]; exact hsz⟩)
    · have e1 := h1 (ready_dep hi rfl (by kernel_rfl))
      subst e1
      exact wpOp_val rfl rfl (v := .pointer (some ⟨rb, 0, none⟩)) (w' := wr) (by kernel_rfl) (hK _ _ ⟨_, _, _, _, _, _, _, _, _, _, _, _, _, _, _, _, rfl, fun q => h0 (flag_ne (by decide) q), fun q => h1 (flag_ne (by decide) q), fun _ => rfl, fun q => h3 (flag_ne (by decide) q), fun q => h4 (flag_ne (by decide) q), fun q => h5 (flag_ne (by decide) q), fun q => h6 (flag_ne (by decide) q), fun q => h7 (flag_ne (by decide) q), fun q => h8 (flag_ne (by decide) q), fun q => h9 (flag_ne (by decide) q), fun q => h10 (flag_ne (by decide) q), fun q => h11 (flag_ne (by decide) q), fun q => h12 (flag_ne (by decide) q), fun q => h13 (flag_ne (by decide) q), by rw [flag_same (i := 2) (k := 14) (by decide), flag_same (i := 2) (k := 15) (by decide), flag_same (i := 2) (k := 16) (by decide)]; exact hZ, by rw [Array.size_setIfInBounds]; exact hsz⟩)
    · have e2 := h2 (ready_dep hi rfl (by kernel_rfl))
      subst e2
      exact wpOp_val rfl rfl (v := strW l) (w' := wr) (by obtain ⟨u, rfl⟩ := hZ.1; have := c0 u; go_simp) (hK _ _ ⟨_, _, _, _, _, _, _, _, _, _, _, _, _, _, _, _, rfl, fun q => h0 (flag_ne (by decide) q), fun q => h1 (flag_ne (by decide) q), fun q => h2 (flag_ne (by decide) q), fun _ => rfl, fun q => h4 (flag_ne (by decide) q), fun q => h5 (flag_ne (by decide) q), fun q => h6 (flag_ne (by decide) q), fun q => h7 (flag_ne (by decide) q), fun q => h8 (flag_ne (by decide) q), fun q => h9 (flag_ne (by decide) q), fun q => h10 (flag_ne (by decide) q), fun q => h11 (flag_ne (by decide) q), fun q => h12 (flag_ne (by decide) q), fun q => h13 (flag_ne (by decide) q), by rw [flag_same (i := 3) (k := 14) (by decide), flag_same (i := 3) (k := 15) (by decide), flag_same (i := 3) (k := 16) (by decide)]; exact hZ, by rw [Array.size_setIfInBounds]; exact hsz⟩)
    · exact wpOp_val rfl rfl (v := ptrB rb) (w' := wr) (by kernel_rfl) (hK _ _ ⟨_, _, _, _, _, _, _, _, _, _, _, _, _, _, _, _, rfl, fun q => h0 (flag_ne (by decide) q), fun q => h1 (flag_ne (by decide) q), fun q => h2 (flag_ne (by decide) q), fun q => h3 (flag_ne (by decide) q), fun _ => rfl, fun q => h5 (flag_ne (by decide) q), fun q => h6 (flag_ne (by decide) q), fun q => h7 (flag_ne (by decide) q), fun q => h8 (flag_ne (by decide) q), fun q => h9 (flag_ne (by decide) q), fun q => h10 (flag_ne (by decide) q), fun q => h11 (flag_ne (by decide) q), fun q => h12 (flag_ne (by decide) q), fun q => h13 (flag_ne (by decide) q), by rw [flag_same (i := 4) (k := 14) (by decide), flag_same (i := 4) (k := 15) (by decide), flag_same (i := 4) (k := 16) (by decide)]; exact hZ, by rw [Array.size_setIfInBounds]; exact hsz⟩)
    · have e4 := h4 (ready_dep hi rfl (by kernel_rfl))
      subst e4
      exact wpOp_val rfl rfl (v := .pointer (some ⟨rb, 0, none⟩)) (w' := wr) (by kernel_rfl) (hK _ _ ⟨_, _, _, _, _, _, _, _, _, _, _, _, _, _, _, _, rfl, fun q => h0 (flag_ne (by decide) q), fun q => h1 (flag_ne (by decide) q), fun q => h2 (flag_ne (by decide) q), fun q => h3 (flag_ne (by decide) q), fun q => h4 (flag_ne (by decide) q), fun _ => rfl, fun q => h6 (flag_ne (by decide) q), fun q => h7 (flag_ne (by decide) q), fun q => h8 (flag_ne (by decide) q), fun q => h9 (flag_ne (by decide) q), fun q => h10 (flag_ne (by decide) q), fun q => h11 (flag_ne (by decide) q), fun q => h12 (flag_ne (by decide) q), fun q => h13 (flag_ne (by decide) q), by rw [flag_same (i := 5) (k := 14) (by decide), flag_same (i := 5) (k := 15) (by decide), flag_same (i := 5) (k := 16) (by decide)]; exact hZ, by rw [Array.size_setIfInBounds]; exact hsz⟩)
    · have e5 := h5 (ready_dep hi rfl (by kernel_rfl))
      subst e5
      exact wpOp_val rfl rfl (v := .pointer (some ⟨rb, 1, none⟩)) (w' := wr) (by kernel_rfl) (hK _ _ ⟨_, _, _, _, _, _, _, _, _, _, _, _, _, _, _, _, rfl, fun q => h0 (flag_ne (by decide) q), fun q => h1 (flag_ne (by decide) q), fun q => h2 (flag_ne (by decide) q), fun q => h3 (flag_ne (by decide) q), fun q => h4 (flag_ne (by decide) q), fun q => h5 (flag_ne (by decide) q), fun _ => rfl, fun q => h7 (flag_ne (by decide) q), fun q => h8 (flag_ne (by decide) q), fun q => h9 (flag_ne (by decide) q), fun q => h10 (flag_ne (by decide) q), fun q => h11 (flag_ne (by decide) q), fun q => h12 (flag_ne (by decide) q), fun q => h13 (flag_ne (by decide) q), by rw [flag_same (i := 6) (k := 14) (by decide), flag_same (i := 6) (k := 15) (by decide), flag_same (i := 6) (k := 16) (by decide)]; exact hZ, by rw [Array.size_setIfInBounds]; exact hsz⟩)
    · have e6 := h6 (ready_dep hi rfl (by kernel_rfl))
      subst e6
      exact wpOp_val rfl rfl (v := .int .i64 (r.at0 : Int)) (w' := wr) (by obtain ⟨u, rfl⟩ := hZ.1; have := c1 u; go_simp) (hK _ _ ⟨_, _, _, _, _, _, _, _, _, _, _, _, _, _, _, _, rfl, fun q => h0 (flag_ne (by decide) q), fun q => h1 (flag_ne (by decide) q), fun q => h2 (flag_ne (by decide) q), fun q => h3 (flag_ne (by decide) q), fun q => h4 (flag_ne (by decide) q), fun q => h5 (flag_ne (by decide) q), fun q => h6 (flag_ne (by decide) q), fun _ => rfl, fun q => h8 (flag_ne (by decide) q), fun q => h9 (flag_ne (by decide) q), fun q => h10 (flag_ne (by decide) q), fun q => h11 (flag_ne (by decide) q), fun q => h12 (flag_ne (by decide) q), fun q => h13 (flag_ne (by decide) q), by rw [flag_same (i := 7) (k := 14) (by decide), flag_same (i := 7) (k := 15) (by decide), flag_same (i := 7) (k := 16) (by decide)]; exact hZ, by rw [Array.size_setIfInBounds]; exact hsz⟩)
    · exact wpOp_val rfl rfl (v := ptrB rb) (w' := wr) (by kernel_rfl) (hK _ _ ⟨_, _, _, _, _, _, _, _, _, _, _, _, _, _, _, _, rfl, fun q => h0 (flag_ne (by decide) q), fun q => h1 (flag_ne (by decide) q), fun q => h2 (flag_ne (by decide) q), fun q => h3 (flag_ne (by decide) q), fun q => h4 (flag_ne (by decide) q), fun q => h5 (flag_ne (by decide) q), fun q => h6 (flag_ne (by decide) q), fun q => h7 (flag_ne (by decide) q), fun _ => rfl, fun q => h9 (flag_ne (by decide) q), fun q => h10 (flag_ne (by decide) q), fun q => h11 (flag_ne (by decide) q), fun q => h12 (flag_ne (by decide) q), fun q => h13 (flag_ne (by decide) q), by rw [flag_same (i := 8) (k := 14) (by decide), flag_same (i := 8) (k := 15) (by decide), flag_same (i := 8) (k := 16) (by decide)]; exact hZ, by rw [Array.size_setIfInBounds]; exact hsz⟩)
    · have e8 := h8 (ready_dep hi rfl (by kernel_rfl))
      subst e8
      exact wpOp_val rfl rfl (v := .pointer (some ⟨rb, 0, none⟩)) (w' := wr) (by kernel_rfl) (hK _ _ ⟨_, _, _, _, _, _, _, _, _, _, _, _, _, _, _, _, rfl, fun q => h0 (flag_ne (by decide) q), fun q => h1 (flag_ne (by decide) q), fun q => h2 (flag_ne (by decide) q), fun q => h3 (flag_ne (by decide) q), fun q => h4 (flag_ne (by decide) q), fun q => h5 (flag_ne (by decide) q), fun q => h6 (flag_ne (by decide) q), fun q => h7 (flag_ne (by decide) q), fun q => h8 (flag_ne (by decide) q), fun _ => rfl, fun q => h10 (flag_ne (by decide) q), fun q => h11 (flag_ne (by decide) q), fun q => h12 (flag_ne (by decide) q), fun q => h13 (flag_ne (by decide) q), by rw [flag_same (i := 9) (k := 14) (by decide), flag_same (i := 9) (k := 15) (by decide), flag_same (i := 9) (k := 16) (by decide)]; exact hZ, by rw [Array.size_setIfInBounds]; exact hsz⟩)
    · have e9 := h9 (ready_dep hi rfl (by kernel_rfl))
      subst e9
      exact wpOp_val rfl rfl (v := .pointer (some ⟨rb, 1, none⟩)) (w' := wr) (by kernel_rfl) (hK _ _ ⟨_, _, _, _, _, _, _, _, _, _, _, _, _, _, _, _, rfl, fun q => h0 (flag_ne (by decide) q), fun q => h1 (flag_ne (by decide) q), fun q => h2 (flag_ne (by decide) q), fun q => h3 (flag_ne (by decide) q), fun q => h4 (flag_ne (by decide) q), fun q => h5 (flag_ne (by decide) q), fun q => h6 (flag_ne (by decide) q), fun q => h7 (flag_ne (by decide) q), fun q => h8 (flag_ne (by decide) q), fun q => h9 (flag_ne (by decide) q), fun _ => rfl, fun q => h11 (flag_ne (by decide) q), fun q => h12 (flag_ne (by decide) q), fun q => h13 (flag_ne (by decide) q), by rw [flag_same (i := 10) (k := 14) (by decide), flag_same (i := 10) (k := 15) (by decide), flag_same (i := 10) (k := 16) (by decide)]; exact hZ, by rw [Array.size_setIfInBounds]; exact hsz⟩)
    · have e10 := h10 (ready_dep hi rfl (by kernel_rfl))
      subst e10
      exact wpOp_val rfl rfl (v := .int .i64 (r.at0 : Int)) (w' := wr) (by obtain ⟨u, rfl⟩ := hZ.1; have := c1 u; go_simp) (hK _ _ ⟨_, _, _, _, _, _, _, _, _, _, _, _, _, _, _, _, rfl, fun q => h0 (flag_ne (by decide) q), fun q => h1 (flag_ne (by decide) q), fun q => h2 (flag_ne (by decide) q), fun q => h3 (flag_ne (by decide) q), fun q => h4 (flag_ne (by decide) q), fun q => h5 (flag_ne (by decide) q), fun q => h6 (flag_ne (by decide) q), fun q => h7 (flag_ne (by decide) q), fun q => h8 (flag_ne (by decide) q), fun q => h9 (flag_ne (by decide) q), fun q => h10 (flag_ne (by decide) q), fun _ => rfl, fun q => h12 (flag_ne (by decide) q), fun q => h13 (flag_ne (by decide) q), by rw [flag_same (i := 11) (k := 14) (by decide), flag_same (i := 11) (k := 15) (by decide), flag_same (i := 11) (k := 16) (by decide)]; exact hZ, by rw [Array.size_setIfInBounds]; exact hsz⟩)
    · exact wpOp_val rfl rfl (v := .int .i64 (k : Int)) (w' := wr) (by kernel_rfl) (hK _ _ ⟨_, _, _, _, _, _, _, _, _, _, _, _, _, _, _, _, rfl, fun q => h0 (flag_ne (by decide) q), fun q => h1 (flag_ne (by decide) q), fun q => h2 (flag_ne (by decide) q), fun q => h3 (flag_ne (by decide) q), fun q => h4 (flag_ne (by decide) q), fun q => h5 (flag_ne (by decide) q), fun q => h6 (flag_ne (by decide) q), fun q => h7 (flag_ne (by decide) q), fun q => h8 (flag_ne (by decide) q), fun q => h9 (flag_ne (by decide) q), fun q => h10 (flag_ne (by decide) q), fun q => h11 (flag_ne (by decide) q), fun _ => rfl, fun q => h13 (flag_ne (by decide) q), by rw [flag_same (i := 12) (k := 14) (by decide), flag_same (i := 12) (k := 15) (by decide), flag_same (i := 12) (k := 16) (by decide)]; exact hZ, by rw [Array.size_setIfInBounds]; exact hsz⟩)
    · have e11 := h11 (ready_dep hi rfl (by kernel_rfl))
      have e12 := h12 (ready_dep hi rfl (by kernel_rfl))
      subst e11
      subst e12
      exact wpOp_val rfl rfl (v := .int .i64 ((r.at0 : Int) + (k : Int))) (w' := wr) (by have := hwrap; go_simp) (hK _ _ ⟨_, _, _, _, _, _, _, _, _, _, _, _, _, _, _, _, rfl, fun q => h0 (flag_ne (by decide) q), fun q => h1 (flag_ne (by decide) q), fun q => h2 (flag_ne (by decide) q), fun q => h3 (flag_ne (by decide) q), fun q => h4 (flag_ne (by decide) q), fun q => h5 (flag_ne (by decide) q), fun q => h6 (flag_ne (by decide) q), fun q => h7 (flag_ne (by decide) q), fun q => h8 (flag_ne (by decide) q), fun q => h9 (flag_ne (by decide) q), fun q => h10 (flag_ne (by decide) q), fun q => h11 (flag_ne (by decide) q), fun q => h12 (flag_ne (by decide) q), fun _ => rfl, by rw [flag_same (i := 13) (k := 14) (by decide), flag_same (i := 13) (k := 15) (by decide), flag_same (i := 13) (k := 16) (by decide)]; exact hZ, by rw [Array.size_setIfInBounds]; exact hsz⟩)
    · have e3 := h3 (ready_dep hi rfl (by kernel_rfl))
      have e7 := h7 (ready_dep hi rfl (by kernel_rfl))
      have e13 := h13 (ready_dep hi rfl (by kernel_rfl))
      subst e3
      subst e7
      subst e13
      obtain ⟨⟨u, hu'⟩, z2, z3, z4⟩ := hZ
      subst hu'
      refine wpOp_call (R := fun v' w' => v' = Value.agg #[.int .u8 (D.sign.toNat : Int), .int .i64 (D.number : Int), .bool D.opens, .bool D.closes] ∧ Below u.wo.heap.size u.wo w') rfl rfl (by kernel_rfl) ((HDl.out u).mono fun e w' q => ⟨_, q.1, rfl, q.2⟩) ?_
      rintro v' w2 ⟨rfl, hb2⟩
      refine hK _ _ ⟨_, _, _, _, _, _, _, _, _, _, _, _, _, _, _, _, rfl, fun q => h0 (flag_ne (by decide) q), fun q => h1 (flag_ne (by decide) q), fun q => h2 (flag_ne (by decide) q), fun q => h3 (flag_ne (by decide) q), fun q => h4 (flag_ne (by decide) q), fun q => h5 (flag_ne (by decide) q), fun q => h6 (flag_ne (by decide) q), fun q => h7 (flag_ne (by decide) q), fun q => h8 (flag_ne (by decide) q), fun q => h9 (flag_ne (by decide) q), fun q => h10 (flag_ne (by decide) q), fun q => h11 (flag_ne (by decide) q), fun q => h12 (flag_ne (by decide) q), fun q => h13 (flag_ne (by decide) q), ?_, by rw [Array.size_setIfInBounds]; exact hsz⟩
      rw [flag_set hu, flag_same (i := 14) (k := 15) (by decide), flag_same (i := 14) (k := 16) (by decide)]
      refine ⟨⟨BwI.of (u.is.trans (hb2.mono u.is.size)), rfl⟩, fun _ => rfl, fun q => ?_, z4⟩
      obtain ⟨g, v0, v1, v2, v3, g1, g2, g3, g4⟩ := z3 q
      exact ⟨g, v0, v1, v2, v3, g1, g2, g3.below hb2, g4⟩
    · obtain ⟨⟨u, hu'⟩, z2, z3, z4⟩ := hZ
      subst hu'
      refine wpOp_val rfl rfl (v := .pointer (some ⟨u.wo.heap.size, 0, none⟩)) (w' := u.wo.alloc (.cells #[.int .u8 0, .int .i64 0, .bool false, .bool false] 51)) (by kernel_rfl) (hK _ _ ⟨_, _, _, _, _, _, _, _, _, _, _, _, _, _, _, _, rfl, fun q => h0 (flag_ne (by decide) q), fun q => h1 (flag_ne (by decide) q), fun q => h2 (flag_ne (by decide) q), fun q => h3 (flag_ne (by decide) q), fun q => h4 (flag_ne (by decide) q), fun q => h5 (flag_ne (by decide) q), fun q => h6 (flag_ne (by decide) q), fun q => h7 (flag_ne (by decide) q), fun q => h8 (flag_ne (by decide) q), fun q => h9 (flag_ne (by decide) q), fun q => h10 (flag_ne (by decide) q), fun q => h11 (flag_ne (by decide) q), fun q => h12 (flag_ne (by decide) q), fun q => h13 (flag_ne (by decide) q), ?_, by rw [Array.size_setIfInBounds]; exact hsz⟩)
      rw [flag_same (i := 15) (k := 14) (by decide), flag_set hu, flag_same (i := 15) (k := 16) (by decide)]
      refine ⟨⟨BwI.of (u.is.alloc u.is.size _), rfl⟩, z2, fun _ => ⟨u.wo.heap.size, _, _, _, _, rfl, u.is.size, Blk4.new _ _ _ _ _ _, fun q => ?_⟩, fun _ => rfl⟩
      have := z4 q
      rw [getD_both hu] at this
      cases this
    · obtain ⟨⟨u, hu'⟩, z2, z3, z4⟩ := hZ
      subst hu'
      have q15 := ready_dep (j := 15) hi rfl (by kernel_rfl)
      have e43 := z2 (ready_dep (j := 14) hi rfl (by kernel_rfl))
      subst e43
      obtain ⟨g, v0, v1, v2, v3, g1, g2, g3, _⟩ := z3 q15
      subst g1
      have f0 := g3.f 0
      have f1 := g3.f 1
      have f2 := g3.f 2
      have f3 := g3.f 3
      have d0 := g3.c.1
      have d1 := g3.c.2.1
      have d2 := g3.c.2.2.1
      have d3 := g3.c.2.2.2
      refine wpOp_skip rfl rfl (w' := (((u.wo.setCell ⟨g, 0, none⟩ (.int .u8 (D.sign.toNat : Int))).setCell ⟨g, 1, none⟩ (.int .i64 (D.number : Int))).setCell ⟨g, 2, none⟩ (.bool D.opens)).setCell ⟨g, 3, none⟩ (.bool D.closes)) (by go_simp) (hK _ _ ⟨_, _, _, _, _, _, _, _, _, _, _, _, _, _, _, _, rfl, fun q => h0 (flag_ne (by decide) q), fun q => h1 (flag_ne (by decide) q), fun q => h2 (flag_ne (by decide) q), fun q => h3 (flag_ne (by decide) q), fun q => h4 (flag_ne (by decide) q), fun q => h5 (flag_ne (by decide) q), fun q => h6 (flag_ne (by decide) q), fun q => h7 (flag_ne (by decide) q), fun q => h8 (flag_ne (by decide) q), fun q => h9 (flag_ne (by decide) q), fun q => h10 (flag_ne (by decide) q), fun q => h11 (flag_ne (by decide) q), fun q => h12 (flag_ne (by decide) q), fun q => h13 (flag_ne (by decide) q), ?_, by rw [Array.size_setIfInBounds]; exact hsz⟩)
      rw [flag_same (i := 16) (k := 14) (by decide), flag_same (i := 16) (k := 15) (by decide), flag_set hu]
      exact ⟨⟨BwI.of (blk.below_set (blk.below_set (blk.below_set (blk.below_set u.is g2) g2) g2) g2), rfl⟩, fun _ => rfl, fun _ => ⟨g, _, _, _, _, rfl, g2, g3.s _ _ _ _, fun _ => rfl⟩, fun _ => q15⟩
  case fin =>
    intro s a wr inv hr
    obtain ⟨x3, x29, x30, x31, x32, x33, x34, x35, x36, x37, x38, x39, x40, x41, x42, x43, rfl, h0, h1, h2, h3, h4, h5, h6, h7, h8, h9, h10, h11, h12, h13, hZ, hsz⟩ := inv
    have hd := all_done (by kernel_rfl) hsz hr
    have e0 := h0 (hd 0 (by decide))
    have e1 := h1 (hd 1 (by decide))
    have e2 := h2 (hd 2 (by decide))
    have e3 := h3 (hd 3 (by decide))
    have e4 := h4 (hd 4 (by decide))
    have e5 := h5 (hd 5 (by decide))
    have e6 := h6 (hd 6 (by decide))
    have e7 := h7 (hd 7 (by decide))
    have e8 := h8 (hd 8 (by decide))
    have e9 := h9 (hd 9 (by decide))
    have e10 := h10 (hd 10 (by decide))
    have e11 := h11 (hd 11 (by decide))
    have e12 := h12 (hd 12 (by decide))
    have e13 := h13 (hd 13 (by decide))
    rw [hd 14 (by decide), hd 15 (by decide), hd 16 (by decide)] at hZ
    subst e0
    subst e1
    subst e2
    subst e3
    subst e4
    subst e5
    subst e6
    subst e7
    subst e8
    subst e9
    subst e10
    subst e11
    subst e12
    subst e13
    obtain ⟨⟨u2, hu2⟩, z2, z3, z4⟩ := hZ
    subst hu2
    have e43 := z2 rfl
    subst e43
    obtain ⟨g, v0, v1, v2, v3, g1, g2, g3, g4⟩ := z3 rfl
    subst g1
    have g5 := g4 rfl
    injection g5 with g5
    injection g5 with g5
    injection g5 with e0 g5
    injection g5 with e1 g5
    injection g5 with e2 g5
    injection g5 with e3 g5
    subst e0
    subst e1
    subst e2
    subst e3
    clear g5 g4 z2 z3 z4
    (try simp only [Exit.then])
    go_wp2
    refine region_classI (fun w' => ∃ v : BwI u2.wo, w' = v.wo) (by kernel_rfl) (by kernel_rfl) (BwI.first u2.wo) ?_
    haveI := BwI.some u2.wo
    have k0 := fun v : BwI u2.wo => ((HR.out u2).below v.is).c.1
    have k1 := fun v : BwI u2.wo => ((HR.out u2).below v.is).c.2.1
    have k2 := fun v : BwI u2.wo => (g3.below v.is).c
    have k3 := fun v : BwI u2.wo => (k2 v).1
    have k4 := fun v : BwI u2.wo => (k2 v).2.1
    have k5 := fun v : BwI u2.wo => (k2 v).2.2.1
    have k6 := fun v : BwI u2.wo => (k2 v).2.2.2
    clear k2
    repeat (go_big_quiet_step (first | exact rfl))
    refine wpQuiet_nil ?_
    intro _ hw'
    obtain ⟨v, hv⟩ := hw'
    subst hv
    have hw3 : Below w.heap.size w v.wo := u2.is.trans (v.is.mono u2.is.size)
    have HA2 := (show Hid _ from HA.out (BwI.of hw3))
    have HB2 := (show Hid _ from HBu.out (BwI.of hw3))
    (try simp only [Exit.then])
    go_wp2_with (go_at_call 33; refine Calls.mono HA2.out ?_; rintro e u3 ⟨rfl, h1, h2⟩)
    go_end0
    obtain ⟨vp', xs', h1⟩ := h1
    exact ⟨rfl, ⟨_, _, _, h1⟩, HB2.out.trans h2⟩

end Go.Proofs.YtjdijlaoeoikhaaGreatDoor

/- Package inline: readOpener; walked. -/
namespace Go.Proofs.YtjdijlaoeoikhaaGreatDoor
open Go.RowKit

theorem infoOp : (Tryz.prog.info? 71).map (fun i => (i.zero, i.size, i.bytes)) = some (some (.agg #[.int .i64 0, .int .i64 0, .int .i64 0]), 3, 24) := by kernel_rfl

/-- An opener that was put behind the others. -/
theorem RdR.opened {G : Nat → Obj → Prop} {B m n rb : Nat} {l : Str8} {look : Str8 → Option Df8} {w w' : World} {vp vo vo' : Value} {xs : List Value} {r : Rd} (h : RdR G B l m n look w rb vp vo xs r) (hB : B ≤ w.heap.size) {o : Op} (hr : w'.ownsRow B 71 3 vo' (r.openers.length + 1) (oCells r.openers ++ oCells [o])) (hg : w.grownBy w' vo.ownBlock) (hat : ∀ g, vo'.ownBlock = some g → vo.ownBlock = some g ∨ g = w.heap.size) : RdR G B l m n look (w'.setCell ⟨rb, 4, none⟩ vo') rb vp vo' xs { r with openers := r.openers ++ [o] } ∧ Below B w (w'.setCell ⟨rb, 4, none⟩ vo') := by
  have hsb : w'.heap[rb]? = some (.cells (rdCells l r vp vo m).toArray 45 (0, 0)) := (hg.block rb (blk.lt_of_block h.blk) (row_neq h.ops h.blk (by decide))).trans h.blk
  have hki : KeepI w w' := (KeepI.refl w).grown hg h.ops (by decide)
  have hki2 : KeepI w (w'.setCell ⟨rb, 4, none⟩ vo') := hki.set hsb (by decide) 4 vo'
  have hbl : Below B w w' := (Below.refl B w).grown hg hB (fun k hk => (h.ops.lt k hk).1)
  refine ⟨⟨blk.set_blk hsb 4 vo', h.base, ?_, PartI.stay hki2 _ _ h.part, ?_, ?_, fun g o hgo => ?_⟩, blk.below_set hbl h.base⟩
  · refine irow_keeps h.row (fun g hgv => ?_)
    rw [Below.heap_setCell _ _ _ _ (fun e => row_neq h.row h.blk (by decide) (by rw [hgv]; exact congrArg some (show rb = g from e.symm)))]
    refine hg.block g (h.row.lt g hgv).2 ?_
    rcases h.row.2 with ⟨hv, _⟩ | ⟨g', cap, cur, hv, _, hg', _⟩
    · rw [hv] at hgv; cases hgv
    · rw [hv] at hgv
      cases hgv
      exact row_neq h.ops hg' (by decide)
  · show World.ownsRow _ _ _ _ _ (r.openers ++ [o]).length (oCells (r.openers ++ [o]))
    rw [List.length_append, oCells_append]
    exact irow_keeps hr (fun g hgv => Below.heap_setCell _ _ _ _ (fun e => row_neq hr hsb (by decide) (by rw [hgv]; exact congrArg some (show rb = g from e.symm))))
  · obtain ⟨es, c, hm⟩ := mapd_blk h.map
    refine mapd_same h.map ?_
    rw [Below.heap_setCell _ _ _ _ (fun e => ?_)]
    · refine hg.block m (blk.lt_of_block hm) (fun e => ?_)
      rcases h.ops.2 with ⟨hv, _⟩ | ⟨g', cap, cur, hv, _, hg', _⟩
      · rw [hv] at e; cases e
      · rw [hv] at e
        cases e
        rw [hm] at hg'
        cases hg'
    · have e' : m = rb := e
      rw [e', h.blk] at hm
      cases hm
  · have q := h.gst g o hgo
    refine ⟨?_, q.2.1, q.2.2.1, fun e => ?_⟩
    · rw [Below.heap_setCell _ _ _ _ (by simpa using q.2.1)]
      exact (hg.block g (blk.lt_of_block q.1) q.2.2.2).trans q.1
    · rcases hat g e.symm with x | x
      · exact q.2.2.2 x.symm
      · have := blk.lt_of_block q.1; omega

theorem open_step (l : Str8) (r : Rd) (df : List Df8) {T : Str8} (hd : l.drop r.at0 = 91 :: T) : r.step l df = { r.add l { i := { text := [91] } } 1 with openers := (r.add l { i := { text := [91] } } 1).openers ++ [{ kind := 6, part := (r.add l { i := { text := [91] } } 1).parts.length - 1, start := (r.add l { i := { text := [91] } } 1).at0 - 1 }] } := by
  unfold Rd.step
  rw [hd]
  rfl
theorem bang_step (l : Str8) (r : Rd) (df : List Df8) {T : Str8} (hd : l.drop r.at0 = 33 :: T) : r.step l df = if T.head? = some 91 then { r.add l { i := { text := [33, 91] } } 2 with openers := (r.add l { i := { text := [33, 91] } } 2).openers ++ [{ kind := 7, part := (r.add l { i := { text := [33, 91] } } 2).parts.length - 1, start := (r.add l { i := { text := [33, 91] } } 2).at0 - 1 }] } else r.pass 1 := by
  unfold Rd.step
  rw [hd]
  rfl
theorem has_two (t : Str8) (w : World) : Calls Tryz.prog 28 #[.string ⟨(33 :: t : Str8).toArray⟩, .string ⟨#[33, 91]⟩] w fun e w' => e = .returned (.bool (t.head? == some 91)) ∧ w' = w := by
  have := Tryz.strings_HasPrefix ⟨(33 :: t : Str8).toArray⟩ ⟨#[33, 91]⟩ w
  rw [list_data] at this
  have e : Lib.hasPrefix (33 :: t) (ByteArray.mk #[33, 91]).data.toList = (t.head? == some 91) := by
    cases t with
    | nil => rfl
    | cons a t =>
      rw [Bool.eq_iff_iff]
      simp [Lib.hasPrefix]
      exact eq_comm
  rw [e] at this
  exact this


set_option maxHeartbeats 4000000 in
set_option maxRecDepth 20000 in
theorem ibang_no {G : Nat → Obj → Prop} {B m n rb : Nat} {l : Str8} {look : Str8 → Option Df8} {w : World} {vp vo : Value} {xs : List Value} {r : Rd} (h : RdR G B l m n look w rb vp vo xs r) (ho : r.Ok l) (hl : l.length ≤ 1073741824) (df : List Df8) {T : Str8} (hd : l.drop r.at0 = 33 :: T) (hT1 : T.head? ≠ some 91) :
    Calls Tryz.prog 24 #[ptrB rb] w fun e w' => LeftR G B l m n look w rb (r.step l df) e w' := by
  have hBw : B ≤ w.heap.size := Nat.le_trans h.base (Nat.le_of_lt (blk.lt_of_block h.blk))
  have HR : Hid (∀ u : BwI w, RdR G B l m n look u.wo rb vp vo xs r) := fun u => h.below u.is
  have HBu : Hid (∀ u : BwI w, Below B w u.wo) := fun u => u.is.mono hBw
  have c0 := fun u : BwI w => (HR.out u).c.1
  have c1 := fun u : BwI w => (HR.out u).c.2.1
  have hbs := h.base
  have hli : (l.length : Int) ≤ 1073741824 := by omega
  rw [bang_step l r df hd, if_neg hT1]
  obtain ⟨hT, hat, hlen⟩ := drop_next hd
  have o1 := from_is l r.at0 (by omega) (by omega)
  rw [hd] at o1
  have hix : l[r.at0]'hat = 33 := by
    have := List.getElem_cons_drop hat
    rw [hd] at this
    exact (List.cons.inj this).1
  have hsz : r.at0 < (ByteArray.mk l.toArray).size := by rw [size_list]; exact hat
  have hby : (ByteArray.mk l.toArray)[r.at0]'hsz = 33 := by rw [byte_at, list_data, List.getD_eq_getElem?_getD, List.getElem?_eq_getElem hat, hix]; rfl
  have hszi : (r.at0 : Int) < ((ByteArray.mk l.toArray).size : Int) := by rw [size_list]; omega
  have hbb : (T.head? == some 91) = false := by simpa using hT1
  have HH : Hid (∀ u : BwI w, Calls Tryz.prog 28 #[.string ⟨(33 :: T : Str8).toArray⟩, .string ⟨#[33, 91]⟩] u.wo fun e w' => e = .returned (.bool false) ∧ ∃ u' : BwI w, w' = u'.wo) := fun u => by have q := has_two T u.wo; rw [hbb] at q; exact q.mono fun e w' q => ⟨q.1, u, q.2⟩
  have hati : (r.at0 : Int) + 1 ≤ (l.length : Int) := by omega
  clear h hd hT hix hT1 hbb
  go_enter Tryz.func24, Tryz.ntmps24
  go_wp2
  refine region_classI (fun w' => ∃ u : BwI w, w' = u.wo) (by kernel_rfl) (by kernel_rfl) (BwI.first w) ?_
  haveI := BwI.some w
  repeat (go_big_quiet_step (first | exact rfl))
  refine wpQuiet_nil ?_
  intro _ hw'
  obtain ⟨u, hu⟩ := hw'
  subst hu
  (try simp only [Exit.then])
  go_wp2
  refine region_classI (fun w' => ∃ u : BwI w, w' = u.wo) (by kernel_rfl) (by kernel_rfl) ⟨BwI.of (w := u.wo.drew) (u.is.trans ⟨rfl, rfl, rfl, Nat.le_refl _, fun _ _ => rfl⟩), rfl⟩ ?_
  haveI := BwI.some w
  repeat (go_big_quiet_step (first | (go_at_call 28; exact HH.out _) | exact rfl))
  refine wpQuiet_nil ?_
  intro _ hw'
  obtain ⟨u2, hu⟩ := hw'
  subst hu
  have hRV := HR.out u2
  have HBV := (show Hid (Below _ _ _) from HBu.out u2)
  generalize u2.wo = V at *
  clear HR HBu c0 c1
  have e1 := hRV.c.2.1
  have e2 := hRV.f 1
  have HF := (show Hid (RdR _ _ _ _ _ _ _ _ _ _ _ _) from hRV.num.1 (r.at0 + 1))
  have hsum : ((r.at0 + 1 : Nat) : Int) = (r.at0 : Int) + 1 := by omega
  rw [hsum] at HF
  clear hRV hsum
  (try simp only [Exit.then])
  go_wp2
  go_end0
  exact ⟨rfl, ⟨_, _, _, HF.out⟩, blk.below_set HBV.out hbs⟩

end Go.Proofs.YtjdijlaoeoikhaaGreatDoor
