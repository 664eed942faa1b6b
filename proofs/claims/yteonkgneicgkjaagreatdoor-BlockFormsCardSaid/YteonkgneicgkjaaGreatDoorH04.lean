
/- Several texts in one. -/
import Derived.Test.YteonkgneicgkjaaGreatDoorG50
import Derived.Test.YteonkgneicgkjaaGreatDoorH01
import Derived.Laws.Strings3
import Derived.Test.YteonkgneicgkjaaGreatDoorH03
set_option linter.unusedVariables false
/- What the laws' texts are put together of. -/
namespace Go.Proofs.YteonkgneicgkjaaGreatDoor
open Go.RowKit

/-- What the lines of a text are like. -/
theorem lines_ok (l : Str) : (∀ x ∈ lines l, ∀ c ∈ x, notEnd c = true) ∧ (∀ x ∈ lines l, x.length ≤ l.length) ∧ (lines l).length ≤ l.length := by
  have key : ∀ (f i : Nat), ∀ x ∈ linesF l f i, (∀ c ∈ x, notEnd c = true) ∧ x.length ≤ l.length := by
    intro f
    induction f with
    | zero => intro i x hx; cases hx
    | succ f ih =>
      intro i x hx
      simp only [linesF] at hx
      split at hx
      · rcases List.mem_cons.1 hx with q | q
        · subst q
          constructor
          · intro c hc
            exact List.all_eq_true.1 (List.all_takeWhile (p := notEnd) (l := l.drop i)) c hc
          · have h1 := (List.takeWhile_prefix (p := notEnd) (l := l.drop i)).length_le
            rw [List.length_drop] at h1
            omega
        · exact ih _ x q
      · cases hx
  exact ⟨fun x hx => (key _ _ x hx).1, fun x hx => (key _ _ x hx).2, linesF_le l _ _⟩

abbrev indT (ls : List Str) : Str := ls.flatMap (fun x => [32, 32, 32, 32] ++ x ++ [10])
abbrev catT (ls : List Str) : Str := ls.flatMap (fun x => x ++ [10])
def fenceL1 (c : UInt8) : Bool := c == 96 || c == 126
def closeT (ls : List Str) : Bool := ls.any (fun x => x.any fenceL1)

end Go.Proofs.YteonkgneicgkjaaGreatDoor

/- BlockForms: each block has just what a block of its kind has; walked. -/
namespace Go.Proofs.YteonkgneicgkjaaGreatDoor
open Go.RowKit
open cur (cell_blk)

theorem cost_atF (l : Str) : ∀ (f i : Nat), costL (linesF l f i) ≤ 300 * (l.length - i)
  | 0, i => Nat.zero_le _
  | f + 1, i => by
    simp only [linesF]
    split
    · rename_i h
      have h1 := next_gt h
      have h2 := cost_atF l f (nextAt l i)
      have h3 : ((l.drop i).takeWhile notEnd).length ≤ nextAt l i - i := by
        have : i + ((l.drop i).takeWhile notEnd).length = stopAt l i := rfl
        have h4 : nextAt l i = stopAt l i + endAt l (stopAt l i) := rfl
        omega
      simp only [costL]
      omega
    · exact Nat.zero_le _
theorem par_forms (l : Str) (hl : l.length ≤ 4096) : (parseL l).1.formed false ∧ Dok (parseL l).2 ∧ (parseL l).1.deep ≤ 24 := by
  obtain ⟨o1, o2, o3⟩ := lines_ok l
  have hc : costL (lines l) ≤ 300 * l.length := cost_atF l (l.length - 0) 0
  have h1 := parse_formed (lines l) (fun x hx => by have := o2 x hx; omega) (fun x hx c hc e => by have := o1 x hx c hc; rw [e] at this; cases this) (by omega)
  exact ⟨h1.1, h1.2, parse_deep (lines l) (fun x hx => by have := o2 x hx; omega) (by omega)⟩
theorem mk_ne {a b : Str} (h : a ≠ b) : ((ByteArray.mk a.toArray).toList == (ByteArray.mk b.toArray).toList) = false := by
  rw [ByteArray.toList_eq, ByteArray.toList_eq, list_data, list_data]
  simpa using h

/-- A region that draws its order, each of whose operations answers the same in every world of a class and leaves a world of it. -/
theorem region_class7 {P : Program} {id : Nat} {Q : Exit → Act → World → Prop} {a : Act} {w : World} {l : List Oper} (C : World → Prop) (hm : P.follows .mixedOrders = true) (hB : Region.lexB .any l.toArray = true) (hC : C w.drew)
    (h : wpQuiet P l.toArray C (fun a' => ∀ w', C w' → Q .normal a' w') l a) : (Code.region id l.toArray true).wp P Q a w :=
  wp_region_quiet (C := C) hm hB hC (by simpa using h)

namespace blockForms

set_option maxHeartbeats 8000000 in
set_option maxRecDepth 60000 in
theorem walk (s0 : ByteArray) (w0 : s0.size ≤ 140737488351232) (w : World) (hm : MLen w) :
    Calls Tryz.prog 7 #[.string s0] w fun e w' => e = .returned (.bool true) ∧ Below w.heap.size w w' := by
  have hs0 : Value.string s0 = strV s0.data.toList := by show _ = Value.string ⟨s0.data⟩; rfl
  rw [hs0]
  have hl0 : s0.data.toList.length ≤ 140737488351232 := by rw [len_data]; exact w0
  generalize s0.data.toList = l0 at *
  clear hs0
  have hlk : (l0.take 4096).length ≤ 4096 := by rw [List.length_take]; omega
  have HSh : Hid (Calls Tryz.prog 9 #[] w fun e w' => e = .returned (.bool true) ∧ Below w.heap.size w w') := bshown_any w hm
  have HSo : Hid (∀ w, Calls Tryz.prog 10 #[strV l0] w fun e w' => e = .returned (strV (l0.take 4096)) ∧ w' = w) := fun w => bshort_any l0 hl0 w
  generalize l0.take 4096 = l1 at *
  have HPs : Hid (∀ u, MLen u → Calls Tryz.prog 12 #[strV l1] u fun e w' => ∃ v1 v2, e = .returned (.tuple #[v1, v2]) ∧ KidsV w' (fun g => u.heap.size ≤ g) (fun g => u.heap.size ≤ g) v1 (parseL l1).1 ∧ w'.ownsRow 0 40 3 v2 (parseL l1).2.length (defCs (parseL l1).2) ∧ Below u.heap.size u w') := fun u hM => (bparse_any l1 (by omega) u hM).mono fun e w' ⟨v1, v2, q1, q2, q3, _, q5⟩ => ⟨v1, v2, q1, q2, q3, q5⟩
  obtain ⟨p1, p2, p3⟩ := par_forms l1 hlk
  have HP1 := (show Hid _ from p1)
  have HP2 := (show Hid _ from p2)
  have HP3 := (show Hid _ from p3)
  clear hlk hl0 w0 p1 p2 p3
  generalize parseL l1 = PP at *
  obtain ⟨KK, DD⟩ := PP
  simp only at HP1 HP2 HP3 HPs
  go_enter Tryz.func7, Tryz.ntmps7
  go_wp2_with (first
    | (go_at_call 9; refine Calls.mono HSh.out ?_; rintro e u1 ⟨rfl, hb1⟩; have HB1 := (show Hid _ from hb1); clear hb1)
    | (go_at_call 10; refine (HSo.out _).mono ?_; rintro e u2 ⟨rfl, hw⟩; subst u2)
    | (go_at_call 12; refine Calls.mono (HPs.out u1 (hm.below HB1.out)) ?_; rintro e u3 ⟨v1, v2, rfl, k1, k2, hb3⟩; have HB3 : Hid (Below w.heap.size w u3) := HB1.out.trans (hb3.mono HB1.out.size); have HK1 := (show Hid _ from k1); have HK2 := (show Hid _ from k2); clear k1 hb3))
  have hmx : DD.length ≤ maxLen := by
    rcases k2.2 with ⟨_, q⟩ | ⟨_, _, _, _, _, _, q1, q2, _⟩
    · omega
    · omega
  unfold maxLen at hmx
  obtain ⟨a1, c1, rfl, _⟩ := row_slice k2
  clear k2 HSh HSo HPs
  go_loopw [6] (fun t wr => ∃ i : Nat, t = .int .i64 (i : Int) ∧ i ≤ DD.length ∧ Hid (Below u3.heap.size u3 wr)) (fun t _ => DD.length - (intOf t).toNat)
  case atStart => exact ⟨0, rfl, Nat.zero_le _, Below.refl _ _⟩
  case round =>
    obtain ⟨i, rfl, hi, HW⟩ := hrel
    by_cases hlt : i < DD.length
    · have hlt' : (i : Int) < (DD.length : Int) := by omega
      obtain ⟨x, hx⟩ : ∃ x, DD[i]? = some x := ⟨_, List.getElem?_eq_getElem hlt⟩
      obtain ⟨y1, y2, y3⟩ := HP2.out.each x (List.mem_of_getElem? hx)
      obtain ⟨g1, c2, he1, _, f1⟩ := row_at (row_keeps HK2.out (fun g hg => HW.out.block g (World.ownsRow.lt HK2.out g hg).2)) (by omega)
      cases he1
      have x0 := f1 _ _ (defCs_at DD i x hx).1
      have HF1 := (show Hid _ from f1)
      have HXc : Hid (∀ u, Below u3.heap.size u3 u → u.cell? ⟨g1, i * 3, none⟩ = some (.string ⟨x.1.toArray⟩)) := fun u hu => by
        obtain ⟨g', c', he, _, f⟩ := row_at (row_keeps HK2.out (fun g hg => hu.block g (World.ownsRow.lt HK2.out g hg).2)) (by omega)
        cases he
        exact f _ _ (defCs_at DD i x hx).1
      simp only [strV] at x0
      have HFo : Hid (∀ u, Calls Tryz.prog 18 #[.string ⟨x.1.toArray⟩] u fun e w' => e = .returned (.string ⟨x.1.toArray⟩) ∧ Below u.heap.size u w') := fun u => (run.fold_any x.1 u (by omega)).mono fun e w' q => by rw [y2] at q; exact q
      have hnl : ¬ (ByteArray.mk x.1.toArray).toList = [] := fun e => by rw [ByteArray.toList_eq, list_data] at e; exact y1 e
      have hnb : (ByteArray.mk x.1.toArray).toList.isEmpty = false := by
        cases hq : (ByteArray.mk x.1.toArray).toList with
        | nil => exact absurd hq hnl
        | cons _ _ => rfl
      have HNe : Hid (∀ j y, j < i → DD[j]? = some y → ((ByteArray.mk y.1.toArray).toList == (ByteArray.mk x.1.toArray).toList) = false) := fun j y hj hy => mk_ne (fun e => by
        have hn := HP2.out.apart
        have h1 : (DD.map (·.1))[j]? = some y.1 := by rw [List.getElem?_map, hy]; rfl
        have h2 : (DD.map (·.1))[i]? = some x.1 := by rw [List.getElem?_map, hx]; rfl
        have := (List.getElem?_inj (by rw [List.length_map]; omega) hn).1 (h1.trans ((congrArg some e).trans h2.symm))
        omega)
      clear f1 hx y1 y2 y3
      generalize ByteArray.mk x.1.toArray = X at *
      go_wp2
      go_loopw [7] (fun t ur => ∃ j n : Nat, t = .int .i64 (j : Int) ∧ j ≤ i ∧ ur = wr.drewN n) (fun t _ => i - (intOf t).toNat)
      case atStart => exact ⟨0, 0, rfl, Nat.zero_le _, rfl⟩
      case round =>
        obtain ⟨j, nj, rfl, hj, rfl⟩ := hrel
        by_cases hjl : j < i
        · have hjl' : (j : Int) < (i : Int) := by omega
          obtain ⟨y, hy⟩ : ∃ y, DD[j]? = some y := ⟨_, List.getElem?_eq_getElem (by omega)⟩
          have t0 := fun n : Nat => (show (wr.drewN n).cell? ⟨g1, j * 3, none⟩ = _ from HF1.out _ _ (defCs_at DD j y hy).1)
          have x0 := fun n : Nat => (show (wr.drewN n).cell? ⟨g1, i * 3, none⟩ = _ from x0)
          simp only [strV] at t0
          have hne := HNe.out j y hjl hy
          have hjd : (j : Int) < (DD.length : Int) := by omega
          clear hy HF1 HNe
          generalize ByteArray.mk y.1.toArray = Y at *
          go_wp2
          go_quiet (fail)
          go_wp2
          go_roundw
          case rel => exact ⟨j + 1, _, by go_num, by omega, rfl⟩
          case measure => simp [intOf]; omega
        · have hjg : ¬ (j : Int) < (i : Int) := by omega
          clear HF1 HNe
          have x0 := fun n : Nat => (show (wr.drewN n).cell? ⟨g1, i * 3, none⟩ = _ from x0)
          have xu := fun u : BwW u3 => HXc.out u.wo u.is
          have QF : Hid (∀ u : BwW u3, Calls Tryz.prog 18 #[.string X] u.wo fun e w' => e = .returned (.string X) ∧ ∃ u' : BwW u3, w' = u'.wo) := fun u => (HFo.out u.wo).mono fun e w' q => ⟨q.1, BwW.of (u.is.trans (q.2.mono u.is.size)), rfl⟩
          go_wp2
          refine region_class7 (fun w' => ∃ u : BwW u3, w' = u.wo) (by kernel_rfl) (by kernel_rfl) ⟨BwW.of (cur.below_drewN (cur.below_drewN HW.out nj) 1), rfl⟩ ?_
          haveI := BwW.some u3
          repeat (go_big_quiet_step ((go_at_call 18; exact QF.out _)))
          refine wpQuiet_nil ?_
          intro _ hw'
          obtain ⟨u, hu⟩ := hw'
          subst hu
          have HU := (show Hid (Below u3.heap.size u3 u.wo) from u.is)
          go_wp2
          go_roundw
          case rel => exact ⟨i + 1, by go_num, by omega, HU⟩
          case measure => simp [intOf]; omega
    · have hge : ¬ (i : Int) < (DD.length : Int) := by omega
      have hdg : (KK.deep : Int) ≤ 24 := by have := HP3.out; omega
      have HKw := (show Hid _ from KidsV.keeps HK1.out (fun _ q => q) (fun _ q => q) (fun g hg _ => HW.out.block g hg) (fun g hg _ => HW.out.block g hg))
      have HFm := (show Hid _ from bformed_any KK.size KK false (Nat.le_refl _) HP1.out wr v1 _ _ HKw.out)
      go_wp2_with (first
        | (go_at_call 19; refine Calls.mono HFm.out ?_; rintro e u5 ⟨rfl, hb5⟩; have HDe := (show Hid _ from bdeep_any KK.size KK (Nat.le_refl _) (by omega) u5 v1 _ _ (KidsV.keeps HKw.out (fun _ q => q) (fun _ q => q) (fun g hg _ => hb5.block g hg) (fun g hg _ => hb5.block g hg))); have HB5 : Hid (Below w.heap.size w u5) := HB3.out.trans ((HW.out.trans (hb5.mono HW.out.size)).mono HB3.out.size); clear hb5)
        | (go_at_call 16; refine Calls.mono HDe.out ?_; rintro e' u7 ⟨rfl, hu7⟩; subst u7))
      go_ret
      exact ⟨rfl, HB5.out⟩

end blockForms
end Go.Proofs.YteonkgneicgkjaaGreatDoor
