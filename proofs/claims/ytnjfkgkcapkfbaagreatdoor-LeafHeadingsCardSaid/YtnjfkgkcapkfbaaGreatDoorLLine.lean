/- Package leaf: gaps, what parts, Closes, Underline, Heading; walked. -/
import Derived.Test.YtnjfkgkcapkfbaaGreatDoorLRow
import Derived.Test.YtnjfkgkcapkfbaaGreatDoorShelf
import Derived.Shelf.Strings.SlTrimAscii
import Derived.Deep.QuietTactic
import Derived.BigQuiet
import Derived.Deep.RegionWith
set_option linter.unusedVariables false
namespace Go.Proofs.YtnjfkgkcapkfbaaGreatDoor
open Go.RowKit

/-! ### Worlds below -/

/-- The worlds that are as w0 below its end. -/
def BelW (w0 : World) : Type := { u : World // Below w0.heap.size w0 u }
def BelW.of {w0 w : World} (h : Below w0.heap.size w0 w) : BelW w0 := ⟨w, h⟩
def BelW.wo {w0 : World} (u : BelW w0) : World := u.1
theorem BelW.is {w0 : World} (u : BelW w0) : Below w0.heap.size w0 u.wo := u.2
theorem below_next {w0 w w' : World} (h : Below w0.heap.size w0 w) (hb : Below w.heap.size w w') : Below w0.heap.size w0 w' := h.trans (hb.mono h.size)
theorem below_drewK {B : Nat} {w0 w : World} (h : Below B w0 w) : Below B w0 w.drew := h.trans ⟨rfl, rfl, rfl, Nat.le_refl _, fun k hk => rfl⟩

/-- A region that draws its order, each of whose operations answers the same in every world of a class and leaves a world of it. -/
theorem region_class {P : Program} {id : Nat} {Q : Exit → Act → World → Prop} {a : Act} {w : World} {l : List Oper} (C : World → Prop) (hm : P.follows .mixedOrders = true) (hB : Region.lexB .any l.toArray = true) (hC : C w.drew)
    (h : wpQuiet P l.toArray C (fun a' => ∀ w', C w' → Q .normal a' w') l a) : (Code.region id l.toArray true).wp P Q a w :=
  wp_region_quiet (C := C) hm hB hC (by simpa using h)

theorem bq {w0 : World} {f : FuncId} {args : Array Value} {v : Value} (h : ∀ w, Calls Tryz.prog f args w fun e w' => e = .returned v ∧ Below w.heap.size w w') (u : BelW w0) : Calls Tryz.prog f args u.wo fun e w' => e = .returned v ∧ ∃ u' : BelW w0, w' = u'.wo :=
  (h u.wo).mono fun _ w' ⟨he, hb⟩ => ⟨he, BelW.of (below_next u.is hb), rfl⟩

/-! ### Trimming -/

theorem trim_at (s cs : ByteArray) (hs : s.size ≤ 9223372036854775000) (hcs : cs.size < 100) (ha : cs.data.toList.all (fun b => decide (b.toNat < 128)) = true) (r : ByteArray) (hr : r = ⟨(Lib.trimS s.data.toList cs.data.toList).toArray⟩) (w : World) :
    Calls Tryz.prog 21 #[.string s, .string cs] w fun e w' => e = .returned (.string r) ∧ Below w.heap.size w w' := by
  rw [hr]
  exact Go.Proofs.Any.strings_Trim_laid Tryz.lays160 (by kernel_rfl) s cs w (by omega) (by omega) (Go.Proofs.ascii_of_all ha)

theorem trimRight_at (s cs : ByteArray) (hs : s.size ≤ 9223372036854775000) (hcs : cs.size < 100) (ha : cs.data.toList.all (fun b => decide (b.toNat < 128)) = true) (r : ByteArray) (hr : r = ⟨(Lib.trimRightS s.data.toList cs.data.toList).toArray⟩) (w : World) :
    Calls Tryz.prog 48 #[.string s, .string cs] w fun e w' => e = .returned (.string r) ∧ Below w.heap.size w w' := by
  rw [hr]
  exact Go.Proofs.Any.strings_TrimRight_laid Tryz.lays162 (by kernel_rfl) s cs w (by omega) (by omega) (Go.Proofs.ascii_of_all ha)

theorem nil_text (x : ByteArray) (b : Bool) (h : x.data.toList.isEmpty = b) : x.toList.isEmpty = b := by rw [ByteArray.toList_eq]; exact h

theorem lgap_any (s : ByteArray) (hs : s.size ≤ 9223372036854775000) (w : World) :
    Calls Tryz.prog 32 #[.string s] w fun e w' => e = .returned (.bool (s.data.toList.all gapB)) ∧ Below w.heap.size w w' := by
  obtain ⟨r, hr⟩ : ∃ r : ByteArray, r = ⟨(trimG s.data.toList).toArray⟩ := ⟨_, rfl⟩
  have HT := (show Hid _ from fun w => trim_at s ⟨#[32, 9]⟩ hs (by decide) (by decide) r hr w)
  have he : r.toList.isEmpty = s.data.toList.all gapB := nil_text r _ (by rw [hr]; exact gap_nil _)
  clear hr
  cases hb : s.data.toList.all gapB
  all_goals
    rw [hb] at he
    clear hb
    go_enter Tryz.func32, Tryz.ntmps32
    go_wp2_with (go_at_call 21; refine (HT.out _).mono ?_; rintro e w1 ⟨rfl, hb1⟩)
    go_ret
    exact ⟨rfl, hb1⟩

theorem lparted_any (s : ByteArray) (w : World) :
    Calls Tryz.prog 23 #[.string s] w fun e w' => e = .returned (.bool (partedL s.data.toList)) ∧ w' = w := by
  cases hl : s.data.toList with
  | nil =>
    have he : s.toList.isEmpty = true := nil_text s _ (by rw [hl]; rfl)
    go_enter Tryz.func23, Tryz.ntmps23
    go_wp2
    go_ret
    exact ⟨rfl, rfl⟩
  | cons b t =>
    have he : s.toList.isEmpty = false := nil_text s _ (by rw [hl]; rfl)
    have hz : 0 < s.size := by rw [← len_data, hl]; simp
    have hb0 : s[0] = b := by have := (Suf.head hl).byte (by rw [pos_of (p := []) hl]; exact hz); simpa [pos_of (p := []) hl] using this
    have HG : Hid (partedL (b :: t) = (decide (b.toNat = 32) || decide (b.toNat = 9))) := by
      show gapB b = _
      unfold gapB
      rw [← eqN b 32 (by omega), ← eqN b 9 (by omega)]
      rfl
    have hcase : b.toNat = 32 ∨ b.toNat = 9 ∨ (b.toNat ≠ 32 ∧ b.toNat ≠ 9) := by omega
    clear hl
    rcases hcase with h | h | ⟨h, h'⟩
    · have q : (b.toNat : Int) = 32 := by omega
      go_enter Tryz.func23, Tryz.ntmps23
      go_wp2
      go_ret
      exact ⟨ret_bool (by rw [HG.out, h]; rfl), rfl⟩
    · have q : (b.toNat : Int) = 9 := by omega
      go_enter Tryz.func23, Tryz.ntmps23
      go_wp2
      go_ret
      exact ⟨ret_bool (by rw [HG.out, h]; rfl), rfl⟩
    · have q : ¬ (b.toNat : Int) = 32 := by omega
      have q2 : ¬ (b.toNat : Int) = 9 := by omega
      go_enter Tryz.func23, Tryz.ntmps23
      go_wp2
      go_ret
      exact ⟨ret_bool (by rw [HG.out, decide_eq_false h, decide_eq_false h', beq_eq_false_iff_ne.2 q, beq_eq_false_iff_ne.2 q2]), rfl⟩

/-! ### Closes, Underline -/

theorem ext_from (s : ByteArray) (k : Nat) : (s.extract k s.size).data.toList = s.data.toList.drop k := by rw [extract_end]
theorem ext_size (s : ByteArray) (k : Nat) : (s.extract k s.size).size ≤ s.size := by rw [ByteArray.size_extract]; omega

theorem lcloses_any (s : ByteArray) (hs : s.size ≤ 9223372036854775000) (c : UInt8) (n : Int) (hn : -9223372036854775808 ≤ n ∧ n ≤ 9223372036854775807) (w : World) :
    Calls Tryz.prog 14 #[.string s, .int .u8 (c.toNat : Int), .int .i64 n] w fun e w' => e = .returned (.bool (closesL s.data.toList c n)) ∧ Below w.heap.size w w' := by
  have hkl : runB c s.data.toList ≤ s.size := by have := row_le (· == c) s.data.toList; rw [len_data] at this; exact this
  have HC : Hid (closesL s.data.toList c n = (decide (max n 1 ≤ (runB c s.data.toList : Int)) && (s.data.toList.drop (runB c s.data.toList)).all gapB)) := rfl
  have HR := (show Hid _ from fun w => lrun_any s hs c w)
  have HG := (show Hid _ from fun w => lgap_any (s.extract (runB c s.data.toList) s.size) (by have := ext_size s (runB c s.data.toList); omega) w)
  rw [ext_from] at HG
  generalize runB c s.data.toList = k at *
  generalize (s.data.toList.drop k).all gapB = b at *
  have hcase : (n < 1 ∧ (1 : Int) ≤ (k : Int)) ∨ (n < 1 ∧ (k : Int) < 1) ∨ (1 ≤ n ∧ n ≤ (k : Int)) ∨ (1 ≤ n ∧ (k : Int) < n) := by omega
  rcases hcase with ⟨h1, h2⟩ | ⟨h1, h2⟩ | ⟨h1, h2⟩ | ⟨h1, h2⟩
  · have HE : Hid (closesL s.data.toList c n = b) := by show _ = _; rw [HC.out, decide_eq_true (by omega)]; rfl
    go_enter Tryz.func14, Tryz.ntmps14
    go_wp2_with (first
      | (go_at_call 22; refine (HR.out _).mono ?_; rintro e w1 ⟨rfl, hb1⟩)
      | (go_at_call 32; refine (HG.out _).mono ?_; rintro e w2 ⟨rfl, hb2⟩))
    go_ret
    exact ⟨ret_bool HE.out.symm, below_next hb1 hb2⟩
  · have HE : Hid (closesL s.data.toList c n = false) := by show _ = _; rw [HC.out, decide_eq_false (by omega)]; rfl
    go_enter Tryz.func14, Tryz.ntmps14
    go_wp2_with (go_at_call 22; refine (HR.out _).mono ?_; rintro e w1 ⟨rfl, hb1⟩)
    go_ret
    exact ⟨ret_bool HE.out.symm, hb1⟩
  · have HE : Hid (closesL s.data.toList c n = b) := by show _ = _; rw [HC.out, decide_eq_true (by omega)]; rfl
    go_enter Tryz.func14, Tryz.ntmps14
    go_wp2_with (first
      | (go_at_call 22; refine (HR.out _).mono ?_; rintro e w1 ⟨rfl, hb1⟩)
      | (go_at_call 32; refine (HG.out _).mono ?_; rintro e w2 ⟨rfl, hb2⟩))
    go_ret
    exact ⟨ret_bool HE.out.symm, below_next hb1 hb2⟩
  · have HE : Hid (closesL s.data.toList c n = false) := by show _ = _; rw [HC.out, decide_eq_false (by omega)]; rfl
    go_enter Tryz.func14, Tryz.ntmps14
    go_wp2_with (go_at_call 22; refine (HR.out _).mono ?_; rintro e w1 ⟨rfl, hb1⟩)
    go_ret
    exact ⟨ret_bool HE.out.symm, hb1⟩

set_option maxHeartbeats 1000000 in
theorem lunder_any (s : ByteArray) (hs : s.size ≤ 9223372036854775000) (w : World) :
    Calls Tryz.prog 18 #[.string s] w fun e w' => e = .returned (.int .i64 (underL s.data.toList : Int)) ∧ Below w.heap.size w w' := by
  have H1 := (show Hid _ from fun w => lcloses_any s hs 61 1 (by omega) w)
  have H2 := (show Hid _ from fun w => lcloses_any s hs 45 1 (by omega) w)
  have HU : Hid (underL s.data.toList = if closesL s.data.toList 61 1 = true then 1 else if closesL s.data.toList 45 1 = true then 2 else 0) := rfl
  generalize closesL s.data.toList 61 1 = b1 at *
  generalize closesL s.data.toList 45 1 = b2 at *
  go_enter Tryz.func18, Tryz.ntmps18
  go_wp2
  go_loopw [] (fun wr => ∃ p : Nat, p ≤ 2 ∧ Hid (wr.heap[w.heap.size]? = some (.stringIter ⟨#[61, 45]⟩ p)) ∧ Hid (Below w.heap.size w wr) ∧ Hid (0 < p → b1 = false) ∧ Hid (1 < p → b2 = false)) (fun wr => 2 - wr.iterPos w.heap.size)
  case atStart => exact ⟨0, by omega, World.iter_heap w _ 0, (Below.refl _ _).alloc (Nat.le_refl _) _, fun h => by omega, fun h => by omega⟩
  case round =>
    obtain ⟨p, hp, hit, hbw, g1, g2⟩ := hrel
    have hsz : w.heap.size < wr.heap.size := (Array.getElem?_eq_some_iff.1 hit.out).1
    have hcase : p = 0 ∨ p = 1 ∨ p = 2 := by omega
    rcases hcase with rfl | rfl | rfl
    · have hnx : ∀ ty, (Instr.next (.pointer (some ⟨w.heap.size, 0, none⟩)) true ty).run Tryz.prog wr = .ok (.tuple #[.bool true, .int .i64 0, .int .i32 61]) (wr.iterAt w.heap.size ⟨#[61, 45]⟩ 1) := fun ty => Lib.run_next_ascii_at wr w.heap.size ⟨#[61, 45]⟩ 0 ty hit.out (by decide) (by decide)
      have HI := (show Hid _ from Lib.iterAt_heap wr w.heap.size ⟨#[61, 45]⟩ 0 1 hit.out)
      have HB := (show Hid _ from Lib.below_iterAt hbw.out (k := w.heap.size) (Nat.le_refl _) ⟨#[61, 45]⟩ 1)
      have HZ : Hid ((wr.iterAt w.heap.size ⟨#[61, 45]⟩ 1).heap.size = wr.heap.size) := Lib.iterAt_size ..
      have HP := (show Hid _ from iterPos_of hit.out)
      cases b1
      · go_wp2_with (go_at_call 14; refine (H1.out _).mono ?_; rintro e w2 ⟨rfl, hb2⟩)
        go_roundw
        case rel => exact ⟨1, by omega, (hb2.block _ (by rw [HZ.out]; exact hsz)).trans HI.out, HB.out.trans (hb2.mono (by rw [HZ.out]; omega)), fun _ => trivial, fun h => by omega⟩
        case measure => rw [HP.out, iterPos_of ((hb2.block _ (by rw [HZ.out]; exact hsz)).trans HI.out)]; omega
      · go_wp2_with (go_at_call 14; refine (H1.out _).mono ?_; rintro e w2 ⟨rfl, hb2⟩)
        go_ret
        exact ⟨ret_int (by rw [HU.out]; rfl), HB.out.trans (hb2.mono (by rw [HZ.out]; omega))⟩
    · have hnx : ∀ ty, (Instr.next (.pointer (some ⟨w.heap.size, 0, none⟩)) true ty).run Tryz.prog wr = .ok (.tuple #[.bool true, .int .i64 1, .int .i32 45]) (wr.iterAt w.heap.size ⟨#[61, 45]⟩ 2) := fun ty => Lib.run_next_ascii_at wr w.heap.size ⟨#[61, 45]⟩ 1 ty hit.out (by decide) (by decide)
      have HI := (show Hid _ from Lib.iterAt_heap wr w.heap.size ⟨#[61, 45]⟩ 1 2 hit.out)
      have HB := (show Hid _ from Lib.below_iterAt hbw.out (k := w.heap.size) (Nat.le_refl _) ⟨#[61, 45]⟩ 2)
      have HZ : Hid ((wr.iterAt w.heap.size ⟨#[61, 45]⟩ 2).heap.size = wr.heap.size) := Lib.iterAt_size ..
      have HP := (show Hid _ from iterPos_of hit.out)
      have HF := (show Hid _ from g1.out (by omega))
      cases b2
      · go_wp2_with (go_at_call 14; refine (H2.out _).mono ?_; rintro e w2 ⟨rfl, hb2⟩)
        go_roundw
        case rel => exact ⟨2, by omega, (hb2.block _ (by rw [HZ.out]; exact hsz)).trans HI.out, HB.out.trans (hb2.mono (by rw [HZ.out]; omega)), fun _ => HF.out, fun h => trivial⟩
        case measure => rw [HP.out, iterPos_of ((hb2.block _ (by rw [HZ.out]; exact hsz)).trans HI.out)]; omega
      · go_wp2_with (go_at_call 14; refine (H2.out _).mono ?_; rintro e w2 ⟨rfl, hb2⟩)
        go_ret
        exact ⟨ret_int (by rw [HU.out, HF.out]; rfl), HB.out.trans (hb2.mono (by rw [HZ.out]; omega))⟩
    · have hnx : ∀ ty, (Instr.next (.pointer (some ⟨w.heap.size, 0, none⟩)) true ty).run Tryz.prog wr = .ok (.tuple #[.bool false]) wr := fun ty => Lib.run_next_end_at wr w.heap.size ⟨#[61, 45]⟩ 2 ty hit.out (by decide)
      have HF := (show Hid _ from g1.out (by omega))
      have HF2 := (show Hid _ from g2.out (by omega))
      go_wp2
      go_ret
      exact ⟨ret_int (by rw [HU.out, HF.out, HF2.out]; rfl), hbw.out⟩

end Go.Proofs.YtnjfkgkcapkfbaaGreatDoor
