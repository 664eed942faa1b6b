/- Several texts in one. -/
import Derived.Test.YtcbojffcnlkejaaGreatDoorLRow
import Derived.Test.YtcbojffcnlkejaaGreatDoorShelf
import Derived.Shelf.Strings.SlTrimAscii
import Derived.Deep.QuietTactic
import Derived.BigQuiet
import Derived.Deep.RegionWith
set_option linter.unusedVariables false
/- Package leaf: gaps, what parts, Closes, Underline, Heading; walked. -/
namespace Go.Proofs.YtcbojffcnlkejaaGreatDoor
open Go.RowKit

/-! ### Worlds below -/

/-- The worlds that are as w0 below its end. -/
def BelW (w0 : World) : Type := { u : World // Below w0.heap.size w0 u }
def BelW.of {w0 w : World} (h : Below w0.heap.size w0 w) : BelW w0 := ⟨w, h⟩
def BelW.wo {w0 : World} (u : BelW w0) : World := u.1
theorem BelW.is {w0 : World} (u : BelW w0) : Below w0.heap.size w0 u.wo := u.2
theorem below_next {w0 w w' : World} (h : Below w0.heap.size w0 w) (hb : Below w.heap.size w w') : Below w0.heap.size w0 w' := h.trans (hb.mono h.size)
theorem below_drewK {B : Nat} {w0 w : World} (h : Below B w0 w) : Below B w0 w.drew := h.trans ⟨rfl, rfl, rfl, Nat.le_refl _, fun k hk => rfl⟩

/-- A region that draws its order, each of whose operations answers the same in every world of a class and leaves a world of it. -/
theorem region_class {P : Program} {id : Nat} {Q : Exit → Act → World → Prop} {a : Act} {w : World} {l : List Oper} (C : World → Prop) (hm : P.follows .mixedOrders = true) (hB : Region.lexB .any l.toArray = true) (hC : C w.drew)
    (h : wpQuiet P l.toArray C (fun a' => ∀ w', C w' → Q .normal a' w') l a) : (Code.region id l.toArray true).wp P Q a w :=
  wp_region_quiet (C := C) hm hB hC (by simpa using h)

theorem bq {w0 : World} {f : FuncId} {args : Array Value} {v : Value} (h : ∀ w, Calls Tryz.prog f args w fun e w' => e = .returned v ∧ Below w.heap.size w w') (u : BelW w0) : Calls Tryz.prog f args u.wo fun e w' => e = .returned v ∧ ∃ u' : BelW w0, w' = u'.wo :=
  (h u.wo).mono fun _ w' ⟨he, hb⟩ => ⟨he, BelW.of (below_next u.is hb), rfl⟩

/-! ### Trimming -/

theorem trim_at (s cs : ByteArray) (hs : s.size ≤ 9223372036854775000) (hcs : cs.size < 100) (ha : cs.data.toList.all (fun b => decide (b.toNat < 128)) = true) (r : ByteArray) (hr : r = ⟨(Lib.trimS s.data.toList cs.data.toList).toArray⟩) (w : World) :
    Calls Tryz.prog 67 #[.string s, .string cs] w fun e w' => e = .returned (.string r) ∧ Below w.heap.size w w' := by
  rw [hr]
  exact Go.Proofs.Any.strings_Trim_laid Tryz.lays160 (by kernel_rfl) s cs w (by omega) (by omega) (Go.Proofs.ascii_of_all ha)

theorem trimRight_at (s cs : ByteArray) (hs : s.size ≤ 9223372036854775000) (hcs : cs.size < 100) (ha : cs.data.toList.all (fun b => decide (b.toNat < 128)) = true) (r : ByteArray) (hr : r = ⟨(Lib.trimRightS s.data.toList cs.data.toList).toArray⟩) (w : World) :
    Calls Tryz.prog 91 #[.string s, .string cs] w fun e w' => e = .returned (.string r) ∧ Below w.heap.size w w' := by
  rw [hr]
  exact Go.Proofs.Any.strings_TrimRight_laid Tryz.lays162 (by kernel_rfl) s cs w (by omega) (by omega) (Go.Proofs.ascii_of_all ha)

theorem nil_text (x : ByteArray) (b : Bool) (h : x.data.toList.isEmpty = b) : x.toList.isEmpty = b := by rw [ByteArray.toList_eq]; exact h

theorem lgap_any (s : ByteArray) (hs : s.size ≤ 9223372036854775000) (w : World) :
    Calls Tryz.prog 108 #[.string s] w fun e w' => e = .returned (.bool (s.data.toList.all gapB)) ∧ Below w.heap.size w w' := by
  obtain ⟨r, hr⟩ : ∃ r : ByteArray, r = ⟨(trimG s.data.toList).toArray⟩ := ⟨_, rfl⟩
  have HT := (show Hid _ from fun w => trim_at s ⟨#[32, 9]⟩ hs (by decide) (by decide) r hr w)
  have he : r.toList.isEmpty = s.data.toList.all gapB := nil_text r _ (by rw [hr]; exact gap_nil _)
  clear hr
  cases hb : s.data.toList.all gapB
  all_goals
    rw [hb] at he
    clear hb
    go_enter Tryz.func108, Tryz.ntmps108
    go_wp2_with (go_at_call 67; refine (HT.out _).mono ?_; rintro e w1 ⟨rfl, hb1⟩)
    go_ret
    exact ⟨rfl, hb1⟩

theorem lparted_any (s : ByteArray) (w : World) :
    Calls Tryz.prog 65 #[.string s] w fun e w' => e = .returned (.bool (partedL s.data.toList)) ∧ w' = w := by
  cases hl : s.data.toList with
  | nil =>
    have he : s.toList.isEmpty = true := nil_text s _ (by rw [hl]; rfl)
    go_enter Tryz.func65, Tryz.ntmps65
    go_wp2
    go_ret
    exact ⟨rfl, rfl⟩
  | cons b t =>
    have he : s.toList.isEmpty = false := nil_text s _ (by rw [hl]; rfl)
    have hz : 0 < s.size := by rw [← len_data, hl]; simp
    have hb0 : s[0] = b := by have := (Suf.head hl).byte (by rw [pos_of (p := []) hl]; exact hz); simpa [pos_of (p := []) hl] using this
    have HG : Hid (partedL (b :: t) = (decide (b.toNat = 32) || decide (b.toNat = 9))) := by
      show gapB b = _
      unfold gapB
      rw [← eqN b 32 (by omega), ← eqN b 9 (by omega)]
      rfl
    have hcase : b.toNat = 32 ∨ b.toNat = 9 ∨ (b.toNat ≠ 32 ∧ b.toNat ≠ 9) := by omega
    clear hl
    rcases hcase with h | h | ⟨h, h'⟩
    · have q : (b.toNat : Int) = 32 := by omega
      go_enter Tryz.func65, Tryz.ntmps65
      go_wp2
      go_ret
      exact ⟨ret_bool (by rw [HG.out, h]; rfl), rfl⟩
    · have q : (b.toNat : Int) = 9 := by omega
      go_enter Tryz.func65, Tryz.ntmps65
      go_wp2
      go_ret
      exact ⟨ret_bool (by rw [HG.out, h]; rfl), rfl⟩
    · have q : ¬ (b.toNat : Int) = 32 := by omega
      have q2 : ¬ (b.toNat : Int) = 9 := by omega
      go_enter Tryz.func65, Tryz.ntmps65
      go_wp2
      go_ret
      exact ⟨ret_bool (by rw [HG.out, decide_eq_false h, decide_eq_false h', beq_eq_false_iff_ne.2 q, beq_eq_false_iff_ne.2 q2]), rfl⟩

/-! ### Closes, Underline -/

theorem ext_from (s : ByteArray) (k : Nat) : (s.extract k s.size).data.toList = s.data.toList.drop k := by rw [extract_end]
theorem ext_size (s : ByteArray) (k : Nat) : (s.extract k s.size).size ≤ s.size := by rw [ByteArray.size_extract]; omega

theorem lcloses_any (s : ByteArray) (hs : s.size ≤ 9223372036854775000) (c : UInt8) (n : Int) (hn : -9223372036854775808 ≤ n ∧ n ≤ 9223372036854775807) (w : World) :
    Calls Tryz.prog 77 #[.string s, .int .u8 (c.toNat : Int), .int .i64 n] w fun e w' => e = .returned (.bool (closesL s.data.toList c n)) ∧ Below w.heap.size w w' := by
  have hkl : runB c s.data.toList ≤ s.size := by have := row_le (· == c) s.data.toList; rw [len_data] at this; exact this
  have HC : Hid (closesL s.data.toList c n = (decide (max n 1 ≤ (runB c s.data.toList : Int)) && (s.data.toList.drop (runB c s.data.toList)).all gapB)) := rfl
  have HR := (show Hid _ from fun w => lrun_any s hs c w)
  have HG := (show Hid _ from fun w => lgap_any (s.extract (runB c s.data.toList) s.size) (by have := ext_size s (runB c s.data.toList); omega) w)
  rw [ext_from] at HG
  generalize runB c s.data.toList = k at *
  generalize (s.data.toList.drop k).all gapB = b at *
  have hcase : (n < 1 ∧ (1 : Int) ≤ (k : Int)) ∨ (n < 1 ∧ (k : Int) < 1) ∨ (1 ≤ n ∧ n ≤ (k : Int)) ∨ (1 ≤ n ∧ (k : Int) < n) := by omega
  rcases hcase with ⟨h1, h2⟩ | ⟨h1, h2⟩ | ⟨h1, h2⟩ | ⟨h1, h2⟩
  · have HE : Hid (closesL s.data.toList c n = b) := by show _ = _; rw [HC.out, decide_eq_true (by omega)]; rfl
    go_enter Tryz.func77, Tryz.ntmps77
    go_wp2_with (first
      | (go_at_call 64; refine (HR.out _).mono ?_; rintro e w1 ⟨rfl, hb1⟩)
      | (go_at_call 108; refine (HG.out _).mono ?_; rintro e w2 ⟨rfl, hb2⟩))
    go_ret
    exact ⟨ret_bool HE.out.symm, below_next hb1 hb2⟩
  · have HE : Hid (closesL s.data.toList c n = false) := by show _ = _; rw [HC.out, decide_eq_false (by omega)]; rfl
    go_enter Tryz.func77, Tryz.ntmps77
    go_wp2_with (go_at_call 64; refine (HR.out _).mono ?_; rintro e w1 ⟨rfl, hb1⟩)
    go_ret
    exact ⟨ret_bool HE.out.symm, hb1⟩
  · have HE : Hid (closesL s.data.toList c n = b) := by show _ = _; rw [HC.out, decide_eq_true (by omega)]; rfl
    go_enter Tryz.func77, Tryz.ntmps77
    go_wp2_with (first
      | (go_at_call 64; refine (HR.out _).mono ?_; rintro e w1 ⟨rfl, hb1⟩)
      | (go_at_call 108; refine (HG.out _).mono ?_; rintro e w2 ⟨rfl, hb2⟩))
    go_ret
    exact ⟨ret_bool HE.out.symm, below_next hb1 hb2⟩
  · have HE : Hid (closesL s.data.toList c n = false) := by show _ = _; rw [HC.out, decide_eq_false (by omega)]; rfl
    go_enter Tryz.func77, Tryz.ntmps77
    go_wp2_with (go_at_call 64; refine (HR.out _).mono ?_; rintro e w1 ⟨rfl, hb1⟩)
    go_ret
    exact ⟨ret_bool HE.out.symm, hb1⟩

set_option maxHeartbeats 1000000 in
theorem lunder_any (s : ByteArray) (hs : s.size ≤ 9223372036854775000) (w : World) :
    Calls Tryz.prog 48 #[.string s] w fun e w' => e = .returned (.int .i64 (underL s.data.toList : Int)) ∧ Below w.heap.size w w' := by
  have H1 := (show Hid _ from fun w => lcloses_any s hs 61 1 (by omega) w)
  have H2 := (show Hid _ from fun w => lcloses_any s hs 45 1 (by omega) w)
  have HU : Hid (underL s.data.toList = if closesL s.data.toList 61 1 = true then 1 else if closesL s.data.toList 45 1 = true then 2 else 0) := rfl
  generalize closesL s.data.toList 61 1 = b1 at *
  generalize closesL s.data.toList 45 1 = b2 at *
  go_enter Tryz.func48, Tryz.ntmps48
  go_wp2
  go_loopw [] (fun wr => ∃ p : Nat, p ≤ 2 ∧ Hid (wr.heap[w.heap.size]? = some (.stringIter ⟨#[61, 45]⟩ p)) ∧ Hid (Below w.heap.size w wr) ∧ Hid (0 < p → b1 = false) ∧ Hid (1 < p → b2 = false)) (fun wr => 2 - wr.iterPos w.heap.size)
  case atStart => exact ⟨0, by omega, World.iter_heap w _ 0, (Below.refl _ _).alloc (Nat.le_refl _) _, fun h => by omega, fun h => by omega⟩
  case round =>
    obtain ⟨p, hp, hit, hbw, g1, g2⟩ := hrel
    have hsz : w.heap.size < wr.heap.size := (Array.getElem?_eq_some_iff.1 hit.out).1
    have hcase : p = 0 ∨ p = 1 ∨ p = 2 := by omega
    rcases hcase with rfl | rfl | rfl
    · have hnx : ∀ ty, (Instr.next (.pointer (some ⟨w.heap.size, 0, none⟩)) true ty).run Tryz.prog wr = .ok (.tuple #[.bool true, .int .i64 0, .int .i32 61]) (wr.iterAt w.heap.size ⟨#[61, 45]⟩ 1) := fun ty => Lib.run_next_ascii_at wr w.heap.size ⟨#[61, 45]⟩ 0 ty hit.out (by decide) (by decide)
      have HI := (show Hid _ from Lib.iterAt_heap wr w.heap.size ⟨#[61, 45]⟩ 0 1 hit.out)
      have HB := (show Hid _ from Lib.below_iterAt hbw.out (k := w.heap.size) (Nat.le_refl _) ⟨#[61, 45]⟩ 1)
      have HZ : Hid ((wr.iterAt w.heap.size ⟨#[61, 45]⟩ 1).heap.size = wr.heap.size) := Lib.iterAt_size ..
      have HP := (show Hid _ from iterPos_of hit.out)
      cases b1
      · go_wp2_with (go_at_call 77; refine (H1.out _).mono ?_; rintro e w2 ⟨rfl, hb2⟩)
        go_roundw
        case rel => exact ⟨1, by omega, (hb2.block _ (by rw [HZ.out]; exact hsz)).trans HI.out, HB.out.trans (hb2.mono (by rw [HZ.out]; omega)), fun _ => trivial, fun h => by omega⟩
        case measure => rw [HP.out, iterPos_of ((hb2.block _ (by rw [HZ.out]; exact hsz)).trans HI.out)]; omega
      · go_wp2_with (go_at_call 77; refine (H1.out _).mono ?_; rintro e w2 ⟨rfl, hb2⟩)
        go_ret
        exact ⟨ret_int (by rw [HU.out]; rfl), HB.out.trans (hb2.mono (by rw [HZ.out]; omega))⟩
    · have hnx : ∀ ty, (Instr.next (.pointer (some ⟨w.heap.size, 0, none⟩)) true ty).run Tryz.prog wr = .ok (.tuple #[.bool true, .int .i64 1, .int .i32 45]) (wr.iterAt w.heap.size ⟨#[61, 45]⟩ 2) := fun ty => Lib.run_next_ascii_at wr w.heap.size ⟨#[61, 45]⟩ 1 ty hit.out (by decide) (by decide)
      have HI := (show Hid _ from Lib.iterAt_heap wr w.heap.size ⟨#[61, 45]⟩ 1 2 hit.out)
      have HB := (show Hid _ from Lib.below_iterAt hbw.out (k := w.heap.size) (Nat.le_refl _) ⟨#[61, 45]⟩ 2)
      have HZ : Hid ((wr.iterAt w.heap.size ⟨#[61, 45]⟩ 2).heap.size = wr.heap.size) := Lib.iterAt_size ..
      have HP := (show Hid _ from iterPos_of hit.out)
      have HF := (show Hid _ from g1.out (by omega))
      cases b2
      · go_wp2_with (go_at_call 77; refine (H2.out _).mono ?_; rintro e w2 ⟨rfl, hb2⟩)
        go_roundw
        case rel => exact ⟨2, by omega, (hb2.block _ (by rw [HZ.out]; exact hsz)).trans HI.out, HB.out.trans (hb2.mono (by rw [HZ.out]; omega)), fun _ => HF.out, fun h => trivial⟩
        case measure => rw [HP.out, iterPos_of ((hb2.block _ (by rw [HZ.out]; exact hsz)).trans HI.out)]; omega
      · go_wp2_with (go_at_call 77; refine (H2.out _).mono ?_; rintro e w2 ⟨rfl, hb2⟩)
        go_ret
        exact ⟨ret_int (by rw [HU.out, HF.out]; rfl), HB.out.trans (hb2.mono (by rw [HZ.out]; omega))⟩
    · have hnx : ∀ ty, (Instr.next (.pointer (some ⟨w.heap.size, 0, none⟩)) true ty).run Tryz.prog wr = .ok (.tuple #[.bool false]) wr := fun ty => Lib.run_next_end_at wr w.heap.size ⟨#[61, 45]⟩ 2 ty hit.out (by decide)
      have HF := (show Hid _ from g1.out (by omega))
      have HF2 := (show Hid _ from g2.out (by omega))
      go_wp2
      go_ret
      exact ⟨ret_int (by rw [HU.out, HF.out, HF2.out]; rfl), hbw.out⟩

end Go.Proofs.YtcbojffcnlkejaaGreatDoor

/- Package leaf: Heading, Rule, Marker; walked. -/
namespace Go.Proofs.YtcbojffcnlkejaaGreatDoor
open Go.RowKit

theorem same_text (x y : ByteArray) (r : Bool) (h : decide (x.data.toList = y.data.toList) = r) : (x.toList == y.toList) = r := by
  rw [ByteArray.toList_eq, ByteArray.toList_eq, ← h, Bool.eq_iff_iff]
  simp

theorem trimRight_len (l cs : List UInt8) : (Lib.trimRightS l cs).length ≤ l.length := by
  unfold Lib.trimRightS
  rw [List.length_reverse]
  refine Nat.le_trans (dropWhile_le _ _) ?_
  rw [List.length_reverse]
  exact Nat.le_refl _

theorem lheadText_any (s : ByteArray) (hs : s.size ≤ 9223372036854775000) (w : World) :
    Calls Tryz.prog 66 #[.string s] w fun e w' => e = .returned (.string ⟨(headT s.data.toList).toArray⟩) ∧ Below w.heap.size w w' := by
  obtain ⟨a, ha⟩ : ∃ a : ByteArray, a = ⟨(Lib.trimRightS s.data.toList [35]).toArray⟩ := ⟨_, rfl⟩
  have had : a.data.toList = Lib.trimRightS s.data.toList [35] := by rw [ha]
  have has : a.size ≤ s.size := by rw [← len_data, had, ← len_data s]; exact trimRight_len _ _
  obtain ⟨t, ht⟩ : ∃ t : ByteArray, t = ⟨(Lib.trimRightS a.data.toList [32, 9]).toArray⟩ := ⟨_, rfl⟩
  have htd : t.data.toList = Lib.trimRightS a.data.toList [32, 9] := by rw [ht]
  have H1 := (show Hid _ from fun w => trimRight_at s ⟨#[35]⟩ hs (by decide) (by decide) a ha w)
  have H2 := (show Hid _ from fun w => trimRight_at a ⟨#[32, 9]⟩ (by omega) (by decide) (by decide) t ht w)
  have HH : Hid (headT s.data.toList = if t.data.toList = a.data.toList ∧ t.data.toList ≠ [] then s.data.toList else t.data.toList) := by
    show _ = _
    rw [htd, had]
    rfl
  clear ha ht had htd
  by_cases h1 : t.data.toList = a.data.toList
  · have q1 : (t.toList == a.toList) = true := same_text t a true (decide_eq_true h1)
    cases h2 : t.data.toList.isEmpty
    · have q2 : t.toList.isEmpty = false := nil_text t _ h2
      have HE : Hid (headT s.data.toList = s.data.toList) := by show _ = _; rw [HH.out, if_pos ⟨h1, by intro e; rw [e] at h2; cases h2⟩]
      clear h1 h2
      go_enter Tryz.func66, Tryz.ntmps66
      go_wp2_with (first
        | (go_at_call_of 91 (Value.string s); refine (H1.out _).mono ?_; rintro e w1 ⟨rfl, hb1⟩)
        | (go_at_call 91; refine (H2.out _).mono ?_; rintro e w2 ⟨rfl, hb2⟩))
      go_ret
      exact ⟨ret_str (by rw [HE.out, mk_data]), below_next hb1 hb2⟩
    · have q2 : t.toList.isEmpty = true := nil_text t _ h2
      have HE : Hid (headT s.data.toList = t.data.toList) := by show _ = _; rw [HH.out, if_neg (by rintro ⟨_, h⟩; exact h (List.isEmpty_iff.1 h2))]
      clear h1 h2
      go_enter Tryz.func66, Tryz.ntmps66
      go_wp2_with (first
        | (go_at_call_of 91 (Value.string s); refine (H1.out _).mono ?_; rintro e w1 ⟨rfl, hb1⟩)
        | (go_at_call 91; refine (H2.out _).mono ?_; rintro e w2 ⟨rfl, hb2⟩))
      go_ret
      exact ⟨ret_str (by rw [HE.out, mk_data]), below_next hb1 hb2⟩
  · have q1 : (t.toList == a.toList) = false := same_text t a false (decide_eq_false h1)
    have HE : Hid (headT s.data.toList = t.data.toList) := by show _ = _; rw [HH.out, if_neg (by rintro ⟨h, _⟩; exact h1 h)]
    clear h1
    go_enter Tryz.func66, Tryz.ntmps66
    go_wp2_with (first
      | (go_at_call_of 91 (Value.string s); refine (H1.out _).mono ?_; rintro e w1 ⟨rfl, hb1⟩)
      | (go_at_call 91; refine (H2.out _).mono ?_; rintro e w2 ⟨rfl, hb2⟩))
    go_ret
    exact ⟨ret_str (by rw [HE.out, mk_data]), below_next hb1 hb2⟩

/-- What Heading tells. -/
def headV (o : Nat × List UInt8) : Value := .tuple #[.int .i64 (o.1 : Int), .string ⟨o.2.toArray⟩]

theorem lheading_any (s : ByteArray) (hs : s.size ≤ 9223372036854775000) (w : World) :
    Calls Tryz.prog 40 #[.string s] w fun e w' => e = .returned (headV (headL s.data.toList)) ∧ Below w.heap.size w w' := by
  have hkl : runB 35 s.data.toList ≤ s.size := by have := row_le (· == 35) s.data.toList; rw [len_data] at this; exact this
  have HL : Hid (headL s.data.toList = if runB 35 s.data.toList < 1 ∨ 6 < runB 35 s.data.toList ∨ partedL (s.data.toList.drop (runB 35 s.data.toList)) = false then (0, []) else (runB 35 s.data.toList, headT (trimG (s.data.toList.drop (runB 35 s.data.toList))))) := rfl
  have HR := (show Hid _ from fun w => lrun_any s hs 35 w)
  obtain ⟨T, hT⟩ : ∃ T : ByteArray, T = s.extract (runB 35 s.data.toList) s.size := ⟨_, rfl⟩
  have hTs : T.size ≤ s.size := by rw [hT]; exact ext_size _ _
  have hTd : T.data.toList = s.data.toList.drop (runB 35 s.data.toList) := by rw [hT, ext_from]
  obtain ⟨R, hR⟩ : ∃ R : ByteArray, R = ⟨(trimG T.data.toList).toArray⟩ := ⟨_, rfl⟩
  have hRd : R.data.toList = trimG T.data.toList := by rw [hR]
  have hRs : R.size ≤ T.size := by rw [← len_data, hRd, ← len_data T]; exact trimG_len _
  have HP := (show Hid _ from fun w => lparted_any T w)
  have H1 := (show Hid _ from fun w => trim_at T ⟨#[32, 9]⟩ (by omega) (by decide) (by decide) R hR w)
  have H2 := (show Hid _ from fun w => lheadText_any R (by omega) w)
  rw [← hTd, ← hRd] at HL
  clear hR hRd hTd
  generalize partedL T.data.toList = pb at *
  rw [hT] at HP H1
  generalize runB 35 s.data.toList = k at *
  generalize headT R.data.toList = X at *
  clear hT
  by_cases h1 : k < 1
  · have HE : Hid (headL s.data.toList = (0, [])) := by show _ = _; rw [HL.out, if_pos (.inl h1)]
    have q1 : (k : Int) < 1 := by omega
    clear HL
    go_enter Tryz.func40, Tryz.ntmps40
    go_wp2_with (go_at_call 64; refine (HR.out _).mono ?_; rintro e w1 ⟨rfl, hb1⟩)
    go_ret2
    exact ⟨by rw [HE.out]; rfl, hb1⟩
  · have q1 : ¬ (k : Int) < 1 := by omega
    by_cases h2 : 6 < k
    · have HE : Hid (headL s.data.toList = (0, [])) := by show _ = _; rw [HL.out, if_pos (.inr (.inl h2))]
      have q2 : (6 : Int) < (k : Int) := by omega
      clear HL
      go_enter Tryz.func40, Tryz.ntmps40
      go_wp2_with (go_at_call 64; refine (HR.out _).mono ?_; rintro e w1 ⟨rfl, hb1⟩)
      go_ret2
      exact ⟨by rw [HE.out]; rfl, hb1⟩
    · have q2 : ¬ (6 : Int) < (k : Int) := by omega
      cases pb
      · have HE : Hid (headL s.data.toList = (0, [])) := by show _ = _; rw [HL.out, if_pos (.inr (.inr rfl))]
        clear HL
        go_enter Tryz.func40, Tryz.ntmps40
        go_wp2_with (first
          | (go_at_call 64; refine (HR.out _).mono ?_; rintro e w1 ⟨rfl, hb1⟩)
          | (go_at_call 65; refine (HP.out _).mono ?_; rintro e w2 ⟨rfl, hw⟩; subst w2))
        go_ret2
        exact ⟨by rw [HE.out]; rfl, hb1⟩
      · have HE : Hid (headL s.data.toList = (k, X)) := by show _ = _; rw [HL.out, if_neg (by rintro (h | h | h); exact h1 h; exact h2 h; cases h)]
        clear HL
        go_enter Tryz.func40, Tryz.ntmps40
        go_wp2_with (first
          | (go_at_call 64; refine (HR.out _).mono ?_; rintro e w1 ⟨rfl, hb1⟩)
          | (go_at_call 65; refine (HP.out _).mono ?_; rintro e w2 ⟨rfl, hw⟩; subst w2)
          | (go_at_call 67; refine (H1.out _).mono ?_; rintro e w3 ⟨rfl, hb3⟩)
          | (go_at_call 66; refine (H2.out _).mono ?_; rintro e w4 ⟨rfl, hb4⟩))
        go_ret2
        exact ⟨by rw [HE.out]; rfl, below_next (below_next hb1 hb3) hb4⟩

end Go.Proofs.YtcbojffcnlkejaaGreatDoor

/- Package leaf: Rule; walked. -/
namespace Go.Proofs.YtcbojffcnlkejaaGreatDoor
open Go.RowKit

theorem rule_cons (b : UInt8) (t : List UInt8) : ruleL (b :: t) = (([42, 45, 95] : List UInt8).elem b && decide (3 ≤ (b :: t).count b) && (Lib.trimS (b :: t) [b, 32, 9]).isEmpty) := by
  rw [trim_nil]
  have h1 : ([42, 45, 95] : List UInt8).elem b = (b == 42 || b == 45 || b == 95) := by
    rw [Bool.eq_iff_iff]
    simp [or_assoc]
  have h2 : (fun x : UInt8 => ([b, 32, 9] : List UInt8).contains x) = fun x => x == b || gapB x := by
    funext x
    rw [List.contains_cons, gapB_row]
  rw [h1, h2]
  rfl

set_option maxHeartbeats 1000000 in
theorem lrule_any (s : ByteArray) (hs : s.size ≤ 9223372036854775000) (w : World) :
    Calls Tryz.prog 51 #[.string s] w fun e w' => e = .returned (.bool (ruleL s.data.toList)) ∧ Below w.heap.size w w' := by
  cases hl : s.data.toList with
  | nil =>
    have he : s.toList.isEmpty = true := nil_text s _ (by rw [hl]; rfl)
    clear hl
    go_enter Tryz.func51, Tryz.ntmps51
    go_wp2
    go_ret
    exact ⟨rfl, Below.refl _ _⟩
  | cons b t =>
    have he : s.toList.isEmpty = false := nil_text s _ (by rw [hl]; rfl)
    have hz : 0 < s.size := by rw [← len_data, hl]; simp
    have hz1 : (1 : Int) ≤ (s.size : Int) := by omega
    have hb0 : s[0] = b := by have := (Suf.head hl).byte (by rw [pos_of (p := []) hl]; exact hz); simpa [pos_of (p := []) hl] using this
    have hx : s.extract 0 1 = ⟨#[b]⟩ := by rw [extract_eq, hl]; rfl
    have HR := (show Hid _ from rule_cons b t)
    have HI := (show Hid _ from fun w => among_any ⟨#[42, 45, 95]⟩ b w)
    obtain ⟨X, hX⟩ : ∃ X : ByteArray, X = ⟨(Lib.trimS s.data.toList [b, 32, 9]).toArray⟩ := ⟨_, rfl⟩
    have HC : Hid (∀ w, Calls Tryz.prog 79 #[.string s, .string ⟨#[b]⟩] w fun e w' => e = .returned (.int .i64 ((b :: t).count b : Int)) ∧ w' = w) := fun w => by have := Tryz.strings_Count_one s b w; rw [hl] at this; exact this
    have HE : Hid (X.data.toList = Lib.trimS (b :: t) [b, 32, 9]) := by show _ = _; rw [hX, hl]
    clear hl
    cases hel : ([42, 45, 95] : List UInt8).elem b
    · have HF : Hid (ruleL (b :: t) = false) := by show _ = _; rw [HR.out, hel]; rfl
      go_enter Tryz.func51, Tryz.ntmps51
      go_wp2_with (go_at_call 78; refine (HI.out _).mono ?_; rintro e w1 ⟨⟨k, rfl, hk1, hk2⟩, hw⟩; subst w1; have hk := hk2 hel)
      go_ret
      exact ⟨ret_bool HF.out.symm, Below.refl _ _⟩
    · rw [hel, Bool.true_and] at HR
      by_cases h3 : 3 ≤ (b :: t).count b
      · have hA : ([b, 32, 9] : List UInt8).all (fun b => decide (b.toNat < 128)) = true := by
          have : b = 42 ∨ b = 45 ∨ b = 95 := by simpa using hel
          rcases this with rfl | rfl | rfl <;> decide
        have HT := (show Hid _ from fun w => trim_at s ⟨#[b, 32, 9]⟩ hs (show 3 < 100 by omega) hA X hX w)
        have q3 : (3 : Int) ≤ ((b :: t).count b : Int) := by omega
        have hcat : (ByteArray.mk #[b] ++ ByteArray.mk #[32, 9]) = ⟨#[b, 32, 9]⟩ := cat_eq [b] [32, 9]
        have HF : Hid (ruleL (b :: t) = X.data.toList.isEmpty) := by show _ = _; rw [HR.out, HE.out, decide_eq_true h3]; rfl
        clear hX HR
        generalize (b :: t).count b = n at *
        cases hxe : X.data.toList.isEmpty
        all_goals
          have hxe2 := nil_text X _ hxe
          go_enter Tryz.func51, Tryz.ntmps51
          go_wp2_with (first
            | (go_at_call 78; refine (HI.out _).mono ?_; rintro e w1 ⟨⟨k, rfl, hk1, hk2⟩, hw⟩; subst w1; have hk := hk1 hel)
            | (go_at_call 79; refine (HC.out _).mono ?_; rintro e w1 ⟨rfl, hw⟩; subst w1)
            | (go_at_call 67; refine (HT.out _).mono ?_; rintro e w2 ⟨rfl, hb2⟩))
          go_ret
          exact ⟨ret_bool (by rw [HF.out, hxe]), hb2⟩
      · have q3 : ¬ (3 : Int) ≤ ((b :: t).count b : Int) := by omega
        have HF : Hid (ruleL (b :: t) = false) := by show _ = _; rw [HR.out, decide_eq_false h3]; rfl
        clear HR
        generalize (b :: t).count b = n at *
        go_enter Tryz.func51, Tryz.ntmps51
        go_wp2_with (first
          | (go_at_call 78; refine (HI.out _).mono ?_; rintro e w1 ⟨⟨k, rfl, hk1, hk2⟩, hw⟩; subst w1; have hk := hk1 hel)
          | (go_at_call 79; refine (HC.out _).mono ?_; rintro e w1 ⟨rfl, hw⟩; subst w1))
        go_ret
        exact ⟨ret_bool HF.out.symm, Below.refl _ _⟩

end Go.Proofs.YtcbojffcnlkejaaGreatDoor

/- Package leaf: number, Marker; walked. -/
namespace Go.Proofs.YtcbojffcnlkejaaGreatDoor
open Go.RowKit

theorem digB_range {b : UInt8} (h : digitB b = true) : 48 ≤ b.toNat ∧ b.toNat ≤ 57 := by
  unfold digitB at h
  simpa using h

set_option maxHeartbeats 1000000 in
theorem lnumber_any (s : ByteArray) (hs : s.size ≤ 9) (hd : s.data.toList.all digitB = true) (w : World) :
    Calls Tryz.prog 114 #[.string s] w fun e w' => e = .returned (.int .i64 (numL 0 s.data.toList : Int)) ∧ w' = w := by
  have HD : Hid (s.data.toList.all digitB = true) := hd
  clear hd
  go_enter Tryz.func114, Tryz.ntmps114
  go_wp2
  go_loop [3, 7] (fun V A => ∃ (l' : List UInt8) (v : Nat), V = .int .i64 (v : Int) ∧ A = .int .i64 (pos s l' : Int) ∧ Hid (Suf s l') ∧ Hid (numL v l' = numL 0 s.data.toList) ∧ Hid (v < 10 ^ pos s l')) (fun _ A => s.size - (intOf A).toNat)
  case atStart => exact ⟨s.data.toList, 0, rfl, by rw [pos_whole]; rfl, Suf.whole s, rfl, by show 0 < _; exact Nat.pos_of_ne_zero (by simp)⟩
  case round =>
    obtain ⟨l', v, rfl, rfl, h1, h2, h3⟩ := hrel
    cases l' with
    | nil =>
      have hp : pos s [] = s.size := pos_nil s
      go_wp2
      go_ret
      exact ⟨ret_int (by rw [← h2.out]; rfl), rfl⟩
    | cons b t =>
      have hlt := h1.out.lt
      have hb := h1.out.byte hlt
      have hle : (pos s (b :: t) : Int) + 1 ≤ (s.size : Int) := by omega
      have hsu := (show Hid _ from h1.out.succ)
      have hdb : digitB b = true := by
        obtain ⟨p, e⟩ := h1.out
        have := HD.out
        rw [e, List.all_append, Bool.and_eq_true] at this
        have h4 := this.2
        rw [List.all_cons, Bool.and_eq_true] at h4
        exact h4.1
      have HV : Hid (v < 100000000) := by
        have := Nat.pow_le_pow_right (n := 10) (by omega) (show pos s (b :: t) ≤ 8 by omega)
        exact Nat.lt_of_lt_of_le h3.out this
      have hv : (v : Int) ≤ 100000000 := by have := HV.out; omega
      have hv0 : (0 : Int) ≤ (v : Int) := by omega
      have hr := digB_range hdb
      have r1 : (48 : Int) ≤ (b.toNat : Int) := by omega
      have r2 : (b.toNat : Int) ≤ 57 := by omega
      have HR := (show Hid _ from hr)
      clear hdb hr
      go_wp2
      go_round
      case rel =>
        have h5 := HR.out
        refine ⟨t, v * 10 + (b.toNat - 48), ?_, ?_, h1.out.tail, ?_, ?_⟩
        · congr 1; push_cast [h5.1]; go_num
        · rw [hsu.out]; go_num
        · exact h2.out
        · show _ < _
          rw [hsu.out, Nat.pow_succ]
          have := h3.out
          omega
      case measure => simp [intOf]; omega

/-- What Marker tells. -/
def markV (o : UInt8 × Nat × Nat) : Value := .tuple #[.int .u8 (o.1.toNat : Int), .int .i64 (o.2.1 : Int), .int .i64 (o.2.2 : Int)]

theorem row_drop (p : UInt8 → Bool) : ∀ l : List UInt8, l.dropWhile p = l.drop (rowN p l)
  | [] => by simp
  | b :: t => by
    rw [row_cons, List.dropWhile_cons]
    split
    · rw [row_drop p t, List.drop_succ_cons]
    · rfl
theorem lrow_take (p : UInt8 → Bool) : ∀ l : List UInt8, (l.take (rowN p l)).all p = true
  | [] => by simp
  | b :: t => by
    rw [row_cons]
    split
    · rename_i h
      rw [List.take_succ_cons, List.all_cons, h, lrow_take p t]; rfl
    · simp

set_option maxHeartbeats 2000000 in
theorem lmarker_any (s : ByteArray) (hs : s.size ≤ 9223372036854775000) (w : World) :
    Calls Tryz.prog 80 #[.string s] w fun e w' => e = .returned (markV (markL s.data.toList)) ∧ ∃ n, w' = w.drewN n := by
  have hkl : rowN digitB s.data.toList ≤ s.size := by have := row_le digitB s.data.toList; rw [len_data] at this; exact this
  have HR := (show Hid _ from fun w => lrow_any ldigit_kind s hs w trivial)
  have HN : Hid (rowN digitB s.data.toList ≤ 9 → ∀ w, Calls Tryz.prog 114 #[.string (s.extract 0 (rowN digitB s.data.toList))] w fun e w' => e = .returned (.int .i64 (numL 0 (s.data.toList.take (rowN digitB s.data.toList)) : Int)) ∧ w' = w) := fun h9 w => by
    have hd : (s.extract 0 (rowN digitB s.data.toList)).data.toList = s.data.toList.take (rowN digitB s.data.toList) := by rw [extract_eq]; rfl
    have hz : (s.extract 0 (rowN digitB s.data.toList)).size ≤ 9 := by rw [ByteArray.size_extract]; omega
    have := lnumber_any (s.extract 0 (rowN digitB s.data.toList)) hz (by rw [hd]; exact lrow_take _ _) w
    rwa [hd] at this
  have HL : Hid (markL s.data.toList = if 9 < rowN digitB s.data.toList then (0, 0, 0) else match s.data.toList.drop (rowN digitB s.data.toList) with
    | [] => (0, 0, 0)
    | b :: t => if partedL t = false then (0, 0, 0) else if (if 0 < rowN digitB s.data.toList then b == 46 || b == 41 else b == 45 || b == 43 || b == 42) = true then (b, rowN digitB s.data.toList + 1, numL 0 (s.data.toList.take (rowN digitB s.data.toList))) else (0, 0, 0)) := rfl
  have hsd : Suf s (s.data.toList.drop (rowN digitB s.data.toList)) := (Suf.whole s).drop _
  have hln : (s.data.toList.drop (rowN digitB s.data.toList)).length = s.size - rowN digitB s.data.toList := by rw [List.length_drop, len_data]
  generalize numL 0 (s.data.toList.take (rowN digitB s.data.toList)) = N at *
  generalize s.data.toList.drop (rowN digitB s.data.toList) = D at *
  generalize rowN digitB s.data.toList = d at *
  by_cases h9 : 9 < d
  · have q9 : (9 : Int) < (d : Int) := by omega
    have HE : Hid (markL s.data.toList = (0, 0, 0)) := by show _ = _; rw [HL.out, if_pos h9]
    clear HL HN
    go_enter Tryz.func80, Tryz.ntmps80
    go_wp2_with (go_at_call 89; refine (HR.out _).mono ?_; rintro e w1 ⟨rfl, hw⟩; subst w1)
    go_ret3
    exact ⟨by rw [HE.out]; rfl, 0, rfl⟩
  · have q9 : ¬ (9 : Int) < (d : Int) := by omega
    rw [if_neg h9] at HL
    have HN := (show Hid _ from HN.out (by omega))
    cases D with
    | nil =>
      have hq : (d : Int) = (s.size : Int) := by simp only [List.length_nil] at hln; omega
      have hqb : ((d : Int) == (s.size : Int)) = true := by simpa using hq
      have HE : Hid (markL s.data.toList = (0, 0, 0)) := HL.out
      clear HL HN hq hln
      go_enter Tryz.func80, Tryz.ntmps80
      go_wp2_with (go_at_call 89; refine (HR.out _).mono ?_; rintro e w1 ⟨rfl, hw⟩; subst w1)
      go_ret3
      exact ⟨by rw [HE.out]; rfl, 0, rfl⟩
    | cons b t =>
      have hsum := hsd.sum
      have hpd : pos s (b :: t) = d := by rw [hln] at hsum; have := hsd.lt; omega
      have hlt : d < s.size := by have := hsd.lt; omega
      have hb : s[d] = b := by have := hsd.byte (by rw [hpd]; exact hlt); simpa [hpd] using this
      have hle : (d : Int) + 1 ≤ (s.size : Int) := by omega
      have hq : ¬ (d : Int) = (s.size : Int) := by omega
      have hqb : ((d : Int) == (s.size : Int)) = false := by rw [beq_eq_false_iff_ne]; exact hq
      have hT : (s.extract (d + 1) s.size).data.toList = t := by
        rw [ext_from]
        have := hsd.tail.at
        rwa [hsd.succ, hpd] at this
      have HP := (show Hid _ from fun w => lparted_any (s.extract (d + 1) s.size) w)
      rw [hT] at HP
      have HL : Hid (markL s.data.toList = if partedL t = false then (0, 0, 0) else if (if 0 < d then b == 46 || b == 41 else b == 45 || b == 43 || b == 42) = true then (b, d + 1, N) else (0, 0, 0)) := HL.out
      generalize partedL t = pb at *
      clear hT hpd hsum hln hsd
      cases pb
      · have HE : Hid (markL s.data.toList = (0, 0, 0)) := by show _ = _; rw [HL.out, if_pos rfl]
        clear HL HN
        go_enter Tryz.func80, Tryz.ntmps80
        go_wp2_with (first
          | (go_at_call 89; refine (HR.out _).mono ?_; rintro e w1 ⟨rfl, hw⟩; subst w1)
          | (go_at_call 65; refine (HP.out _).mono ?_; rintro e w1 ⟨rfl, hw⟩; subst w1))
        go_ret3
        exact ⟨by rw [HE.out]; rfl, 0, rfl⟩
      · rw [if_neg (by decide)] at HL
        by_cases hd0 : 0 < d
        · have q0 : (0 : Int) < (d : Int) := by omega
          have HI := (show Hid _ from fun w => among_any ⟨#[46, 41]⟩ b w)
          have HL : Hid (markL s.data.toList = if ([46, 41] : List UInt8).elem b = true then (b, d + 1, N) else (0, 0, 0)) := by
            show _ = _
            rw [HL.out, if_pos hd0]
            have : ([46, 41] : List UInt8).elem b = (b == 46 || b == 41) := by rw [Bool.eq_iff_iff]; simp
            rw [this]
          cases hel : ([46, 41] : List UInt8).elem b
          · have HE : Hid (markL s.data.toList = (0, 0, 0)) := by show _ = _; rw [HL.out, hel]; rfl
            clear HL HN
            go_enter Tryz.func80, Tryz.ntmps80
            go_wp2_with (first
              | (go_at_call 89; refine (HR.out _).mono ?_; rintro e w1 ⟨rfl, hw⟩; subst w1)
              | (go_at_call 65; refine (HP.out _).mono ?_; rintro e w1 ⟨rfl, hw⟩; subst w1)
              | (go_at_call 78; refine (HI.out _).mono ?_; rintro e w1 ⟨⟨k, rfl, hk1, hk2⟩, hw⟩; subst w1; have hk := hk2 hel))
            go_ret3
            exact ⟨by rw [HE.out]; rfl, 0, rfl⟩
          · have HE : Hid (markL s.data.toList = (b, d + 1, N)) := by show _ = _; rw [HL.out, hel]; rfl
            clear HL
            go_enter Tryz.func80, Tryz.ntmps80
            go_wp2_with (first
              | (go_at_call 89; refine (HR.out _).mono ?_; rintro e w1 ⟨rfl, hw⟩; subst w1)
              | (go_at_call 65; refine (HP.out _).mono ?_; rintro e w1 ⟨rfl, hw⟩; subst w1)
              | (go_at_call 78; refine (HI.out _).mono ?_; rintro e w1 ⟨⟨k, rfl, hk1, hk2⟩, hw⟩; subst w1; have hk := hk1 hel))
            go_quiet ((go_at_call 114; exact Calls.quiet_of_same (HN.out _)))
            go_wp2
            go_ret3
            exact ⟨by rw [HE.out]; go_num, _, rfl⟩
        · have q0 : ¬ (0 : Int) < (d : Int) := by omega
          have HI := (show Hid _ from fun w => among_any ⟨#[45, 43, 42]⟩ b w)
          have HL : Hid (markL s.data.toList = if ([45, 43, 42] : List UInt8).elem b = true then (b, d + 1, N) else (0, 0, 0)) := by
            show _ = _
            rw [HL.out, if_neg hd0]
            have : ([45, 43, 42] : List UInt8).elem b = (b == 45 || b == 43 || b == 42) := by rw [Bool.eq_iff_iff]; simp [or_assoc]
            rw [this]
          cases hel : ([45, 43, 42] : List UInt8).elem b
          · have HE : Hid (markL s.data.toList = (0, 0, 0)) := by show _ = _; rw [HL.out, hel]; rfl
            clear HL HN
            go_enter Tryz.func80, Tryz.ntmps80
            go_wp2_with (first
              | (go_at_call 89; refine (HR.out _).mono ?_; rintro e w1 ⟨rfl, hw⟩; subst w1)
              | (go_at_call 65; refine (HP.out _).mono ?_; rintro e w1 ⟨rfl, hw⟩; subst w1)
              | (go_at_call 78; refine (HI.out _).mono ?_; rintro e w1 ⟨⟨k, rfl, hk1, hk2⟩, hw⟩; subst w1; have hk := hk2 hel))
            go_ret3
            exact ⟨by rw [HE.out]; rfl, 0, rfl⟩
          · have HE : Hid (markL s.data.toList = (b, d + 1, N)) := by show _ = _; rw [HL.out, hel]; rfl
            clear HL
            go_enter Tryz.func80, Tryz.ntmps80
            go_wp2_with (first
              | (go_at_call 89; refine (HR.out _).mono ?_; rintro e w1 ⟨rfl, hw⟩; subst w1)
              | (go_at_call 65; refine (HP.out _).mono ?_; rintro e w1 ⟨rfl, hw⟩; subst w1)
              | (go_at_call 78; refine (HI.out _).mono ?_; rintro e w1 ⟨⟨k, rfl, hk1, hk2⟩, hw⟩; subst w1; have hk := hk1 hel))
            go_quiet ((go_at_call 114; exact Calls.quiet_of_same (HN.out _)))
            go_wp2
            go_ret3
            exact ⟨by rw [HE.out]; go_num, _, rfl⟩

end Go.Proofs.YtcbojffcnlkejaaGreatDoor
