/- Several texts in one. -/
import Derived.Test.YtcbojffcnlkejaaGreatDoorG03
import Derived.Test.YtcbojffcnlkejaaGreatDoorG01
import Derived.BigQuiet
import Derived.Deep.RegionLaw
import Derived.Laws.DeepStrings4
set_option linter.unusedVariables false
/- Blocks of several cells behind a pointer: what they hold, what a store leaves, and what of a world stays as it was beside one block. -/
namespace Go.Proofs.YtcbojffcnlkejaaGreatDoor.cur
open Go.RowKit

theorem cell_blk {w : World} {b : Nat} {cs : Array Value} {t : TypeId} (h : w.heap[b]? = some (.cells cs t (0, 0))) {i : Nat} {v : Value} (hi : cs[i]? = some v) : w.cell? ⟨b, i, none⟩ = some v := by
  simp [World.cell?, h, hi]

theorem free_blk {w : World} {b : Nat} {cs : Array Value} {t : TypeId} (h : w.heap[b]? = some (.cells cs t (0, 0))) (i : Nat) : w.frozen? ⟨b, i, none⟩ = false := by
  simp [World.frozen?, h]

theorem set_blk {w : World} {b : Nat} {cs : Array Value} {t : TypeId} (h : w.heap[b]? = some (.cells cs t (0, 0))) (i : Nat) (u : Value) : (w.setCell ⟨b, i, none⟩ u).heap[b]? = some (.cells (cs.setIfInBounds i u) t (0, 0)) := by
  have hlt := lt_of_block h
  have h' : w.heap[b] = .cells cs t (0, 0) := by simpa [Array.getElem?_eq_getElem hlt] using h
  show (w.heap.modify b _)[b]? = _
  rw [Array.getElem?_eq_getElem (by simpa using hlt), Array.getElem_modify_self, h']
  rfl

/-- Beside block b all is as it was. -/
def Oth (b : Nat) (w w' : World) : Prop := w'.os = w.os ∧ w'.tape = w.tape ∧ w'.output = w.output ∧ w'.heap.size = w.heap.size ∧ ∀ k, k ≠ b → w'.heap[k]? = w.heap[k]?

theorem Oth.refl (b : Nat) (w : World) : Oth b w w := ⟨rfl, rfl, rfl, rfl, fun _ _ => rfl⟩
theorem Oth.trans {b : Nat} {w1 w2 w3 : World} (h : Oth b w1 w2) (k : Oth b w2 w3) : Oth b w1 w3 :=
  ⟨k.1.trans h.1, k.2.1.trans h.2.1, k.2.2.1.trans h.2.2.1, k.2.2.2.1.trans h.2.2.2.1, fun i hi => (k.2.2.2.2 i hi).trans (h.2.2.2.2 i hi)⟩
theorem Oth.set {b : Nat} {w1 w : World} (h : Oth b w1 w) (i : Nat) (u : Value) : Oth b w1 (w.setCell ⟨b, i, none⟩ u) :=
  h.trans ⟨rfl, rfl, rfl, by simp [World.setCell], fun k hk => Below.heap_setCell _ _ _ _ (by simpa using hk)⟩
theorem Oth.drewN {b : Nat} {w1 w : World} (h : Oth b w1 w) (n : Nat) : Oth b w1 (w.drewN n) := h.trans ⟨rfl, rfl, rfl, rfl, fun _ _ => rfl⟩
theorem Oth.size {b : Nat} {w w' : World} (h : Oth b w w') : w'.heap.size = w.heap.size := h.2.2.2.1
theorem Oth.block {b : Nat} {w w' : World} (h : Oth b w w') {k : Nat} (hk : k ≠ b) : w'.heap[k]? = w.heap[k]? := h.2.2.2.2 k hk
/-- Below a number that is not above b. -/
theorem Oth.below {b : Nat} {w w' : World} (h : Oth b w w') {B : Nat} (hB : B ≤ b) : Below B w w' :=
  ⟨h.1, h.2.1, h.2.2.1, by rw [h.size]; exact Nat.le_refl _, fun k hk => h.block (by omega)⟩

theorem below_drewN {B : Nat} {w0 w : World} (h : Below B w0 w) (n : Nat) : Below B w0 (w.drewN n) := h.trans ⟨rfl, rfl, rfl, Nat.le_refl _, fun k hk => rfl⟩

/-- A callee that only reads, in a second region that draws. -/
theorem quiet_same2 {P : Program} {f : FuncId} {args : Array Value} {w : World} {n m : Nat} {v : Value}
    (h : Calls P f args (w.drewN (n + m)) fun e w' => e = .returned v ∧ w' = w.drewN (n + m)) : Calls P f args (w.drewN (n + m)) fun e w'' => e = .returned v ∧ ∃ k, w'' = w.drewN (n + k) :=
  h.mono fun _ _ ⟨he, hm⟩ => ⟨he, m, hm⟩

/-- What a block holds it holds while nothing that was there turns. -/
theorem blk_below {w w' : World} {b : Nat} {o : Obj} (h : w.heap[b]? = some o) (hb : Below w.heap.size w w') : w'.heap[b]? = some o := (hb.block b (lt_of_block h)).trans h

/-- The code's place in a line, against the plain one. -/
def Abs (l : List UInt8) (c : Nat) (wi : Bool) (σ : Pl) : Prop := (wi = false ∧ σ = (l, 0, c)) ∨ (wi = true ∧ ∃ t, l = 9 :: t ∧ c % 4 ≠ 0 ∧ σ = (t, 4 - c % 4, c))

abbrev CurB (w : World) (b : Nat) (s : ByteArray) (p c : Nat) (wi : Bool) : Prop := w.heap[b]? = some (.cells #[.string s, .int .i64 (p : Int), .int .i64 (c : Int), .bool wi] 77 (0, 0))

/-- Block b holds the code's place σ. -/
def Cur (w : World) (b : Nat) (σ : Pl) : Prop := ∃ s p c wi, CurB w b s p c wi ∧ p ≤ s.size ∧ s.size ≤ 1099511627776 ∧ wt σ ≤ 35184372088832 ∧ Abs (s.data.toList.drop p) c wi σ

abbrev cptr (b : Nat) : Value := .pointer (some ⟨b, 0, none⟩)

theorem Cur.below {w w' : World} {b : Nat} {σ : Pl} (h : Cur w b σ) (hb : Below w.heap.size w w') : Cur w' b σ := by
  obtain ⟨s, p, c, wi, h1, h2⟩ := h
  exact ⟨s, p, c, wi, blk_below h1 hb, h2⟩
theorem Cur.oth {w w' : World} {b b' : Nat} {σ : Pl} (h : Cur w b σ) (hb : Oth b' w w') (hn : b ≠ b') : Cur w' b σ := by
  obtain ⟨s, p, c, wi, h1, h2⟩ := h
  exact ⟨s, p, c, wi, (hb.block hn).trans h1, h2⟩
theorem Cur.lt {w : World} {b : Nat} {σ : Pl} (h : Cur w b σ) : b < w.heap.size := by
  obtain ⟨s, p, c, wi, h1, h2⟩ := h
  exact lt_of_block h1
theorem Cur.drewN {w : World} {b : Nat} {σ : Pl} (h : Cur w b σ) (n : Nat) : Cur (w.drewN n) b σ := h
theorem Cur.wt {w : World} {b : Nat} {σ : Pl} (h : Cur w b σ) : wt σ ≤ 35184372088832 := by
  obtain ⟨s, p, c, wi, h1, h2, h3, h4, h5⟩ := h
  exact h4

theorem Abs.col {l : List UInt8} {c : Nat} {wi : Bool} {σ : Pl} (h : Abs l c wi σ) : σ.2.2 = c := by
  rcases h with ⟨_, rfl⟩ | ⟨_, t, _, _, rfl⟩ <;> rfl
theorem Abs.beh {l : List UInt8} {c : Nat} {wi : Bool} {σ : Pl} (h : Abs l c wi σ) : beh σ.1 = beh l := by
  rcases h with ⟨_, rfl⟩ | ⟨_, t, rfl, _, rfl⟩
  · rfl
  · rfl
theorem Abs.endC {l : List UInt8} {c : Nat} {wi : Bool} {σ : Pl} (h : Abs l c wi σ) : endC σ.1 (σ.2.2 + σ.2.1) = endC l c := by
  rcases h with ⟨_, rfl⟩ | ⟨_, t, rfl, _, rfl⟩
  · rfl
  · simp [Go.Proofs.YtcbojffcnlkejaaGreatDoor.endC, isB, wid_tab]
/-- The first byte, if it is blank or tab, as a whole. -/
theorem Abs.whole {b : UInt8} {t : List UInt8} {c : Nat} {wi : Bool} {σ : Pl} (h : Abs (b :: t) c wi σ) (hb : isB b = true) (n : Nat) (hn : wid b c ≤ n) : skipR n σ = skipR (n - wid b c) (t, 0, c + wid b c) := by
  have e : n = wid b c + (n - wid b c) := by omega
  rcases h with ⟨_, rfl⟩ | ⟨_, t', ht, hc, rfl⟩
  · conv => lhs; rw [e, skip_add, skip_byte hb]
  · simp only [List.cons.injEq] at ht
    obtain ⟨rfl, rfl⟩ := ht
    rw [wid_tab] at *
    conv => lhs; rw [e, skip_add, skip_part _ _ _ _ (Nat.le_refl _), Nat.sub_self]
/-- A part of it. -/
theorem Abs.part {b : UInt8} {t : List UInt8} {c : Nat} {wi : Bool} {σ : Pl} (h : Abs (b :: t) c wi σ) (hb : isB b = true) (n : Nat) (h0 : 0 < n) (hn : n < wid b c) : Abs (b :: t) (c + n) true (skipR n σ) := by
  have h9 : b = 9 := by
    rcases (isB_iff b).1 hb with rfl | rfl
    · simp [wid] at hn; omega
    · rfl
  subst h9
  rw [wid_tab] at hn
  refine .inr ⟨rfl, t, rfl, by omega, ?_⟩
  rcases h with ⟨_, rfl⟩ | ⟨_, t', ht, hc, rfl⟩
  · rw [skip_less hb t c n h0 (by rw [wid_tab]; omega), wid_tab]
    simp only [Prod.mk.injEq, true_and, and_true]; omega
  · simp only [List.cons.injEq, true_and] at ht
    subst ht
    rw [skip_part _ _ _ _ (by omega)]
    simp only [Prod.mk.injEq, true_and, and_true]; omega
/-- No blank or tab. -/
theorem Abs.stop {l : List UInt8} {c : Nat} {wi : Bool} {σ : Pl} (h : Abs l c wi σ) (hl : ∀ b t, l = b :: t → isB b = false) (n : Nat) : skipR n σ = σ := by
  rcases h with ⟨_, rfl⟩ | ⟨_, t, rfl, _, rfl⟩
  · refine skip_none ?_ n
    cases l with
    | nil => rfl
    | cons b t => simp [stepR, hl b t rfl]
  · exact absurd (hl 9 t rfl) (by decide)
theorem Abs.wt {l : List UInt8} {c : Nat} {wi : Bool} {σ : Pl} (h : Abs l c wi σ) : c ≤ wt σ := by
  rcases h with ⟨_, rfl⟩ | ⟨_, t, rfl, _, rfl⟩ <;> simp only [Go.Proofs.YtcbojffcnlkejaaGreatDoor.wt] <;> omega

theorem drop_cons (s : ByteArray) (p : Nat) (h : p < s.size) : s.data.toList.drop p = s[p] :: s.data.toList.drop (p + 1) := by
  have h' : p < s.data.toList.length := by rw [len_data]; exact h
  rw [List.drop_eq_getElem_cons h']
  rfl
theorem beh_drop : ∀ l : List UInt8, ∃ j, j ≤ l.length ∧ beh l = l.drop j
  | [] => ⟨0, by simp, rfl⟩
  | b :: t => by
    simp only [beh]
    split
    · obtain ⟨j, hj, e⟩ := beh_drop t
      exact ⟨j + 1, by simpa using hj, by simpa using e⟩
    · exact ⟨0, by simp, rfl⟩

/-- Where what follows blanks and tabs begins. -/
def bAt (s : ByteArray) (p : Nat) : Nat := s.size - (beh (s.data.toList.drop p)).length

theorem bAt_le (s : ByteArray) (p : Nat) : bAt s p ≤ s.size := Nat.sub_le _ _
theorem bAt_eq (s : ByteArray) (p k : Nat) (hk : k ≤ s.size) (h : s.data.toList.drop k = beh (s.data.toList.drop p)) : bAt s p = k := by
  unfold bAt
  rw [← h, List.length_drop, len_data]
  omega
theorem bAt_drop (s : ByteArray) (p : Nat) (hp : p ≤ s.size) : s.data.toList.drop (bAt s p) = beh (s.data.toList.drop p) := by
  obtain ⟨j, hj, e⟩ := beh_drop (s.data.toList.drop p)
  rw [List.length_drop, len_data] at hj
  rw [List.drop_drop] at e
  rw [bAt_eq s p (p + j) (by omega) e.symm, e]
theorem bAt_end (s : ByteArray) (p : Nat) : bAt s p = s.size ↔ (beh (s.data.toList.drop p)).isEmpty = true := by
  obtain ⟨j, hj, e⟩ := beh_drop (s.data.toList.drop p)
  have h1 : (beh (s.data.toList.drop p)).length ≤ s.size := by
    have : (s.data.toList.drop p).length ≤ s.size := by rw [List.length_drop, len_data]; omega
    rw [e, List.length_drop]; omega
  rw [List.isEmpty_iff, ← List.length_eq_zero_iff]
  unfold bAt
  omega
theorem drop_nil (s : ByteArray) (p : Nat) (h : s.size ≤ p) : s.data.toList.drop p = [] := List.drop_eq_nil_of_le (by rw [len_data]; exact h)

end Go.Proofs.YtcbojffcnlkejaaGreatDoor.cur

/- What the calls of cursor that only read answer, of any place in a line. -/
namespace Go.Proofs.YtcbojffcnlkejaaGreatDoor.cur
open Go.RowKit

theorem isB_int (b : UInt8) : isB b = (((b.toNat : Int) == 32) || ((b.toNat : Int) == 9)) := by
  have e1 : ((b.toNat : Int) == 32) = (b == 32) := by
    rw [Bool.eq_iff_iff]; simp only [beq_iff_eq]
    constructor
    · intro h; exact UInt8.toNat_inj.1 (by show b.toNat = 32; omega)
    · rintro rfl; rfl
  have e2 : ((b.toNat : Int) == 9) = (b == 9) := by
    rw [Bool.eq_iff_iff]; simp only [beq_iff_eq]
    constructor
    · intro h; exact UInt8.toNat_inj.1 (by show b.toNat = 9; omega)
    · rintro rfl; rfl
  rw [e1, e2]; rfl

theorem tab_int (b : UInt8) : b = 9 ↔ (b.toNat : Int) = 9 := by
  constructor
  · rintro rfl; rfl
  · intro h; exact UInt8.toNat_inj.1 (by show b.toNat = 9; omega)

set_option maxHeartbeats 400000 in
theorem isBlank_any (b : UInt8) (w : World) : Calls Tryz.prog 58 #[.int .u8 (b.toNat : Int)] w fun e w' => e = .returned (.bool (isB b)) ∧ w' = w := by
  rw [isB_int]
  rcases Decidable.em ((b.toNat : Int) = 32) with h | h
  · have q : ((b.toNat : Int) == 32) = true := by rw [h]; rfl
    go_enter Tryz.func58, Tryz.ntmps58
    go_wp2
    go_ret
    exact ⟨by rw [q]; rfl, rfl⟩
  · have q : ((b.toNat : Int) == 32) = false := by simpa using h
    go_enter Tryz.func58, Tryz.ntmps58
    go_wp2
    go_ret
    exact ⟨by rw [q]; rfl, rfl⟩

set_option maxHeartbeats 400000 in
theorem width_any (b : UInt8) (c : Nat) (w : World) (hc : c ≤ 1152921504606846976) : Calls Tryz.prog 59 #[.int .u8 (b.toNat : Int), .int .i64 (c : Int)] w fun e w' => e = .returned (.int .i64 (wid b c : Int)) ∧ w' = w := by
  have hm : (c : Int).tmod 4 = ((c % 4 : Nat) : Int) := by rw [Int.tmod_eq_emod_of_nonneg (by omega)]; omega
  have h4 : c % 4 < 4 := Nat.mod_lt _ (by omega)
  unfold wid
  by_cases h : b = 9
  · have q : ((b.toNat : Int) == 9) = true := by rw [h]; rfl
    rw [if_pos h]
    clear h
    have e : ((4 - c % 4 : Nat) : Int) = 4 - ((c % 4 : Nat) : Int) := by omega
    rw [e]
    generalize c % 4 = r at *
    go_enter Tryz.func59, Tryz.ntmps59
    go_wp2
    go_ret
    exact ⟨rfl, rfl⟩
  · have q : ((b.toNat : Int) == 9) = false := by
      have := mt (tab_int b).2 h
      simpa using this
    rw [if_neg h]
    clear h hm h4
    go_enter Tryz.func59, Tryz.ntmps59
    go_wp2
    go_ret
    exact ⟨rfl, rfl⟩

set_option maxHeartbeats 400000 in
theorem new_any (s : ByteArray) (w : World) (hs : s.size ≤ 1099511627776) : Calls Tryz.prog 21 #[.string s] w fun e w' => e = .returned (cptr w.heap.size) ∧ Cur w' w.heap.size (s.data.toList, 0, 0) ∧ Below w.heap.size w w' := by
  go_enter Tryz.func21, Tryz.ntmps21
  go_wp2
  go_ret
  refine ⟨rfl, ⟨s, 0, 0, false, ?_, by omega, hs, ?_, .inl ⟨rfl, rfl⟩⟩, (Below.refl _ _).alloc (Nat.le_refl _) _⟩
  · show (w.heap.push _)[w.heap.size]? = _
    simp
  · simp only [wt]; rw [len_data]; omega

set_option maxHeartbeats 400000 in
theorem behindAt_any {b : Nat} {s : ByteArray} {p c : Nat} {wi : Bool} {w : World} (h : CurB w b s p c wi) (h2 : p ≤ s.size) (h3 : s.size ≤ 1099511627776) : Calls Tryz.prog 61 #[cptr b] w fun e w' => e = .returned (.int .i64 (bAt s p : Int)) ∧ w' = w := by
  have c0 := cell_blk h (i := 0) rfl
  have c1 := cell_blk h (i := 1) rfl
  clear h
  go_enter Tryz.func61, Tryz.ntmps61
  go_wp2
  go_loopw [3] (fun i wr => ∃ k : Nat, i = .int .i64 (k : Int) ∧ k ≤ s.size ∧ Hid (beh (s.data.toList.drop k) = beh (s.data.toList.drop p)) ∧ Hid (wr = w)) (fun i _ => s.size - (intOf i).toNat)
  case atStart => exact ⟨p, rfl, h2, rfl, rfl⟩
  case round =>
    obtain ⟨k, rfl, hk, hb, hw⟩ := hrel
    have hw' := hw.out
    subst hw'
    by_cases hlt : k < s.size
    · have hd := drop_cons s k hlt
      have HD : Hid (s.data.toList.drop k = s[k] :: s.data.toList.drop (k + 1)) := hd
      clear hd
      have hlt' : (k : Int) < (s.size : Int) := by omega
      have dlt : decide ((k : Int) < (s.size : Int)) = true := by simpa using hlt
      cases hB : isB s[k] with
      | true =>
        go_wp2_with (go_at_call 58; refine (isBlank_any _ _).mono ?_; rintro e w1 ⟨rfl, rfl⟩)
        go_roundw
        case rel =>
          refine ⟨k + 1, by go_num, by omega, ?_, True.intro⟩
          have hb' := hb.out
          rw [HD.out] at hb'
          show beh (s.data.toList.drop (k + 1)) = _
          rw [← hb']
          simp only [beh, hB, if_true]
        case measure => simp [intOf]; omega
      | false =>
        go_wp2_with (go_at_call 58; refine (isBlank_any _ _).mono ?_; rintro e w1 ⟨rfl, rfl⟩)
        go_ret
        refine ⟨ret_int ?_, rfl⟩
        rw [bAt_eq s p k hk]
        rw [← hb.out, HD.out]
        simp [beh, hB]
    · have hge : ¬ ((k : Int) < (s.size : Int)) := by omega
      have dlt : decide ((k : Int) < (s.size : Int)) = false := by simpa using hge
      go_wp2
      go_ret
      refine ⟨ret_int ?_, rfl⟩
      rw [bAt_eq s p k hk]
      rw [← hb.out, drop_nil s k (by omega)]
      rfl

set_option maxHeartbeats 400000 in
theorem indent_any {b : Nat} {σ : Pl} {w : World} (h : Cur w b σ) : Calls Tryz.prog 34 #[cptr b] w fun e w' => e = .returned (.int .i64 (indR σ : Int)) ∧ w' = w := by
  obtain ⟨s, p, c, wi, h1, h2, h3, h4, h5⟩ := h
  have hcw := h5.wt
  have e1 : (indR σ : Int) = (endC (s.data.toList.drop p) c : Int) - (c : Int) := by
    have h6 := ind_le σ
    rw [h5.endC, h5.col] at h6
    omega
  have hle := (endC_le (s.data.toList.drop p) c).2
  have hdl : (s.data.toList.drop p).length ≤ s.size := by rw [List.length_drop, len_data]; omega
  have hmax : endC (s.data.toList.drop p) c ≤ 39582418599936 := by omega
  rw [e1]
  clear e1 h5 h4 hle hdl
  have c0 := cell_blk h1 (i := 0) rfl
  have c1 := cell_blk h1 (i := 1) rfl
  have c2 := cell_blk h1 (i := 2) rfl
  clear h1
  generalize hE : endC (s.data.toList.drop p) c = E at *
  have HE : Hid (endC (s.data.toList.drop p) c = E) := hE
  clear hE
  go_enter Tryz.func34, Tryz.ntmps34
  go_wp2
  go_loopw [3, 4] (fun m i wr => ∃ k x : Nat, i = .int .i64 (k : Int) ∧ m = .int .i64 (x : Int) ∧ k ≤ s.size ∧ c ≤ x ∧ x ≤ E ∧ Hid (endC (s.data.toList.drop k) x = E) ∧ Hid (wr = w)) (fun _ i _ => s.size - (intOf i).toNat)
  case atStart => exact ⟨p, c, rfl, rfl, h2, Nat.le_refl _, by have := (endC_le (s.data.toList.drop p) c).1; have := HE.out; omega, HE, rfl⟩
  case round =>
    obtain ⟨k, x, rfl, rfl, hk, hcx, hx, hb, hw⟩ := hrel
    have hw' := hw.out
    subst hw'
    by_cases hlt : k < s.size
    · have hd := drop_cons s k hlt
      have HD : Hid (s.data.toList.drop k = s[k] :: s.data.toList.drop (k + 1)) := hd
      clear hd
      have hlt' : (k : Int) < (s.size : Int) := by omega
      have dlt : decide ((k : Int) < (s.size : Int)) = true := by simpa using hlt
      have hw4 := wid_pos s[k] x
      cases hB : isB s[k] with
      | true =>
        go_wp2_with (first
          | (go_at_call 58; refine (isBlank_any _ _).mono ?_; rintro e w1 ⟨rfl, rfl⟩)
          | (go_at_call 59; refine (width_any _ _ _ (by omega)).mono ?_; rintro e w1 ⟨rfl, rfl⟩))
        go_roundw
        case rel =>
          have hb' := hb.out
          rw [HD.out] at hb'
          simp only [endC, hB, if_true] at hb'
          refine ⟨k + 1, x + wid s[k] x, by go_num, by go_num, by omega, by omega, ?_, hb', True.intro⟩
          have := (endC_le (s.data.toList.drop (k + 1)) (x + wid s[k] x)).1
          omega
        case measure => simp [intOf]; omega
      | false =>
        go_wp2_with (go_at_call 58; refine (isBlank_any _ _).mono ?_; rintro e w1 ⟨rfl, rfl⟩)
        go_ret
        refine ⟨ret_int ?_, rfl⟩
        have hb' := hb.out
        rw [HD.out] at hb'
        simp [endC, hB] at hb'
        omega
    · have hge : ¬ ((k : Int) < (s.size : Int)) := by omega
      have dlt : decide ((k : Int) < (s.size : Int)) = false := by simpa using hge
      go_wp2
      go_ret
      refine ⟨ret_int ?_, rfl⟩
      have hb' := hb.out
      rw [drop_nil s k (by omega)] at hb'
      simp [endC] at hb'
      omega

set_option maxHeartbeats 400000 in
theorem blank_any {b : Nat} {σ : Pl} {w : World} (h : Cur w b σ) : Calls Tryz.prog 54 #[cptr b] w fun e w' => e = .returned (.bool (beh σ.1).isEmpty) ∧ ∃ m, w' = w.drewN m := by
  obtain ⟨s, p, c, wi, h1, h2, h3, h4, h5⟩ := h
  have c0 := cell_blk h1 (i := 0) rfl
  have hB := bAt_end s p
  rw [h5.beh]
  have HB : Hid (bAt s p = s.size ↔ (beh (s.data.toList.drop p)).isEmpty = true) := hB
  have H1 : Hid (CurB w b s p c wi) := h1
  clear hB h1
  go_enter Tryz.func54, Tryz.ntmps54
  go_wp2
  go_quiet ((go_at_call 61; exact Calls.quiet_of_same (behindAt_any H1 h2 h3)))
  go_wp2
  go_ret
  refine ⟨ret_bool ?_, _, rfl⟩
  rw [Bool.eq_iff_iff, ← HB.out]
  simp
  omega

set_option maxHeartbeats 400000 in
theorem next_any {b : Nat} {σ : Pl} {w : World} (h : Cur w b σ) : Calls Tryz.prog 36 #[cptr b] w fun e w' => e = .returned (.int .u8 (((beh σ.1).headD 0).toNat : Int)) ∧ w' = w := by
  obtain ⟨s, p, c, wi, h1, h2, h3, h4, h5⟩ := h
  have c0 := cell_blk h1 (i := 0) rfl
  have hle := bAt_le s p
  have hd := bAt_drop s p h2
  rw [h5.beh, ← hd]
  clear hd
  have hba := behindAt_any h1 h2 h3
  have HB : Hid (Calls Tryz.prog 61 #[cptr b] w fun e w' => e = .returned (.int .i64 (bAt s p : Int)) ∧ w' = w) := hba
  clear h1 hba
  generalize bAt s p = k at *
  by_cases hlt : k < s.size
  · have hlt' : (k : Int) < (s.size : Int) := by omega
    rw [drop_cons s k hlt, List.headD_cons]
    go_enter Tryz.func36, Tryz.ntmps36
    go_wp2_with (go_at_call 61; refine HB.out.mono ?_; rintro e w1 ⟨rfl, rfl⟩)
    go_ret
    exact ⟨rfl, rfl⟩
  · have hge : ¬ ((k : Int) < (s.size : Int)) := by omega
    rw [drop_nil s k (by omega), List.headD_nil]
    go_enter Tryz.func36, Tryz.ntmps36
    go_wp2_with (go_at_call 61; refine HB.out.mono ?_; rintro e w1 ⟨rfl, rfl⟩)
    go_ret
    exact ⟨rfl, rfl⟩

set_option maxHeartbeats 400000 in
theorem behind_any {b : Nat} {σ : Pl} {w : World} (h : Cur w b σ) : Calls Tryz.prog 39 #[cptr b] w fun e w' => e = .returned (.string ⟨(beh σ.1).toArray⟩) ∧ ∃ m, w' = w.drewN m := by
  obtain ⟨s, p, c, wi, h1, h2, h3, h4, h5⟩ := h
  have c0 := cell_blk h1 (i := 0) rfl
  have hle := bAt_le s p
  have hd := bAt_drop s p h2
  rw [h5.beh, ← hd]
  clear hd
  have HB : Hid (∀ n, Calls Tryz.prog 61 #[cptr b] (w.drewN n) fun e w' => e = .returned (.int .i64 (bAt s p : Int)) ∧ w' = w.drewN n) := fun n => behindAt_any (w := w.drewN n) h1 h2 h3
  clear h1
  generalize bAt s p = k at *
  have hle' : (k : Int) ≤ (s.size : Int) := by omega
  go_enter Tryz.func39, Tryz.ntmps39
  go_wp2
  go_quiet ((go_at_call 61; exact Calls.quiet_of_same (HB.out _)))
  go_wp2
  go_ret
  refine ⟨ret_str ?_, _, rfl⟩
  exact extract_end s k

end Go.Proofs.YtcbojffcnlkejaaGreatDoor.cur

/- What strings.Repeat, Rest, Skip and Move answer, of any place in a line. -/
namespace Go.Proofs.YtcbojffcnlkejaaGreatDoor.cur
open Go.RowKit

set_option maxHeartbeats 400000 in
theorem prefix_in (s p : ByteArray) (w : World) (h : s.extract 0 p.size = p) (hp : p.size ≤ s.size) : Calls Tryz.prog 102 #[.string s, .string p] w fun e w' => e = .returned (.bool true) ∧ w' = w := by
  have hi : (p.size : Int) ≤ (s.size : Int) := by omega
  have H : Hid (s.extract 0 p.size = p) := h
  clear h
  go_enter Tryz.func102, Tryz.ntmps102
  go_wp2
  go_ret
  refine ⟨ret_bool ?_, rfl⟩
  have := H.out
  simp [this]

set_option maxHeartbeats 400000 in
theorem prefix_any (s p : ByteArray) (w : World) (h : s.extract 0 p.size = p) (hp : p.size ≤ s.size) : Calls Tryz.prog 71 #[.string s, .string p] w fun e w' => e = .returned (.bool true) ∧ w' = w := by
  have H : Hid (s.extract 0 p.size = p) := h
  clear h
  go_enter Tryz.func71, Tryz.ntmps71
  go_wp2_with (go_at_call 102; refine (prefix_in _ _ _ H.out hp).mono ?_; rintro e w1 ⟨rfl, rfl⟩)
  go_ret
  exact ⟨rfl, rfl⟩

set_option maxHeartbeats 800000 in
set_option maxRecDepth 100000 in
theorem mul_two (w : World) : Calls Tryz.prog 152 #[.int .u64 1, .int .u64 2] w fun e w' => e = .returned (.tuple #[.int .u64 0, .int .u64 2]) ∧ w' = w := by
  go_enter Tryz.func152, Tryz.ntmps152
  go_wp2_with go_in
  go_ret2
  exact ⟨by kernel_rfl, rfl⟩

set_option maxHeartbeats 800000 in
set_option maxRecDepth 100000 in
theorem repeat_two (w : World) : Calls Tryz.prog 124 #[.string ⟨#[32]⟩, .int .i64 2] w fun e w' => e = .returned (.string ⟨(List.replicate 2 32).toArray⟩) ∧ w' = w := by
  go_enter Tryz.func124, Tryz.ntmps124
  go_wp2_with (first | (go_at_call 152; refine (mul_two _).mono ?_; rintro e w1 ⟨rfl, rfl⟩) | (go_at_call 71; refine (prefix_any _ _ _ (by decide) (by decide)).mono ?_; rintro e w1 ⟨rfl, rfl⟩))
  go_ret
  exact ⟨by kernel_rfl, rfl⟩

set_option maxHeartbeats 800000 in
set_option maxRecDepth 100000 in
theorem mul_three (w : World) : Calls Tryz.prog 152 #[.int .u64 1, .int .u64 3] w fun e w' => e = .returned (.tuple #[.int .u64 0, .int .u64 3]) ∧ w' = w := by
  go_enter Tryz.func152, Tryz.ntmps152
  go_wp2_with go_in
  go_ret2
  exact ⟨by kernel_rfl, rfl⟩

set_option maxHeartbeats 800000 in
set_option maxRecDepth 100000 in
theorem repeat_three (w : World) : Calls Tryz.prog 124 #[.string ⟨#[32]⟩, .int .i64 3] w fun e w' => e = .returned (.string ⟨(List.replicate 3 32).toArray⟩) ∧ w' = w := by
  go_enter Tryz.func124, Tryz.ntmps124
  go_wp2_with (first | (go_at_call 152; refine (mul_three _).mono ?_; rintro e w1 ⟨rfl, rfl⟩) | (go_at_call 71; refine (prefix_any _ _ _ (by decide) (by decide)).mono ?_; rintro e w1 ⟨rfl, rfl⟩))
  go_ret
  exact ⟨by kernel_rfl, rfl⟩

set_option maxHeartbeats 800000 in
set_option maxRecDepth 100000 in
theorem repeat_one (w : World) : Calls Tryz.prog 124 #[.string ⟨#[32]⟩, .int .i64 1] w fun e w' => e = .returned (.string ⟨(List.replicate 1 32).toArray⟩) ∧ w' = w := by
  go_enter Tryz.func124, Tryz.ntmps124
  go_wp2
  go_ret
  exact ⟨by kernel_rfl, rfl⟩

theorem repeat_any (k : Nat) (h0 : 1 ≤ k) (h3 : k ≤ 3) (w : World) : Calls Tryz.prog 124 #[.string ⟨#[32]⟩, .int .i64 (k : Int)] w fun e w' => e = .returned (.string ⟨(List.replicate k 32).toArray⟩) ∧ w' = w := by
  rcases (by omega : k = 1 ∨ k = 2 ∨ k = 3) with rfl | rfl | rfl
  · exact repeat_one w
  · exact repeat_two w
  · exact repeat_three w

set_option maxHeartbeats 400000 in
theorem rest_any {b : Nat} {σ : Pl} {w : World} (h : Cur w b σ) : Calls Tryz.prog 88 #[cptr b] w fun e w' => e = .returned (.string ⟨(restR σ).toArray⟩) ∧ ∃ m, w' = w.drewN m := by
  obtain ⟨s, p, c, wi, h1, h2, h3, h4, h5⟩ := h
  have c0 := cell_blk h1 (i := 0) rfl
  have c1 := cell_blk h1 (i := 1) rfl
  have c2 := cell_blk h1 (i := 2) rfl
  have c3 := cell_blk h1 (i := 3) rfl
  clear h1
  have hcw := h5.wt
  have hp' : (p : Int) ≤ (s.size : Int) := by omega
  rcases h5 with ⟨rfl, rfl⟩ | ⟨rfl, t, hl, hc, rfl⟩
  · clear h4 hcw
    go_enter Tryz.func88, Tryz.ntmps88
    go_wp2
    go_quiet (fail)
    go_wp2
    go_ret
    refine ⟨ret_str ?_, _, rfl⟩
    exact extract_end s p
  · have hlt : p < s.size := by
      rcases Nat.lt_or_ge p s.size with h | h
      · exact h
      · rw [drop_nil s p h] at hl; cases hl
    rw [drop_cons s p hlt] at hl
    have ht := (List.cons.inj hl).2
    subst ht
    clear hl
    have hw := wid_tab c
    have hplt : (p : Int) + 1 ≤ (s.size : Int) := by omega
    have hr := repeat_any (4 - c % 4) (by omega) (by omega)
    have HR : Hid (∀ w : World, Calls Tryz.prog 124 #[.string ⟨#[32]⟩, .int .i64 ((4 - c % 4 : Nat) : Int)] w fun e w' => e = .returned (.string ⟨(List.replicate (4 - c % 4) 32).toArray⟩) ∧ w' = w) := hr
    have hww := fun w => width_any 9 c w (by omega)
    rw [hw] at hww
    have HW : Hid (∀ w : World, Calls Tryz.prog 59 #[.int .u8 9, .int .i64 (c : Int)] w fun e w' => e = .returned (.int .i64 ((4 - c % 4 : Nat) : Int)) ∧ w' = w) := hww
    clear hr hww hw
    have hk4 : 4 - c % 4 ≤ 4 := by omega
    simp only [restR]
    generalize 4 - c % 4 = k at *
    clear hc h4 hcw
    go_enter Tryz.func88, Tryz.ntmps88
    go_wp2
    go_quiet (first | (go_at_call 59; exact Calls.quiet_of_same (HW.out _)) | (go_at_call 124; exact Calls.quiet_of_same (HR.out _)))
    go_wp2
    go_ret
    refine ⟨ret_str ?_, _, rfl⟩
    rw [extract_end, cat_eq]
    simp

end Go.Proofs.YtcbojffcnlkejaaGreatDoor.cur

/- What Skip and Move answer, and what they leave, of any place in a line. -/
namespace Go.Proofs.YtcbojffcnlkejaaGreatDoor.cur
open Go.RowKit

theorem cells_eq {w : World} {b : Nat} {s : ByteArray} {wi : Bool} {x y : Int} {p c : Nat} (h : w.heap[b]? = some (.cells #[.string s, .int .i64 x, .int .i64 y, .bool wi] 77 (0, 0))) (hx : x = (p : Int)) (hy : y = (c : Int)) : CurB w b s p c wi := by
  subst hx hy; exact h

set_option maxHeartbeats 400000 in
theorem pass_any {b : Nat} {s : ByteArray} {p c x : Nat} {wi : Bool} {w : World} (h : CurB w b s p c wi) (hp : p ≤ 1099511627776) (hc : c + x ≤ 1152921504606846976) : Calls Tryz.prog 115 #[cptr b, .int .i64 (x : Int)] w fun e w' => e = .returned (.tuple #[]) ∧ CurB w' b s (p + 1) (c + x) false ∧ Oth b w w' := by
  have c1 := cell_blk h (i := 1) rfl
  have c2 := cell_blk h (i := 2) rfl
  have c3 := cell_blk h (i := 3) rfl
  have f1 := free_blk h 1
  have f2 := free_blk h 2
  have f3 := free_blk h 3
  have H : Hid (CurB w b s p c wi) := h
  clear h
  go_enter Tryz.func115, Tryz.ntmps115
  go_wp2
  go_end0
  refine ⟨rfl, cells_eq (p := p + 1) (c := c + x) (set_blk (set_blk (set_blk H.out 1 _) 2 _) 3 _) (by simp) (by simp), (((Oth.refl _ _).set _ _).set _ _).set _ _⟩

/-- What a round of Skip keeps. -/
def SkipRel (w : World) (b : Nat) (N : Nat) (σ : Pl) (k : Nat) (wr : World) : Prop := k ≤ N ∧ Oth b w wr ∧ ∃ τ : Pl, Cur wr b τ ∧ skipR (N - k) τ = skipR N σ ∧ τ.2.2 = σ.2.2 + k

theorem skip_end {w wr : World} {b N k : Nat} {σ τ : Pl} (hk : k ≤ N) (ho : Oth b w wr) (hc : Cur wr b τ) (hs : skipR (N - k) τ = skipR N σ) (hcol : τ.2.2 = σ.2.2 + k) (hst : skipR (N - k) τ = τ) (m : Nat) :
    (k : Int) = ((skipR N σ).2.2 : Int) - (σ.2.2 : Int) ∧ Cur (wr.drewN m) b (skipR N σ) ∧ Oth b w (wr.drewN m) := by
  rw [← hs, hst]
  exact ⟨by omega, hc, ho.drewN m⟩

theorem skip_some_end {w wr : World} {b N k p c : Nat} {n : Int} {σ τ : Pl} {s : ByteArray} {wi : Bool} (m : Nat) (hN : n.toNat = N) (hk : k ≤ N) (hkn : (k : Int) < n) (ho : Oth b w wr) (h1 : CurB wr b s p c wi) (hp : p < s.size) (h3 : s.size ≤ 1099511627776) (h4 : wt τ ≤ 35184372088832) (h5 : Abs (s[p] :: s.data.toList.drop (p + 1)) c wi τ) (hB : isB s[p] = true) (hwl : n - (k : Int) < (wid s[p] c : Int))
    (hs : skipR (N - k) τ = skipR N σ) (hcol : τ.2.2 = σ.2.2 + k) :
    n = ((skipR N σ).2.2 : Int) - (σ.2.2 : Int) ∧ Cur (((wr.drewN m).setCell ⟨b, 2, none⟩ (.int .i64 ((c : Int) + (n - (k : Int))))).setCell ⟨b, 3, none⟩ (.bool true)) b (skipR N σ) ∧ Oth b w (((wr.drewN m).setCell ⟨b, 2, none⟩ (.int .i64 ((c : Int) + (n - (k : Int))))).setCell ⟨b, 3, none⟩ (.bool true)) := by
  have ha := h5.part hB (N - k) (by omega) (by omega)
  have hw := wt_skip (N - k) τ
  have hac := ha.col
  rw [hs] at ha hac hw
  have hc := h5.col
  refine ⟨by omega, ⟨s, p, c + (N - k), true, ?_, by omega, h3, by omega, by rw [drop_cons s p hp]; exact ha⟩, ((ho.drewN m).set _ _).set _ _⟩
  exact cells_eq (set_blk (set_blk (w := wr.drewN m) h1 2 _) 3 _) rfl (by omega)

theorem skip_pass {w wr w1 : World} {b N k p c m : Nat} {n : Int} {σ τ : Pl} {s : ByteArray} {wi : Bool} (hN : n.toNat = N) (hk : k ≤ N) (hkn : (k : Int) < n) (ho : Oth b w wr) (hp : p < s.size) (h3 : s.size ≤ 1099511627776) (h4 : wt τ ≤ 35184372088832) (h5 : Abs (s[p] :: s.data.toList.drop (p + 1)) c wi τ) (hB : isB s[p] = true) (hwl : (wid s[p] c : Int) ≤ n - (k : Int))
    (hs : skipR (N - k) τ = skipR N σ) (hcol : τ.2.2 = σ.2.2 + k) (hp1 : CurB w1 b s (p + 1) (c + wid s[p] c) false) (hp2 : Oth b (wr.drewN m) w1) : SkipRel w b N σ (k + wid s[p] c) w1 := by
  have hwh := h5.whole hB (N - k) (by omega)
  have hc := h5.col
  have hw := wt_skip (wid s[p] c) τ
  have hwh1 := h5.whole hB (wid s[p] c) (Nat.le_refl _)
  rw [Nat.sub_self] at hwh1
  rw [hwh1] at hw
  refine ⟨by omega, (ho.drewN m).trans hp2, (s.data.toList.drop (p + 1), 0, c + wid s[p] c), ⟨s, p + 1, c + wid s[p] c, false, hp1, by omega, h3, ?_, .inl ⟨rfl, rfl⟩⟩, ?_, ?_⟩
  · have : skipR 0 (List.drop (p + 1) s.data.toList, 0, c + wid s[p] c) = (List.drop (p + 1) s.data.toList, 0, c + wid s[p] c) := rfl
    rw [this] at hw
    omega
  · rw [← hs, hwh, Nat.sub_sub]
  · show c + wid s[p] c = _
    omega

set_option maxHeartbeats 1000000 in
theorem skip_any {b : Nat} {σ : Pl} {w : World} (h : Cur w b σ) (n : Int) (hn : n ≤ 9223372036854775807) : Calls Tryz.prog 87 #[cptr b, .int .i64 n] w fun e w' => e = .returned (.int .i64 (((skipR n.toNat σ).2.2 : Int) - (σ.2.2 : Int))) ∧ Cur w' b (skipR n.toNat σ) ∧ Oth b w w' := by
  obtain ⟨N, hN⟩ : ∃ N, n.toNat = N := ⟨_, rfl⟩
  rw [hN]
  go_enter Tryz.func87, Tryz.ntmps87
  go_wp2
  go_loopw [5] (fun m wr => ∃ k : Nat, m = .int .i64 (k : Int) ∧ Hid (SkipRel w b N σ k wr)) (fun m _ => N - (intOf m).toNat)
  case atStart => exact ⟨0, rfl, Nat.zero_le _, Oth.refl _ _, σ, h, rfl, rfl⟩
  case round =>
    clear h
    obtain ⟨k, rfl, hr⟩ := hrel
    obtain ⟨hk, ho, τ, hcur, hs, hcol⟩ := hr.out
    have hcur' := hcur
    obtain ⟨s, p, c, wi, h1, h2, h3, h4, h5⟩ := hcur'
    have HC : Hid (Cur wr b τ) := hcur
    have HS : Hid (skipR (N - k) τ = skipR N σ) := hs
    have HCol : Hid (τ.2.2 = σ.2.2 + k) := hcol
    have hcw := h5.wt
    have hτc := h5.col
    have HT : Hid (τ.2.2 = c) := hτc
    have hkb : k + σ.2.2 ≤ 35184372088832 := by omega
    have c0 := cell_blk h1 (i := 0) rfl
    have c1 := cell_blk h1 (i := 1) rfl
    have c2 := cell_blk h1 (i := 2) rfl
    have c3 := cell_blk h1 (i := 3) rfl
    have f2 := free_blk h1 2
    have f3 := free_blk h1 3
    have H1 : Hid (CurB wr b s p c wi) := h1
    have HO : Hid (Oth b w wr) := ho
    have HN : Hid (n.toNat = N) := hN
    clear h1 hs hcol hτc ho hcur hr hN
    by_cases hkn : (k : Int) < n
    · have dkn : decide ((k : Int) < n) = true := by simpa using hkn
      by_cases hlt : p < s.size
      · have hplt : (p : Int) < (s.size : Int) := by omega
        have dlt : decide ((p : Int) < (s.size : Int)) = true := by simpa using hlt
        have hd := drop_cons s p hlt
        rw [hd] at h5
        have H5 : Hid (Abs (s[p] :: s.data.toList.drop (p + 1)) c wi τ) := h5
        clear h5 hd
        have hw4 := wid_pos s[p] c
        cases hB : isB s[p] with
        | false =>
          go_wp2
          go_quiet ((go_at_call 58; exact Calls.quiet_of_same (isBlank_any _ _)))
          go_wp2
          go_ret
          have hst := H5.out.stop (fun b' t' e => by cases e; exact hB) (N - k)
          have R := skip_end hk HO.out HC.out HS.out HCol.out hst nq
          exact ⟨ret_int R.1, R.2⟩
        | true =>
          by_cases hwl : n - (k : Int) < (wid s[p] c : Int)
          · go_wp2
            go_quiet ((go_at_call 58; exact Calls.quiet_of_same (isBlank_any _ _)))
            go_wp2
            go_quiet ((go_at_call 59; exact quiet_same2 (width_any _ _ _ (by omega))))
            go_wp2
            go_ret
            have R := fun m => skip_some_end m HN.out hk hkn HO.out H1.out hlt h3 h4 H5.out hB hwl HS.out HCol.out
            exact ⟨ret_int (R 0).1, (R _).2⟩
          · have hwl' : (wid s[p] c : Int) ≤ n - (k : Int) := by omega
            go_wp2
            go_quiet ((go_at_call 58; exact Calls.quiet_of_same (isBlank_any _ _)))
            go_wp2
            go_quiet ((go_at_call 59; exact quiet_same2 (width_any _ _ _ (by omega))))
            go_wp2_with (go_at_call 115; refine (pass_any (w := wr.drewN _) (s := s) (p := p) (c := c) (wi := wi) (by exact H1.out) (by omega) (by omega)).mono ?_; rintro e w1 ⟨rfl, hp1, hp2⟩)
            go_roundw
            case rel => exact ⟨k + wid s[p] c, by go_num, skip_pass HN.out hk hkn HO.out hlt h3 h4 H5.out hB hwl' HS.out HCol.out hp1 hp2⟩
            case measure => have := HN.out; simp [intOf]; omega
      · have hge : ¬ ((p : Int) < (s.size : Int)) := by omega
        have dlt : decide ((p : Int) < (s.size : Int)) = false := by simpa using hge
        have H5 : Hid (Abs (s.data.toList.drop p) c wi τ) := h5
        clear h5
        go_wp2
        go_quiet (fail)
        go_wp2
        go_ret
        have hst := H5.out.stop (fun b' t' e => by rw [drop_nil s p (by omega)] at e; cases e) (N - k)
        have R := skip_end hk HO.out HC.out HS.out HCol.out hst nq
        exact ⟨ret_int R.1, R.2⟩
    · have dkn : decide ((k : Int) < n) = false := by simpa using hkn
      clear h5
      go_wp2
      go_quiet (fail)
      go_wp2
      go_ret
      have hst : skipR (N - k) τ = τ := by
        have : N - k = 0 := by have := HN.out; omega
        rw [this]; rfl
      have R := skip_end hk HO.out HC.out HS.out HCol.out hst nq
      exact ⟨ret_int R.1, R.2⟩

end Go.Proofs.YtcbojffcnlkejaaGreatDoor.cur

/- What Move leaves, of any place in a line. -/
namespace Go.Proofs.YtcbojffcnlkejaaGreatDoor.cur
open Go.RowKit

/-- What a round of Move keeps. -/
def MoveRel (w : World) (b : Nat) (τ : Pl) (x : Int) (wr : World) : Prop := Oth b w wr ∧ ∃ l c, Cur wr b (l, 0, c) ∧ passR x.toNat l c = τ

theorem abs_zero {l l' : List UInt8} {c c' : Nat} {wi : Bool} (h : Abs l c wi (l', 0, c')) : wi = false ∧ l' = l ∧ c' = c := by
  rcases h with ⟨rfl, e⟩ | ⟨_, t, _, hc, e⟩
  · simp only [Prod.mk.injEq, true_and] at e
    exact ⟨rfl, e.1, e.2⟩
  · simp only [Prod.mk.injEq] at e
    omega

theorem move_pass {w wr w1 : World} {b p c m : Nat} {x : Int} {s : ByteArray} {τ : Pl} (hx : 0 < x) (ho : Oth b w wr) (hp : p < s.size) (h3 : s.size ≤ 1099511627776) (h4 : wt (s.data.toList.drop p, 0, c) ≤ 35184372088832) (hs : passR x.toNat (s.data.toList.drop p) c = τ) (hp1 : CurB w1 b s (p + 1) (c + wid s[p] c) false) (hp2 : Oth b (wr.drewN m) w1) : MoveRel w b τ (x - 1) w1 := by
  have hw := wid_pos s[p] c
  refine ⟨(ho.drewN m).trans hp2, s.data.toList.drop (p + 1), c + wid s[p] c, ⟨s, p + 1, c + wid s[p] c, false, hp1, by omega, h3, ?_, .inl ⟨rfl, rfl⟩⟩, ?_⟩
  · simp only [wt, List.length_drop, len_data] at h4 ⊢
    omega
  · rw [← hs, drop_cons s p hp]
    obtain ⟨j, hj⟩ : ∃ j, x.toNat = j + 1 := ⟨x.toNat - 1, by omega⟩
    rw [hj, show (x - 1).toNat = j by omega]
    rfl

set_option maxHeartbeats 2000000 in
theorem move_any {b : Nat} {σ : Pl} {w : World} (h : Cur w b σ) (n : Int) (hn : n ≤ 9223372036854775807) : Calls Tryz.prog 82 #[cptr b, .int .i64 n] w fun e w' => e = .returned (.tuple #[]) ∧ Cur w' b (moveR n.toNat σ) ∧ Oth b w w' := by
  have hin := indent_any h
  have hwt := h.wt
  have hil := ind_le σ
  have hsk := skip_any h (indR σ : Int) (by
    have : indR σ ≤ wt σ := by unfold wt; omega
    omega)
  rw [Int.toNat_natCast, skip_every σ _ (Nat.le_refl _)] at hsk
  obtain ⟨τ, hτ⟩ : ∃ τ, moveR n.toNat σ = τ := ⟨_, rfl⟩
  have HM : Hid (passR n.toNat (beh σ.1) (endC σ.1 (σ.2.2 + σ.2.1)) = τ) := hτ
  have HI : Hid (Calls Tryz.prog 34 #[cptr b] w fun e w' => e = .returned (.int .i64 (indR σ : Int)) ∧ w' = w) := hin
  have HSk : Hid (Calls Tryz.prog 87 #[cptr b, .int .i64 (indR σ : Int)] w fun e w' => e = .returned (.int .i64 ((endC σ.1 (σ.2.2 + σ.2.1) : Int) - (σ.2.2 : Int))) ∧ Cur w' b (beh σ.1, 0, endC σ.1 (σ.2.2 + σ.2.1)) ∧ Oth b w w') := hsk
  rw [hτ]
  clear hτ hin hsk hwt hil h
  go_enter Tryz.func82, Tryz.ntmps82
  go_wp2_with (first
    | (go_at_call 34; refine HI.out.mono ?_; rintro e w1 ⟨rfl, hw1⟩; subst w1)
    | (go_at_call 87; refine HSk.out.mono ?_; rintro e w2 ⟨rfl, hc2, ho2⟩))
  go_loopw [1] (fun v wr => ∃ x : Int, v = .int .i64 x ∧ x ≤ 9223372036854775807 ∧ Hid (MoveRel w b τ x wr)) (fun v _ => (intOf v).toNat)
  case atStart => exact ⟨n, rfl, hn, ho2, _, _, hc2, HM.out⟩
  case round =>
    clear hc2 ho2 HSk HI HM
    obtain ⟨x, rfl, hx9, hr⟩ := hrel
    obtain ⟨ho, l, c0, hcur, hs⟩ := hr.out
    have hcur' := hcur
    obtain ⟨s, p, c, wi, h1, h2, h3, h4, h5⟩ := hcur'
    obtain ⟨rfl, rfl, rfl⟩ := abs_zero h5
    have HC : Hid (Cur wr b (s.data.toList.drop p, 0, c0)) := hcur
    have HS : Hid (passR x.toNat (s.data.toList.drop p) c0 = τ) := hs
    have hcw := h5.wt
    have H4 : Hid (wt (s.data.toList.drop p, 0, c0) ≤ 35184372088832) := h4
    have hc9 : c0 ≤ 35184372088832 := by omega
    have c1 := cell_blk h1 (i := 1) rfl
    have c0' := cell_blk h1 (i := 0) rfl
    have c2 := cell_blk h1 (i := 2) rfl
    have H1 : Hid (CurB wr b s p c0 false) := h1
    have HO : Hid (Oth b w wr) := ho
    clear h1 hs ho hcur hr h5 h4 hcw
    by_cases hx0 : 0 < x
    · have dx : decide (0 < x) = true := by simpa using hx0
      by_cases hlt : p < s.size
      · have hplt : (p : Int) < (s.size : Int) := by omega
        have dlt : decide ((p : Int) < (s.size : Int)) = true := by simpa using hlt
        have hw4 := wid_pos s[p] c0
        go_wp2
        go_quiet (fail)
        go_wp2
        go_region_with (first
          | (go_at_call 59; refine (width_any _ _ _ (by omega)).mono ?_; rintro e w1 ⟨rfl, rfl⟩)
          | (go_at_call 115; refine (pass_any (w := World.drew (wr.drewN _)) (s := s) (p := p) (c := c0) (wi := false) (by exact H1.out) (by omega) (by omega)).mono ?_; rintro e w1 ⟨rfl, hp1, hp2⟩))
        all_goals go_wp2
        all_goals go_roundw
        all_goals first
          | exact ⟨x - 1, rfl, by omega, move_pass (m := nq + 1) hx0 HO.out hlt h3 H4.out HS.out hp1 hp2⟩
          | (simp [intOf]; omega)
      · have hge : ¬ ((p : Int) < (s.size : Int)) := by omega
        have dlt : decide ((p : Int) < (s.size : Int)) = false := by simpa using hge
        go_wp2
        go_quiet (fail)
        go_wp2
        go_end0
        refine ⟨rfl, ?_, HO.out.drewN _⟩
        have e : τ = (s.data.toList.drop p, 0, c0) := by
          rw [← HS.out, drop_nil s p (by omega)]
          cases x.toNat <;> rfl
        rw [e]
        exact HC.out
    · have dx : decide (0 < x) = false := by simpa using hx0
      go_wp2
      go_quiet (fail)
      go_wp2
      go_end0
      refine ⟨rfl, ?_, HO.out.drewN _⟩
      have e : τ = (s.data.toList.drop p, 0, c0) := by
        rw [← HS.out, show x.toNat = 0 by omega]
        rfl
      rw [e]
      exact HC.out

end Go.Proofs.YtcbojffcnlkejaaGreatDoor.cur

/- Three places in lines, side by side in memory; what a call of one leaves of the others. -/
namespace Go.Proofs.YtcbojffcnlkejaaGreatDoor.cur
open Go.RowKit

theorem new_at (s : ByteArray) (w : World) (hs : s.size ≤ 1099511627776) : Calls Tryz.prog 21 #[.string s] w fun e w' => ∃ b, e = .returned (cptr b) ∧ w.heap.size ≤ b ∧ Cur w' b (s.data.toList, 0, 0) ∧ Below w.heap.size w w' :=
  (new_any s w hs).mono fun e w' ⟨he, hc, hb⟩ => ⟨_, he, Nat.le_refl _, hc, hb⟩

theorem beh_beh : ∀ l : List UInt8, beh (beh l) = beh l
  | [] => rfl
  | b :: t => by
    simp only [beh]
    split
    · exact beh_beh t
    · rename_i h; simp [beh, h]

/-- Three places. -/
def Three (w0 w : World) (a b d : Nat) (x y z : Pl) : Prop := Cur w a x ∧ Cur w b y ∧ Cur w d z ∧ a ≠ b ∧ a ≠ d ∧ b ≠ d ∧ w0.heap.size ≤ a ∧ w0.heap.size ≤ b ∧ w0.heap.size ≤ d ∧ Below w0.heap.size w0 w

section
variable {w0 w : World} {a b d : Nat} {x y z : Pl}
theorem Three.drewN (h : Three w0 w a b d x y z) (m : Nat) : Three w0 (w.drewN m) a b d x y z := by
  obtain ⟨h1, h2, h3, h4, h5, h6, h7, h8, h9, h10⟩ := h
  exact ⟨h1, h2, h3, h4, h5, h6, h7, h8, h9, below_drewN h10 m⟩
theorem Three.ca (h : Three w0 w a b d x y z) : Cur w a x := h.1
theorem Three.cb (h : Three w0 w a b d x y z) : Cur w b y := h.2.1
theorem Three.cd (h : Three w0 w a b d x y z) : Cur w d z := h.2.2.1
theorem Three.below (h : Three w0 w a b d x y z) : Below w0.heap.size w0 w := h.2.2.2.2.2.2.2.2.2
theorem Three.oth_a (h : Three w0 w a b d x y z) {w' : World} {x' : Pl} (hc : Cur w' a x') (ho : Oth a w w') : Three w0 w' a b d x' y z := by
  obtain ⟨h1, h2, h3, h4, h5, h6, h7, h8, h9, h10⟩ := h
  exact ⟨hc, h2.oth ho (Ne.symm h4), h3.oth ho (Ne.symm h5), h4, h5, h6, h7, h8, h9, h10.trans (ho.below h7)⟩
theorem Three.oth_b (h : Three w0 w a b d x y z) {w' : World} {y' : Pl} (hc : Cur w' b y') (ho : Oth b w w') : Three w0 w' a b d x y' z := by
  obtain ⟨h1, h2, h3, h4, h5, h6, h7, h8, h9, h10⟩ := h
  exact ⟨h1.oth ho h4, hc, h3.oth ho (Ne.symm h6), h4, h5, h6, h7, h8, h9, h10.trans (ho.below h8)⟩
theorem Three.oth_d (h : Three w0 w a b d x y z) {w' : World} {z' : Pl} (hc : Cur w' d z') (ho : Oth d w w') : Three w0 w' a b d x y z' := by
  obtain ⟨h1, h2, h3, h4, h5, h6, h7, h8, h9, h10⟩ := h
  exact ⟨h1.oth ho h5, h2.oth ho h6, hc, h4, h5, h6, h7, h8, h9, h10.trans (ho.below h9)⟩
theorem Three.mk {w1 w2 w3 : World} (hb0 : Below w0.heap.size w0 w) (la : w.heap.size ≤ a) (ca : Cur w1 a x) (hb1 : Below w.heap.size w w1) (lb : w1.heap.size ≤ b) (cb : Cur w2 b y) (hb2 : Below w1.heap.size w1 w2) (ld : w2.heap.size ≤ d) (cd : Cur w3 d z) (hb3 : Below w2.heap.size w2 w3) : Three w0 w3 a b d x y z := by
  have s0 := hb0.size
  have s1 := hb1.size
  have s2 := hb2.size
  have l1 := ca.lt
  have l2 := cb.lt
  exact ⟨(ca.below hb2).below hb3, cb.below hb3, cd, by omega, by omega, by omega, by omega, by omega, by omega, ((hb0.trans (hb1.mono s0)).trans (hb2.mono (by omega))).trans (hb3.mono (by omega))⟩
end

/-- A mask of three bits. -/
theorem and_seven (z : Int) : ∃ n : Nat, n ≤ 7 ∧ bits .and .i64 z 7 = (n : Int) := by
  refine ⟨(BitVec.ofInt 64 z &&& BitVec.ofInt 64 7).toNat, ?_, ?_⟩
  · rw [BitVec.toNat_and]
    exact Nat.le_trans Nat.and_le_right (by decide)
  · have h : (BitVec.ofInt 64 z &&& BitVec.ofInt 64 7).toNat ≤ 7 := by
      rw [BitVec.toNat_and]
      exact Nat.le_trans Nat.and_le_right (by decide)
    show IntKind.i64.wrap (((BitVec.ofInt 64 z &&& BitVec.ofInt 64 7).toNat : Nat) : Int) = _
    rw [IntKind.wrap_i64]
    omega

end Go.Proofs.YtcbojffcnlkejaaGreatDoor.cur
