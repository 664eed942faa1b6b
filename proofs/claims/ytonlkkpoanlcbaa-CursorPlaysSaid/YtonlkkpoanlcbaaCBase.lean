/- Blocks of several cells behind a pointer: what they hold, what a store leaves, and what of a world stays as it was beside one block. -/
import Derived.Test.YtonlkkpoanlcbaaBase
import Derived.Test.YtonlkkpoanlcbaaPlainCur
import Derived.BigQuiet
import Derived.Deep.RegionLaw
import Derived.Laws.DeepStrings4
set_option linter.unusedVariables false
namespace Go.Proofs.Ytonlkkpoanlcbaa
open Go.RowKit

theorem cell_blk {w : World} {b : Nat} {cs : Array Value} {t : TypeId} (h : w.heap[b]? = some (.cells cs t (0, 0))) {i : Nat} {v : Value} (hi : cs[i]? = some v) : w.cell? ⟨b, i, none⟩ = some v := by
  simp [World.cell?, h, hi]

theorem free_blk {w : World} {b : Nat} {cs : Array Value} {t : TypeId} (h : w.heap[b]? = some (.cells cs t (0, 0))) (i : Nat) : w.frozen? ⟨b, i, none⟩ = false := by
  simp [World.frozen?, h]

theorem set_blk {w : World} {b : Nat} {cs : Array Value} {t : TypeId} (h : w.heap[b]? = some (.cells cs t (0, 0))) (i : Nat) (u : Value) : (w.setCell ⟨b, i, none⟩ u).heap[b]? = some (.cells (cs.setIfInBounds i u) t (0, 0)) := by
  have hlt := lt_of_block h
  have h' : w.heap[b] = .cells cs t (0, 0) := by simpa [Array.getElem?_eq_getElem hlt] using h
  show (w.heap.modify b _)[b]? = _
  rw [Array.getElem?_eq_getElem (by simpa using hlt), Array.getElem_modify_self, h']
  rfl

/-- Beside block b all is as it was. -/
def Oth (b : Nat) (w w' : World) : Prop := w'.os = w.os ∧ w'.tape = w.tape ∧ w'.output = w.output ∧ w'.heap.size = w.heap.size ∧ ∀ k, k ≠ b → w'.heap[k]? = w.heap[k]?

theorem Oth.refl (b : Nat) (w : World) : Oth b w w := ⟨rfl, rfl, rfl, rfl, fun _ _ => rfl⟩
theorem Oth.trans {b : Nat} {w1 w2 w3 : World} (h : Oth b w1 w2) (k : Oth b w2 w3) : Oth b w1 w3 :=
  ⟨k.1.trans h.1, k.2.1.trans h.2.1, k.2.2.1.trans h.2.2.1, k.2.2.2.1.trans h.2.2.2.1, fun i hi => (k.2.2.2.2 i hi).trans (h.2.2.2.2 i hi)⟩
theorem Oth.set {b : Nat} {w1 w : World} (h : Oth b w1 w) (i : Nat) (u : Value) : Oth b w1 (w.setCell ⟨b, i, none⟩ u) :=
  h.trans ⟨rfl, rfl, rfl, by simp [World.setCell], fun k hk => Below.heap_setCell _ _ _ _ (by simpa using hk)⟩
theorem Oth.drewN {b : Nat} {w1 w : World} (h : Oth b w1 w) (n : Nat) : Oth b w1 (w.drewN n) := h.trans ⟨rfl, rfl, rfl, rfl, fun _ _ => rfl⟩
theorem Oth.size {b : Nat} {w w' : World} (h : Oth b w w') : w'.heap.size = w.heap.size := h.2.2.2.1
theorem Oth.block {b : Nat} {w w' : World} (h : Oth b w w') {k : Nat} (hk : k ≠ b) : w'.heap[k]? = w.heap[k]? := h.2.2.2.2 k hk
/-- Below a number that is not above b. -/
theorem Oth.below {b : Nat} {w w' : World} (h : Oth b w w') {B : Nat} (hB : B ≤ b) : Below B w w' :=
  ⟨h.1, h.2.1, h.2.2.1, by rw [h.size]; exact Nat.le_refl _, fun k hk => h.block (by omega)⟩

theorem below_drewN {B : Nat} {w0 w : World} (h : Below B w0 w) (n : Nat) : Below B w0 (w.drewN n) := h.trans ⟨rfl, rfl, rfl, Nat.le_refl _, fun k hk => rfl⟩

/-- A callee that only reads, in a second region that draws. -/
theorem quiet_same2 {P : Program} {f : FuncId} {args : Array Value} {w : World} {n m : Nat} {v : Value}
    (h : Calls P f args (w.drewN (n + m)) fun e w' => e = .returned v ∧ w' = w.drewN (n + m)) : Calls P f args (w.drewN (n + m)) fun e w'' => e = .returned v ∧ ∃ k, w'' = w.drewN (n + k) :=
  h.mono fun _ _ ⟨he, hm⟩ => ⟨he, m, hm⟩

/-- What a block holds it holds while nothing that was there turns. -/
theorem blk_below {w w' : World} {b : Nat} {o : Obj} (h : w.heap[b]? = some o) (hb : Below w.heap.size w w') : w'.heap[b]? = some o := (hb.block b (lt_of_block h)).trans h

/-- The code's place in a line, against the plain one. -/
def Abs (l : List UInt8) (c : Nat) (wi : Bool) (σ : Pl) : Prop := (wi = false ∧ σ = (l, 0, c)) ∨ (wi = true ∧ ∃ t, l = 9 :: t ∧ c % 4 ≠ 0 ∧ σ = (t, 4 - c % 4, c))

abbrev CurB (w : World) (b : Nat) (s : ByteArray) (p c : Nat) (wi : Bool) : Prop := w.heap[b]? = some (.cells #[.string s, .int .i64 (p : Int), .int .i64 (c : Int), .bool wi] 40 (0, 0))

/-- Block b holds the code's place σ. -/
def Cur (w : World) (b : Nat) (σ : Pl) : Prop := ∃ s p c wi, CurB w b s p c wi ∧ p ≤ s.size ∧ s.size ≤ 1099511627776 ∧ wt σ ≤ 35184372088832 ∧ Abs (s.data.toList.drop p) c wi σ

abbrev cptr (b : Nat) : Value := .pointer (some ⟨b, 0, none⟩)

theorem Cur.below {w w' : World} {b : Nat} {σ : Pl} (h : Cur w b σ) (hb : Below w.heap.size w w') : Cur w' b σ := by
  obtain ⟨s, p, c, wi, h1, h2⟩ := h
  exact ⟨s, p, c, wi, blk_below h1 hb, h2⟩
theorem Cur.oth {w w' : World} {b b' : Nat} {σ : Pl} (h : Cur w b σ) (hb : Oth b' w w') (hn : b ≠ b') : Cur w' b σ := by
  obtain ⟨s, p, c, wi, h1, h2⟩ := h
  exact ⟨s, p, c, wi, (hb.block hn).trans h1, h2⟩
theorem Cur.lt {w : World} {b : Nat} {σ : Pl} (h : Cur w b σ) : b < w.heap.size := by
  obtain ⟨s, p, c, wi, h1, h2⟩ := h
  exact lt_of_block h1
theorem Cur.drewN {w : World} {b : Nat} {σ : Pl} (h : Cur w b σ) (n : Nat) : Cur (w.drewN n) b σ := h
theorem Cur.wt {w : World} {b : Nat} {σ : Pl} (h : Cur w b σ) : wt σ ≤ 35184372088832 := by
  obtain ⟨s, p, c, wi, h1, h2, h3, h4, h5⟩ := h
  exact h4

theorem Abs.col {l : List UInt8} {c : Nat} {wi : Bool} {σ : Pl} (h : Abs l c wi σ) : σ.2.2 = c := by
  rcases h with ⟨_, rfl⟩ | ⟨_, t, _, _, rfl⟩ <;> rfl
theorem Abs.beh {l : List UInt8} {c : Nat} {wi : Bool} {σ : Pl} (h : Abs l c wi σ) : beh σ.1 = beh l := by
  rcases h with ⟨_, rfl⟩ | ⟨_, t, rfl, _, rfl⟩
  · rfl
  · rfl
theorem Abs.endC {l : List UInt8} {c : Nat} {wi : Bool} {σ : Pl} (h : Abs l c wi σ) : endC σ.1 (σ.2.2 + σ.2.1) = endC l c := by
  rcases h with ⟨_, rfl⟩ | ⟨_, t, rfl, _, rfl⟩
  · rfl
  · simp [Go.Proofs.Ytonlkkpoanlcbaa.endC, isB, wid_tab]
/-- The first byte, if it is blank or tab, as a whole. -/
theorem Abs.whole {b : UInt8} {t : List UInt8} {c : Nat} {wi : Bool} {σ : Pl} (h : Abs (b :: t) c wi σ) (hb : isB b = true) (n : Nat) (hn : wid b c ≤ n) : skipR n σ = skipR (n - wid b c) (t, 0, c + wid b c) := by
  have e : n = wid b c + (n - wid b c) := by omega
  rcases h with ⟨_, rfl⟩ | ⟨_, t', ht, hc, rfl⟩
  · conv => lhs; rw [e, skip_add, skip_byte hb]
  · simp only [List.cons.injEq] at ht
    obtain ⟨rfl, rfl⟩ := ht
    rw [wid_tab] at *
    conv => lhs; rw [e, skip_add, skip_part _ _ _ _ (Nat.le_refl _), Nat.sub_self]
/-- A part of it. -/
theorem Abs.part {b : UInt8} {t : List UInt8} {c : Nat} {wi : Bool} {σ : Pl} (h : Abs (b :: t) c wi σ) (hb : isB b = true) (n : Nat) (h0 : 0 < n) (hn : n < wid b c) : Abs (b :: t) (c + n) true (skipR n σ) := by
  have h9 : b = 9 := by
    rcases (isB_iff b).1 hb with rfl | rfl
    · simp [wid] at hn; omega
    · rfl
  subst h9
  rw [wid_tab] at hn
  refine .inr ⟨rfl, t, rfl, by omega, ?_⟩
  rcases h with ⟨_, rfl⟩ | ⟨_, t', ht, hc, rfl⟩
  · rw [skip_less hb t c n h0 (by rw [wid_tab]; omega), wid_tab]
    simp only [Prod.mk.injEq, true_and, and_true]; omega
  · simp only [List.cons.injEq, true_and] at ht
    subst ht
    rw [skip_part _ _ _ _ (by omega)]
    simp only [Prod.mk.injEq, true_and, and_true]; omega
/-- No blank or tab. -/
theorem Abs.stop {l : List UInt8} {c : Nat} {wi : Bool} {σ : Pl} (h : Abs l c wi σ) (hl : ∀ b t, l = b :: t → isB b = false) (n : Nat) : skipR n σ = σ := by
  rcases h with ⟨_, rfl⟩ | ⟨_, t, rfl, _, rfl⟩
  · refine skip_none ?_ n
    cases l with
    | nil => rfl
    | cons b t => simp [stepR, hl b t rfl]
  · exact absurd (hl 9 t rfl) (by decide)
theorem Abs.wt {l : List UInt8} {c : Nat} {wi : Bool} {σ : Pl} (h : Abs l c wi σ) : c ≤ wt σ := by
  rcases h with ⟨_, rfl⟩ | ⟨_, t, rfl, _, rfl⟩ <;> simp only [Go.Proofs.Ytonlkkpoanlcbaa.wt] <;> omega

theorem drop_cons (s : ByteArray) (p : Nat) (h : p < s.size) : s.data.toList.drop p = s[p] :: s.data.toList.drop (p + 1) := by
  have h' : p < s.data.toList.length := by rw [len_data]; exact h
  rw [List.drop_eq_getElem_cons h']
  rfl
theorem beh_drop : ∀ l : List UInt8, ∃ j, j ≤ l.length ∧ beh l = l.drop j
  | [] => ⟨0, by simp, rfl⟩
  | b :: t => by
    simp only [beh]
    split
    · obtain ⟨j, hj, e⟩ := beh_drop t
      exact ⟨j + 1, by simpa using hj, by simpa using e⟩
    · exact ⟨0, by simp, rfl⟩

/-- Where what follows blanks and tabs begins. -/
def bAt (s : ByteArray) (p : Nat) : Nat := s.size - (beh (s.data.toList.drop p)).length

theorem bAt_le (s : ByteArray) (p : Nat) : bAt s p ≤ s.size := Nat.sub_le _ _
theorem bAt_eq (s : ByteArray) (p k : Nat) (hk : k ≤ s.size) (h : s.data.toList.drop k = beh (s.data.toList.drop p)) : bAt s p = k := by
  unfold bAt
  rw [← h, List.length_drop, len_data]
  omega
theorem bAt_drop (s : ByteArray) (p : Nat) (hp : p ≤ s.size) : s.data.toList.drop (bAt s p) = beh (s.data.toList.drop p) := by
  obtain ⟨j, hj, e⟩ := beh_drop (s.data.toList.drop p)
  rw [List.length_drop, len_data] at hj
  rw [List.drop_drop] at e
  rw [bAt_eq s p (p + j) (by omega) e.symm, e]
theorem bAt_end (s : ByteArray) (p : Nat) : bAt s p = s.size ↔ (beh (s.data.toList.drop p)).isEmpty = true := by
  obtain ⟨j, hj, e⟩ := beh_drop (s.data.toList.drop p)
  have h1 : (beh (s.data.toList.drop p)).length ≤ s.size := by
    have : (s.data.toList.drop p).length ≤ s.size := by rw [List.length_drop, len_data]; omega
    rw [e, List.length_drop]; omega
  rw [List.isEmpty_iff, ← List.length_eq_zero_iff]
  unfold bAt
  omega
theorem drop_nil (s : ByteArray) (p : Nat) (h : s.size ≤ p) : s.data.toList.drop p = [] := List.drop_eq_nil_of_le (by rw [len_data]; exact h)

end Go.Proofs.Ytonlkkpoanlcbaa
