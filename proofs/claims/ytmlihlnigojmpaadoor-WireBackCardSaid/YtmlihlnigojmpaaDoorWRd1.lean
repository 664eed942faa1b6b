/- Reading a letter: the plain model, what a reading call leaves, numbers and texts. -/
import Derived.Test.YtmlihlnigojmpaaDoorZFault
import Derived.Test.YtmlihlnigojmpaaDoorPNums
import Derived.Lib.ConvBytes
set_option linter.unusedVariables false
namespace Go.Proofs.YtmlihlnigojmpaaDoor
open Go.RowKit

/-- A number of at most most, from place p on: or where it is none. -/
def rN (L : List UInt8) (most p : Nat) : Except Nat (Nat × Nat) :=
  if (getN 0 0 (L.drop p)).2 = 0 ∨ most < (getN 0 0 (L.drop p)).1 then .error p else .ok ((getN 0 0 (L.drop p)).1, p + (getN 0 0 (L.drop p)).2)
/-- A text. -/
def rT (L : List UInt8) (most p : Nat) : Except Nat (List UInt8 × Nat) :=
  if (getT (L.drop p) (most : Int)).2 = 0 then .error p else .ok ((getT (L.drop p) (most : Int)).1, p + (getT (L.drop p) (most : Int)).2)
theorem rN_le {L : List UInt8} {most p n q : Nat} (h : rN L most p = .ok (n, q)) (hp : p ≤ L.length) : n ≤ most ∧ q ≤ L.length := by
  unfold rN at h
  split at h
  · cases h
  · rename_i hc
    have hb := (getN_bound (L.drop p) 0 0 (by omega) (by simp)).2.1
    rw [List.length_drop] at hb
    cases h
    omega
theorem getT_le (b : List UInt8) (most : Nat) : (getT b (most : Int)).1.length ≤ most := by
  unfold getT
  split
  · exact Nat.zero_le _
  · rename_i h
    show ((b.drop _).take _).length ≤ _
    rw [List.length_take]
    omega
theorem rT_le {L : List UInt8} {most p q : Nat} {s : List UInt8} (h : rT L most p = .ok (s, q)) (hp : p ≤ L.length) : s.length ≤ most ∧ q ≤ L.length := by
  unfold rT at h
  split at h
  · cases h
  · have hb := getT_len (L.drop p) (most : Int)
    rw [List.length_drop] at hb
    have := getT_le (L.drop p) most
    cases h
    exact ⟨this, by omega⟩

/-- Beside the blocks of a class all old blocks stay. -/
def Fx (S : Nat → Prop) (w w' : World) : Prop := w'.os = w.os ∧ w'.tape = w.tape ∧ w'.output = w.output ∧ w.heap.size ≤ w'.heap.size ∧ ∀ k, k < w.heap.size → ¬ S k → w'.heap[k]? = w.heap[k]?
section
variable {S : Nat → Prop} {w w1 w2 : World}
theorem Fx.refl (S : Nat → Prop) (w : World) : Fx S w w := ⟨rfl, rfl, rfl, Nat.le_refl _, fun _ _ _ => rfl⟩
theorem Fx.size (h : Fx S w w1) : w.heap.size ≤ w1.heap.size := h.2.2.2.1
theorem Fx.block (h : Fx S w w1) {k : Nat} (hk : k < w.heap.size) (hs : ¬ S k) : w1.heap[k]? = w.heap[k]? := h.2.2.2.2 k hk hs
theorem Fx.trans (h : Fx S w w1) (k : Fx S w1 w2) : Fx S w w2 :=
  ⟨k.1.trans h.1, k.2.1.trans h.2.1, k.2.2.1.trans h.2.2.1, Nat.le_trans h.size k.size, fun i hi hs => (k.block (Nat.lt_of_lt_of_le hi h.size) hs).trans (h.block hi hs)⟩
theorem Fx.imp {S' : Nat → Prop} (h : Fx S w w1) (hs : ∀ k, k < w.heap.size → S k → S' k) : Fx S' w w1 := ⟨h.1, h.2.1, h.2.2.1, h.2.2.2.1, fun k hk hn => h.block hk (fun hS => hn (hs k hk hS))⟩
theorem Fx.of_below (S : Nat → Prop) (h : Below w.heap.size w w1) : Fx S w w1 := ⟨h.os, h.tape, h.output, h.size, fun k hk _ => h.block k hk⟩
theorem Fx.below (h : Fx S w w1) {B : Nat} (hB : B ≤ w.heap.size) (hs : ∀ k, S k → B ≤ k) : Below B w w1 :=
  ⟨h.1, h.2.1, h.2.2.1, h.size, fun k hk => h.block (Nat.lt_of_lt_of_le hk hB) (fun hS => by have := hs k hS; omega)⟩
theorem Fx.of_oth {b : Nat} (h : Oth b w w1) : Fx (fun k => k = b) w w1 := ⟨h.1, h.2.1, h.2.2.1, by rw [h.size]; exact Nat.le_refl _, fun k _ hs => h.block hs⟩
theorem Fx.alloc (h : Fx S w w1) (o : Obj) : Fx S w (w1.alloc o) := h.trans (Fx.of_below S ((Below.refl _ w1).alloc (Nat.le_refl _) o))
theorem Fx.set (h : Fx S w w1) {b : Nat} (hb : S b) (i : Nat) (u : Value) : Fx S w (w1.setCell ⟨b, i, none⟩ u) :=
  h.trans ⟨rfl, rfl, rfl, by simp [World.setCell], fun k hk hs => Below.heap_setCell _ _ _ _ (by simp; intro e; exact hs (e ▸ hb))⟩
theorem Fx.of_grown {row : Option Nat} (h : w.grownBy w1 row) (hr : ∀ k, row = some k → S k) : Fx S w w1 :=
  ⟨h.os, h.tape, h.output, h.size, fun k hk hs => h.block k hk (fun e => hs (hr k e.symm))⟩
/-- A new block, written. -/
theorem Fx.set_new (h : Fx S w w1) {b : Nat} (hb : w.heap.size ≤ b) (i : Nat) (u : Value) : Fx S w (w1.setCell ⟨b, i, none⟩ u) :=
  ⟨h.1, h.2.1, h.2.2.1, by simpa [World.setCell] using h.size, fun k hk hs => (Below.heap_setCell _ _ _ _ (by simp; omega)).trans (h.block hk hs)⟩
end

/-- The bytes that are read, in the world where reading began. -/
structure Src (w0 : World) (a : Option Addr) (len cap : Nat) (L : List UInt8) : Prop where
  row : BRow w0 a len cap L
  hm : len ≤ 140737488355328
  hcap : len ≤ cap
  hcap2 : cap ≤ 9223372036854775807
/-- A reader at a place. -/
structure RdS (w0 : World) (a : Option Addr) (len cap b : Nat) (w : World) (p : Nat) : Prop where
  below : Below w0.heap.size w0 w
  ge : w0.heap.size ≤ b
  rd : RdB w b a len cap p
  hp : p ≤ len
theorem RdS.lt {w0 w : World} {a : Option Addr} {len cap b p : Nat} (h : RdS w0 a len cap b w p) : b < w.heap.size := (Array.getElem?_eq_some_iff.1 h.rd).1
theorem RdS.keep {w0 w w' : World} {a : Option Addr} {len cap b p : Nat} (h : RdS w0 a len cap b w p) {S : Nat → Prop} (hf : Fx S w w') (hs : ∀ k, S k → w0.heap.size ≤ k) (hb : ¬ S b) : RdS w0 a len cap b w' p :=
  ⟨h.below.trans (hf.below h.below.size hs), h.ge, (hf.block h.lt hb).trans h.rd, h.hp⟩
/-- What a reading call answers: what it read, or it gives up. -/
def Got (w0 : World) (a : Option Addr) (len cap b : Nat) (S : Nat → Prop) (w : World) {α : Type} (X : Except Nat (α × Nat)) (rep : α → Value → World → Prop) (e : Ending) (w' : World) : Prop :=
  Fx S w w' ∧ match X with
    | .error q => e = gaveUp q
    | .ok (x, p) => ∃ v, e = .returned v ∧ rep x v w' ∧ RdS w0 a len cap b w' p
theorem Got.error {w0 : World} {a : Option Addr} {len cap b : Nat} {S : Nat → Prop} {w : World} {α : Type} {X : Except Nat (α × Nat)} {rep : α → Value → World → Prop} {e : Ending} {w' : World} (h : Got w0 a len cap b S w X rep e w') {q : Nat} (hX : X = .error q) : e = gaveUp q ∧ Fx S w w' := by
  subst hX
  exact ⟨h.2, h.1⟩
theorem Got.ok {w0 : World} {a : Option Addr} {len cap b : Nat} {S : Nat → Prop} {w : World} {α : Type} {X : Except Nat (α × Nat)} {rep : α → Value → World → Prop} {e : Ending} {w' : World} (h : Got w0 a len cap b S w X rep e w') {x : α} {p : Nat} (hX : X = .ok (x, p)) : ∃ v, e = .returned v ∧ rep x v w' ∧ RdS w0 a len cap b w' p ∧ Fx S w w' := by
  subst hX
  obtain ⟨h1, v, h2, h3, h4⟩ := h
  exact ⟨v, h2, h3, h4, h1⟩

section
variable {w0 : World} {a : Option Addr} {len cap b : Nat} {L : List UInt8}
theorem rnum (hs : Src w0 a len cap L) {w : World} {p : Nat} (h : RdS w0 a len cap b w p) (most : Nat) (hmo : most ≤ 9223372036854775807) :
    Calls Tryd.prog 56 #[rptr b, .int .i64 (most : Int)] w (Got w0 a len cap b (fun k => k = b) w (rN L most p) (fun n v _ => v = .int .i64 (n : Int))) := by
  refine (number_any w b a len cap p most L h.rd (hs.row.below h.below) h.hp hs.hm hs.hcap hs.hcap2 hmo).mono ?_
  rintro e w' ⟨ho, hr⟩
  have hf := Fx.of_oth ho
  have hbel : Below w0.heap.size w0 w' := h.below.trans (hf.below h.below.size (fun k hk => hk ▸ h.ge))
  have hb := (getN_bound (L.drop p) 0 0 (by omega) (by simp)).2.1
  rw [List.length_drop, hs.row.1] at hb
  refine ⟨hf, ?_⟩
  unfold rN
  by_cases c : (getN 0 0 (L.drop p)).2 = 0 ∨ most < (getN 0 0 (L.drop p)).1
  · rw [if_pos c] at hr ⊢
    exact hr.1
  · rw [if_neg c] at hr ⊢
    exact ⟨_, hr.1, rfl, hbel, h.ge, hr.2, by have := h.hp; omega⟩
theorem rtext (hs : Src w0 a len cap L) {w : World} {p : Nat} (h : RdS w0 a len cap b w p) (most : Nat) (hmo : most ≤ 9223372036854775807) :
    Calls Tryd.prog 82 #[rptr b, .int .i64 (most : Int)] w (Got w0 a len cap b (fun k => k = b) w (rT L most p) (fun s v _ => v = .string ⟨s.toArray⟩)) := by
  refine (text_any w b a len cap p most L h.rd (hs.row.below h.below) h.hp hs.hm hs.hcap hs.hcap2 hmo).mono ?_
  rintro e w' ⟨ho, hr⟩
  have hf := Fx.of_oth ho
  have hbel : Below w0.heap.size w0 w' := h.below.trans (hf.below h.below.size (fun k hk => hk ▸ h.ge))
  have hb := getT_len (L.drop p) (most : Int)
  rw [List.length_drop, hs.row.1] at hb
  refine ⟨hf, ?_⟩
  unfold rT
  by_cases c : (getT (L.drop p) (most : Int)).2 = 0
  · rw [if_pos c] at hr ⊢
    exact hr.1
  · rw [if_neg c] at hr ⊢
    exact ⟨_, hr.1, rfl, hbel, h.ge, hr.2, by have := h.hp; omega⟩
end

/-- The bytes of a text, made anew. -/
theorem conv_row (w : World) (s : ByteArray) (hs : s.size ≤ 140737488355328) : ∃ a c W, (convert 9 24 (.string s)).run Tryd.prog w = .ok (.slice a s.size c) W ∧ BRow W a s.size c s.data.toList ∧ Below w.heap.size w W ∧ (∀ x, a = some x → w.heap.size ≤ x.block) ∧ s.size ≤ c := by
  have hr := Lib.run_convert_string_bytes (P := Tryd.prog) w 9 24 5 s Tryd.underlying9 Tryd.underlying24 Tryd.underlying5
  refine ⟨_, _, _, hr, ⟨by simp, .inr ⟨_, rfl, fun j hj => ?_⟩⟩, ⟨rfl, rfl, rfl, by rw [Lib.bytesWorld_size]; omega, fun k hk => Lib.bytesWorld_at_old w _ s k hk⟩, fun x hx => by cases hx; exact Nat.le_refl _, grownCap_ge _ _ _ _⟩
  have hj2 : j < s.size := by simpa using hj
  rw [show (⟨w.heap.size, 0, none⟩ : Addr).add j = ⟨w.heap.size, j, none⟩ from by unfold Addr.add; split <;> simp_all, Lib.bytesWorld_cell w 5 s j hj2]
  simp [List.getD, hj2]
end Go.Proofs.YtmlihlnigojmpaaDoor
