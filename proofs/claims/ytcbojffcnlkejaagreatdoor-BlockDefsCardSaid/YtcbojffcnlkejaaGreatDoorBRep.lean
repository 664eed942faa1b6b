/- What is open while a text is read, as it lies in memory: parts, what is in them, and which block is whose. -/
import Derived.Test.YtcbojffcnlkejaaGreatDoorG08
import Derived.Test.YtcbojffcnlkejaaGreatDoorG04
import Derived.Maps.AppendAt
set_option linter.unusedVariables false
namespace Go.Proofs.YtcbojffcnlkejaaGreatDoor
open Go.RowKit

/-- Beside the blocks of X all that was there is as it was. -/
structure Fr (X : Nat → Prop) (w w' : World) : Prop where
  os : w'.os = w.os
  tape : w'.tape = w.tape
  output : w'.output = w.output
  size : w.heap.size ≤ w'.heap.size
  block : ∀ k, k < w.heap.size → ¬ X k → w'.heap[k]? = w.heap[k]?

theorem Fr.refl (X : Nat → Prop) (w : World) : Fr X w w := ⟨rfl, rfl, rfl, Nat.le_refl _, fun _ _ _ => rfl⟩
theorem Fr.trans {X : Nat → Prop} {a b c : World} (h : Fr X a b) (k : Fr X b c) : Fr X a c :=
  ⟨k.os.trans h.os, k.tape.trans h.tape, k.output.trans h.output, Nat.le_trans h.size k.size, fun i hi hx => (k.block i (Nat.lt_of_lt_of_le hi h.size) hx).trans (h.block i hi hx)⟩
theorem Fr.mono {X Y : Nat → Prop} {w w' : World} (h : Fr X w w') (hXY : ∀ k, X k → Y k) : Fr Y w w' := ⟨h.os, h.tape, h.output, h.size, fun k hk hy => h.block k hk (fun hx => hy (hXY k hx))⟩
/-- The same, but for blocks that were not there. -/
theorem Fr.trans' {X Y : Nat → Prop} {a b c : World} (h : Fr X a b) (k : Fr Y b c) (hY : ∀ i, i < a.heap.size → Y i → X i) : Fr X a c :=
  ⟨k.os.trans h.os, k.tape.trans h.tape, k.output.trans h.output, Nat.le_trans h.size k.size, fun i hi hx => (k.block i (Nat.lt_of_lt_of_le hi h.size) (fun hy => hx (hY i hi hy))).trans (h.block i hi hx)⟩
theorem Fr.of_below {X : Nat → Prop} {w w' : World} (h : Below w.heap.size w w') : Fr X w w' := ⟨h.os, h.tape, h.output, h.size, fun k hk _ => h.block k hk⟩
theorem Fr.below {X : Nat → Prop} {B : Nat} {w w' : World} (h : Fr X w w') (hB : B ≤ w.heap.size) (hX : ∀ k, X k → B ≤ k) : Below B w w' :=
  ⟨h.os, h.tape, h.output, h.size, fun k hk => h.block k (by omega) (fun hx => by have := hX k hx; omega)⟩
theorem Fr.of_oth {X : Nat → Prop} {b : Nat} {w w' : World} (h : cur.Oth b w w') (hb : X b) : Fr X w w' := ⟨h.1, h.2.1, h.2.2.1, by rw [h.2.2.2.1]; exact Nat.le_refl _, fun k _ hx => h.2.2.2.2 k (fun e => hx (e ▸ hb))⟩
theorem Fr.keeps {X : Nat → Prop} {w w' : World} (h : Fr X w w') {b : Nat} {o : Obj} (hb : w.heap[b]? = some o) (hx : ¬ X b) : w'.heap[b]? = some o := (h.block b (lt_of_block hb) hx).trans hb
theorem Fr.drewN {X : Nat → Prop} {w w' : World} (h : Fr X w w') (n : Nat) : Fr X w (w'.drewN n) := h.trans ⟨rfl, rfl, rfl, Nat.le_refl _, fun _ _ _ => rfl⟩
theorem Fr.alloc {X : Nat → Prop} {w w' : World} (h : Fr X w w') (o : Obj) : Fr X w (w'.alloc o) := h.trans (Fr.of_below ((Below.refl _ _).alloc (Nat.le_refl _) o))
theorem Fr.set {X : Nat → Prop} {w w' : World} (h : Fr X w w') {b : Nat} (hb : X b) (i : Nat) (u : Value) : Fr X w (w'.setCell ⟨b, i, none⟩ u) :=
  h.trans (Fr.of_oth ((cur.Oth.refl b w').set i u) hb)

theorem row_keeps {w w' : World} {e : TypeId} {s : Nat} {v : Value} {n : Nat} {xs : List Value} (h : w.ownsRow 0 e s v n xs) (hk : ∀ g, v.ownBlock = some g → w'.heap[g]? = w.heap[g]?) : w'.ownsRow 0 e s v n xs := by
  refine ⟨h.1, ?_⟩
  rcases h.2 with hn | ⟨g, cap, cur, rfl, hb, hg, rest⟩
  · exact .inl hn
  · exact .inr ⟨g, cap, cur, rfl, hb, (hk g rfl).trans hg, rest⟩

theorem row_block {w : World} {e : TypeId} {s : Nat} {v : Value} {n : Nat} {xs : List Value} (h : w.ownsRow 0 e s v n xs) {g : Nat} (hg : v.ownBlock = some g) : ∃ cur, w.heap[g]? = some (.cells cur e (0, 0)) := by
  rcases h.2 with ⟨rfl, _⟩ | ⟨g', cap, cur, rfl, hb, hc, rest⟩
  · cases hg
  · cases hg; exact ⟨cur, hc⟩

abbrev strV (l : Str) : Value := .string ⟨l.toArray⟩

/-- A block's cells, its kids' row being v. -/
abbrev biCells (b : BI) (v : Value) : List Value := [.int .i64 (b.kind : Int), .int .i64 (b.level : Int), strV b.text, strV b.info, .bool b.ordered, .bool b.tight, .int .i64 (b.start : Int), v]

/-- Blocks' cells; all that is in them lies in blocks of S. -/
def KidC (w : World) (S : Nat → Prop) : Bs → List Value → Prop
  | .nil, xs => xs = []
  | .cons b k r, xs => ∃ v ys zs, xs = biCells b v ++ zs ∧ w.ownsRow 0 34 8 v k.len ys ∧ (∀ g, v.ownBlock = some g → S g) ∧ KidC w S k ys ∧ KidC w S r zs

/-- A row of blocks that lies in A, all that is in them in S. -/
def KidsV (w : World) (A S : Nat → Prop) (v : Value) (k : Bs) : Prop := ∃ xs, w.ownsRow 0 34 8 v k.len xs ∧ (∀ g, v.ownBlock = some g → A g) ∧ KidC w S k xs

theorem KidC.keeps {w w' : World} {S S' : Nat → Prop} (hS : ∀ g, S g → S' g) (hk : ∀ g, g < w.heap.size → S g → w'.heap[g]? = w.heap[g]?) : ∀ (k : Bs) (xs : List Value), KidC w S k xs → KidC w' S' k xs
  | .nil, _, h => h
  | .cons b k r, xs, ⟨v, ys, zs, h1, h2, h3, h4, h5⟩ => ⟨v, ys, zs, h1, row_keeps h2 (fun g hg => hk g (World.ownsRow.lt h2 g hg).2 (h3 g hg)), fun g hg => hS g (h3 g hg), KidC.keeps hS hk k ys h4, KidC.keeps hS hk r zs h5⟩

theorem KidsV.keeps {w w' : World} {A A' S S' : Nat → Prop} {v : Value} {k : Bs} (h : KidsV w A S v k) (hA : ∀ g, A g → A' g) (hS : ∀ g, S g → S' g) (ha : ∀ g, g < w.heap.size → A g → w'.heap[g]? = w.heap[g]?) (hs : ∀ g, g < w.heap.size → S g → w'.heap[g]? = w.heap[g]?) : KidsV w' A' S' v k := by
  obtain ⟨xs, h1, h2, h3⟩ := h
  exact ⟨xs, row_keeps h1 (fun g hg => ha g (World.ownsRow.lt h1 g hg).2 (h2 g hg)), fun g hg => hA g (h2 g hg), KidC.keeps hS hs k xs h3⟩

theorem KidC.snoc {w : World} {S : Nat → Prop} {b : BI} {k : Bs} {v : Value} {ys : List Value} (h1 : w.ownsRow 0 34 8 v k.len ys) (h2 : ∀ g, v.ownBlock = some g → S g) (h3 : KidC w S k ys) : ∀ (l : Bs) (xs : List Value), KidC w S l xs → KidC w S (l.snoc b k) (xs ++ biCells b v)
  | .nil, xs, h => by
    have h : xs = [] := h
    subst h
    exact ⟨v, ys, [], by simp, h1, h2, h3, rfl⟩
  | .cons c q r, xs, ⟨u, us, zs, e, a1, a2, a3, a4⟩ => ⟨u, us, zs ++ biCells b v, by rw [e, List.append_assoc], a1, a2, a3, KidC.snoc h1 h2 h3 r zs a4⟩

/-- Rows of texts. -/
abbrev strCs (l : List Str) : List Value := l.map strV
def RowsV (w : World) (A : Nat → Prop) (v : Value) (l : List Str) : Prop := w.ownsRow 0 9 1 v l.length (strCs l) ∧ ∀ g, v.ownBlock = some g → A g
theorem RowsV.keeps {w w' : World} {A A' : Nat → Prop} {v : Value} {l : List Str} (h : RowsV w A v l) (hA : ∀ g, A g → A' g) (ha : ∀ g, g < w.heap.size → A g → w'.heap[g]? = w.heap[g]?) : RowsV w' A' v l :=
  ⟨row_keeps h.1 (fun g hg => ha g (World.ownsRow.lt h.1 g hg).2 (h.2 g hg)), fun g hg => hA g (h.2 g hg)⟩

/-- A part's own cells, but for the row that it has. -/
def partCs : Part → Value → List Value
  | .doc x, v | .quote x, v => [.int .i64 (x.first : Int), .int .i64 (x.last : Int), v, .bool x.held, .bool x.gap]
  | .list x m, v => [.int .i64 (x.first : Int), .int .i64 (x.last : Int), v, .bool x.held, .bool x.gap, .int .u8 (m.sign.toNat : Int), .int .i64 (m.size : Int), .int .i64 (m.number : Int), .bool m.parts]
  | .item x n, v => [.int .i64 (x.first : Int), .int .i64 (x.last : Int), v, .bool x.held, .bool x.gap, .int .i64 (n : Int)]
  | .para x n, v => [.int .i64 (x.first : Int), .int .i64 (x.last : Int), v, .int .i64 (n : Int)]
  | .fenced x c k i s, v => [.int .i64 (x.first : Int), .int .i64 (x.last : Int), v, .int .u8 (c.toNat : Int), .int .i64 (k : Int), .int .i64 (i : Int), strV s]
  | .indented x, v => [.int .i64 (x.first : Int), .int .i64 (x.last : Int), v]
  | .html x n, v => [.int .i64 (x.first : Int), .int .i64 (x.last : Int), v, .int .i64 (n : Int)]
  | .whole f l b, v => .int .i64 (f : Int) :: .int .i64 (l : Int) :: biCells b v

/-- The type of a part's block, and of a pointer to it. -/
def partT : Part → TypeId
  | .doc _ => 52
  | .quote _ => 124
  | .list _ _ => 143
  | .item _ _ => 145
  | .para _ _ => 115
  | .fenced _ _ _ _ _ => 103
  | .indented _ => 120
  | .html _ _ => 135
  | .whole _ _ _ => 129
def partP : Part → TypeId
  | .doc _ => 46
  | .quote _ => 121
  | .list _ _ => 131
  | .item _ _ => 122
  | .para _ _ => 111
  | .fenced _ _ _ _ _ => 98
  | .indented _ => 118
  | .html _ _ => 133
  | .whole _ _ _ => 127

/-- What a part's row holds. -/
def partV (w : World) (A S : Nat → Prop) (v : Value) : Part → Prop
  | .doc x | .quote x | .list x _ | .item x _ => KidsV w A S v x.kids
  | .para x _ | .fenced x _ _ _ _ | .indented x | .html x _ => RowsV w A v x.rows
  | .whole _ _ _ => v = .slice none 0 0

/-- Block b holds a part; what is its own lies in A, what is in its kids in S. -/
def PartR (w : World) (A S : Nat → Prop) (b : Nat) (p : Part) : Prop := A b ∧ ∃ v, w.heap[b]? = some (.cells (partCs p v).toArray (partT p) (0, 0)) ∧ partV w A S v p

theorem partV.keeps {w w' : World} {A A' S S' : Nat → Prop} {v : Value} (hA : ∀ g, A g → A' g) (hS : ∀ g, S g → S' g) (ha : ∀ g, g < w.heap.size → A g → w'.heap[g]? = w.heap[g]?) (hs : ∀ g, g < w.heap.size → S g → w'.heap[g]? = w.heap[g]?) : ∀ {p : Part}, partV w A S v p → partV w' A' S' v p
  | .doc _, h | .quote _, h | .list _ _, h | .item _ _, h => KidsV.keeps h hA hS ha hs
  | .para _ _, h | .fenced _ _ _ _ _, h | .indented _, h | .html _ _, h => RowsV.keeps h hA ha
  | .whole _ _ _, h => h

theorem PartR.keeps {w w' : World} {A A' S S' : Nat → Prop} {b : Nat} {p : Part} (h : PartR w A S b p) (hA : ∀ g, A g → A' g) (hS : ∀ g, S g → S' g) (ha : ∀ g, g < w.heap.size → A g → w'.heap[g]? = w.heap[g]?) (hs : ∀ g, g < w.heap.size → S g → w'.heap[g]? = w.heap[g]?) : PartR w' A' S' b p := by
  obtain ⟨h1, v, h2, h3⟩ := h
  exact ⟨hA b h1, v, (ha b (lt_of_block h2) h1).trans h2, partV.keeps hA hS ha hs h3⟩

/-- What a part has lies in blocks that are there. -/
theorem KidC.lt {w : World} {S : Nat → Prop} : ∀ (k : Bs) (xs : List Value), KidC w S k xs → KidC w (fun g => g < w.heap.size ∧ S g) k xs
  | .nil, _, h => h
  | .cons b k r, xs, ⟨v, ys, zs, h1, h2, h3, h4, h5⟩ => ⟨v, ys, zs, h1, h2, fun g hg => ⟨(World.ownsRow.lt h2 g hg).2, h3 g hg⟩, KidC.lt k ys h4, KidC.lt r zs h5⟩
theorem partV_lt {w : World} {A S : Nat → Prop} {v : Value} : ∀ {p : Part}, partV w A S v p → partV w (fun g => g < w.heap.size ∧ A g) (fun g => g < w.heap.size ∧ S g) v p
  | .doc _, ⟨xs, h1, h2, h3⟩ | .quote _, ⟨xs, h1, h2, h3⟩ | .list _ _, ⟨xs, h1, h2, h3⟩ | .item _ _, ⟨xs, h1, h2, h3⟩ => ⟨xs, h1, fun g hg => ⟨(World.ownsRow.lt h1 g hg).2, h2 g hg⟩, KidC.lt _ _ h3⟩
  | .para _ _, h | .fenced _ _ _ _ _, h | .indented _, h | .html _ _, h => ⟨h.1, fun g hg => ⟨(World.ownsRow.lt h.1 g hg).2, h.2 g hg⟩⟩
  | .whole _ _ _, h => h

abbrev ptrV (b : Nat) : Value := .pointer (some ⟨b, 0, none⟩)
abbrev partI (p : Part) (b : Nat) : Value := .iface (partP p) (ptrV b)

end Go.Proofs.YtcbojffcnlkejaaGreatDoor
