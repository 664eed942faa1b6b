/- A net in memory: its struct, its row of letters, each letter's bytes; what of a world stays beside them. -/
import Derived.Test.YtblohegdlcpipaaBase
import Derived.Test.YtblohegdlcpipaaZBytes
import Derived.Maps.AppendAt
set_option linter.unusedVariables false
namespace Go.Proofs.Ytblohegdlcpipaa
open Go.RowKit

theorem cell_blk {w : World} {b : Nat} {cs : Array Value} {t : TypeId} (h : w.heap[b]? = some (.cells cs t (0, 0))) {i : Nat} {v : Value} (hi : cs[i]? = some v) : w.cell? ⟨b, i, none⟩ = some v := by
  simp [World.cell?, h, hi]
theorem free_blk {w : World} {b : Nat} {cs : Array Value} {t : TypeId} (h : w.heap[b]? = some (.cells cs t (0, 0))) (i : Nat) : w.frozen? ⟨b, i, none⟩ = false := by
  simp [World.frozen?, h]
theorem lt_blk {w : World} {b : Nat} {o : Obj} (h : w.heap[b]? = some o) : b < w.heap.size := (Array.getElem?_eq_some_iff.1 h).1
theorem set_blk {w : World} {b : Nat} {cs : Array Value} {t : TypeId} (h : w.heap[b]? = some (.cells cs t (0, 0))) (i : Nat) (u : Value) : (w.setCell ⟨b, i, none⟩ u).heap[b]? = some (.cells (cs.setIfInBounds i u) t (0, 0)) := by
  have hlt := lt_blk h
  have h' : w.heap[b] = .cells cs t (0, 0) := by simpa [Array.getElem?_eq_getElem hlt] using h
  show (w.heap.modify b _)[b]? = _
  rw [Array.getElem?_eq_getElem (by simpa using hlt), Array.getElem_modify_self, h']
  rfl

/-- Beside the blocks of S all that was there is as it was. -/
structure Fr (S : Nat → Prop) (w w' : World) : Prop where
  os : w'.os = w.os
  tape : w'.tape = w.tape
  output : w'.output = w.output
  size : w.heap.size ≤ w'.heap.size
  block : ∀ k, k < w.heap.size → ¬ S k → w'.heap[k]? = w.heap[k]?

theorem Fr.refl (S : Nat → Prop) (w : World) : Fr S w w := ⟨rfl, rfl, rfl, Nat.le_refl _, fun _ _ _ => rfl⟩
theorem Fr.trans {S S' : Nat → Prop} {a b c : World} (h : Fr S a b) (k : Fr S' b c) (hs : ∀ k, S' k → S k ∨ a.heap.size ≤ k) : Fr S a c :=
  ⟨k.os.trans h.os, k.tape.trans h.tape, k.output.trans h.output, Nat.le_trans h.size k.size, fun i hi hn => (k.block i (Nat.lt_of_lt_of_le hi h.size) (fun hs' => by
    rcases hs i hs' with h1 | h1
    · exact hn h1
    · omega)).trans (h.block i hi hn)⟩
theorem Fr.tr {S : Nat → Prop} {a b c : World} (h : Fr S a b) (k : Fr S b c) : Fr S a c := h.trans k (fun _ h => .inl h)
theorem Fr.below {S : Nat → Prop} {w w' : World} (h : Fr S w w') {B : Nat} (hB : ∀ k, S k → B ≤ k) (hw : B ≤ w.heap.size) : Below B w w' :=
  ⟨h.os, h.tape, h.output, h.size, fun k hk => h.block k (by omega) (fun hs => by have := hB k hs; omega)⟩
theorem Fr.of_below {w w' : World} (S : Nat → Prop) (h : Below w.heap.size w w') : Fr S w w' := ⟨h.os, h.tape, h.output, h.size, fun k hk _ => h.block k hk⟩
theorem Fr.set {S : Nat → Prop} {a w : World} (h : Fr S a w) {p : Addr} (hp : S p.block) (u : Value) : Fr S a (w.setCell p u) :=
  h.tr ⟨rfl, rfl, rfl, by simp [World.setCell], fun k hk hn => Below.heap_setCell _ _ _ _ (fun e => hn (by rw [e]; exact hp))⟩
theorem Fr.drew {S : Nat → Prop} {a w : World} (h : Fr S a w) : Fr S a w.drew := h.tr ⟨rfl, rfl, rfl, Nat.le_refl _, fun _ _ _ => rfl⟩
theorem Fr.drewN {S : Nat → Prop} {a w : World} (h : Fr S a w) (n : Nat) : Fr S a (w.drewN n) := h.tr ⟨rfl, rfl, rfl, Nat.le_refl _, fun _ _ _ => rfl⟩
theorem Fr.alloc {S : Nat → Prop} {a w : World} (h : Fr S a w) (o : Obj) : Fr S a (w.alloc o) := h.tr (Fr.of_below S ((Below.refl _ w).alloc (Nat.le_refl _) o))
theorem Fr.grown {S : Nat → Prop} {a w w' : World} {row : Option Nat} (h : Fr S a w) (hg : w.grownBy w' row) (hr : ∀ k, row = some k → S k) : Fr S a w' :=
  h.tr ⟨hg.os, hg.tape, hg.output, hg.size, fun k hk hn => hg.block k hk (fun e => hn (hr k e.symm))⟩
theorem Fr.at {S : Nat → Prop} {w w' : World} (h : Fr S w w') {k : Nat} {o : Obj} (hk : w.heap[k]? = some o) (hn : ¬ S k) : w'.heap[k]? = some o := (h.block k (lt_blk hk) hn).trans hk

theorem ownB_keep {w w' : World} {B : Nat} {v : Value} {l : List UInt8} (h : OwnB w B v l) (hk : ∀ g, v.ownBlock = some g → w'.heap[g]? = w.heap[g]?) : OwnB w' B v l := by
  refine ⟨h.1, ?_⟩
  rcases h.2 with hn | ⟨g, cap, cur, hv, hB, hgg, rest⟩
  · exact .inl hn
  · exact .inr ⟨g, cap, cur, hv, hB, (hk g (by rw [hv]; rfl)).trans hgg, rest⟩
theorem ownB_block {w : World} {B : Nat} {v : Value} {l : List UInt8} (h : OwnB w B v l) {g : Nat} (hg : v.ownBlock = some g) : ∃ cur, w.heap[g]? = some (.cells cur 5 (0, 0)) := by
  rcases h.2 with ⟨rfl, _⟩ | ⟨g', cap, cur, rfl, _, hgg, _⟩
  · simp [Value.ownBlock] at hg
  · simp [Value.ownBlock] at hg
    subst hg
    exact ⟨cur, hgg⟩
theorem ownB_lower {w : World} {B : Nat} {v : Value} {l : List UInt8} (h : OwnB w B v l) : OwnB w 0 v l := by
  refine ⟨h.1, ?_⟩
  rcases h.2 with hn | ⟨g, cap, cur, hv, hB, r⟩
  · exact .inl hn
  · exact .inr ⟨g, cap, cur, hv, Nat.zero_le _, r⟩

theorem blk_below {w w' : World} {b : Nat} {o : Obj} (h : w.heap[b]? = some o) (hb : Below w.heap.size w w') : w'.heap[b]? = some o := (hb.block b (lt_blk h)).trans h
theorem set_other {w : World} {b k i : Nat} (u : Value) (h : k ≠ b) : (w.setCell ⟨b, i, none⟩ u).heap[k]? = w.heap[k]? := Below.heap_setCell _ _ _ _ (by simpa using h)
theorem set_size {w : World} {a : Addr} (u : Value) : (w.setCell a u).heap.size = w.heap.size := by simp [World.setCell]
theorem Fr.wide {S T : Nat → Prop} {w w' : World} (h : Fr S w w') (hs : ∀ k, S k → T k) : Fr T w w' := ⟨h.os, h.tape, h.output, h.size, fun k hk hn => h.block k hk (fun q => hn (hs k q))⟩

/-- A letter in memory. -/
structure Lr where
  f : Nat
  t : Nat
  a : Option Addr
  c : Nat
  d : List UInt8
def Lr.cells (x : Lr) : List Value := [.int .i64 (x.f : Int), .int .i64 (x.t : Int), .slice x.a x.d.length x.c]
def flatL (xs : List Lr) : List Value := xs.flatMap Lr.cells
theorem flatL_len (xs : List Lr) : (flatL xs).length = xs.length * 3 := by
  induction xs with
  | nil => rfl
  | cons x r ih => rw [flatL, List.flatMap_cons, List.length_append, ← flatL, ih]; simp [Lr.cells]; omega
theorem flatL_append (xs ys : List Lr) : flatL (xs ++ ys) = flatL xs ++ flatL ys := by simp [flatL]
theorem flatL_get : ∀ (xs : List Lr) (j : Nat) (x : Lr) (q : Nat), xs[j]? = some x → q < 3 → (flatL xs)[j * 3 + q]? = x.cells[q]?
  | [], j, x, q, h, _ => by simp at h
  | y :: r, 0, x, q, h, hq => by
    simp at h; subst h
    rw [flatL, List.flatMap_cons, List.getElem?_append_left (by simp [Lr.cells]; omega)]
    simp
  | y :: r, j + 1, x, q, h, hq => by
    have := flatL_get r j x q (by simpa using h) hq
    rw [flatL, List.flatMap_cons, List.getElem?_append_right (by simp [Lr.cells]; omega)]
    rw [show (j + 1) * 3 + q - y.cells.length = j * 3 + q by simp [Lr.cells]; omega]
    exact this
theorem flatL_one {xs : List Lr} {u : Value} (h : u ∈ flatL xs) : u.oneCell' = true := by
  obtain ⟨x, _, hu⟩ := List.mem_flatMap.1 h
  simp [Lr.cells] at hu
  rcases hu with rfl | rfl | rfl <;> rfl
theorem flatL_take (xs : List Lr) (k : Nat) : flatL (xs.take k) = (flatL xs).take (k * 3) := by
  by_cases hk : k ≤ xs.length
  · have h1 : flatL xs = flatL (xs.take k) ++ flatL (xs.drop k) := by rw [← flatL_append, List.take_append_drop]
    rw [h1, List.take_left' (by rw [flatL_len, List.length_take]; congr 1; omega)]
  · rw [List.take_of_length_le (by omega), List.take_of_length_le (by rw [flatL_len]; omega)]
theorem flatL_drop (xs : List Lr) (k : Nat) : flatL (xs.drop k) = (flatL xs).drop (k * 3) := by
  by_cases hk : k ≤ xs.length
  · have h1 : flatL xs = flatL (xs.take k) ++ flatL (xs.drop k) := by rw [← flatL_append, List.take_append_drop]
    rw [h1, List.drop_left' (by rw [flatL_len, List.length_take]; congr 1; omega)]
  · rw [List.drop_of_length_le (by omega), List.drop_of_length_le (by rw [flatL_len]; omega)]; rfl

def OwnL (w : World) (v : Value) (xs : List Lr) : Prop := w.ownsRow 0 57 3 v xs.length (flatL xs)
theorem OwnL.keep {w w' : World} {v : Value} {xs : List Lr} (h : OwnL w v xs) (hk : ∀ g, v.ownBlock = some g → w'.heap[g]? = w.heap[g]?) : OwnL w' v xs := by
  refine ⟨h.1, ?_⟩
  rcases h.2 with h1 | ⟨g, cap, cur, h1, h2, h3, h4⟩
  · exact .inl h1
  · exact .inr ⟨g, cap, cur, h1, h2, (hk g (by rw [h1]; rfl)).trans h3, h4⟩
theorem OwnL.block {w : World} {v : Value} {xs : List Lr} (h : OwnL w v xs) {g : Nat} (hg : v.ownBlock = some g) : ∃ cur, w.heap[g]? = some (.cells cur 57 (0, 0)) := by
  rcases h.2 with ⟨h1, _⟩ | ⟨g', cap, cur, h1, h2, h3, _⟩
  · rw [h1] at hg; cases hg
  · rw [h1] at hg
    have : g' = g := Option.some.inj hg
    subst this
    exact ⟨cur, h3⟩
theorem OwnL.slice {w : World} {v : Value} {xs : List Lr} (h : OwnL w v xs) : ∃ a c, v = .slice a xs.length c := by
  rcases h.2 with ⟨rfl, h0⟩ | ⟨g, cap, cur, rfl, _⟩
  · exact ⟨none, 0, by rw [h0]⟩
  · exact ⟨_, _, rfl⟩

/-- A net in memory. -/
structure NetW (w : World) (b : Nat) (v : Value) (sd : Nat) (xs : List Lr) : Prop where
  blk : w.heap[b]? = some (.cells #[v, .int .u64 (sd : Int)] 52 (0, 0))
  row : OwnL w v xs
  dat : ∀ x ∈ xs, OwnB w 0 (.slice x.a x.d.length x.c) x.d
  few : xs.length ≤ 200
  nod : ∀ x ∈ xs, x.f ≤ 63 ∧ x.t ≤ 63
  short : ∀ x ∈ xs, x.d.length ≤ 1000
  side : sd < 18446744073709551616

theorem type_ne {w : World} {g k : Nat} {c1 c2 : Array Value} {t1 t2 : TypeId} {m1 m2 : Nat × Nat} (h1 : w.heap[g]? = some (.cells c1 t1 m1)) (h2 : w.heap[k]? = some (.cells c2 t2 m2)) (hn : t1 ≠ t2) : g ≠ k := by
  rintro rfl
  rw [h1] at h2
  have := Option.some.inj h2
  injection this with _ h3 _
  exact hn h3

theorem NetW.keep {w w' : World} {b : Nat} {v : Value} {sd : Nat} {xs : List Lr} (h : NetW w b v sd xs) (hb : w'.heap[b]? = w.heap[b]?) (hr : ∀ g, v.ownBlock = some g → w'.heap[g]? = w.heap[g]?)
    (hd : ∀ (g : Nat) (cur : Array Value), w.heap[g]? = some (.cells cur 5 (0, 0)) → w'.heap[g]? = w.heap[g]?) : NetW w' b v sd xs :=
  ⟨hb.trans h.blk, h.row.keep hr, fun x hx => ownB_keep (h.dat x hx) (fun g hg => by obtain ⟨cur, hc⟩ := ownB_block (h.dat x hx) hg; exact hd g cur hc), h.few, h.nod, h.short, h.side⟩
theorem NetW.below {w w' : World} {b : Nat} {v : Value} {sd : Nat} {xs : List Lr} (h : NetW w b v sd xs) (hb : Below w.heap.size w w') : NetW w' b v sd xs :=
  h.keep (hb.block b (lt_blk h.blk)) (fun g hg => by obtain ⟨cur, hc⟩ := h.row.block hg; exact hb.block g (lt_blk hc)) (fun g cur hc => hb.block g (lt_blk hc))
theorem NetW.fr {w w' : World} {S : Nat → Prop} {b : Nat} {v : Value} {sd : Nat} {xs : List Lr} (h : NetW w b v sd xs) (hf : Fr S w w') (hb : ¬ S b) (hr : ∀ g, v.ownBlock = some g → ¬ S g) (hd : ∀ (g : Nat) (cur : Array Value), w.heap[g]? = some (.cells cur 5 (0, 0)) → ¬ S g) : NetW w' b v sd xs :=
  h.keep (hf.block b (lt_blk h.blk) hb) (fun g hg => by obtain ⟨cur, hc⟩ := h.row.block hg; exact hf.block g (lt_blk hc) (hr g hg)) (fun g cur hc => hf.block g (lt_blk hc) (hd g cur hc))
theorem NetW.drew {w : World} {b : Nat} {v : Value} {sd : Nat} {xs : List Lr} (h : NetW w b v sd xs) : NetW w.drew b v sd xs := h.keep rfl (fun _ _ => rfl) (fun _ _ _ => rfl)
theorem NetW.drewN {w : World} {b : Nat} {v : Value} {sd : Nat} {xs : List Lr} (h : NetW w b v sd xs) (n : Nat) : NetW (w.drewN n) b v sd xs := h.keep rfl (fun _ _ => rfl) (fun _ _ _ => rfl)
theorem NetW.c0 {w : World} {b : Nat} {v : Value} {sd : Nat} {xs : List Lr} (h : NetW w b v sd xs) : w.cell? ⟨b, 0, none⟩ = some v := cell_blk h.blk rfl
theorem NetW.c1 {w : World} {b : Nat} {v : Value} {sd : Nat} {xs : List Lr} (h : NetW w b v sd xs) : w.cell? ⟨b, 1, none⟩ = some (.int .u64 (sd : Int)) := cell_blk h.blk rfl
theorem NetW.fz {w : World} {b : Nat} {v : Value} {sd : Nat} {xs : List Lr} (h : NetW w b v sd xs) (i : Nat) : w.frozen? ⟨b, i, none⟩ = false := free_blk h.blk i
theorem NetW.ne {w : World} {b : Nat} {v : Value} {sd : Nat} {xs : List Lr} (h : NetW w b v sd xs) {g : Nat} (hg : v.ownBlock = some g) : g ≠ b := by
  obtain ⟨cur, hc⟩ := h.row.block hg
  exact type_ne hc h.blk (by decide)
/-- The blocks that a net writes. -/
def NetB (b : Nat) (v : Value) (k : Nat) : Prop := k = b ∨ v.ownBlock = some k
theorem NetW.u8 {w : World} {b : Nat} {v : Value} {sd : Nat} {xs : List Lr} (h : NetW w b v sd xs) {g : Nat} {cur : Array Value} (hg : w.heap[g]? = some (.cells cur 5 (0, 0))) : ¬ NetB b v g := by
  rintro (rfl | hk)
  · exact type_ne hg h.blk (by decide) rfl
  · obtain ⟨c2, hc⟩ := h.row.block hk
    exact type_ne hg hc (by decide) rfl
/-- What a call makes of a net. -/
def NetGo (w : World) (b : Nat) (v : Value) (sd : Nat) (xs : List Lr) (w' : World) : Prop := ∃ v', NetW w' b v' sd xs ∧ Fr (NetB b v) w w' ∧ ∀ g, v'.ownBlock = some g → v.ownBlock = some g ∨ w.heap.size ≤ g
abbrev nptr (b : Nat) : Value := .pointer (some ⟨b, 0, none⟩)
theorem NetGo.same {w w' : World} {b : Nat} {v : Value} {sd : Nat} {xs : List Lr} (h : NetW w b v sd xs) (hb : Below w.heap.size w w') : NetGo w b v sd xs w' := ⟨v, h.below hb, Fr.of_below _ hb, fun g hg => .inl hg⟩

end Go.Proofs.Ytblohegdlcpipaa
