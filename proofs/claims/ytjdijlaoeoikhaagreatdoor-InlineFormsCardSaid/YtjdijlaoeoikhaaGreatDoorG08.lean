/- Several texts in one. -/
import Derived.Test.YtjdijlaoeoikhaaGreatDoorG05
import Derived.Test.YtjdijlaoeoikhaaGreatDoorG06
import Derived.RowKit3
import Derived.Below
set_option linter.unusedVariables false
/- Inlines and parts as they lie in memory. -/
namespace Go.Proofs.YtjdijlaoeoikhaaGreatDoor
open Go.RowKit

namespace blk
theorem cell_blk {w : World} {b : Nat} {cs : Array Value} {t : TypeId} (h : w.heap[b]? = some (.cells cs t (0, 0))) {i : Nat} {v : Value} (hi : cs[i]? = some v) : w.cell? ⟨b, i, none⟩ = some v := by
  simp [World.cell?, h, hi]
theorem free_blk {w : World} {b : Nat} {cs : Array Value} {t : TypeId} (h : w.heap[b]? = some (.cells cs t (0, 0))) (i : Nat) : w.frozen? ⟨b, i, none⟩ = false := by
  simp [World.frozen?, h]
theorem lt_of_block {w : World} {b : Nat} {o : Obj} (h : w.heap[b]? = some o) : b < w.heap.size := (Array.getElem?_eq_some_iff.1 h).1
theorem blk_below {w w' : World} {b : Nat} {o : Obj} (h : w.heap[b]? = some o) (hb : Below w.heap.size w w') : w'.heap[b]? = some o := (hb.block b (lt_of_block h)).trans h
theorem set_blk {w : World} {b : Nat} {cs : Array Value} {t : TypeId} (h : w.heap[b]? = some (.cells cs t (0, 0))) (i : Nat) (u : Value) : (w.setCell ⟨b, i, none⟩ u).heap[b]? = some (.cells (cs.setIfInBounds i u) t (0, 0)) := by
  have hlt := lt_of_block h
  have h' : w.heap[b] = .cells cs t (0, 0) := by simpa [Array.getElem?_eq_getElem hlt] using h
  show (w.heap.modify b _)[b]? = _
  rw [Array.getElem?_eq_getElem (by simpa using hlt), Array.getElem_modify_self, h']
  rfl
theorem below_set {B b i : Nat} {w0 w : World} {u : Value} (h : Below B w0 w) (hB : B ≤ b) : Below B w0 (w.setCell ⟨b, i, none⟩ u) :=
  h.trans ⟨rfl, rfl, rfl, by simp [World.setCell], fun k hk => Below.heap_setCell _ _ _ _ (by simp; omega)⟩
end blk

namespace Is
def len : Is → Nat
  | nil => 0
  | cons _ _ r => len r + 1
def snoc : Is → II → Is → Is
  | nil, b, k => cons b k nil
  | cons c q r, b, k => cons c q (snoc r b k)
theorem len_snoc : ∀ (l : Is) (b : II) (k : Is), (l.snoc b k).len = l.len + 1
  | nil, _, _ => rfl
  | cons _ _ r, b, k => by show (r.snoc b k).len + 1 = r.len + 1 + 1; rw [len_snoc r b k]
end Is

abbrev strW (l : Str8) : Value := .string ⟨l.toArray⟩
/-- An inline's cells; a part's. -/
def iiCells (b : II) (v : Value) : List Value := [.int .i64 b.kind, strW b.text, strW b.dest, strW b.title, v]
def dlCells (d : Dl) : List Value := [.int .u8 (d.sign.toNat : Int), .int .i64 (d.number : Int), .bool d.opens, .bool d.closes]

def KidI (w : World) (S : Nat → Prop) : Is → List Value → Prop
  | .nil, xs => xs = []
  | .cons b k r, xs => ∃ v ys zs, xs = iiCells b v ++ zs ∧ w.ownsRow 0 32 5 v k.len ys ∧ (∀ g, v.ownBlock = some g → S g) ∧ KidI w S k ys ∧ KidI w S r zs
/-- A row of inlines that lies in A, all that is in them in S. -/
def KidsI (w : World) (A S : Nat → Prop) (v : Value) (k : Is) : Prop := ∃ xs, w.ownsRow 0 32 5 v k.len xs ∧ (∀ g, v.ownBlock = some g → A g) ∧ KidI w S k xs
/-- A row of parts, all that is in them in S. -/
def PartI (w : World) (S : Nat → Prop) : List Pt → List Value → Prop
  | [], xs => xs = []
  | p :: r, xs => ∃ v ys zs, xs = iiCells p.i v ++ dlCells p.d ++ zs ∧ w.ownsRow 0 32 5 v p.kids.len ys ∧ (∀ g, v.ownBlock = some g → S g) ∧ KidI w S p.kids ys ∧ PartI w S r zs

theorem irow_keeps {w w' : World} {b : Nat} {e : TypeId} {s : Nat} {v : Value} {n : Nat} {xs : List Value} (h : w.ownsRow b e s v n xs) (hk : ∀ g, v.ownBlock = some g → w'.heap[g]? = w.heap[g]?) : w'.ownsRow b e s v n xs := by
  refine ⟨h.1, ?_⟩
  rcases h.2 with hn | ⟨g, cap, cur, rfl, hb, hg, rest⟩
  · exact .inl hn
  · exact .inr ⟨g, cap, cur, rfl, hb, (hk g rfl).trans hg, rest⟩
theorem KidI.keeps {w w' : World} {S S' : Nat → Prop} (hS : ∀ g, S g → S' g) (hk : ∀ g, g < w.heap.size → S g → w'.heap[g]? = w.heap[g]?) : ∀ (k : Is) (xs : List Value), KidI w S k xs → KidI w' S' k xs
  | .nil, _, h => h
  | .cons b k r, xs, ⟨v, ys, zs, h1, h2, h3, h4, h5⟩ => ⟨v, ys, zs, h1, irow_keeps h2 (fun g hg => hk g (World.ownsRow.lt h2 g hg).2 (h3 g hg)), fun g hg => hS g (h3 g hg), KidI.keeps hS hk k ys h4, KidI.keeps hS hk r zs h5⟩
theorem KidsI.keeps {w w' : World} {A A' S S' : Nat → Prop} {v : Value} {k : Is} (h : KidsI w A S v k) (hA : ∀ g, A g → A' g) (hS : ∀ g, S g → S' g) (ha : ∀ g, g < w.heap.size → A g → w'.heap[g]? = w.heap[g]?) (hs : ∀ g, g < w.heap.size → S g → w'.heap[g]? = w.heap[g]?) : KidsI w' A' S' v k := by
  obtain ⟨xs, h1, h2, h3⟩ := h
  exact ⟨xs, irow_keeps h1 (fun g hg => ha g (World.ownsRow.lt h1 g hg).2 (h2 g hg)), fun g hg => hA g (h2 g hg), KidI.keeps hS hs k xs h3⟩
theorem PartI.keeps {w w' : World} {S S' : Nat → Prop} (hS : ∀ g, S g → S' g) (hk : ∀ g, g < w.heap.size → S g → w'.heap[g]? = w.heap[g]?) : ∀ (ps : List Pt) (xs : List Value), PartI w S ps xs → PartI w' S' ps xs
  | [], _, h => h
  | p :: r, xs, ⟨v, ys, zs, h1, h2, h3, h4, h5⟩ => ⟨v, ys, zs, h1, irow_keeps h2 (fun g hg => hk g (World.ownsRow.lt h2 g hg).2 (h3 g hg)), fun g hg => hS g (h3 g hg), KidI.keeps hS hk p.kids ys h4, PartI.keeps hS hk r zs h5⟩

theorem KidI.snoc {w : World} {S : Nat → Prop} {b : II} {k : Is} {v : Value} {ys : List Value} (h2 : w.ownsRow 0 32 5 v k.len ys) (h3 : ∀ g, v.ownBlock = some g → S g) (h4 : KidI w S k ys) : ∀ (l : Is) (xs : List Value), KidI w S l xs → KidI w S (l.snoc b k) (xs ++ iiCells b v)
  | .nil, xs, h => by
    have h : xs = [] := h
    subst h
    exact ⟨v, ys, [], by simp, h2, h3, h4, rfl⟩
  | .cons c q r, xs, ⟨u, us, zs, a1, a2, a3, a4, a5⟩ => by
    subst a1
    exact ⟨u, us, zs ++ iiCells b v, by rw [List.append_assoc], a2, a3, a4, KidI.snoc h2 h3 h4 r zs a5⟩
theorem PartI.snoc {w : World} {S : Nat → Prop} {p : Pt} {v : Value} {ys : List Value} (h2 : w.ownsRow 0 32 5 v p.kids.len ys) (h3 : ∀ g, v.ownBlock = some g → S g) (h4 : KidI w S p.kids ys) : ∀ (l : List Pt) (xs : List Value), PartI w S l xs → PartI w S (l ++ [p]) (xs ++ (iiCells p.i v ++ dlCells p.d))
  | [], xs, h => by
    have h : xs = [] := h
    subst h
    exact ⟨v, ys, [], by simp, h2, h3, h4, rfl⟩
  | q :: r, xs, ⟨u, us, zs, a1, a2, a3, a4, a5⟩ => by
    subst a1
    exact ⟨u, us, zs ++ (iiCells p.i v ++ dlCells p.d), by rw [List.append_assoc], a2, a3, a4, PartI.snoc h2 h3 h4 r zs a5⟩
/-- The first n of a row, and the others. -/
theorem PartI.take {w : World} {S : Nat → Prop} : ∀ (l : List Pt) (xs : List Value) (n : Nat), PartI w S l xs → PartI w S (l.take n) (xs.take (n * 9)) ∧ PartI w S (l.drop n) (xs.drop (n * 9))
  | l, xs, 0, h => by rw [List.take_zero, Nat.zero_mul, List.take_zero, List.drop_zero, List.drop_zero]; exact ⟨rfl, h⟩
  | [], xs, n + 1, h => by
    have h : xs = [] := h
    subst h
    simp only [List.take_nil, List.drop_nil]
    exact ⟨rfl, rfl⟩
  | p :: r, xs, n + 1, ⟨u, us, zs, a1, a2, a3, a4, a5⟩ => by
    obtain ⟨h1, h2⟩ := PartI.take r zs n a5
    have hl : (iiCells p.i u ++ dlCells p.d).length = 9 := rfl
    have e : (n + 1) * 9 = 9 + n * 9 := by omega
    subst a1
    rw [e, List.take_succ_cons, List.drop_succ_cons]
    constructor
    · refine ⟨u, us, zs.take (n * 9), ?_, a2, a3, a4, h1⟩
      rw [← hl, List.take_length_add_append]
    · rw [← hl, ← List.drop_drop, List.drop_left]
      exact h2
/-- A part's cells. -/
theorem PartI.nth {w : World} {S : Nat → Prop} : ∀ (l : List Pt) (xs : List Value) (i : Nat) (p : Pt), PartI w S l xs → l[i]? = some p → ∃ v ys, (∀ j u, (iiCells p.i v ++ dlCells p.d)[j]? = some u → xs[i * 9 + j]? = some u) ∧ w.ownsRow 0 32 5 v p.kids.len ys ∧ (∀ g, v.ownBlock = some g → S g) ∧ KidI w S p.kids ys
  | [], xs, i, p, _, h => by cases h
  | q :: r, xs, 0, p, ⟨v, ys, zs, h1, h2, h3, h4, h5⟩, h => by
    have : q = p := by simpa using h
    subst this
    refine ⟨v, ys, fun j u hu => ?_, h2, h3, h4⟩
    rw [h1, Nat.zero_mul, Nat.zero_add, List.getElem?_append_left (List.getElem?_eq_some_iff.1 hu).1]
    exact hu
  | q :: r, xs, i + 1, p, ⟨v, ys, zs, h1, h2, h3, h4, h5⟩, h => by
    obtain ⟨v', ys', a1, a2, a3, a4⟩ := PartI.nth r zs i p h5 (by simpa using h)
    refine ⟨v', ys', fun j u hu => ?_, a2, a3, a4⟩
    have hl : (iiCells q.i v ++ dlCells q.d).length = 9 := rfl
    rw [h1, List.getElem?_append_right (by omega)]
    rw [← a1 j u hu]
    congr 1
    omega

end Go.Proofs.YtjdijlaoeoikhaaGreatDoor

/- Plain mathematics: what parts weigh, and what stays so while emphasis is looked for. -/
namespace Go.Proofs.YtjdijlaoeoikhaaGreatDoor

/-! ### Rows of inlines -/
namespace Is
def app : Is → Is → Is
  | nil, y => y
  | cons b k r, y => cons b k (app r y)
theorem app_nil : ∀ a : Is, a.app nil = a
  | nil => rfl
  | cons b k r => by show cons b k (r.app nil) = _; rw [app_nil r]
theorem app_snoc : ∀ (a : Is) (b : II) (k y : Is), (a.snoc b k).app y = a.app (cons b k y)
  | nil, _, _, _ => rfl
  | cons c q r, b, k, y => by show cons c q ((r.snoc b k).app y) = cons c q (r.app (cons b k y)); rw [app_snoc r b k y]
/-- A text that was gathered, behind what there is. -/
def addT (a : Is) (t : Str8) : Is := if t = [] then a else a.snoc { text := t } .nil
theorem addT_nil (a : Is) : a.addT [] = a := rfl
theorem addT_some (a : Is) {t : Str8} (h : t ≠ []) : a.addT t = a.snoc { text := t } .nil := if_neg h
theorem len_addT (a : Is) (t : Str8) : (a.addT t).len ≤ a.len + 1 := by
  unfold addT
  split
  · omega
  · rw [len_snoc]; exact Nat.le_refl _
end Is
theorem told_end (a : Is) (t : Str8) : a.app (toldI t []) = a.addT t := by
  show a.app (withT t .nil) = _
  unfold withT Is.addT
  split
  · exact Is.app_nil a
  · rw [← Is.app_nil (a.snoc _ _), Is.app_snoc]
theorem told_text (t : Str8) {p : Pt} (r : List Pt) (h : p.i.kind = 0) : toldI t (p :: r) = toldI (t ++ p.i.text) r := by
  show (if p.i.kind = 0 then _ else _) = _
  rw [if_pos h]
theorem told_other (a : Is) (t : Str8) {p : Pt} (r : List Pt) (h : p.i.kind ≠ 0) : a.app (toldI t (p :: r)) = ((a.addT t).snoc p.i p.kids).app (toldI [] r) := by
  have : toldI t (p :: r) = withT t (.cons p.i p.kids (toldI [] r)) := by
    show (if p.i.kind = 0 then _ else _) = _
    rw [if_neg h]
  rw [this, Is.app_snoc]
  unfold withT Is.addT
  split
  · rfl
  · rw [Is.app_snoc]

/-! ### Weights -/
def wtP (p : Pt) : Nat := p.i.text.length + 1
def wtL : List Pt → Nat
  | [] => 0
  | p :: r => wtP p + wtL r
theorem wtL_append : ∀ a b : List Pt, wtL (a ++ b) = wtL a + wtL b
  | [], b => by simp [wtL]
  | p :: a, b => by simp only [List.cons_append, wtL, wtL_append a b]; omega
theorem wtL_one (p : Pt) : wtL [p] = p.i.text.length + 1 := by simp [wtL, wtP]
theorem wtL_split (ps : List Pt) (n : Nat) : wtL ps = wtL (ps.take n) + wtL (ps.drop n) := by
  rw [← wtL_append, List.take_append_drop]
theorem wtL_at {ps : List Pt} {k : Nat} {p : Pt} (h : ps[k]? = some p) : wtL ps = wtL (ps.take k) + wtP p + wtL (ps.drop (k + 1)) := by
  have hk := (List.getElem?_eq_some_iff.1 h).1
  have e : ps.drop k = p :: ps.drop (k + 1) := by
    rw [List.drop_eq_getElem_cons hk]
    congr 1
    exact (List.getElem?_eq_some_iff.1 h).2
  rw [wtL_split ps k, e]
  simp only [wtL]
  omega
theorem len_wt : ∀ ps : List Pt, ps.length ≤ wtL ps
  | [] => Nat.le_refl _
  | p :: r => by have := len_wt r; simp only [List.length_cons, wtL, wtP]; omega
theorem pw_len : ∀ (l : List Nat) (a n : Nat), l.Pairwise (· < ·) → (∀ k ∈ l, a ≤ k ∧ k < n) → l.length ≤ n - a
  | [], _, _, _, _ => Nat.zero_le _
  | x :: r, a, n, h, hk => by
    have h1 := List.pairwise_cons.1 h
    have hx := hk x List.mem_cons_self
    have ih := pw_len r (x + 1) n h1.2 (fun k hkr => ⟨h1.1 k hkr, (hk k (List.mem_cons_of_mem _ hkr)).2⟩)
    simp only [List.length_cons]
    omega

/-! ### A sentence -/
structure Sn.Ok (N M : Nat) (s : Sn) : Prop where
  wt : wtL s.parts ≤ N
  num : ∀ p ∈ s.parts, p.d.number ≤ M
  ops : ∀ k ∈ s.openers, ∃ p, s.parts[k]? = some p ∧ p.i.text ≠ []
  ord : s.openers.Pairwise (· < ·)
theorem Sn.Ok.lt {N M : Nat} {s : Sn} (h : s.Ok N M) {k : Nat} (hk : k ∈ s.openers) : k < s.parts.length := by
  obtain ⟨p, hp, _⟩ := h.ops k hk
  exact (List.getElem?_eq_some_iff.1 hp).1
theorem Sn.Ok.len {N M : Nat} {s : Sn} (h : s.Ok N M) : s.parts.length ≤ N ∧ s.openers.length ≤ N := by
  have h1 := len_wt s.parts
  have h2 := pw_len s.openers 0 s.parts.length h.ord (fun k hk => ⟨Nat.zero_le _, h.lt hk⟩)
  have := h.wt
  omega
theorem Sn.Ok.first (M : Nat) : Sn.Ok 0 M {} := ⟨Nat.le_refl _, fun p hp => (by cases hp), fun k hk => (by cases hk), List.Pairwise.nil⟩
theorem Sn.Ok.more {N N' M : Nat} {s : Sn} (h : s.Ok N M) (hN : N ≤ N') : s.Ok N' M := ⟨Nat.le_trans h.wt hN, h.num, h.ops, h.ord⟩

theorem Sn.used_one (s : Sn) (i left : Nat) : 1 ≤ s.used i left ∧ s.used i left ≤ 2 := by
  unfold Sn.used
  split <;> omega
theorem Sn.used_le {N M : Nat} {s : Sn} (h : s.Ok N M) {i k : Nat} {p : Pt} (hi : s.openers[i]? = some k) (hp : s.parts[k]? = some p) {left : Nat} (hl : 1 ≤ left) : s.used i left ≤ p.i.text.length ∧ s.used i left ≤ left := by
  obtain ⟨q, hq, hne⟩ := h.ops k (List.mem_of_getElem? hi)
  rw [hp] at hq
  cases hq
  have hpos : 0 < p.i.text.length := List.length_pos_iff.2 hne
  have e : s.used i left = if 2 ≤ p.i.text.length ∧ 2 ≤ left then 2 else 1 := by
    have e1 : s.openers.getD i 0 = k := by rw [List.getD_eq_getElem?_getD, hi]; rfl
    have e2 : s.parts.getD k ⟨{}, .nil, {}⟩ = p := by rw [List.getD_eq_getElem?_getD, hp]; rfl
    unfold Sn.used
    simp only [e1, e2]
  rw [e]
  split <;> omega

/-- What close makes of an opener, and what it makes of all. -/
def Pt.cut (p : Pt) (u : Nat) : Pt := { p with i := { p.i with text := p.i.text.drop u } }
def Sn.whole (s : Sn) (k u : Nat) : Pt := { i := { kind := if u = 2 then 5 else 4 }, kids := toldI [] (s.parts.drop (k + 1)) }
theorem Sn.close_is (s : Sn) {i k : Nat} {p : Pt} (hi : s.openers[i]? = some k) (hp : s.parts[k]? = some p) (left : Nat) :
    s.close i left = { parts := s.parts.take k ++ (if (p.cut (s.used i left)).i.text = [] then [] else [p.cut (s.used i left)]) ++ [s.whole k (s.used i left)], openers := s.openers.take i ++ (if (p.cut (s.used i left)).i.text = [] then [] else [k]) } := by
  have e1 : s.openers.getD i 0 = k := by rw [List.getD_eq_getElem?_getD, hi]; rfl
  have e2 : s.parts.getD k ⟨{}, .nil, {}⟩ = p := by rw [List.getD_eq_getElem?_getD, hp]; rfl
  unfold Sn.close
  simp only [e1, e2]
  rfl

theorem take_last {α : Type} {R : α → α → Prop} {l : List α} {i : Nat} {k : α} (h : l.Pairwise R) (hi : l[i]? = some k) : ∀ a ∈ l.take i, R a k := by
  intro a ha
  obtain ⟨j, hj⟩ := List.mem_iff_getElem?.1 ha
  have hjl := (List.getElem?_eq_some_iff.1 hj).1
  rw [List.length_take] at hjl
  rw [List.getElem?_take_of_lt (by omega)] at hj
  obtain ⟨h1, e1⟩ := List.getElem?_eq_some_iff.1 hj
  obtain ⟨h2, e2⟩ := List.getElem?_eq_some_iff.1 hi
  rw [← e1, ← e2]
  exact List.pairwise_iff_getElem.1 h j i h1 h2 (by omega)

theorem Sn.Ok.close {N M : Nat} {s : Sn} (h : s.Ok N M) {i k : Nat} {p : Pt} (hi : s.openers[i]? = some k) (hp : s.parts[k]? = some p) {left : Nat} (hl : 1 ≤ left) : (s.close i left).Ok N M := by
  rw [s.close_is hi hp left]
  have hu := (s.used_one i left).1
  have hul := (Sn.used_le h hi hp hl).1
  generalize s.used i left = u at *
  have hk := (List.getElem?_eq_some_iff.1 hp).1
  have hw := wtL_at hp
  have hwt := h.wt
  have hct : (p.cut u).i.text.length = p.i.text.length - u := by show (p.i.text.drop u).length = _; rw [List.length_drop]
  have hlt : ∀ a ∈ s.openers.take i, a < k := take_last h.ord hi
  have hold : ∀ a ∈ s.openers.take i, ∀ x : List Pt, ∃ q, (s.parts.take k ++ x)[a]? = some q ∧ q.i.text ≠ [] := fun a ha x => by
    obtain ⟨q, hq, hne⟩ := h.ops a (List.mem_of_mem_take ha)
    have := hlt a ha
    refine ⟨q, ?_, hne⟩
    rw [List.getElem?_append_left (by rw [List.length_take]; omega), List.getElem?_take_of_lt this]
    exact hq
  have hnum : ∀ q ∈ s.parts.take k, q.d.number ≤ M := fun q hq => h.num q (List.mem_of_mem_take hq)
  have hpn : p.d.number ≤ M := h.num p (List.mem_of_getElem? hp)
  have hww : wtL [s.whole k u] = 1 := by rw [wtL_one]; rfl
  by_cases hc : (p.cut u).i.text = []
  · rw [if_pos hc, if_pos hc, List.append_nil, List.append_nil]
    refine ⟨?_, ?_, fun a ha => hold a ha _, h.ord.sublist (List.take_sublist _ _)⟩
    · rw [wtL_append, hww]
      have : 0 < wtP p := by unfold wtP; omega
      omega
    · intro q hq
      rcases List.mem_append.1 hq with hq | hq
      · exact hnum q hq
      · rw [List.mem_singleton.1 hq]; exact Nat.zero_le _
  · rw [if_neg hc, if_neg hc]
    refine ⟨?_, ?_, ?_, ?_⟩
    · show wtL (s.parts.take k ++ [p.cut u] ++ [s.whole k u]) ≤ N
      rw [wtL_append, hww, wtL_append, wtL_one, hct]
      have : wtP p = p.i.text.length + 1 := rfl
      omega
    · intro q hq
      have hq : q ∈ s.parts.take k ++ [p.cut u] ++ [s.whole k u] := hq
      rcases List.mem_append.1 hq with hq | hq
      · rcases List.mem_append.1 hq with hq | hq
        · exact hnum q hq
        · rw [List.mem_singleton.1 hq]; exact hpn
      · rw [List.mem_singleton.1 hq]; exact Nat.zero_le _
    · intro a ha
      have ha : a ∈ s.openers.take i ++ [k] := ha
      show ∃ q, (s.parts.take k ++ [p.cut u] ++ [s.whole k u])[a]? = some q ∧ _
      rw [List.append_assoc]
      rcases List.mem_append.1 ha with ha | ha
      · exact hold a ha _
      · rw [List.mem_singleton.1 ha]
        refine ⟨p.cut u, ?_, hc⟩
        rw [List.getElem?_append_right (by rw [List.length_take]; omega), List.length_take, Nat.min_eq_left (by omega), Nat.sub_self]
        rfl
    · show (s.openers.take i ++ [k]).Pairwise _
      refine List.pairwise_append.2 ⟨h.ord.sublist (List.take_sublist _ _), List.pairwise_singleton _ _, fun a ha b hb => ?_⟩
      rw [List.mem_singleton.1 hb]
      exact hlt a ha

theorem Sn.openerF_lt (s : Sn) (c : Dl) : ∀ (n i : Nat), s.openerF c n = some i → i < n
  | 0, i, h => by cases h
  | n + 1, i, h => by
    unfold Sn.openerF at h
    split at h
    · cases h; omega
    · have := Sn.openerF_lt s c n i h; omega

theorem Sn.Ok.closeF {N M : Nat} : ∀ (f : Nat) {s : Sn} (p : Pt), s.Ok N M → (Sn.closeF f s p).1.Ok N M ∧ (Sn.closeF f s p).2.i.text.length ≤ p.i.text.length ∧ (Sn.closeF f s p).2.d = p.d
  | 0, s, p, h => ⟨h, Nat.le_refl _, rfl⟩
  | f + 1, s, p, h => by
    unfold Sn.closeF
    split
    · rename_i hc
      split
      · exact ⟨h, Nat.le_refl _, rfl⟩
      · rename_i i hi
        have hlt := Sn.openerF_lt s p.d _ i hi
        have hk : s.openers[i]? = some s.openers[i] := List.getElem?_eq_getElem hlt
        obtain ⟨q, hq, _⟩ := h.ops _ (List.mem_of_getElem? hk)
        have hl : 1 ≤ p.i.text.length := List.length_pos_iff.2 hc.2
        obtain ⟨h1, h2, h3⟩ := Sn.Ok.closeF f { p with i := { p.i with text := p.i.text.drop (s.used i p.i.text.length) } } (h.close hk hq hl)
        refine ⟨h1, Nat.le_trans h2 ?_, h3⟩
        show (p.i.text.drop _).length ≤ _
        rw [List.length_drop]
        omega
    · exact ⟨h, Nat.le_refl _, rfl⟩

theorem Sn.Ok.put {N M : Nat} {s : Sn} (h : s.Ok N M) (p : Pt) (hp : p.d.number ≤ M) (os : List Nat) (ho : os = if p.d.opens = true ∧ p.i.text ≠ [] then [s.parts.length] else []) : Sn.Ok (N + wtP p) M { parts := s.parts ++ [p], openers := s.openers ++ os } := by
  have hold : ∀ a ∈ s.openers, ∃ q, (s.parts ++ [p])[a]? = some q ∧ q.i.text ≠ [] := fun a ha => by
    obtain ⟨q, hq, hne⟩ := h.ops a ha
    exact ⟨q, by rw [List.getElem?_append_left (h.lt ha)]; exact hq, hne⟩
  refine ⟨?_, ?_, ?_, ?_⟩
  · show wtL (s.parts ++ [p]) ≤ _
    rw [wtL_append, wtL_one]
    have := h.wt
    unfold wtP
    omega
  · intro q hq
    rcases List.mem_append.1 hq with hq | hq
    · exact h.num q hq
    · rw [List.mem_singleton.1 hq]; exact hp
  · intro a ha
    rcases List.mem_append.1 ha with ha | ha
    · exact hold a ha
    · rw [ho] at ha
      split at ha
      · rename_i hc
        rw [List.mem_singleton.1 ha]
        exact ⟨p, List.getElem?_concat_length, hc.2⟩
      · cases ha
  · show (s.openers ++ os).Pairwise _
    rw [ho]
    split
    · refine List.pairwise_append.2 ⟨h.ord, List.pairwise_singleton _ _, fun a ha b hb => ?_⟩
      rw [List.mem_singleton.1 hb]
      exact h.lt ha
    · rw [List.append_nil]; exact h.ord

theorem Sn.Ok.take {N M : Nat} {s : Sn} (h : s.Ok N M) (p : Pt) (hp : p.d.number ≤ M) : (s.take p).Ok (N + wtP p) M := by
  obtain ⟨h1, h2, h3⟩ := h.closeF (p.i.text.length + 1) p
  refine (h1.put (Sn.closeF (p.i.text.length + 1) s p).2 (by rw [h3]; exact hp) _ rfl).more ?_
  unfold wtP
  omega

end Go.Proofs.YtjdijlaoeoikhaaGreatDoor

/- Plain mathematics: what stays so while a text is read. -/
namespace Go.Proofs.YtjdijlaoeoikhaaGreatDoor

structure Rd.Ok (l : Str8) (r : Rd) : Prop where
  frm : r.frm ≤ r.at0
  at0 : r.at0 ≤ l.length
  wt : wtL r.parts ≤ 2 * r.frm
  num : ∀ p ∈ r.parts, p.d.number ≤ l.length
  ops : ∀ o ∈ r.openers, o.part < r.parts.length ∧ o.start < r.at0
  ord : (r.openers.map Op.part).Pairwise (· < ·)
  ina : r.inactive ≤ 2 * l.length
theorem Rd.Ok.len {l : Str8} {r : Rd} (h : r.Ok l) : r.parts.length ≤ 2 * r.frm ∧ r.openers.length ≤ 2 * r.frm := by
  have h1 := len_wt r.parts
  have h2 := pw_len (r.openers.map Op.part) 0 r.parts.length h.ord (fun k hk => by
    obtain ⟨o, ho, e⟩ := List.mem_map.1 hk
    rw [← e]
    exact ⟨Nat.zero_le _, (h.ops o ho).1⟩)
  rw [List.length_map] at h2
  have := h.wt
  omega
theorem Rd.Ok.first (l : Str8) : Rd.Ok l {} := ⟨Nat.le_refl _, Nat.zero_le _, Nat.le_refl _, fun p hp => (by cases hp), fun k hk => (by cases hk), List.Pairwise.nil, Nat.zero_le _⟩
theorem Rd.Ok.pass {l : Str8} {r : Rd} (h : r.Ok l) {n : Nat} (hn : r.at0 + n ≤ l.length) : (r.pass n).Ok l :=
  ⟨Nat.le_trans h.frm (Nat.le_add_right _ _), hn, h.wt, h.num, fun o ho => ⟨(h.ops o ho).1, Nat.lt_of_lt_of_le (h.ops o ho).2 (Nat.le_add_right _ _)⟩, h.ord, h.ina⟩
theorem Rd.Ok.endText {l : Str8} {r : Rd} (h : r.Ok l) : (r.endText l).Ok l := by
  have hf := h.frm
  have ha := h.at0
  have hw := h.wt
  by_cases hlt : r.frm < r.at0
  · have e : r.endText l = { r with parts := r.parts ++ [{ i := { text := (l.take r.at0).drop r.frm } }], frm := r.at0 } := by unfold Rd.endText; rw [if_pos hlt]
    rw [e]
    refine ⟨Nat.le_refl _, ha, ?_, ?_, ?_, h.ord, h.ina⟩
    · show wtL (r.parts ++ [_]) ≤ 2 * r.at0
      rw [wtL_append, wtL_one]
      show _ + (((l.take r.at0).drop r.frm).length + 1) ≤ _
      rw [List.length_drop, List.length_take]
      omega
    · intro p hp
      rcases List.mem_append.1 hp with hp | hp
      · exact h.num p hp
      · rw [List.mem_singleton.1 hp]; exact Nat.zero_le _
    · intro o ho
      refine ⟨?_, (h.ops o ho).2⟩
      show o.part < (r.parts ++ [_]).length
      rw [List.length_append]
      exact Nat.lt_of_lt_of_le (h.ops o ho).1 (Nat.le_add_right _ _)
  · have e : r.endText l = { r with frm := r.at0 } := by unfold Rd.endText; rw [if_neg hlt, List.append_nil]
    rw [e]
    exact ⟨Nat.le_refl _, ha, Nat.le_trans hw (by show _ ≤ 2 * r.at0; omega), h.num, h.ops, h.ord, h.ina⟩
theorem Rd.add_is (l : Str8) (r : Rd) (p : Pt) (n : Nat) : r.add l p n = { r.endText l with parts := (r.endText l).parts ++ [p], at0 := r.at0 + n, frm := r.at0 + n } := rfl
theorem Rd.Ok.add {l : Str8} {r : Rd} (h : r.Ok l) {p : Pt} {n : Nat} (h1 : 1 ≤ n) (hn : r.at0 + n ≤ l.length) (hp : p.i.text.length ≤ n) (hd : p.d.number ≤ l.length) : (r.add l p n).Ok l := by
  have he := h.endText
  rw [Rd.add_is]
  refine ⟨Nat.le_refl _, hn, ?_, ?_, ?_, he.ord, he.ina⟩
  · show wtL ((r.endText l).parts ++ [p]) ≤ 2 * (r.at0 + n)
    have := he.wt
    have e : (r.endText l).frm = r.at0 := rfl
    rw [wtL_append, wtL_one]
    omega
  · intro q hq
    rcases List.mem_append.1 hq with hq | hq
    · exact he.num q hq
    · rw [List.mem_singleton.1 hq]; exact hd
  · intro o ho
    have := he.ops o ho
    have e : (r.endText l).at0 = r.at0 := rfl
    refine ⟨?_, ?_⟩
    · show o.part < ((r.endText l).parts ++ [p]).length
      rw [List.length_append]
      omega
    · show o.start < r.at0 + n
      omega
theorem Rd.Ok.opener {l : Str8} {r : Rd} (h : r.Ok l) (hp : 0 < r.parts.length) (ha : 0 < r.at0) (hl : ∀ o ∈ r.openers, o.part < r.parts.length - 1) (k : Nat) : Rd.Ok l { r with openers := r.openers ++ [{ kind := k, part := r.parts.length - 1, start := r.at0 - 1 }] } := by
  refine ⟨h.frm, h.at0, h.wt, h.num, ?_, ?_, h.ina⟩
  · intro o ho
    rcases List.mem_append.1 ho with ho | ho
    · exact h.ops o ho
    · rw [List.mem_singleton.1 ho]
      show r.parts.length - 1 < r.parts.length ∧ r.at0 - 1 < r.at0
      omega
  · show ((r.openers ++ [_]).map Op.part).Pairwise _
    rw [List.map_append]
    refine List.pairwise_append.2 ⟨h.ord, List.pairwise_singleton _ _, fun a ha b hb => ?_⟩
    obtain ⟨o, ho, e⟩ := List.mem_map.1 ha
    rw [← e, List.mem_singleton.1 hb]
    exact hl o ho
/-- The last opener is taken away, with all parts from its own on. -/
theorem Rd.Ok.cutBack {l : Str8} {r : Rd} (h : r.Ok l) {os : List Op} {o : Op} (he : r.openers = os ++ [o]) (i : Nat) (hi : i ≤ 2 * l.length) : Rd.Ok l { r with openers := os, inactive := i, parts := r.parts.take o.part } := by
  have hin : ∀ a ∈ os, a ∈ r.openers := fun a ha => by rw [he]; exact List.mem_append_left _ ha
  have hord := h.ord
  rw [he, List.map_append] at hord
  have hp := List.pairwise_append.1 hord
  refine ⟨h.frm, h.at0, ?_, fun p hp => h.num p (List.mem_of_mem_take hp), ?_, hp.1, hi⟩
  · have := wtL_split r.parts o.part
    have := h.wt
    show wtL (r.parts.take o.part) ≤ 2 * r.frm
    omega
  · intro a ha
    have h1 := h.ops a (hin a ha)
    have h2 : a.part < o.part := hp.2.2 _ (List.mem_map_of_mem ha) _ (by simp)
    refine ⟨?_, h1.2⟩
    show a.part < (r.parts.take o.part).length
    rw [List.length_take]
    omega
theorem Rd.Ok.drop {l : Str8} {r : Rd} (h : r.Ok l) {os : List Op} {o : Op} (he : r.openers = os ++ [o]) (i : Nat) (hi : i ≤ 2 * l.length) : Rd.Ok l { r with openers := os, inactive := i } := by
  have hin : ∀ a ∈ os, a ∈ r.openers := fun a ha => by rw [he]; exact List.mem_append_left _ ha
  have hord := h.ord
  rw [he, List.map_append] at hord
  exact ⟨h.frm, h.at0, h.wt, h.num, fun a ha => h.ops a (hin a ha), (List.pairwise_append.1 hord).1, hi⟩

end Go.Proofs.YtjdijlaoeoikhaaGreatDoor
