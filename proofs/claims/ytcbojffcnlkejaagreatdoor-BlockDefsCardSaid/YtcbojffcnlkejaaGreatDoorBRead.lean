/- The reader as it lies in memory. -/
import Derived.Test.YtcbojffcnlkejaaGreatDoorBRep
import Derived.Maps.Own
set_option linter.unusedVariables false
namespace Go.Proofs.YtcbojffcnlkejaaGreatDoor
open Go.RowKit
open cur (cell_blk free_blk set_blk blk_below)

def defCs : List Df → List Value
  | [] => []
  | q :: r => strV q.1 :: strV q.2.1 :: strV q.2.2 :: defCs r

/-- A map of numbers by texts. -/
def MapK (w : World) (m n : Nat) (cnt : Str → Nat) : Prop := ∃ D : DataW Unit, w.ownsMap Tryz.prog 9 (plainElem Tryz.prog 3) m n D ∧ ∀ l, D.atKey (.string l) (.lit (.int .i64 0)) = .lit (.int .i64 (cnt l : Int))

/-- The definitions: their row, and how often each label was told. -/
def DefsV (w : World) (O : Nat → Prop) (vd vm : Value) (d : List Df) (N : Nat) : Prop :=
  w.ownsRow 0 41 3 vd d.length (defCs d) ∧ (∀ g, vd.ownBlock = some g → O g) ∧
  ((vm = .map none ∧ d = []) ∨ ∃ m n cnt, vm = .map (some m) ∧ O m ∧ MapK w m n cnt ∧ n ≤ N ∧ (∀ l, cnt l ≤ n) ∧ ∀ l, cnt l = 0 ↔ d.any (fun x => x.1 == l) = false)

theorem map_keeps {w w' : World} {m n : Nat} {cnt : Str → Nat} (h : MapK w m n cnt) (hk : w'.heap[m]? = w.heap[m]?) : MapK w' m n cnt := by
  obtain ⟨D, ⟨es, clock, h1, h2⟩, h3⟩ := h
  exact ⟨D, ⟨es, clock, hk.trans h1, h2⟩, h3⟩
theorem map_lt {w : World} {m n : Nat} {cnt : Str → Nat} (h : MapK w m n cnt) : m < w.heap.size := by
  obtain ⟨D, ⟨es, ck, x, _⟩, _⟩ := h
  exact lt_of_block x
theorem DefsV.keeps {w w' : World} {O O' : Nat → Prop} {vd vm : Value} {d : List Df} {N : Nat} (h : DefsV w O vd vm d N) (hO : ∀ g, O g → O' g) (hk : ∀ g, g < w.heap.size → O g → w'.heap[g]? = w.heap[g]?) : DefsV w' O' vd vm d N := by
  obtain ⟨h1, h2, h3⟩ := h
  refine ⟨row_keeps h1 (fun g hg => hk g (World.ownsRow.lt h1 g hg).2 (h2 g hg)), fun g hg => hO g (h2 g hg), ?_⟩
  rcases h3 with h3 | ⟨m, n, cnt, a1, a2, a3, a4⟩
  · exact .inl h3
  · exact .inr ⟨m, n, cnt, a1, hO m a2, map_keeps a3 (hk m (map_lt a3) a2), a4⟩

/-- The reader's own block. -/
abbrev rdCs (vo vd vm : Value) (on : Nat) : Array Value := #[vo, .int .i64 (on : Int), vd, vm]

/-- What is open, as it lies in memory: the reader is block r; own tells whose a block is: 1 the reader's, 2i + 2 the part's at place i, 2i + 3 what is in its kids, 0 nobody's of these. -/
structure RepR (w : World) (r : Nat) (own : Nat → Nat) (N : Nat) (bs : List Nat) (vo vd vm : Value) (s : St) : Prop where
  rd : w.heap[r]? = some (.cells (rdCs vo vd vm s.on) 58 (0, 0))
  rown : own r = 1
  opens : w.ownsRow 0 66 1 vo s.opens.length (List.zipWith partI s.opens bs)
  oown : ∀ g, vo.ownBlock = some g → own g = 1
  defs : DefsV w (fun g => own g = 1) vd vm s.defs N
  len : bs.length = s.opens.length
  part : ∀ i b p, bs[i]? = some b → s.opens[i]? = some p → PartR w (fun g => own g = 2 * i + 2) (fun g => own g = 2 * i + 3) b p

def Rep (w : World) (r : Nat) (own : Nat → Nat) (N : Nat) (s : St) : Prop := ∃ bs vo vd vm, RepR w r own N bs vo vd vm s

/-- From a world to another one: only what is the reader's turns; nothing that was another's becomes the reader's. -/
def Step (w : World) (own : Nat → Nat) (w' : World) (own' : Nat → Nat) : Prop := Fr (fun g => own g ≠ 0) w w' ∧ ∀ g, g < w.heap.size → own g = 0 → own' g = 0

theorem Step.refl (w : World) (own : Nat → Nat) : Step w own w own := ⟨Fr.refl _ _, fun _ _ h => h⟩
theorem Step.trans {a b c : World} {o p q : Nat → Nat} (h : Step a o b p) (k : Step b p c q) : Step a o c q :=
  ⟨h.1.trans' k.1 (fun i hi hp ho => hp (h.2 i hi ho)), fun g hg ho => k.2 g (Nat.lt_of_lt_of_le hg h.1.size) (h.2 g hg ho)⟩
theorem Step.below {a b c : World} {o p : Nat → Nat} (h : Step a o b p) (k : Below b.heap.size b c) : Step a o c p := ⟨h.1.trans (Fr.of_below k), h.2⟩

theorem RepR.keeps {w w' : World} {r : Nat} {own : Nat → Nat} {N : Nat} {bs : List Nat} {vo vd vm : Value} {s : St} (h : RepR w r own N bs vo vd vm s) (hk : ∀ g, g < w.heap.size → own g ≠ 0 → w'.heap[g]? = w.heap[g]?) : RepR w' r own N bs vo vd vm s := by
  obtain ⟨h1, h2, h3, h4, h5, h6, h7⟩ := h
  refine ⟨(hk r (lt_of_block h1) (by rw [h2]; decide)).trans h1, h2, row_keeps h3 (fun g hg => hk g (World.ownsRow.lt h3 g hg).2 (by rw [h4 g hg]; decide)), h4, h5.keeps (fun _ q => q) (fun g hl (hg : own g = 1) => hk g hl (by rw [hg]; decide)), h6, fun i b p hb hp => ?_⟩
  exact (h7 i b p hb hp).keeps (fun _ q => q) (fun _ q => q) (fun g hl (hg : own g = 2 * i + 2) => hk g hl (by omega)) (fun g hl (hg : own g = 2 * i + 3) => hk g hl (by omega))
theorem Rep.keeps {w w' : World} {r : Nat} {own : Nat → Nat} {N : Nat} {s : St} (h : Rep w r own N s) (hk : ∀ g, g < w.heap.size → own g ≠ 0 → w'.heap[g]? = w.heap[g]?) : Rep w' r own N s := by
  obtain ⟨bs, vo, vd, vm, h⟩ := h
  exact ⟨bs, vo, vd, vm, h.keeps hk⟩

/-- A part's block exists. -/
theorem RepR.at {w : World} {r : Nat} {own : Nat → Nat} {N : Nat} {bs : List Nat} {vo vd vm : Value} {s : St} (h : RepR w r own N bs vo vd vm s) {i : Nat} {p : Part} (hp : s.opens[i]? = some p) : ∃ b, bs[i]? = some b ∧ PartR w (fun g => own g = 2 * i + 2) (fun g => own g = 2 * i + 3) b p := by
  have hi : i < bs.length := by
    rw [h.len]
    exact (List.getElem?_eq_some_iff.1 hp).1
  exact ⟨bs[i], List.getElem?_eq_getElem hi, h.part i _ p (List.getElem?_eq_getElem hi) hp⟩

/-- The last part as it lies in the row. -/
theorem zip_at {s : List Part} {bs : List Nat} {i b : Nat} {p : Part} (hb : bs[i]? = some b) (hp : s[i]? = some p) : (List.zipWith partI s bs)[i]? = some (partI p b) := by
  rw [List.getElem?_zipWith, hp, hb]

end Go.Proofs.YtcbojffcnlkejaaGreatDoor
