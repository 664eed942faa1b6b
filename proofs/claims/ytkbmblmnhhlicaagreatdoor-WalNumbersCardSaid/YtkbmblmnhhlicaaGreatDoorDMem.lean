/- A disk in memory: its struct, its map of files, each file's row of bytes; what of a world stays beside them. -/
import Derived.Test.YtkbmblmnhhlicaaGreatDoorBase
import Derived.Test.YtkbmblmnhhlicaaGreatDoorPlainDisk
import Derived.Test.YtkbmblmnhhlicaaGreatDoorZBytes
import Derived.Maps.OwnSet
import Derived.Maps.Views
import Derived.Maps.Own
set_option linter.unusedVariables false
namespace Go.Proofs.YtkbmblmnhhlicaaGreatDoor
open Go.RowKit

theorem cell_blk {w : World} {b : Nat} {cs : Array Value} {t : TypeId} (h : w.heap[b]? = some (.cells cs t (0, 0))) {i : Nat} {v : Value} (hi : cs[i]? = some v) : w.cell? ⟨b, i, none⟩ = some v := by
  simp [World.cell?, h, hi]
theorem free_blk {w : World} {b : Nat} {cs : Array Value} {t : TypeId} (h : w.heap[b]? = some (.cells cs t (0, 0))) (i : Nat) : w.frozen? ⟨b, i, none⟩ = false := by
  simp [World.frozen?, h]
theorem lt_blk {w : World} {b : Nat} {o : Obj} (h : w.heap[b]? = some o) : b < w.heap.size := (Array.getElem?_eq_some_iff.1 h).1
theorem set_blk {w : World} {b : Nat} {cs : Array Value} {t : TypeId} (h : w.heap[b]? = some (.cells cs t (0, 0))) (i : Nat) (u : Value) : (w.setCell ⟨b, i, none⟩ u).heap[b]? = some (.cells (cs.setIfInBounds i u) t (0, 0)) := by
  have hlt := lt_blk h
  have h' : w.heap[b] = .cells cs t (0, 0) := by simpa [Array.getElem?_eq_getElem hlt] using h
  show (w.heap.modify b _)[b]? = _
  rw [Array.getElem?_eq_getElem (by simpa using hlt), Array.getElem_modify_self, h']
  rfl

/-- Beside the blocks of S all that was there is as it was. -/
structure Fr (S : Nat → Prop) (w w' : World) : Prop where
  os : w'.os = w.os
  tape : w'.tape = w.tape
  output : w'.output = w.output
  size : w.heap.size ≤ w'.heap.size
  block : ∀ k, k < w.heap.size → ¬ S k → w'.heap[k]? = w.heap[k]?

theorem Fr.refl (S : Nat → Prop) (w : World) : Fr S w w := ⟨rfl, rfl, rfl, Nat.le_refl _, fun _ _ _ => rfl⟩
theorem Fr.trans {S S' : Nat → Prop} {a b c : World} (h : Fr S a b) (k : Fr S' b c) (hs : ∀ k, S' k → S k ∨ a.heap.size ≤ k) : Fr S a c :=
  ⟨k.os.trans h.os, k.tape.trans h.tape, k.output.trans h.output, Nat.le_trans h.size k.size, fun i hi hn => (k.block i (Nat.lt_of_lt_of_le hi h.size) (fun hs' => by
    rcases hs i hs' with h1 | h1
    · exact hn h1
    · omega)).trans (h.block i hi hn)⟩
theorem Fr.tr {S : Nat → Prop} {a b c : World} (h : Fr S a b) (k : Fr S b c) : Fr S a c := h.trans k (fun _ h => .inl h)
theorem Fr.below {S : Nat → Prop} {w w' : World} (h : Fr S w w') {B : Nat} (hB : ∀ k, S k → B ≤ k) (hw : B ≤ w.heap.size) : Below B w w' :=
  ⟨h.os, h.tape, h.output, h.size, fun k hk => h.block k (by omega) (fun hs => by have := hB k hs; omega)⟩
theorem Fr.of_below {w w' : World} (S : Nat → Prop) (h : Below w.heap.size w w') : Fr S w w' := ⟨h.os, h.tape, h.output, h.size, fun k hk _ => h.block k hk⟩
theorem Fr.set {S : Nat → Prop} {a w : World} (h : Fr S a w) {p : Addr} (hp : S p.block) (u : Value) : Fr S a (w.setCell p u) :=
  h.tr ⟨rfl, rfl, rfl, by simp [World.setCell], fun k hk hn => Below.heap_setCell _ _ _ _ (fun e => hn (by rw [e]; exact hp))⟩
theorem Fr.drew {S : Nat → Prop} {a w : World} (h : Fr S a w) : Fr S a w.drew := h.tr ⟨rfl, rfl, rfl, Nat.le_refl _, fun _ _ _ => rfl⟩
theorem Fr.drewN {S : Nat → Prop} {a w : World} (h : Fr S a w) (n : Nat) : Fr S a (w.drewN n) := h.tr ⟨rfl, rfl, rfl, Nat.le_refl _, fun _ _ _ => rfl⟩
theorem Fr.alloc {S : Nat → Prop} {a w : World} (h : Fr S a w) (o : Obj) : Fr S a (w.alloc o) := h.tr (Fr.of_below S ((Below.refl _ w).alloc (Nat.le_refl _) o))
theorem Fr.grown {S : Nat → Prop} {a w w' : World} {row : Option Nat} (h : Fr S a w) (hg : w.grownBy w' row) (hr : ∀ k, row = some k → S k) : Fr S a w' :=
  h.tr ⟨hg.os, hg.tape, hg.output, hg.size, fun k hk hn => hg.block k hk (fun e => hn (hr k e.symm))⟩
theorem Fr.at {S : Nat → Prop} {w w' : World} (h : Fr S w w') {k : Nat} {o : Obj} (hk : w.heap[k]? = some o) (hn : ¬ S k) : w'.heap[k]? = some o := (h.block k (lt_blk hk) hn).trans hk

/-! ### a map by names of any values -/
abbrev heldR : Value → Option (DataW Value × List MemPlace) := fun v => some (.held v, [])
def entV (p : Nm × Value) : Lit × DataW Value := (.string p.1, .held p.2)
def MapV (w : World) (m : Nat) (l : List (Nm × Value)) : Prop := w.ownsMap Tryz.prog 9 heldR m l.length (.map (l.map entV))

theorem ownsMap_tight {H : Type} {P : Program} {k : TypeId} {R : Value → Option (DataW H × List MemPlace)} {w : World} {b n : Nat} {es : List (Lit × DataW H)} (h : w.ownsMap P k R b n (.map es)) : w.ownsMap P k R b es.length (.map es) := by
  obtain ⟨es', clock, h1, h2, h3, h4⟩ := h
  refine ⟨es', clock, h1, h2, ?_, h4⟩
  have h5 : es = (es'.toList.map (WideElems.rg P k R)).foldr DataW.insert [] := by injection h4
  rw [h5, length_sorted]
  simp

theorem mapv_made (w : World) : MapV (w.alloc (.map #[] 0)) w.heap.size [] := World.ownsMap_made w Tryz.prog _ _

theorem find_ent (n : Nm) : ∀ l : List (Nm × Value), (l.map entV).find? (fun p => p.1.sameKey (.string n)) = (l.find? (fun p => p.1 == n)).map entV
  | [] => rfl
  | p :: l => by
    rw [List.map_cons, List.find?_cons, List.find?_cons, find_ent n l]
    have : (entV p).1.sameKey (.string n) = (p.1 == n) := rfl
    rw [this]
    cases p.1 == n <;> rfl
theorem at_ent (n : Nm) (l : List (Nm × Value)) (z : Value) : (DataW.map (l.map entV)).atKey (.string n) (.held z) = .held ((getA n l).getD z) := by
  unfold DataW.atKey getA
  simp only [find_ent]
  cases l.find? (fun p => p.1 == n) <;> rfl
theorem has_ent (n : Nm) (l : List (Nm × Value)) : Maps.has (DataW.map (l.map entV)) (.string n) = (getA n l).isSome := by
  rw [Maps.has_eq]
  induction l with
  | nil => rfl
  | cons p l ih =>
    rw [List.map_cons, List.any_cons, ih, getA_cons]
    have : (entV p).1.sameKey (.string n) = (p.1 == n) := rfl
    rw [this]
    by_cases h : p.1 = n
    · simp [h]
    · have h' : (p.1 == n) = false := by simpa using h
      simp [h', h]
theorem del_ent (n : Nm) (l : List (Nm × Value)) : (DataW.map (l.map entV)).del (.string n) = .map ((delA n l).map entV) := by
  show DataW.map _ = _
  congr 1
  unfold delA
  rw [List.filter_map]
  rfl
theorem ins_ent (n : Nm) (v : Value) : ∀ l : List (Nm × Value), DataW.insert (.string n, .held v) (l.map entV) = (insA (n, v) l).map entV
  | [] => rfl
  | y :: r => by
    show DataW.insert _ (entV y :: r.map entV) = _
    unfold DataW.insert insA
    have : (Lit.string n).before (entV y).1 = bytesBefore n y.1 := rfl
    rw [this]
    split
    · rfl
    · rw [ins_ent n v r]; rfl
theorem put_ent (n : Nm) (v : Value) (l : List (Nm × Value)) : (DataW.map (l.map entV)).put (.string n) (.held v) = .map ((putA n v l).map entV) := by
  have h := del_ent n l
  unfold DataW.del at h
  simp only [DataW.map.injEq] at h
  unfold DataW.put putA
  simp only
  rw [h, ins_ent]

theorem nm_key (n : Nm) (hl : n.length ≤ 140737488355328) : keyOf Tryz.prog 9 (.string ⟨n.toArray⟩) = some (.string n) := by
  rw [Go.WideMaps.keyOf_string_mk Tryz.underlying9 (by rw [size_list]; unfold maxLen; omega), list_data]

abbrev zFile : Value := .agg #[.slice none 0 0, .int .i64 0]

theorem mapv_look_ok {w : World} {m : Nat} {l : List (Nm × Value)} (h : MapV w m l) (n : Nm) (hn : n.length ≤ 140737488355328) :
    (Instr.lookup 85 (.map (some m)) (.string ⟨n.toArray⟩) true).run Tryz.prog w = .ok (.tuple #[(getA n l).getD zFile, .bool (getA n l).isSome]) w := by
  obtain ⟨v, ps, hrun, hv⟩ := h.look_ok (t := 85) (e := 125) (Maps.string_keyed Tryz.underlying9) Tryz.underlying85 (z := zFile) (by kernel_rfl) (zd := .held zFile) rfl (nm_key n hn)
  rw [at_ent] at hv
  rw [hrun, has_ent]
  have : v = (getA n l).getD zFile := by
    simp only [heldR, Option.some.injEq, Prod.mk.injEq, DataW.held.injEq] at hv
    exact hv.1
  rw [this]
theorem mapv_look {w : World} {m : Nat} {l : List (Nm × Value)} (h : MapV w m l) (n : Nm) (hn : n.length ≤ 140737488355328) :
    (Instr.lookup 85 (.map (some m)) (.string ⟨n.toArray⟩) false).run Tryz.prog w = .ok ((getA n l).getD zFile) w := by
  obtain ⟨v, ps, hrun, hv⟩ := h.lookup (t := 85) (e := 125) (Maps.string_keyed Tryz.underlying9) Tryz.underlying85 (z := zFile) (by kernel_rfl) (zd := .held zFile) rfl (nm_key n hn)
  rw [at_ent] at hv
  rw [hrun]
  have : v = (getA n l).getD zFile := by
    simp only [heldR, Option.some.injEq, Prod.mk.injEq, DataW.held.injEq] at hv
    exact hv.1
  rw [this]
theorem mapv_store {w : World} {m : Nat} {l : List (Nm × Value)} (h : MapV w m l) (n : Nm) (hn : n.length ≤ 140737488355328) (hl : l.length ≤ 1099511627776) (v : Value) :
    ∃ w', (Instr.mapUpdate 85 (.map (some m)) (.string ⟨n.toArray⟩) v).run Tryz.prog w = .ok () w' ∧ MapV w' m (putA n v l) ∧ w.grownBy w' (some m) ∧ w'.heap.size = w.heap.size := by
  obtain ⟨w', hrun, h1, h2⟩ := h.store (t := 85) (e := 125) (Maps.string_keyed Tryz.underlying9) Tryz.underlying85 (by unfold maxLen; omega) (val := v) (d := .held v) (ps := []) (nm_key n hn) rfl
  refine ⟨w', hrun, ?_, h2.grown, ?_⟩
  · rw [put_ent] at h1
    have := ownsMap_tight h1
    rwa [List.length_map] at this
  · obtain ⟨_, _, _, _, _, rfl⟩ := h2
    simp [ChangeMaps.setBlock]
theorem mapv_drop {w : World} {m : Nat} {l : List (Nm × Value)} (h : MapV w m l) (n : Nm) (hn : n.length ≤ 140737488355328) (ty : TypeId) :
    ∃ w', (Builtin.delete_ #[85, 9] ty #[.map (some m), .string ⟨n.toArray⟩]).run Tryz.prog w = .ok (.tuple #[]) w' ∧ MapV w' m (delA n l) ∧ w.grownBy w' (some m) := by
  obtain ⟨w', hrun, h1, h2⟩ := h.drop (t := 85) (e := 125) (Maps.string_keyed Tryz.underlying9) Tryz.underlying85 (nm_key n hn) ty
  refine ⟨w', hrun, ?_, h2.grown⟩
  rw [del_ent] at h1
  have := ownsMap_tight h1
  rwa [List.length_map] at this
theorem mapv_keep {w w' : World} {m : Nat} {l : List (Nm × Value)} (h : MapV w m l) (hk : w'.heap[m]? = w.heap[m]?) : MapV w' m l := by
  obtain ⟨es, clock, h1, h2⟩ := h
  exact ⟨es, clock, hk.trans h1, h2⟩
theorem mapv_lt {w : World} {m : Nat} {l : List (Nm × Value)} (h : MapV w m l) : m < w.heap.size := h.lt

/-! ### a disk -/
abbrev fileV (s : Value) (la : Nat) : Value := .agg #[s, .int .i64 (la : Int)]
abbrev dkCells (d : Dk) (m : Nat) : Array Value := #[.int .i64 (d.room : Int), .int .i64 (usedL d.files : Int), .map (some m), .bool d.up, .int .i64 d.ahead, .int .i64 d.falls, .int .u64 (d.keep : Int)]
abbrev filesV (sl : Nm → Value) (l : Fls) : List (Nm × Value) := l.map fun p => (p.1, fileV (sl p.1) p.2.la)

/-- Block b holds the disk d, whose map is block m; sl: each file's slice; all its blocks are S's. Of the file ex the row is not asked. -/
structure DkW (w : World) (b m : Nat) (S : Nat → Prop) (sl : Nm → Value) (ex : Option Nm) (d : Dk) : Prop where
  blk : w.heap[b]? = some (.cells (dkCells d m) 87 (0, 0))
  map : MapV w m (filesV sl d.files)
  rows : ∀ p ∈ d.files, some p.1 ≠ ex → OwnB w 0 (sl p.1) p.2.bs
  apart : ∀ p ∈ d.files, ∀ q ∈ d.files, p.1 ≠ q.1 → ∀ g, (sl p.1).ownBlock = some g → (sl q.1).ownBlock ≠ some g
  sb : S b
  sm : S m
  sr : ∀ p ∈ d.files, ∀ g, (sl p.1).ownBlock = some g → S g
  lt : ∀ k, S k → k < w.heap.size
  ok : DkOk d
  names : ∀ p ∈ d.files, p.1.length ≤ 140737488355328
  shape : ∀ p ∈ d.files, ∃ a c, sl p.1 = .slice a p.2.bs.length c

abbrev dptr (b : Nat) : Value := .pointer (some ⟨b, 0, none⟩)

/-- A row that a file, or its reader, has stays where its block stays. -/
theorem ownB_keep {w w' : World} {B : Nat} {v : Value} {l : List UInt8} (h : OwnB w B v l) (hk : ∀ g, v.ownBlock = some g → w'.heap[g]? = w.heap[g]?) : OwnB w' B v l := by
  refine ⟨h.1, ?_⟩
  rcases h.2 with hn | ⟨g, cap, cur, hv, hB, hgg, rest⟩
  · exact .inl hn
  · exact .inr ⟨g, cap, cur, hv, hB, (hk g (by rw [hv]; rfl)).trans hgg, rest⟩
theorem ownB_block {w : World} {B : Nat} {v : Value} {l : List UInt8} (h : OwnB w B v l) {g : Nat} (hg : v.ownBlock = some g) : ∃ cur, w.heap[g]? = some (.cells cur 5 (0, 0)) := by
  rcases h.2 with ⟨rfl, _⟩ | ⟨g', cap, cur, rfl, _, hgg, _⟩
  · simp [Value.ownBlock] at hg
  · simp [Value.ownBlock] at hg
    subst hg
    exact ⟨cur, hgg⟩
theorem ownB_lower {w : World} {B : Nat} {v : Value} {l : List UInt8} (h : OwnB w B v l) : OwnB w 0 v l := by
  refine ⟨h.1, ?_⟩
  rcases h.2 with hn | ⟨g, cap, cur, hv, hB, r⟩
  · exact .inl hn
  · exact .inr ⟨g, cap, cur, hv, Nat.zero_le _, r⟩

theorem DkW.ex_some {w : World} {b m : Nat} {S : Nat → Prop} {sl : Nm → Value} {d : Dk} (h : DkW w b m S sl none d) (n : Nm) : DkW w b m S sl (some n) d :=
  { h with rows := fun p hp _ => h.rows p hp (by simp) }

/-- A world in which all its blocks are as they were. -/
theorem DkW.keep {w w' : World} {b m : Nat} {S : Nat → Prop} {sl : Nm → Value} {ex : Option Nm} {d : Dk} (h : DkW w b m S sl ex d) (hs : w.heap.size ≤ w'.heap.size) (hk : ∀ k, S k → w'.heap[k]? = w.heap[k]?) : DkW w' b m S sl ex d :=
  { blk := (hk b h.sb).trans h.blk
    map := mapv_keep h.map (hk m h.sm)
    rows := fun p hp hx => ownB_keep (h.rows p hp hx) (fun g hg => hk g (h.sr p hp g hg))
    apart := h.apart, sb := h.sb, sm := h.sm, sr := h.sr, ok := h.ok, names := h.names, shape := h.shape
    lt := fun k hk' => Nat.lt_of_lt_of_le (h.lt k hk') hs }
theorem DkW.below {w w' : World} {b m : Nat} {S : Nat → Prop} {sl : Nm → Value} {ex : Option Nm} {d : Dk} (h : DkW w b m S sl ex d) (hb : Below w.heap.size w w') : DkW w' b m S sl ex d :=
  h.keep hb.size (fun k hk => hb.block k (h.lt k hk))
theorem DkW.drew {w : World} {b m : Nat} {S : Nat → Prop} {sl : Nm → Value} {ex : Option Nm} {d : Dk} (h : DkW w b m S sl ex d) : DkW w.drew b m S sl ex d := h.keep (Nat.le_refl _) (fun _ _ => rfl)
theorem DkW.drewN {w : World} {b m : Nat} {S : Nat → Prop} {sl : Nm → Value} {ex : Option Nm} {d : Dk} (h : DkW w b m S sl ex d) (n : Nat) : DkW (w.drewN n) b m S sl ex d := h.keep (Nat.le_refl _) (fun _ _ => rfl)
theorem DkW.alloc {w : World} {b m : Nat} {S : Nat → Prop} {sl : Nm → Value} {ex : Option Nm} {d : Dk} (h : DkW w b m S sl ex d) (o : Obj) : DkW (w.alloc o) b m S sl ex d := h.below ((Below.refl _ w).alloc (Nat.le_refl _) o)

theorem getA_filesV (sl : Nm → Value) (n : Nm) (l : Fls) : getA n (filesV sl l) = (getA n l).map (fun f => fileV (sl n) f.la) := getA_map (fun n (f : Fl) => fileV (sl n) f.la) n l

/-- The disk's struct and the map are no rows of bytes. -/
theorem DkW.ne_b {w : World} {b m : Nat} {S : Nat → Prop} {sl : Nm → Value} {ex : Option Nm} {d : Dk} (h : DkW w b m S sl ex d) : b ≠ m := by
  intro e
  subst e
  obtain ⟨es, clock, h1, _⟩ := h.map
  rw [h.blk] at h1
  cases h1
theorem DkW.ne_bg {w : World} {b m : Nat} {S : Nat → Prop} {sl : Nm → Value} {ex : Option Nm} {d : Dk} (h : DkW w b m S sl ex d) {g : Nat} {cur : Array Value} (hg : w.heap[g]? = some (.cells cur 5 (0, 0))) : g ≠ b ∧ g ≠ m := by
  constructor
  · intro e
    subst e
    rw [h.blk] at hg
    simp at hg
  · intro e
    subst e
    obtain ⟨es, clock, h1, _⟩ := h.map
    rw [hg] at h1
    cases h1
theorem set_other {w : World} {b k i : Nat} (u : Value) (h : k ≠ b) : (w.setCell ⟨b, i, none⟩ u).heap[k]? = w.heap[k]? := Below.heap_setCell _ _ _ _ (by simpa using h)
theorem set_size {w : World} {a : Addr} (u : Value) : (w.setCell a u).heap.size = w.heap.size := by simp [World.setCell]

/-- A cell of the struct is written: all but the struct stays. -/
theorem DkW.struct {w w' : World} {b m : Nat} {S : Nat → Prop} {sl : Nm → Value} {ex : Option Nm} {d d' : Dk} (h : DkW w b m S sl ex d) (hs : w'.heap.size = w.heap.size) (hk : ∀ k, k ≠ b → w'.heap[k]? = w.heap[k]?)
    (hb : w'.heap[b]? = some (.cells (dkCells d' m) 87 (0, 0))) (hf : d'.files = d.files) (hok : DkOk d') : DkW w' b m S sl ex d' :=
  { blk := hb
    map := by rw [hf]; exact mapv_keep h.map (hk m (Ne.symm h.ne_b))
    rows := fun p hp hx => by
      rw [hf] at hp
      refine ownB_keep (h.rows p hp hx) (fun g hg => ?_)
      obtain ⟨cur, hc⟩ := ownB_block (h.rows p hp hx) hg
      exact hk g (h.ne_bg hc).1
    apart := by rw [hf]; exact h.apart
    sb := h.sb, sm := h.sm
    sr := by rw [hf]; exact h.sr
    lt := fun k hk' => by rw [hs]; exact h.lt k hk'
    ok := hok
    names := by rw [hf]; exact h.names
    shape := by rw [hf]; exact h.shape }

theorem DkW.c0 {w : World} {b m : Nat} {S : Nat → Prop} {sl : Nm → Value} {ex : Option Nm} {d : Dk} (h : DkW w b m S sl ex d) : w.cell? ⟨b, 0, none⟩ = some (.int .i64 (d.room : Int)) := cell_blk h.blk rfl
theorem DkW.c1 {w : World} {b m : Nat} {S : Nat → Prop} {sl : Nm → Value} {ex : Option Nm} {d : Dk} (h : DkW w b m S sl ex d) : w.cell? ⟨b, 1, none⟩ = some (.int .i64 (usedL d.files : Int)) := cell_blk h.blk rfl
theorem DkW.c2 {w : World} {b m : Nat} {S : Nat → Prop} {sl : Nm → Value} {ex : Option Nm} {d : Dk} (h : DkW w b m S sl ex d) : w.cell? ⟨b, 2, none⟩ = some (.map (some m)) := cell_blk h.blk rfl
theorem DkW.c3 {w : World} {b m : Nat} {S : Nat → Prop} {sl : Nm → Value} {ex : Option Nm} {d : Dk} (h : DkW w b m S sl ex d) : w.cell? ⟨b, 3, none⟩ = some (.bool d.up) := cell_blk h.blk rfl
theorem DkW.c4 {w : World} {b m : Nat} {S : Nat → Prop} {sl : Nm → Value} {ex : Option Nm} {d : Dk} (h : DkW w b m S sl ex d) : w.cell? ⟨b, 4, none⟩ = some (.int .i64 d.ahead) := cell_blk h.blk rfl
theorem DkW.c5 {w : World} {b m : Nat} {S : Nat → Prop} {sl : Nm → Value} {ex : Option Nm} {d : Dk} (h : DkW w b m S sl ex d) : w.cell? ⟨b, 5, none⟩ = some (.int .i64 d.falls) := cell_blk h.blk rfl
theorem DkW.c6 {w : World} {b m : Nat} {S : Nat → Prop} {sl : Nm → Value} {ex : Option Nm} {d : Dk} (h : DkW w b m S sl ex d) : w.cell? ⟨b, 6, none⟩ = some (.int .u64 (d.keep : Int)) := cell_blk h.blk rfl
theorem DkW.fz {w : World} {b m : Nat} {S : Nat → Prop} {sl : Nm → Value} {ex : Option Nm} {d : Dk} (h : DkW w b m S sl ex d) (i : Nat) : w.frozen? ⟨b, i, none⟩ = false := free_blk h.blk i

def upd (sl : Nm → Value) (n : Nm) (s : Value) : Nm → Value := fun k => if k = n then s else sl k
theorem upd_same (sl : Nm → Value) (n : Nm) (s : Value) : upd sl n s n = s := by simp [upd]
theorem upd_other {sl : Nm → Value} {n k : Nm} {s : Value} (h : k ≠ n) : upd sl n s k = sl k := by simp [upd, h]

theorem filesV_put (sl : Nm → Value) (n : Nm) (s : Value) (f : Fl) (l : Fls) : putA n (fileV s f.la) (filesV sl l) = filesV (upd sl n s) (putA n f l) := by
  have h1 : delA n (filesV sl l) = filesV sl (delA n l) := delA_map (fun n (f : Fl) => fileV (sl n) f.la) n l
  have h2 : filesV sl (delA n l) = filesV (upd sl n s) (delA n l) := by
    refine List.map_congr_left fun p hp => ?_
    rw [upd_other (mem_delA.1 hp).2]
  unfold putA
  rw [h1, h2]
  have h3 := insA_map (fun k (f : Fl) => fileV (upd sl n s k) f.la) n f (delA n l)
  rw [upd_same] at h3
  exact h3
theorem filesV_del (sl : Nm → Value) (n : Nm) (l : Fls) : delA n (filesV sl l) = filesV sl (delA n l) := delA_map (fun n (f : Fl) => fileV (sl n) f.la) n l

/-- What a look-up of a name tells: a slice of so many bytes, and how many last. -/
theorem DkW.look {w : World} {b m : Nat} {S : Nat → Prop} {sl : Nm → Value} {ex : Option Nm} {d : Dk} (h : DkW w b m S sl ex d) (n : Nm) :
    ∃ a c, (getA n (filesV sl d.files)).getD zFile = .agg #[.slice a ((getA n d.files).getD ⟨[], 0⟩).bs.length c, .int .i64 (((getA n d.files).getD ⟨[], 0⟩).la : Int)] ∧ (getA n (filesV sl d.files)).isSome = (getA n d.files).isSome ∧ ((getA n d.files).isSome = true → sl n = .slice a ((getA n d.files).getD ⟨[], 0⟩).bs.length c) ∧ ((getA n d.files).isSome = false → a = none ∧ c = 0) := by
  rw [getA_filesV]
  cases hg : getA n d.files with
  | none => exact ⟨none, 0, rfl, rfl, fun h => by simp at h, fun _ => ⟨rfl, rfl⟩⟩
  | some f =>
    obtain ⟨a, c, hs⟩ := h.shape _ (getA_mem hg)
    exact ⟨a, c, by simp [hs], rfl, fun _ => hs, fun h => by simp at h⟩

/-- A file is put. -/
theorem DkW.put {w w' : World} {b m : Nat} {S : Nat → Prop} {sl : Nm → Value} {d : Dk} {n : Nm} {s : Value} {bs : List UInt8} {la : Nat} (h : DkW w b m S sl (some n) d) (hs : OwnB w 0 s bs) (hla : la ≤ bs.length) (hn : n.length ≤ 140737488355328)
    (hsg : ∀ g, s.ownBlock = some g → S g ∧ ∀ q ∈ d.files, q.1 ≠ n → (sl q.1).ownBlock ≠ some g) (hu : usedL (putA n ⟨bs, la⟩ d.files) ≤ d.room) (hf : (putA n (⟨bs, la⟩ : Fl) d.files).length ≤ 1048576) (hu2 : usedL (putA n ⟨bs, la⟩ d.files) ≤ 140737488355328)
    (hz : w.heap.size ≤ w'.heap.size) (hk : ∀ k, k < w.heap.size → k ≠ b → k ≠ m → w'.heap[k]? = w.heap[k]?)
    (hb : w'.heap[b]? = some (.cells (dkCells { d with files := putA n ⟨bs, la⟩ d.files } m) 87 (0, 0))) (hm : MapV w' m (putA n (fileV s la) (filesV sl d.files))) :
    DkW w' b m S (upd sl n s) none { d with files := putA n ⟨bs, la⟩ d.files } := by
  have hrow : ∀ v l, OwnB w 0 v l → OwnB w' 0 v l := by
    intro v l ho
    refine ownB_keep ho (fun g hg => ?_)
    obtain ⟨cur, hc⟩ := ownB_block ho hg
    have := h.ne_bg hc
    exact hk g (lt_blk hc) this.1 this.2
  refine { blk := hb, map := ?_, rows := ?_, apart := ?_, sb := h.sb, sm := h.sm, sr := ?_, lt := fun k hk' => Nat.lt_of_lt_of_le (h.lt k hk') hz, ok := ?_, names := ?_, shape := ?_ }
  · rw [filesV_put sl n s ⟨bs, la⟩ d.files] at hm
    exact hm
  · intro p hp _
    rcases mem_putA.1 hp with rfl | ⟨hp, hne⟩
    · rw [upd_same]; exact hrow _ _ hs
    · rw [upd_other hne]
      exact hrow _ _ (h.rows p hp (by intro e; exact hne (Option.some.inj e)))
  · intro p hp q hq hpq g hg
    rcases mem_putA.1 hp with rfl | ⟨hp, hne⟩
    · rw [upd_same] at hg
      rcases mem_putA.1 hq with rfl | ⟨hq, hnq⟩
      · exact absurd rfl hpq
      · rw [upd_other hnq]; exact (hsg g hg).2 q hq hnq
    · rw [upd_other hne] at hg
      rcases mem_putA.1 hq with rfl | ⟨hq, hnq⟩
      · rw [upd_same]
        intro e
        exact (hsg g e).2 p hp hne hg
      · rw [upd_other hnq]; exact h.apart p hp q hq hpq g hg
  · intro p hp g hg
    rcases mem_putA.1 hp with rfl | ⟨hp, hne⟩
    · rw [upd_same] at hg; exact (hsg g hg).1
    · rw [upd_other hne] at hg; exact h.sr p hp g hg
  · refine { rises := rises_putA h.ok.rises, lasts := ?_, fits := hu, room := h.ok.room, ahead := h.ok.ahead, keep := h.ok.keep, few := hf, small := hu2 }
    intro p hp
    rcases mem_putA.1 hp with rfl | ⟨hp, hne⟩
    · exact hla
    · exact h.ok.lasts p hp
  · intro p hp
    rcases mem_putA.1 hp with rfl | ⟨hp, hne⟩
    · exact hn
    · exact h.names p hp
  · intro p hp
    rcases mem_putA.1 hp with rfl | ⟨hp, hne⟩
    · rw [upd_same]; exact own_slice hs
    · rw [upd_other hne]; exact h.shape p hp

/-- A file is taken away. -/
theorem DkW.dropped {w w' : World} {b m : Nat} {S : Nat → Prop} {sl : Nm → Value} {d : Dk} {n : Nm} (h : DkW w b m S sl none d)
    (hz : w.heap.size ≤ w'.heap.size) (hk : ∀ k, k < w.heap.size → k ≠ b → k ≠ m → w'.heap[k]? = w.heap[k]?)
    (hb : w'.heap[b]? = some (.cells (dkCells { d with files := delA n d.files } m) 87 (0, 0))) (hm : MapV w' m (delA n (filesV sl d.files))) :
    DkW w' b m S sl none { d with files := delA n d.files } := by
  refine { blk := hb, map := by rw [filesV_del] at hm; exact hm, rows := ?_, apart := fun p hp q hq => h.apart p (mem_delA.1 hp).1 q (mem_delA.1 hq).1, sb := h.sb, sm := h.sm, sr := fun p hp => h.sr p (mem_delA.1 hp).1, lt := fun k hk' => Nat.lt_of_lt_of_le (h.lt k hk') hz, ok := ?_, names := fun p hp => h.names p (mem_delA.1 hp).1, shape := fun p hp => h.shape p (mem_delA.1 hp).1 }
  · intro p hp _
    have ho := h.rows p (mem_delA.1 hp).1 (by simp)
    refine ownB_keep ho (fun g hg => ?_)
    obtain ⟨cur, hc⟩ := ownB_block ho hg
    have := h.ne_bg hc
    exact hk g (lt_blk hc) this.1 this.2
  · have hl : (delA n d.files).length ≤ d.files.length := List.length_filter_le _ _
    have hu := usedL_del n d.files h.ok.rises
    exact { rises := rises_delA h.ok.rises, lasts := fun p hp => h.ok.lasts p (mem_delA.1 hp).1, fits := by have := h.ok.fits; show usedL (delA n d.files) ≤ d.room; omega, room := h.ok.room, ahead := h.ok.ahead, keep := h.ok.keep, few := by have := h.ok.few; show (delA n d.files).length ≤ _; omega, small := by have := h.ok.small; show usedL (delA n d.files) ≤ _; omega }

/-- What is told of a call on a disk. -/
abbrev Did (w : World) (b m : Nat) (S : Nat → Prop) (d : Dk) (w' : World) : Prop := (∃ sl, DkW w' b m S sl none d) ∧ Fr S w w'

end Go.Proofs.YtkbmblmnhhlicaaGreatDoor
