/- Rows of numbers of one's own beside a net. -/
import Derived.Test.YtblohegdlcpipaaUShown
set_option linter.unusedVariables false
set_option linter.unusedSimpArgs false
namespace Go.Proofs.Ytblohegdlcpipaa
open Go.RowKit

theorem Addr.add_add' (x : Addr) (k j : Nat) : (x.add k).add j = x.add (k + j) := by
  cases k with
  | zero => rw [Addr.add_zero', Nat.zero_add]
  | succ k =>
    cases j with
    | zero => rw [Addr.add_zero', Nat.add_zero]
    | succ j =>
      rw [Addr.add_succ', Addr.add_succ', show k + 1 + (j + 1) = (k + 1 + j) + 1 by omega, Addr.add_succ']
      simp only [Addr.mk.injEq, and_true, true_and]
      omega

/-! ### rows of numbers -/
def cI (z : Nat) : Value := .int .i64 (z : Int)
theorem oneI (z : Nat) : (cI z).oneCell' = true := rfl
theorem infoI : (Try.prog.info? 3).map (fun i => (i.zero, i.size, i.bytes)) = some (some (.int .i64 0), 1, 8) := by kernel_rfl
def OwnI (w : World) (B : Nat) (v : Value) (l : List Nat) : Prop := w.ownsRow B 3 1 v l.length (l.map cI)
theorem OwnI.nil (w : World) (B : Nat) : OwnI w B (.slice none 0 0) [] := World.ownsRow_nil _ _ _ _
theorem OwnI.slice {w : World} {B : Nat} {v : Value} {l : List Nat} (h : OwnI w B v l) : ∃ a c, v = .slice a l.length c := by
  rcases h.2 with ⟨rfl, h0⟩ | ⟨g, cap, cur, rfl, _⟩
  · exact ⟨none, 0, by rw [h0]⟩
  · exact ⟨_, _, rfl⟩
theorem OwnI.block {w : World} {B : Nat} {v : Value} {l : List Nat} (h : OwnI w B v l) {g : Nat} (hg : v.ownBlock = some g) : B ≤ g ∧ ∃ cur, w.heap[g]? = some (.cells cur 3 (0, 0)) := by
  rcases h.2 with ⟨h1, _⟩ | ⟨g', cap, cur, h1, h2, h3, _⟩
  · rw [h1] at hg; cases hg
  · rw [h1] at hg
    have : g' = g := Option.some.inj hg
    subst this
    exact ⟨h2, cur, h3⟩
theorem OwnI.keep {w w' : World} {B : Nat} {v : Value} {l : List Nat} (h : OwnI w B v l) (hk : ∀ g, v.ownBlock = some g → w'.heap[g]? = w.heap[g]?) : OwnI w' B v l := by
  refine ⟨h.1, ?_⟩
  rcases h.2 with h1 | ⟨g, cap, cur, h1, h2, h3, h4⟩
  · exact .inl h1
  · exact .inr ⟨g, cap, cur, h1, h2, (hk g (by rw [h1]; rfl)).trans h3, h4⟩
theorem OwnI.below {w w' : World} {B : Nat} {v : Value} {l : List Nat} (h : OwnI w B v l) (hb : Below w.heap.size w w') : OwnI w' B v l := h.keep (fun g hg => by obtain ⟨_, cur, hc⟩ := h.block hg; exact hb.block g (lt_blk hc))
theorem OwnI.kt {w w' : World} {B : Nat} {v : Value} {l : List Nat} (h : OwnI w B v l) (hk : KT w w') : OwnI w' B v l := h.keep (fun g hg => by obtain ⟨_, cur, hc⟩ := h.block hg; exact hk.keep g cur _ _ hc (by decide) (by decide))
theorem OwnI.low {w : World} {B B' : Nat} {v : Value} {l : List Nat} (h : OwnI w B v l) (hB : B' ≤ B) : OwnI w B' v l := by
  refine ⟨h.1, ?_⟩
  rcases h.2 with h1 | ⟨g, cap, cur, h1, h2, h3⟩
  · exact .inl h1
  · exact .inr ⟨g, cap, cur, h1, Nat.le_trans hB h2, h3⟩
/-- Such a row may be read. -/
def RdI (w : World) (a : Option Addr) (n c : Nat) (l : List Nat) : Prop := l.length = n ∧ n ≤ c ∧ ((a = none ∧ n = 0 ∧ c = 0) ∨ ∃ x, a = some x ∧ ∀ (j : Nat) (z : Nat), l[j]? = some z → w.cell? (x.add j) = some (cI z))
theorem RdI.below {w w' : World} {a : Option Addr} {n c : Nat} {l : List Nat} (h : RdI w a n c l) (hb : Below w.heap.size w w') : RdI w' a n c l := by
  refine ⟨h.1, h.2.1, ?_⟩
  rcases h.2.2 with h2 | ⟨x, h2, hc⟩
  · exact .inl h2
  · refine .inr ⟨x, h2, fun j z hj => ?_⟩
    have := hc j z hj
    rw [hb.cell (World.block_lt_of_cell? w _ this)]
    exact this
theorem OwnI.rd {w : World} {B n : Nat} {a : Option Addr} {c : Nat} {l : List Nat} (h : OwnI w B (.slice a n c) l) : RdI w a n c l ∧ ((a = none ∧ n = 0 ∧ c = 0) ∨ ∃ g, a = some ⟨g, 0, none⟩) := by
  rcases h.2 with ⟨h1, h0⟩ | ⟨g, cap, cur, h1, h2, h3, h4, h5, h6, h7⟩
  · have e1 : a = none := congrArg (fun v => match v with | Value.slice a _ _ => a | _ => none) h1
    have e2 : n = 0 := congrArg (fun v => match v with | Value.slice _ n _ => n | _ => 0) h1
    have e3 : c = 0 := congrArg (fun v => match v with | Value.slice _ _ c => c | _ => 0) h1
    exact ⟨⟨by omega, by omega, .inl ⟨e1, e2, e3⟩⟩, .inl ⟨e1, e2, e3⟩⟩
  · have e1 : a = some ⟨g, 0, none⟩ := congrArg (fun v => match v with | Value.slice a _ _ => a | _ => none) h1
    have e2 : n = l.length := congrArg (fun v => match v with | Value.slice _ n _ => n | _ => 0) h1
    have e3 : c = cap := congrArg (fun v => match v with | Value.slice _ _ c => c | _ => 0) h1
    subst e1 e3
    refine ⟨⟨e2.symm, by omega, .inr ⟨_, rfl, fun j z hj => ?_⟩⟩, .inr ⟨g, rfl⟩⟩
    have hjl := (List.getElem?_eq_some_iff.1 hj).1
    rw [Addr.add_lit, Nat.zero_add]
    have h8 : (l.map cI)[j]? = some (cI z) := by rw [List.getElem?_map, hj]; rfl
    rw [← h7, List.getElem?_take, if_pos (by omega), Array.getElem?_toList] at h8
    exact cell_blk h3 h8
theorem OwnI.at {w : World} {B n : Nat} {a : Option Addr} {c : Nat} {l : List Nat} (h : OwnI w B (.slice a n c) l) {j : Nat} {z : Nat} (hj : l[j]? = some z) : ∃ g, a = some ⟨g, 0, none⟩ ∧ w.cell? ⟨g, j, none⟩ = some (cI z) := by
  have hjl := (List.getElem?_eq_some_iff.1 hj).1
  obtain ⟨⟨h1, h2, h3⟩, h4⟩ := h.rd
  rcases h4 with ⟨_, h0, _⟩ | ⟨g, rfl⟩
  · omega
  · rcases h3 with ⟨h0, _⟩ | ⟨x, hx, hc⟩
    · cases h0
    · cases hx
      have := hc j z hj
      rw [Addr.add_lit, Nat.zero_add] at this
      exact ⟨g, rfl, this⟩
theorem elI : Try.prog.elem 42 = 3 := by kernel_rfl
theorem szI (w : World) : (sizeOf 3).run Try.prog w = .ok 1 w := by kernel_rfl
theorem undI : Try.prog.underlying 42 = some (.slice (Try.prog.elem 42)) := by rw [elI]; exact Try.underlying42
/-- Where a cut begins. -/
def cutI (a : Option Addr) (c k : Nat) : Option Addr := if c = k then a else a.map (·.add k)
theorem toI (a : Option Addr) (n c k : Nat) (hk : k ≤ n) (hn : n ≤ c) (w : World) : (Instr.slice 42 (.slice a n c) none (some (.int .i64 (k : Int))) none).run Try.prog w = .ok (.slice a k c) w := by
  rw [run_slice_h w 42 a n c undI .i64 (k : Int) (by omega) (by omega), elI, szI]
  simp only [Result.andThen, sliced, Int.toNat_natCast]
  cases a with
  | none => simp
  | some x => by_cases h : c = 0 <;> simp [h, Addr.add_zero']
theorem fromI (a : Option Addr) (n c k : Nat) (hk : k ≤ n) (hn : n ≤ c) (w : World) : (Instr.slice 42 (.slice a n c) (some (.int .i64 (k : Int))) none none).run Try.prog w = .ok (.slice (cutI a c k) (n - k) (c - k)) w := by
  rw [run_slice_l w 42 a n c undI .i64 (k : Int) (by omega) (by omega), elI, szI]
  simp only [Result.andThen, sliced, Int.toNat_natCast, cutI]
  by_cases h : c = k
  · subst h; simp
  · rw [if_neg h, if_neg (by omega)]
    simp
theorem RdI.take {w : World} {a : Option Addr} {n c : Nat} {l : List Nat} (h : RdI w a n c l) (k : Nat) (hk : k ≤ n) : RdI w a k c (l.take k) := by
  obtain ⟨h1, h2, h3⟩ := h
  refine ⟨by rw [List.length_take]; omega, by omega, ?_⟩
  rcases h3 with ⟨e1, e2, e3⟩ | ⟨x, e1, hc⟩
  · exact .inl ⟨e1, by omega, e3⟩
  · refine .inr ⟨x, e1, fun j z hj => hc j z ?_⟩
    rw [List.getElem?_take] at hj
    split at hj
    · exact hj
    · cases hj
theorem RdI.drop {w : World} {a : Option Addr} {n c : Nat} {l : List Nat} (h : RdI w a n c l) (k : Nat) (hk : k ≤ n) : RdI w (cutI a c k) (n - k) (c - k) (l.drop k) := by
  obtain ⟨h1, h2, h3⟩ := h
  refine ⟨by rw [List.length_drop]; omega, by omega, ?_⟩
  rcases h3 with ⟨e1, e2, e3⟩ | ⟨x, e1, hc⟩
  · refine .inl ⟨?_, by omega, by omega⟩
    unfold cutI; rw [e1]; split <;> rfl
  · subst e1
    unfold cutI
    by_cases h : c = k
    · rw [if_pos h]
      refine .inr ⟨x, rfl, fun j z hj => ?_⟩
      have := (List.getElem?_eq_some_iff.1 hj).1
      rw [List.length_drop] at this
      omega
    · rw [if_neg h]
      refine .inr ⟨x.add k, rfl, fun j z hj => ?_⟩
      rw [List.getElem?_drop] at hj
      rw [Addr.add_add']
      exact hc (k + j) z hj
/-- What may be read put behind what a call owns. -/
def AppI (w : World) (B : Nat) (v : Value) (l : List Nat) (vo : Value) (w2 : World) : Prop := OwnI w2 B vo l ∧ Below B w w2 ∧ w.grownBy w2 v.ownBlock
theorem appI {w : World} {B : Nat} {v : Value} {acc l : List Nat} {a : Option Addr} {n c : Nat} (hown : OwnI w B v acc) (h : RdI w a n c l) (hlen : acc.length + n ≤ 1048576) (hB : B ≤ w.heap.size) (ty : TypeId) :
    ∃ vo w2, (Builtin.append_ #[42, 42] ty #[v, .slice a n c]).run Try.prog w = .ok vo w2 ∧ AppI w B v (acc ++ l) vo w2 := by
  obtain ⟨i0, hi, hz0, hz1, hz2⟩ := info_parts infoI
  obtain ⟨rfl, hnc, h2⟩ := h
  rcases h2 with ⟨rfl, h3, rfl⟩ | ⟨x, rfl, hc⟩
  · have hl : l = [] := List.eq_nil_of_length_eq_zero h3
    subst hl
    exact ⟨_, _, run_append_owned_none (P := Try.prog) _ B 42 ty 3 i0 1 Try.underlying42 hi _ _ _ hown, by simpa using hown, Below.refl _ _, ⟨rfl, rfl, rfl, Nat.le_refl _, fun _ _ _ => rfl⟩⟩
  · obtain ⟨vo, w2, hr, h4, h5, _⟩ := run_append_own (P := Try.prog) w B 42 ty 3 i0 (.int .i64 0) 1 8 Try.underlying42 hi hz0 hz1 hz2 rfl (by decide) v acc.length (acc.map cI) hown x l.length c (l.map cI) (by simp)
      (by
        intro j u hj
        rw [List.getElem?_map] at hj
        obtain ⟨z, hz, rfl⟩ := Option.map_eq_some_iff.1 hj
        exact hc j z hz)
      (by intro u hu; simp only [List.mem_map] at hu; obtain ⟨z, _, rfl⟩ := hu; exact oneI z)
      (by unfold maxLen; omega) (by omega) hB
    refine ⟨vo, w2, hr, ?_, below_grown0 (Below.refl _ _) hB hown h5, h5⟩
    show w2.ownsRow _ _ _ _ (acc ++ l).length _
    rw [List.length_append, List.map_append]
    exact h4
theorem madeI (w : World) (B : Nat) (hB : B ≤ w.heap.size) : OwnI (w.alloc (.cells #[] 3)) B (.slice (some ⟨w.heap.size, 0, none⟩) 0 0) [] := by
  have := World.ownsRow_made (e := 3) (size := 1) (base := B) w #[] 0 hB (by simp [maxLen]) (by simp)
  exact this
theorem layI (w : World) (z : Nat) : RdI (w.alloc (.cells #[cI z] 3)) (some ⟨w.heap.size, 0, none⟩) 1 1 [z] := by
  refine ⟨rfl, Nat.le_refl _, .inr ⟨_, rfl, fun j y hj => ?_⟩⟩
  have hj0 : j = 0 := by have := (List.getElem?_eq_some_iff.1 hj).1; simpa using this
  subst hj0
  simp at hj
  rw [← hj]
  exact cell_blk (heap_alloc_new w _) rfl
theorem NetO.appI {w0 w w' : World} {B b sd : Nat} {ls : List L3} {v vo : Value} {acc l : List Nat} (h : NetO w0 B w b sd ls) (ho : OwnI w B v acc) (ha : AppI w B v l vo w') : NetO w0 B w' b sd ls := by
  obtain ⟨v', ⟨xs, hx, hm⟩, h2, h3, h4, h5⟩ := h
  obtain ⟨_, hb, hg⟩ := ha
  have hne : ∀ (q : Nat) (cur : Array Value) (t : TypeId) (m : Nat × Nat), w.heap[q]? = some (.cells cur t m) → t ≠ 3 → w'.heap[q]? = w.heap[q]? := fun q cur t m hq ht => hg.block q (lt_blk hq) (fun e => by
    obtain ⟨_, c2, hc⟩ := ho.block e.symm
    exact type_ne hq hc ht rfl)
  refine ⟨v', ⟨xs, hx.keep (hne b _ _ _ hx.blk (by decide)) (fun g hgg => by obtain ⟨cur, hc⟩ := hx.row.block hgg; exact hne g _ _ _ hc (by decide)) (fun g cur hc => hne g _ _ _ hc (by decide)), hm⟩, h2.trans hb, h3, h4, Nat.le_trans h5 hb.size⟩
end Go.Proofs.Ytblohegdlcpipaa
