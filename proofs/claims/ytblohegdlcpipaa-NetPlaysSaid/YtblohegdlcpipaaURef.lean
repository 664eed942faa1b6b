/- The document's own net in memory: its struct, its row of letters; rows of them. -/
import Derived.Test.YtblohegdlcpipaaURows
set_option linter.unusedVariables false
set_option linter.unusedSimpArgs false
namespace Go.Proofs.Ytblohegdlcpipaa
open Go.RowKit

def cR (y : L3) : List Value := [.int .i64 (y.1 : Int), .int .i64 (y.2.1 : Int), .string ⟨y.2.2.toArray⟩]
abbrev aggR (y : L3) : Value := .agg #[.int .i64 (y.1 : Int), .int .i64 (y.2.1 : Int), .string ⟨y.2.2.toArray⟩]
def flatR (l : List L3) : List Value := l.flatMap cR
theorem flatR_len (l : List L3) : (flatR l).length = l.length * 3 := by
  induction l with
  | nil => rfl
  | cons x r ih => rw [flatR, List.flatMap_cons, List.length_append, ← flatR, ih]; simp [cR]; omega
theorem flatR_append (a b : List L3) : flatR (a ++ b) = flatR a ++ flatR b := by simp [flatR]
theorem flatR_get : ∀ (l : List L3) (j : Nat) (y : L3) (q : Nat), l[j]? = some y → q < 3 → (flatR l)[j * 3 + q]? = (cR y)[q]?
  | [], j, y, q, h, _ => by simp at h
  | x :: r, 0, y, q, h, hq => by
    simp at h; subst h
    rw [flatR, List.flatMap_cons, List.getElem?_append_left (by simp [cR]; omega)]
    simp
  | x :: r, j + 1, y, q, h, hq => by
    have := flatR_get r j y q (by simpa using h) hq
    rw [flatR, List.flatMap_cons, List.getElem?_append_right (by simp [cR]; omega)]
    rw [show (j + 1) * 3 + q - (cR x).length = j * 3 + q by simp [cR]; omega]
    exact this
theorem flatR_one {l : List L3} {u : Value} (h : u ∈ flatR l) : u.oneCell' = true := by
  obtain ⟨y, _, hu⟩ := List.mem_flatMap.1 h
  simp [cR] at hu
  rcases hu with rfl | rfl | rfl <;> rfl
theorem flatR_take (l : List L3) (k : Nat) : flatR (l.take k) = (flatR l).take (k * 3) := by
  by_cases hk : k ≤ l.length
  · have h1 : flatR l = flatR (l.take k) ++ flatR (l.drop k) := by rw [← flatR_append, List.take_append_drop]
    rw [h1, List.take_left' (by rw [flatR_len, List.length_take]; congr 1; omega)]
  · rw [List.take_of_length_le (by omega), List.take_of_length_le (by rw [flatR_len]; omega)]
theorem flatR_drop (l : List L3) (k : Nat) : flatR (l.drop k) = (flatR l).drop (k * 3) := by
  by_cases hk : k ≤ l.length
  · have h1 : flatR l = flatR (l.take k) ++ flatR (l.drop k) := by rw [← flatR_append, List.take_append_drop]
    rw [h1, List.drop_left' (by rw [flatR_len, List.length_take]; congr 1; omega)]
  · rw [List.drop_of_length_le (by omega), List.drop_of_length_le (by rw [flatR_len]; omega)]; rfl
theorem infoR : (Try.prog.info? 39).map (fun i => (i.zero, i.size, i.bytes)) = some (some (.agg #[.int .i64 0, .int .i64 0, .string ⟨#[]⟩]), 3, 32) := by kernel_rfl
def OwnR (w : World) (B : Nat) (v : Value) (l : List L3) : Prop := w.ownsRow B 39 3 v l.length (flatR l)
theorem OwnR.nil (w : World) (B : Nat) : OwnR w B (.slice none 0 0) [] := World.ownsRow_nil _ _ _ _
theorem OwnR.slice {w : World} {B : Nat} {v : Value} {l : List L3} (h : OwnR w B v l) : ∃ a c, v = .slice a l.length c := by
  rcases h.2 with ⟨rfl, h0⟩ | ⟨g, cap, cur, rfl, _⟩
  · exact ⟨none, 0, by rw [h0]⟩
  · exact ⟨_, _, rfl⟩
theorem OwnR.block {w : World} {B : Nat} {v : Value} {l : List L3} (h : OwnR w B v l) {g : Nat} (hg : v.ownBlock = some g) : B ≤ g ∧ ∃ cur, w.heap[g]? = some (.cells cur 39 (0, 0)) := by
  rcases h.2 with ⟨h1, _⟩ | ⟨g', cap, cur, h1, h2, h3, _⟩
  · rw [h1] at hg; cases hg
  · rw [h1] at hg
    have : g' = g := Option.some.inj hg
    subst this
    exact ⟨h2, cur, h3⟩
theorem OwnR.keep {w w' : World} {B : Nat} {v : Value} {l : List L3} (h : OwnR w B v l) (hk : ∀ g, v.ownBlock = some g → w'.heap[g]? = w.heap[g]?) : OwnR w' B v l := by
  refine ⟨h.1, ?_⟩
  rcases h.2 with h1 | ⟨g, cap, cur, h1, h2, h3, h4⟩
  · exact .inl h1
  · exact .inr ⟨g, cap, cur, h1, h2, (hk g (by rw [h1]; rfl)).trans h3, h4⟩
theorem OwnR.below {w w' : World} {B : Nat} {v : Value} {l : List L3} (h : OwnR w B v l) (hb : Below w.heap.size w w') : OwnR w' B v l := h.keep (fun g hg => by obtain ⟨_, cur, hc⟩ := h.block hg; exact hb.block g (lt_blk hc))
theorem OwnR.low {w : World} {B B' : Nat} {v : Value} {l : List L3} (h : OwnR w B v l) (hB : B' ≤ B) : OwnR w B' v l := by
  refine ⟨h.1, ?_⟩
  rcases h.2 with h1 | ⟨g, cap, cur, h1, h2, h3⟩
  · exact .inl h1
  · exact .inr ⟨g, cap, cur, h1, Nat.le_trans hB h2, h3⟩
def RdR (w : World) (a : Option Addr) (n c : Nat) (l : List L3) : Prop := l.length = n ∧ n ≤ c ∧ ((a = none ∧ n = 0 ∧ c = 0) ∨ ∃ x, a = some x ∧ ∀ (j : Nat) (z : Value), (flatR l)[j]? = some z → w.cell? (x.add j) = some z)
theorem RdR.below {w w' : World} {a : Option Addr} {n c : Nat} {l : List L3} (h : RdR w a n c l) (hb : Below w.heap.size w w') : RdR w' a n c l := by
  refine ⟨h.1, h.2.1, ?_⟩
  rcases h.2.2 with h2 | ⟨x, h2, hc⟩
  · exact .inl h2
  · refine .inr ⟨x, h2, fun j z hj => ?_⟩
    have := hc j z hj
    rw [hb.cell (World.block_lt_of_cell? w _ this)]
    exact this
theorem RdR.grown {w w' : World} {g n c : Nat} {l : List L3} {row : Option Nat} (h : RdR w (some ⟨g, 0, none⟩) n c l) (hg : w.grownBy w' row) (hne : row ≠ some g) : RdR w' (some ⟨g, 0, none⟩) n c l := by
  refine ⟨h.1, h.2.1, ?_⟩
  rcases h.2.2 with h2 | ⟨x, h2, hc⟩
  · exact .inl h2
  · refine .inr ⟨x, h2, fun j z hj => ?_⟩
    cases h2
    have := hc j z hj
    rw [Addr.add_lit] at this ⊢
    exact hg.cell this (fun e => hne e.symm)
theorem OwnR.rd {w : World} {B n : Nat} {a : Option Addr} {c : Nat} {l : List L3} (h : OwnR w B (.slice a n c) l) : RdR w a n c l ∧ ((a = none ∧ n = 0 ∧ c = 0) ∨ ∃ g, a = some ⟨g, 0, none⟩) := by
  rcases h.2 with ⟨h1, h0⟩ | ⟨g, cap, cur, h1, h2, h3, h4, h5, h6, h7⟩
  · have e1 : a = none := congrArg (fun v => match v with | Value.slice a _ _ => a | _ => none) h1
    have e2 : n = 0 := congrArg (fun v => match v with | Value.slice _ n _ => n | _ => 0) h1
    have e3 : c = 0 := congrArg (fun v => match v with | Value.slice _ _ c => c | _ => 0) h1
    exact ⟨⟨by omega, by omega, .inl ⟨e1, e2, e3⟩⟩, .inl ⟨e1, e2, e3⟩⟩
  · have e1 : a = some ⟨g, 0, none⟩ := congrArg (fun v => match v with | Value.slice a _ _ => a | _ => none) h1
    have e2 : n = l.length := congrArg (fun v => match v with | Value.slice _ n _ => n | _ => 0) h1
    have e3 : c = cap := congrArg (fun v => match v with | Value.slice _ _ c => c | _ => 0) h1
    subst e1 e3
    refine ⟨⟨e2.symm, by omega, .inr ⟨_, rfl, fun j z hj => ?_⟩⟩, .inr ⟨g, rfl⟩⟩
    have hjl := (List.getElem?_eq_some_iff.1 hj).1
    rw [flatR_len] at hjl
    rw [Addr.add_lit, Nat.zero_add]
    rw [← h7, List.getElem?_take, if_pos (by omega), Array.getElem?_toList] at hj
    exact cell_blk h3 hj
theorem OwnR.at {w : World} {B : Nat} {v : Value} {l : List L3} (h : OwnR w B v l) {j : Nat} {y : L3} (hj : l[j]? = some y) : ∃ g c, v = .slice (some ⟨g, 0, none⟩) l.length c ∧ w.cell? ⟨g, j * 3, none⟩ = some (.int .i64 (y.1 : Int)) ∧ w.cell? ⟨g, j * 3 + 1, none⟩ = some (.int .i64 (y.2.1 : Int)) ∧ w.cell? ⟨g, j * 3 + 2, none⟩ = some (.string ⟨y.2.2.toArray⟩) := by
  have hjl := (List.getElem?_eq_some_iff.1 hj).1
  obtain ⟨a, c, rfl⟩ := h.slice
  obtain ⟨⟨h1, h2, h3⟩, h4⟩ := h.rd
  rcases h4 with ⟨_, h0, _⟩ | ⟨g, rfl⟩
  · omega
  · rcases h3 with ⟨h0, _⟩ | ⟨x, hx, hc⟩
    · cases h0
    · cases hx
      have hq : ∀ q z, q < 3 → (cR y)[q]? = some z → w.cell? ⟨g, j * 3 + q, none⟩ = some z := fun q z hq hz => by
        have := hc (j * 3 + q) z (by rw [flatR_get l j y q hj hq]; exact hz)
        rwa [Addr.add_lit, Nat.zero_add] at this
      exact ⟨g, c, rfl, hq 0 _ (by omega) rfl, hq 1 _ (by omega) rfl, hq 2 _ (by omega) rfl⟩
theorem elR : Try.prog.elem 27 = 39 := by kernel_rfl
theorem szR (w : World) : (sizeOf 39).run Try.prog w = .ok 3 w := by kernel_rfl
theorem undR : Try.prog.underlying 27 = some (.slice (Try.prog.elem 27)) := by rw [elR]; exact Try.underlying27
def cutR (a : Option Addr) (c k : Nat) : Option Addr := if c = k then a else a.map (·.add (k * 3))
theorem toR (a : Option Addr) (n c k : Nat) (hk : k ≤ n) (hn : n ≤ c) (w : World) : (Instr.slice 27 (.slice a n c) none (some (.int .i64 (k : Int))) none).run Try.prog w = .ok (.slice a k c) w := by
  rw [run_slice_h w 27 a n c undR .i64 (k : Int) (by omega) (by omega), elR, szR]
  simp only [Result.andThen, sliced, Int.toNat_natCast]
  cases a with
  | none => simp
  | some x => by_cases h : c = 0 <;> simp [h, Addr.add_zero']
theorem fromR (a : Option Addr) (n c k : Nat) (hk : k ≤ n) (hn : n ≤ c) (w : World) : (Instr.slice 27 (.slice a n c) (some (.int .i64 (k : Int))) none none).run Try.prog w = .ok (.slice (cutR a c k) (n - k) (c - k)) w := by
  rw [run_slice_l w 27 a n c undR .i64 (k : Int) (by omega) (by omega), elR, szR]
  simp only [Result.andThen, sliced, Int.toNat_natCast, cutR]
theorem RdR.take {w : World} {a : Option Addr} {n c : Nat} {l : List L3} (h : RdR w a n c l) (k : Nat) (hk : k ≤ n) : RdR w a k c (l.take k) := by
  obtain ⟨h1, h2, h3⟩ := h
  refine ⟨by rw [List.length_take]; omega, by omega, ?_⟩
  rcases h3 with ⟨e1, e2, e3⟩ | ⟨x, e1, hc⟩
  · exact .inl ⟨e1, by omega, e3⟩
  · refine .inr ⟨x, e1, fun j z hj => hc j z ?_⟩
    rw [flatR_take, List.getElem?_take] at hj
    split at hj
    · exact hj
    · cases hj
theorem RdR.drop {w : World} {a : Option Addr} {n c : Nat} {l : List L3} (h : RdR w a n c l) (k : Nat) (hk : k ≤ n) : RdR w (cutR a c k) (n - k) (c - k) (l.drop k) := by
  obtain ⟨h1, h2, h3⟩ := h
  refine ⟨by rw [List.length_drop]; omega, by omega, ?_⟩
  rcases h3 with ⟨e1, e2, e3⟩ | ⟨x, e1, hc⟩
  · refine .inl ⟨?_, by omega, by omega⟩
    unfold cutR; rw [e1]; split <;> rfl
  · subst e1
    unfold cutR
    by_cases h : c = k
    · rw [if_pos h]
      refine .inr ⟨x, rfl, fun j z hj => ?_⟩
      have := (List.getElem?_eq_some_iff.1 hj).1
      rw [flatR_len, List.length_drop] at this
      omega
    · rw [if_neg h]
      refine .inr ⟨x.add (k * 3), rfl, fun j z hj => ?_⟩
      rw [flatR_drop, List.getElem?_drop] at hj
      rw [Addr.add_add']
      exact hc (k * 3 + j) z hj
def AppR (w : World) (B : Nat) (v : Value) (l : List L3) (vo : Value) (w2 : World) : Prop := OwnR w2 B vo l ∧ Below B w w2 ∧ w.grownBy w2 v.ownBlock ∧ ∀ g, vo.ownBlock = some g → v.ownBlock = some g ∨ w.heap.size ≤ g
theorem below_grown3 {w w' : World} {B : Nat} {v : Value} {l : List L3} (hB : B ≤ w.heap.size) (hown : OwnR w B v l) (hg : w.grownBy w' v.ownBlock) : Below B w w' :=
  ⟨hg.os, hg.tape, hg.output, hg.size, fun k hk => hg.block k (by omega) (fun e => by have := (hown.block e.symm).1; omega)⟩
theorem appR {w : World} {B : Nat} {v : Value} {acc l : List L3} {a : Option Addr} {n c : Nat} (hown : OwnR w B v acc) (h : RdR w a n c l) (hlen : acc.length + n ≤ 1048576) (hB : B ≤ w.heap.size) (ty : TypeId) :
    ∃ vo w2, (Builtin.append_ #[27, 27] ty #[v, .slice a n c]).run Try.prog w = .ok vo w2 ∧ AppR w B v (acc ++ l) vo w2 := by
  obtain ⟨i0, hi, hz0, hz1, hz2⟩ := info_parts infoR
  obtain ⟨rfl, hnc, h2⟩ := h
  rcases h2 with ⟨rfl, h3, rfl⟩ | ⟨x, rfl, hc⟩
  · have hl : l = [] := List.eq_nil_of_length_eq_zero h3
    subst hl
    exact ⟨_, _, run_append_owned_none (P := Try.prog) _ B 27 ty 39 i0 3 Try.underlying27 hi _ _ _ hown, by simpa using hown, Below.refl _ _, ⟨rfl, rfl, rfl, Nat.le_refl _, fun _ _ _ => rfl⟩, fun g hg => .inl hg⟩
  · obtain ⟨vo, w2, hr, h4, h5, _, h6⟩ := run_append_own_at (P := Try.prog) w B 27 ty 39 i0 (.agg #[.int .i64 0, .int .i64 0, .string ⟨#[]⟩]) 3 32 Try.underlying27 hi hz0 hz1 hz2 rfl (by decide) v acc.length (flatR acc) hown x l.length c (flatR l) (flatR_len l)
      hc (fun u hu => flatR_one hu)
      (by unfold maxLen; omega) (by omega) hB
    refine ⟨vo, w2, hr, ?_, below_grown3 hB hown h5, h5, fun g hg => ?_⟩
    · show w2.ownsRow _ _ _ _ (acc ++ l).length _
      rw [List.length_append, flatR_append]
      exact h4
    · rcases h6 with e | e
      · exact .inl (e ▸ hg)
      · rw [e] at hg
        exact .inr (by have := Option.some.inj hg; omega)
theorem madeR (w : World) (B : Nat) (hB : B ≤ w.heap.size) : OwnR (w.alloc (.cells #[] 39)) B (.slice (some ⟨w.heap.size, 0, none⟩) 0 0) [] := by
  have := World.ownsRow_made (e := 39) (size := 3) (base := B) w #[] 0 hB (by simp [maxLen]) (by simp)
  exact this
theorem layR (w : World) (y : L3) : RdR (w.alloc (.cells #[.int .i64 (y.1 : Int), .int .i64 (y.2.1 : Int), .string ⟨y.2.2.toArray⟩] 39)) (some ⟨w.heap.size, 0, none⟩) 1 1 [y] := by
  refine ⟨rfl, Nat.le_refl _, .inr ⟨_, rfl, fun j z hj => ?_⟩⟩
  rw [Addr.add_lit, Nat.zero_add]
  exact cell_blk (heap_alloc_new w _) (by simpa [flatR, cR] using hj)

/-- The document's net in memory. -/
structure RfW (w : World) (b : Nat) (v : Value) (sd : Nat) (ls : List L3) : Prop where
  blk : w.heap[b]? = some (.cells #[v, .int .u64 (sd : Int)] 30 (0, 0))
  row : OwnR w 0 v ls
  few : ls.length ≤ 200
  side : sd < 18446744073709551616
  nod : ∀ y ∈ ls, y.1 ≤ 63 ∧ y.2.1 ≤ 63
theorem RfW.keep {w w' : World} {b : Nat} {v : Value} {sd : Nat} {ls : List L3} (h : RfW w b v sd ls) (hb : w'.heap[b]? = w.heap[b]?) (hr : ∀ g, v.ownBlock = some g → w'.heap[g]? = w.heap[g]?) : RfW w' b v sd ls := ⟨hb.trans h.blk, h.row.keep hr, h.few, h.side, h.nod⟩
theorem RfW.below {w w' : World} {b : Nat} {v : Value} {sd : Nat} {ls : List L3} (h : RfW w b v sd ls) (hb : Below w.heap.size w w') : RfW w' b v sd ls :=
  h.keep (hb.block b (lt_blk h.blk)) (fun g hg => by obtain ⟨_, cur, hc⟩ := h.row.block hg; exact hb.block g (lt_blk hc))
theorem RfW.c0 {w : World} {b : Nat} {v : Value} {sd : Nat} {ls : List L3} (h : RfW w b v sd ls) : w.cell? ⟨b, 0, none⟩ = some v := cell_blk h.blk rfl
theorem RfW.c1 {w : World} {b : Nat} {v : Value} {sd : Nat} {ls : List L3} (h : RfW w b v sd ls) : w.cell? ⟨b, 1, none⟩ = some (.int .u64 (sd : Int)) := cell_blk h.blk rfl
theorem RfW.ne {w : World} {b : Nat} {v : Value} {sd : Nat} {ls : List L3} (h : RfW w b v sd ls) {g : Nat} (hg : v.ownBlock = some g) : g ≠ b := by
  obtain ⟨_, cur, hc⟩ := h.row.block hg
  exact type_ne hc h.blk (by decide)
def RfGo (w : World) (b : Nat) (v : Value) (sd : Nat) (ls : List L3) (w' : World) : Prop := ∃ v', RfW w' b v' sd ls ∧ Fr (NetB b v) w w' ∧ ∀ g, v'.ownBlock = some g → v.ownBlock = some g ∨ w.heap.size ≤ g
theorem RfW.go {w w' : World} {b : Nat} {v : Value} {sd : Nat} {ls : List L3} (h : RfW w b v sd ls) (hb : Below w.heap.size w w') : RfGo w b v sd ls w' := ⟨v, h.below hb, Fr.of_below _ hb, fun g hg => .inl hg⟩
/-- The row is set anew. -/
theorem RfW.stored {w W2 : World} {b : Nat} {v vo : Value} {sd : Nat} {ls ys : List L3} (h : RfW w b v sd ls) (hf : Fr (fun k => v.ownBlock = some k) w W2) (ho : OwnR W2 0 vo ys) (hv : ∀ g, vo.ownBlock = some g → v.ownBlock = some g ∨ w.heap.size ≤ g) (hl : ys.length ≤ 200) (hn : ∀ y ∈ ys, y.1 ≤ 63 ∧ y.2.1 ≤ 63) : RfGo w b v sd ys (W2.setCell ⟨b, 0, none⟩ vo) := by
  have hblk := hf.at h.blk (fun e => h.ne e rfl)
  refine ⟨vo, ⟨set_blk hblk 0 vo, ho.keep (fun g hg => ?_), hl, h.side, hn⟩, Fr.set (S := NetB b v) (p := ⟨b, 0, none⟩) (hf.wide (fun k hk => Or.inr hk)) (Or.inl rfl) vo, hv⟩
  obtain ⟨_, cur, hc⟩ := ho.block hg
  exact set_other _ (type_ne hc hblk (by decide))
end Go.Proofs.Ytblohegdlcpipaa
