/- Where a file is put. -/
import Derived.Test.YtmkgaegodemglaaDRef2
set_option linter.unusedVariables false
namespace Go.Proofs.Ytmkgaegodemglaa
open Go.RowKit

theorem less_bb : ∀ a b : Nm, Op.bytesLess a b = bytesBefore a b
  | [], [] => rfl
  | [], _ :: _ => rfl
  | _ :: _, [] => rfl
  | x :: r, y :: s => by
    have ih := less_bb r s
    unfold Op.bytesLess bytesBefore
    rw [ih]

theorem below_grownF {w w' : World} {B : Nat} {e : TypeId} {sz : Nat} {v : Value} {n : Nat} {xs : List Value} (hB : B ≤ w.heap.size) (hown : w.ownsRow B e sz v n xs) (hg : w.grownBy w' v.ownBlock) : Below B w w' := by
  refine ⟨hg.os, hg.tape, hg.output, hg.size, fun k hk => hg.block k (by omega) (fun he => ?_)⟩
  rcases hown.2 with ⟨rfl, _⟩ | ⟨g, cap, cur, rfl, hB', _⟩
  · cases he
  · simp [Value.ownBlock] at he
    omega

section
variable {α : Type}
theorem insA_pos {n : Nm} {v : α} : ∀ (a b : List (Nm × α)), (∀ p ∈ a, bytesBefore p.1 n = true) → (∀ p ∈ b, bytesBefore n p.1 = true) → insA (n, v) (a ++ b) = a ++ (n, v) :: b
  | [], [], _, _ => rfl
  | [], y :: r, _, h => by
    show insA (n, v) (y :: r) = _
    unfold insA
    rw [if_pos (h y List.mem_cons_self)]
    rfl
  | y :: a, b, h1, h2 => by
    have hy := h1 y List.mem_cons_self
    have : bytesBefore n y.1 = false := by
      cases hc : bytesBefore n y.1
      · rfl
      · have := bb_trans _ _ _ hy hc
        rw [bb_irrefl] at this; cases this
    show insA (n, v) (y :: (a ++ b)) = _
    unfold insA
    rw [if_neg (by rw [this]; decide), insA_pos a b (fun p hp => h1 p (List.mem_cons_of_mem _ hp)) h2]
    rfl
theorem putA_pos {n : Nm} {v : α} {l : List (Nm × α)} (h : Rises l) (k : Nat) (h1 : ∀ (j : Nat) (p : Nm × α), j < k → l[j]? = some p → bytesBefore p.1 n = true) (h2 : ∀ p : Nm × α, l[k]? = some p → bytesBefore p.1 n = false) :
    (∀ u, l[k]? = some (n, u) → putA n v l = l.set k (n, v)) ∧ ((∀ p : Nm × α, l[k]? = some p → p.1 ≠ n) → putA n v l = l.take k ++ (n, v) :: l.drop k) := by
  constructor
  · intro u hu
    obtain ⟨hl, he⟩ := List.getElem?_eq_some_iff.1 hu
    have e : l = l.take k ++ (n, u) :: l.drop (k + 1) := by
      rw [← he, ← List.drop_eq_getElem_cons hl, List.take_append_drop]
    have e2 : putA n v l = l.take k ++ (n, v) :: l.drop (k + 1) := by
      rw [e] at h
      have := putA_at (v := v) _ _ h
      rw [← e] at this
      exact this
    rw [e2, List.set_eq_take_append_cons_drop, if_pos hl]
  · intro hne
    have ha : ∀ p ∈ l.take k, bytesBefore p.1 n = true := by
      intro p hp
      obtain ⟨j, hj⟩ := List.mem_iff_getElem?.1 hp
      rw [List.getElem?_take] at hj
      split at hj
      · exact h1 j p (by assumption) hj
      · cases hj
    have hb : ∀ p ∈ l.drop k, bytesBefore n p.1 = true := by
      intro p hp
      have hk : k < l.length := by
        rcases Nat.lt_or_ge k l.length with h | h
        · exact h
        · rw [List.drop_eq_nil_of_le h] at hp; cases hp
      have hk0 : l[k]? = some l[k] := List.getElem?_eq_getElem hk
      have q1 : bytesBefore n (l[k]).1 = true := bb_total _ _ (hne _ hk0) (h2 _ hk0)
      rw [List.drop_eq_getElem_cons hk] at hp
      rcases List.mem_cons.1 hp with rfl | hp
      · exact q1
      · have hr : Rises (l.drop k) := h.sublist (List.drop_sublist _ _)
        rw [List.drop_eq_getElem_cons hk] at hr
        exact bb_trans _ _ _ q1 ((List.pairwise_cons.1 hr).1 p hp)
    have hd : delA n l = l := by
      refine delA_none fun p hp e => ?_
      have : p ∈ l.take k ++ l.drop k := by rw [List.take_append_drop]; exact hp
      rcases List.mem_append.1 this with q | q
      · have := ha p q; rw [e, bb_irrefl] at this; cases this
      · have := hb p q; rw [e, bb_irrefl] at this; cases this
    unfold putA
    rw [hd]
    have := insA_pos (v := v) (l.take k) (l.drop k) ha hb
    rwa [List.take_append_drop] at this
end

/-! ### rows of files, taken apart and put together -/
theorem infoF14 : (Try.prog.info? 71).map (fun i => (i.zero, i.size, i.bytes)) = some (some (.agg #[.string ⟨#[]⟩, .slice none 0 0, .int .i64 0]), 3, 48) := by kernel_rfl

/-- A row of files that may be read. -/
def FRow (w : World) (a : Option Addr) (len : Nat) (l : FV) : Prop :=
  l.length = len ∧ ((a = none ∧ len = 0) ∨ ∃ x, a = some x ∧ ∀ j u, (rkCells l)[j]? = some u → w.cell? (x.add j) = some u)
theorem FRow.below {w w' : World} {a : Option Addr} {len : Nat} {l : FV} (h : FRow w a len l) (hb : Below w.heap.size w w') : FRow w' a len l := by
  refine ⟨h.1, ?_⟩
  rcases h.2 with h2 | ⟨x, h2, hc⟩
  · exact .inl h2
  · refine .inr ⟨x, h2, fun j u hj => ?_⟩
    have := hc j u hj
    rw [hb.cell (World.block_lt_of_cell? w _ this)]
    exact this
theorem FRow.grown {w w' : World} {g : Nat} {own : Option Nat} {len : Nat} {l : FV} (h : FRow w (some ⟨g, 0, none⟩) len l) (hg : w.grownBy w' own) (hne : own ≠ some g) : FRow w' (some ⟨g, 0, none⟩) len l := by
  refine ⟨h.1, ?_⟩
  rcases h.2 with ⟨h2, _⟩ | ⟨x, h2, hc⟩
  · cases h2
  · cases h2
    refine .inr ⟨_, rfl, fun j u hj => ?_⟩
    have := hc j u hj
    have hlt := World.block_lt_of_cell? w _ this
    have e : (⟨g, 0, none⟩ : Addr).add j = ⟨g, j, none⟩ := by unfold Addr.add; split <;> simp_all
    rw [e] at this hlt ⊢
    rw [World.cell?_of_block (w := w) (hg.block g hlt (fun e => hne e.symm))]
    exact this
abbrev OwnF (w : World) (B : Nat) (v : Value) (l : FV) : Prop := w.ownsRow B 71 3 v l.length (rkCells l)
abbrev Shaped (l : FV) : Prop := ∀ q ∈ l, ∃ a n c, q.2 = Value.slice a n c

def AppF (w : World) (B : Nat) (own : Option Nat) (l : FV) (vo : Value) (w2 : World) : Prop := OwnF w2 B vo l ∧ Below B w w2 ∧ w.grownBy w2 own ∧ ∃ a m c, vo = .slice a m c ∧ m = l.length
/-- Files that may be read, put behind files that the call owns. -/
theorem app_files {w : World} {B : Nat} {v : Value} {acc l : FV} {a : Option Addr} {len cap : Nat} (hown : OwnF w B v acc) (h : FRow w a len l) (hs : Shaped l) (hlen : acc.length + len ≤ 1099511627776) (hB : B ≤ w.heap.size) (hc : a = none → cap = 0) (ty : TypeId) :
    ∃ vo w2, (Builtin.append_ #[56, 56] ty #[v, .slice a len cap]).run Try.prog w = .ok vo w2 ∧ AppF w B v.ownBlock (acc ++ l) vo w2 := by
  obtain ⟨i0, hi, hz0, hz1, hz2⟩ := info_parts infoF14
  obtain ⟨rfl, h2⟩ := h
  have fin : ∀ vo w2, OwnF w2 B vo (acc ++ l) → Below B w w2 → w.grownBy w2 v.ownBlock → AppF w B v.ownBlock (acc ++ l) vo w2 := fun vo w2 h1 h2 h3 => by
    refine ⟨h1, h2, h3, ?_⟩
    rcases h1.2 with ⟨rfl, h0⟩ | ⟨g, c, cur, rfl, _⟩
    · exact ⟨none, 0, 0, rfl, h0.symm⟩
    · exact ⟨_, _, _, rfl, rfl⟩
  rcases h2 with ⟨rfl, h3⟩ | ⟨x, rfl, hcell⟩
  · have hl : l = [] := List.eq_nil_of_length_eq_zero h3
    subst hl
    have := hc rfl
    subst this
    exact ⟨_, _, run_append_owned_none (P := Try.prog) _ B 56 ty 71 i0 3 Try.underlying56 hi _ _ _ hown, fin _ _ (by simpa using hown) (Below.refl _ _) ⟨rfl, rfl, rfl, Nat.le_refl _, fun _ _ _ => rfl⟩⟩
  · obtain ⟨vo, w2, hr, h4, h5, _⟩ := run_append_own (P := Try.prog) w B 56 ty 71 i0 (.agg #[.string ⟨#[]⟩, .slice none 0 0, .int .i64 0]) 3 48 Try.underlying56 hi hz0 hz1 hz2 rfl (by decide) v acc.length (rkCells acc) hown x l.length cap (rkCells l) (rkCells_length l)
      hcell (fun u hu => rkCells_one l u hu hs) (by unfold maxLen; omega) (by omega) hB
    refine ⟨vo, w2, hr, fin _ _ ?_ (below_grownF hB hown h5) h5⟩
    show w2.ownsRow _ _ _ _ (acc ++ l).length _
    rw [List.length_append, rkCells_append]
    exact h4

theorem slice_toF (a : Option Addr) (n c k : Nat) (hk : k ≤ n) (hn : n ≤ c) (w : World) : (Instr.slice 56 (.slice a n c) none (some (.int .i64 (k : Int))) none).run Try.prog w = .ok (.slice a k c) w := by
  have hel : Try.prog.elem 56 = 71 := by kernel_rfl
  have hsz : (sizeOf 71).run Try.prog w = .ok 3 w := by kernel_rfl
  rw [run_slice_h w 56 a n c (by rw [hel]; exact Try.underlying56) .i64 (k : Int) (by omega) (by omega), hel, hsz]
  show Result.ok (sliced a 0 (k : Int).toNat c 3) w = _
  have : (k : Int).toNat = k := by omega
  rw [this]
  unfold sliced
  cases a with
  | none => simp
  | some x =>
    have : x.add 0 = x := by unfold Addr.add; split <;> simp_all
    simp [this]
/-- Where what stands from k on begins. -/
def frA (a : Option Addr) (c k : Nat) : Option Addr := if c = k then a else a.map (·.add (k * 3))
theorem slice_fromF (a : Option Addr) (n c k : Nat) (hk : k ≤ n) (hn : n ≤ c) (w : World) : (Instr.slice 56 (.slice a n c) (some (.int .i64 (k : Int))) none none).run Try.prog w = .ok (.slice (frA a c k) (n - k) (c - k)) w := by
  have hel : Try.prog.elem 56 = 71 := by kernel_rfl
  have hsz : (sizeOf 71).run Try.prog w = .ok 3 w := by kernel_rfl
  rw [run_slice_l w 56 a n c (by rw [hel]; exact Try.underlying56) .i64 (k : Int) (by omega) (by omega), hel, hsz]
  show Result.ok (sliced a (k : Int).toNat n c 3) w = _
  have : (k : Int).toNat = k := by omega
  rw [this]
  rfl

theorem rkCells_take : ∀ (l : FV) (k j : Nat) (u : Value), (rkCells (l.take k))[j]? = some u → (rkCells l)[j]? = some u := by
  intro l k j u h
  have e : rkCells l = rkCells (l.take k) ++ rkCells (l.drop k) := by rw [← rkCells_append, List.take_append_drop]
  rw [e, List.getElem?_append_left (List.getElem?_eq_some_iff.1 h).1]
  exact h
theorem rkCells_drop : ∀ (l : FV) (k j : Nat) (u : Value), k ≤ l.length → (rkCells (l.drop k))[j]? = some u → (rkCells l)[k * 3 + j]? = some u := by
  intro l k j u hk h
  have e : rkCells l = rkCells (l.take k) ++ rkCells (l.drop k) := by rw [← rkCells_append, List.take_append_drop]
  have hl : (rkCells (l.take k)).length = k * 3 := by rw [rkCells_length, List.length_take]; congr 1; omega
  rw [e, List.getElem?_append_right (by omega), hl]
  rw [show k * 3 + j - k * 3 = j by omega]
  exact h
/-- The disk's row of files, and pieces of it. -/
theorem RkW.frow {w : World} {b : Nat} {S : Nat → Prop} {l : FV} {d : Dk} {a : Option Addr} {n c : Nat} (h : RkW w b S (.slice a n c) l d) : n = l.length ∧ n ≤ c ∧ (a = none → c = 0) ∧ (∀ k, k ≤ n → FRow w a k (l.take k)) ∧ ∀ k, k ≤ n → FRow w (frA a c k) (n - k) (l.drop k) := by
  rcases h.row.2 with ⟨h1, h0⟩ | ⟨g, cap, cur, h1, hB, hg, hnc, hcm, hcs, hx⟩
  · have e1 : n = 0 := congrArg (fun v => match v with | Value.slice _ n _ => n | _ => 0) h1
    have e2 : c = 0 := congrArg (fun v => match v with | Value.slice _ _ c => c | _ => 0) h1
    have e3 : a = none := congrArg (fun v => match v with | Value.slice a _ _ => a | _ => none) h1
    subst e1 e2 e3
    have hl : l = [] := List.eq_nil_of_length_eq_zero h0
    subst hl
    refine ⟨rfl, Nat.le_refl _, fun _ => rfl, fun k hk => ?_, fun k hk => ?_⟩
    · have : k = 0 := by omega
      subst this
      exact ⟨rfl, .inl ⟨rfl, rfl⟩⟩
    · have : k = 0 := by omega
      subst this
      exact ⟨rfl, .inl ⟨rfl, rfl⟩⟩
  · have e1 : n = l.length := congrArg (fun v => match v with | Value.slice _ n _ => n | _ => 0) h1
    have e2 : c = cap := congrArg (fun v => match v with | Value.slice _ _ c => c | _ => 0) h1
    have e3 : a = some ⟨g, 0, none⟩ := congrArg (fun v => match v with | Value.slice a _ _ => a | _ => none) h1
    subst e2 e3
    have cc : ∀ j u, (rkCells l)[j]? = some u → w.cell? ⟨g, j, none⟩ = some u := by
      intro j u hj
      rw [← hx, List.getElem?_take] at hj
      split at hj
      · exact cell_blk hg (by simpa using hj)
      · cases hj
    have ad : ∀ o j, (⟨g, o, none⟩ : Addr).add j = ⟨g, o + j, none⟩ := fun o j => by unfold Addr.add; split <;> simp_all
    refine ⟨e1, by omega, (fun h => nomatch h), fun k hk => ⟨by rw [List.length_take]; omega, .inr ⟨_, rfl, fun j u hj => ?_⟩⟩, fun k hk => ⟨by rw [List.length_drop, ← e1], ?_⟩⟩
    · rw [ad, Nat.zero_add]
      exact cc j u (rkCells_take l k j u hj)
    · unfold frA
      by_cases hck : c = k
      · rw [if_pos hck]
        refine .inr ⟨_, rfl, fun j u hj => ?_⟩
        have : l.drop k = [] := List.drop_eq_nil_of_le (by omega)
        rw [this] at hj
        cases hj
      · rw [if_neg hck]
        refine .inr ⟨_, rfl, fun j u hj => ?_⟩
        show w.cell? (((⟨g, 0, none⟩ : Addr).add (k * 3)).add j) = some u
        rw [ad, ad, Nat.zero_add]
        exact cc _ u (rkCells_drop l k j u (by omega) hj)
theorem RkW.shaped {w : World} {b : Nat} {S : Nat → Prop} {fs : Value} {l : FV} {d : Dk} (h : RkW w b S fs l d) : Shaped l := fun q hq => by
  obtain ⟨a, c, e⟩ := own_slice (h.bytes q hq)
  exact ⟨a, _, c, e⟩
theorem frA_none {a : Option Addr} {c k : Nat} (h : a = none → c = 0) : frA a c k = none → c - k = 0 := by
  intro e
  unfold frA at e
  cases a with
  | none => have := h rfl; omega
  | some x => split at e <;> cases e
end Go.Proofs.Ytmkgaegodemglaa
