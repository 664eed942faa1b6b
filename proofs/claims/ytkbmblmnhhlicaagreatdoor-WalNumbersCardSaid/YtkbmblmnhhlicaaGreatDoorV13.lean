/- Several texts in one. -/
import Derived.Test.YtkbmblmnhhlicaaGreatDoorV20
import Derived.Test.YtkbmblmnhhlicaaGreatDoorV08
set_option linter.unusedVariables false
/- A log, and a row of texts of a law's own beside it. -/
namespace Go.Proofs.YtkbmblmnhhlicaaGreatDoor
open Go.RowKit

theorem info_str : (Tryz.prog.info? 9).map (fun i => (i.zero, i.size, i.bytes)) = some (some (.string ⟨#[]⟩), 1, 16) := by kernel_rfl
structure AlS (w0 : World) (b m p : Nat) (d : Dk) (L : List Sg) (v : Value) (xs : List Nm) (w : World) : Prop where
  lg : LgS w0 b m p d L (fun k => v.ownBlock = some k) w
  own : OwnS w w0.heap.size v xs
theorem AlS.kps {w0 : World} {b m p p' : Nat} {d d' : Dk} {L L' : List Sg} {v : Value} {xs : List Nm} {w w' : World} (h : AlS w0 b m p d L v xs w) (hl : LgS w0 b m p' d' L' (fun k => v.ownBlock = some k) w') (hk : Kps (fun k => v.ownBlock = some k) w w') : AlS w0 b m p' d' L' v xs w' := ⟨hl, h.own.keep (fun g hg => hk.2 g hg)⟩
theorem AlS.below {w0 : World} {b m p : Nat} {d : Dk} {L : List Sg} {v : Value} {xs : List Nm} {w w' : World} (h : AlS w0 b m p d L v xs w) (hb : Below w.heap.size w w') : AlS w0 b m p d L v xs w' :=
  h.kps (h.lg.same hb).1 (h.lg.same hb).2
/-- A text more. -/
def PushedS (w : World) (v : Value) (xs : List Nm) (x : Nm) (B : Nat) (vo : Value) (w2 : World) : Prop := OwnS w2 B vo (xs ++ [x]) ∧ w.grownBy w2 v.ownBlock ∧ ∀ g, vo.ownBlock = some g → v.ownBlock = some g ∨ w.heap.size ≤ g
theorem append_text {w : World} {B : Nat} {v : Value} {xs : List Nm} (h : OwnS w B v xs) (hB : B ≤ w.heap.size) (y : Addr) (c : Nat) (x : Nm) (hx : w.cell? y = some (strN x)) (hl : xs.length + 1 ≤ 1048577) (ty : TypeId) :
    ∃ vo w2, (Builtin.append_ #[42, 42] ty #[v, .slice (some y) 1 c]).run Tryz.prog w = .ok vo w2 ∧ PushedS w v xs x B vo w2 := by
  obtain ⟨i0, hi, hz0, hz1, hz2⟩ := info_parts info_str
  obtain ⟨vo, w2, hr, h4, h5, _, h6⟩ := run_append_own_at (P := Tryz.prog) w B 42 ty 9 i0 (.string ⟨#[]⟩) 1 16 Tryz.underlying42 hi hz0 hz1 hz2 rfl (by decide) v xs.length (nmCells xs) h y 1 c [strN x] rfl
    (by
      intro j u hj
      have hj0 : j = 0 := by
        have := (List.getElem?_eq_some_iff.1 hj).1
        simpa using this
      subst hj0
      simp at hj
      rw [← hj, Addr.add_zero']
      exact hx)
    (by intro u hu; simp at hu; rw [hu]; rfl) (by unfold maxLen; omega) (by omega) hB
  refine ⟨vo, w2, hr, ?_, h5, ?_⟩
  · show w2.ownsRow _ _ _ _ (xs ++ [x]).length _
    rw [List.length_append, (show nmCells (xs ++ [x]) = nmCells xs ++ [strN x] from List.map_append)]
    exact h4
  · intro g hg
    rcases h6 with e | e
    · exact .inl (e ▸ hg)
    · rw [e] at hg
      exact .inr (by have := Option.some.inj hg; omega)
theorem AlS.push {w0 : World} {b m p : Nat} {d : Dk} {L : List Sg} {v vo : Value} {xs : List Nm} {x : Nm} {w w2 : World} (h : AlS w0 b m p d L v xs w) (hp : PushedS w v xs x w0.heap.size vo w2) : AlS w0 b m p d L vo (xs ++ [x]) w2 := by
  obtain ⟨h1, h2, h3⟩ := hp
  refine ⟨h.lg.own (G' := fun k => vo.ownBlock = some k) ⟨h2.os, h2.tape, h2.output, h2.size, fun k hk hn => h2.block k hk (fun e => hn e.symm)⟩ (fun k hk => (h.own.lt hk).1) (fun k hk => ⟨(h1.lt hk).2, h3 k hk⟩), h1⟩
/-- The first texts. -/
theorem ownS_take {w : World} {B : Nat} {a : Option Addr} {n c : Nat} {xs : List Nm} (h : OwnS w B (.slice a n c) xs) (k : Nat) (hk : k ≤ xs.length) (hne : xs ≠ []) : OwnS w B (.slice a k c) (xs.take k) := by
  have hl : (xs.take k).length = k := by rw [List.length_take]; omega
  rcases h.2 with ⟨_, h0⟩ | ⟨g, cap, cur, hv, hB, hg, h1, h2, h3, h4⟩
  · exact absurd (List.eq_nil_of_length_eq_zero h0) hne
  · have ea : a = some ⟨g, 0, none⟩ := congrArg (fun v => match v with | Value.slice a _ _ => a | _ => a) hv
    have ec : c = cap := congrArg (fun v => match v with | Value.slice _ _ c => c | _ => c) hv
    subst ea ec
    refine ⟨by simp [nmCells], .inr ⟨g, c, cur, by rw [hl], hB, hg, by omega, h2, h3, ?_⟩⟩
    rw [hl]
    have e1 : nmCells (xs.take k) = (nmCells xs).take k := by simp [nmCells, List.map_take]
    rw [e1, ← h4, List.take_take, Nat.mul_one, Nat.mul_one, Nat.min_eq_left hk]
theorem AlS.cut {w0 : World} {b m p : Nat} {d : Dk} {L : List Sg} {a : Option Addr} {n c : Nat} {xs : List Nm} {w : World} (h : AlS w0 b m p d L (.slice a n c) xs w) (k : Nat) (hk : k ≤ xs.length) (hne : xs ≠ []) : AlS w0 b m p d L (.slice a k c) (xs.take k) w := by
  obtain ⟨S, T, vs, q, h1, h2, h3⟩ := h.lg
  exact ⟨⟨S, T, vs, q, h1, h2, fun j hj => h3 j (ob_same hj)⟩, ownS_take h.own k hk hne⟩
end Go.Proofs.YtkbmblmnhhlicaaGreatDoor

/- A row of texts of a law's own, which may begin anywhere in its block, beside a log. -/
namespace Go.Proofs.YtkbmblmnhhlicaaGreatDoor
open Go.RowKit

def OwnO (w : World) (B : Nat) (v : Value) (xs : List Nm) : Prop :=
  (v = .slice none 0 0 ∧ xs = []) ∨ ∃ g o cap cur, v = .slice (some ⟨g, o, none⟩) xs.length cap ∧ B ≤ g ∧ w.heap[g]? = some (.cells cur 9 (0, 0)) ∧ xs.length ≤ cap ∧ cap ≤ maxLen ∧ o + cap ≤ cur.size ∧ (cur.toList.drop o).take xs.length = nmCells xs
theorem OwnO.nil (w : World) (B : Nat) : OwnO w B (.slice none 0 0) [] := .inl ⟨rfl, rfl⟩
theorem OwnO.of {w : World} {B : Nat} {v : Value} {xs : List Nm} (h : OwnS w B v xs) : OwnO w B v xs := by
  rcases h.2 with ⟨h1, h0⟩ | ⟨g, cap, cur, h1, hB, hg, hnc, hcm, hcs, hx⟩
  · exact .inl ⟨h1, List.eq_nil_of_length_eq_zero h0⟩
  · exact .inr ⟨g, 0, cap, cur, h1, hB, hg, hnc, hcm, by omega, by rw [List.drop_zero]; simpa using hx⟩
theorem OwnO.shape {w : World} {B : Nat} {v : Value} {xs : List Nm} (h : OwnO w B v xs) : ∃ a c, v = .slice a xs.length c ∧ xs.length ≤ c ∧ c ≤ maxLen := by
  rcases h with ⟨rfl, rfl⟩ | ⟨g, o, cap, cur, rfl, hB, hg, hnc, hcm, rest⟩
  · exact ⟨none, 0, rfl, Nat.le_refl _, Nat.zero_le _⟩
  · exact ⟨_, cap, rfl, hnc, hcm⟩
theorem OwnO.lt {w : World} {B : Nat} {v : Value} {xs : List Nm} (h : OwnO w B v xs) {g : Nat} (hg : v.ownBlock = some g) : B ≤ g ∧ g < w.heap.size := by
  rcases h with ⟨rfl, _⟩ | ⟨g', o, cap, cur, rfl, hB, hgg, _⟩
  · cases hg
  · simp [Value.ownBlock] at hg
    subst hg
    exact ⟨hB, (Array.getElem?_eq_some_iff.1 hgg).1⟩
theorem OwnO.keep {w w' : World} {B : Nat} {v : Value} {xs : List Nm} (h : OwnO w B v xs) (hk : ∀ g, v.ownBlock = some g → w'.heap[g]? = w.heap[g]?) : OwnO w' B v xs := by
  rcases h with hn | ⟨g, o, cap, cur, hv, hB, hgg, rest⟩
  · exact .inl hn
  · exact .inr ⟨g, o, cap, cur, hv, hB, (hk g (by rw [hv]; rfl)).trans hgg, rest⟩
theorem OwnO.cells {w : World} {B g o n c : Nat} {xs : List Nm} (h : OwnO w B (.slice (some ⟨g, o, none⟩) n c) xs) : ∀ j u, (nmCells xs)[j]? = some u → w.cell? ((⟨g, o, none⟩ : Addr).add j) = some u := by
  intro j u hj
  rcases h with ⟨h1, _⟩ | ⟨g', o', cap, cur, h1, hB, hg, hnc, hcm, hcs, hx⟩
  · cases h1
  · have ea : (⟨g, o, none⟩ : Addr) = ⟨g', o', none⟩ := Option.some.inj (congrArg (fun v => match v with | Value.slice a _ _ => a | _ => none) h1)
    have e1 : g = g' := congrArg Addr.block ea
    have e2 : o = o' := by injection ea
    subst e1 e2
    rw [show (⟨g, o, none⟩ : Addr).add j = ⟨g, o + j, none⟩ from by unfold Addr.add; split <;> simp_all]
    rw [← hx, List.getElem?_take] at hj
    split at hj
    · rw [List.getElem?_drop, Array.getElem?_toList] at hj
      exact cell_blk hg hj
    · cases hj
theorem OwnO.at {w : World} {B : Nat} {a : Option Addr} {n c : Nat} {xs : List Nm} (h : OwnO w B (.slice a n c) xs) {i : Nat} {x : Nm} (hi : xs[i]? = some x) : ∃ g o, a = some ⟨g, o, none⟩ ∧ g < w.heap.size ∧ w.cell? ⟨g, o + i, none⟩ = some (strN x) := by
  have hc := fun (g o : Nat) (ha : a = some ⟨g, o, none⟩) => OwnO.cells (g := g) (o := o) (by rw [← ha]; exact h) i (strN x) (by simp [nmCells, encStr, hi])
  rcases h with ⟨h1, h0⟩ | ⟨g, o, cap, cur, h1, hB, hg, hnc, hcm, hcs, hx⟩
  · rw [h0] at hi; cases hi
  · have e3 : a = some ⟨g, o, none⟩ := congrArg (fun v => match v with | Value.slice a _ _ => a | _ => none) h1
    refine ⟨g, o, e3, (Array.getElem?_eq_some_iff.1 hg).1, ?_⟩
    have := hc g o e3
    rwa [show (⟨g, o, none⟩ : Addr).add i = ⟨g, o + i, none⟩ from by unfold Addr.add; split <;> simp_all] at this

/-- A text more. -/
def PushedO (w : World) (v : Value) (xs : List Nm) (x : Nm) (B : Nat) (vo : Value) (w2 : World) : Prop := OwnO w2 B vo (xs ++ [x]) ∧ w.grownBy w2 v.ownBlock ∧ ∀ g, vo.ownBlock = some g → v.ownBlock = some g ∨ w.heap.size ≤ g
theorem append_textO {w : World} {B : Nat} {v : Value} {xs : List Nm} (h : OwnO w B v xs) (hB : B ≤ w.heap.size) (y : Addr) (c : Nat) (x : Nm) (hx : w.cell? y = some (strN x)) (hl : xs.length + 1 ≤ 1048577) (ty : TypeId) :
    ∃ vo w2, (Builtin.append_ #[42, 42] ty #[v, .slice (some y) 1 c]).run Tryz.prog w = .ok vo w2 ∧ PushedO w v xs x B vo w2 := by
  have hcells := fun (g o n c : Nat) (hv : v = .slice (some ⟨g, o, none⟩) n c) => OwnO.cells (g := g) (o := o) (n := n) (c := c) (by rw [← hv]; exact h)
  rcases h with ⟨rfl, rfl⟩ | ⟨g, o, cap, cur, rfl, hBg, hg, hnc, hcm, hcs, hxs⟩
  · obtain ⟨vo, w2, h1, h2, h3, h4⟩ := append_text (w := w) (B := B) (v := .slice none 0 0) (xs := []) ⟨rfl, .inl ⟨rfl, rfl⟩⟩ hB y c x hx (by simp) ty
    exact ⟨vo, w2, h1, OwnO.of h2, h3, h4⟩
  · obtain ⟨i0, hi, hz0, hz1, hz2⟩ := info_parts info_str
    have hnews : ∀ j u, [strN x][j]? = some u → w.cell? (y.add j) = some u := by
      intro j u hj
      have hj0 : j = 0 := by
        have := (List.getElem?_eq_some_iff.1 hj).1
        simpa using this
      subst hj0
      simp at hj
      rw [← hj, Addr.add_zero']
      exact hx
    have h1 : ∀ u ∈ [strN x], u.oneCell' = true := by intro u hu; simp at hu; rw [hu]; rfl
    have hnl : (nmCells xs).length = xs.length := by simp [nmCells]
    by_cases hroom : xs.length + 1 ≤ cap
    · have hf := run_firstCells_some (P := Tryz.prog) w i0.size 1 y 1 c [strN x] (by rw [hz1]; rfl) hnews
      have hst := run_storeCells_at Tryz.prog g (o + xs.length) 9 [strN x] 0 cur w hg (by simp; omega) h1
      simp only [Nat.add_zero] at hst
      have hr : (Builtin.append_ #[42, 42] ty #[.slice (some ⟨g, o, none⟩) xs.length cap, .slice (some y) 1 c]).run Tryz.prog w = .ok (.slice (some ⟨g, o, none⟩) (xs.length + 1) cap) (w.setRow g (cur.toList.take (o + xs.length) ++ [strN x] ++ cur.toList.drop (o + xs.length + [strN x].length)).toArray) := by
        rw [hz1] at hf
        have ha : ((⟨g, o, none⟩ : Addr).add (xs.length * 1)) = ⟨g, o + xs.length, none⟩ := by unfold Addr.add; split <;> simp_all
        simp [Builtin.append_, run_underlying Tryz.underlying42, sizeOf, typeInfo, hi, hz1, Builtin.lenOf, hroom, hf, hst, Addr.add_lit]
      refine ⟨_, _, hr, .inr ⟨g, o, cap, _, by simp, hBg, setRow_heap w g cur _ 9 _ hg, by simpa using hroom, hcm, ?_, ?_⟩, ⟨rfl, rfl, rfl, by simp, fun k _ hk => setRow_other w g k _ (fun e => hk (by simp [Value.ownBlock, e]))⟩, fun g' hg' => .inl hg'⟩
      · simp only [List.size_toArray, List.length_append, List.length_take, List.length_drop, Array.length_toList, List.length_singleton]
        omega
      · have e1 : (xs ++ [x]).length = xs.length + 1 := by simp
        have e2 : nmCells (xs ++ [x]) = nmCells xs ++ [strN x] := List.map_append
        have e3 : (cur.toList.take (o + xs.length)).length = o + xs.length := by
          have hcl : cur.toList.length = cur.size := Array.length_toList
          rw [List.length_take, hcl]; omega
        rw [e1, e2, ← hxs, List.append_assoc, List.drop_append, e3, show o - (o + xs.length) = 0 by omega, List.drop_zero, List.drop_take, show o + xs.length - o = xs.length by omega, ← List.append_assoc]
        have e4 : (((cur.toList.drop o).take xs.length) ++ [strN x]).length = xs.length + 1 := by rw [List.length_append, hxs, hnl]; rfl
        exact List.take_left' e4
    · have holds : ∀ j u, (nmCells xs)[j]? = some u → w.cell? ((⟨g, o, none⟩ : Addr).add j) = some u := hcells g o _ _ rfl
      have hr := run_append_grow (P := Tryz.prog) w 42 ty 9 i0 (.string ⟨#[]⟩) Tryz.underlying42 hi hz0 ⟨g, o, none⟩ xs.length cap (nmCells xs) (by rw [hnl, hz1, Nat.mul_one]) holds y 1 c [strN x] (by rw [hz1]; rfl) hnews (by omega) (by omega) (growslice_fits (by omega) (by rw [hz2]; omega))
      have hge := grownCap_ge w (xs.length + 1) cap 9
      have hcm2 : grownCap w (xs.length + 1) cap 9 ≤ maxLen := grownCap_le_maxLen w (xs.length + 1) cap 9 (by unfold maxLen; omega)
      refine ⟨_, _, hr, .inr ⟨w.heap.size, 0, _, _, by simp, hB, heap_alloc_new w.drew _, by simpa using hge, hcm2, ?_, ?_⟩, ⟨rfl, rfl, rfl, by simp, fun k hk _ => heap_alloc_old w.drew _ hk⟩, fun g' hg' => .inr ?_⟩
      · simp only [Array.size_append, List.size_toArray, size_zeroCells, hnl]
        simp only [Value.cells, List.length_cons, List.length_nil, List.size_toArray]
        omega
      · have e1 : (xs ++ [x]).length = xs.length + 1 := by simp
        have e2 : nmCells (xs ++ [x]) = nmCells xs ++ [strN x] := List.map_append
        rw [List.drop_zero, e1, e2]
        simp only [Array.toList_append]
        exact List.take_left' (by rw [List.length_append, hnl]; rfl)
      · simp [Value.ownBlock] at hg'
        omega
/-- The first texts; the last ones. -/
theorem ownO_take {w : World} {B : Nat} {a : Option Addr} {n c : Nat} {xs : List Nm} (h : OwnO w B (.slice a n c) xs) (k : Nat) (hk : k ≤ xs.length) : OwnO w B (.slice a k c) (xs.take k) := by
  have hl : (xs.take k).length = k := by rw [List.length_take]; omega
  rcases h with ⟨h1, h0⟩ | ⟨g, o, cap, cur, hv, hB, hg, h1, h2, h3, h4⟩
  · subst h0
    have ea : a = none := congrArg (fun v => match v with | Value.slice a _ _ => a | _ => none) h1
    have ec : c = 0 := congrArg (fun v => match v with | Value.slice _ _ c => c | _ => 0) h1
    have : k = 0 := by simpa using hk
    subst ea ec this
    exact .inl ⟨rfl, rfl⟩
  · have ea : a = some ⟨g, o, none⟩ := congrArg (fun v => match v with | Value.slice a _ _ => a | _ => a) hv
    have ec : c = cap := congrArg (fun v => match v with | Value.slice _ _ c => c | _ => c) hv
    subst ea ec
    refine .inr ⟨g, o, c, cur, by rw [hl], hB, hg, by omega, h2, h3, ?_⟩
    rw [hl]
    have e1 : nmCells (xs.take k) = (nmCells xs).take k := by simp [nmCells, List.map_take]
    rw [e1, ← h4, List.take_take, Nat.min_eq_left hk]
theorem ownO_drop {w : World} {B : Nat} {a : Option Addr} {n c : Nat} {xs : List Nm} (h : OwnO w B (.slice a n c) xs) (k : Nat) (hk : k ≤ xs.length) : OwnO w B (sliced a k xs.length c 1) (xs.drop k) := by
  have hl : (xs.drop k).length = xs.length - k := List.length_drop
  rcases h with ⟨h1, h0⟩ | ⟨g, o, cap, cur, hv, hB, hg, h1, h2, h3, h4⟩
  · subst h0
    have ea : a = none := congrArg (fun v => match v with | Value.slice a _ _ => a | _ => none) h1
    have ec : c = 0 := congrArg (fun v => match v with | Value.slice _ _ c => c | _ => 0) h1
    have : k = 0 := by simpa using hk
    subst ea ec this
    exact .inl ⟨rfl, rfl⟩
  · have ea : a = some ⟨g, o, none⟩ := congrArg (fun v => match v with | Value.slice a _ _ => a | _ => a) hv
    have ec : c = cap := congrArg (fun v => match v with | Value.slice _ _ c => c | _ => c) hv
    subst ea ec
    have e1 : nmCells (xs.drop k) = (nmCells xs).drop k := by simp [nmCells, List.map_drop]
    unfold sliced
    by_cases hck : c = k
    · rw [if_pos hck]
      refine .inr ⟨g, o, c - k, cur, by rw [hl], hB, hg, by omega, by omega, by omega, ?_⟩
      have hz : xs.length - k = 0 := by omega
      have : xs.drop k = [] := List.drop_of_length_le (by omega)
      rw [this]; rfl
    · rw [if_neg hck]
      refine .inr ⟨g, o + k, c - k, cur, ?_, hB, hg, by omega, by omega, by omega, ?_⟩
      · rw [hl]
        have : (⟨g, o, none⟩ : Addr).add (k * 1) = ⟨g, o + k, none⟩ := by unfold Addr.add; split <;> simp_all
        rw [Option.map_some, this]
      · rw [hl, e1, ← h4, List.drop_take, List.drop_drop]
theorem slice_toO (a : Option Addr) (n c k : Nat) (hk : k ≤ n) (hn : n ≤ c) (w : World) : (Instr.slice 42 (.slice a n c) none (some (.int .i64 (k : Int))) none).run Tryz.prog w = .ok (.slice a k c) w := by
  have hel : Tryz.prog.elem 42 = 9 := by kernel_rfl
  have hsz : (sizeOf 9).run Tryz.prog w = .ok 1 w := by kernel_rfl
  rw [run_slice_h w 42 a n c (by rw [hel]; exact Tryz.underlying42) .i64 (k : Int) (by omega) (by omega), hel, hsz]
  show Result.ok (sliced a 0 (k : Int).toNat c 1) w = _
  have : (k : Int).toNat = k := by omega
  rw [this]
  cases a <;> simp [sliced, Addr.add] <;> (try split) <;> simp_all
theorem slice_fromS (a : Option Addr) (n c k : Nat) (hk : k ≤ n) (hn : n ≤ c) (w : World) : (Instr.slice 42 (.slice a n c) (some (.int .i64 (k : Int))) none none).run Tryz.prog w = .ok (sliced a k n c 1) w := by
  have hel : Tryz.prog.elem 42 = 9 := by kernel_rfl
  have hsz : (sizeOf 9).run Tryz.prog w = .ok 1 w := by kernel_rfl
  rw [run_slice_l w 42 a n c (by rw [hel]; exact Tryz.underlying42) .i64 (k : Int) (by omega) (by omega), hel, hsz]
  show Result.ok (sliced a (k : Int).toNat n c 1) w = _
  rw [show (k : Int).toNat = k by omega]

/-- A log, beside it a row of texts, and blocks E of others. -/
structure AlO (E : Nat → Prop) (w0 : World) (b m p : Nat) (d : Dk) (L : List Sg) (v : Value) (xs : List Nm) (w : World) : Prop where
  lg : LgS w0 b m p d L (fun k => v.ownBlock = some k ∨ E k) w
  own : OwnO w w0.heap.size v xs
  ap : ∀ k, E k → v.ownBlock ≠ some k ∧ w0.heap.size ≤ k
/-- The blocks of others are as they were. -/
def KE (E : Nat → Prop) (w w' : World) : Prop := ∀ k, E k → w'.heap[k]? = w.heap[k]?
theorem AlO.kps {E : Nat → Prop} {w0 : World} {b m p p' : Nat} {d d' : Dk} {L L' : List Sg} {v : Value} {xs : List Nm} {w w' : World} (h : AlO E w0 b m p d L v xs w) (hl : LgS w0 b m p' d' L' (fun k => v.ownBlock = some k ∨ E k) w') (hk : Kps (fun k => v.ownBlock = some k ∨ E k) w w') : AlO E w0 b m p' d' L' v xs w' := ⟨hl, h.own.keep (fun g hg => hk.2 g (.inl hg)), h.ap⟩
theorem ke_kps {E : Nat → Prop} {v : Value} {w w' : World} (hk : Kps (fun k => v.ownBlock = some k ∨ E k) w w') : KE E w w' := fun k hE => hk.2 k (.inr hE)
theorem AlO.below {E : Nat → Prop} {w0 : World} {b m p : Nat} {d : Dk} {L : List Sg} {v : Value} {xs : List Nm} {w w' : World} (h : AlO E w0 b m p d L v xs w) (hb : Below w.heap.size w w') : AlO E w0 b m p d L v xs w' ∧ KE E w w' :=
  ⟨h.kps (h.lg.same hb).1 (h.lg.same hb).2, ke_kps (h.lg.same hb).2⟩
theorem AlO.push {E : Nat → Prop} {w0 : World} {b m p : Nat} {d : Dk} {L : List Sg} {v vo : Value} {xs : List Nm} {x : Nm} {w w2 : World} (h : AlO E w0 b m p d L v xs w) (hp : PushedO w v xs x w0.heap.size vo w2) : AlO E w0 b m p d L vo (xs ++ [x]) w2 ∧ KE E w w2 := by
  obtain ⟨h1, h2, h3⟩ := hp
  have hlt : ∀ k, E k → k < w.heap.size := fun k hk => h.lg.lt k (.inr hk)
  refine ⟨⟨h.lg.own (G' := fun k => vo.ownBlock = some k ∨ E k) ⟨h2.os, h2.tape, h2.output, h2.size, fun k hk hn => h2.block k hk (fun e => hn (.inl e.symm))⟩ (fun k hk => hk.elim (fun e => (h.own.lt e).1) (fun e => (h.ap k e).2)) (fun k hk => ?_), h1, fun k hk => ⟨fun e => ?_, (h.ap k hk).2⟩⟩, fun k hk => h2.block k (hlt k hk) (fun e => (h.ap k hk).1 e.symm)⟩
  · rcases hk with hk | hk
    · exact ⟨(h1.lt hk).2, (h3 k hk).elim (fun e => .inl (.inl e)) .inr⟩
    · exact ⟨Nat.lt_of_lt_of_le (hlt k hk) h2.size, .inl (.inr hk)⟩
  · rcases h3 k e with e | e
    · exact (h.ap k hk).1 e
    · have := hlt k hk; omega
/-- Another slice of the same block, or none. -/
theorem AlO.cut {E : Nat → Prop} {w0 : World} {b m p : Nat} {d : Dk} {L : List Sg} {v v' : Value} {xs ys : List Nm} {w : World} (h : AlO E w0 b m p d L v xs w) (hs : ∀ k, v'.ownBlock = some k → v.ownBlock = some k) (ho : OwnO w w0.heap.size v' ys) : AlO E w0 b m p d L v' ys w := by
  obtain ⟨S, T, vs, q, h1, h2, h3⟩ := h.lg
  exact ⟨⟨S, T, vs, q, h1, h2, fun j hj => h3 j (hj.imp (hs j) id)⟩, ho, fun k hk => ⟨fun e => (h.ap k hk).1 (hs k e), (h.ap k hk).2⟩⟩
/-- A block more, that was just made; none. -/
theorem AlO.guest {w0 : World} {b m p : Nat} {d : Dk} {L : List Sg} {v : Value} {xs : List Nm} {w : World} (h : AlO NoG w0 b m p d L v xs w) (o : Obj) : AlO (fun k => k = w.heap.size) w0 b m p d L v xs (w.alloc o) := by
  have hb : Below w.heap.size w (w.alloc o) := (Below.refl _ w).alloc (Nat.le_refl _) o
  have hs := h.lg.bel.size
  refine ⟨h.lg.own (Fr.of_below _ hb) (fun k hk => hk.elim (fun e => (h.own.lt e).1) (fun e => e.elim)) (fun k hk => ?_), (h.below hb).1.own, fun k hk => ⟨fun e => ?_, by omega⟩⟩
  · rcases hk with hk | hk
    · exact ⟨Nat.lt_of_lt_of_le (h.own.lt hk).2 hb.size, .inl (.inl hk)⟩
    · subst hk; exact ⟨by simp, .inr (Nat.le_refl _)⟩
  · have := (h.own.lt e).2; omega
theorem AlO.alone {E : Nat → Prop} {w0 : World} {b m p : Nat} {d : Dk} {L : List Sg} {v : Value} {xs : List Nm} {w : World} (h : AlO E w0 b m p d L v xs w) : AlO NoG w0 b m p d L v xs w := by
  obtain ⟨S, T, vs, q, h1, h2, h3⟩ := h.lg
  exact ⟨⟨S, T, vs, q, h1, h2, fun j hj => h3 j (hj.elim .inl (fun e => e.elim))⟩, h.own, fun k hk => hk.elim⟩
theorem ob_sliced {a : Option Addr} {n c k l : Nat} {g : Nat} (h : (sliced a k l c 1).ownBlock = some g) : (Value.slice a n c).ownBlock = some g := by
  unfold sliced at h
  split at h
  · exact ob_same h
  · cases a with
    | none => exact h
    | some x =>
      have hb : (x.add (k * 1)).block = x.block := by unfold Addr.add; split <;> rfl
      simp only [Option.map_some, Value.ownBlock] at h ⊢
      rw [← h, hb]
end Go.Proofs.YtkbmblmnhhlicaaGreatDoor
