/- Several texts in one. -/
import Derived.Test.YtoaabghignilfaaGreatDoorVAll
import Derived.Test.YtoaabghignilfaaGreatDoorWDmg15
import Derived.Test.YtoaabghignilfaaGreatDoorVRefC
set_option linter.unusedVariables false
/- A log, and beside it a row of texts and a row of rows of bytes of a law's own. -/
namespace Go.Proofs.YtoaabghignilfaaGreatDoor
open Go.RowKit

abbrev OwnA (w : World) (B : Nat) (v : Value) (vs : List Value) : Prop := w.ownsRow B 34 1 v vs.length vs
abbrev VLs := List (Value × List UInt8)
theorem info_rowB : (Tryz.prog.info? 34).map (fun i => (i.zero, i.size, i.bytes)) = some (some (.slice none 0 0), 1, 24) := by kernel_rfl
theorem owns_type {w : World} {B : Nat} {e : TypeId} {s : Nat} {v : Value} {n : Nat} {xs : List Value} (h : w.ownsRow B e s v n xs) {g : Nat} (hg : v.ownBlock = some g) : ∃ cur, w.heap[g]? = some (.cells cur e (0, 0)) ∧ B ≤ g := by
  rcases h.2 with ⟨h1, _⟩ | ⟨g', cap, cur, hv, hB, hb, _⟩
  · rw [h1] at hg; cases hg
  · rw [hv] at hg
    cases hg
    exact ⟨cur, hb, hB⟩
theorem owns_keep {w w' : World} {B : Nat} {e : TypeId} {s : Nat} {v : Value} {n : Nat} {xs : List Value} (h : w.ownsRow B e s v n xs) (hk : ∀ g, v.ownBlock = some g → w'.heap[g]? = w.heap[g]?) : w'.ownsRow B e s v n xs := by
  refine ⟨h.1, ?_⟩
  rcases h.2 with h1 | ⟨g, cap, cur, hv, hB, hb, h4⟩
  · exact .inl h1
  · exact .inr ⟨g, cap, cur, hv, hB, (hk g (by rw [hv]; rfl)).trans hb, h4⟩
theorem owns_apart {w : World} {B B' : Nat} {e e' : TypeId} {s s' : Nat} {v v' : Value} {n n' : Nat} {xs xs' : List Value} (h : w.ownsRow B e s v n xs) (h' : w.ownsRow B' e' s' v' n' xs') (he : e ≠ e') {k : Nat} (hk : v.ownBlock = some k) (hk' : v'.ownBlock = some k) : False := by
  obtain ⟨c1, h1, _⟩ := owns_type h hk
  obtain ⟨c2, h2, _⟩ := owns_type h' hk'
  exact ne_types h1 h2 he rfl
theorem owns_lt {w : World} {B : Nat} {e : TypeId} {s : Nat} {v : Value} {n : Nat} {xs : List Value} (h : w.ownsRow B e s v n xs) {k : Nat} (hk : v.ownBlock = some k) : B ≤ k ∧ k < w.heap.size := by
  obtain ⟨c1, h1, h2⟩ := owns_type h hk
  exact ⟨h2, lt_blk h1⟩

/-- The blocks of all that. -/
def GsO (nv av : Value) (q : VLs) (k : Nat) : Prop := nv.ownBlock = some k ∨ av.ownBlock = some k ∨ ∃ x ∈ q, x.1.ownBlock = some k
structure SgS (w0 : World) (b m p : Nat) (d : Dk) (L : List Sg) (nv : Value) (xs : List Nm) (av : Value) (q : VLs) (w : World) : Prop where
  lg : LgS w0 b m p d L (GsO nv av q) w
  nm : OwnS w w0.heap.size nv xs
  al : OwnA w w0.heap.size av (q.map (·.1))
  rs : ∀ x ∈ q, OwnB w w0.heap.size x.1 x.2
  ap : q.Pairwise (fun x y => ∀ k, x.1.ownBlock = some k → y.1.ownBlock ≠ some k)
theorem SgS.lt {w0 : World} {b m p : Nat} {d : Dk} {L : List Sg} {nv : Value} {xs : List Nm} {av : Value} {q : VLs} {w : World} (h : SgS w0 b m p d L nv xs av q w) {k : Nat} (hk : GsO nv av q k) : w0.heap.size ≤ k ∧ k < w.heap.size := by
  rcases hk with hk | hk | ⟨x, hx, hk⟩
  · exact owns_lt h.nm hk
  · exact owns_lt h.al hk
  · exact owns_lt (h.rs x hx) hk
theorem SgS.kps {w0 : World} {b m p p' : Nat} {d d' : Dk} {L L' : List Sg} {nv : Value} {xs : List Nm} {av : Value} {q : VLs} {w w' : World} (h : SgS w0 b m p d L nv xs av q w) (hl : LgS w0 b m p' d' L' (GsO nv av q) w') (hk : Kps (GsO nv av q) w w') : SgS w0 b m p' d' L' nv xs av q w' :=
  ⟨hl, owns_keep h.nm (fun g hg => hk.2 g (.inl hg)), owns_keep h.al (fun g hg => hk.2 g (.inr (.inl hg))), fun x hx => owns_keep (h.rs x hx) (fun g hg => hk.2 g (.inr (.inr ⟨x, hx, hg⟩))), h.ap⟩
theorem SgS.below {w0 : World} {b m p : Nat} {d : Dk} {L : List Sg} {nv : Value} {xs : List Nm} {av : Value} {q : VLs} {w w' : World} (h : SgS w0 b m p d L nv xs av q w) (hb : Below w.heap.size w w') : SgS w0 b m p d L nv xs av q w' :=
  h.kps (h.lg.same hb).1 (h.lg.same hb).2
theorem SgS.bel {w0 : World} {b m p : Nat} {d : Dk} {L : List Sg} {nv : Value} {xs : List Nm} {av : Value} {q : VLs} {w : World} (h : SgS w0 b m p d L nv xs av q w) : Below w0.heap.size w0 w := h.lg.bel
theorem fr_grown {w w2 : World} {v : Value} (h : w.grownBy w2 v.ownBlock) {G : Nat → Prop} (hG : ∀ k, v.ownBlock = some k → G k) : Fr G w w2 := ⟨h.os, h.tape, h.output, h.size, fun k hk hn => h.block k hk (fun e => hn (hG k e.symm))⟩

/-- A name more. -/
theorem SgS.name {w0 : World} {b m p : Nat} {d : Dk} {L : List Sg} {nv vo : Value} {xs : List Nm} {x : Nm} {av : Value} {q : VLs} {w w2 : World} (h : SgS w0 b m p d L nv xs av q w) (hp : PushedS w nv xs x w0.heap.size vo w2) : SgS w0 b m p d L vo (xs ++ [x]) av q w2 := by
  obtain ⟨h1, h2, h3⟩ := hp
  have hst : ∀ k, k < w.heap.size → nv.ownBlock ≠ some k → w2.heap[k]? = w.heap[k]? := fun k hk hn => h2.block k hk (fun e => hn e.symm)
  have ha : ∀ k, av.ownBlock = some k → w2.heap[k]? = w.heap[k]? := fun k hk => hst k (owns_lt h.al hk).2 (fun e => owns_apart h.nm h.al (by decide) e hk)
  have hr : ∀ y ∈ q, ∀ k, y.1.ownBlock = some k → w2.heap[k]? = w.heap[k]? := fun y hy k hk => hst k (owns_lt (h.rs y hy) hk).2 (fun e => owns_apart h.nm (h.rs y hy) (by decide) e hk)
  refine ⟨h.lg.own (fr_grown h2 (fun k hk => .inl hk)) (fun k hk => (h.lt hk).1) (fun k hk => ?_), h1, owns_keep h.al ha, fun y hy => owns_keep (h.rs y hy) (hr y hy), h.ap⟩
  rcases hk with hk | hk | ⟨y, hy, hk⟩
  · refine ⟨(owns_lt h1 hk).2, ?_⟩
    rcases h3 k hk with e | e
    · exact .inl (.inl e)
    · exact .inr e
  · exact ⟨Nat.lt_of_lt_of_le (owns_lt h.al hk).2 h2.size, .inl (.inr (.inl hk))⟩
  · exact ⟨Nat.lt_of_lt_of_le (owns_lt (h.rs y hy) hk).2 h2.size, .inl (.inr (.inr ⟨y, hy, hk⟩))⟩

/-- A row more. -/
def PushedA (w : World) (v : Value) (vs : List Value) (x : Value) (B : Nat) (vo : Value) (w2 : World) : Prop := OwnA w2 B vo (vs ++ [x]) ∧ w.grownBy w2 v.ownBlock ∧ ∀ g, vo.ownBlock = some g → v.ownBlock = some g ∨ w.heap.size ≤ g
theorem append_rowA {w : World} {B : Nat} {v : Value} {vs : List Value} (h : OwnA w B v vs) (hB : B ≤ w.heap.size) (y : Addr) (c : Nat) (x : Value) (hx1 : x.oneCell' = true) (hx : w.cell? y = some x) (hl : vs.length + 1 ≤ 1048577) (ty : TypeId) :
    ∃ vo w2, (Builtin.append_ #[39, 39] ty #[v, .slice (some y) 1 c]).run Tryz.prog w = .ok vo w2 ∧ PushedA w v vs x B vo w2 := by
  obtain ⟨i0, hi, hz0, hz1, hz2⟩ := info_parts info_rowB
  obtain ⟨vo, w2, hr, h4, h5, _, h6⟩ := run_append_own_at (P := Tryz.prog) w B 39 ty 34 i0 (.slice none 0 0) 1 24 Tryz.underlying39 hi hz0 hz1 hz2 rfl (by decide) v vs.length vs h y 1 c [x] rfl
    (by
      intro j u hj
      have hj0 : j = 0 := by
        have := (List.getElem?_eq_some_iff.1 hj).1
        simpa using this
      subst hj0
      simp at hj
      rw [← hj, Addr.add_zero']
      exact hx)
    (by intro u hu; simp at hu; rw [hu]; exact hx1) (by unfold maxLen; omega) (by omega) hB
  refine ⟨vo, w2, hr, ?_, h5, ?_⟩
  · show w2.ownsRow _ _ _ _ (vs ++ [x]).length _
    rw [List.length_append]
    exact h4
  · intro g hg
    rcases h6 with e | e
    · exact .inl (e ▸ hg)
    · rw [e] at hg
      exact .inr (by have := Option.some.inj hg; omega)
theorem wpList_push_row {ops : Array Oper} {rest : List Oper} {o : Oper} {a : Act} {Q : Exit → Act → World → Prop} {w : World} {B : Nat} {v : Value} {vs : List Value} (h : OwnA w B v vs) (hB : B ≤ w.heap.size) (x : Value) (hx1 : x.oneCell' = true) (y : Addr) (c : Nat) (hx : w.cell? y = some x) (hl : vs.length + 1 ≤ 1048577) (hgd : o.guard = none) (s t : Operand)
    (ho : o.op = .call { callee := .builtin .append, args := #[s, t], argTypes := #[39, 39] }) (hs : a.eval s = v) (ht : a.eval t = .slice (some y) 1 c)
    (h2 : ∀ vo w2, PushedA w v vs x B vo w2 → wpList Tryz.prog ops Q rest (a.put o.dst vo) w2) : wpList Tryz.prog ops Q (o :: rest) a w := by
  refine wpList_plain hgd fun K hK => ?_
  obtain ⟨vo, w2, hr, hp⟩ := append_rowA h hB y c x hx1 hx hl o.type
  unfold Oper.wp execOp
  simp only [ho, resolve, invoke, builtin, Sem.run_bind, Sem.run_pure, Result.andThen_ok, List.map_toArray, List.map_cons, List.map_nil, hs, ht, hr]
  exact hK _ _ (h2 vo w2 hp)
theorem SgS.row {w0 : World} {b m p : Nat} {d : Dk} {L : List Sg} {nv vo : Value} {xs : List Nm} {av : Value} {q : VLs} {w w2 : World} (h : SgS w0 b m p d L nv xs av q w) (hp : PushedA w av (q.map (·.1)) (.slice none 0 0) w0.heap.size vo w2) : SgS w0 b m p d L nv xs vo (q ++ [(.slice none 0 0, [])]) w2 := by
  obtain ⟨h1, h2, h3⟩ := hp
  have hst : ∀ k, k < w.heap.size → av.ownBlock ≠ some k → w2.heap[k]? = w.heap[k]? := fun k hk hn => h2.block k hk (fun e => hn e.symm)
  have ha : ∀ k, nv.ownBlock = some k → w2.heap[k]? = w.heap[k]? := fun k hk => hst k (owns_lt h.nm hk).2 (fun e => owns_apart h.nm h.al (by decide) hk e)
  have hr : ∀ y ∈ q, ∀ k, y.1.ownBlock = some k → w2.heap[k]? = w.heap[k]? := fun y hy k hk => hst k (owns_lt (h.rs y hy) hk).2 (fun e => owns_apart h.al (h.rs y hy) (by decide) e hk)
  refine ⟨h.lg.own (fr_grown h2 (fun k hk => .inr (.inl hk))) (fun k hk => (h.lt hk).1) (fun k hk => ?_), owns_keep h.nm ha, by rw [List.map_append]; exact h1, fun y hy => ?_, ?_⟩
  · rcases hk with hk | hk | ⟨y, hy, hk⟩
    · exact ⟨Nat.lt_of_lt_of_le (owns_lt h.nm hk).2 h2.size, .inl (.inl hk)⟩
    · refine ⟨(owns_lt h1 hk).2, ?_⟩
      rcases h3 k hk with e | e
      · exact .inl (.inr (.inl e))
      · exact .inr e
    · rcases List.mem_append.1 hy with hy | hy
      · exact ⟨Nat.lt_of_lt_of_le (owns_lt (h.rs y hy) hk).2 h2.size, .inl (.inr (.inr ⟨y, hy, hk⟩))⟩
      · rw [List.mem_singleton.1 hy] at hk; cases hk
  · rcases List.mem_append.1 hy with hy | hy
    · exact owns_keep (h.rs y hy) (hr y hy)
    · rw [List.mem_singleton.1 hy]; exact own_nil _ _
  · refine List.pairwise_append.2 ⟨h.ap, List.pairwise_singleton _ _, fun x hx y hy k hk e => ?_⟩
    rw [List.mem_singleton.1 hy] at e; cases e

/-- Bytes are put behind the last row's. -/
theorem append_bytes {w : World} {B : Nat} {v : Value} {acc l : List UInt8} (hown : OwnB w B v acc) {x : Addr} {len cap : Nat} (h : BRow w (some x) len cap l) (hlen : acc.length + len ≤ 140737488355328) (hB : B ≤ w.heap.size) (ty : TypeId) :
    ∃ vo w2, (Builtin.append_ #[34, 34] ty #[v, .slice (some x) len cap]).run Tryz.prog w = .ok vo w2 ∧ OwnB w2 B vo (acc ++ l) ∧ w.grownBy w2 v.ownBlock ∧ ∀ g, vo.ownBlock = some g → v.ownBlock = some g ∨ w.heap.size ≤ g := by
  obtain ⟨i0, hi, hz0, hz1, hz2⟩ := info_parts info5
  obtain ⟨rfl, h2⟩ := h
  rcases h2 with ⟨h2, _⟩ | ⟨x', hx', hc⟩
  · cases h2
  · cases hx'
    obtain ⟨vo, w2, hr, h4, h5, _, h6⟩ := run_append_own_at (P := Tryz.prog) w B 34 ty 5 i0 (.int .u8 0) 1 1 Tryz.underlying34 hi hz0 hz1 hz2 rfl (by decide) v acc.length (Lib.byteCells acc) hown x l.length cap (Lib.byteCells l) (by rw [Lib.byteCells_length]; omega)
      (by
        intro j u hj
        have hjl : j < l.length := by
          have := (List.getElem?_eq_some_iff.1 hj).1
          rwa [Lib.byteCells_length] at this
        simp [Lib.byteCells, hjl] at hj
        rw [← hj]; exact hc j hjl)
      (by intro u hu; simp only [Lib.byteCells, List.mem_map] at hu; obtain ⟨_, _, rfl⟩ := hu; rfl)
      (by unfold maxLen; omega) (by omega) hB
    refine ⟨vo, w2, hr, own_push h4 rfl rfl, h5, fun g hg => ?_⟩
    rcases h6 with e | e
    · exact .inl (e ▸ hg)
    · rw [e] at hg
      exact .inr (by have := Option.some.inj hg; omega)
theorem own_setA {w : World} {B g n c : Nat} {vs : List Value} (h : OwnA w B (.slice (some ⟨g, 0, none⟩) n c) vs) (k : Nat) (hk : k < vs.length) (x : Value) : OwnA (w.setCell ⟨g, k, none⟩ x) B (.slice (some ⟨g, 0, none⟩) n c) (vs.set k x) := by
  rcases h with ⟨h0, ⟨h1, _⟩ | ⟨g', cap, cur, h1, h2, h3, h4, h5, h6, h7⟩⟩
  · cases h1
  · have e2 : c = cap := congrArg (fun v => match v with | Value.slice _ _ c => c | _ => 0) h1
    have e3 : g = g' := congrArg (fun v => match v with | Value.slice (some a) _ _ => a.block | _ => 0) h1
    subst e2 e3
    refine ⟨by simp, .inr ⟨g, c, _, by rw [h1]; simp, h2, set_blk h3 k _, by simpa using h4, h5, by simpa using h6, ?_⟩⟩
    rw [Array.toList_setIfInBounds, List.length_set, List.take_set, h7]
theorem SgS.grow {w0 : World} {b m p g n c : Nat} {d : Dk} {L : List Sg} {nv v vo : Value} {xs : List Nm} {q : VLs} {l f : List UInt8} {w w2 w3 : World} (h : SgS w0 b m p d L nv xs (.slice (some ⟨g, 0, none⟩) n c) (q ++ [(v, l)]) w)
    (ho : OwnB w2 w0.heap.size vo (l ++ f)) (hg : w.grownBy w2 v.ownBlock) (hb : ∀ k, vo.ownBlock = some k → v.ownBlock = some k ∨ w.heap.size ≤ k) (hw : w3 = w2.setCell ⟨g, q.length, none⟩ vo) :
    SgS w0 b m p d L nv xs (.slice (some ⟨g, 0, none⟩) n c) (q ++ [(vo, l ++ f)]) w3 := by
  have hv : OwnB w w0.heap.size v l := h.rs (v, l) (by simp)
  have hga : (Value.slice (some ⟨g, 0, none⟩) n c).ownBlock = some g := rfl
  have hst : ∀ k, k < w.heap.size → v.ownBlock ≠ some k → k ≠ g → w3.heap[k]? = w.heap[k]? := fun k hk hn hkg => by
    rw [hw, set_other _ hkg]
    exact hg.block k hk (fun e => hn e.symm)
  have hgk : ∀ k, v.ownBlock = some k → k ≠ g := fun k hk e => owns_apart hv h.al (by decide) hk (by rw [e]; rfl)
  have hA2 : OwnA w2 w0.heap.size (.slice (some ⟨g, 0, none⟩) n c) ((q ++ [(v, l)]).map (·.1)) := owns_keep h.al (fun k hk => hg.block k (owns_lt h.al hk).2 (fun e => by
    have : k = g := (Option.some.inj hk).symm
    exact hgk k e.symm this))
  have hA3 := own_setA hA2 q.length (by simp) vo
  rw [← hw] at hA3
  have hset : ((q ++ [(v, l)]).map (·.1)).set q.length vo = (q ++ [(vo, l ++ f)]).map (·.1) := by simp
  rw [hset] at hA3
  have hvg : ∀ k, vo.ownBlock = some k → k ≠ g := fun k hk e => by
    rcases hb k hk with e2 | e2
    · exact hgk k e2 e
    · have := (owns_lt h.al hga).2; omega
  have hz : w3.heap.size = w2.heap.size := by rw [hw, set_size]
  have hq : ∀ y ∈ q, ∀ k, y.1.ownBlock = some k → w3.heap[k]? = w.heap[k]? := fun y hy k hk => hst k (owns_lt (h.rs y (by simp [hy])) hk).2 (fun e => (List.pairwise_append.1 h.ap).2.2 y hy (v, l) (by simp) k hk e) (fun e => owns_apart (h.rs y (by simp [hy])) h.al (by decide) hk (by rw [e]; rfl))
  have hn : ∀ k, nv.ownBlock = some k → w3.heap[k]? = w.heap[k]? := fun k hk => hst k (owns_lt h.nm hk).2 (fun e => owns_apart h.nm hv (by decide) hk e) (fun e => owns_apart h.nm h.al (by decide) hk (by rw [e]; rfl))
  have hfr : Fr (GsO nv (.slice (some ⟨g, 0, none⟩) n c) (q ++ [(v, l)])) w w3 := by
    have h1 : Fr (GsO nv (.slice (some ⟨g, 0, none⟩) n c) (q ++ [(v, l)])) w w2 := fr_grown hg (fun k hk => .inr (.inr ⟨(v, l), by simp, hk⟩))
    rw [hw]
    exact h1.set (p := ⟨g, q.length, none⟩) (.inr (.inl hga)) _
  refine ⟨h.lg.own hfr (fun k hk => (h.lt hk).1) (fun k hk => ?_), owns_keep h.nm hn, ?_, fun y hy => ?_, ?_⟩
  · rcases hk with hk | hk | ⟨y, hy, hk⟩
    · exact ⟨Nat.lt_of_lt_of_le (owns_lt h.nm hk).2 hfr.size, .inl (.inl hk)⟩
    · exact ⟨Nat.lt_of_lt_of_le (owns_lt h.al hk).2 hfr.size, .inl (.inr (.inl hk))⟩
    · rcases List.mem_append.1 hy with hy | hy
      · exact ⟨Nat.lt_of_lt_of_le (owns_lt (h.rs y (by simp [hy])) hk).2 hfr.size, .inl (.inr (.inr ⟨y, by simp [hy], hk⟩))⟩
      · rw [List.mem_singleton.1 hy] at hk
        refine ⟨by rw [hz]; exact (owns_lt ho hk).2, ?_⟩
        rcases hb k hk with e | e
        · exact .inl (.inr (.inr ⟨(v, l), by simp, e⟩))
        · exact .inr e
  · exact hA3
  · rcases List.mem_append.1 hy with hy | hy
    · exact owns_keep (h.rs y (by simp [hy])) (hq y hy)
    · rw [List.mem_singleton.1 hy]
      exact owns_keep ho (fun k hk => by rw [hw, set_other _ (hvg k hk)])
  · refine List.pairwise_append.2 ⟨(List.pairwise_append.1 h.ap).1, List.pairwise_singleton _ _, fun x hx y hy k hk e => ?_⟩
    rw [List.mem_singleton.1 hy] at e
    rcases hb k e with e2 | e2
    · exact (List.pairwise_append.1 h.ap).2.2 x hx (v, l) (by simp) k hk e2
    · have := (owns_lt (h.rs x (by simp [hx])) hk).2
      omega
end Go.Proofs.YtoaabghignilfaaGreatDoor

/- A log beside rows of a law's own: the calls. -/
namespace Go.Proofs.YtoaabghignilfaaGreatDoor
open Go.RowKit

/-- append of a text to a row of a law's own. -/
theorem wpList_push_name {ops : Array Oper} {rest : List Oper} {o : Oper} {a : Act} {Q : Exit → Act → World → Prop} {w : World} {B : Nat} {v : Value} {xs : List Nm} (h : OwnS w B v xs) (hB : B ≤ w.heap.size) (x : Nm) (y : Addr) (c : Nat) (hx : w.cell? y = some (strN x)) (hl : xs.length + 1 ≤ 1048577) (hgd : o.guard = none) (s t : Operand)
    (ho : o.op = .call { callee := .builtin .append, args := #[s, t], argTypes := #[46, 46] }) (hs : a.eval s = v) (ht : a.eval t = .slice (some y) 1 c)
    (h2 : ∀ vo w2, PushedS w v xs x B vo w2 → wpList Tryz.prog ops Q rest (a.put o.dst vo) w2) : wpList Tryz.prog ops Q (o :: rest) a w := by
  refine wpList_plain hgd fun K hK => ?_
  obtain ⟨vo, w2, hr, hp⟩ := append_text h hB y c x hx hl o.type
  unfold Oper.wp execOp
  simp only [ho, resolve, invoke, builtin, Sem.run_bind, Sem.run_pure, Result.andThen_ok, List.map_toArray, List.map_cons, List.map_nil, hs, ht, hr]
  exact hK _ _ (h2 vo w2 hp)

theorem LgS.sub {w0 : World} {b m p : Nat} {d : Dk} {L : List Sg} {G G' : Nat → Prop} {w : World} (h : LgS w0 b m p d L G w) (hs : ∀ k, G' k → G k) : LgS w0 b m p d L G' w := by
  obtain ⟨S, T, vs, q, h1, h2, h3⟩ := h
  exact ⟨S, T, vs, q, h1, h2, fun k hk => h3 k (hs k hk)⟩
/-- A row of one cell that was just laid. -/
theorem owns_new {w0 w : World} (v : Value) (e : TypeId) (hw : w0.heap.size ≤ w.heap.size) : (w.alloc (.cells #[v] e)).ownsRow w0.heap.size e 1 (.slice (some ⟨w.heap.size, 0, none⟩) 1 1) 1 [v] := by
  refine ⟨rfl, .inr ⟨w.heap.size, 1, #[v], rfl, hw, heap_alloc_new _ _, Nat.le_refl _, by unfold maxLen; omega, rfl, rfl⟩⟩
theorem sgStart {w0 : World} {b m p : Nat} {d : Dk} {L : List Sg} {w w5 : World} (h : LgS w0 b m p d L NoG w) (hb : Below w.heap.size w w5) (x : Nm) :
    SgS w0 b m p d L (.slice (some ⟨w5.heap.size, 0, none⟩) 1 1) [x] (.slice (some ⟨w5.heap.size + 1, 0, none⟩) 1 1) [(.slice none 0 0, [])] ((w5.alloc (.cells #[strN x] 9)).alloc (.cells #[.slice none 0 0] 34)) := by
  have h0 := h.bel.size
  have h1 := hb.size
  have hz : (w5.alloc (.cells #[strN x] 9)).heap.size = w5.heap.size + 1 := by simp
  have hb2 : Below w.heap.size w ((w5.alloc (.cells #[strN x] 9)).alloc (.cells #[.slice none 0 0] 34)) := (hb.alloc h1 _).alloc (by rw [hz]; omega) _
  have hn : OwnS ((w5.alloc (.cells #[strN x] 9)).alloc (.cells #[.slice none 0 0] 34)) w0.heap.size (.slice (some ⟨w5.heap.size, 0, none⟩) 1 1) [x] := by
    have := owns_new (w0 := w0) (w := w5) (strN x) 9 (by omega)
    exact owns_keep this (fun k hk => by
      obtain rfl : w5.heap.size = k := Option.some.inj hk
      exact heap_alloc_old _ _ (by rw [hz]; omega))
  have ha : OwnA ((w5.alloc (.cells #[strN x] 9)).alloc (.cells #[.slice none 0 0] 34)) w0.heap.size (.slice (some ⟨w5.heap.size + 1, 0, none⟩) 1 1) [.slice none 0 0] := by
    have := owns_new (w0 := w0) (w := w5.alloc (.cells #[strN x] 9)) (.slice none 0 0) 34 (by rw [hz]; omega)
    rwa [hz] at this
  refine ⟨h.own (Fr.of_below _ hb2) (fun k hk => hk.elim) (fun k hk => ?_), hn, ha, fun y hy => ?_, List.pairwise_singleton _ _⟩
  · rcases hk with hk | hk | ⟨y, hy, hk⟩
    · obtain rfl : w5.heap.size = k := Option.some.inj hk
      exact ⟨(owns_lt hn rfl).2, .inr h1⟩
    · obtain rfl : w5.heap.size + 1 = k := Option.some.inj hk
      exact ⟨(owns_lt ha rfl).2, .inr (by omega)⟩
    · rw [List.mem_singleton.1 hy] at hk; cases hk
  · rw [List.mem_singleton.1 hy]; exact own_nil _ _

/-- Append, of bytes that were just laid. -/
theorem sgApp {w0 : World} {b m p : Nat} {d : Dk} {G : Gs} {g : Nat × Recs} {nv : Value} {xs : List Nm} {av : Value} {q : VLs} {w wa : World} (h : SgS w0 b m p d ((G ++ [g]).map gSg) nv xs av q w) (hs : Str d (G ++ [g])) (hb : Below w.heap.size w wa) {a : Option Addr} {n c : Nat} {l : Rec} (ho : OwnB wa w.heap.size (.slice a n c) l) (hln : l.length = n) (hl : n ≤ 8192) (hn : g.1 + g.2.length ≤ 999999) (hr : bulks (G ++ [g]) + 8200 ≤ d.room) (hs2 : bulks (G ++ [g]) + 8200 ≤ 1099511627776) (hf : (G ++ [g]).length + 1 ≤ 1048576) :
    Calls Tryz.prog 18 #[dptr p, .slice a n c] wa fun e w' => ∃ d', e = .returned (.int .i64 0) ∧ SgS w0 b m p d' ((addG G g l).map gSg) nv xs av q w' ∧ Str d' (addG G g l) ∧ d'.room = d.room ∧ OwnB w' w.heap.size (.slice a n c) l ∧ w.heap.size ≤ w'.heap.size := by
  obtain ⟨d', e1, e2, e3⟩ := hs.app (l := l) (by omega) hn (by rw [hs.used]; omega) (by rw [hs.used]; omega) (by rw [hs.count]; exact hf)
  have ha := h.below hb
  have hlg : LgS w0 b m p d ((G ++ [g]).map gSg) (fun k => GsO nv av q k ∨ (w.heap.size ≤ k ∧ k < wa.heap.size)) wa := by
    refine h.lg.own (Fr.of_below _ hb) (fun k hk => (h.lt hk).1) (fun k hk => ?_)
    rcases hk with hk | hk
    · exact ⟨(ha.lt hk).2, .inl hk⟩
    · exact ⟨hk.2, .inr hk.1⟩
  have hrow : BRow wa a n c l := by
    have := ho
    subst hln
    exact own_brow ho
  have hob : ∀ k, (Value.slice a n c).ownBlock = some k → w.heap.size ≤ k ∧ k < wa.heap.size := fun k hk => owns_lt ho hk
  have hxb : ∀ x, a = some x → (Value.slice a n c).ownBlock = some x.block := fun x hx => by
    rcases ho.2 with ⟨h1, _⟩ | ⟨g', cap, cur, h1, _⟩
    · have : a = none := congrArg (fun v => match v with | Value.slice a _ _ => a | _ => none) h1
      rw [this] at hx; cases hx
    · have : a = some ⟨g', 0, none⟩ := congrArg (fun v => match v with | Value.slice a _ _ => a | _ => none) h1
      rw [this] at hx ⊢
      cases hx; rfl
  refine (appG hlg (by simp) (fun w' hk _ => brow_keep hrow (fun x hx => hk.2 _ (.inr (hob _ (hxb x hx))))) (by omega) (by rw [lastS_gs, gSg_next]; omega) (by rw [List.length_map]; exact hf) (by rw [hs.used]; exact hs2) (by rw [hs.count]; exact hf)).mono fun e w' r => ?_
  rw [e1] at r
  have hk : Kps (GsO nv av q) wa w' := r.2.2.sub (fun k hk => .inl hk)
  exact ⟨d', r.1, ha.kps (r.2.1.sub (fun k hk => .inl hk)) hk, e2, e3, owns_keep ho (fun k hk => r.2.2.2 k (.inr (hob k hk))), Nat.le_trans hb.size r.2.2.1⟩
/-- A row of the row's. -/
theorem sgAt {w0 : World} {b m p ag n c : Nat} {d : Dk} {L : List Sg} {nv : Value} {xs : List Nm} {q : VLs} {w : World} (h : SgS w0 b m p d L nv xs (.slice (some ⟨ag, 0, none⟩) n c) q w) {i : Nat} {v : Value} {l : List UInt8} (hi : q[i]? = some (v, l)) :
    w.cell? ⟨ag, i, none⟩ = some v ∧ ∃ a c', v = .slice a l.length c' ∧ BRow w a l.length c' l := by
  have hr : OwnB w w0.heap.size v l := h.rs _ (List.mem_of_getElem? hi)
  obtain ⟨a, c', rfl⟩ := own_slice hr
  refine ⟨?_, a, c', rfl, own_brow hr⟩
  have := h.al.cells (g := ag) rfl i (.slice a l.length c') (by rw [List.getElem?_map, hi]; rfl)
  rwa [Addr.add_lit, Nat.zero_add] at this
theorem sgLen {w0 : World} {b m p n c : Nat} {ao : Option Addr} {d : Dk} {L : List Sg} {nv : Value} {xs : List Nm} {q : VLs} {w : World} (h : SgS w0 b m p d L nv xs (.slice ao n c) q w) (hq : q ≠ []) : n = q.length ∧ ∃ ag, ao = some ⟨ag, 0, none⟩ := by
  rcases h.al with ⟨h0, ⟨h1, h2⟩ | ⟨g', cap, cur, h1, h2, h3⟩⟩
  · simp at h2; exact absurd h2 hq
  · have e1 : n = (q.map (·.1)).length := congrArg (fun v => match v with | Value.slice _ n _ => n | _ => 0) h1
    exact ⟨by simpa using e1, g', congrArg (fun v => match v with | Value.slice a _ _ => a | _ => none) h1⟩
theorem nmLen {w : World} {B n c : Nat} {ao : Option Addr} {xs : List Nm} (h : OwnS w B (.slice ao n c) xs) : n = xs.length := by
  rcases h.2 with ⟨h1, h2⟩ | ⟨g', cap, cur, h1, h2, h3⟩
  · have : n = 0 := congrArg (fun v => match v with | Value.slice _ n _ => n | _ => 0) h1
    omega
  · exact congrArg (fun v => match v with | Value.slice _ n _ => n | _ => 0) h1

/-- The record of a number. -/
def recP (K i k : Nat) : Rec := (List.range K).map fun j => if j < k then UInt8.ofNat (i + j) else 0
def recW (K i : Nat) : Rec := recP K i K
theorem recP_len (K i k : Nat) : (recP K i k).length = K := by simp [recP]
theorem recP_zero (K i : Nat) : recP K i 0 = List.replicate K 0 := by
  apply List.ext_getElem
  · simp [recP]
  · intro j h1 h2; simp [recP]
theorem recP_set (K i k : Nat) (hk : k < K) : (recP K i k).set k (UInt8.ofNat (i + k)) = recP K i (k + 1) := by
  apply List.ext_getElem
  · simp [recP]
  · intro j h1 h2
    rw [List.getElem_set]
    by_cases hj : k = j
    · subst hj; simp [recP]
    · rw [if_neg hj]
      simp only [recP, List.getElem_map, List.getElem_range]
      by_cases h3 : j < k
      · rw [if_pos h3, if_pos (by omega)]
      · rw [if_neg h3, if_neg (by omega)]
def allW (K n : Nat) : Recs := (List.range n).map fun j => recW K (j + 1)
theorem allW_succ (K n : Nat) : allW K (n + 1) = allW K n ++ [recW K (n + 1)] := by
  unfold allW
  rw [List.range_succ, List.map_append]
  rfl
theorem allW_len (K n : Nat) : (allW K n).length = n := by simp [allW]

def namesG (G : Gs) : List Nm := G.map fun x => nameL x.1
def framesG (G : Gs) : List (List UInt8) := G.map fun x => framesL x.1 x.2
/-- What stands behind n records. -/
def SgI (w0 : World) (b m p K n ng : Nat) (nv av : Value) (w : World) : Prop :=
  ∃ d G g q, SgS w0 b m p d ((G ++ [g]).map gSg) nv (namesG (G ++ [g])) av q w ∧ Str d (G ++ [g]) ∧ d.room = 1099511627776 ∧ headN (G ++ [g]) = 1 ∧ allR (G ++ [g]) = allW K n ∧ ng = (G ++ [g]).length ∧ ng ≤ n + 1 ∧ bulks (G ++ [g]) = n * (8 + K) ∧ q.map (·.2) = framesG (G ++ [g])
/-- What stands where the frame is still to come, in a row that is there for it. -/
def SgJ (w0 : World) (b m p K n ng : Nat) (nv av : Value) (w : World) : Prop :=
  ∃ d G q v l, SgS w0 b m p d (G.map gSg) nv (namesG G) av (q ++ [(v, l)]) w ∧ Str d G ∧ d.room = 1099511627776 ∧ headN G = 1 ∧ allR G = allW K n ∧ ng = G.length ∧ ng ≤ n + 1 ∧ bulks G = n * (8 + K) ∧ q.map (·.2) ++ [l ++ frameL n (recW K n)] = framesG G ∧ q.length + 1 = ng ∧ l.length ≤ bulks G
end Go.Proofs.YtoaabghignilfaaGreatDoor
