/- The document's disk: what a change of it leaves. -/
import Derived.Test.YtmkgaegodemglaaDRef3
import Derived.Test.YtmkgaegodemglaaROrd
import Derived.Test.YtmkgaegodemglaaDCls
set_option linter.unusedVariables false
namespace Go.Proofs.Ytmkgaegodemglaa
open Go.RowKit

theorem set_three : ∀ (l : FV) (k : Nat) (q : (Nm × Fl) × Value), k < l.length → ((((rkCells l).set (k * 3) (strN q.1.1)).set (k * 3 + 1) q.2).set (k * 3 + 2) (.int .i64 (q.1.2.la : Int))) = rkCells (l.set k q)
  | [], _, _, h => by simp at h
  | p :: l, 0, q, _ => rfl
  | p :: l, k + 1, q, h => by
    have ih := set_three l k q (by simpa using h)
    have e : (k + 1) * 3 = k * 3 + 3 := by omega
    rw [e, rkCells_cons]
    show _ = rkCells (p :: l.set k q)
    rw [rkCells_cons, ← ih]
    rfl
theorem set_self {l : FV} {k : Nat} {q : (Nm × Fl) × Value} (h : l[k]? = some q) : l.set k q = l := by
  obtain ⟨hl, he⟩ := List.getElem?_eq_some_iff.1 h
  rw [← he]; exact List.set_getElem_self hl
/-- A name stays what it is; a row of bytes, how much lasts, may be set alone. -/
theorem set_bytes {l : FV} {k : Nat} {n : Nm} {f : Fl} {v v' : Value} {bs' : List UInt8} (h : l[k]? = some ((n, f), v)) : (rkCells l).set (k * 3 + 1) v' = rkCells (l.set k ((n, ⟨bs', f.la⟩), v')) := by
  have hl : k < l.length := (List.getElem?_eq_some_iff.1 h).1
  rw [← set_three l k ((n, ⟨bs', f.la⟩), v') hl]
  obtain ⟨h0, h1, h2⟩ := rkCells_at l k _ h
  have e0 : (rkCells l).set (k * 3) (strN n) = rkCells l := by
    obtain ⟨hx, he⟩ := List.getElem?_eq_some_iff.1 h0
    rw [← he]; exact List.set_getElem_self hx
  rw [e0]
  have h2' : ((rkCells l).set (k * 3 + 1) v')[k * 3 + 2]? = some (.int .i64 (f.la : Int)) := by rw [List.getElem?_set_ne (by omega)]; exact h2
  obtain ⟨hx, he⟩ := List.getElem?_eq_some_iff.1 h2'
  simp only
  conv => rhs; rw [← he]
  exact (List.set_getElem_self hx).symm
theorem set_lasts {l : FV} {k : Nat} {n : Nm} {f : Fl} {v : Value} {la' : Nat} (h : l[k]? = some ((n, f), v)) : (rkCells l).set (k * 3 + 2) (.int .i64 (la' : Int)) = rkCells (l.set k ((n, ⟨f.bs, la'⟩), v)) := by
  have hl : k < l.length := (List.getElem?_eq_some_iff.1 h).1
  rw [← set_three l k ((n, ⟨f.bs, la'⟩), v) hl]
  obtain ⟨h0, h1, h2⟩ := rkCells_at l k _ h
  have e0 : (rkCells l).set (k * 3) (strN n) = rkCells l := by
    obtain ⟨hx, he⟩ := List.getElem?_eq_some_iff.1 h0
    rw [← he]; exact List.set_getElem_self hx
  have e1 : (rkCells l).set (k * 3 + 1) v = rkCells l := by
    obtain ⟨hx, he⟩ := List.getElem?_eq_some_iff.1 h1
    simp only at he
    conv => lhs; rw [← he]
    exact List.set_getElem_self hx
  simp only
  rw [e0, e1]

/-- More blocks may be its own. -/
theorem RkW.more {w : World} {b : Nat} {S S2 : Nat → Prop} {fs : Value} {l : FV} {d : Dk} (h : RkW w b S fs l d) (h1 : ∀ k, S k → S2 k) (h2 : ∀ k, S2 k → k < w.heap.size) : RkW w b S2 fs l d :=
  { h with sb := h1 _ h.sb, sf := fun g hg => h1 _ (h.sf g hg), sr := fun q hq g hg => h1 _ (h.sr q hq g hg), lt := h2 }

/-- What is told of a call on the document's disk. -/
def RidS (w : World) (b : Nat) (S : Nat → Prop) (d : Dk) (w' : World) : Prop := ∃ S' fs l, RkW w' b S' fs l d ∧ Fr S w w' ∧ ∀ k, S' k → S k ∨ w.heap.size ≤ k
theorem RidS.mk1 {w w' : World} {b : Nat} {S : Nat → Prop} {fs : Value} {l : FV} {d : Dk} (h : RkW w' b S fs l d) (hf : Fr S w w') : RidS w b S d w' := ⟨S, fs, l, h, hf, fun k hk => .inl hk⟩
theorem RidS.trans {w w1 w2 : World} {b : Nat} {S S1 : Nat → Prop} {d : Dk} (hf : Fr S w w1) (hs : ∀ k, S1 k → S k ∨ w.heap.size ≤ k) (h : RidS w1 b S1 d w2) : RidS w b S d w2 := by
  obtain ⟨S', fs, l, h1, h2, h3⟩ := h
  refine ⟨S', fs, l, h1, hf.trans h2 hs, fun k hk => ?_⟩
  rcases h3 k hk with h | h
  · exact hs k h
  · exact .inr (Nat.le_trans hf.size h)

/-- What a put leaves must keep to. -/
structure PutOk (d : Dk) (n : Nm) (bs : List UInt8) (la : Nat) : Prop where
  hla : la ≤ bs.length
  hn : n.length ≤ 140737488355328
  room : usedL (putA n ⟨bs, la⟩ d.files) ≤ d.room
  few : (putA n (⟨bs, la⟩ : Fl) d.files).length ≤ 1048576
  small : usedL (putA n ⟨bs, la⟩ d.files) ≤ 140737488355328
theorem PutOk.ok {d : Dk} {n : Nm} {bs : List UInt8} {la : Nat} (h : PutOk d n bs la) (hd : DkOk d) : DkOk { d with files := putA n ⟨bs, la⟩ d.files } :=
  { rises := rises_putA hd.rises, fits := h.room, room := hd.room, ahead := hd.ahead, keep := hd.keep, few := h.few, small := h.small
    lasts := fun p hp => by
      rcases mem_putA.1 hp with rfl | ⟨hp, _⟩
      · exact h.hla
      · exact hd.lasts p hp }
theorem PutOk.names {w : World} {b : Nat} {S : Nat → Prop} {fs : Value} {l : FV} {d : Dk} {n : Nm} {bs : List UInt8} {la : Nat} (h : PutOk d n bs la) (hd : RkW w b S fs l d) : ∀ p ∈ putA n (⟨bs, la⟩ : Fl) d.files, p.1.length ≤ 140737488355328 := fun p hp => by
  rcases mem_putA.1 hp with rfl | ⟨hp, _⟩
  · exact h.hn
  · exact hd.names p hp

/-- The row of files is another one, laid anew. -/
theorem RkW.newrow {W w2 : World} {b : Nat} {S : Nat → Prop} {fs v : Value} {l l' : FV} {d d' : Dk} (h : RkW W b S fs l d) (hb : Below W.heap.size W w2) (hr : OwnF w2 W.heap.size v l') (hf : l'.map (·.1) = d'.files)
    (hd : d' = { d with files := d'.files }) (hok : DkOk d') (hn : ∀ p ∈ d'.files, p.1.length ≤ 140737488355328) (hq : ∀ q ∈ l', OwnB W 0 q.2 q.1.2.bs ∧ ∀ g, q.2.ownBlock = some g → S g) :
    RidS W b S d' (w2.setCell ⟨b, 1, none⟩ v) := by
  have hv : ∀ g, v.ownBlock = some g → W.heap.size ≤ g ∧ g < w2.heap.size := fun g hg => by
    rcases hr.2 with ⟨rfl, _⟩ | ⟨g', cap, cur, rfl, hB, hgg, _⟩
    · cases hg
    · simp [Value.ownBlock] at hg
      subst hg
      exact ⟨hB, lt_blk hgg⟩
  have hbl := h.lt b h.sb
  have hz := hb.size
  refine ⟨fun k => S k ∨ v.ownBlock = some k, v, l', ?_, ?_, ?_⟩
  · refine { blk := ?_, row := ?_, files := hf, bytes := ?_, sb := .inl h.sb, sf := fun g hg => .inr hg, sr := fun q hq' g hg => .inl ((hq q hq').2 g hg), lt := ?_, ok := hok, names := hn }
    · rw [hd]
      exact set_blk ((hb.block b hbl).trans h.blk) 1 v
    · have h0 : w2.ownsRow 0 71 3 v l'.length (rkCells l') := by
        refine ⟨hr.1, ?_⟩
        rcases hr.2 with hn' | ⟨g, cap, cur, hv', hB, r⟩
        · exact .inl hn'
        · exact .inr ⟨g, cap, cur, hv', Nat.zero_le _, r⟩
      exact row_keep h0 (fun g hg => set_other _ (by have := (hv g hg).1; omega))
    · intro q hq'
      refine ownB_keep (hq q hq').1 (fun g hg => ?_)
      obtain ⟨cur, hc⟩ := ownB_block (hq q hq').1 hg
      have hgb : g ≠ b := by
        intro e
        subst e
        rw [h.blk] at hc
        simp at hc
      rw [set_other _ hgb]
      exact hb.block g (lt_blk hc)
    · intro k hk
      rw [set_size]
      rcases hk with hk | hk
      · exact Nat.lt_of_lt_of_le (h.lt k hk) hz
      · exact (hv k hk).2
  · exact (Fr.of_below S hb).set h.sb _
  · intro k hk
    rcases hk with hk | hk
    · exact .inl hk
    · exact .inr (hv k hk).1

/-- A file of the row is set in its place. -/
theorem RkW.inrow {w w' : World} {b g k c : Nat} {S : Nat → Prop} {l : FV} {d d' : Dk} {q : (Nm × Fl) × Value} (h : RkW w b S (.slice (some ⟨g, 0, none⟩) l.length c) l d) (hs : w.heap.size ≤ w'.heap.size) (hk : ∀ j, j < w.heap.size → j ≠ g → w'.heap[j]? = w.heap[j]?)
    (hr : w'.ownsRow 0 71 3 (.slice (some ⟨g, 0, none⟩) l.length c) l.length (rkCells (l.set k q))) (hd : d' = { d with files := d.files.set k q.1 }) (hok : DkOk d') (hn : q.1.1.length ≤ 140737488355328)
    (hq : OwnB w' 0 q.2 q.1.2.bs) (S2 : Nat → Prop) (hS : ∀ j, S j → S2 j) (hS2 : ∀ j, S2 j → j < w'.heap.size) (hqS : ∀ j, q.2.ownBlock = some j → S2 j) : RkW w' b S2 (.slice (some ⟨g, 0, none⟩) (l.set k q).length c) (l.set k q) d' := by
  have hgb : b ≠ g := fun e => h.ne_f (by rw [e]; rfl)
  have hmem : ∀ p ∈ l.set k q, p = q ∨ p ∈ l := fun p hp => List.mem_or_eq_of_mem_set hp |>.symm
  have e : (l.set k q).length = l.length := List.length_set
  rw [e]
  refine { blk := ?_, row := by rw [e]; exact hr, files := ?_, bytes := ?_, sb := hS _ h.sb, sf := fun j hj => hS _ (h.sf j hj), sr := ?_, lt := hS2, ok := hok, names := ?_ }
  · rw [hd]
    exact (hk b (h.lt b h.sb) hgb).trans h.blk
  · rw [hd, List.map_set, h.files]
  · intro p hp
    rcases hmem p hp with rfl | hp
    · exact hq
    · refine ownB_keep (h.bytes p hp) (fun j hj => hk j (h.lt j (h.sr p hp j hj)) (fun e => (h.ne_q hp hj).2 (by rw [e]; rfl)))
  · intro p hp j hj
    rcases hmem p hp with rfl | hp
    · exact hqS j hj
    · exact hS _ (h.sr p hp j hj)
  · intro p hp
    rw [hd] at hp
    rcases List.mem_or_eq_of_mem_set hp with hp | rfl
    · exact h.names p hp
    · exact hn

/-- A row that was just made of nothing. -/
theorem made_files (w : World) (B : Nat) (hB : B ≤ w.heap.size) : OwnF (w.alloc (.cells #[] 71)) B (.slice (some ⟨w.heap.size, 0, none⟩) 0 0) [] := by
  refine ⟨rfl, .inr ⟨w.heap.size, 0, #[], rfl, hB, ?_, Nat.le_refl _, Nat.zero_le _, rfl, rfl⟩⟩
  show (w.heap.push _)[w.heap.size]? = _
  exact Array.getElem?_push_size
theorem OwnF.below {w w' : World} {B : Nat} {v : Value} {l : FV} (h : OwnF w B v l) (hb : Below w.heap.size w w') : OwnF w' B v l := row_keep h (fun g hg => by
  obtain ⟨cur, hc⟩ := row_block h hg
  exact hb.block g (lt_blk hc))
theorem nameC {P : Program} {md : Region.Mode} {ops : Array Oper} {C : World → Prop} {last : Nat} {Q : Exit → Act → World → Prop} {f : Nat} {s : Array Bool} {a : Act} {w : World} (h : ∀ w', w' = w → wpAnyC P md ops C last Q f s a w') : wpAnyC P md ops C last Q f s a w := h w rfl
/-- One file, just laid. -/
theorem frow_lit (w : World) (q : (Nm × Fl) × Value) : FRow (w.alloc (.cells #[strN q.1.1, q.2, .int .i64 (q.1.2.la : Int)] 71)) (some ⟨w.heap.size, 0, none⟩) 1 [q] :=
  ⟨rfl, .inr ⟨_, rfl, fun j u hj => lit_cells w [strN q.1.1, q.2, .int .i64 (q.1.2.la : Int)] _ j u hj⟩⟩
end Go.Proofs.Ytmkgaegodemglaa
