/- The document's disk in memory: its struct, its row of files, each file's row of bytes. -/
import Derived.Test.YtmkgaegodemglaaDBeg
import Derived.Laws.OwnMore
set_option linter.unusedVariables false
namespace Go.Proofs.Ytmkgaegodemglaa
open Go.RowKit

abbrev FV := List ((Nm × Fl) × Value)
abbrev fvC (q : (Nm × Fl) × Value) : List Value := [strN q.1.1, q.2, .int .i64 (q.1.2.la : Int)]
def rkCells (l : FV) : List Value := l.flatMap fvC
abbrev rsCells (d : Dk) (fs : Value) : Array Value := #[.int .i64 (d.room : Int), fs, .bool d.up, .int .i64 d.ahead, .int .u64 (d.keep : Int), .int .i64 d.falls]

theorem rkCells_nil : rkCells [] = [] := rfl
theorem rkCells_cons (q : (Nm × Fl) × Value) (l : FV) : rkCells (q :: l) = strN q.1.1 :: q.2 :: .int .i64 (q.1.2.la : Int) :: rkCells l := rfl
theorem rkCells_append (a b : FV) : rkCells (a ++ b) = rkCells a ++ rkCells b := List.flatMap_append
theorem rkCells_length : ∀ l : FV, (rkCells l).length = l.length * 3
  | [] => rfl
  | q :: l => by rw [rkCells_cons]; simp only [List.length_cons]; rw [rkCells_length l]; omega
theorem rkCells_at : ∀ (l : FV) (i : Nat) (q : (Nm × Fl) × Value), l[i]? = some q → (rkCells l)[i * 3]? = some (strN q.1.1) ∧ (rkCells l)[i * 3 + 1]? = some q.2 ∧ (rkCells l)[i * 3 + 2]? = some (.int .i64 (q.1.2.la : Int))
  | [], _, _, h => by simp at h
  | p :: l, 0, q, h => by
    have : p = q := by simpa using h
    subst this
    exact ⟨rfl, rfl, rfl⟩
  | p :: l, i + 1, q, h => by
    have := rkCells_at l i q (by simpa using h)
    rw [rkCells_cons]
    have e : (i + 1) * 3 = i * 3 + 3 := by omega
    rw [e]
    exact this
theorem rkCells_one (l : FV) : ∀ u ∈ rkCells l, (∀ q ∈ l, ∃ a n c, q.2 = .slice a n c) → u.oneCell' = true := by
  induction l with
  | nil => intro u hu; cases hu
  | cons q l ih =>
    intro u hu hs
    rw [rkCells_cons] at hu
    simp only [List.mem_cons] at hu
    rcases hu with rfl | rfl | rfl | hu
    · rfl
    · obtain ⟨a, n, c, h⟩ := hs q List.mem_cons_self
      rw [h]; rfl
    · rfl
    · exact ih u hu (fun q hq => hs q (List.mem_cons_of_mem _ hq))

/-- Block b holds the document's disk d; fs: its row of files; all its blocks are S's. -/
structure RkW (w : World) (b : Nat) (S : Nat → Prop) (fs : Value) (l : FV) (d : Dk) : Prop where
  blk : w.heap[b]? = some (.cells (rsCells d fs) 58 (0, 0))
  row : w.ownsRow 0 71 3 fs l.length (rkCells l)
  files : l.map (·.1) = d.files
  bytes : ∀ q ∈ l, OwnB w 0 q.2 q.1.2.bs
  sb : S b
  sf : ∀ g, fs.ownBlock = some g → S g
  sr : ∀ q ∈ l, ∀ g, q.2.ownBlock = some g → S g
  lt : ∀ k, S k → k < w.heap.size
  ok : DkOk d
  names : ∀ p ∈ d.files, p.1.length ≤ 140737488355328

section
variable {w : World} {b : Nat} {S : Nat → Prop} {fs : Value} {l : FV} {d : Dk}
theorem row_keep {w w' : World} {B : Nat} {e : TypeId} {sz : Nat} {v : Value} {n : Nat} {xs : List Value} (h : w.ownsRow B e sz v n xs) (hk : ∀ g, v.ownBlock = some g → w'.heap[g]? = w.heap[g]?) : w'.ownsRow B e sz v n xs := by
  refine ⟨h.1, ?_⟩
  rcases h.2 with hn | ⟨g, cap, cur, hv, hB, hgg, rest⟩
  · exact .inl hn
  · exact .inr ⟨g, cap, cur, hv, hB, (hk g (by rw [hv]; rfl)).trans hgg, rest⟩
theorem row_block {w : World} {B : Nat} {e : TypeId} {sz : Nat} {v : Value} {n : Nat} {xs : List Value} (h : w.ownsRow B e sz v n xs) {g : Nat} (hg : v.ownBlock = some g) : ∃ cur, w.heap[g]? = some (.cells cur e (0, 0)) := by
  rcases h.2 with ⟨rfl, _⟩ | ⟨g', cap, cur, rfl, _, hgg, _⟩
  · simp [Value.ownBlock] at hg
  · simp [Value.ownBlock] at hg
    subst hg
    exact ⟨cur, hgg⟩
theorem RkW.keep {w' : World} (h : RkW w b S fs l d) (hs : w.heap.size ≤ w'.heap.size) (hk : ∀ k, S k → w'.heap[k]? = w.heap[k]?) : RkW w' b S fs l d :=
  { blk := (hk b h.sb).trans h.blk
    row := row_keep h.row (fun g hg => hk g (h.sf g hg))
    files := h.files
    bytes := fun q hq => ownB_keep (h.bytes q hq) (fun g hg => hk g (h.sr q hq g hg))
    sb := h.sb, sf := h.sf, sr := h.sr, ok := h.ok, names := h.names
    lt := fun k hk' => Nat.lt_of_lt_of_le (h.lt k hk') hs }
theorem RkW.below {w' : World} (h : RkW w b S fs l d) (hb : Below w.heap.size w w') : RkW w' b S fs l d := h.keep hb.size (fun k hk => hb.block k (h.lt k hk))
theorem RkW.drew (h : RkW w b S fs l d) : RkW w.drew b S fs l d := h.keep (Nat.le_refl _) (fun _ _ => rfl)
theorem RkW.alloc (h : RkW w b S fs l d) (o : Obj) : RkW (w.alloc o) b S fs l d := h.below ((Below.refl _ w).alloc (Nat.le_refl _) o)
theorem RkW.len (h : RkW w b S fs l d) : l.length = d.files.length := by rw [← h.files, List.length_map]
theorem RkW.shape (h : RkW w b S fs l d) : ∃ a c, fs = .slice a l.length c := by
  rcases h.row.2 with ⟨rfl, h0⟩ | ⟨g, cap, cur, rfl, _⟩
  · exact ⟨none, 0, by rw [h0]⟩
  · exact ⟨_, _, rfl⟩
theorem RkW.get (h : RkW w b S fs l d) {i : Nat} {p : Nm × Fl} (hi : d.files[i]? = some p) : ∃ v, l[i]? = some (p, v) := by
  rw [← h.files, List.getElem?_map] at hi
  cases hl : l[i]? with
  | none => rw [hl] at hi; cases hi
  | some q =>
    rw [hl] at hi
    have : q.1 = p := by simpa using hi
    exact ⟨q.2, by rw [← this]⟩
theorem RkW.put (h : RkW w b S fs l d) {i : Nat} {q : (Nm × Fl) × Value} (hi : l[i]? = some q) : d.files[i]? = some q.1 := by
  rw [← h.files, List.getElem?_map, hi]; rfl
/-- The row's block, and the cells of one file. -/
theorem RkW.at (h : RkW w b S fs l d) {i : Nat} {q : (Nm × Fl) × Value} (hi : l[i]? = some q) : ∃ g c, fs = .slice (some ⟨g, 0, none⟩) l.length c ∧ S g ∧ g ≠ b ∧ w.cell? ⟨g, i * 3, none⟩ = some (strN q.1.1) ∧ w.cell? ⟨g, i * 3 + 1, none⟩ = some q.2 ∧ w.cell? ⟨g, i * 3 + 2, none⟩ = some (.int .i64 (q.1.2.la : Int)) ∧ ∀ j, w.frozen? ⟨g, j, none⟩ = false := by
  have hlt : i < l.length := (List.getElem?_eq_some_iff.1 hi).1
  rcases h.row.2 with ⟨rfl, h0⟩ | ⟨g, cap, cur, rfl, hB, hg, hnc, hcm, hcs, hx⟩
  · omega
  · obtain ⟨x0, x1, x2⟩ := rkCells_at l i q hi
    have cc : ∀ j u, (rkCells l)[j]? = some u → w.cell? ⟨g, j, none⟩ = some u := by
      intro j u hj
      rw [← hx, List.getElem?_take] at hj
      split at hj
      · exact cell_blk hg (by simpa using hj)
      · cases hj
    refine ⟨g, cap, rfl, h.sf g rfl, ?_, cc _ _ x0, cc _ _ x1, cc _ _ x2, fun j => free_blk hg j⟩
    intro e
    subst e
    rw [h.blk] at hg
    simp at hg
theorem RkW.c0 (h : RkW w b S fs l d) : w.cell? ⟨b, 0, none⟩ = some (.int .i64 (d.room : Int)) := cell_blk h.blk rfl
theorem RkW.c1 (h : RkW w b S fs l d) : w.cell? ⟨b, 1, none⟩ = some fs := cell_blk h.blk rfl
theorem RkW.c2 (h : RkW w b S fs l d) : w.cell? ⟨b, 2, none⟩ = some (.bool d.up) := cell_blk h.blk rfl
theorem RkW.c3 (h : RkW w b S fs l d) : w.cell? ⟨b, 3, none⟩ = some (.int .i64 d.ahead) := cell_blk h.blk rfl
theorem RkW.c4 (h : RkW w b S fs l d) : w.cell? ⟨b, 4, none⟩ = some (.int .u64 (d.keep : Int)) := cell_blk h.blk rfl
theorem RkW.c5 (h : RkW w b S fs l d) : w.cell? ⟨b, 5, none⟩ = some (.int .i64 d.falls) := cell_blk h.blk rfl
theorem RkW.fz (h : RkW w b S fs l d) (i : Nat) : w.frozen? ⟨b, i, none⟩ = false := free_blk h.blk i
/-- The struct and the row of files are no rows of bytes, nor one another. -/
theorem RkW.ne_f (h : RkW w b S fs l d) : fs.ownBlock ≠ some b := by
  intro e
  obtain ⟨cur, hc⟩ := row_block h.row e
  rw [h.blk] at hc
  simp at hc
theorem RkW.ne_q (h : RkW w b S fs l d) {q : (Nm × Fl) × Value} (hq : q ∈ l) {g : Nat} (hg : q.2.ownBlock = some g) : g ≠ b ∧ fs.ownBlock ≠ some g := by
  obtain ⟨cur, hc⟩ := ownB_block (h.bytes q hq) hg
  constructor
  · intro e
    subst e
    rw [h.blk] at hc
    simp at hc
  · intro e
    obtain ⟨cur', hc'⟩ := row_block h.row e
    rw [hc] at hc'
    simp at hc'
/-- The struct is written: all but it stays. -/
theorem RkW.struct {w' : World} {d' : Dk} (h : RkW w b S fs l d) (hs : w'.heap.size = w.heap.size) (hk : ∀ k, k ≠ b → w'.heap[k]? = w.heap[k]?)
    (hb : w'.heap[b]? = some (.cells (rsCells d' fs) 58 (0, 0))) (hf : d'.files = d.files) (hok : DkOk d') : RkW w' b S fs l d' :=
  { blk := hb
    row := row_keep h.row (fun g hg => hk g (fun e => h.ne_f (by rw [hg, e])))
    files := by rw [hf]; exact h.files
    bytes := fun q hq => ownB_keep (h.bytes q hq) (fun g hg => hk g (h.ne_q hq hg).1)
    sb := h.sb, sf := h.sf, sr := h.sr, ok := hok
    names := by rw [hf]; exact h.names
    lt := fun k hk' => by rw [hs]; exact h.lt k hk' }
end

/-- Where a file stands; -1: nowhere. -/
def fidx (n : Nm) (l : Fls) : Int := match l.findIdx? (fun p => p.1 == n) with
  | some i => (i : Int)
  | none => -1
theorem fidx_none {n : Nm} {l : Fls} (h : ∀ (j : Nat) (p : Nm × Fl), l[j]? = some p → p.1 ≠ n) : fidx n l = -1 := by
  unfold fidx
  have : l.findIdx? (fun p => p.1 == n) = none := by
    rw [List.findIdx?_eq_none_iff]
    intro p hp
    obtain ⟨j, hj⟩ := List.mem_iff_getElem?.1 hp
    simpa using h j p hj
  rw [this]
theorem fidx_some {n : Nm} {l : Fls} {i : Nat} {p : Nm × Fl} (hi : l[i]? = some p) (hp : p.1 = n) (h : ∀ (j : Nat) (q : Nm × Fl), j < i → l[j]? = some q → q.1 ≠ n) : fidx n l = (i : Int) := by
  unfold fidx
  have : l.findIdx? (fun p => p.1 == n) = some i := by
    rw [List.findIdx?_eq_some_iff_getElem]
    obtain ⟨hl, he⟩ := List.getElem?_eq_some_iff.1 hi
    refine ⟨hl, by rw [he]; simpa using hp, fun j hj => ?_⟩
    have := h j (l[j]'(by omega)) hj (List.getElem?_eq_getElem (by omega))
    simpa using this
  rw [this]
theorem fidx_cases (n : Nm) (l : Fls) : (fidx n l = -1 ∧ getA n l = none) ∨ ∃ (i : Nat) (f : Fl), fidx n l = (i : Int) ∧ l[i]? = some (n, f) ∧ getA n l = some f := by
  cases hg : l.findIdx? (fun p => p.1 == n) with
  | none =>
    left
    refine ⟨by unfold fidx; rw [hg], ?_⟩
    rw [List.findIdx?_eq_none_iff] at hg
    unfold getA
    have : l.find? (fun p => p.1 == n) = none := by rw [List.find?_eq_none]; intro p hp; simpa using hg p hp
    rw [this]; rfl
  | some i =>
    right
    have hgi := hg
    rw [List.findIdx?_eq_some_iff_getElem] at hg
    obtain ⟨hl, he, hlt⟩ := hg
    have hn : (l[i]).1 = n := by simpa using he
    refine ⟨i, (l[i]).2, by unfold fidx; rw [hgi], ?_, ?_⟩
    · rw [List.getElem?_eq_getElem hl]
      exact congrArg some (Prod.ext hn rfl)
    · unfold getA
      have : l.find? (fun p => p.1 == n) = some l[i] := by
        rw [List.find?_eq_some_iff_getElem]
        exact ⟨he, i, hl, rfl, fun j hj => by simpa using hlt j hj⟩
      rw [this]; rfl

set_option maxHeartbeats 1000000 in
set_option maxRecDepth 20000 in
theorem rfind_any {w : World} {b : Nat} {S : Nat → Prop} {fs : Value} {l : FV} {d : Dk} (h : RkW w b S fs l d) (n : Nm) :
    Calls Try.prog 47 #[dptr b, strN n] w fun e w' => e = .returned (.int .i64 (fidx n d.files)) ∧ w' = w := by
  obtain ⟨fa, fc, rfl⟩ := h.shape
  have c1 := h.c1
  have hfew : l.length ≤ 1048576 := by rw [h.len]; exact h.ok.few
  have HD : Hid (RkW w b S (.slice fa l.length fc) l d) := h
  obtain ⟨Z, hZ⟩ : ∃ Z, fidx n d.files = Z := ⟨_, rfl⟩
  rw [hZ]
  have HZ : Hid (fidx n d.files = Z) := hZ
  clear h hZ
  obtain ⟨L, hL⟩ : ∃ L, L = l.length := ⟨_, rfl⟩
  rw [← hL] at c1 hfew
  have HLl : Hid (L = l.length) := hL
  clear hL
  go_enter Try.func47, Try.ntmps47
  go_wp2
  go_loopw [5] (fun i wr => ∃ (k : Nat), i = .int .i64 (k : Int) ∧ k ≤ L ∧ Hid (∀ (j : Nat) (q : Nm × Fl), j < k → d.files[j]? = some q → q.1 ≠ n) ∧ wr = w) (fun i _ => L - (intOf i).toNat)
  case atStart => exact ⟨0, rfl, Nat.zero_le _, (fun j q hj => absurd hj (Nat.not_lt_zero _)), rfl⟩
  case round =>
    obtain ⟨k, rfl, hk, HK, rfl⟩ := hrel
    by_cases hlt : k < L
    · have dlt : decide ((k : Int) < (L : Int)) = true := by simpa using hlt
      have hlt' : (k : Int) < (L : Int) := by omega
      obtain ⟨q, hq⟩ : ∃ q, l[k]? = some q := ⟨_, List.getElem?_eq_getElem (by rw [← HLl.out]; exact hlt)⟩
      obtain ⟨g, c, he, _, _, x0, _⟩ := HD.out.at hq
      have e1 : fa = some ⟨g, 0, none⟩ := congrArg (fun v => match v with | Value.slice a _ _ => a | _ => none) he
      subst e1
      have hqd := HD.out.put hq
      by_cases hn : q.1.1 = n
      · have hz : Z = (k : Int) := by rw [← HZ.out]; exact fidx_some hqd hn HK.out
        rw [hn] at x0
        clear he hq hqd hn HK
        go_wp2
        go_ret
        exact ⟨by first | rfl | (rw [hz]; rfl), rfl⟩
      · have hne : (q.1.1 == n) = false := by simpa using hn
        have HK2 : Hid (∀ (j : Nat) (p : Nm × Fl), j < k + 1 → d.files[j]? = some p → p.1 ≠ n) := by
          intro j p hj hp
          by_cases hjk : j < k
          · exact HK.out j p hjk hp
          · have : j = k := by omega
            subst this
            rw [hqd] at hp
            cases hp
            exact hn
        generalize q.1.1 = m at *
        clear he hq hqd hn HK
        go_wp2
        go_roundw
        case rel => exact ⟨k + 1, by go_num, by omega, HK2, by first | rfl | trivial⟩
        case measure => simp [intOf]; omega
    · have hge : ¬ ((k : Int) < (L : Int)) := by omega
      have dlt : decide ((k : Int) < (L : Int)) = false := by simpa using hge
      have hz : Z = -1 := by
        rw [← HZ.out]
        refine fidx_none fun j p hp => HK.out j p ?_ hp
        have := (List.getElem?_eq_some_iff.1 hp).1
        rw [← HD.out.len, ← HLl.out] at this
        omega
      clear HK
      go_wp2
      go_ret
      exact ⟨by first | rfl | (rw [hz]; rfl), rfl⟩

end Go.Proofs.Ytmkgaegodemglaa
