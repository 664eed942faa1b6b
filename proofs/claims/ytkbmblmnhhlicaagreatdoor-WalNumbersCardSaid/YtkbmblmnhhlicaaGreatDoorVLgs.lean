/- A log held beside other blocks: what each call leaves. -/
import Derived.Test.YtkbmblmnhhlicaaGreatDoorV06
import Derived.Test.YtkbmblmnhhlicaaGreatDoorVGet
set_option linter.unusedVariables false
namespace Go.Proofs.YtkbmblmnhhlicaaGreatDoor
open Go.RowKit

/-- A disk, and blocks of others that it does not touch. -/
def DkS (w0 : World) (b m : Nat) (d : Dk) (G : Nat → Prop) (w : World) : Prop := ∃ S, Lv w0 w b m S d ∧ ∀ k, G k → k < w.heap.size ∧ ¬ S k
/-- A log on a disk, likewise. -/
def LgS (w0 : World) (b m p : Nat) (d : Dk) (L : List Sg) (G : Nat → Prop) (w : World) : Prop := ∃ S T vs q, Wl w0 w b m S d p T vs q ∧ q.map (·.1) = L ∧ ∀ k, G k → k < w.heap.size ∧ ¬ S k ∧ ¬ T k
/-- The blocks of others are as they were. -/
def Kps (G : Nat → Prop) (w w' : World) : Prop := w.heap.size ≤ w'.heap.size ∧ ∀ k, G k → w'.heap[k]? = w.heap[k]?
theorem Kps.trans {G : Nat → Prop} {w w1 w2 : World} (h : Kps G w w1) (k : Kps G w1 w2) : Kps G w w2 := ⟨Nat.le_trans h.1 k.1, fun i hi => (k.2 i hi).trans (h.2 i hi)⟩
theorem Kps.refl (G : Nat → Prop) (w : World) : Kps G w w := ⟨Nat.le_refl _, fun _ _ => rfl⟩
theorem Kps.of_below {G : Nat → Prop} {w w' : World} (hG : ∀ k, G k → k < w.heap.size) (hb : Below w.heap.size w w') : Kps G w w' := ⟨hb.size, fun k hk => hb.block k (hG k hk)⟩
theorem Kps.sub {G G' : Nat → Prop} {w w' : World} (h : Kps G w w') (hs : ∀ k, G' k → G k) : Kps G' w w' := ⟨h.1, fun k hk => h.2 k (hs k hk)⟩

theorem LgS.lt {w0 : World} {b m p : Nat} {d : Dk} {L : List Sg} {G : Nat → Prop} {w : World} (h : LgS w0 b m p d L G w) : ∀ k, G k → k < w.heap.size := by
  obtain ⟨S, T, vs, q, h1, h2, h3⟩ := h
  exact fun k hk => (h3 k hk).1
theorem LgS.bel {w0 : World} {b m p : Nat} {d : Dk} {L : List Sg} {G : Nat → Prop} {w : World} (h : LgS w0 b m p d L G w) : Below w0.heap.size w0 w := by
  obtain ⟨S, T, vs, q, h1, h2, h3⟩ := h
  exact h1.lv.below
theorem LgS.tabs {w0 : World} {b m p : Nat} {d : Dk} {L : List Sg} {G : Nat → Prop} {w : World} (h : LgS w0 b m p d L G w) : Tabs w0 := by
  obtain ⟨S, T, vs, q, h1, h2, h3⟩ := h
  exact h1.tb
theorem LgS.ok {w0 : World} {b m p : Nat} {d : Dk} {L : List Sg} {G : Nat → Prop} {w : World} (h : LgS w0 b m p d L G w) : DkOk d := by
  obtain ⟨S, T, vs, q, h1, h2, h3⟩ := h
  obtain ⟨sl, hd⟩ := h1.lv.dk
  exact hd.ok
theorem LgS.same {w0 : World} {b m p : Nat} {d : Dk} {L : List Sg} {G : Nat → Prop} {w w' : World} (h : LgS w0 b m p d L G w) (hb : Below w.heap.size w w') : LgS w0 b m p d L G w' ∧ Kps G w w' := by
  have hk : Kps G w w' := Kps.of_below h.lt hb
  obtain ⟨S, T, vs, q, h1, h2, h3⟩ := h
  exact ⟨⟨S, T, vs, q, h1.same hb, h2, fun k hk => ⟨Nat.lt_of_lt_of_le (h3 k hk).1 hb.size, (h3 k hk).2⟩⟩, hk⟩
theorem LgS.did {w0 : World} {b m p : Nat} {d' : Dk} {L' : List Sg} {G : Nat → Prop} {w w' : World} {S T : Nat → Prop} (hG : ∀ k, G k → k < w.heap.size ∧ ¬ S k ∧ ¬ T k) (h : DidW w0 w b m S p T d' L' w') : LgS w0 b m p d' L' G w' ∧ Kps G w w' := by
  obtain ⟨S', T', vs', q', h1, h2, h3⟩ := h
  refine ⟨⟨S', T', vs', q', h1, h2, fun k hk => ?_⟩, h3.1.size, fun k hk => h3.1.block k (hG k hk).1 (fun e => e.elim (hG k hk).2.1 (hG k hk).2.2)⟩
  have g := hG k hk
  refine ⟨Nat.lt_of_lt_of_le g.1 h3.1.size, fun e => ?_, fun e => ?_⟩
  · rcases h3.2 k (.inl e) with e | e
    · exact e.elim g.2.1 g.2.2
    · omega
  · rcases h3.2 k (.inr e) with e | e
    · exact e.elim g.2.1 g.2.2
    · omega
/-- Blocks of others are written, or made. -/
theorem LgS.own {w0 : World} {b m p : Nat} {d : Dk} {L : List Sg} {G G' : Nat → Prop} {w w' : World} (h : LgS w0 b m p d L G w) (hf : Fr G w w') (h0 : ∀ k, G k → w0.heap.size ≤ k) (hG : ∀ k, G' k → k < w'.heap.size ∧ (G k ∨ w.heap.size ≤ k)) : LgS w0 b m p d L G' w' := by
  obtain ⟨S, T, vs, q, h1, h2, h3⟩ := h
  obtain ⟨sl, hd⟩ := h1.lv.dk
  refine ⟨S, T, vs, q, ⟨⟨⟨sl, hd.keep hf.size (fun k hk => hf.block k (hd.lt k hk) (fun e => (h3 k e).2.1 hk))⟩, h1.lv.ge, h1.lv.below.trans (hf.below h0 h1.lv.below.size)⟩, h1.lg.keep hf.size (fun k hk => hf.block k (h1.lg.lt k hk) (fun e => (h3 k e).2.2 hk)), h1.ge, h1.ap, h1.tb⟩, h2, fun k hk => ?_⟩
  obtain ⟨g1, g2⟩ := hG k hk
  refine ⟨g1, fun e => ?_, fun e => ?_⟩
  · rcases g2 with g2 | g2
    · exact (h3 k g2).2.1 e
    · have := hd.lt k e; omega
  · rcases g2 with g2 | g2
    · exact (h3 k g2).2.2 e
    · have := h1.lg.lt k e; omega
theorem LgS.dk {w0 : World} {b m p : Nat} {d : Dk} {L : List Sg} {G : Nat → Prop} {w : World} (h : LgS w0 b m p d L G w) : DkS w0 b m d G w := by
  obtain ⟨S, T, vs, q, h1, h2, h3⟩ := h
  exact ⟨S, h1.lv, fun k hk => ⟨(h3 k hk).1, (h3 k hk).2.1⟩⟩
theorem DkS.lt {w0 : World} {b m : Nat} {d : Dk} {G : Nat → Prop} {w : World} (h : DkS w0 b m d G w) : ∀ k, G k → k < w.heap.size := by
  obtain ⟨S, h1, h2⟩ := h
  exact fun k hk => (h2 k hk).1
theorem DkS.bel {w0 : World} {b m : Nat} {d : Dk} {G : Nat → Prop} {w : World} (h : DkS w0 b m d G w) : Below w0.heap.size w0 w := by
  obtain ⟨S, h1, h2⟩ := h
  exact h1.below
theorem DkS.same {w0 : World} {b m : Nat} {d : Dk} {G : Nat → Prop} {w w' : World} (h : DkS w0 b m d G w) (hb : Below w.heap.size w w') : DkS w0 b m d G w' ∧ Kps G w w' := by
  have hk : Kps G w w' := Kps.of_below h.lt hb
  obtain ⟨S, h1, h2⟩ := h
  exact ⟨⟨S, h1.same hb, fun k hk => ⟨Nat.lt_of_lt_of_le (h2 k hk).1 hb.size, (h2 k hk).2⟩⟩, hk⟩
theorem DkS.st {w0 : World} {b m : Nat} {d' : Dk} {G : Nat → Prop} {w w' : World} {S S' : Nat → Prop} (hG : ∀ k, G k → k < w.heap.size ∧ ¬ S k) (hl : Lv w0 w' b m S' d') (hs : St w S w' S') : DkS w0 b m d' G w' ∧ Kps G w w' := by
  refine ⟨⟨S', hl, fun k hk => ⟨Nat.lt_of_lt_of_le (hG k hk).1 hs.1.size, fun e => ?_⟩⟩, hs.1.size, fun k hk => hs.1.block k (hG k hk).1 (hG k hk).2⟩
  rcases hs.2 k e with e | e
  · exact (hG k hk).2 e
  · have := (hG k hk).1; omega
theorem DkS.own {w0 : World} {b m : Nat} {d : Dk} {G G' : Nat → Prop} {w w' : World} (h : DkS w0 b m d G w) (hf : Fr G w w') (h0 : ∀ k, G k → w0.heap.size ≤ k) (hG : ∀ k, G' k → k < w'.heap.size ∧ (G k ∨ w.heap.size ≤ k)) : DkS w0 b m d G' w' := by
  obtain ⟨S, h1, h2⟩ := h
  obtain ⟨sl, hd⟩ := h1.dk
  refine ⟨S, ⟨⟨sl, hd.keep hf.size (fun k hk => hf.block k (hd.lt k hk) (fun e => (h2 k e).2 hk))⟩, h1.ge, h1.below.trans (hf.below h0 h1.below.size)⟩, fun k hk => ?_⟩
  obtain ⟨g1, g2⟩ := hG k hk
  refine ⟨g1, fun e => ?_⟩
  rcases g2 with g2 | g2
  · exact (h2 k g2).2 e
  · have := hd.lt k e; omega

/-- A row that no call on the log or the disk touches. -/
theorem brow_keep {w w' : World} {a : Option Addr} {n c : Nat} {l : List UInt8} (h : BRow w a n c l) (hk : ∀ x, a = some x → w'.heap[x.block]? = w.heap[x.block]?) : BRow w' a n c l := by
  refine ⟨h.1, ?_⟩
  rcases h.2 with h2 | ⟨x, h2, hc⟩
  · exact .inl h2
  · refine .inr ⟨x, h2, fun j hj => ?_⟩
    rw [← hc j hj]
    have hb : (x.add j).block = x.block := by unfold Addr.add; split <;> rfl
    unfold World.cell?
    rw [hb, hk x h2]
/-- Bytes that are there as long as others' blocks are. -/
def RowG (G : Nat → Prop) (w : World) (a : Option Addr) (n c : Nat) (l : List UInt8) : Prop := BRow w a n c l ∧ ∀ x, a = some x → G x.block
theorem RowG.kps {G : Nat → Prop} {w w' : World} {a : Option Addr} {n c : Nat} {l : List UInt8} (h : RowG G w a n c l) (hk : Kps G w w') : RowG G w' a n c l := ⟨brow_keep h.1 (fun x hx => hk.2 _ (h.2 x hx)), h.2⟩

theorem snoc_of {L : List Sg} {q : Sgs} {s : Sg} (h : q.map (·.1) = L ++ [s]) : ∃ q' y, q = q' ++ [y] ∧ q'.map (·.1) = L ∧ y.1 = s := by
  rcases List.map_eq_append_iff.1 h with ⟨a1, a2, rfl, e1, e2⟩
  rcases a2 with _ | ⟨y, a2⟩
  · cases e2
  · simp at e2
    obtain ⟨e3, e4⟩ := e2
    subst e4
    exact ⟨a1, y, rfl, e1, e3⟩
theorem cons_of {L : List Sg} {q : Sgs} {s : Sg} (h : q.map (·.1) = s :: L) : ∃ y q', q = y :: q' ∧ q'.map (·.1) = L ∧ y.1 = s := by
  rcases q with _ | ⟨y, q'⟩
  · cases h
  · simp at h
    exact ⟨y, q', rfl, h.2, h.1⟩

/-! ### the calls -/
theorem firstG {w0 : World} {b m p : Nat} {d : Dk} {L : List Sg} {s : Sg} {G : Nat → Prop} {w : World} (h : LgS w0 b m p d (s :: L) G w) : Calls Tryz.prog 21 #[dptr p] w fun e w' => e = .returned (.int .i64 (s.num : Int)) ∧ w' = w := by
  obtain ⟨S, T, vs, q, h1, h2, h3⟩ := h
  obtain ⟨y, q', rfl, h4, rfl⟩ := cons_of h2
  exact first_any h1.lg
theorem lastG {w0 : World} {b m p : Nat} {d : Dk} {L : List Sg} {s : Sg} {G : Nat → Prop} {w : World} (h : LgS w0 b m p d (L ++ [s]) G w) : Calls Tryz.prog 18 #[dptr p] w fun e w' => e = .returned (.int .i64 ((s.next : Int) - 1)) ∧ LgS w0 b m p d (L ++ [s]) G w' ∧ Kps G w w' := by
  have hs := fun w' => h.same (w' := w')
  obtain ⟨S, T, vs, q, h1, h2, h3⟩ := h
  obtain ⟨q', y, rfl, h4, rfl⟩ := snoc_of h2
  exact (lastn_any h1.lg).mono fun e w' r => ⟨r.1, hs w' r.2⟩
theorem syncG {w0 : World} {b m p : Nat} {d : Dk} {L : List Sg} {s : Sg} {G : Nat → Prop} {w : World} (h : LgS w0 b m p d (L ++ [s]) G w) : Calls Tryz.prog 44 #[dptr p] w fun e w' => e = .returned (.int .i64 ((syncP d (nameL s.num)).1 : Int)) ∧ LgS w0 b m p (syncP d (nameL s.num)).2 (L ++ [s]) G w' ∧ Kps G w w' := by
  obtain ⟨S, T, vs, q, h1, h2, h3⟩ := h
  obtain ⟨q', y, rfl, h4, rfl⟩ := snoc_of h2
  refine (wsync_any h1).mono fun e w' r => ⟨r.1, ?_⟩
  exact LgS.did h3 ⟨S, T, vs, _, r.2.1, h2, r.2.2⟩
theorem appG {w0 : World} {b m p : Nat} {d : Dk} {L : List Sg} {G : Nat → Prop} {w : World} (h : LgS w0 b m p d L G w) (hL : L ≠ []) {a : Option Addr} {n c : Nat} {l : List UInt8} (hr : ∀ w', Kps G w w' → Below w0.heap.size w0 w' → BRow w' a n c l) (hn : n ≤ 140737488355328) (hX : (lastS L).next ≤ 1000000) (hl : L.length + 1 ≤ 1048576) (hu : usedL d.files + 8200 ≤ 1099511627776) (hf : d.files.length + 1 ≤ 1048576) :
    Calls Tryz.prog 17 #[dptr p, .slice a n c] w fun e w' => e = .returned (.int .i64 ((wappP d L l).1 : Int)) ∧ LgS w0 b m p (wappP d L l).2.1 (wappP d L l).2.2 G w' ∧ Kps G w w' := by
  obtain ⟨S, T, vs, q, h1, h2, h3⟩ := h
  subst h2
  refine (wapp_any h1 (by intro e; rw [e] at hL; exact hL rfl) (fun w' hf' => hr w' ⟨hf'.size, fun k hk => hf'.block k (h3 k hk).1 (fun e => e.elim (h3 k hk).2.1 (h3 k hk).2.2)⟩ (h1.lv.below.trans (hf'.below (fun k hk => hk.elim (h1.lv.ge k) (h1.ge k)) h1.lv.below.size))) hn hX (by rw [List.length_map] at hl; exact hl) hu hf).mono fun e w' r => ⟨r.1, ?_⟩
  exact LgS.did h3 r.2
theorem openG {w0 : World} {b m : Nat} {d d' : Dk} {L : List Sg} {G : Nat → Prop} {w : World} (h : DkS w0 b m d G w) (ht : Tabs w0) (hnm : ∀ x ∈ d.files, x.1.length ≤ 140737488355328) (hu : usedL d.files ≤ 1099511627776) (hf : d.files.length + 1 ≤ 1048576) (hE : openP d = (0, d', L)) :
    Calls Tryz.prog 16 #[dptr b] w fun e w' => ∃ p, e = .returned (.tuple #[dptr p, .int .i64 0]) ∧ LgS w0 b m p d' L G w' ∧ Kps G w w' := by
  obtain ⟨S, h1, h2⟩ := h
  refine (Open_any h1 ht hnm hu hf).mono fun e w' r => ?_
  obtain ⟨p, r1, S', T', vs', q', r2, r3, r4⟩ := r
  rw [hE] at r1 r2 r3
  refine ⟨p, r1, ⟨S', T', vs', q', r2, r3, fun k hk => ?_⟩, r4.1.size, fun k hk => r4.1.block k (h2 k hk).1 (fun e => e.elim (h2 k hk).2 id)⟩
  have g := h2 k hk
  refine ⟨Nat.lt_of_lt_of_le g.1 r4.1.size, fun e => ?_, fun e => ?_⟩
  · rcases r4.2 k (.inl e) with e | e
    · exact e.elim g.2 id
    · omega
  · rcases r4.2 k (.inr e) with e | e
    · exact e.elim g.2 id
    · omega
/-- Open that tells an error. -/
theorem openBadG {w0 : World} {b m : Nat} {d d' : Dk} {L : List Sg} {G : Nat → Prop} {w : World} {x : Nat} (h : DkS w0 b m d G w) (ht : Tabs w0) (hnm : ∀ x ∈ d.files, x.1.length ≤ 140737488355328) (hu : usedL d.files ≤ 1099511627776) (hf : d.files.length + 1 ≤ 1048576) (hE : openP d = (x, d', L)) (hx : x ≠ 0) :
    Calls Tryz.prog 16 #[dptr b] w fun e w' => e = .returned (.tuple #[.pointer none, .int .i64 (x : Int)]) ∧ DkS w0 b m d' G w' ∧ Kps G w w' := by
  obtain ⟨S, h1, h2⟩ := h
  refine (Open_any h1 ht hnm hu hf).mono fun e w' r => ?_
  obtain ⟨p, r1, r2⟩ := r
  rw [hE] at r1 r2
  rw [if_neg hx] at r1
  obtain ⟨S', r3, r4⟩ := r2.st
  exact ⟨r1, DkS.st h2 r3 r4⟩
theorem newG {w0 : World} (room : Int) (hr : room ≤ 9223372036854775807) {w : World} {G : Nat → Prop} (hb : Below w0.heap.size w0 w) (hG : ∀ k, G k → k < w.heap.size) : Calls Tryz.prog 10 #[.int .i64 room] w fun e w' => ∃ b m, e = .returned (dptr b) ∧ DkS w0 b m (newD room) G w' ∧ Kps G w w' := by
  refine (new_any room hr w).mono fun e w' r => ?_
  obtain ⟨r1, r2, r3⟩ := r
  refine ⟨_, _, r1, ⟨_, ⟨⟨_, r2⟩, fun k hk => ?_, hb.trans (r3.mono hb.size)⟩, fun k hk => ⟨Nat.lt_of_lt_of_le (hG k hk) r3.size, fun e => ?_⟩⟩, Kps.of_below hG r3⟩
  · have := hb.size
    rcases hk with rfl | rfl <;> omega
  · have := hG k hk
    rcases e with e | e <;> omega
theorem crashG {w0 : World} {b m : Nat} {d : Dk} {G : Nat → Prop} {w : World} (h : DkS w0 b m d G w) (keep : Nat) (hk : keep < 18446744073709551616) : Calls Tryz.prog 32 #[dptr b, .int .u64 (keep : Int)] w fun e w' => e = .returned (.tuple #[]) ∧ DkS w0 b m (crashD d keep) G w' ∧ Kps G w w' := by
  obtain ⟨S, h1, h2⟩ := h
  exact (crashL h1 keep hk).mono fun e w' r => ⟨r.1, DkS.st h2 r.2.1 r.2.2⟩
theorem startG {w0 : World} {b m : Nat} {d : Dk} {G : Nat → Prop} {w : World} (h : DkS w0 b m d G w) : Calls Tryz.prog 33 #[dptr b] w fun e w' => e = .returned (.tuple #[]) ∧ DkS w0 b m (startD d) G w' ∧ Kps G w w' := by
  obtain ⟨S, h1, h2⟩ := h
  exact (startL h1).mono fun e w' r => ⟨r.1, DkS.st h2 r.2.1 r.2.2⟩
theorem dcutG {w0 : World} {b m : Nat} {d : Dk} {G : Nat → Prop} {w : World} (h : DkS w0 b m d G w) (n : Nm) (hn : n.length ≤ 140737488355328) (k : Int) (hk : -9223372036854775808 ≤ k ∧ k ≤ 9223372036854775807) : Calls Tryz.prog 42 #[dptr b, strN n, .int .i64 k] w fun e w' => e = .returned (.int .i64 ((cutP d n k).1 : Int)) ∧ DkS w0 b m (cutP d n k).2 G w' ∧ Kps G w w' := by
  obtain ⟨S, h1, h2⟩ := h
  exact (cutL h1 n hn k hk).mono fun e w' r => ⟨r.1, DkS.st h2 r.2.1 r.2.2⟩
theorem dappG {w0 : World} {b m : Nat} {d : Dk} {G : Nat → Prop} {w : World} (h : DkS w0 b m d G w) (n : Nm) (hn : n.length ≤ 140737488355328) {a : Option Addr} {len cap : Nat} {l : List UInt8} (hrow : BRow w a len cap l) (hsm : usedL d.files + l.length ≤ 1099511627776) (hfew : d.files.length + 1 ≤ 1048576) : Calls Tryz.prog 43 #[dptr b, strN n, .slice a len cap] w fun e w' => e = .returned (.int .i64 ((appendP d n l).1 : Int)) ∧ DkS w0 b m (appendP d n l).2 G w' ∧ Kps G w w' := by
  obtain ⟨S, h1, h2⟩ := h
  refine (appendL h1 n hn hrow hsm hfew).mono fun e w' r => ?_
  obtain ⟨r1, S', r2, r3⟩ := r
  exact ⟨r1, DkS.st h2 r2 r3⟩
theorem dreadG {w0 : World} {b m : Nat} {d : Dk} {G : Nat → Prop} {w : World} (h : DkS w0 b m d G w) (n : Nm) (hn : n.length ≤ 140737488355328) : Calls Tryz.prog 41 #[dptr b, strN n] w fun e w' => ∃ a c, e = .returned (.tuple #[.slice a (theF d n).bs.length c, .int .i64 (findV d n : Int)]) ∧ OwnB w' w.heap.size (.slice a (theF d n).bs.length c) (theF d n).bs ∧ Below w.heap.size w w' := by
  obtain ⟨S, h1, h2⟩ := h
  exact readB h1 n hn
theorem dfilesG {w0 : World} {b m : Nat} {d : Dk} {G : Nat → Prop} {w : World} (h : DkS w0 b m d G w) : Calls Tryz.prog 57 #[dptr b] w fun e w' => ∃ v, e = .returned v ∧ OwnS w' w.heap.size v (upNames d) ∧ Below w.heap.size w w' := by
  obtain ⟨S, h1, h2⟩ := h
  obtain ⟨sl, hd⟩ := h1.dk
  exact files_any hd
theorem dupG {w0 : World} {b m : Nat} {d : Dk} {G : Nat → Prop} {w : World} (h : DkS w0 b m d G w) : Calls Tryz.prog 31 #[dptr b] w fun e w' => e = .returned (.bool d.up) ∧ w' = w := by
  obtain ⟨S, h1, h2⟩ := h
  exact upL h1
/-- The disk is armed while a log is held. -/
theorem armG {w0 : World} {b m p : Nat} {d : Dk} {L : List Sg} {G : Nat → Prop} {w : World} (h : LgS w0 b m p d L G w) (after : Int) (ha : -9223372036854775808 ≤ after ∧ after ≤ 9223372036854775807) (keep : Nat) (hk : keep < 18446744073709551616) : Calls Tryz.prog 29 #[dptr b, .int .i64 after, .int .u64 (keep : Int)] w fun e w' => e = .returned (.tuple #[]) ∧ LgS w0 b m p (armD d after keep) L G w' ∧ Kps G w w' := by
  obtain ⟨S, T, vs, q, h1, h2, h3⟩ := h
  refine (armL h1.lv after ha keep hk).mono fun e w' r => ⟨r.1, ?_⟩
  obtain ⟨g1, g2⟩ := h1.disk r.2.1 r.2.2
  exact LgS.did h3 ⟨S, T, vs, q, g1, h2, g2⟩
/-- A record of a log whose segments rise. -/
abbrev RiseL (L : List Sg) : Prop := L.Pairwise (fun x y => x.num < y.num)
def uptoL (L : List Sg) (i : Nat) : Nat := (L.filter fun x => decide (x.num ≤ i)).length
theorem upto_map (q : Sgs) (i : Nat) : upto q i = uptoL (q.map (·.1)) i := by
  unfold upto uptoL
  rw [List.filter_map, List.length_map]
  rfl
theorem getG {w0 : World} {b m p : Nat} {d : Dk} {L : List Sg} {G : Nat → Prop} {w : World} (h : LgS w0 b m p d L G w) (hr : RiseL L) {s0 sl : Sg} {L0 L1 : List Sg} (h0 : L = s0 :: L0) (hl : L = L1 ++ [sl]) (i J : Nat) (hi0 : s0.num ≤ i) (hil : i < sl.next) (hi : i ≤ 1000000) (hJ : uptoL L i = J + 1) (N : Nat) (pl : List Nat) (hx : L[J]? = some ⟨N, pl⟩)
    (hin : N ≤ i) (hin2 : i + 1 < N + pl.length) (P Q : Nat) (hP : pl.getD (i - N) 0 = P) (hQ : pl.getD (i + 1 - N) 0 = Q) (hPQ : P + 8 ≤ Q) (hQb : Q ≤ 1099511627776) (hu : usedL d.files ≤ 1099511627776) (hfv : findV d (nameL N) = 0) (hlen : Q ≤ (theF d (nameL N)).bs.length) :
    Calls Tryz.prog 23 #[dptr p, .int .i64 (i : Int)] w fun e w' => ∃ a c, e = .returned (.tuple #[.slice a (Q - (P + 8)) c, .int .i64 0]) ∧ BRow w' a (Q - (P + 8)) c (((theF d (nameL N)).bs.drop (P + 8)).take (Q - (P + 8))) ∧ Below w.heap.size w w' := by
  obtain ⟨S, T, vs, q, h1, h2, h3⟩ := h
  subst h2
  obtain ⟨y0, qr, hq0, _, hy0⟩ := cons_of h0
  obtain ⟨ql, yl, hql, _, hyl⟩ := snoc_of hl
  have hx2 : ∃ xv, q[J]? = some (⟨N, pl⟩, xv) := by
    rw [List.getElem?_map] at hx
    cases hq : q[J]? with
    | none => rw [hq] at hx; cases hx
    | some y =>
      rw [hq] at hx
      simp at hx
      exact ⟨y.2, by rw [← hx]⟩
  obtain ⟨xv, hx2⟩ := hx2
  refine (get_in h1 ((List.pairwise_map (f := fun x : Sg × Value => x.1) (R := fun x y : Sg => x.num < y.num)).1 hr) hq0 hql i J (by rw [hy0]; exact hi0) (by rw [hyl]; exact hil) hi (by rw [upto_map]; exact hJ) N pl xv hx2 hin hin2 P Q hP hQ hPQ hQb hu).mono fun e w' r => ?_
  obtain ⟨r1, r2, r3, r4⟩ := r
  obtain ⟨a, c, r5, r6⟩ := r3 hfv hlen
  exact ⟨a, c, r5, r6, r4⟩
theorem getOutG {w0 : World} {b m p : Nat} {d : Dk} {L : List Sg} {G : Nat → Prop} {w : World} (h : LgS w0 b m p d L G w) {s0 sl : Sg} {L0 L1 : List Sg} (h0 : L = s0 :: L0) (hl : L = L1 ++ [sl]) (i : Int) (hi : i < (s0.num : Int) ∨ (sl.next : Int) ≤ i) :
    Calls Tryz.prog 23 #[dptr p, .int .i64 i] w fun e w' => e = .returned (.tuple #[.slice none 0 0, .int .i64 17]) ∧ Below w.heap.size w w' := by
  obtain ⟨S, T, vs, q, h1, h2, h3⟩ := h
  subst h2
  obtain ⟨y0, qr, hq0, _, hy0⟩ := cons_of h0
  obtain ⟨ql, yl, hql, _, hyl⟩ := snoc_of hl
  exact get_out h1.lg hq0 hql i (by rw [hy0, hyl]; exact hi)
end Go.Proofs.YtkbmblmnhhlicaaGreatDoor
