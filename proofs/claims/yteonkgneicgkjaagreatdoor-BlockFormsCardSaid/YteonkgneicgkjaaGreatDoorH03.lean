
/- Several texts in one. -/
import Derived.Test.YteonkgneicgkjaaGreatDoorH01
import Derived.Test.YteonkgneicgkjaaGreatDoorG50
set_option linter.unusedVariables false
/- How many quotes and items stand within one another; walked. -/
namespace Go.Proofs.YteonkgneicgkjaaGreatDoor
open Go.RowKit

namespace Bs
def deepOne (b : BI) (d : Nat) : Nat := if b.kind = 1 ∨ b.kind = 3 then d + 1 else d
def deep : Bs → Nat
  | nil => 0
  | cons b k r => max (deepOne b (deep k)) (deep r)
def deepTo : Bs → Nat → Nat
  | nil, _ => 0
  | cons _ _ _, 0 => 0
  | cons b k r, i + 1 => max (deepOne b (deep k)) (deepTo r i)
theorem deepTo_zero (k : Bs) : k.deepTo 0 = 0 := by cases k <;> rfl
theorem deepTo_all : ∀ (k : Bs) (i : Nat), k.len ≤ i → k.deepTo i = k.deep
  | nil, i, _ => rfl
  | cons b q r, 0, h => by simp [len] at h
  | cons b q r, i + 1, h => by
    simp only [deepTo, deep]
    rw [deepTo_all r i (by simp only [len] at h; omega)]
theorem deepTo_next : ∀ (k : Bs) (i : Nat) (b : BI) (q : Bs), k.nth i = some (b, q) → k.deepTo (i + 1) = max (k.deepTo i) (deepOne b q.deep)
  | nil, i, b, q, h => by cases h
  | cons c p r, 0, b, q, h => by
    simp only [nth, Option.some.injEq, Prod.mk.injEq] at h
    obtain ⟨rfl, rfl⟩ := h
    simp only [deepTo, deepTo_zero]
    omega
  | cons c p r, i + 1, b, q, h => by
    have := deepTo_next r i b q h
    simp only [deepTo] at this ⊢
    rw [this]
    omega
theorem deepTo_le : ∀ (k : Bs) (i : Nat), k.deepTo i ≤ k.deep
  | nil, i => Nat.le_refl _
  | cons b q r, 0 => Nat.zero_le _
  | cons b q r, i + 1 => by
    have := deepTo_le r i
    simp only [deepTo, deep]
    omega
theorem nth_deep : ∀ (k : Bs) (i : Nat) (b : BI) (q : Bs), k.nth i = some (b, q) → deepOne b q.deep ≤ k.deep
  | nil, i, b, q, h => by cases h
  | cons c p r, 0, b, q, h => by
    simp only [nth, Option.some.injEq, Prod.mk.injEq] at h
    obtain ⟨rfl, rfl⟩ := h
    simp only [deep]; omega
  | cons c p r, i + 1, b, q, h => by
    have := nth_deep r i b q h
    simp only [deep]; omega
end Bs

set_option maxHeartbeats 4000000 in
set_option maxRecDepth 20000 in
theorem bdeep_any : ∀ (m : Nat) (k : Bs), k.size ≤ m → k.deep ≤ 1099511627776 → ∀ (w : World) (v : Value) (A S : Nat → Prop), KidsV w A S v k →
    Calls Tryz.prog 16 #[v] w fun e w' => e = .returned (.int .i64 (k.deep : Int)) ∧ w' = w := by
  intro m
  induction m with
  | zero =>
    intro k hk hd w v A S h
    have hk0 : k = .nil := by cases k with | nil => rfl | cons b q r => simp only [Bs.size] at hk; omega
    subst hk0
    obtain ⟨xs, row, _, _⟩ := h
    obtain ⟨a1, c1, rfl, _⟩ := row_slice row
    clear row
    simp only [Bs.len, Bs.deep]
    go_enter Tryz.func16, Tryz.ntmps16
    go_wp2
    go_loopw [3, 4] (fun n t wr => n = .int .i64 0 ∧ t = .int .i64 0 ∧ wr = w) (fun _ t _ => 0)
    case atStart => exact ⟨rfl, rfl, rfl⟩
    case round =>
      obtain ⟨rfl, rfl, hw⟩ := hrel
      subst hw
      go_wp2
      go_ret
      exact ⟨rfl, rfl⟩
  | succ m ih =>
    intro k hk hd w v A S h
    obtain ⟨xs, row, _, kc⟩ := h
    have hmx : k.len ≤ maxLen := by
      rcases row.2 with ⟨_, q⟩ | ⟨_, _, _, _, _, _, q1, q2, _⟩
      · omega
      · omega
    unfold maxLen at hmx
    obtain ⟨a1, c1, rfl, _⟩ := row_slice row
    have HIh := (show Hid _ from ih)
    clear ih
    go_enter Tryz.func16, Tryz.ntmps16
    go_wp2
    go_loopw [3, 4] (fun n t wr => ∃ i : Nat, t = .int .i64 (i : Int) ∧ i ≤ k.len ∧ n = .int .i64 (k.deepTo i : Int) ∧ wr = w) (fun _ t _ => k.len - (intOf t).toNat)
    case atStart => exact ⟨0, rfl, Nat.zero_le _, by rw [Bs.deepTo_zero]; rfl, rfl⟩
    case round =>
      obtain ⟨i, rfl, hi, rfl, hw⟩ := hrel
      subst hw
      by_cases hlt : i < k.len
      · have hlt' : (i : Int) < (k.len : Int) := by omega
        obtain ⟨b, q, hn⟩ := k.nth_some i hlt
        obtain ⟨y1, z1, e1, r1, _, q1⟩ := kc.nth k xs i b q hn
        obtain ⟨g1, p1, he1, _, f1⟩ := row_at row (by omega)
        cases he1
        have x0 := f1 _ _ (e1 0 _ rfl)
        have x7 := f1 _ _ (e1 7 _ rfl)
        simp only [Nat.add_zero] at x0
        have hqs : q.size ≤ m := by have := k.nth_size i b q hn; omega
        have hqd := k.nth_deep i b q hn
        have HNx : Hid (k.deepTo (i + 1) = max (k.deepTo i) (Bs.deepOne b q.deep)) := k.deepTo_next i b q hn
        have hdt := k.deepTo_le i
        have hq1 : q.deep ≤ 1099511627776 := by unfold Bs.deepOne at hqd; split at hqd <;> omega
        have HC : Hid (Calls Tryz.prog 16 #[y1] wr fun e w' => e = .returned (.int .i64 (q.deep : Int)) ∧ w' = wr) := HIh.out q hqs hq1 wr y1 S S ⟨z1, r1, ‹_›, q1⟩
        clear f1 e1 r1 q1 row kc HIh hn
        generalize k.deepTo i = dd at *
        generalize hqe : q.deep = qd at *
        unfold Bs.deepOne at HNx hqd
        obtain ⟨kd, lv, tx, inf, od, tg, st⟩ := b
        simp only at x0 HNx hqd
        have hcase : (kd = 1 ∨ kd = 3) ∨ (¬ (kd : Int) = 1 ∧ ¬ (kd : Int) = 3) := by omega
        rcases hcase with hk13 | ⟨hk1, hk3⟩
        · rw [if_pos hk13] at HNx hqd
          have hcmp : (dd : Int) < (qd : Int) + 1 ∨ ¬ (dd : Int) < (qd : Int) + 1 := by omega
          rcases hk13 with rfl | rfl
          all_goals
            rcases hcmp with hc | hc
            all_goals
              go_wp2_with (go_at_call 16; refine Calls.mono HC.out ?_; rintro e u ⟨rfl, hu⟩; subst u)
              go_roundw
              case rel => exact ⟨i + 1, by go_num, by omega, by rw [HNx.out]; congr 1; omega, by first | rfl | trivial⟩
              case measure => simp [intOf]; omega
        · rw [if_neg (by omega)] at HNx hqd
          have b1 : ((kd : Int) == 1) = false := by simpa using hk1
          have b3 : ((kd : Int) == 3) = false := by simpa using hk3
          have hcmp : (dd : Int) < (qd : Int) ∨ ¬ (dd : Int) < (qd : Int) := by omega
          rcases hcmp with hc | hc
          all_goals
            go_wp2_with (go_at_call 16; refine Calls.mono HC.out ?_; rintro e u ⟨rfl, hu⟩; subst u)
            go_roundw
            case rel => exact ⟨i + 1, by go_num, by omega, by rw [HNx.out]; congr 1; omega, by first | rfl | trivial⟩
            case measure => simp [intOf]; omega
      · have hge : ¬ (i : Int) < (k.len : Int) := by omega
        have hdl : k.deepTo i = k.deep := k.deepTo_all i (by omega)
        go_wp2
        go_ret
        exact ⟨by rw [← hdl]; rfl, rfl⟩

end Go.Proofs.YteonkgneicgkjaaGreatDoor

/- How often something may begin on a line does not matter, if it is often enough: by what the program was shown to do. -/
namespace Go.Proofs.YteonkgneicgkjaaGreatDoor
open Go.RowKit
open cur (cell_blk free_blk set_blk blk_below Cur cptr Oth)

theorem Calls.gets {P : Program} {f : FuncId} {args : Array Value} {w : World} {Q : Ending → World → Prop} (h : Calls P f args w Q) : ∃ e w', Q e w' := by
  obtain ⟨e, w', _, hq, _⟩ := h []
  exact ⟨e, w', hq⟩

/-- A reader that is reached: some memory holds it. -/
def Run (n : Nat) (s : St) (B : Nat) : Prop := ∃ w r own, Good w r own B s ∧ MLen w ∧ own 0 = 0 ∧ n ≤ B ∧ ∀ q, s.opens.getLast? = some q → q.since n
/-- And a place in its line. -/
def RunL (n : Nat) (s : St) (σ : Pl) (B L : Nat) : Prop := ∃ w r c own, Good w r own B s ∧ MLen w ∧ own 0 = 0 ∧ Cur w c σ ∧ own c = 0 ∧ c ≠ 0 ∧ n ≤ B ∧ wt σ ≤ L ∧ Ready s

theorem run_start : Run 0 St.start 1 := by
  let w0 : World := (default : World).alloc (.cells #[.int .i64 0] 3)
  have hM : MLen w0 := by
    refine ⟨0, ?_⟩
    have hb := new_blk (default : World) #[.int .i64 0] 3
    have hz : (default : World).heap.size = 0 := rfl
    rw [hz] at hb
    exact cell_blk hb (i := 0) rfl
  refine ⟨startW w0, w0.heap.size + 2, startO w0.heap.size, start_good w0, hM.below (start_below w0), start_old _ _ hM.lt, Nat.zero_le _, fun q hq => ?_⟩
  have : q = .doc { first := 0, last := 0 } := by simpa [St.start] using hq.symm
  rw [this]
  trivial

theorem run_cur {n B : Nat} {s : St} (h : Run n s B) (l : Str) (hl : l.length ≤ 536870912) : ∃ w r c own, Good w r own B s ∧ MLen w ∧ own 0 = 0 ∧ Cur w c (l, 0, 0) ∧ own c = 0 ∧ c ≠ 0 := by
  obtain ⟨w, r, own, h1, h2, h3, h4, h5⟩ := h
  obtain ⟨e, u, c, _, hc, hu, hb⟩ := Calls.gets (cur.new_at ⟨l.toArray⟩ w (by rw [size_list]; omega))
  rw [list_data] at hu
  have := h2.lt
  exact ⟨u, r, c, clip own w, (h1.clip).below hb, h2.below hb, by rw [clip_old h2.lt]; exact h3, hu, clip_new hc, by omega⟩

theorem run_read {n B : Nat} {s : St} (h : Run n s B) (l : Str) (hl : l.length ≤ 536870912) (hB : B + lineK (4 * l.length) ≤ 549755813888) : Run (n + 1) (s.read' n l) (B + lineK (4 * l.length)) := by
  obtain ⟨w, r, c, own, g1, g2, g3, g4, g5, g6⟩ := run_cur h l hl
  obtain ⟨_, _, _, _, _, _, hn, hs⟩ := h
  obtain ⟨e, w', _, ⟨own', q1, q2⟩, q3⟩ := Calls.gets (bread_any (L := 4 * l.length) g1 hB g4 g5 hn (Nat.le_refl _) (by omega) g2 g3 g6 hs)
  refine ⟨w', r, own', q1, g2.keeps (q2.1.block 0 g2.lt (fun z => ?_)), q2.2 0 g2.lt g3, by simp only [lineK]; omega, q3⟩
  rcases z with z | z
  · exact z g3
  · exact g6 z.symm

theorem run_go {n B : Nat} {s : St} (h : Run n s B) (l : Str) (hl : l.length ≤ 536870912) (hB : B + lineK (4 * l.length) ≤ 549755813888) (h0 : (s.goOn endsX n (l, 0, 0)).1 = 0) : RunL n (s.goOn endsX n (l, 0, 0)).2.1 (s.goOn endsX n (l, 0, 0)).2.2 (B + 3 * (4 * l.length + 1)) (4 * l.length) := by
  obtain ⟨w, r, c, own, g1, g2, g3, g4, g5, g6⟩ := run_cur h l hl
  obtain ⟨_, _, _, ⟨N, _, hwf⟩, _, _, hn, hs⟩ := h
  simp only [lineK] at hB
  have hwt : wt ((l, 0, 0) : Pl) ≤ 4 * l.length := by unfold wt; simp only; omega
  obtain ⟨a1, a2, a3, a4⟩ := goOn_after (n := n) (σ := ((l, 0, 0) : Pl)) hwf hs
  obtain ⟨e, w', _, own', q1, q2, q3⟩ := Calls.gets (bgoOn_any (L := 4 * l.length) g1 (by omega) g4 g5 hn hwt (by omega) g2 g3 g6 hs)
  have hc := g4.lt
  refine ⟨w', r, c, own', q1, g2.keeps (q3.1.block 0 g2.lt (fun z => ?_)), q3.2 0 g2.lt g3, q2, q3.2 c hc g5, g6, by omega, Nat.le_trans a4 hwt, a1 h0⟩
  rcases z with z | z
  · exact z g3
  · exact g6 z.symm

theorem run_begin {n B L : Nat} {s : St} {σ : Pl} (h : RunL n s σ B L) (hB : B + 3 * (L + 1) + 3 ≤ 549755813888) (hL : L ≤ 2147483648) (h0 : (s.begin' n σ).1 = 0) : RunL n (s.begin' n σ).2.1 (s.begin' n σ).2.2 (B + 2) L ∧ mu (s.begin' n σ).2.1 (s.begin' n σ).2.2 < mu s σ := by
  obtain ⟨w, r, c, own, g1, g2, g3, g4, g5, g6, g7, g8, g9⟩ := h
  obtain ⟨N, hwf⟩ := g1.wf
  obtain ⟨a1, a2, a3, a4, a5⟩ := begin_after (n := n) (σ := σ) hwf g9
  obtain ⟨e, w', _, own', q1, q2, q3⟩ := Calls.gets (bbegin_any (K := 2) g1 (by omega) g9.on g9.leaf g4 g5 g7 (Nat.le_refl _) g8 hL (fun q => absurd h0 q) g2 g3 g6)
  refine ⟨⟨w', r, c, own', q1, g2.keeps (q3.1.block 0 g2.lt (fun z => ?_)), q3.2 0 g2.lt g3, q2, q3.2 c g4.lt g5, g6, by omega, Nat.le_trans a4 g8, (a1 h0).1⟩, (a1 h0).2⟩
  rcases z with z | z
  · exact z g3
  · exact g6 z.symm

end Go.Proofs.YteonkgneicgkjaaGreatDoor

/- Plain mathematics: places without tabs, so many columns further on. -/
namespace Go.Proofs.YteonkgneicgkjaaGreatDoor

/-- The same place in what is left of a line, d columns further on, without tabs. -/
structure PQ (d : Nat) (σ σ' : Pl) : Prop where
  left : σ'.1 = σ.1
  part : σ.2.1 = 0
  part' : σ'.2.1 = 0
  col : σ'.2.2 = σ.2.2 + d
  tabs : ∀ c ∈ σ.1, c ≠ 9

theorem PQ.step {d : Nat} {σ σ' : Pl} (h : PQ d σ σ') : (stepR σ = none ∧ stepR σ' = none) ∨ ∃ τ τ', stepR σ = some τ ∧ stepR σ' = some τ' ∧ PQ d τ τ' := by
  obtain ⟨l, p, c⟩ := σ
  obtain ⟨l', p', c'⟩ := σ'
  obtain ⟨h1, h2, h3, h4, h5⟩ := h
  simp only at h1 h2 h3 h4 h5
  subst h1
  subst h2
  subst h3
  subst h4
  cases l' with
  | nil => exact .inl ⟨rfl, rfl⟩
  | cons b t =>
    have hb := h5 b (List.mem_cons_self ..)
    simp only [stepR]
    by_cases hi : isB b = true
    · right
      rw [if_pos hi, if_pos hi, wid_other hb, wid_other hb]
      exact ⟨_, _, rfl, rfl, rfl, rfl, rfl, by show c + d + 1 = c + 1 + d; omega, fun x hx => h5 x (List.mem_cons_of_mem _ hx)⟩
    · left
      rw [if_neg hi, if_neg hi]
      exact ⟨rfl, rfl⟩
theorem PQ.blank {d : Nat} {σ σ' : Pl} (h : PQ d σ σ') : blankB σ' = blankB σ := by unfold blankB; rw [h.left]
theorem PQ.len {d : Nat} {σ σ' : Pl} (h : PQ d σ σ') : σ'.1.length = σ.1.length := by rw [h.left]

end Go.Proofs.YteonkgneicgkjaaGreatDoor

/- Plain mathematics: a reader within a container of another one. -/
namespace Go.Proofs.YteonkgneicgkjaaGreatDoor

theorem holdLast_snoc (X : List Part) (q p : Part) : St.holdLast (X ++ [q]) p = X ++ [q.hold p] := by
  unfold St.holdLast
  rw [List.getLast?_append]
  simp

/-- Behind P stands a container in which is what is in the document of the other reader; all else is the same. -/
structure NR (K : Bool) (P : List Part) (s s' : St) : Prop where
  ex : ∃ d c r, s.opens = .doc d :: r ∧ s'.opens = P ++ c :: r ∧ toldK c = d.kids ∧ c.isQuote = K ∧ c.isItem = !K
  on : s'.on = s.on + P.length
  defs : s'.defs = s.defs
  hon : 1 ≤ s.on

theorem kind_of {K : Bool} {c : Part} (h : c.isQuote = K ∧ c.isItem = !K) : c.isQuote = true ∨ c.isItem = true := by
  cases K
  · exact .inr h.2
  · exact .inl h.1
theorem kind_hold (c p : Part) : (c.hold p).isQuote = c.isQuote ∧ (c.hold p).isItem = c.isItem := by cases c <;> exact ⟨rfl, rfl⟩
theorem hold_same {c : Part} {d : Box} (h : toldK c = d.kids) (hc : c.isQuote = true ∨ c.isItem = true) (p : Part) : toldK (c.hold p) = (d.hold p).kids ∧ ((c.hold p).isQuote = true ∨ (c.hold p).isItem = true) := by
  cases c with
  | quote b =>
    have h : b.kids = d.kids := h
    refine ⟨?_, .inl rfl⟩
    show (b.hold p).kids = (d.hold p).kids
    unfold Box.hold
    simp only [h]
  | item b w =>
    have h : b.kids = d.kids := h
    refine ⟨?_, .inr rfl⟩
    show (b.hold p).kids = (d.hold p).kids
    unfold Box.hold
    simp only [h]
  | _ => rcases hc with q | q <;> cases q

theorem NR.len {K : Bool} {P : List Part} {s s' : St} (h : NR K P s s') : s'.opens.length = s.opens.length + P.length := by
  obtain ⟨d, c, r, e1, e2, _⟩ := h.ex
  rw [e1, e2]
  simp
  omega
/-- The last part: the same, or the document and the container. -/
theorem NR.last {K : Bool} {P : List Part} {s s' : St} (h : NR K P s s') : (∃ d c, s.opens.getLast? = some (.doc d) ∧ s'.opens.getLast? = some c ∧ (c.isQuote = true ∨ c.isItem = true)) ∨ (s'.opens.getLast? = s.opens.getLast? ∧ 2 ≤ s.opens.length) := by
  obtain ⟨d, c, r, e1, e2, e3, e4⟩ := h.ex
  cases r with
  | nil => left; exact ⟨d, c, by rw [e1]; rfl, by rw [e2]; simp, kind_of e4⟩
  | cons a t =>
    right
    rw [e1, e2]
    refine ⟨?_, by simp⟩
    rw [List.getLast?_append, List.getLast?_cons_cons, List.getLast?_cons_cons]
    cases hq : (a :: t).getLast? with
    | none => rw [List.getLast?_eq_none_iff] at hq; cases hq
    | some q => rfl
theorem NR.hasPara {K : Bool} {P : List Part} {s s' : St} (h : NR K P s s') : s'.hasPara = s.hasPara := by
  unfold St.hasPara
  rcases h.last with ⟨d, c, e1, e2, e3⟩ | ⟨e, _⟩
  · rw [e1, e2]
    cases c <;> first | rfl | (rcases e3 with q | q <;> cases q)
  · rw [e]
theorem NR.inList {K : Bool} {P : List Part} {s s' : St} (h : NR K P s s') : s'.inList = s.inList := by
  unfold St.inList
  rcases h.last with ⟨d, c, e1, e2, e3⟩ | ⟨e, _⟩
  · rw [e1, e2]
    cases c <;> first | rfl | (rcases e3 with q | q <;> cases q)
  · rw [e]
theorem NR.sign {K : Bool} {P : List Part} {s s' : St} (h : NR K P s s') : s'.opens.getLast?.bind St.listSign = s.opens.getLast?.bind St.listSign := by
  rcases h.last with ⟨d, c, e1, e2, e3⟩ | ⟨e, _⟩
  · rw [e1, e2]
    cases c <;> first | rfl | (rcases e3 with q | q <;> cases q)
  · rw [e]
theorem NR.two {K : Bool} {P : List Part} {s s' : St} (h : NR K P s s') (hp : s.hasPara = true ∨ s.inList = true) : 2 ≤ s.opens.length := by
  obtain ⟨d, c, r, e1, _⟩ := h.ex
  exact para_len ⟨d, by rw [e1]; rfl⟩ hp

theorem NR.close {K : Bool} {P : List Part} {s s' : St} (h : NR K P s s') (h2 : 2 ≤ s.opens.length) : NR K P s.close s'.close := by
  obtain ⟨d, c, r, e1, e2, e3, e4⟩ := h.ex
  have hon := h.hon
  obtain ⟨r0, p, rfl⟩ : ∃ r0 p, r = r0 ++ [p] := by
    cases hq : r.getLast? with
    | none => rw [List.getLast?_eq_none_iff] at hq; rw [e1, hq] at h2; simp at h2
    | some p => obtain ⟨ys, hy⟩ := List.getLast?_eq_some_iff.1 hq; exact ⟨ys, p, hy⟩
  have l1 : s.opens.getLast? = some p := by rw [e1, ← List.cons_append, List.getLast?_append]; rfl
  have l2 : s'.opens.getLast? = some p := by rw [e2, ← List.cons_append, ← List.append_assoc, List.getLast?_append]; rfl
  have d1 : s.opens.dropLast = .doc d :: r0 := by rw [e1, ← List.cons_append, List.dropLast_concat]
  have d2 : s'.opens.dropLast = P ++ c :: r0 := by rw [e2, ← List.cons_append, ← List.append_assoc, List.dropLast_concat]
  have hlen := h.len
  unfold St.close
  rw [l1, l2]
  simp only
  rw [d1, d2, h.defs]
  refine ⟨?_, ?_, rfl, ?_⟩
  · simp only
    cases hr : r0.getLast? with
    | none =>
      rw [List.getLast?_eq_none_iff] at hr
      subst hr
      obtain ⟨k1, _⟩ := hold_same e3 (kind_of e4) (St.takeOff p s.defs).1
      have k2 := kind_hold c (St.takeOff p s.defs).1
      rw [e4.1, e4.2] at k2
      refine ⟨d.hold (St.takeOff p s.defs).1, c.hold (St.takeOff p s.defs).1, [], ?_, ?_, k1, k2⟩
      · exact holdLast_snoc [] (.doc d) _
      · exact holdLast_snoc P c _
    | some q =>
      obtain ⟨r1, rfl⟩ := List.getLast?_eq_some_iff.1 hr
      refine ⟨d, c, r1 ++ [q.hold (St.takeOff p s.defs).1], ?_, ?_, e3, e4⟩
      · have := holdLast_snoc (.doc d :: r1) q (St.takeOff p s.defs).1
        simpa using this
      · have := holdLast_snoc (P ++ c :: r1) q (St.takeOff p s.defs).1
        simpa using this
  · show min s'.on (s'.opens.length - 1) = min s.on (s.opens.length - 1) + P.length
    rw [h.on, hlen]
    omega
  · show 1 ≤ min s.on (s.opens.length - 1)
    omega

theorem leaveF_fuel : ∀ (f g : Nat) (s : St), 1 ≤ s.on → s.opens.length - s.on ≤ f → s.opens.length - s.on ≤ g → St.leaveF f s = St.leaveF g s
  | 0, 0, s, _, _, _ => rfl
  | 0, g + 1, s, _, h, _ => by
    simp only [St.leaveF]
    rw [if_neg (by omega)]
  | f + 1, 0, s, _, _, h => by
    simp only [St.leaveF]
    rw [if_neg (by omega)]
  | f + 1, g + 1, s, h1, hf, hg => by
    simp only [St.leaveF]
    split
    · have h2 : 2 ≤ s.opens.length := by omega
      obtain ⟨a, b⟩ := close_len' h2
      exact leaveF_fuel f g s.close (by rw [b]; omega) (by rw [a, b]; omega) (by rw [a, b]; omega)
    · rfl
theorem NR.leaveF {K : Bool} {P : List Part} : ∀ (f : Nat) {s s' : St}, NR K P s s' → NR K P (St.leaveF f s) (St.leaveF f s')
  | 0, s, s', h => h
  | f + 1, s, s', h => by
    simp only [St.leaveF]
    rw [h.on, h.len]
    have := h.hon
    by_cases hl : s.on < s.opens.length
    · rw [if_pos hl, if_pos (by omega)]
      exact NR.leaveF f (h.close (by omega))
    · rw [if_neg hl, if_neg (by omega)]
      exact h
theorem NR.leave {K : Bool} {P : List Part} {s s' : St} (h : NR K P s s') : NR K P s.leave s'.leave := by
  have h1 : s'.leave = St.leaveF s.opens.length s' := by
    unfold St.leave
    have := h.hon
    exact leaveF_fuel _ _ s' (by rw [h.on]; omega) (by omega) (by rw [h.on, h.len]; omega)
  rw [h1]
  exact h.leaveF _
theorem NR.clear {K : Bool} {P : List Part} {s s' : St} (h : NR K P s s') : NR K P s.clear s'.clear := by
  unfold St.clear
  rw [h.leave.hasPara]
  split
  · rename_i hp
    exact h.leave.close (h.leave.two (.inl hp))
  · exact h.leave
theorem NR.push {K : Bool} {P : List Part} {s s' : St} (h : NR K P s s') (p : Part) : NR K P (s.push p) (s'.push p) := by
  obtain ⟨d, c, r, e1, e2, e3, e4⟩ := h.ex
  refine ⟨⟨d, c, r ++ [p], by show s.opens ++ [p] = _; rw [e1]; rfl, by show s'.opens ++ [p] = _; rw [e2]; simp, e3, e4⟩, ?_, h.defs, Nat.succ_le_succ (Nat.zero_le _)⟩
  show s'.opens.length + 1 = s.opens.length + 1 + P.length
  rw [h.len]
  omega
theorem NR.stand {K : Bool} {P : List Part} {s s' : St} (h : NR K P s s') (p : Part) : NR K P (s.stand p) (s'.stand p) := by
  unfold St.stand
  rw [h.clear.inList]
  split
  · rename_i hi
    exact (h.clear.close (h.clear.two (.inr hi))).push p
  · exact h.clear.push p
end Go.Proofs.YteonkgneicgkjaaGreatDoor

/- Plain mathematics: a reader within a container of another one: a line. -/
namespace Go.Proofs.YteonkgneicgkjaaGreatDoor

/-- The container goes on over what stands ahead of the line. -/
def Ahead (K : Bool) (P : List Part) (n d : Nat) (s' : St) (L l : Str) : Prop := ∀ c r, s'.opens = P ++ c :: r → c.isQuote = K ∧ c.isItem = !K → ∃ c', toldK c' = toldK c ∧ (c'.isQuote = K ∧ c'.isItem = !K) ∧ goF n s'.opens.length s'.opens 0 (L, 0, 0) = (P ++ c' :: (goF n s'.opens.length r (P.length + 1) (l, 0, d)).1, (goF n s'.opens.length r (P.length + 1) (l, 0, d)).2)

/-- There is room in both. -/
def Rooms (P : List Part) : Prop := P.countP Part.isDeep = 0
theorem NR.room {K : Bool} {P : List Part} {s s' : St} (h : NR K P s s') (hP : Rooms P) (hd : s.opens.countP Part.isDeep ≤ 22) : s.room = true ∧ s'.room = true := by
  obtain ⟨d, c, r, e1, e2, e3, e4⟩ := h.ex
  have hc : ∀ (l : List Part) (k : Nat), (l.take k).countP Part.isDeep ≤ l.countP Part.isDeep := fun l k => (List.take_sublist k l).countP_le
  constructor
  · unfold St.room
    rw [decide_eq_true_eq]
    have := hc s.opens s.on
    omega
  · unfold St.room
    rw [decide_eq_true_eq]
    have h1 := hc s'.opens s'.on
    have h2 : s'.opens.countP Part.isDeep ≤ 23 := by
      rw [e2, List.countP_append, List.countP_cons]
      rw [e1, List.countP_cons] at hd
      have hP : P.countP Part.isDeep = 0 := hP
      rw [hP]
      have h3 : (if (Part.doc d).isDeep = true then 1 else 0) = 0 := rfl
      rw [h3] at hd
      split <;> omega
    omega

end Go.Proofs.YteonkgneicgkjaaGreatDoor

/- Plain mathematics: what stands deep while a text is read stands deep in the end. -/
namespace Go.Proofs.YteonkgneicgkjaaGreatDoor

def deepN (p : Part) : Nat := if p.isDeep then 1 else 0
/-- How deep anything stands in what is open. -/
def dpL : Nat → List Part → Nat
  | _, [] => 0
  | k, p :: r => max (k + deepN p + (toldK p).deep) (dpL (k + deepN p) r)
def cntL : List Part → Nat
  | [] => 0
  | p :: r => deepN p + cntL r
def Dp (s : St) : Nat := dpL 0 s.opens

theorem cnt_eq : ∀ l : List Part, cntL l = l.countP Part.isDeep
  | [] => rfl
  | p :: r => by
    simp only [cntL, List.countP_cons, cnt_eq r, deepN]
    split <;> omega
theorem dp_append : ∀ (a b : List Part) (k : Nat), dpL k (a ++ b) = max (dpL k a) (dpL (k + cntL a) b)
  | [], b, k => by simp [dpL, cntL]
  | p :: a, b, k => by
    simp only [List.cons_append, dpL, cntL]
    rw [dp_append a b, show k + (deepN p + cntL a) = k + deepN p + cntL a by omega]
    omega
theorem dp_count : ∀ (l : List Part) (k : Nat), l ≠ [] → k + cntL l ≤ dpL k l
  | [], k, h => absurd rfl h
  | [p], k, _ => by simp only [dpL, cntL]; omega
  | p :: q :: r, k, _ => by
    have := dp_count (q :: r) (k + deepN p) (by simp)
    simp only [dpL, cntL] at this ⊢
    omega
theorem dp_one (k : Nat) (p : Part) : dpL k [p] = k + deepN p + (toldK p).deep := by simp [dpL]

theorem snoc_deep : ∀ (l : Bs) (b : BI) (k : Bs), (l.snoc b k).deep = max l.deep (Bs.deepOne b k.deep)
  | .nil, b, k => by simp [Bs.snoc, Bs.deep]
  | .cons c q r, b, k => by
    simp only [Bs.snoc, Bs.deep]
    rw [snoc_deep r b k]
    omega
theorem told_val (p : Part) (h : toldO p = true) : deepN p + (toldK p).deep ≤ Bs.deepOne (toldB p) (toldK p).deep := by
  cases p with
  | quote b => simp [deepN, Part.isDeep, toldB, Bs.deepOne]; omega
  | item b w => simp [deepN, Part.isDeep, toldB, Bs.deepOne]; omega
  | _ => simp only [deepN, Part.isDeep, Bs.deepOne, Bool.false_eq_true, if_false]; split <;> omega
theorem gone_val (p : Part) (h : toldO p = false) : deepN p + (toldK p).deep = 0 := by
  cases p <;> first | rfl | (cases h; done)
theorem box_val (b : Box) (p : Part) : b.kids.deep ≤ (b.hold p).kids.deep ∧ deepN p + (toldK p).deep ≤ (b.hold p).kids.deep := by
  have he : (b.hold p).kids = match p.told with | some (i, k) => b.kids.snoc i k | none => b.kids := rfl
  rw [he, told_eq]
  cases h : toldO p
  · simp only [Bool.false_eq_true, if_false]
    have := gone_val p h
    omega
  · simp only [if_true]
    rw [snoc_deep]
    have := told_val p h
    omega
theorem hold_val {c : Part} (hc : c.isC = true) (p : Part) : (toldK c).deep ≤ (toldK (c.hold p)).deep ∧ deepN p + (toldK p).deep ≤ (toldK (c.hold p)).deep ∧ deepN (c.hold p) = deepN c := by
  cases c with
  | doc b => exact ⟨(box_val b p).1, (box_val b p).2, rfl⟩
  | quote b => exact ⟨(box_val b p).1, (box_val b p).2, rfl⟩
  | list b m => exact ⟨(box_val b p).1, (box_val b p).2, rfl⟩
  | item b w => exact ⟨(box_val b p).1, (box_val b p).2, rfl⟩
  | _ => cases hc
theorem off_val (p : Part) (d : List Df) : deepN (St.takeOff p d).1 + (toldK (St.takeOff p d).1).deep = deepN p + (toldK p).deep := by cases p <;> rfl

theorem dp_close {s : St} {n : Nat} (hn : s.opens.length = n + 2) (hc : ∀ c, s.opens[n]? = some c → c.isC = true) : Dp s ≤ Dp s.close := by
  obtain ⟨r, p, hr⟩ : ∃ r p, s.opens = r ++ [p] := by
    cases hq : s.opens.getLast? with
    | none => rw [List.getLast?_eq_none_iff] at hq; rw [hq] at hn; simp at hn
    | some p => obtain ⟨ys, hy⟩ := List.getLast?_eq_some_iff.1 hq; exact ⟨ys, p, hy⟩
  obtain ⟨X, q, hX⟩ : ∃ X q, r = X ++ [q] := by
    cases hq : r.getLast? with
    | none => rw [List.getLast?_eq_none_iff] at hq; rw [hr, hq] at hn; simp at hn
    | some p => obtain ⟨ys, hy⟩ := List.getLast?_eq_some_iff.1 hq; exact ⟨ys, p, hy⟩
  subst hX
  have hqc : q.isC = true := hc q (by
    have hl : X.length = n := by have := congrArg List.length hr; rw [hn] at this; simp at this; omega
    rw [hr, List.getElem?_append_left (by simp; omega), ← hl]
    simp)
  have e : s.close.opens = X ++ [q.hold (St.takeOff p s.defs).1] := by
    unfold St.close
    rw [hr, List.getLast?_append]
    simp only [List.getLast?_singleton, Option.some_or, List.dropLast_concat]
    exact holdLast_snoc X q _
  obtain ⟨a, b, c⟩ := hold_val hqc (St.takeOff p s.defs).1
  have d := off_val p s.defs
  unfold Dp
  rw [e, hr, dp_append, dp_append, dp_append, dp_one, dp_one, dp_one, c]
  have hcn : ∀ x : List Part, cntL (x ++ [q]) = cntL x + deepN q := fun x => by
    induction x with
    | nil => simp [cntL]
    | cons y t ih => simp only [List.cons_append, cntL, ih]; omega
  rw [hcn]
  omega
theorem dp_push (s : St) (p : Part) : Dp s ≤ Dp (s.push p) := by
  unfold Dp
  show dpL 0 s.opens ≤ dpL 0 (s.opens ++ [p])
  rw [dp_append]
  omega
theorem dp_same {k : Nat} : ∀ {l l' : List Part}, l'.map (fun p => (deepN p, toldK p)) = l.map (fun p => (deepN p, toldK p)) → dpL k l' = dpL k l := by
  intro l
  induction l generalizing k with
  | nil => intro l' h; have : l' = [] := by simpa using h
           subst this; rfl
  | cons p r ih =>
    intro l' h
    cases l' with
    | nil => simp at h
    | cons p' r' =>
      simp only [List.map_cons, List.cons.injEq, Prod.mk.injEq] at h
      simp only [dpL]
      rw [h.1.1, h.1.2, ih h.2]

theorem dp_closeW {B N : Nat} {s : St} (h : Wf B N s) (h2 : 2 ≤ s.opens.length) : Dp s ≤ Dp s.close := by
  obtain ⟨n, hn⟩ : ∃ n, s.opens.length = n + 2 := ⟨s.opens.length - 2, by omega⟩
  exact dp_close hn (fun c hc => h.cont n c hc (by omega))
theorem dp_leave : ∀ (k B N : Nat) (s : St), s.opens.length = k → Wf B N s → 1 ≤ s.on → Dp s ≤ Dp s.leave := by
  intro k
  induction k with
  | zero => intro B N s hk h h1; have := h.on; omega
  | succ k ih =>
    intro B N s hk h h1
    by_cases hlt : s.on < s.opens.length
    · obtain ⟨N2, w2, _, e2, o2, _⟩ := close_last h (by omega)
      rw [leave_next hlt e2]
      exact Nat.le_trans (dp_closeW h (by omega)) (ih B N2 s.close (by omega) w2 (by rw [o2]; omega))
    · rw [leave_stop hlt]
      exact Nat.le_refl _
theorem dp_clear {B N : Nat} {s : St} (h : Wf B N s) (h1 : 1 ≤ s.on) : Dp s ≤ Dp s.clear := by
  obtain ⟨N1, w1, o1⟩ := leave_wf _ B N s rfl h h1
  have hl := dp_leave _ B N s rfl h h1
  unfold St.clear
  split
  · rename_i hp
    exact Nat.le_trans hl (dp_closeW w1 (para_two w1 hp))
  · exact hl
theorem dp_stand {B N : Nat} {s : St} (h : Wf B N s) (h1 : 1 ≤ s.on) (p : Part) : Dp s ≤ Dp (s.stand p) := by
  obtain ⟨N1, w1, o1⟩ := clear_wf h h1
  have hl := dp_clear h h1
  unfold St.stand
  split
  · rename_i hi
    exact Nat.le_trans hl (Nat.le_trans (dp_closeW w1 (list_two w1 hi)) (dp_push _ _))
  · exact Nat.le_trans hl (dp_push _ _)
theorem dp_standClose {B N : Nat} {s : St} (h : Wf B N s) (hr : Ready s) (p : Part) : Dp s ≤ Dp (s.stand p).close := by
  obtain ⟨X, e1, e2, e3, e4⟩ := stand_on h hr.on hr.leaf p
  obtain ⟨n, hn⟩ : ∃ n, X.length = n + 1 := ⟨X.length - 1, by have := List.length_pos_iff.2 e3; omega⟩
  refine Nat.le_trans (dp_stand h hr.on p) (dp_close (n := n) (by rw [e1, List.length_append, hn]; rfl) (fun c hc => e4 c ?_))
  rw [e1, List.getElem?_append_left (by omega)] at hc
  rw [List.getLast?_eq_getElem?, hn]
  exact hc
/-- The last part is a leaf, and is exchanged for one. -/
theorem dp_set {s : St} {p p' : Part} (h : s.opens.getLast? = some p) (hv : deepN p' = deepN p ∧ toldK p' = toldK p) (on : Nat) (df : List Df) : Dp { s with opens := s.opens.dropLast ++ [p'], on := on, defs := df } = Dp s := by
  unfold Dp
  refine dp_same ?_
  obtain ⟨ys, hy⟩ := List.getLast?_eq_some_iff.1 h
  show (s.opens.dropLast ++ [p']).map _ = _
  rw [hy, List.dropLast_concat, List.map_append, List.map_append]
  simp only [List.map_cons, List.map_nil, hv.1, hv.2]

theorem dp_begin {B N n : Nat} {s : St} {σ : Pl} (h : Wf B N s) (hr : Ready s) : Dp s ≤ Dp (s.begin' n σ).2.1 := by
  unfold St.begin' St.begin
  simp only
  split
  · unfold St.beginIndented
    split
    · exact Nat.le_refl _
    · exact dp_stand h hr.on _
  split
  · exact dp_stand h hr.on _
  split
  · exact dp_standClose h hr _
  split
  · exact dp_stand h hr.on _
  split
  · show Dp s ≤ Dp (s.beginHtml endsX n σ (htmlL (beh σ.1)))
    unfold St.beginHtml
    simp only
    split
    · exact dp_stand h hr.on _
    · exact dp_standClose h hr _
  split
  · rename_i hu
    obtain ⟨x, l, hlast⟩ := isClose_para hu.2
    have h2 := h.two hlast rfl
    obtain ⟨m, hm⟩ : ∃ m, s.opens.length = m + 2 := ⟨s.opens.length - 2, by omega⟩
    have key : ∀ (x' : Body) (l' : Nat) (d : List Df), Dp s ≤ Dp (St.close { s with opens := s.opens.dropLast ++ [.para x' l'], defs := d }) := by
      intro x' l' d
      have e := dp_set (p' := .para x' l') hlast ⟨rfl, rfl⟩ s.on d
      rw [← e]
      refine dp_close (n := m) (by show (s.opens.dropLast ++ [_]).length = m + 2; rw [List.length_append, List.length_dropLast, hm]; rfl) (fun c hcc => ?_)
      have hcc : (s.opens.dropLast ++ [Part.para x' l'])[m]? = some c := hcc
      rw [List.getElem?_append_left (by rw [List.length_dropLast]; omega), List.getElem?_dropLast, if_pos (by omega)] at hcc
      exact h.cont m c hcc (by omega)
    unfold St.underline
    rw [hlast]
    simp only
    split
    · exact key _ _ _
    · exact key _ _ _
  split
  · exact dp_standClose h hr _
  split
  · unfold St.beginItem
    simp only
    refine Nat.le_trans ?_ (dp_push _ _)
    split
    · exact dp_clear h hr.on
    · obtain ⟨N1, w1, o1⟩ := clear_wf h hr.on
      exact Nat.le_trans (dp_clear h hr.on) (dp_stand w1 o1 _)
  · exact Nat.le_refl _
theorem dp_text {B N n : Nat} {s : St} {σ : Pl} (h : Wf B N s) (hr : Ready s) : Dp s ≤ Dp (s.text n σ) := by
  unfold St.text
  split
  · exact dp_clear h hr.on
  · split
    · rename_i b l hl
      have e := dp_set (p' := .para (b.add n (beh σ.1)) l) hl ⟨rfl, rfl⟩ s.on s.defs
      exact Nat.le_of_eq e.symm
    · exact dp_stand h hr.on _

end Go.Proofs.YteonkgneicgkjaaGreatDoor

/- Plain mathematics: what is quoted is what it is. -/
namespace Go.Proofs.YteonkgneicgkjaaGreatDoor

theorem goF_val (n len : Nat) : ∀ (l : List Part) (i : Nat) (σ : Pl), (goF n len l i σ).1.map (fun p => (deepN p, toldK p)) = l.map (fun p => (deepN p, toldK p))
  | [], i, σ => rfl
  | p :: r, i, σ => by
    have hv : ∀ f τ, (deepN (p.goesOn n f τ).2.1, toldK (p.goesOn n f τ).2.1) = (deepN p, toldK p) := fun f τ => by
      have h := goes_P n f τ p
      rw [h.2.2.1]
      congr 1
      unfold deepN
      congr 1
      cases p with
      | quote b => simp only [Part.goesOn]; split <;> rfl
      | item b w => simp only [Part.goesOn]; repeat' split
                    all_goals rfl
      | _ => rfl
    simp only [goF]
    split
    · simp only [List.map_cons, goF_val n len r (i + 1) σ]
    · split
      · simp only [List.map_cons, hv]
      · simp only [List.map_cons, hv, goF_val n len r (i + 1) _]
theorem takes_val (n : Nat) (σ : Pl) (p : Part) : deepN (p.takes endsX n σ).2.2.1 = deepN p ∧ toldK (p.takes endsX n σ).2.2.1 = toldK p := by
  cases p with
  | fenced b c k i t => simp only [Part.takes]; split <;> exact ⟨rfl, rfl⟩
  | indented b => simp only [Part.takes]; split <;> exact ⟨rfl, rfl⟩
  | html b k => simp only [Part.takes]; split <;> exact ⟨rfl, rfl⟩
  | _ => exact ⟨rfl, rfl⟩

theorem dp_goOn {B N n : Nat} {s : St} (h : Wf B N s) (σ : Pl) : Dp s ≤ Dp (s.goOn endsX n σ).2.1 := by
  obtain ⟨o, τ, e, hg⟩ : ∃ o τ e, goF n s.opens.length s.opens 0 σ = (o, τ, e) := ⟨_, _, _, rfl⟩
  have hv := goF_val n s.opens.length s.opens 0 σ
  have hm := goF_C n s.opens.length s.opens 0 σ
  have hol := goF_len n s.opens.length s.opens 0 σ
  rw [hg] at hv hm hol
  have hD : ∀ on df, Dp ⟨o, on, df⟩ = Dp s := fun on df => dp_same hv
  cases e with
  | some j => rw [goOn_some hg]; exact Nat.le_of_eq (hD _ _).symm
  | none =>
    obtain ⟨p, hp⟩ : ∃ p, o.getLast? = some p := by
      obtain ⟨m, q, hq, _⟩ := h.last
      cases hq2 : o.getLast? with
      | none => rw [List.getLast?_eq_none_iff] at hq2; have : o.length = s.opens.length := hol; rw [hq2, hq] at this; simp at this
      | some p => exact ⟨p, rfl⟩
    cases hl : p.isLined
    · rw [goOn_stay hg hp hl]; exact Nat.le_of_eq (hD _ _).symm
    · rw [goOn_takes hg hp hl]
      have hs : Dp { s with opens := o.dropLast ++ [(p.takes endsX n τ).2.2.1], on := o.length } = Dp s := by
        have := dp_set (s := ⟨o, o.length, s.defs⟩) hp (takes_val n τ p) o.length s.defs
        exact this.trans (hD _ _)
      simp only
      split
      · exact Nat.le_of_eq hs.symm
      · rw [← hs]
        have hc : p.isC = false := by cases p <;> first | rfl | (cases hl; done)
        have hgl := goF_last n _ _ _ _ p (by rw [hg]; exact hp) hc
        have h2 : 2 ≤ s.opens.length := h.two hgl (by cases p <;> first | rfl | (cases hl; done))
        have hol : o.length = s.opens.length := hol
        obtain ⟨m, hmm⟩ : ∃ m, o.length = m + 2 := ⟨o.length - 2, by omega⟩
        refine dp_close (n := m) (by show (o.dropLast ++ [_]).length = m + 2; rw [List.length_append, List.length_dropLast, hmm]; rfl) (fun c hcc => ?_)
        have hcc : (o.dropLast ++ [(p.takes endsX n τ).2.2.1])[m]? = some c := hcc
        rw [List.getElem?_append_left (by rw [List.length_dropLast]; omega), List.getElem?_dropLast, if_pos (by omega)] at hcc
        have hm : o.map Part.isC = s.opens.map Part.isC := hm
        have h1 : (o.map Part.isC)[m]? = some c.isC := by rw [List.getElem?_map, hcc]; rfl
        rw [hm, List.getElem?_map] at h1
        obtain ⟨c', hc', e⟩ : ∃ c', s.opens[m]? = some c' ∧ c'.isC = c.isC := by
          cases hq : s.opens[m]? with
          | none => rw [hq] at h1; cases h1
          | some c' => rw [hq] at h1; exact ⟨c', rfl, by simpa using h1⟩
        rw [← e]
        exact h.cont m c' hc' (by omega)

theorem RunL.wf {n B L : Nat} {s : St} {σ : Pl} (h : RunL n s σ B L) : (∃ N, Wf B N s) ∧ Ready s := by
  obtain ⟨w, r, c, own, g1, _, _, _, _, _, _, _, g9⟩ := h
  exact ⟨g1.wf, g9⟩
theorem Run.wf {n B : Nat} {s : St} (h : Run n s B) : (∃ N, Wf B N s) ∧ ∀ q, s.opens.getLast? = some q → q.since n := by
  obtain ⟨w, r, own, g1, _, _, _, g5⟩ := h
  exact ⟨g1.wf, g5⟩

theorem dp_begins : ∀ (f n B L : Nat) (s : St) (σ : Pl), RunL n s σ B L → B + 2 * f + 3 * (L + 1) + 3 ≤ 549755813888 → L ≤ 2147483648 → Dp s ≤ Dp (St.beginsF htmlL endsX n f s σ).2.1 ∧ ((St.beginsF htmlL endsX n f s σ).1 = 1 → ∃ B N, Wf B N (St.beginsF htmlL endsX n f s σ).2.1 ∧ Ready (St.beginsF htmlL endsX n f s σ).2.1)
  | 0, n, B, L, s, σ, h, _, _ => ⟨Nat.le_refl _, fun e => by cases e⟩
  | f + 1, n, B, L, s, σ, h, hB, hL => by
    obtain ⟨⟨N, hw⟩, hr⟩ := h.wf
    have hb := dp_begin (n := n) (σ := σ) hw hr
    by_cases h0 : (s.begin' n σ).1 = 0
    · rw [begins_zero h0]
      obtain ⟨a, _⟩ := run_begin h (by omega) hL h0
      obtain ⟨x, y⟩ := dp_begins f n (B + 2) L _ _ a (by omega) hL
      exact ⟨Nat.le_trans hb x, y⟩
    · rw [begins_else h0]
      refine ⟨hb, fun e => ?_⟩
      rw [(begin_after (n := n) (σ := σ) hw hr).2.1 e]
      exact ⟨B, N, hw, hr⟩

theorem read_eq (n : Nat) (s : St) (l : Str) : s.read' n l = if (s.goOn endsX n (l, 0, 0)).1 = 0 then (if (St.beginsF htmlL endsX n (St.fuel (s.goOn endsX n (l, 0, 0)).2.2) (s.goOn endsX n (l, 0, 0)).2.1 (s.goOn endsX n (l, 0, 0)).2.2).1 = 1 then (St.beginsF htmlL endsX n (St.fuel (s.goOn endsX n (l, 0, 0)).2.2) (s.goOn endsX n (l, 0, 0)).2.1 (s.goOn endsX n (l, 0, 0)).2.2).2.1.text n (St.beginsF htmlL endsX n (St.fuel (s.goOn endsX n (l, 0, 0)).2.2) (s.goOn endsX n (l, 0, 0)).2.1 (s.goOn endsX n (l, 0, 0)).2.2).2.2 else (St.beginsF htmlL endsX n (St.fuel (s.goOn endsX n (l, 0, 0)).2.2) (s.goOn endsX n (l, 0, 0)).2.1 (s.goOn endsX n (l, 0, 0)).2.2).2.1)
    else (if (s.goOn endsX n (l, 0, 0)).1 = 1 then (s.goOn endsX n (l, 0, 0)).2.1.text n (s.goOn endsX n (l, 0, 0)).2.2 else (s.goOn endsX n (l, 0, 0)).2.1) := by
  unfold St.read' St.read
  simp only
  split <;> rfl

theorem fuel_le {l : Str} {σ : Pl} (h : wt σ ≤ 4 * l.length) : St.fuel σ ≤ 8 * l.length + 2 := by
  unfold St.fuel
  unfold wt at h
  omega
theorem dp_read {n B : Nat} {s : St} (h : Run n s B) (l : Str) (hl : l.length ≤ 536870912) (hB : B + 100 * l.length + 100 ≤ 549755813888) : Dp s ≤ Dp (s.read' n l) := by
  obtain ⟨⟨N, hw⟩, hs⟩ := h.wf
  have hg := dp_goOn (n := n) hw (l, 0, 0)
  obtain ⟨a1, a2, a3, a4⟩ := goOn_after (n := n) (σ := ((l, 0, 0) : Pl)) hw hs
  have hwt : wt ((l, 0, 0) : Pl) ≤ 4 * l.length := by unfold wt; simp only; omega
  have hfu := fuel_le (Nat.le_trans a4 hwt)
  rw [read_eq]
  rcases a2 with e | e
  · rw [if_pos e]
    have hR := run_go h l hl (by simp only [lineK]; omega) e
    obtain ⟨x, y⟩ := dp_begins (St.fuel (s.goOn endsX n (l, 0, 0)).2.2) n _ _ _ _ hR (by omega) (by omega)
    by_cases h1 : (St.beginsF htmlL endsX n (St.fuel (s.goOn endsX n (l, 0, 0)).2.2) (s.goOn endsX n (l, 0, 0)).2.1 (s.goOn endsX n (l, 0, 0)).2.2).1 = 1
    · rw [if_pos h1]
      obtain ⟨B', N', w', r'⟩ := y h1
      exact Nat.le_trans hg (Nat.le_trans x (dp_text w' r'))
    · rw [if_neg h1]
      exact Nat.le_trans hg x
  · rw [if_neg (by rw [e]; decide), if_neg (by rw [e]; decide)]
    exact hg

end Go.Proofs.YteonkgneicgkjaaGreatDoor

/- Plain mathematics: what is quoted is what it is: all lines. -/
namespace Go.Proofs.YteonkgneicgkjaaGreatDoor

abbrev qL (l : Str) : Str := 62 :: 32 :: l
abbrev d00 : Box := { first := 0, last := 0 }

/-- What lines cost, at most. -/
def costL : List Str → Nat
  | [] => 0
  | l :: r => 100 * l.length + 200 + costL r

theorem dp_readAll : ∀ (ls : List Str) (n B : Nat) (s : St), Run n s B → (∀ l ∈ ls, l.length ≤ 536870912) → B + costL ls ≤ 549755813888 → Dp s ≤ Dp (St.readAll htmlL endsX n s ls) ∧ ∃ B', B' ≤ B + costL ls ∧ Run (n + ls.length) (St.readAll htmlL endsX n s ls) B'
  | [], n, B, s, h, _, _ => ⟨Nat.le_refl _, B, Nat.le_add_right _ _, h⟩
  | l :: r, n, B, s, h, hl, hB => by
    have hll := hl l (List.mem_cons_self ..)
    simp only [costL] at hB
    have h1 := dp_read h l hll (by omega)
    have h2 := run_read h l hll (by simp only [lineK]; omega)
    simp only [lineK] at h2
    obtain ⟨a, B', b, c⟩ := dp_readAll r (n + 1) _ (s.read' n l) h2 (fun x hx => hl x (List.mem_cons_of_mem _ hx)) (by omega)
    refine ⟨Nat.le_trans h1 a, B', by simp only [costL]; omega, ?_⟩
    rw [List.length_cons, show n + (r.length + 1) = n + 1 + r.length by omega]
    exact c

theorem leave_len : ∀ (k : Nat) (s : St), s.opens.length = k → s.on = 1 → 1 ≤ k → s.leave.opens.length = 1 := by
  intro k
  induction k with
  | zero => intro s hk h1 h; omega
  | succ k ih =>
    intro s hk h1 h
    by_cases hlt : s.on < s.opens.length
    · have h2 : 2 ≤ s.opens.length := by omega
      obtain ⟨a, b⟩ := close_len' h2
      rw [leave_next hlt a]
      exact ih s.close (by omega) (by rw [b]; omega) (by omega)
    · rw [leave_stop hlt]
      omega

end Go.Proofs.YteonkgneicgkjaaGreatDoor

/- Plain mathematics: nothing stands deeper than it may. -/
namespace Go.Proofs.YteonkgneicgkjaaGreatDoor

/-- A block of one line that is no Quote and no Item, or any other part. -/
def Part.low : Part → Prop
  | .whole _ _ b => b.kind ≠ 1 ∧ b.kind ≠ 3
  | _ => True
theorem told_low {p : Part} (hl : p.low) : Bs.deepOne (toldB p) (toldK p).deep = deepN p + (toldK p).deep ∨ toldO p = false := by
  cases p with
  | quote b => left; simp [deepN, Part.isDeep, toldB, Bs.deepOne]; omega
  | item b w => left; simp [deepN, Part.isDeep, toldB, Bs.deepOne]; omega
  | whole f l b =>
    left
    have h : b.kind ≠ 1 ∧ b.kind ≠ 3 := hl
    show (if b.kind = 1 ∨ b.kind = 3 then (0 : Nat) + 1 else 0) = 0 + 0
    rw [if_neg (by
      rintro (q | q)
      · exact h.1 q
      · exact h.2 q)]
  | para b l =>
    by_cases h0 : b.rows = []
    · right; simp [toldO, h0]
    · left
      cases l <;> simp [deepN, Part.isDeep, toldB, Bs.deepOne, h0, toldK, Bs.deep]
  | doc b => left; simp [deepN, Part.isDeep, toldB, Bs.deepOne]
  | list b m => left; simp [deepN, Part.isDeep, toldB, Bs.deepOne]
  | fenced b c k i t => left; simp [deepN, Part.isDeep, toldB, Bs.deepOne, toldK, Bs.deep]
  | indented b => left; simp [deepN, Part.isDeep, toldB, Bs.deepOne, toldK, Bs.deep]
  | html b k => left; simp [deepN, Part.isDeep, toldB, Bs.deepOne, toldK, Bs.deep]
theorem box_low (b : Box) {p : Part} (hl : p.low) : (b.hold p).kids.deep ≤ max b.kids.deep (deepN p + (toldK p).deep) := by
  have he : (b.hold p).kids = match p.told with | some (i, k) => b.kids.snoc i k | none => b.kids := rfl
  rw [he, told_eq]
  rcases told_low hl with q | q
  · cases h : toldO p
    · simp only [Bool.false_eq_true, if_false]; omega
    · simp only [if_true]
      rw [snoc_deep, q]
      exact Nat.le_refl _
  · rw [q]
    simp only [Bool.false_eq_true, if_false]
    omega
theorem hold_low {c : Part} (hc : c.isC = true) {p : Part} (hl : p.low) : (toldK (c.hold p)).deep ≤ max (toldK c).deep (deepN p + (toldK p).deep) := by
  cases c with
  | doc b => exact box_low b hl
  | quote b => exact box_low b hl
  | list b m => exact box_low b hl
  | item b w => exact box_low b hl
  | _ => cases hc
theorem off_low {p : Part} (h : p.low) (d : List Df) : (St.takeOff p d).1.low := by cases p <;> exact h
theorem hold_islow (c p : Part) (h : c.isC = true) : (c.hold p).low := by cases c <;> first | trivial | cases h

def Low (s : St) : Prop := ∀ p ∈ s.opens, p.low

theorem close_form {s : St} {n : Nat} (hn : s.opens.length = n + 2) : ∃ X q p, s.opens = X ++ [q] ++ [p] ∧ s.close.opens = X ++ [q.hold (St.takeOff p s.defs).1] ∧ X.length = n := by
  obtain ⟨r, p, hr⟩ : ∃ r p, s.opens = r ++ [p] := by
    cases hq : s.opens.getLast? with
    | none => rw [List.getLast?_eq_none_iff] at hq; rw [hq] at hn; simp at hn
    | some p => obtain ⟨ys, hy⟩ := List.getLast?_eq_some_iff.1 hq; exact ⟨ys, p, hy⟩
  obtain ⟨X, q, hX⟩ : ∃ X q, r = X ++ [q] := by
    cases hq : r.getLast? with
    | none => rw [List.getLast?_eq_none_iff] at hq; rw [hr, hq] at hn; simp at hn
    | some p => obtain ⟨ys, hy⟩ := List.getLast?_eq_some_iff.1 hq; exact ⟨ys, p, hy⟩
  subst hX
  refine ⟨X, q, p, hr, ?_, by have := congrArg List.length hr; rw [hn] at this; simp at this; omega⟩
  unfold St.close
  rw [hr, List.getLast?_append]
  simp only [List.getLast?_singleton, Option.some_or, List.dropLast_concat]
  exact holdLast_snoc X q _
theorem cnt_snoc (x : List Part) (q : Part) : cntL (x ++ [q]) = cntL x + deepN q := by
  induction x with
  | nil => simp [cntL]
  | cons y t ih => simp only [List.cons_append, cntL, ih]; omega

theorem low_close {B N : Nat} {s : St} (h : Wf B N s) (h2 : 2 ≤ s.opens.length) (hl : Low s) : Low s.close ∧ Dp s.close ≤ Dp s := by
  obtain ⟨n, hn⟩ : ∃ n, s.opens.length = n + 2 := ⟨s.opens.length - 2, by omega⟩
  obtain ⟨X, q, p, e1, e2, e3⟩ := close_form hn
  have hqc : q.isC = true := h.cont n q (by rw [e1, List.getElem?_append_left (by simp; omega), ← e3]; simp) (by omega)
  have hp : p.low := hl p (by rw [e1]; simp)
  refine ⟨fun x hx => ?_, ?_⟩
  · rw [e2] at hx
    rcases List.mem_append.1 hx with q1 | q1
    · exact hl x (by rw [e1]; simp [q1])
    · simp at q1
      rw [q1]
      exact hold_islow _ _ hqc
  · have a := hold_low hqc (off_low hp s.defs)
    have c := (hold_val hqc (St.takeOff p s.defs).1).2.2
    have d := off_val p s.defs
    unfold Dp
    rw [e2, e1, dp_append, dp_append, dp_append, dp_one, dp_one, dp_one, c, cnt_snoc]
    omega
theorem low_leave : ∀ (k B N : Nat) (s : St), s.opens.length = k → Wf B N s → 1 ≤ s.on → Low s → Low s.leave ∧ Dp s.leave ≤ Dp s ∧ cntL s.leave.opens ≤ cntL (s.opens.take s.on) := by
  intro k
  induction k with
  | zero => intro B N s hk h h1 _; have := h.on; omega
  | succ k ih =>
    intro B N s hk h h1 hl
    by_cases hlt : s.on < s.opens.length
    · have h2 : 2 ≤ s.opens.length := by omega
      obtain ⟨N2, w2, _, e2, o2, _⟩ := close_last h h2
      obtain ⟨a, b⟩ := low_close h h2 hl
      rw [leave_next hlt e2]
      obtain ⟨c, d, e⟩ := ih B N2 s.close (by omega) w2 (by rw [o2]; omega) a
      refine ⟨c, Nat.le_trans d b, Nat.le_trans e ?_⟩
      obtain ⟨n, hn⟩ : ∃ n, s.opens.length = n + 2 := ⟨s.opens.length - 2, by omega⟩
      obtain ⟨X, q, p, f1, f2, f3⟩ := close_form hn
      have hqc : q.isC = true := h.cont n q (by rw [f1, List.getElem?_append_left (by simp; omega), ← f3]; simp) (by omega)
      have hv := (hold_val hqc (St.takeOff p s.defs).1).2.2
      rw [o2, f2, f1]
      rw [show min s.on ((X ++ [q] ++ [p]).length - 1) = s.on by rw [← f1]; omega]
      have hon : s.on ≤ (X ++ [q]).length := by have := hn; simp; omega
      rw [List.take_append_of_le_length hon]
      rcases Nat.lt_or_ge s.on (X ++ [q]).length with hc | hc
      · have h3 : s.on ≤ X.length := by simp at hc; omega
        rw [List.take_append_of_le_length h3, List.take_append_of_le_length h3]
        exact Nat.le_refl _
      · rw [List.take_of_length_le (by simp at hc ⊢; omega), List.take_of_length_le hc, cnt_snoc, cnt_snoc, hv]
        exact Nat.le_refl _
    · rw [leave_stop hlt]
      refine ⟨hl, Nat.le_refl _, ?_⟩
      rw [List.take_of_length_le (by omega)]
      exact Nat.le_refl _
theorem cnt_close {B N : Nat} {s : St} (h : Wf B N s) (h2 : 2 ≤ s.opens.length) : cntL s.close.opens ≤ cntL s.opens := by
  obtain ⟨n, hn⟩ : ∃ n, s.opens.length = n + 2 := ⟨s.opens.length - 2, by omega⟩
  obtain ⟨X, q, p, f1, f2, f3⟩ := close_form hn
  have hqc : q.isC = true := h.cont n q (by rw [f1, List.getElem?_append_left (by simp; omega), ← f3]; simp) (by omega)
  rw [f2, f1, cnt_snoc, cnt_snoc, cnt_snoc, (hold_val hqc (St.takeOff p s.defs).1).2.2]
  omega
theorem low_clear {B N : Nat} {s : St} (h : Wf B N s) (h1 : 1 ≤ s.on) (hl : Low s) : Low s.clear ∧ Dp s.clear ≤ Dp s ∧ cntL s.clear.opens ≤ cntL (s.opens.take s.on) := by
  obtain ⟨N1, w1, o1⟩ := leave_wf _ B N s rfl h h1
  obtain ⟨a, b, c⟩ := low_leave _ B N s rfl h h1 hl
  unfold St.clear
  split
  · rename_i hp
    have h2 := para_two w1 hp
    obtain ⟨d, e⟩ := low_close w1 h2 a
    exact ⟨d, Nat.le_trans e b, Nat.le_trans (cnt_close w1 h2) c⟩
  · exact ⟨a, b, c⟩
theorem low_push {s : St} (hl : Low s) {p : Part} (hp : p.low) (hk : toldK p = .nil) (m : Nat) (hd : Dp s ≤ m) (hc : cntL s.opens + deepN p ≤ m) : Low (s.push p) ∧ Dp (s.push p) ≤ m := by
  refine ⟨fun x hx => ?_, ?_⟩
  · have hx : x ∈ s.opens ++ [p] := hx
    rcases List.mem_append.1 hx with q | q
    · exact hl x q
    · simp at q; rw [q]; exact hp
  · unfold Dp at hd ⊢
    show dpL 0 (s.opens ++ [p]) ≤ m
    rw [dp_append, dp_one, hk]
    have : (Bs.nil : Bs).deep = 0 := rfl
    omega
theorem low_stand {B N : Nat} {s : St} (h : Wf B N s) (h1 : 1 ≤ s.on) (hl : Low s) {p : Part} (hp : p.low) (hk : toldK p = .nil) (m : Nat) (hd : Dp s ≤ m) (hc : cntL (s.opens.take s.on) + deepN p ≤ m) : Low (s.stand p) ∧ Dp (s.stand p) ≤ m ∧ cntL (s.stand p).opens ≤ cntL (s.opens.take s.on) + deepN p := by
  obtain ⟨N1, w1, o1⟩ := clear_wf h h1
  obtain ⟨a, b, c⟩ := low_clear h h1 hl
  unfold St.stand
  split
  · rename_i hi
    have h2 := list_two w1 hi
    obtain ⟨d, e⟩ := low_close w1 h2 a
    have f := cnt_close w1 h2
    obtain ⟨g1, g2⟩ := low_push d hp hk m (by omega) (by omega)
    exact ⟨g1, g2, by show cntL (s.clear.close.opens ++ [p]) ≤ _; rw [cnt_snoc]; omega⟩
  · obtain ⟨g1, g2⟩ := low_push a hp hk m (by omega) (by omega)
    exact ⟨g1, g2, by show cntL (s.clear.opens ++ [p]) ≤ _; rw [cnt_snoc]; omega⟩

theorem low_standClose {B N : Nat} {s : St} (h : Wf B N s) (hr : Ready s) (hl : Low s) {p : Part} (hp : p.low) (hk : toldK p = .nil) (m : Nat) (hd : Dp s ≤ m) (hc : cntL (s.opens.take s.on) + deepN p ≤ m) : Low (s.stand p).close ∧ Dp (s.stand p).close ≤ m := by
  obtain ⟨a, b, _⟩ := low_stand h hr.on hl hp hk m hd hc
  obtain ⟨X, e1, e2, e3, e4⟩ := stand_on h hr.on hr.leaf p
  obtain ⟨n, hn⟩ : ∃ n, X.length = n + 1 := ⟨X.length - 1, by have := List.length_pos_iff.2 e3; omega⟩
  have hlen : (s.stand p).opens.length = n + 2 := by rw [e1, List.length_append, hn]; rfl
  obtain ⟨Y, q, p', f1, f2, f3⟩ := close_form hlen
  have hqc : q.isC = true := e4 q (by
    have hX : X = Y ++ [q] := by
      have := f1.symm.trans e1
      exact (List.append_inj' this rfl).1.symm
    rw [hX, List.getLast?_append]
    rfl)
  have hp' : p'.low := a p' (by rw [f1]; simp)
  refine ⟨fun x hx => ?_, ?_⟩
  · rw [f2] at hx
    rcases List.mem_append.1 hx with q1 | q1
    · exact a x (by rw [f1]; simp [q1])
    · simp at q1
      rw [q1]
      exact hold_islow _ _ hqc
  · have a1 := hold_low hqc (off_low hp' (s.stand p).defs)
    have c1 := (hold_val hqc (St.takeOff p' (s.stand p).defs).1).2.2
    have d1 := off_val p' (s.stand p).defs
    unfold Dp at b ⊢
    rw [f1, dp_append, dp_append, dp_one, dp_one, cnt_snoc] at b
    rw [f2, dp_append, dp_one, c1]
    omega

theorem cnt_take (l : List Part) (k : Nat) : cntL (l.take k) ≤ cntL l := by
  rw [cnt_eq, cnt_eq]
  exact (List.take_sublist k l).countP_le
theorem room_cnt {s : St} (h : s.room = true) : cntL (s.opens.take s.on) ≤ 23 := by
  unfold St.room at h
  rw [decide_eq_true_eq] at h
  rw [cnt_eq]
  omega
theorem dp_cnt {B N : Nat} {s : St} (h : Wf B N s) : cntL s.opens ≤ Dp s := by
  obtain ⟨x, hx⟩ := h.doc
  have := dp_count s.opens 0 (fun e => by rw [e] at hx; simp at hx)
  unfold Dp
  omega

theorem low_set {s : St} {p p' : Part} (h : s.opens.getLast? = some p) (hl : Low s) (hp : p'.low) (on : Nat) (df : List Df) : Low { s with opens := s.opens.dropLast ++ [p'], on := on, defs := df } := by
  intro x hx
  have hx : x ∈ s.opens.dropLast ++ [p'] := hx
  rcases List.mem_append.1 hx with q | q
  · exact hl x (List.dropLast_subset _ q)
  · simp at q; rw [q]; exact hp

theorem low_begin {B N n : Nat} {s : St} {σ : Pl} (h : Wf B N s) (hr : Ready s) (hl : Low s) (hd : Dp s ≤ 24) : Low (s.begin' n σ).2.1 ∧ Dp (s.begin' n σ).2.1 ≤ 24 := by
  have h0 : cntL (s.opens.take s.on) ≤ 24 := by have := cnt_take s.opens s.on; have := dp_cnt h; omega
  have st : ∀ p : Part, p.low → toldK p = .nil → deepN p = 0 → Low (s.stand p) ∧ Dp (s.stand p) ≤ 24 := fun p a b c => by
    obtain ⟨x, y, _⟩ := low_stand h hr.on hl a b 24 hd (by omega)
    exact ⟨x, y⟩
  have sc : ∀ p : Part, p.low → toldK p = .nil → deepN p = 0 → Low (s.stand p).close ∧ Dp (s.stand p).close ≤ 24 := fun p a b c => low_standClose h hr hl a b 24 hd (by omega)
  unfold St.begin' St.begin
  simp only
  split
  · unfold St.beginIndented
    split
    · exact ⟨hl, hd⟩
    · exact st _ trivial rfl rfl
  split
  · rename_i hq
    have := room_cnt hq.2
    obtain ⟨x, y, _⟩ := low_stand h hr.on hl (p := .quote { first := n, last := n }) trivial rfl 24 hd (by show _ + 1 ≤ 24; omega)
    exact ⟨x, y⟩
  split
  · exact sc _ (by show (4 : Nat) ≠ 1 ∧ (4 : Nat) ≠ 3; decide) rfl rfl
  split
  · exact st _ trivial rfl rfl
  split
  · show Low (s.beginHtml endsX n σ (htmlL (beh σ.1))) ∧ Dp (s.beginHtml endsX n σ (htmlL (beh σ.1))) ≤ 24
    unfold St.beginHtml
    have hv := takes_val n σ (.html { first := n, last := n } (htmlL (beh σ.1)))
    have hlw : ((Part.html { first := n, last := n } (htmlL (beh σ.1))).takes endsX n σ).2.2.1.low := by simp only [Part.takes]; split <;> trivial
    simp only
    split
    · exact st _ hlw (hv.2.trans rfl) (hv.1.trans rfl)
    · exact sc _ hlw (hv.2.trans rfl) (hv.1.trans rfl)
  split
  · rename_i hu
    obtain ⟨x, l, hlast⟩ := isClose_para hu.2
    have h2 := h.two hlast rfl
    obtain ⟨m, hm⟩ : ∃ m, s.opens.length = m + 2 := ⟨s.opens.length - 2, by omega⟩
    have key : ∀ (x' : Body) (l' : Nat) (d : List Df), Low (St.close { s with opens := s.opens.dropLast ++ [.para x' l'], defs := d }) ∧ Dp (St.close { s with opens := s.opens.dropLast ++ [.para x' l'], defs := d }) ≤ 24 := by
      intro x' l' d
      have e := dp_set (p' := .para x' l') hlast ⟨rfl, rfl⟩ s.on d
      have lw := low_set (p' := .para x' l') hlast hl trivial s.on d
      obtain ⟨Y, q, p', f1, f2, f3⟩ := close_form (s := { s with opens := s.opens.dropLast ++ [.para x' l'], defs := d }) (n := m) (by show (s.opens.dropLast ++ [_]).length = m + 2; rw [List.length_append, List.length_dropLast, hm]; rfl)
      have f1 : s.opens.dropLast ++ [Part.para x' l'] = Y ++ [q] ++ [p'] := f1
      have hYq : s.opens.dropLast = Y ++ [q] := (List.append_inj' f1 rfl).1
      have hqc : q.isC = true := h.cont m q (by
        have : s.opens.dropLast[m]? = some q := by rw [hYq, ← f3]; simp
        rw [List.getElem?_dropLast, if_pos (by omega)] at this
        exact this) (by omega)
      have hp' : p'.low := lw p' (by show p' ∈ s.opens.dropLast ++ [_]; rw [f1]; simp)
      refine ⟨fun y hy => ?_, ?_⟩
      · rw [f2] at hy
        rcases List.mem_append.1 hy with q1 | q1
        · exact lw y (by show y ∈ s.opens.dropLast ++ [_]; rw [f1]; simp [q1])
        · simp at q1
          rw [q1]
          exact hold_islow _ _ hqc
      · have a1 := hold_low hqc (off_low hp' d)
        have c1 := (hold_val hqc (St.takeOff p' d).1).2.2
        have d1 := off_val p' d
        have e : dpL 0 (s.opens.dropLast ++ [Part.para x' l']) = Dp s := e
        rw [f1, dp_append, dp_append, dp_one, dp_one, cnt_snoc] at e
        unfold Dp at hd e ⊢
        rw [f2, dp_append, dp_one]
        show max (dpL 0 Y) (0 + cntL Y + deepN (q.hold (St.takeOff p' d).1) + (toldK (q.hold (St.takeOff p' d).1)).deep) ≤ 24
        rw [c1]
        omega
    unfold St.underline
    rw [hlast]
    simp only
    split
    · exact key _ _ _
    · exact key _ _ _
  split
  · exact sc _ (by show (8 : Nat) ≠ 1 ∧ (8 : Nat) ≠ 3; decide) rfl rfl
  split
  · rename_i hit
    have hrm := room_cnt hit.2.1
    obtain ⟨N1, w1, o1⟩ := clear_wf h hr.on
    obtain ⟨a, b, c⟩ := low_clear h hr.on hl
    unfold St.beginItem
    simp only
    split
    · exact low_push a (by trivial) (by rfl) 24 (by omega) (by show _ + 1 ≤ 24; omega)
    · have hct := cnt_take s.clear.opens s.clear.on
      obtain ⟨x, y, z⟩ := low_stand w1 o1 a (p := .list { first := n, last := n } (St.markOf (beh σ.1))) trivial rfl 24 (by omega) (by show _ + 0 ≤ 24; omega)
      have z : cntL (s.clear.stand (.list { first := n, last := n } (St.markOf (beh σ.1)))).opens ≤ cntL (s.clear.opens.take s.clear.on) + 0 := z
      exact low_push x (by trivial) (by rfl) 24 y (by show _ + 1 ≤ 24; omega)
  · exact ⟨hl, hd⟩
theorem low_text {B N n : Nat} {s : St} {σ : Pl} (h : Wf B N s) (hr : Ready s) (hl : Low s) (hd : Dp s ≤ 24) : Low (s.text n σ) ∧ Dp (s.text n σ) ≤ 24 := by
  unfold St.text
  split
  · obtain ⟨a, b, c⟩ := low_clear h hr.on hl
    exact ⟨a, Nat.le_trans b hd⟩
  · split
    · rename_i b l hq
      refine ⟨low_set (p' := .para (b.add n (beh σ.1)) l) hq hl trivial s.on s.defs, ?_⟩
      have e := dp_set (p' := .para (b.add n (beh σ.1)) l) hq ⟨rfl, rfl⟩ s.on s.defs
      exact Nat.le_trans (Nat.le_of_eq e) hd
    · have h0 : cntL (s.opens.take s.on) ≤ 24 := by have := cnt_take s.opens s.on; have := dp_cnt h; omega
      obtain ⟨x, y, _⟩ := low_stand h hr.on hl (p := .para (Body.add { first := n, last := n } n (beh σ.1)) 0) trivial rfl 24 hd (by show _ + 0 ≤ 24; omega)
      exact ⟨x, y⟩

end Go.Proofs.YteonkgneicgkjaaGreatDoor

/- Plain mathematics: nothing stands deeper than it may: all lines. -/
namespace Go.Proofs.YteonkgneicgkjaaGreatDoor

theorem low_closeAt {s : St} {n : Nat} (hn : s.opens.length = n + 2) (hc : ∀ c, s.opens[n]? = some c → c.isC = true) (hl : Low s) : Low s.close ∧ Dp s.close ≤ Dp s := by
  obtain ⟨X, q, p, e1, e2, e3⟩ := close_form hn
  have hqc : q.isC = true := hc q (by rw [e1, List.getElem?_append_left (by simp; omega), ← e3]; simp)
  have hp : p.low := hl p (by rw [e1]; simp)
  refine ⟨fun x hx => ?_, ?_⟩
  · rw [e2] at hx
    rcases List.mem_append.1 hx with q1 | q1
    · exact hl x (by rw [e1]; simp [q1])
    · simp at q1
      rw [q1]
      exact hold_islow _ _ hqc
  · have a := hold_low hqc (off_low hp s.defs)
    have c := (hold_val hqc (St.takeOff p s.defs).1).2.2
    have d := off_val p s.defs
    unfold Dp
    rw [e2, e1, dp_append, dp_append, dp_append, dp_one, dp_one, dp_one, c, cnt_snoc]
    omega
theorem goes_low (n : Nat) (f : Bool) (σ : Pl) {p : Part} (h : p.low) : (p.goesOn n f σ).2.1.low := by
  cases p with
  | quote b => simp only [Part.goesOn]; split <;> trivial
  | item b w => simp only [Part.goesOn]; repeat' split
                all_goals trivial
  | _ => exact h
theorem takes_low (n : Nat) (σ : Pl) {p : Part} (h : p.low) : (p.takes endsX n σ).2.2.1.low := by
  cases p with
  | fenced b c k i t => simp only [Part.takes]; split <;> trivial
  | indented b => simp only [Part.takes]; split <;> trivial
  | html b k => simp only [Part.takes]; split <;> trivial
  | _ => exact h
theorem goF_low (n len : Nat) : ∀ (l : List Part) (i : Nat) (σ : Pl), (∀ p ∈ l, p.low) → ∀ p ∈ (goF n len l i σ).1, p.low
  | [], i, σ, _, p, hp => by cases hp
  | q :: r, i, σ, h, p, hp => by
    have hq := h q (List.mem_cons_self ..)
    have hr : ∀ p ∈ r, p.low := fun x hx => h x (List.mem_cons_of_mem _ hx)
    simp only [goF] at hp
    split at hp
    · rcases List.mem_cons.1 hp with e | e
      · rw [e]; exact hq
      · exact goF_low n len r (i + 1) σ hr p e
    · split at hp
      · rcases List.mem_cons.1 hp with e | e
        · rw [e]; exact goes_low _ _ _ hq
        · exact hr p e
      · rcases List.mem_cons.1 hp with e | e
        · rw [e]; exact goes_low _ _ _ hq
        · exact goF_low n len r (i + 1) _ hr p e

theorem low_goOn {B N n : Nat} {s : St} (h : Wf B N s) (σ : Pl) (hl : Low s) (hd : Dp s ≤ 24) : Low (s.goOn endsX n σ).2.1 ∧ Dp (s.goOn endsX n σ).2.1 ≤ 24 := by
  obtain ⟨o, τ, e, hg⟩ : ∃ o τ e, goF n s.opens.length s.opens 0 σ = (o, τ, e) := ⟨_, _, _, rfl⟩
  have hv := goF_val n s.opens.length s.opens 0 σ
  have hm := goF_C n s.opens.length s.opens 0 σ
  have hol := goF_len n s.opens.length s.opens 0 σ
  have hlo := goF_low n s.opens.length s.opens 0 σ hl
  rw [hg] at hv hm hol hlo
  have hD : ∀ on df, Dp ⟨o, on, df⟩ = Dp s := fun on df => dp_same hv
  cases e with
  | some j => rw [goOn_some hg]; exact ⟨hlo, by rw [show Dp _ = Dp s from hD _ _]; exact hd⟩
  | none =>
    obtain ⟨p, hp⟩ : ∃ p, o.getLast? = some p := by
      obtain ⟨m, q, hq, _⟩ := h.last
      cases hq2 : o.getLast? with
      | none => rw [List.getLast?_eq_none_iff] at hq2; have : o.length = s.opens.length := hol; rw [hq2, hq] at this; simp at this
      | some p => exact ⟨p, rfl⟩
    cases hll : p.isLined
    · rw [goOn_stay hg hp hll]; exact ⟨hlo, by rw [show Dp _ = Dp s from hD _ _]; exact hd⟩
    · rw [goOn_takes hg hp hll]
      have hs : Dp { s with opens := o.dropLast ++ [(p.takes endsX n τ).2.2.1], on := o.length } = Dp s := by
        have := dp_set (s := ⟨o, o.length, s.defs⟩) hp (takes_val n τ p) o.length s.defs
        exact this.trans (hD _ _)
      have hpl : p.low := hlo p (List.mem_of_getLast? hp)
      have hsl : Low { s with opens := o.dropLast ++ [(p.takes endsX n τ).2.2.1], on := o.length } := low_set (s := ⟨o, o.length, s.defs⟩) hp hlo (takes_low n τ hpl) o.length s.defs
      simp only
      split
      · exact ⟨hsl, by rw [hs]; exact hd⟩
      · have hc : p.isC = false := by cases p <;> first | rfl | (cases hll; done)
        have hgl := goF_last n _ _ _ _ p (by rw [hg]; exact hp) hc
        have h2 : 2 ≤ s.opens.length := h.two hgl (by cases p <;> first | rfl | (cases hll; done))
        have hol : o.length = s.opens.length := hol
        obtain ⟨m, hmm⟩ : ∃ m, o.length = m + 2 := ⟨o.length - 2, by omega⟩
        obtain ⟨x, y⟩ := low_closeAt (s := { s with opens := o.dropLast ++ [(p.takes endsX n τ).2.2.1], on := o.length }) (n := m) (by show (o.dropLast ++ [_]).length = m + 2; rw [List.length_append, List.length_dropLast, hmm]; rfl) (fun c hcc => by
          have hcc : (o.dropLast ++ [(p.takes endsX n τ).2.2.1])[m]? = some c := hcc
          rw [List.getElem?_append_left (by rw [List.length_dropLast]; omega), List.getElem?_dropLast, if_pos (by omega)] at hcc
          have hm : o.map Part.isC = s.opens.map Part.isC := hm
          have h1 : (o.map Part.isC)[m]? = some c.isC := by rw [List.getElem?_map, hcc]; rfl
          rw [hm, List.getElem?_map] at h1
          obtain ⟨c', hc', e⟩ : ∃ c', s.opens[m]? = some c' ∧ c'.isC = c.isC := by
            cases hq : s.opens[m]? with
            | none => rw [hq] at h1; cases h1
            | some c' => rw [hq] at h1; exact ⟨c', rfl, by simpa using h1⟩
          rw [← e]
          exact h.cont m c' hc' (by omega)) hsl
        exact ⟨x, by rw [hs] at y; omega⟩

theorem low_begins : ∀ (f n B L : Nat) (s : St) (σ : Pl), RunL n s σ B L → B + 2 * f + 3 * (L + 1) + 3 ≤ 549755813888 → L ≤ 2147483648 → Low s → Dp s ≤ 24 → Low (St.beginsF htmlL endsX n f s σ).2.1 ∧ Dp (St.beginsF htmlL endsX n f s σ).2.1 ≤ 24
  | 0, n, B, L, s, σ, h, _, _, hl, hd => ⟨hl, hd⟩
  | f + 1, n, B, L, s, σ, h, hB, hL, hl, hd => by
    obtain ⟨⟨N, hw⟩, hr⟩ := h.wf
    obtain ⟨x, y⟩ := low_begin (n := n) (σ := σ) hw hr hl hd
    by_cases h0 : (s.begin' n σ).1 = 0
    · rw [begins_zero h0]
      obtain ⟨a, _⟩ := run_begin h (by omega) hL h0
      exact low_begins f n (B + 2) L _ _ a (by omega) hL x y
    · rw [begins_else h0]
      exact ⟨x, y⟩
theorem low_read {n B : Nat} {s : St} (h : Run n s B) (l : Str) (hl : l.length ≤ 536870912) (hB : B + 100 * l.length + 100 ≤ 549755813888) (hlo : Low s) (hd : Dp s ≤ 24) : Low (s.read' n l) ∧ Dp (s.read' n l) ≤ 24 := by
  obtain ⟨⟨N, hw⟩, hs⟩ := h.wf
  obtain ⟨g1, g2⟩ := low_goOn (n := n) hw (l, 0, 0) hlo hd
  obtain ⟨a1, a2, a3, a4⟩ := goOn_after (n := n) (σ := ((l, 0, 0) : Pl)) hw hs
  have hwt : wt ((l, 0, 0) : Pl) ≤ 4 * l.length := by unfold wt; simp only; omega
  have hfu := fuel_le (Nat.le_trans a4 hwt)
  rw [read_eq]
  rcases a2 with e | e
  · rw [if_pos e]
    have hR := run_go h l hl (by simp only [lineK]; omega) e
    obtain ⟨_, y⟩ := dp_begins (St.fuel (s.goOn endsX n (l, 0, 0)).2.2) n _ _ _ _ hR (by omega) (by omega)
    obtain ⟨x1, x2⟩ := low_begins (St.fuel (s.goOn endsX n (l, 0, 0)).2.2) n _ _ _ _ hR (by omega) (by omega) g1 g2
    by_cases h1 : (St.beginsF htmlL endsX n (St.fuel (s.goOn endsX n (l, 0, 0)).2.2) (s.goOn endsX n (l, 0, 0)).2.1 (s.goOn endsX n (l, 0, 0)).2.2).1 = 1
    · rw [if_pos h1]
      obtain ⟨B', N', w', r'⟩ := y h1
      exact low_text w' r' x1 x2
    · rw [if_neg h1]
      exact ⟨x1, x2⟩
  · rw [if_neg (by rw [e]; decide), if_neg (by rw [e]; decide)]
    exact ⟨g1, g2⟩
theorem low_readAll : ∀ (ls : List Str) (n B : Nat) (s : St), Run n s B → (∀ l ∈ ls, l.length ≤ 536870912) → B + costL ls ≤ 549755813888 → Low s → Dp s ≤ 24 → Low (St.readAll htmlL endsX n s ls) ∧ Dp (St.readAll htmlL endsX n s ls) ≤ 24
  | [], n, B, s, h, _, _, hl, hd => ⟨hl, hd⟩
  | l :: r, n, B, s, h, hls, hB, hl, hd => by
    have hll := hls l (List.mem_cons_self ..)
    simp only [costL] at hB
    obtain ⟨x, y⟩ := low_read h l hll (by omega) hl hd
    have h2 := run_read h l hll (by simp only [lineK]; omega)
    simp only [lineK] at h2
    exact low_readAll r (n + 1) _ (s.read' n l) h2 (fun x hx => hls x (List.mem_cons_of_mem _ hx)) (by omega) x y

/-- Nothing that is told stands deeper than twenty-four. -/
theorem parse_deep (ls : List Str) (hl : ∀ l ∈ ls, l.length ≤ 536870912) (hc : costL ls ≤ 1000000000) : (St.parse htmlL endsX ls).1.deep ≤ 24 := by
  rw [parse_told]
  obtain ⟨a, B', b, c⟩ := dp_readAll ls 0 1 St.start run_start hl (by omega)
  obtain ⟨x, y⟩ := low_readAll ls 0 1 St.start run_start hl (by omega) (fun p hp => by
    have : p = .doc { first := 0, last := 0 } := by simpa [St.start] using hp
    rw [this]; trivial) (by decide)
  obtain ⟨⟨N, hw⟩, _⟩ := c.wf
  generalize St.readAll htmlL endsX 0 St.start ls = s at *
  obtain ⟨z, hz⟩ := hw.doc
  have hpos := (List.getElem?_eq_some_iff.1 hz).1
  obtain ⟨_, h1, _⟩ := low_leave _ B' N ({ s with on := 1 } : St) rfl (hw.onTo 1 hpos) (Nat.le_refl _) x
  have hl1 := leave_len _ ({ s with on := 1 } : St) rfl rfl hpos
  obtain ⟨N1, w1, _⟩ := leave_wf _ B' N ({ s with on := 1 } : St) rfl (hw.onTo 1 hpos) (Nat.le_refl _)
  have h1 : Dp (St.leave { s with on := 1 }) ≤ Dp s := h1
  unfold toldS
  generalize St.leave ({ s with on := 1 } : St) = S at *
  obtain ⟨q, hq⟩ := w1.doc
  have hS : S.opens = [.doc q] := by
    obtain ⟨a, ha⟩ := List.length_eq_one_iff.1 hl1
    rw [ha] at hq ⊢
    simp at hq
    rw [hq]
  rw [hS]
  have h3 : Dp S = max (0 + 0 + q.kids.deep) 0 := by unfold Dp; rw [hS]; rfl
  show q.kids.deep ≤ 24
  omega

end Go.Proofs.YteonkgneicgkjaaGreatDoor

/- Plain mathematics: where a definition ends, and what is left of a text behind definitions. -/
namespace Go.Proofs.YteonkgneicgkjaaGreatDoor
open lnk (lineL threeL defineL define_cut label_is)

/-- Each line of a text begins with no blank and no tab. -/
def LN (t : Str) : Prop := ∀ a c b, t = a ++ c :: b → (a = [] ∨ a.getLast? = some 10) → c ≠ 32 ∧ c ≠ 9
theorem ln_drop {t a r : Str} (h : LN t) (e : t = a ++ 10 :: r) : LN r := by
  intro a' c b e' ha'
  refine h (a ++ 10 :: a') c b (by rw [e, e']; simp) (.inr ?_)
  rcases ha' with q | q
  · rw [q]; simp
  · rw [List.getLast?_append, List.getLast?_cons, q]; rfl
theorem ln_nil : LN [] := fun a c b e _ => by simp at e
theorem ln_line {x : Str} (h10 : ∀ c ∈ x, c ≠ 10) (hb : ∀ c, x.head? = some c → c ≠ 32 ∧ c ≠ 9) : LN x := by
  intro a c b e ha
  rcases ha with q | q
  · exact hb c (by rw [e, q]; rfl)
  · exact absurd rfl (h10 10 (by rw [e]; exact List.mem_append_left _ (List.mem_of_getLast? q)))
theorem ln_join {t x : Str} (ht : LN t) (hx : LN x) : LN (t ++ 10 :: x) := by
  intro a c b e ha
  rcases List.append_eq_append_iff.1 e with ⟨ys, e1, e2⟩ | ⟨bs, e1, e2⟩
  · cases ys with
    | nil =>
      simp only [List.nil_append, List.cons.injEq] at e2
      rw [← e2.1]
      decide
    | cons d ys =>
      simp only [List.cons_append, List.cons.injEq] at e2
      refine hx ys c b e2.2 ?_
      rcases ha with q | q
      · rw [q] at e1; simp at e1
      · cases ys with
        | nil => exact .inl rfl
        | cons f ys =>
          right
          rw [e1, List.getLast?_append, List.getLast?_cons_cons] at q
          rw [List.getLast?_cons] at q ⊢
          exact q
  · cases bs with
    | nil =>
      simp only [List.nil_append, List.cons.injEq] at e2
      rw [e2.1]
      decide
    | cons d bs =>
      simp only [List.cons_append, List.cons.injEq] at e2
      rw [e2.1]
      exact ht a d bs e1 ha
theorem join_snoc : ∀ (l : List Str) (x : Str), l ≠ [] → joinL (l ++ [x]) = joinL l ++ 10 :: x
  | [], x, h => absurd rfl h
  | [a], x, _ => rfl
  | a :: b :: r, x, _ => by
    have := join_snoc (b :: r) x (by simp)
    show a ++ 10 :: joinL ((b :: r) ++ [x]) = (a ++ 10 :: joinL (b :: r)) ++ 10 :: x
    rw [this]
    simp

theorem line_end : ∀ (y r : Str), lineL y = some r → r = [] ∨ ∃ w, y = w ++ 10 :: r
  | [], r, h => by simp [lineL] at h; exact .inl h
  | b :: t, r, h => by
    unfold lineL at h
    split at h
    · rcases line_end t r h with q | ⟨w, q⟩
      · exact .inl q
      · exact .inr ⟨b :: w, by rw [q]; rfl⟩
    · split at h
      · rename_i h10
        cases h
        exact .inr ⟨[], by rw [h10]; rfl⟩
      · cases h
theorem gap_sfx (n : Nat) (l : Str) : gapL n l <:+ l := by
  obtain ⟨p, h⟩ := gap_suf n l
  exact ⟨p, h.symm⟩
theorem three_suf : ∀ (n : Nat) (l : Str), threeL n l <:+ l
  | 0, l => by unfold threeL; exact List.suffix_refl _
  | _ + 1, [] => by unfold threeL; exact List.suffix_refl _
  | n + 1, b :: t => by
    unfold threeL
    split
    · exact (three_suf n t).trans (List.suffix_cons ..)
    · exact List.suffix_refl _
theorem define_end {s r : Str} {x : Df} (h : defineL s = some (x, r)) : r = [] ∨ ∃ w, s = w ++ 10 :: r := by
  have fin : ∀ y : Str, y <:+ s → lineL y = some r → r = [] ∨ ∃ w, s = w ++ 10 :: r := fun y hy hr => by
    rcases line_end y r hr with q | ⟨w, q⟩
    · exact .inl q
    · obtain ⟨z, hz⟩ := hy
      exact .inr ⟨z ++ w, by rw [← hz, q]; simp⟩
  unfold defineL at h
  split at h
  · cases h
  · split at h
    · cases h
    · rename_i u n _ b t hb
      split at h
      · have ht : t <:+ s := by
          have h1 : b :: t <:+ threeL 3 s := by rw [← hb]; exact List.drop_suffix ..
          exact ((List.suffix_cons b t).trans h1).trans (three_suf 3 s)
        have hg : gapL 0 t <:+ s := (gap_sfx 0 t).trans ht
        split at h
        · cases h
        · rename_i d k _
          have hk : (gapL 0 t).drop k <:+ s := (List.drop_suffix ..).trans hg
          have hp : ∀ f : Str → Df × Str, (∀ r, (f r).2 = r) → (lineL ((gapL 0 t).drop k)).map f = some (x, r) → r = [] ∨ ∃ w, s = w ++ 10 :: r := fun f hf hm => by
            cases hl : lineL ((gapL 0 t).drop k) with
            | none => rw [hl] at hm; cases hm
            | some r' =>
              rw [hl] at hm
              have : f r' = (x, r) := by simpa using hm
              have e : r' = r := by rw [← hf r', this]
              rw [e] at hl
              exact fin _ hk hl
          split at h
          · split at h
            · split at h
              · rename_i m _ _ _ r' hr
                have hm : ((gapL 0 ((gapL 0 t).drop k)).drop m) <:+ s := ((List.drop_suffix ..).trans (gap_sfx 0 _)).trans hk
                simp only [Option.some.injEq, Prod.mk.injEq] at h
                rw [h.2] at hr
                exact fin _ hm hr
              · exact hp _ (fun _ => rfl) h
            · exact hp _ (fun _ => rfl) h
          · exact hp _ (fun _ => rfl) h
      · cases h

/-- A label is not long. -/
theorem define_lab {s r : Str} {x : Df} (h : defineL s = some (x, r)) : x.1.length ≤ 4995 := by
  unfold defineL at h
  split at h
  · cases h
  · rename_i u n hl
    obtain ⟨_, _, hu, _⟩ := label_is hl
    have hf := fold_len u
    have key : x.1 = fold u := by
      repeat' split at h
      all_goals first
        | (cases h; done)
        | (cases h; rfl)
        | (obtain ⟨a, _, e⟩ := Option.map_eq_some_iff.1 h; rw [← (Prod.mk.inj e).1])
    rw [key]
    omega

/-- Definitions with labels that are folded, not empty, and unlike. -/
structure Dok (d : List Df) : Prop where
  each : ∀ x ∈ d, x.1 ≠ [] ∧ fold x.1 = x.1 ∧ x.1.length ≤ 4995
  apart : (d.map (·.1)).Nodup
theorem dok_nil : Dok [] := ⟨(fun x h => by cases h), List.nodup_nil⟩
theorem dok_add {d : List Df} (h : Dok d) {q : Df} (h1 : q.1 ≠ []) (h2 : fold q.1 = q.1) (h3 : q.1.length ≤ 4995) : Dok (addD d q) := by
  unfold addD
  split
  · exact h
  · rename_i hn
    refine ⟨fun x hx => ?_, ?_⟩
    · rcases List.mem_append.1 hx with z | z
      · exact h.each x z
      · simp at z; rw [z]; exact ⟨h1, h2, h3⟩
    · rw [List.map_append, List.nodup_append]
      refine ⟨h.apart, by simp, fun a ha b hb e => ?_⟩
      simp at hb
      apply hn
      obtain ⟨y, hy, hy2⟩ := List.mem_map.1 ha
      rw [List.any_eq_true]
      exact ⟨y, hy, by rw [hy2, e, hb]; simp⟩

theorem off_fine : ∀ (f : Nat) (t : Str) (d : List Df), LN t → Dok d → LN (offF f t d).1 ∧ Dok (offF f t d).2
  | 0, t, d, h1, h2 => ⟨h1, h2⟩
  | f + 1, t, d, h1, h2 => by
    unfold offF
    split
    · exact ⟨h1, h2⟩
    · rename_i hn
      cases hd : defineL t with
      | none => rw [show lnk.defR t = lnk.noDef from by unfold lnk.defR; rw [hd]] at hn; exact absurd rfl hn
      | some qr =>
        obtain ⟨q, r⟩ := qr
        have e : lnk.defR t = (q, t.length - r.length) := by unfold lnk.defR; rw [hd]
        rw [e]
        obtain ⟨p, u, e1, _, e2, e3, _⟩ := define_cut hd
        have hr : t.drop (t.length - r.length) = r := by rw [e1]; simp
        show LN (offF f (t.drop (t.length - r.length)) (addD d q)).1 ∧ Dok (offF f (t.drop (t.length - r.length)) (addD d q)).2
        rw [hr]
        refine off_fine f r _ ?_ (dok_add h2 (by rw [e2]; exact e3) (by rw [e2]; exact fold_fold u) (define_lab hd))
        rcases define_end hd with z | ⟨w, z⟩
        · rw [z]; exact ln_nil
        · exact ln_drop h1 z

theorem tail_fine {t : Str} (h : LN t) (h0 : t ≠ []) : ∃ a c, tailG t = a ++ [c] ∧ c ≠ 32 ∧ c ≠ 9 := by
  unfold tailG Lib.trimRightS
  cases hq : t.reverse.dropWhile (([32, 9] : List UInt8).contains ·) with
  | nil =>
    exfalso
    have hall : ∀ c ∈ t, ([32, 9] : List UInt8).contains c = true := by
      have h3 := dwn (([32, 9] : List UInt8).contains ·) t.reverse
      rw [hq] at h3
      have h3 := List.all_eq_true.1 h3.symm
      exact fun c hc => h3 c (List.mem_reverse.2 hc)
    cases t with
    | nil => exact h0 rfl
    | cons c b =>
      have h1 := h [] c b rfl (.inl rfl)
      have h2 := hall c (List.mem_cons_self ..)
      simp at h2
      rcases h2 with q | q
      · exact h1.1 q
      · exact h1.2 q
  | cons c r =>
    refine ⟨r.reverse, c, by simp, ?_⟩
    have h1 : ([32, 9] : List UInt8).contains c = false := by
      have := List.head?_dropWhile_not (([32, 9] : List UInt8).contains ·) t.reverse
      rw [hq] at this
      simpa using this
    simp at h1
    exact h1

end Go.Proofs.YteonkgneicgkjaaGreatDoor

/- Plain mathematics: what is told is formed: one block, one part, one step. -/
namespace Go.Proofs.YteonkgneicgkjaaGreatDoor

def BI.holds (b : BI) : Prop := b.kind = 1 ∨ b.kind = 2 ∨ b.kind = 3
/-- A block has just what a block of its kind has. -/
structure fineOne (b : BI) (k : Bs) (l : Bool) : Prop where
  item : b.kind = 3 ↔ l = true
  kind : 1 ≤ b.kind ∧ b.kind ≤ 8
  kids : ¬ b.holds → k = .nil
  text : b.holds → b.text = []
  level : b.kind = 4 ↔ b.level ≠ 0
  six : b.level ≤ 6
  info : b.kind ≠ 6 → b.info = []
  own : b.kind ≠ 2 → b.tight = false ∧ b.ordered = false ∧ b.start = 0
  list : b.kind = 2 → k ≠ .nil ∧ (b.ordered = false → b.start = 0)
  para : b.kind = 5 → ∃ t c, b.text = t ++ [c] ∧ c ≠ 32 ∧ c ≠ 9 ∧ t.length ≤ 1099511627776
def Bs.formed : Bs → Bool → Prop
  | .nil, _ => True
  | .cons b k r, l => fineOne b k l ∧ k.formed (b.kind == 2) ∧ r.formed l
theorem formed_snoc : ∀ (x : Bs) (b : BI) (k : Bs) (l : Bool), x.formed l → fineOne b k l → k.formed (b.kind == 2) → (x.snoc b k).formed l
  | .nil, b, k, l, _, h, g => ⟨h, g, trivial⟩
  | .cons c q r, b, k, l, h0, h, g => ⟨h0.1, h0.2.1, formed_snoc r b k l h0.2.2 h g⟩

/-- Document 0, Quote 1, List 2, Item 3; the others 4. -/
def Part.tag : Part → Nat
  | .doc _ => 0
  | .quote _ => 1
  | .list _ _ => 2
  | .item _ _ => 3
  | _ => 4
/-- What may stand in what. -/
def okN (a b : Nat) : Prop := a ≤ 3 ∧ (a = 2 ↔ b = 3) ∧ b ≠ 0
def RowT : List Nat → Prop
  | a :: b :: r => okN a b ∧ RowT (b :: r)
  | _ => True
theorem row_snoc : ∀ (X : List Nat) (b : Nat), RowT (X ++ [b]) ↔ RowT X ∧ ∀ a, X.getLast? = some a → okN a b
  | [], b => by simp [RowT]
  | [a], b => by simp [RowT]
  | a :: c :: r, b => by
    have ih := row_snoc (c :: r) b
    show okN a c ∧ RowT ((c :: r) ++ [b]) ↔ (okN a c ∧ RowT (c :: r)) ∧ _
    rw [ih, List.getLast?_cons_cons, and_assoc]

def Part.fine (M : Nat) : Part → Prop
  | .doc b => b.kids.formed false
  | .quote b => b.kids.formed false
  | .item b _ => b.kids.formed false
  | .list b m => b.kids.formed true ∧ (ordB m.sign = false → m.number = 0)
  | .para b l => l ≤ 6 ∧ (b.rows = [] ∨ (LN (joinL b.rows) ∧ (joinL b.rows).length ≤ M) ∧ joinL b.rows ≠ [])
  | .whole _ _ b => fineOne b .nil false ∧ b.kind ≠ 2
  | _ => True
def Part.full : Part → Prop
  | .list b _ => b.kids ≠ .nil
  | _ => True

theorem fine_q {k : Bs} {q l : Bool} (i : Nat) (hi : i = 1 ∨ i = 3) (hl : l = (i == 3)) : fineOne { kind := i } k l := by
  rcases hi with rfl | rfl <;> subst hl <;> exact ⟨by decide, by decide, fun h => absurd (by first | exact .inl rfl | exact .inr (.inr rfl)) h, fun _ => rfl, by decide, by decide, fun _ => rfl, fun _ => ⟨rfl, rfl, rfl⟩, (fun h => by cases h), (fun h => by cases h)⟩
theorem fine_t {i lv : Nat} {t u : Str} (hi : i = 4 ∨ i = 5 ∨ i = 6 ∨ i = 7 ∨ i = 8) (h4 : i = 4 ↔ lv ≠ 0) (h6 : lv ≤ 6) (hu : i ≠ 6 → u = []) (h5 : i = 5 → ∃ a c, t = a ++ [c] ∧ c ≠ 32 ∧ c ≠ 9 ∧ a.length ≤ 1099511627776) : fineOne { kind := i, level := lv, text := t, info := u } .nil false := by
  refine ⟨⟨fun h => ?_, fun h => by cases h⟩, ⟨?_, ?_⟩, fun _ => rfl, fun h => ?_, h4, h6, hu, fun _ => ⟨rfl, rfl, rfl⟩, fun h => ?_, h5⟩
  · have h : i = 3 := h; omega
  · show 1 ≤ i; omega
  · show i ≤ 8; omega
  · have h' : i = 1 ∨ i = 2 ∨ i = 3 := h; clear h h5 hu; exfalso; omega
  · have h' : i = 2 := h; clear h h5 hu; exfalso; omega

/-- What is told of a part. -/
theorem told_fine {M : Nat} (hM : M ≤ 1099511627776) {p : Part} (h : p.fine M) (hf : p.full) (h0 : p.tag ≠ 0) (hn : toldO p = true) : fineOne (toldB p) (toldK p) (p.tag == 3) ∧ (toldK p).formed ((toldB p).kind == 2) := by
  cases p with
  | doc b => exact absurd rfl h0
  | quote b => exact ⟨fine_q (q := true) 1 (.inl rfl) rfl, h⟩
  | item b w => exact ⟨fine_q (q := true) 3 (.inr rfl) rfl, h⟩
  | list b m =>
    refine ⟨⟨⟨(fun q => by cases q), (fun q => by cases q)⟩, ⟨by show 1 ≤ 2; decide, by show 2 ≤ 8; decide⟩, fun q => absurd (.inr (.inl rfl)) q, fun _ => rfl, ⟨(fun q => by cases q), fun q => absurd rfl q⟩, Nat.zero_le _, fun _ => rfl, fun q => absurd rfl q, fun _ => ⟨hf, h.2⟩, (fun q => by cases q)⟩, h.1⟩
  | whole f l b =>
    refine ⟨h.1, ?_⟩
    show Bs.formed .nil _
    trivial
  | fenced b c k i t => exact ⟨fine_t (.inr (.inr (.inl rfl))) (by decide) (by decide) (fun q => absurd rfl q) (fun q => by cases q), trivial⟩
  | indented b => exact ⟨fine_t (.inr (.inr (.inl rfl))) (by decide) (by decide) (fun q => absurd rfl q) (fun q => by cases q), trivial⟩
  | html b k => exact ⟨fine_t (.inr (.inr (.inr (.inl rfl)))) (by decide) (by decide) (fun q => rfl) (fun q => by cases q), trivial⟩
  | para b l =>
    have hr : b.rows ≠ [] := by simpa [toldO] using hn
    have h2 : (LN (joinL b.rows) ∧ (joinL b.rows).length ≤ M) ∧ joinL b.rows ≠ [] := h.2.resolve_left hr
    have h3 : ∃ a c, tailG (joinL b.rows) = a ++ [c] ∧ c ≠ 32 ∧ c ≠ 9 ∧ a.length ≤ 1099511627776 := by
      obtain ⟨a, c, e1, e2, e3⟩ := tail_fine h2.1.1 h2.2
      have := trimRight_len (joinL b.rows) [32, 9]
      have e4 : (tailG (joinL b.rows)).length = a.length + 1 := by rw [e1]; simp
      unfold tailG at e4
      exact ⟨a, c, e1, e2, e3, by omega⟩
    cases l with
    | zero =>
      have e : toldB (.para b 0) = { kind := 5, text := tailG (joinL b.rows) } := by simp [toldB, hr]
      rw [e]
      exact ⟨fine_t (.inr (.inl rfl)) (by decide) (by decide) (fun _ => rfl) (fun _ => h3), trivial⟩
    | succ l =>
      have e : toldB (.para b (l + 1)) = { kind := 4, level := l + 1, text := tailG (joinL b.rows) } := by simp [toldB, hr]
      rw [e]
      exact ⟨fine_t (.inl rfl) (by simp) h.1 (fun _ => rfl) (fun q => by cases q), trivial⟩

theorem kids_fine {M : Nat} (hM : M ≤ 1099511627776) (x : Box) {p : Part} {l : Bool} (hx : x.kids.formed l) (h : p.fine M) (hf : p.full) (h0 : p.tag ≠ 0) (hl : (p.tag == 3) = l) : (x.hold p).kids.formed l := by
  rw [kids_hold]
  cases hn : toldO p
  · simp only [Bool.false_eq_true, if_false]; exact hx
  · simp only [if_true]
    have := told_fine hM h hf h0 hn
    exact formed_snoc _ _ _ _ hx (hl ▸ this.1) this.2
theorem hold_tag (c p : Part) : (c.hold p).tag = c.tag := by cases c <;> rfl
theorem snoc_ne : ∀ (x : Bs) (b : BI) (k : Bs), x.snoc b k ≠ .nil
  | .nil, _, _ => by intro h; cases h
  | .cons _ _ _, _, _ => by intro h; cases h
theorem hold_fine {M : Nat} (hM : M ≤ 1099511627776) {c p : Part} (hc : c.fine M) (h : p.fine M) (hf : p.full) (ho : okN c.tag p.tag) : (c.hold p).fine M ∧ (c.hold p).full := by
  have h0 := ho.2.2
  have hl : ∀ q : Bool, ((c.tag == 2) = q) → (p.tag == 3) = q := fun q hq => by
    rw [← hq]
    cases h1 : (p.tag == 3) <;> cases h2 : (c.tag == 2) <;> simp at h1 h2 ⊢
    · exact h1 (ho.2.1.1 h2)
    · exact h2 (ho.2.1.2 h1)
  cases c with
  | doc b => exact ⟨kids_fine hM b hc h hf h0 (hl false rfl), trivial⟩
  | quote b => exact ⟨kids_fine hM b hc h hf h0 (hl false rfl), trivial⟩
  | item b w => exact ⟨kids_fine hM b hc h hf h0 (hl false rfl), trivial⟩
  | list b m =>
    refine ⟨⟨kids_fine hM b hc.1 h hf h0 (hl true rfl), hc.2⟩, ?_⟩
    have h3 : p.tag = 3 := ho.2.1.1 rfl
    show (b.hold p).kids ≠ .nil
    rw [kids_hold]
    have : toldO p = true := by cases p <;> first | rfl | (cases h3; done)
    rw [this]
    simp only [if_true]
    exact snoc_ne _ _ _
  | _ => exact absurd ho.1 (by show ¬ 4 ≤ 3; decide)

theorem off_part {M : Nat} {p : Part} (h : p.fine M) {d : List Df} (hd : Dok d) : (St.takeOff p d).1.fine M ∧ Dok (St.takeOff p d).2 ∧ (St.takeOff p d).1.tag = p.tag ∧ (p.full → (St.takeOff p d).1.full) := by
  cases p with
  | para b l =>
    have hj : LN (joinL b.rows) ∧ (joinL b.rows).length ≤ M := by
      rcases h.2 with q | q
      · rw [q]; exact ⟨ln_nil, Nat.zero_le _⟩
      · exact q.1
    obtain ⟨x, y⟩ := off_fine ((joinL b.rows).length + 1) (joinL b.rows) d hj.1 hd
    have hz := (off_defs ((joinL b.rows).length + 1) (joinL b.rows) d).1
    refine ⟨⟨h.1, ?_⟩, y, rfl, fun _ => trivial⟩
    show offRows b.rows d = [] ∨ (LN (joinL (offRows b.rows d)) ∧ (joinL (offRows b.rows d)).length ≤ M) ∧ joinL (offRows b.rows d) ≠ []
    unfold offRows
    split
    · exact .inl rfl
    · rename_i hq
      have hj2 := hj.2
      exact .inr ⟨⟨x, show (off (joinL b.rows) d).1.length ≤ M by unfold off; omega⟩, hq⟩
  | _ => exact ⟨h, hd, rfl, id⟩

structure Fo (M : Nat) (s : St) : Prop where
  lim : M ≤ 1099511627776
  fine : ∀ p ∈ s.opens, p.fine M
  row : RowT (s.opens.map Part.tag)
  full : ∀ p, s.opens.getLast? = some p → p.full
  defs : Dok s.defs

theorem fo_close {M : Nat} {s : St} {n : Nat} (hn : s.opens.length = n + 2) (h : Fo M s) : Fo M s.close := by
  obtain ⟨X, q, p, e1, e2, e3⟩ := close_form hn
  have hq : q.fine M := h.fine q (by rw [e1]; simp)
  have hp : p.fine M := h.fine p (by rw [e1]; simp)
  have hr := h.row
  rw [e1, List.map_append, List.map_append, List.map_singleton, List.map_singleton, row_snoc] at hr
  have ho : okN q.tag p.tag := hr.2 q.tag (by simp)
  have hf : p.full := h.full p (by rw [e1]; simp)
  obtain ⟨a1, a2, a3, a4⟩ := off_part hp h.defs
  obtain ⟨b1, b2⟩ := hold_fine h.lim hq a1 (a4 hf) (by rw [a3]; exact ho)
  have hl : s.opens.getLast? = some p := by rw [e1]; simp
  refine ⟨h.lim, fun x hx => ?_, ?_, fun x hx => ?_, ?_⟩
  · rw [e2] at hx
    rcases List.mem_append.1 hx with z | z
    · exact h.fine x (by rw [e1]; simp [z])
    · simp at z; rw [z]; exact b1
  · rw [e2, List.map_append, List.map_singleton, hold_tag]
    exact hr.1
  · rw [e2] at hx
    simp at hx
    rw [← hx]
    exact b2
  · unfold St.close
    rw [hl]
    exact a2
theorem fo_push {M : Nat} {s : St} (h : Fo M s) {p : Part} (hp : p.fine M) (hf : p.full) (ho : ∀ q, s.opens.getLast? = some q → okN q.tag p.tag) : Fo M (s.push p) := by
  refine ⟨h.lim, fun x hx => ?_, ?_, fun x hx => ?_, h.defs⟩
  · have hx : x ∈ s.opens ++ [p] := hx
    rcases List.mem_append.1 hx with z | z
    · exact h.fine x z
    · simp at z; rw [z]; exact hp
  · show RowT ((s.opens ++ [p]).map Part.tag)
    rw [List.map_append, List.map_singleton, row_snoc]
    refine ⟨h.row, fun a ha => ?_⟩
    rw [List.getLast?_map] at ha
    cases hq : s.opens.getLast? with
    | none => rw [hq] at ha; cases ha
    | some q => rw [hq] at ha; simp at ha; rw [← ha]; exact ho q hq
  · have hx : (s.opens ++ [p]).getLast? = some x := hx
    simp at hx
    rw [← hx]
    exact hf
theorem fo_on {M : Nat} {s : St} (h : Fo M s) (k : Nat) : Fo M { s with on := k } := ⟨h.lim, h.fine, h.row, h.full, h.defs⟩
/-- The last part is another one of its kind. -/
theorem fo_set {M : Nat} {s : St} (h : Fo M s) {p p' : Part} (hl : s.opens.getLast? = some p) (hp : p'.fine M) (hf : p'.full) (ht : p'.tag = p.tag) (k : Nat) {d : List Df} (hd : Dok d) : Fo M { s with opens := s.opens.dropLast ++ [p'], on := k, defs := d } := by
  obtain ⟨X, e⟩ := List.getLast?_eq_some_iff.1 hl
  refine ⟨h.lim, fun x hx => ?_, ?_, fun x hx => ?_, hd⟩
  · have hx : x ∈ s.opens.dropLast ++ [p'] := hx
    rcases List.mem_append.1 hx with z | z
    · exact h.fine x (List.dropLast_subset _ z)
    · simp at z; rw [z]; exact hp
  · show RowT ((s.opens.dropLast ++ [p']).map Part.tag)
    have := h.row
    rw [e] at this ⊢
    rw [List.map_append, List.map_singleton] at this
    rw [List.dropLast_concat, List.map_append, List.map_singleton, ht]
    exact this
  · have hx : (s.opens.dropLast ++ [p']).getLast? = some x := hx
    simp at hx
    rw [← hx]
    exact hf

theorem fine_mono {M M' : Nat} (hm : M ≤ M') {p : Part} (h : p.fine M) : p.fine M' := by
  cases p with
  | para b l => exact ⟨h.1, h.2.imp id (fun q => ⟨⟨q.1.1, Nat.le_trans q.1.2 hm⟩, q.2⟩)⟩
  | _ => exact h
theorem fo_mono {M M' : Nat} (hm : M ≤ M') (hl : M' ≤ 1099511627776) {s : St} (h : Fo M s) : Fo M' s := ⟨hl, fun p hp => fine_mono hm (h.fine p hp), h.row, h.full, h.defs⟩

end Go.Proofs.YteonkgneicgkjaaGreatDoor

/- Plain mathematics: what is told is formed: all lines. -/
namespace Go.Proofs.YteonkgneicgkjaaGreatDoor

theorem beh_in : ∀ (l : Str) (c : UInt8), c ∈ beh l → c ∈ l
  | [], c, h => h
  | b :: t, c, h => by
    unfold beh at h
    split at h
    · exact List.mem_cons_of_mem _ (beh_in t c h)
    · exact h
theorem pass_sub : ∀ (n : Nat) (l : Str) (k : Nat) (c : UInt8), c ∈ (passR n l k).1 → c ∈ l
  | 0, l, k, c, h => h
  | _ + 1, [], k, c, h => h
  | n + 1, b :: t, k, c, h => List.mem_cons_of_mem _ (pass_sub n t _ c h)
theorem move_sub (n : Nat) (σ : Pl) (c : UInt8) (h : c ∈ (moveR n σ).1) : c ∈ σ.1 := beh_in _ _ (pass_sub _ _ _ _ h)
theorem step_sub {σ τ : Pl} (h : stepR σ = some τ) (c : UInt8) (hc : c ∈ τ.1) : c ∈ σ.1 := by
  obtain ⟨l, p, k⟩ := σ
  cases p with
  | succ p => simp only [stepR, Option.some.injEq] at h; rw [← h] at hc; exact hc
  | zero =>
    cases l with
    | nil => cases h
    | cons b t =>
      simp only [stepR] at h
      split at h
      · cases h; exact List.mem_cons_of_mem _ hc
      · cases h
theorem skip_sub : ∀ (n : Nat) (σ : Pl) (c : UInt8), c ∈ (skipR n σ).1 → c ∈ σ.1
  | 0, σ, c, h => h
  | n + 1, σ, c, h => by
    unfold skipR at h
    split at h
    · exact h
    · rename_i τ e
      exact step_sub e c (skip_sub n τ c h)
/-- No line feed follows. -/
def No10 (σ : Pl) : Prop := ∀ c ∈ σ.1, c ≠ 10
theorem pad_sub (σ : Pl) (c : UInt8) (h : c ∈ (St.padding σ).2.1) : c ∈ σ.1 := by
  unfold St.padding at h
  repeat' split at h
  · exact h
  · exact skip_sub _ _ _ h
  · exact skip_sub _ _ _ h
theorem beh_head : ∀ (l : Str) (c : UInt8), (beh l).head? = some c → c ≠ 32 ∧ c ≠ 9
  | [], c, h => by simp [beh] at h
  | b :: t, c, h => by
    unfold beh at h
    split at h
    · exact beh_head t c h
    · rename_i hb
      simp at h
      rw [← h]
      simpa [isB] using hb
theorem beh_ln {σ : Pl} (h : No10 σ) : LN (beh σ.1) := ln_line (fun c hc => h c (beh_in _ _ hc)) (beh_head _)

theorem fo_leave {M : Nat} : ∀ (k B N : Nat) (s : St), s.opens.length = k → Wf B N s → 1 ≤ s.on → Fo M s → Fo M s.leave := by
  intro k
  induction k with
  | zero => intro B N s hk h h1 _; have := h.on; omega
  | succ k ih =>
    intro B N s hk h h1 hf
    by_cases hlt : s.on < s.opens.length
    · have h2 : 2 ≤ s.opens.length := by omega
      obtain ⟨N2, w2, _, e2, o2, _⟩ := close_last h h2
      rw [leave_next hlt e2]
      exact ih B N2 s.close (by omega) w2 (by rw [o2]; omega) (fo_close (n := s.opens.length - 2) (by omega) hf)
    · rw [leave_stop hlt]
      exact hf
theorem fo_clear {M : Nat} {B N : Nat} {s : St} (h : Wf B N s) (h1 : 1 ≤ s.on) (hf : Fo M s) : Fo M s.clear := by
  obtain ⟨N1, w1, o1⟩ := leave_wf _ B N s rfl h h1
  have a := fo_leave _ B N s rfl h h1 hf
  unfold St.clear
  split
  · rename_i hp
    have h2 := para_two w1 hp
    exact fo_close (n := s.leave.opens.length - 2) (by omega) a
  · exact a
theorem isC_tag {p : Part} (h : p.isC = true) : p.tag ≤ 3 := by cases p <;> first | (cases h; done) | (simp [Part.tag]; done)
theorem isList_tag (p : Part) : p.isList = true ↔ p.tag = 2 := by cases p <;> simp [Part.isList, Part.tag]
theorem fo_before {M : Nat} {B N : Nat} {s : St} (h : Wf B N s) (hr : Ready s) (hf : Fo M s) {p : Part} (ht : p.tag ≠ 0 ∧ p.tag ≠ 3) : ∃ t : St, s.stand p = t.push p ∧ Fo M t ∧ ∀ q, t.opens.getLast? = some q → okN q.tag p.tag := by
  obtain ⟨N1, w1, o1⟩ := clear_wf h hr.on
  have a := fo_clear h hr.on hf
  have hc := clear_cont h hr.on hr.leaf
  unfold St.stand
  split
  · rename_i hi
    have h2 := list_two w1 hi
    obtain ⟨m, hm⟩ : ∃ m, s.clear.opens.length = m + 2 := ⟨s.clear.opens.length - 2, by omega⟩
    have b := fo_close hm a
    obtain ⟨N2, w2, l2, _⟩ := close_last w1 h2
    refine ⟨_, rfl, b, (fun q hq => ⟨isC_tag (l2 q hq), ⟨fun e => ?_, fun e => absurd e ht.2⟩, ht.1⟩)⟩
    -- a list within a list
    exfalso
    obtain ⟨X, x, y, e1, e2, e3⟩ := close_form hm
    have hy : y.tag = 2 := by
      unfold St.inList at hi
      rw [e1] at hi
      simp at hi
      exact (isList_tag y).1 hi
    have hxq : q.tag = x.tag := by
      rw [e2] at hq
      simp at hq
      rw [← hq, hold_tag]
    have hrow := a.row
    rw [e1, List.map_append, List.map_append, List.map_singleton, List.map_singleton, row_snoc] at hrow
    have := hrow.2 x.tag (by simp)
    rw [hy] at this
    have := this.2.1.1 (by rw [← hxq]; exact e)
    cases this
  · rename_i hi
    refine ⟨_, rfl, a, (fun q hq => ⟨isC_tag (hc q hq), ⟨fun e => ?_, fun e => absurd e ht.2⟩, ht.1⟩)⟩
    exfalso
    apply hi
    unfold St.inList
    rw [hq]
    exact (isList_tag q).2 e
theorem fo_stand {M : Nat} {B N : Nat} {s : St} (h : Wf B N s) (hr : Ready s) (hf : Fo M s) {p : Part} (hp : p.fine M) (hu : p.full) (ht : p.tag ≠ 0 ∧ p.tag ≠ 3) : Fo M (s.stand p) := by
  obtain ⟨t, e, f, o⟩ := fo_before h hr hf ht
  rw [e]
  exact fo_push f hp hu o
theorem tg1 : (1 : Nat) ≠ 0 ∧ (1 : Nat) ≠ 3 := by decide
theorem tg2 : (2 : Nat) ≠ 0 ∧ (2 : Nat) ≠ 3 := by decide
theorem tg4 : (4 : Nat) ≠ 0 ∧ (4 : Nat) ≠ 3 := by decide
theorem fo_standClose {M : Nat} {B N : Nat} {s : St} (h : Wf B N s) (hr : Ready s) (hf : Fo M s) {p : Part} (hp : p.fine M) (hu : p.full) (ht : p.tag ≠ 0 ∧ p.tag ≠ 3) : Fo M (s.stand p).close := by
  obtain ⟨X, e1, e2, e3, e4⟩ := stand_on h hr.on hr.leaf p
  obtain ⟨n, hn⟩ : ∃ n, X.length = n + 1 := ⟨X.length - 1, by have := List.length_pos_iff.2 e3; omega⟩
  exact fo_close (n := n) (by rw [e1, List.length_append, hn]; rfl) (fo_stand h hr hf hp hu ht)

theorem mark_num (l : Str) (h : ordB (markL l).1 = false) : (markL l).2.2 = 0 := by
  unfold markL at h ⊢
  split
  · rfl
  · rename_i h9
    rw [if_neg h9] at h
    split
    · rfl
    · rename_i b t hb
      rw [hb] at h
      simp only at h
      split
      · rfl
      · rename_i hp
        rw [if_neg hp] at h
        by_cases hz : 0 < rowN digitB l
        · simp only [if_pos hz] at h ⊢
          split
          · rename_i hc
            rw [if_pos hc] at h
            have h : ordB b = false := h
            unfold ordB at h
            rw [h] at hc
            cases hc
          · rfl
        · simp only [if_neg hz] at h ⊢
          split
          · rw [show rowN digitB l = 0 by omega]
            rfl
          · rfl
theorem head_six (l : Str) : (headL l).1 ≤ 6 := by
  unfold headL
  split
  · exact Nat.zero_le _
  · rename_i h
    show runB 35 l ≤ 6
    rcases Nat.lt_or_ge 6 (runB 35 l) with q | q
    · exact absurd (.inr (.inl q)) h
    · exact q
theorem under_two (l : Str) : underL l ≤ 2 := by
  unfold underL
  repeat' split
  all_goals decide

/-- A List, and its first Item. -/
theorem fo_item {M : Nat} {B N n w : Nat} {s : St} (h : Wf B N s) (hr : Ready s) (hf : Fo M s) {m : Mk} (hm : ordB m.sign = false → m.number = 0) : Fo M ((s.stand (.list { first := n, last := n } m)).push (.item { first := n, last := n } w)) := by
  obtain ⟨t, e, f, o⟩ := fo_before h hr hf (p := .list { first := n, last := n } m) tg2
  rw [e]
  have hrow : RowT ((t.opens ++ [Part.list { first := n, last := n } m]).map Part.tag) := by
    rw [List.map_append, List.map_singleton, row_snoc]
    refine ⟨f.row, fun a ha => ?_⟩
    rw [List.getLast?_map] at ha
    cases hq : t.opens.getLast? with
    | none => rw [hq] at ha; cases ha
    | some q => rw [hq] at ha; simp at ha; rw [← ha]; exact o q hq
  refine ⟨f.lim, fun x hx => ?_, ?_, fun x hx => ?_, f.defs⟩
  · have hx : x ∈ (t.opens ++ [Part.list { first := n, last := n } m]) ++ [Part.item { first := n, last := n } w] := hx
    rcases List.mem_append.1 hx with z | z
    · rcases List.mem_append.1 z with z | z
      · exact f.fine x z
      · simp at z; rw [z]; exact ⟨trivial, hm⟩
    · simp at z; rw [z]; trivial
  · show RowT (((t.opens ++ [Part.list { first := n, last := n } m]) ++ [Part.item { first := n, last := n } w]).map Part.tag)
    rw [List.map_append (l₂ := [Part.item { first := n, last := n } w]), List.map_singleton, row_snoc]
    refine ⟨hrow, fun a ha => ?_⟩
    simp at ha
    rw [← ha]
    exact ⟨by show 2 ≤ 3; decide, ⟨fun _ => rfl, fun _ => rfl⟩, by show 3 ≠ 0; decide⟩
  · have hx : ((t.opens ++ [Part.list { first := n, last := n } m]) ++ [Part.item { first := n, last := n } w]).getLast? = some x := hx
    simp at hx
    rw [← hx]
    trivial

theorem fo_begin {M : Nat} {B N n : Nat} {s : St} {σ : Pl} (h : Wf B N s) (hr : Ready s) (hf : Fo M s) (h10 : No10 σ) : Fo M (s.begin' n σ).2.1 ∧ No10 (s.begin' n σ).2.2 := by
  unfold St.begin' St.begin
  simp only
  split
  · unfold St.beginIndented
    split
    · exact ⟨hf, h10⟩
    · exact ⟨fo_stand h hr hf trivial trivial tg4, fun c hc => h10 c (skip_sub _ _ _ hc)⟩
  split
  · exact ⟨fo_stand h hr hf (by trivial) trivial tg1, fun c hc => h10 c (move_sub _ _ _ (skip_sub _ _ _ hc))⟩
  split
  · rename_i hh
    exact ⟨fo_standClose h hr hf ⟨fine_t (.inl rfl) ⟨fun _ => by omega, fun _ => rfl⟩ (head_six _) (fun _ => rfl) (fun q => by cases q), (fun q => by cases q)⟩ trivial tg4, h10⟩
  split
  · exact ⟨fo_stand h hr hf trivial trivial tg4, h10⟩
  split
  · refine ⟨?_, h10⟩
    show Fo M (s.beginHtml endsX n σ (htmlL (beh σ.1)))
    unfold St.beginHtml
    have hlw : ((Part.html { first := n, last := n } (htmlL (beh σ.1))).takes endsX n σ).2.2.1.fine M ∧ ((Part.html { first := n, last := n } (htmlL (beh σ.1))).takes endsX n σ).2.2.1.full ∧ ((Part.html { first := n, last := n } (htmlL (beh σ.1))).takes endsX n σ).2.2.1.tag = 4 := by simp only [Part.takes]; split <;> exact ⟨trivial, trivial, rfl⟩
    simp only
    split
    · exact fo_stand h hr hf hlw.1 hlw.2.1 (by rw [hlw.2.2]; exact tg4)
    · exact fo_standClose h hr hf hlw.1 hlw.2.1 (by rw [hlw.2.2]; exact tg4)
  split
  · rename_i hu
    refine ⟨?_, h10⟩
    obtain ⟨x, l, hlast⟩ := isClose_para hu.2
    have h2 := h.two hlast rfl
    have hx : (Part.para x l).fine M := hf.fine _ (List.mem_of_getLast? hlast)
    obtain ⟨a1, a2, _, _⟩ := off_part hx hf.defs
    have a1 : l ≤ 6 ∧ (offRows x.rows s.defs = [] ∨ (LN (joinL (offRows x.rows s.defs)) ∧ (joinL (offRows x.rows s.defs)).length ≤ M) ∧ joinL (offRows x.rows s.defs) ≠ []) := a1
    have key : ∀ (x' : Body) (l' : Nat), (Part.para x' l').fine M → Fo M (St.close { s with opens := s.opens.dropLast ++ [.para x' l'], defs := (off (joinL x.rows) s.defs).2 }) := by
      intro x' l' hp
      refine fo_close (n := s.opens.length - 2) ?_ (fo_set hf hlast hp trivial rfl s.on a2)
      show (s.opens.dropLast ++ [Part.para x' l']).length = _
      rw [List.length_append, List.length_dropLast]
      show s.opens.length - 1 + 1 = _
      omega
    unfold St.underline
    rw [hlast]
    simp only
    split
    · rename_i hz
      exact key _ _ ⟨a1.1, .inl hz⟩
    · exact key _ _ ⟨Nat.le_trans (under_two _) (by decide), a1.2⟩
  split
  · exact ⟨fo_standClose h hr hf ⟨fine_t (.inr (.inr (.inr (.inr rfl)))) (by decide) (by decide) (fun _ => rfl) (fun q => by cases q), (fun q => by cases q)⟩ trivial tg4, h10⟩
  split
  · obtain ⟨N1, w1, o1⟩ := clear_wf h hr.on
    have a := fo_clear h hr.on hf
    have hc := clear_cont h hr.on hr.leaf
    unfold St.beginItem
    simp only
    refine ⟨?_, fun c hc => h10 c (move_sub _ _ _ (pad_sub _ _ hc))⟩
    split
    · rename_i hs
      refine fo_push a (by trivial) trivial (fun q hq => ?_)
      rw [hq] at hs
      have ht : q.tag = 2 := by cases q <;> first | rfl | (cases hs; done)
      rw [ht]
      exact ⟨by decide, ⟨fun _ => rfl, fun _ => rfl⟩, by show 3 ≠ 0; decide⟩
    · have hr1 : Ready s.clear := ⟨o1, fun q hq => .inl (hc q hq)⟩
      exact fo_item w1 hr1 a (m := St.markOf (beh σ.1)) (fun q => mark_num _ q)
  · exact ⟨hf, h10⟩

end Go.Proofs.YteonkgneicgkjaaGreatDoor

/- Plain mathematics: what is told is formed, and definitions have unlike labels: the whole text. -/
namespace Go.Proofs.YteonkgneicgkjaaGreatDoor

theorem fo_text {M L B N n : Nat} {s : St} {σ : Pl} (h : Wf B N s) (hr : Ready s) (hf : Fo M s) (h10 : No10 σ) (hL : wt σ ≤ 4 * L) (hM : M + L + 1 ≤ 1099511627776) : Fo (M + L + 1) (s.text n σ) := by
  have hb := beh_ln h10
  have hlen : (beh σ.1).length ≤ L := by
    have h1 := beh_len σ.1
    unfold wt at hL
    omega
  unfold St.text
  split
  · exact fo_mono (by omega) hM (fo_clear h hr.on hf)
  · rename_i hbl
    have hne : beh σ.1 ≠ [] := by
      intro e
      apply hbl
      unfold blankB
      rw [e]
      rfl
    split
    · rename_i b l hq
      have hp : (Part.para b l).fine M := hf.fine _ (List.mem_of_getLast? hq)
      refine fo_set (fo_mono (by omega) hM hf) hq (p' := .para (b.add n (beh σ.1)) l) ⟨hp.1, .inr ?_⟩ trivial rfl s.on hf.defs
      show (LN (joinL (b.rows ++ [beh σ.1])) ∧ (joinL (b.rows ++ [beh σ.1])).length ≤ M + L + 1) ∧ joinL (b.rows ++ [beh σ.1]) ≠ []
      by_cases h0 : b.rows = []
      · rw [h0]; exact ⟨⟨hb, by show (beh σ.1).length ≤ _; omega⟩, hne⟩
      · rw [join_snoc _ _ h0]
        have h3 := (hp.2.resolve_left h0).1.2
        exact ⟨⟨ln_join (hp.2.resolve_left h0).1.1 hb, by rw [List.length_append, List.length_cons]; omega⟩, by simp⟩
    · refine fo_stand h hr (fo_mono (by omega) hM hf) ⟨Nat.zero_le _, .inr ?_⟩ trivial tg4
      exact ⟨⟨hb, by show (beh σ.1).length ≤ _; omega⟩, hne⟩

theorem goes_fine (M n : Nat) (f : Bool) (σ : Pl) (p : Part) : (p.fine M → (p.goesOn n f σ).2.1.fine M) ∧ (p.full → (p.goesOn n f σ).2.1.full) ∧ (p.goesOn n f σ).2.1.tag = p.tag ∧ (No10 σ → No10 (p.goesOn n f σ).2.2) := by
  cases p with
  | quote b => simp only [Part.goesOn]; split <;> first | exact ⟨id, id, rfl, id⟩ | exact ⟨id, id, rfl, fun h c hc => h c (move_sub _ _ _ (skip_sub _ _ _ hc))⟩
  | item b w => simp only [Part.goesOn]; repeat' split
                all_goals first | exact ⟨id, id, rfl, id⟩ | exact ⟨id, id, rfl, fun h c hc => h c (skip_sub _ _ _ hc)⟩
  | _ => exact ⟨id, id, rfl, id⟩
theorem takes_fine (M n : Nat) (σ : Pl) (p : Part) : (p.fine M → (p.takes endsX n σ).2.2.1.fine M) ∧ (p.full → (p.takes endsX n σ).2.2.1.full) ∧ (p.takes endsX n σ).2.2.1.tag = p.tag ∧ (No10 σ → No10 (p.takes endsX n σ).2.2.2) := by
  cases p with
  | fenced b c k i t => simp only [Part.takes]; split <;> first | exact ⟨id, id, rfl, id⟩ | exact ⟨id, id, rfl, fun h c hc => h c (skip_sub _ _ _ hc)⟩
  | indented b => simp only [Part.takes]; split <;> first | exact ⟨id, id, rfl, id⟩ | exact ⟨id, id, rfl, fun h c hc => h c (skip_sub _ _ _ hc)⟩
  | html b k => simp only [Part.takes]; split <;> exact ⟨id, id, rfl, id⟩
  | _ => exact ⟨id, id, rfl, id⟩
theorem goF_fine (M n len : Nat) : ∀ (l : List Part) (i : Nat) (σ : Pl), ((∀ p ∈ l, p.fine M) → ∀ p ∈ (goF n len l i σ).1, p.fine M) ∧ (goF n len l i σ).1.map Part.tag = l.map Part.tag ∧ ((∀ p, l.getLast? = some p → p.full) → ∀ p, (goF n len l i σ).1.getLast? = some p → p.full) ∧ (No10 σ → No10 (goF n len l i σ).2.1)
  | [], i, σ => ⟨(fun _ p hp => by cases hp), rfl, (fun _ p hp => by cases hp), id⟩
  | q :: r, i, σ => by
    have one : ∀ (q' : Part) (r' : List Part), (q.fine M → q'.fine M) → (q.full → q'.full) → q'.tag = q.tag → ((∀ p ∈ r, p.fine M) → ∀ p ∈ r', p.fine M) → r'.map Part.tag = r.map Part.tag → ((∀ p, r.getLast? = some p → p.full) → ∀ p, r'.getLast? = some p → p.full) → ((∀ p ∈ q :: r, p.fine M) → ∀ p ∈ q' :: r', p.fine M) ∧ (q' :: r').map Part.tag = (q :: r).map Part.tag ∧ ((∀ p, (q :: r).getLast? = some p → p.full) → ∀ p, (q' :: r').getLast? = some p → p.full) := by
      intro q' r' a b c d e f
      refine ⟨fun h p hp => ?_, by rw [List.map_cons, List.map_cons, c, e], fun h p hp => ?_⟩
      · rcases List.mem_cons.1 hp with z | z
        · rw [z]; exact a (h q (List.mem_cons_self ..))
        · exact d (fun x hx => h x (List.mem_cons_of_mem _ hx)) p z
      · cases r' with
        | nil =>
          have hr : r = [] := by
            have := congrArg List.length e
            simp at this
            exact List.length_eq_zero_iff.1 this.symm
          simp at hp
          rw [← hp]
          exact b (h q (by rw [hr]; rfl))
        | cons y ys =>
          cases r with
          | nil => simp at e
          | cons z zs =>
            rw [List.getLast?_cons_cons] at hp
            exact f (fun x hx => h x (by rw [List.getLast?_cons_cons]; exact hx)) p hp
    simp only [goF]
    split
    · obtain ⟨a, b, c, d⟩ := goF_fine M n len r (i + 1) σ
      obtain ⟨x, y, z⟩ := one q _ id id rfl a b c
      exact ⟨x, y, z, d⟩
    · obtain ⟨g1, g2, g3, g4⟩ := goes_fine M n (decide (i + 1 < len)) σ q
      split
      · obtain ⟨x, y, z⟩ := one _ r g1 g2 g3 id rfl id
        exact ⟨x, y, z, g4⟩
      · obtain ⟨a, b, c, d⟩ := goF_fine M n len r (i + 1) (q.goesOn n (decide (i + 1 < len)) σ).2.2
        obtain ⟨x, y, z⟩ := one _ _ g1 g2 g3 a b c
        exact ⟨x, y, z, fun h => d (g4 h)⟩

theorem fo_goOn {M B N n : Nat} {s : St} (h : Wf B N s) (σ : Pl) (hf : Fo M s) (h10 : No10 σ) : Fo M (s.goOn endsX n σ).2.1 ∧ No10 (s.goOn endsX n σ).2.2 := by
  obtain ⟨o, τ, e, hg⟩ : ∃ o τ e, goF n s.opens.length s.opens 0 σ = (o, τ, e) := ⟨_, _, _, rfl⟩
  have hol := goF_len n s.opens.length s.opens 0 σ
  obtain ⟨a, b, c, d⟩ := goF_fine M n s.opens.length s.opens 0 σ
  rw [hg] at a b c d hol
  have hF : ∀ on, Fo M ⟨o, on, s.defs⟩ := fun on => ⟨hf.lim, a hf.fine, by show RowT (o.map Part.tag); rw [b]; exact hf.row, c hf.full, hf.defs⟩
  have hT : No10 τ := d h10
  cases e with
  | some j => rw [goOn_some hg]; exact ⟨hF _, hT⟩
  | none =>
    obtain ⟨p, hp⟩ : ∃ p, o.getLast? = some p := by
      obtain ⟨m, q, hq, _⟩ := h.last
      cases hq2 : o.getLast? with
      | none => rw [List.getLast?_eq_none_iff] at hq2; have : o.length = s.opens.length := hol; rw [hq2, hq] at this; simp at this
      | some p => exact ⟨p, rfl⟩
    cases hll : p.isLined
    · rw [goOn_stay hg hp hll]; exact ⟨hF _, hT⟩
    · rw [goOn_takes hg hp hll]
      obtain ⟨t1, t2, t3, t4⟩ := takes_fine M n τ p
      have hs : Fo M { s with opens := o.dropLast ++ [(p.takes endsX n τ).2.2.1], on := o.length } := fo_set (s := ⟨o, o.length, s.defs⟩) (hF _) hp (t1 ((hF 0).fine p (List.mem_of_getLast? hp))) (t2 ((hF 0).full p hp)) t3 o.length hf.defs
      refine ⟨?_, t4 hT⟩
      simp only
      split
      · exact hs
      · have hc : p.isC = false := by cases p <;> first | rfl | (cases hll; done)
        have hgl := goF_last n _ _ _ _ p (by rw [hg]; exact hp) hc
        have h2 : 2 ≤ s.opens.length := h.two hgl (by cases p <;> first | rfl | (cases hll; done))
        have hol : o.length = s.opens.length := hol
        obtain ⟨m, hmm⟩ : ∃ m, o.length = m + 2 := ⟨o.length - 2, by omega⟩
        exact fo_close (n := m) (by show (o.dropLast ++ [_]).length = m + 2; rw [List.length_append, List.length_dropLast, hmm]; rfl) hs

theorem fo_begins {M : Nat} : ∀ (f n B L : Nat) (s : St) (σ : Pl), RunL n s σ B L → B + 2 * f + 3 * (L + 1) + 3 ≤ 549755813888 → L ≤ 2147483648 → Fo M s → No10 σ → wt σ ≤ L → Fo M (St.beginsF htmlL endsX n f s σ).2.1 ∧ No10 (St.beginsF htmlL endsX n f s σ).2.2 ∧ wt (St.beginsF htmlL endsX n f s σ).2.2 ≤ L
  | 0, n, B, L, s, σ, h, _, _, hl, hd, hw => ⟨hl, hd, hw⟩
  | f + 1, n, B, L, s, σ, h, hB, hL, hl, hd, hwt => by
    obtain ⟨⟨N, hw⟩, hr⟩ := h.wf
    obtain ⟨x, y⟩ := fo_begin (n := n) (σ := σ) hw hr hl hd
    obtain ⟨_, _, _, a4, _⟩ := begin_after (n := n) (σ := σ) hw hr
    by_cases h0 : (s.begin' n σ).1 = 0
    · rw [begins_zero h0]
      obtain ⟨a, _⟩ := run_begin h (by omega) hL h0
      exact fo_begins f n (B + 2) L _ _ a (by omega) hL x y (Nat.le_trans a4 hwt)
    · rw [begins_else h0]
      exact ⟨x, y, Nat.le_trans a4 hwt⟩
theorem fo_read {M n B : Nat} {s : St} (h : Run n s B) (l : Str) (hl : l.length ≤ 536870912) (hB : B + 100 * l.length + 100 ≤ 549755813888) (hf : Fo M s) (h10 : ∀ c ∈ l, c ≠ 10) (hM : M + l.length + 1 ≤ 1099511627776) : Fo (M + l.length + 1) (s.read' n l) := by
  obtain ⟨⟨N, hw⟩, hs⟩ := h.wf
  obtain ⟨g1, g2⟩ := fo_goOn (n := n) hw (l, 0, 0) hf h10
  obtain ⟨a1, a2, a3, a4⟩ := goOn_after (n := n) (σ := ((l, 0, 0) : Pl)) hw hs
  have hwt : wt ((l, 0, 0) : Pl) ≤ 4 * l.length := by unfold wt; simp only; omega
  have hfu := fuel_le (Nat.le_trans a4 hwt)
  rw [read_eq]
  rcases a2 with e | e
  · rw [if_pos e]
    have hR := run_go h l hl (by simp only [lineK]; omega) e
    obtain ⟨_, y⟩ := dp_begins (St.fuel (s.goOn endsX n (l, 0, 0)).2.2) n _ _ _ _ hR (by omega) (by omega)
    obtain ⟨x1, x2, x3⟩ := fo_begins (St.fuel (s.goOn endsX n (l, 0, 0)).2.2) n _ _ _ _ hR (by omega) (by omega) g1 g2 (Nat.le_trans a4 hwt)
    by_cases h1 : (St.beginsF htmlL endsX n (St.fuel (s.goOn endsX n (l, 0, 0)).2.2) (s.goOn endsX n (l, 0, 0)).2.1 (s.goOn endsX n (l, 0, 0)).2.2).1 = 1
    · rw [if_pos h1]
      obtain ⟨B', N', w', r'⟩ := y h1
      exact fo_text w' r' x1 x2 x3 hM
    · rw [if_neg h1]
      exact fo_mono (by omega) hM x1
  · rw [if_neg (by rw [e]; decide), if_neg (by rw [e]; decide)]
    exact fo_mono (by omega) hM g1
theorem fo_readAll : ∀ (ls : List Str) (M n B : Nat) (s : St), Run n s B → (∀ l ∈ ls, l.length ≤ 536870912) → (∀ l ∈ ls, ∀ c ∈ l, c ≠ 10) → B + costL ls ≤ 549755813888 → M ≤ B → Fo M s → ∃ M', Fo M' (St.readAll htmlL endsX n s ls)
  | [], M, n, B, s, h, _, _, _, _, hf => ⟨M, hf⟩
  | l :: r, M, n, B, s, h, hls, h10, hB, hm, hf => by
    have hll := hls l (List.mem_cons_self ..)
    simp only [costL] at hB
    have x := fo_read h l hll (by omega) hf (h10 l (List.mem_cons_self ..)) (by omega)
    have h2 := run_read h l hll (by simp only [lineK]; omega)
    simp only [lineK] at h2
    exact fo_readAll r _ (n + 1) _ (s.read' n l) h2 (fun x hx => hls x (List.mem_cons_of_mem _ hx)) (fun x hx => h10 x (List.mem_cons_of_mem _ hx)) (by omega) (by omega) x

/-- What is told is formed. -/
theorem parse_formed (ls : List Str) (hl : ∀ l ∈ ls, l.length ≤ 536870912) (h10 : ∀ l ∈ ls, ∀ c ∈ l, c ≠ 10) (hc : costL ls ≤ 1000000000) : (St.parse htmlL endsX ls).1.formed false ∧ Dok (St.parse htmlL endsX ls).2 := by
  obtain ⟨a, B', b, c⟩ := dp_readAll ls 0 1 St.start run_start hl (by omega)
  obtain ⟨M, x⟩ := fo_readAll ls 0 0 1 St.start run_start hl h10 (by omega) (by omega) ⟨Nat.zero_le _, (fun p hp => by
    have : p = .doc { first := 0, last := 0 } := by simpa [St.start] using hp
    rw [this]; trivial), trivial, (fun p hp => by
    have : .doc { first := 0, last := 0 } = p := by simpa [St.start] using hp
    rw [← this]; trivial), dok_nil⟩
  obtain ⟨⟨N, hw⟩, _⟩ := c.wf
  rw [parse_told]
  generalize St.readAll htmlL endsX 0 St.start ls = s at *
  obtain ⟨z, hz⟩ := hw.doc
  have hpos := (List.getElem?_eq_some_iff.1 hz).1
  have h1 := fo_leave _ B' N ({ s with on := 1 } : St) rfl (hw.onTo 1 hpos) (Nat.le_refl _) (fo_on x 1)
  have hl1 := leave_len _ ({ s with on := 1 } : St) rfl rfl hpos
  obtain ⟨N1, w1, _⟩ := leave_wf _ B' N ({ s with on := 1 } : St) rfl (hw.onTo 1 hpos) (Nat.le_refl _)
  unfold toldS
  generalize St.leave ({ s with on := 1 } : St) = S at *
  obtain ⟨q, hq⟩ := w1.doc
  have hS : S.opens = [.doc q] := by
    obtain ⟨a, ha⟩ := List.length_eq_one_iff.1 hl1
    rw [ha] at hq ⊢
    simp at hq
    rw [hq]
  rw [hS]
  exact ⟨h1.fine (.doc q) (by rw [hS]; simp), h1.defs⟩

end Go.Proofs.YteonkgneicgkjaaGreatDoor

/- Each block has just what a block of its kind has; walked. -/
namespace Go.Proofs.YteonkgneicgkjaaGreatDoor
open Go.RowKit
open cur (cell_blk free_blk set_blk blk_below)

theorem nth_formed : ∀ (k : Bs) (i : Nat) (b : BI) (q : Bs) (z : Bool), k.formed z → k.nth i = some (b, q) → fineOne b q z ∧ q.formed (b.kind == 2)
  | .nil, i, b, q, z, _, h => by cases h
  | .cons c p r, 0, b, q, z, hf, h => by
    simp only [Bs.nth, Option.some.injEq, Prod.mk.injEq] at h
    obtain ⟨rfl, rfl⟩ := h
    exact ⟨hf.1, hf.2.1⟩
  | .cons c p r, i + 1, b, q, z, hf, h => nth_formed r i b q z hf.2.2 h

/-- The eight kinds. -/
theorem fine_kinds {kd lv : Nat} {tx inf : Str} {od tg : Bool} {st : Nat} {q : Bs} {z : Bool} (h : fineOne ⟨kd, lv, tx, inf, od, tg, st⟩ q z) :
    (kd = 1 ∧ z = false ∧ tx = [] ∧ lv = 0 ∧ inf = [] ∧ tg = false ∧ od = false ∧ st = 0) ∨
    (kd = 2 ∧ z = false ∧ tx = [] ∧ lv = 0 ∧ inf = [] ∧ 0 < q.len ∧ (od = true ∨ od = false ∧ st = 0)) ∨
    (kd = 3 ∧ z = true ∧ tx = [] ∧ lv = 0 ∧ inf = [] ∧ tg = false ∧ od = false ∧ st = 0) ∨
    (kd = 4 ∧ z = false ∧ q = .nil ∧ 1 ≤ lv ∧ lv ≤ 6 ∧ inf = [] ∧ tg = false ∧ od = false ∧ st = 0) ∨
    (kd = 5 ∧ z = false ∧ q = .nil ∧ lv = 0 ∧ inf = [] ∧ tg = false ∧ od = false ∧ st = 0 ∧ ∃ t c, tx = t ++ [c] ∧ c ≠ 32 ∧ c ≠ 9 ∧ t.length ≤ 1099511627776) ∨
    (kd = 6 ∧ z = false ∧ q = .nil ∧ lv = 0 ∧ tg = false ∧ od = false ∧ st = 0) ∨
    ((kd = 7 ∨ kd = 8) ∧ z = false ∧ q = .nil ∧ lv = 0 ∧ inf = [] ∧ tg = false ∧ od = false ∧ st = 0) := by
  obtain ⟨h1, h2, h3, h4, h5, h6, h7, h8, h9, h10⟩ := h
  simp only at h1 h2 h3 h4 h5 h6 h7 h8 h9 h10
  have hz : ∀ m, kd = m → m ≠ 3 → z = false := fun m e hm => by
    cases z
    · rfl
    · exact absurd (e.symm.trans (h1.2 rfl)) hm
  have hl : ∀ m, kd = m → m ≠ 4 → lv = 0 := fun m e hm => by
    rcases Nat.eq_zero_or_pos lv with q | q
    · exact q
    · exact absurd (e.symm.trans (h5.2 (by omega))) hm
  have hcs : kd = 1 ∨ kd = 2 ∨ kd = 3 ∨ kd = 4 ∨ kd = 5 ∨ kd = 6 ∨ kd = 7 ∨ kd = 8 := by omega
  rcases hcs with e | e | e | e | e | e | e | e
  · obtain ⟨a, b, c⟩ := h8 (by omega)
    exact .inl ⟨e, hz 1 e (by decide), h4 (.inl e), hl 1 e (by decide), h7 (by omega), a, b, c⟩
  · obtain ⟨a, b⟩ := h9 e
    refine .inr (.inl ⟨e, hz 2 e (by decide), h4 (.inr (.inl e)), hl 2 e (by decide), h7 (by omega), ?_, ?_⟩)
    · cases q with
      | nil => exact absurd rfl a
      | cons _ _ _ => simp only [Bs.len]; omega
    · cases od
      · exact .inr ⟨rfl, b rfl⟩
      · exact .inl rfl
  · obtain ⟨a, b, c⟩ := h8 (by omega)
    exact .inr (.inr (.inl ⟨e, h1.1 e, h4 (.inr (.inr e)), hl 3 e (by decide), h7 (by omega), a, b, c⟩))
  · obtain ⟨a, b, c⟩ := h8 (by omega)
    have := h5.1 e
    exact .inr (.inr (.inr (.inl ⟨e, hz 4 e (by decide), h3 (by rintro (q | q | q) <;> exact absurd (e.symm.trans q) (by decide)), by omega, h6, h7 (by omega), a, b, c⟩)))
  · obtain ⟨a, b, c⟩ := h8 (by omega)
    exact .inr (.inr (.inr (.inr (.inl ⟨e, hz 5 e (by decide), h3 (by rintro (q | q | q) <;> exact absurd (e.symm.trans q) (by decide)), hl 5 e (by decide), h7 (by omega), a, b, c, h10 e⟩))))
  · obtain ⟨a, b, c⟩ := h8 (by omega)
    exact .inr (.inr (.inr (.inr (.inr (.inl ⟨e, hz 6 e (by decide), h3 (by rintro (q | q | q) <;> exact absurd (e.symm.trans q) (by decide)), hl 6 e (by decide), a, b, c⟩)))))
  · obtain ⟨a, b, c⟩ := h8 (by omega)
    exact .inr (.inr (.inr (.inr (.inr (.inr ⟨.inl e, hz 7 e (by decide), h3 (by rintro (q | q | q) <;> exact absurd (e.symm.trans q) (by decide)), hl 7 e (by decide), h7 (by omega), a, b, c⟩)))))
  · obtain ⟨a, b, c⟩ := h8 (by omega)
    exact .inr (.inr (.inr (.inr (.inr (.inr ⟨.inr e, hz 8 e (by decide), h3 (by rintro (q | q | q) <;> exact absurd (e.symm.trans q) (by decide)), hl 8 e (by decide), h7 (by omega), a, b, c⟩)))))

set_option maxHeartbeats 8000000 in
set_option maxRecDepth 40000 in
theorem bformed_any : ∀ (m : Nat) (k : Bs) (z : Bool), k.size ≤ m → k.formed z → ∀ (w : World) (v : Value) (A S : Nat → Prop), KidsV w A S v k →
    Calls Tryz.prog 19 #[v, .bool z] w fun e w' => e = .returned (.bool true) ∧ Below w.heap.size w w' := by
  intro m
  induction m with
  | zero =>
    intro k z hk hf w v A S h
    have hk0 : k = .nil := by cases k with | nil => rfl | cons b q r => simp only [Bs.size] at hk; omega
    subst hk0
    obtain ⟨xs, row, _, _⟩ := h
    obtain ⟨a1, c1, rfl, _⟩ := row_slice row
    clear row
    simp only [Bs.len]
    go_enter Tryz.func19, Tryz.ntmps19
    go_wp2
    go_loopw [5] (fun t wr => t = .int .i64 0 ∧ wr = w) (fun t _ => 0)
    case atStart => exact ⟨rfl, rfl⟩
    case round =>
      obtain ⟨rfl, hw⟩ := hrel
      subst hw
      go_wp2
      go_ret
      exact ⟨rfl, Below.refl _ _⟩
  | succ m ih =>
    intro k z hk hf w v A S h
    obtain ⟨xs, row, _, kc⟩ := h
    have hmx : k.len ≤ maxLen := by
      rcases row.2 with ⟨_, q⟩ | ⟨_, _, _, _, _, _, q1, q2, _⟩
      · omega
      · omega
    unfold maxLen at hmx
    obtain ⟨a1, c1, rfl, _⟩ := row_slice row
    have HIh := (show Hid _ from ih)
    clear ih
    go_enter Tryz.func19, Tryz.ntmps19
    go_wp2
    go_loopw [5] (fun t wr => ∃ i : Nat, t = .int .i64 (i : Int) ∧ i ≤ k.len ∧ Hid (Below w.heap.size w wr)) (fun t _ => k.len - (intOf t).toNat)
    case atStart => exact ⟨0, rfl, Nat.zero_le _, Below.refl _ _⟩
    case round =>
      obtain ⟨i, rfl, hi, HB⟩ := hrel
      by_cases hlt : i < k.len
      · have hlt' : (i : Int) < (k.len : Int) := by omega
        obtain ⟨b, q, hn⟩ := k.nth_some i hlt
        obtain ⟨y1, z1, e1, r1, _, q1⟩ := kc.nth k xs i b q hn
        obtain ⟨hfo, hfq⟩ := nth_formed k i b q z hf hn
        obtain ⟨g1, p1, he1, _, f1⟩ := row_at (row_keeps row (fun g hg => HB.out.block g (World.ownsRow.lt row g hg).2)) (by omega)
        cases he1
        have HR1 : Hid (∀ u, Below w.heap.size w u → KidsV u S S y1 q) := fun u hu => ⟨z1, row_keeps r1 (fun g hg => hu.block g (World.ownsRow.lt r1 g hg).2), ‹_›, KidC.keeps (fun _ z => z) (fun g hg _ => hu.block g hg) q z1 q1⟩
        have hqs : q.size ≤ m := by have := k.nth_size i b q hn; omega
        have hql : q.len ≤ 9223372036854775807 := by
          rcases r1.2 with ⟨_, q⟩ | ⟨_, _, _, _, _, _, q1, q2, _⟩
          · omega
          · unfold maxLen at q2; omega
        obtain ⟨ka1, kc1', rfl, _⟩ := row_slice r1
        obtain ⟨kd, lv, tx, inf, od, tg, st⟩ := b
        have x0 := f1 _ _ (e1 0 _ rfl)
        have x1 := f1 _ _ (e1 1 _ rfl)
        have x2 := f1 _ _ (e1 2 _ rfl)
        have x3 := f1 _ _ (e1 3 _ rfl)
        have x4 := f1 _ _ (e1 4 _ rfl)
        have x5 := f1 _ _ (e1 5 _ rfl)
        have x6 := f1 _ _ (e1 6 _ rfl)
        have x7 := f1 _ _ (e1 7 _ rfl)
        simp only [strV, Nat.add_zero] at x0 x2 x3
        have HC : Hid (∀ u, Below w.heap.size w u → Calls Tryz.prog 19 #[.slice ka1 q.len kc1', .bool (kd == 2)] u fun e w' => e = .returned (.bool true) ∧ Below u.heap.size u w') := fun u hu => HIh.out q (kd == 2) hqs hfq u _ S S (HR1.out u hu)
        have hks := fine_kinds hfo
        clear f1 e1 row kc r1 q1 hn hfo HR1 hfq HIh hqs hk hf
        rcases hks with ⟨rfl, rfl, rfl, rfl, rfl, rfl, rfl, rfl⟩ | ⟨rfl, rfl, rfl, rfl, rfl, hq0, hod⟩ | ⟨rfl, rfl, rfl, rfl, rfl, rfl, rfl, rfl⟩ | ⟨rfl, rfl, rfl, hv1, hv6, rfl, rfl, rfl, rfl⟩ | ⟨rfl, rfl, rfl, rfl, rfl, rfl, rfl, rfl, t, c, rfl, hc1, hc2, htl⟩ | ⟨rfl, rfl, rfl, rfl, rfl, rfl, rfl⟩ | ⟨hkd, rfl, rfl, rfl, rfl, rfl, rfl, rfl⟩
        · go_wp2_with (go_at_call 19; refine Calls.mono (HC.out _ (HB.out.alloc HB.out.size _)) ?_; rintro e u ⟨rfl, hu⟩; have HU : Hid (Below w.heap.size w u) := (HB.out.alloc HB.out.size _).trans (hu.mono (HB.out.alloc HB.out.size _).size); clear hu)
          go_roundw
          case rel => exact ⟨i + 1, by go_num, by omega, HU⟩
          case measure => simp [intOf]; omega
        · have hq1 : (q.len : Int) > 0 := by omega
          have hq2 : ¬ (q.len : Int) = 0 := by omega
          have hqb : ((q.len : Int) == 0) = false := by simpa using hq2
          rcases hod with rfl | ⟨rfl, rfl⟩
          all_goals
            go_wp2_with (go_at_call 19; refine Calls.mono (HC.out _ (HB.out.alloc HB.out.size _)) ?_; rintro e u ⟨rfl, hu⟩; have HU : Hid (Below w.heap.size w u) := (HB.out.alloc HB.out.size _).trans (hu.mono (HB.out.alloc HB.out.size _).size); clear hu)
            go_roundw
            case rel => exact ⟨i + 1, by go_num, by omega, HU⟩
            case measure => simp [intOf]; omega
        · go_wp2_with (go_at_call 19; refine Calls.mono (HC.out _ (HB.out.alloc HB.out.size _)) ?_; rintro e u ⟨rfl, hu⟩; have HU : Hid (Below w.heap.size w u) := (HB.out.alloc HB.out.size _).trans (hu.mono (HB.out.alloc HB.out.size _).size); clear hu)
          go_roundw
          case rel => exact ⟨i + 1, by go_num, by omega, HU⟩
          case measure => simp [intOf]; omega
        · have hv : ¬ (lv : Int) = 0 := by omega
          have hvb : ((lv : Int) == 0) = false := by simpa using hv
          have hvn : ((lv : Int) != 0) = true := by simpa using hv
          have hv2 : ¬ (lv : Int) < 0 := by omega
          have hv3 : ¬ (lv : Int) > 6 := by omega
          have hv4 : ¬ 6 < (lv : Int) := by omega
          simp only [Bs.len] at HC x7 ⊢
          go_wp2_with (go_at_call 19; refine Calls.mono (HC.out _ (HB.out.alloc HB.out.size _)) ?_; rintro e u ⟨rfl, hu⟩; have HU : Hid (Below w.heap.size w u) := (HB.out.alloc HB.out.size _).trans (hu.mono (HB.out.alloc HB.out.size _).size); clear hu)
          go_roundw
          case rel => exact ⟨i + 1, by go_num, by omega, HU⟩
          case measure => simp [intOf]; omega
        · simp only [Bs.len] at HC x7 ⊢
          have hsz : (ByteArray.mk (t ++ [c]).toArray).size = t.length + 1 := by rw [size_list]; simp
          have hnl : ¬ (ByteArray.mk (t ++ [c]).toArray).toList = [] := fun e => by rw [ByteArray.toList_eq, list_data] at e; simp at e
          have hx : ∃ h : t.length < (ByteArray.mk (t ++ [c]).toArray).size, (ByteArray.mk (t ++ [c]).toArray)[t.length]'h = c := ⟨by omega, by show (t ++ [c]).toArray[t.length] = c; simp⟩
          obtain ⟨hh, hx⟩ := hx
          have h32 : ¬ (((ByteArray.mk (t ++ [c]).toArray)[t.length]'hh).toNat : Int) = 32 := by
            rw [hx]
            intro e
            exact hc1 (UInt8.toNat_inj.1 (by show c.toNat = 32; omega))
          have h9 : ¬ (((ByteArray.mk (t ++ [c]).toArray)[t.length]'hh).toNat : Int) = 9 := by
            rw [hx]
            intro e
            exact hc2 (UInt8.toNat_inj.1 (by show c.toNat = 9; omega))
          have hnb : (ByteArray.mk (t ++ [c]).toArray).toList.isEmpty = false := by
            cases hq : (ByteArray.mk (t ++ [c]).toArray).toList with
            | nil => exact absurd hq hnl
            | cons _ _ => rfl
          have h32b : ((((ByteArray.mk (t ++ [c]).toArray)[t.length]'hh).toNat : Int) == 32) = false := by simpa using h32
          have h9b : ((((ByteArray.mk (t ++ [c]).toArray)[t.length]'hh).toNat : Int) == 9) = false := by simpa using h9
          have hti : (t.length : Int) < (t.length : Int) + 1 := by omega
          clear hx hc1 hc2
          generalize ByteArray.mk (t ++ [c]).toArray = TX at *
          go_wp2_with (go_at_call 19; refine Calls.mono (HC.out _ (HB.out.alloc HB.out.size _)) ?_; rintro e u ⟨rfl, hu⟩; have HU : Hid (Below w.heap.size w u) := (HB.out.alloc HB.out.size _).trans (hu.mono (HB.out.alloc HB.out.size _).size); clear hu)
          go_roundw
          case rel => exact ⟨i + 1, by go_num, by omega, HU⟩
          case measure => simp [intOf]; omega
        · simp only [Bs.len] at HC x7 ⊢
          go_wp2_with (go_at_call 19; refine Calls.mono (HC.out _ (HB.out.alloc HB.out.size _)) ?_; rintro e u ⟨rfl, hu⟩; have HU : Hid (Below w.heap.size w u) := (HB.out.alloc HB.out.size _).trans (hu.mono (HB.out.alloc HB.out.size _).size); clear hu)
          go_roundw
          case rel => exact ⟨i + 1, by go_num, by omega, HU⟩
          case measure => simp [intOf]; omega
        · simp only [Bs.len] at HC x7 ⊢
          rcases hkd with rfl | rfl
          all_goals
            go_wp2_with (go_at_call 19; refine Calls.mono (HC.out _ (HB.out.alloc HB.out.size _)) ?_; rintro e u ⟨rfl, hu⟩; have HU : Hid (Below w.heap.size w u) := (HB.out.alloc HB.out.size _).trans (hu.mono (HB.out.alloc HB.out.size _).size); clear hu)
            go_roundw
            case rel => exact ⟨i + 1, by go_num, by omega, HU⟩
            case measure => simp [intOf]; omega
      · have hge : ¬ (i : Int) < (k.len : Int) := by omega
        go_wp2
        go_ret
        exact ⟨rfl, HB.out⟩

end Go.Proofs.YteonkgneicgkjaaGreatDoor
