
/- Several texts in one. -/
import Derived.Test.YtcbojffcnlkejaaGreatDoorH01
import Derived.Test.YtcbojffcnlkejaaGreatDoorG50
set_option linter.unusedVariables false
/- How many quotes and items stand within one another; walked. -/
namespace Go.Proofs.YtcbojffcnlkejaaGreatDoor
open Go.RowKit

namespace Bs
def deepOne (b : BI) (d : Nat) : Nat := if b.kind = 1 ∨ b.kind = 3 then d + 1 else d
def deep : Bs → Nat
  | nil => 0
  | cons b k r => max (deepOne b (deep k)) (deep r)
def deepTo : Bs → Nat → Nat
  | nil, _ => 0
  | cons _ _ _, 0 => 0
  | cons b k r, i + 1 => max (deepOne b (deep k)) (deepTo r i)
theorem deepTo_zero (k : Bs) : k.deepTo 0 = 0 := by cases k <;> rfl
theorem deepTo_all : ∀ (k : Bs) (i : Nat), k.len ≤ i → k.deepTo i = k.deep
  | nil, i, _ => rfl
  | cons b q r, 0, h => by simp [len] at h
  | cons b q r, i + 1, h => by
    simp only [deepTo, deep]
    rw [deepTo_all r i (by simp only [len] at h; omega)]
theorem deepTo_next : ∀ (k : Bs) (i : Nat) (b : BI) (q : Bs), k.nth i = some (b, q) → k.deepTo (i + 1) = max (k.deepTo i) (deepOne b q.deep)
  | nil, i, b, q, h => by cases h
  | cons c p r, 0, b, q, h => by
    simp only [nth, Option.some.injEq, Prod.mk.injEq] at h
    obtain ⟨rfl, rfl⟩ := h
    simp only [deepTo, deepTo_zero]
    omega
  | cons c p r, i + 1, b, q, h => by
    have := deepTo_next r i b q h
    simp only [deepTo] at this ⊢
    rw [this]
    omega
theorem deepTo_le : ∀ (k : Bs) (i : Nat), k.deepTo i ≤ k.deep
  | nil, i => Nat.le_refl _
  | cons b q r, 0 => Nat.zero_le _
  | cons b q r, i + 1 => by
    have := deepTo_le r i
    simp only [deepTo, deep]
    omega
theorem nth_deep : ∀ (k : Bs) (i : Nat) (b : BI) (q : Bs), k.nth i = some (b, q) → deepOne b q.deep ≤ k.deep
  | nil, i, b, q, h => by cases h
  | cons c p r, 0, b, q, h => by
    simp only [nth, Option.some.injEq, Prod.mk.injEq] at h
    obtain ⟨rfl, rfl⟩ := h
    simp only [deep]; omega
  | cons c p r, i + 1, b, q, h => by
    have := nth_deep r i b q h
    simp only [deep]; omega
end Bs

set_option maxHeartbeats 4000000 in
set_option maxRecDepth 20000 in
theorem bdeep_any : ∀ (m : Nat) (k : Bs), k.size ≤ m → k.deep ≤ 1099511627776 → ∀ (w : World) (v : Value) (A S : Nat → Prop), KidsV w A S v k →
    Calls Tryz.prog 12 #[v] w fun e w' => e = .returned (.int .i64 (k.deep : Int)) ∧ w' = w := by
  intro m
  induction m with
  | zero =>
    intro k hk hd w v A S h
    have hk0 : k = .nil := by cases k with | nil => rfl | cons b q r => simp only [Bs.size] at hk; omega
    subst hk0
    obtain ⟨xs, row, _, _⟩ := h
    obtain ⟨a1, c1, rfl, _⟩ := row_slice row
    clear row
    simp only [Bs.len, Bs.deep]
    go_enter Tryz.func12, Tryz.ntmps12
    go_wp2
    go_loopw [3, 4] (fun n t wr => n = .int .i64 0 ∧ t = .int .i64 0 ∧ wr = w) (fun _ t _ => 0)
    case atStart => exact ⟨rfl, rfl, rfl⟩
    case round =>
      obtain ⟨rfl, rfl, hw⟩ := hrel
      subst hw
      go_wp2
      go_ret
      exact ⟨rfl, rfl⟩
  | succ m ih =>
    intro k hk hd w v A S h
    obtain ⟨xs, row, _, kc⟩ := h
    have hmx : k.len ≤ maxLen := by
      rcases row.2 with ⟨_, q⟩ | ⟨_, _, _, _, _, _, q1, q2, _⟩
      · omega
      · omega
    unfold maxLen at hmx
    obtain ⟨a1, c1, rfl, _⟩ := row_slice row
    have HIh := (show Hid _ from ih)
    clear ih
    go_enter Tryz.func12, Tryz.ntmps12
    go_wp2
    go_loopw [3, 4] (fun n t wr => ∃ i : Nat, t = .int .i64 (i : Int) ∧ i ≤ k.len ∧ n = .int .i64 (k.deepTo i : Int) ∧ wr = w) (fun _ t _ => k.len - (intOf t).toNat)
    case atStart => exact ⟨0, rfl, Nat.zero_le _, by rw [Bs.deepTo_zero]; rfl, rfl⟩
    case round =>
      obtain ⟨i, rfl, hi, rfl, hw⟩ := hrel
      subst hw
      by_cases hlt : i < k.len
      · have hlt' : (i : Int) < (k.len : Int) := by omega
        obtain ⟨b, q, hn⟩ := k.nth_some i hlt
        obtain ⟨y1, z1, e1, r1, _, q1⟩ := kc.nth k xs i b q hn
        obtain ⟨g1, p1, he1, _, f1⟩ := row_at row (by omega)
        cases he1
        have x0 := f1 _ _ (e1 0 _ rfl)
        have x7 := f1 _ _ (e1 7 _ rfl)
        simp only [Nat.add_zero] at x0
        have hqs : q.size ≤ m := by have := k.nth_size i b q hn; omega
        have hqd := k.nth_deep i b q hn
        have HNx : Hid (k.deepTo (i + 1) = max (k.deepTo i) (Bs.deepOne b q.deep)) := k.deepTo_next i b q hn
        have hdt := k.deepTo_le i
        have hq1 : q.deep ≤ 1099511627776 := by unfold Bs.deepOne at hqd; split at hqd <;> omega
        have HC : Hid (Calls Tryz.prog 12 #[y1] wr fun e w' => e = .returned (.int .i64 (q.deep : Int)) ∧ w' = wr) := HIh.out q hqs hq1 wr y1 S S ⟨z1, r1, ‹_›, q1⟩
        clear f1 e1 r1 q1 row kc HIh hn
        generalize k.deepTo i = dd at *
        generalize hqe : q.deep = qd at *
        unfold Bs.deepOne at HNx hqd
        obtain ⟨kd, lv, tx, inf, od, tg, st⟩ := b
        simp only at x0 HNx hqd
        have hcase : (kd = 1 ∨ kd = 3) ∨ (¬ (kd : Int) = 1 ∧ ¬ (kd : Int) = 3) := by omega
        rcases hcase with hk13 | ⟨hk1, hk3⟩
        · rw [if_pos hk13] at HNx hqd
          have hcmp : (dd : Int) < (qd : Int) + 1 ∨ ¬ (dd : Int) < (qd : Int) + 1 := by omega
          rcases hk13 with rfl | rfl
          all_goals
            rcases hcmp with hc | hc
            all_goals
              go_wp2_with (go_at_call 12; refine Calls.mono HC.out ?_; rintro e u ⟨rfl, hu⟩; subst u)
              go_roundw
              case rel => exact ⟨i + 1, by go_num, by omega, by rw [HNx.out]; congr 1; omega, by first | rfl | trivial⟩
              case measure => simp [intOf]; omega
        · rw [if_neg (by omega)] at HNx hqd
          have b1 : ((kd : Int) == 1) = false := by simpa using hk1
          have b3 : ((kd : Int) == 3) = false := by simpa using hk3
          have hcmp : (dd : Int) < (qd : Int) ∨ ¬ (dd : Int) < (qd : Int) := by omega
          rcases hcmp with hc | hc
          all_goals
            go_wp2_with (go_at_call 12; refine Calls.mono HC.out ?_; rintro e u ⟨rfl, hu⟩; subst u)
            go_roundw
            case rel => exact ⟨i + 1, by go_num, by omega, by rw [HNx.out]; congr 1; omega, by first | rfl | trivial⟩
            case measure => simp [intOf]; omega
      · have hge : ¬ (i : Int) < (k.len : Int) := by omega
        have hdl : k.deepTo i = k.deep := k.deepTo_all i (by omega)
        go_wp2
        go_ret
        exact ⟨by rw [← hdl]; rfl, rfl⟩

end Go.Proofs.YtcbojffcnlkejaaGreatDoor

/- How often something may begin on a line does not matter, if it is often enough: by what the program was shown to do. -/
namespace Go.Proofs.YtcbojffcnlkejaaGreatDoor
open Go.RowKit
open cur (cell_blk free_blk set_blk blk_below Cur cptr Oth)

theorem Calls.gets {P : Program} {f : FuncId} {args : Array Value} {w : World} {Q : Ending → World → Prop} (h : Calls P f args w Q) : ∃ e w', Q e w' := by
  obtain ⟨e, w', _, hq, _⟩ := h []
  exact ⟨e, w', hq⟩

/-- A reader that is reached: some memory holds it. -/
def Run (n : Nat) (s : St) (B : Nat) : Prop := ∃ w r own, Good w r own B s ∧ MLen w ∧ own 0 = 0 ∧ n ≤ B ∧ ∀ q, s.opens.getLast? = some q → q.since n
/-- And a place in its line. -/
def RunL (n : Nat) (s : St) (σ : Pl) (B L : Nat) : Prop := ∃ w r c own, Good w r own B s ∧ MLen w ∧ own 0 = 0 ∧ Cur w c σ ∧ own c = 0 ∧ c ≠ 0 ∧ n ≤ B ∧ wt σ ≤ L ∧ Ready s

theorem run_start : Run 0 St.start 1 := by
  let w0 : World := (default : World).alloc (.cells #[.int .i64 0] 3)
  have hM : MLen w0 := by
    refine ⟨0, ?_⟩
    have hb := new_blk (default : World) #[.int .i64 0] 3
    have hz : (default : World).heap.size = 0 := rfl
    rw [hz] at hb
    exact cell_blk hb (i := 0) rfl
  refine ⟨startW w0, w0.heap.size + 2, startO w0.heap.size, start_good w0, hM.below (start_below w0), start_old _ _ hM.lt, Nat.zero_le _, fun q hq => ?_⟩
  have : q = .doc { first := 0, last := 0 } := by simpa [St.start] using hq.symm
  rw [this]
  trivial

theorem run_cur {n B : Nat} {s : St} (h : Run n s B) (l : Str) (hl : l.length ≤ 536870912) : ∃ w r c own, Good w r own B s ∧ MLen w ∧ own 0 = 0 ∧ Cur w c (l, 0, 0) ∧ own c = 0 ∧ c ≠ 0 := by
  obtain ⟨w, r, own, h1, h2, h3, h4, h5⟩ := h
  obtain ⟨e, u, c, _, hc, hu, hb⟩ := Calls.gets (cur.new_at ⟨l.toArray⟩ w (by rw [size_list]; omega))
  rw [list_data] at hu
  have := h2.lt
  exact ⟨u, r, c, clip own w, (h1.clip).below hb, h2.below hb, by rw [clip_old h2.lt]; exact h3, hu, clip_new hc, by omega⟩

theorem run_read {n B : Nat} {s : St} (h : Run n s B) (l : Str) (hl : l.length ≤ 536870912) (hB : B + lineK (4 * l.length) ≤ 549755813888) : Run (n + 1) (s.read' n l) (B + lineK (4 * l.length)) := by
  obtain ⟨w, r, c, own, g1, g2, g3, g4, g5, g6⟩ := run_cur h l hl
  obtain ⟨_, _, _, _, _, _, hn, hs⟩ := h
  obtain ⟨e, w', _, ⟨own', q1, q2⟩, q3⟩ := Calls.gets (bread_any (L := 4 * l.length) g1 hB g4 g5 hn (Nat.le_refl _) (by omega) g2 g3 g6 hs)
  refine ⟨w', r, own', q1, g2.keeps (q2.1.block 0 g2.lt (fun z => ?_)), q2.2 0 g2.lt g3, by simp only [lineK]; omega, q3⟩
  rcases z with z | z
  · exact z g3
  · exact g6 z.symm

theorem run_go {n B : Nat} {s : St} (h : Run n s B) (l : Str) (hl : l.length ≤ 536870912) (hB : B + lineK (4 * l.length) ≤ 549755813888) (h0 : (s.goOn endsX n (l, 0, 0)).1 = 0) : RunL n (s.goOn endsX n (l, 0, 0)).2.1 (s.goOn endsX n (l, 0, 0)).2.2 (B + 3 * (4 * l.length + 1)) (4 * l.length) := by
  obtain ⟨w, r, c, own, g1, g2, g3, g4, g5, g6⟩ := run_cur h l hl
  obtain ⟨_, _, _, ⟨N, _, hwf⟩, _, _, hn, hs⟩ := h
  simp only [lineK] at hB
  have hwt : wt ((l, 0, 0) : Pl) ≤ 4 * l.length := by unfold wt; simp only; omega
  obtain ⟨a1, a2, a3, a4⟩ := goOn_after (n := n) (σ := ((l, 0, 0) : Pl)) hwf hs
  obtain ⟨e, w', _, own', q1, q2, q3⟩ := Calls.gets (bgoOn_any (L := 4 * l.length) g1 (by omega) g4 g5 hn hwt (by omega) g2 g3 g6 hs)
  have hc := g4.lt
  refine ⟨w', r, c, own', q1, g2.keeps (q3.1.block 0 g2.lt (fun z => ?_)), q3.2 0 g2.lt g3, q2, q3.2 c hc g5, g6, by omega, Nat.le_trans a4 hwt, a1 h0⟩
  rcases z with z | z
  · exact z g3
  · exact g6 z.symm

theorem run_begin {n B L : Nat} {s : St} {σ : Pl} (h : RunL n s σ B L) (hB : B + 3 * (L + 1) + 3 ≤ 549755813888) (hL : L ≤ 2147483648) (h0 : (s.begin' n σ).1 = 0) : RunL n (s.begin' n σ).2.1 (s.begin' n σ).2.2 (B + 2) L ∧ mu (s.begin' n σ).2.1 (s.begin' n σ).2.2 < mu s σ := by
  obtain ⟨w, r, c, own, g1, g2, g3, g4, g5, g6, g7, g8, g9⟩ := h
  obtain ⟨N, hwf⟩ := g1.wf
  obtain ⟨a1, a2, a3, a4, a5⟩ := begin_after (n := n) (σ := σ) hwf g9
  obtain ⟨e, w', _, own', q1, q2, q3⟩ := Calls.gets (bbegin_any (K := 2) g1 (by omega) g9.on g9.leaf g4 g5 g7 (Nat.le_refl _) g8 hL (fun q => absurd h0 q) g2 g3 g6)
  refine ⟨⟨w', r, c, own', q1, g2.keeps (q3.1.block 0 g2.lt (fun z => ?_)), q3.2 0 g2.lt g3, q2, q3.2 c g4.lt g5, g6, by omega, Nat.le_trans a4 g8, (a1 h0).1⟩, (a1 h0).2⟩
  rcases z with z | z
  · exact z g3
  · exact g6 z.symm

/-- How often does not matter. -/
theorem begins_fuel : ∀ (f g n B L : Nat) (s : St) (σ : Pl), RunL n s σ B L → B + 2 * f + 3 * (L + 1) + 3 ≤ 549755813888 → L ≤ 2147483648 → mu s σ < f → mu s σ < g → St.beginsF htmlL endsX n f s σ = St.beginsF htmlL endsX n g s σ
  | 0, g, n, B, L, s, σ, h, hB, hL, hf, hg => by omega
  | f + 1, 0, n, B, L, s, σ, h, hB, hL, hf, hg => by omega
  | f + 1, g + 1, n, B, L, s, σ, h, hB, hL, hf, hg => by
    by_cases h0 : (s.begin' n σ).1 = 0
    · rw [begins_zero h0, begins_zero h0]
      obtain ⟨a, b⟩ := run_begin h (by omega) hL h0
      exact begins_fuel f g n (B + 2) L _ _ a (by omega) hL (by omega) (by omega)
    · rw [begins_else h0, begins_else h0]

end Go.Proofs.YtcbojffcnlkejaaGreatDoor

/- Plain mathematics: places without tabs, so many columns further on. -/
namespace Go.Proofs.YtcbojffcnlkejaaGreatDoor

/-- The same place in what is left of a line, d columns further on, without tabs. -/
structure PQ (d : Nat) (σ σ' : Pl) : Prop where
  left : σ'.1 = σ.1
  part : σ.2.1 = 0
  part' : σ'.2.1 = 0
  col : σ'.2.2 = σ.2.2 + d
  tabs : ∀ c ∈ σ.1, c ≠ 9

theorem endC_shift : ∀ (l : Str) (c d : Nat), (∀ b ∈ l, b ≠ 9) → endC l (c + d) = endC l c + d
  | [], c, d, _ => rfl
  | b :: t, c, d, h => by
    unfold endC
    have hb := h b (List.mem_cons_self ..)
    rw [wid_other hb, wid_other hb]
    split
    · rw [show c + d + 1 = c + 1 + d by omega]
      exact endC_shift t (c + 1) d (fun x hx => h x (List.mem_cons_of_mem _ hx))
    · rfl
theorem PQ.ind {d : Nat} {σ σ' : Pl} (h : PQ d σ σ') : indR σ' = indR σ := by
  unfold indR
  rw [h.left, h.part, h.part', h.col]
  simp only [Nat.add_zero]
  rw [endC_shift _ _ _ h.tabs]
  omega
theorem PQ.rest {d : Nat} {σ σ' : Pl} (h : PQ d σ σ') : restR σ' = restR σ := by
  unfold restR
  rw [h.left, h.part, h.part']
theorem PQ.step {d : Nat} {σ σ' : Pl} (h : PQ d σ σ') : (stepR σ = none ∧ stepR σ' = none) ∨ ∃ τ τ', stepR σ = some τ ∧ stepR σ' = some τ' ∧ PQ d τ τ' := by
  obtain ⟨l, p, c⟩ := σ
  obtain ⟨l', p', c'⟩ := σ'
  obtain ⟨h1, h2, h3, h4, h5⟩ := h
  simp only at h1 h2 h3 h4 h5
  subst h1
  subst h2
  subst h3
  subst h4
  cases l' with
  | nil => exact .inl ⟨rfl, rfl⟩
  | cons b t =>
    have hb := h5 b (List.mem_cons_self ..)
    simp only [stepR]
    by_cases hi : isB b = true
    · right
      rw [if_pos hi, if_pos hi, wid_other hb, wid_other hb]
      exact ⟨_, _, rfl, rfl, rfl, rfl, rfl, by show c + d + 1 = c + 1 + d; omega, fun x hx => h5 x (List.mem_cons_of_mem _ hx)⟩
    · left
      rw [if_neg hi, if_neg hi]
      exact ⟨rfl, rfl⟩
theorem PQ.skip {d : Nat} : ∀ (k : Nat) {σ σ' : Pl}, PQ d σ σ' → PQ d (skipR k σ) (skipR k σ')
  | 0, σ, σ', h => h
  | k + 1, σ, σ', h => by
    simp only [skipR]
    rcases h.step with ⟨a, b⟩ | ⟨τ, τ', a, b, q⟩
    · rw [a, b]; exact h
    · rw [a, b]; exact PQ.skip k q
theorem pass_shift : ∀ (k : Nat) (l : Str) (c d : Nat), (∀ b ∈ l, b ≠ 9) → PQ d (passR k l c) (passR k l (c + d))
  | 0, l, c, d, h => ⟨rfl, rfl, rfl, rfl, h⟩
  | k + 1, [], c, d, h => ⟨rfl, rfl, rfl, rfl, h⟩
  | k + 1, b :: t, c, d, h => by
    have hb := h b (List.mem_cons_self ..)
    simp only [passR]
    rw [wid_other hb, wid_other hb, show c + d + 1 = c + 1 + d by omega]
    exact pass_shift k t (c + 1) d (fun x hx => h x (List.mem_cons_of_mem _ hx))
theorem PQ.move {d : Nat} (k : Nat) {σ σ' : Pl} (h : PQ d σ σ') : PQ d (moveR k σ) (moveR k σ') := by
  unfold moveR
  rw [h.left, h.part, h.part', h.col]
  simp only [Nat.add_zero]
  rw [endC_shift _ _ _ h.tabs]
  exact pass_shift k _ _ _ (fun b hb => h.tabs b (beh_sub _ b hb))
theorem PQ.blank {d : Nat} {σ σ' : Pl} (h : PQ d σ σ') : blankB σ' = blankB σ := by unfold blankB; rw [h.left]
theorem PQ.next {d : Nat} {σ σ' : Pl} (h : PQ d σ σ') : nextB σ' = nextB σ := by unfold nextB; rw [h.left]
theorem PQ.pad {d : Nat} {σ σ' : Pl} (h : PQ d σ σ') : (St.padding σ').1 = (St.padding σ).1 ∧ PQ d (St.padding σ).2 (St.padding σ').2 := by
  unfold St.padding
  rw [h.blank, h.ind]
  split
  · exact ⟨rfl, h⟩
  · split
    · exact ⟨rfl, h.skip _⟩
    · exact ⟨rfl, h.skip _⟩
theorem PQ.len {d : Nat} {σ σ' : Pl} (h : PQ d σ σ') : σ'.1.length = σ.1.length := by rw [h.left]

theorem goes_pq {d n : Nat} {f : Bool} {σ σ' : Pl} (h : PQ d σ σ') (p : Part) : (p.goesOn n f σ').1 = (p.goesOn n f σ).1 ∧ (p.goesOn n f σ').2.1 = (p.goesOn n f σ).2.1 ∧ PQ d (p.goesOn n f σ).2.2 (p.goesOn n f σ').2.2 := by
  cases p with
  | quote b =>
    simp only [Part.goesOn]
    rw [h.ind, h.next]
    split
    · exact ⟨rfl, rfl, h⟩
    · exact ⟨rfl, rfl, (h.move 1).skip 1⟩
  | item b w =>
    simp only [Part.goesOn]
    rw [h.ind, h.blank]
    split
    · exact ⟨rfl, rfl, h.skip _⟩
    · split
      · exact ⟨rfl, rfl, h⟩
      · exact ⟨rfl, rfl, h.skip _⟩
  | _ => exact ⟨rfl, rfl, h⟩
theorem takes_pq {d n : Nat} {σ σ' : Pl} (h : PQ d σ σ') (p : Part) : (p.takes endsX n σ').1 = (p.takes endsX n σ).1 ∧ (p.takes endsX n σ').2.1 = (p.takes endsX n σ).2.1 ∧ (p.takes endsX n σ').2.2.1 = (p.takes endsX n σ).2.2.1 ∧ PQ d (p.takes endsX n σ).2.2.2 (p.takes endsX n σ').2.2.2 := by
  cases p with
  | fenced b c k i t =>
    simp only [Part.takes]
    rw [h.ind, h.left]
    split
    · exact ⟨rfl, rfl, rfl, h⟩
    · rw [(h.skip i).rest]; exact ⟨rfl, rfl, rfl, h.skip i⟩
  | indented b =>
    simp only [Part.takes, takeI]
    rw [h.ind, h.blank, (h.skip 4).rest]
    split
    · exact ⟨rfl, rfl, rfl, h⟩
    · exact ⟨rfl, rfl, rfl, h.skip 4⟩
  | html b k =>
    simp only [Part.takes]
    rw [h.blank, h.rest]
    split
    · exact ⟨rfl, rfl, rfl, h⟩
    · exact ⟨rfl, rfl, rfl, h⟩
  | _ => exact ⟨rfl, rfl, rfl, h⟩

end Go.Proofs.YtcbojffcnlkejaaGreatDoor

/- Plain mathematics: a reader within a container of another one. -/
namespace Go.Proofs.YtcbojffcnlkejaaGreatDoor

theorem holdLast_snoc (X : List Part) (q p : Part) : St.holdLast (X ++ [q]) p = X ++ [q.hold p] := by
  unfold St.holdLast
  rw [List.getLast?_append]
  simp

/-- The kind of a container: a quote, or an item of that width. -/
inductive Kd where
  | quote
  | item (w : Nat)
def Kd.is : Kd → Part → Prop
  | .quote, c => c.isQuote = true
  | .item w, c => ∃ b, c = .item b w

/-- Behind P stands a container in which is what is in the document of the other reader; all else is the same. -/
structure NR (K : Kd) (P : List Part) (s s' : St) : Prop where
  ex : ∃ d c r, s.opens = .doc d :: r ∧ s'.opens = P ++ c :: r ∧ toldK c = d.kids ∧ K.is c
  on : s'.on = s.on + P.length
  defs : s'.defs = s.defs
  hon : 1 ≤ s.on

theorem kind_of {K : Kd} {c : Part} (h : K.is c) : c.isQuote = true ∨ c.isItem = true := by
  cases K with
  | quote => exact .inl h
  | item w => obtain ⟨b, rfl⟩ := h; exact .inr rfl
theorem kind_hold {K : Kd} {c : Part} (h : K.is c) (p : Part) : K.is (c.hold p) := by
  cases K with
  | quote => cases c <;> first | exact h | cases h
  | item w => obtain ⟨b, rfl⟩ := h; exact ⟨_, rfl⟩
theorem hold_same {c : Part} {d : Box} (h : toldK c = d.kids) (hc : c.isQuote = true ∨ c.isItem = true) (p : Part) : toldK (c.hold p) = (d.hold p).kids ∧ ((c.hold p).isQuote = true ∨ (c.hold p).isItem = true) := by
  cases c with
  | quote b =>
    have h : b.kids = d.kids := h
    refine ⟨?_, .inl rfl⟩
    show (b.hold p).kids = (d.hold p).kids
    unfold Box.hold
    simp only [h]
  | item b w =>
    have h : b.kids = d.kids := h
    refine ⟨?_, .inr rfl⟩
    show (b.hold p).kids = (d.hold p).kids
    unfold Box.hold
    simp only [h]
  | _ => rcases hc with q | q <;> cases q

theorem NR.len {K : Kd} {P : List Part} {s s' : St} (h : NR K P s s') : s'.opens.length = s.opens.length + P.length := by
  obtain ⟨d, c, r, e1, e2, _⟩ := h.ex
  rw [e1, e2]
  simp
  omega
/-- The last part: the same, or the document and the container. -/
theorem NR.last {K : Kd} {P : List Part} {s s' : St} (h : NR K P s s') : (∃ d c, s.opens.getLast? = some (.doc d) ∧ s'.opens.getLast? = some c ∧ (c.isQuote = true ∨ c.isItem = true)) ∨ (s'.opens.getLast? = s.opens.getLast? ∧ 2 ≤ s.opens.length) := by
  obtain ⟨d, c, r, e1, e2, e3, e4⟩ := h.ex
  cases r with
  | nil => left; exact ⟨d, c, by rw [e1]; rfl, by rw [e2]; simp, kind_of e4⟩
  | cons a t =>
    right
    rw [e1, e2]
    refine ⟨?_, by simp⟩
    rw [List.getLast?_append, List.getLast?_cons_cons, List.getLast?_cons_cons]
    cases hq : (a :: t).getLast? with
    | none => rw [List.getLast?_eq_none_iff] at hq; cases hq
    | some q => rfl
theorem NR.hasPara {K : Kd} {P : List Part} {s s' : St} (h : NR K P s s') : s'.hasPara = s.hasPara := by
  unfold St.hasPara
  rcases h.last with ⟨d, c, e1, e2, e3⟩ | ⟨e, _⟩
  · rw [e1, e2]
    cases c <;> first | rfl | (rcases e3 with q | q <;> cases q)
  · rw [e]
theorem NR.inList {K : Kd} {P : List Part} {s s' : St} (h : NR K P s s') : s'.inList = s.inList := by
  unfold St.inList
  rcases h.last with ⟨d, c, e1, e2, e3⟩ | ⟨e, _⟩
  · rw [e1, e2]
    cases c <;> first | rfl | (rcases e3 with q | q <;> cases q)
  · rw [e]
theorem NR.sign {K : Kd} {P : List Part} {s s' : St} (h : NR K P s s') : s'.opens.getLast?.bind St.listSign = s.opens.getLast?.bind St.listSign := by
  rcases h.last with ⟨d, c, e1, e2, e3⟩ | ⟨e, _⟩
  · rw [e1, e2]
    cases c <;> first | rfl | (rcases e3 with q | q <;> cases q)
  · rw [e]
theorem NR.isClose {K : Kd} {P : List Part} {s s' : St} (h : NR K P s s') : s'.isClose = s.isClose := by
  unfold St.isClose
  rw [h.hasPara, h.on, h.len]
  congr 1
  rw [Bool.eq_iff_iff, beq_iff_eq, beq_iff_eq]
  omega
theorem NR.two {K : Kd} {P : List Part} {s s' : St} (h : NR K P s s') (hp : s.hasPara = true ∨ s.inList = true) : 2 ≤ s.opens.length := by
  obtain ⟨d, c, r, e1, _⟩ := h.ex
  exact para_len ⟨d, by rw [e1]; rfl⟩ hp

theorem NR.close {K : Kd} {P : List Part} {s s' : St} (h : NR K P s s') (h2 : 2 ≤ s.opens.length) : NR K P s.close s'.close := by
  obtain ⟨d, c, r, e1, e2, e3, e4⟩ := h.ex
  have hon := h.hon
  obtain ⟨r0, p, rfl⟩ : ∃ r0 p, r = r0 ++ [p] := by
    cases hq : r.getLast? with
    | none => rw [List.getLast?_eq_none_iff] at hq; rw [e1, hq] at h2; simp at h2
    | some p => obtain ⟨ys, hy⟩ := List.getLast?_eq_some_iff.1 hq; exact ⟨ys, p, hy⟩
  have l1 : s.opens.getLast? = some p := by rw [e1, ← List.cons_append, List.getLast?_append]; rfl
  have l2 : s'.opens.getLast? = some p := by rw [e2, ← List.cons_append, ← List.append_assoc, List.getLast?_append]; rfl
  have d1 : s.opens.dropLast = .doc d :: r0 := by rw [e1, ← List.cons_append, List.dropLast_concat]
  have d2 : s'.opens.dropLast = P ++ c :: r0 := by rw [e2, ← List.cons_append, ← List.append_assoc, List.dropLast_concat]
  have hlen := h.len
  unfold St.close
  rw [l1, l2]
  simp only
  rw [d1, d2, h.defs]
  refine ⟨?_, ?_, rfl, ?_⟩
  · simp only
    cases hr : r0.getLast? with
    | none =>
      rw [List.getLast?_eq_none_iff] at hr
      subst hr
      obtain ⟨k1, _⟩ := hold_same e3 (kind_of e4) (St.takeOff p s.defs).1
      have k2 := kind_hold e4 (St.takeOff p s.defs).1
      refine ⟨d.hold (St.takeOff p s.defs).1, c.hold (St.takeOff p s.defs).1, [], ?_, ?_, k1, k2⟩
      · exact holdLast_snoc [] (.doc d) _
      · exact holdLast_snoc P c _
    | some q =>
      obtain ⟨r1, rfl⟩ := List.getLast?_eq_some_iff.1 hr
      refine ⟨d, c, r1 ++ [q.hold (St.takeOff p s.defs).1], ?_, ?_, e3, e4⟩
      · have := holdLast_snoc (.doc d :: r1) q (St.takeOff p s.defs).1
        simpa using this
      · have := holdLast_snoc (P ++ c :: r1) q (St.takeOff p s.defs).1
        simpa using this
  · show min s'.on (s'.opens.length - 1) = min s.on (s.opens.length - 1) + P.length
    rw [h.on, hlen]
    omega
  · show 1 ≤ min s.on (s.opens.length - 1)
    omega

theorem leaveF_fuel : ∀ (f g : Nat) (s : St), 1 ≤ s.on → s.opens.length - s.on ≤ f → s.opens.length - s.on ≤ g → St.leaveF f s = St.leaveF g s
  | 0, 0, s, _, _, _ => rfl
  | 0, g + 1, s, _, h, _ => by
    simp only [St.leaveF]
    rw [if_neg (by omega)]
  | f + 1, 0, s, _, _, h => by
    simp only [St.leaveF]
    rw [if_neg (by omega)]
  | f + 1, g + 1, s, h1, hf, hg => by
    simp only [St.leaveF]
    split
    · have h2 : 2 ≤ s.opens.length := by omega
      obtain ⟨a, b⟩ := close_len' h2
      exact leaveF_fuel f g s.close (by rw [b]; omega) (by rw [a, b]; omega) (by rw [a, b]; omega)
    · rfl
theorem NR.leaveF {K : Kd} {P : List Part} : ∀ (f : Nat) {s s' : St}, NR K P s s' → NR K P (St.leaveF f s) (St.leaveF f s')
  | 0, s, s', h => h
  | f + 1, s, s', h => by
    simp only [St.leaveF]
    rw [h.on, h.len]
    have := h.hon
    by_cases hl : s.on < s.opens.length
    · rw [if_pos hl, if_pos (by omega)]
      exact NR.leaveF f (h.close (by omega))
    · rw [if_neg hl, if_neg (by omega)]
      exact h
theorem NR.leave {K : Kd} {P : List Part} {s s' : St} (h : NR K P s s') : NR K P s.leave s'.leave := by
  have h1 : s'.leave = St.leaveF s.opens.length s' := by
    unfold St.leave
    have := h.hon
    exact leaveF_fuel _ _ s' (by rw [h.on]; omega) (by omega) (by rw [h.on, h.len]; omega)
  rw [h1]
  exact h.leaveF _
theorem NR.clear {K : Kd} {P : List Part} {s s' : St} (h : NR K P s s') : NR K P s.clear s'.clear := by
  unfold St.clear
  rw [h.leave.hasPara]
  split
  · rename_i hp
    exact h.leave.close (h.leave.two (.inl hp))
  · exact h.leave
theorem NR.push {K : Kd} {P : List Part} {s s' : St} (h : NR K P s s') (p : Part) : NR K P (s.push p) (s'.push p) := by
  obtain ⟨d, c, r, e1, e2, e3, e4⟩ := h.ex
  refine ⟨⟨d, c, r ++ [p], by show s.opens ++ [p] = _; rw [e1]; rfl, by show s'.opens ++ [p] = _; rw [e2]; simp, e3, e4⟩, ?_, h.defs, Nat.succ_le_succ (Nat.zero_le _)⟩
  show s'.opens.length + 1 = s.opens.length + 1 + P.length
  rw [h.len]
  omega
theorem NR.stand {K : Kd} {P : List Part} {s s' : St} (h : NR K P s s') (p : Part) : NR K P (s.stand p) (s'.stand p) := by
  unfold St.stand
  rw [h.clear.inList]
  split
  · rename_i hi
    exact (h.clear.close (h.clear.two (.inr hi))).push p
  · exact h.clear.push p
theorem NR.standTwo {K : Kd} {P : List Part} {s s' : St} (h : NR K P s s') (p : Part) : 2 ≤ (s.stand p).opens.length := by
  have pos : ∀ t t' : St, NR K P t t' → 1 ≤ t.opens.length := fun t t' q => by obtain ⟨d, c, r, e1, _⟩ := q.ex; rw [e1]; simp
  unfold St.stand
  split
  · rename_i hi
    rw [push_len]
    have := pos _ _ (h.clear.close (h.clear.two (.inr hi)))
    omega
  · rw [push_len]
    have := pos _ _ h.clear
    omega
/-- The last part is exchanged. -/
theorem NR.set {K : Kd} {P : List Part} {s s' : St} (h : NR K P s s') (h2 : 2 ≤ s.opens.length) (p : Part) (df : List Df) : NR K P { s with opens := s.opens.dropLast ++ [p], defs := df } { s' with opens := s'.opens.dropLast ++ [p], defs := df } := by
  obtain ⟨d, c, r, e1, e2, e3, e4⟩ := h.ex
  obtain ⟨r0, q, rfl⟩ : ∃ r0 q, r = r0 ++ [q] := by
    cases hq : r.getLast? with
    | none => rw [List.getLast?_eq_none_iff] at hq; rw [e1, hq] at h2; simp at h2
    | some q => obtain ⟨ys, hy⟩ := List.getLast?_eq_some_iff.1 hq; exact ⟨ys, q, hy⟩
  refine ⟨⟨d, c, r0 ++ [p], ?_, ?_, e3, e4⟩, h.on, rfl, h.hon⟩
  · show s.opens.dropLast ++ [p] = _
    rw [e1, ← List.cons_append, List.dropLast_concat]
    rfl
  · show s'.opens.dropLast ++ [p] = _
    rw [e2, ← List.cons_append, ← List.append_assoc, List.dropLast_concat]
    simp

theorem under_nest {K : Kd} {P : List Part} {n lv : Nat} {s s' : St} (h : NR K P s s') (hc : s.isClose = true) : (s'.underline n lv).1 = (s.underline n lv).1 ∧ NR K P (s.underline n lv).2 (s'.underline n lv).2 := by
  obtain ⟨x, l, hlast⟩ := isClose_para hc
  have h2 : 2 ≤ s.opens.length := h.two (.inl (by unfold St.hasPara; rw [hlast]; rfl))
  have hl' : s'.opens.getLast? = some (.para x l) := by
    rcases h.last with ⟨d, c, e1, _⟩ | ⟨e, _⟩
    · rw [hlast] at e1; cases e1
    · rw [e, hlast]
  have l2 : ∀ (p : Part), 2 ≤ (s.opens.dropLast ++ [p]).length := fun p => by rw [List.length_append, List.length_dropLast]; simp only [List.length_cons, List.length_nil]; omega
  unfold St.underline
  rw [hlast, hl']
  simp only
  rw [h.defs]
  split
  · exact ⟨rfl, (h.set h2 _ _).close (l2 _)⟩
  · exact ⟨rfl, (h.set h2 _ _).close (l2 _)⟩

theorem begin_nest {K : Kd} {P : List Part} {d n : Nat} {s s' : St} {σ σ' : Pl} (h : NR K P s s') (hq : PQ d σ σ') (hr : s.room = true ∧ s'.room = true) : (s'.begin' n σ').1 = (s.begin' n σ).1 ∧ NR K P (s.begin' n σ).2.1 (s'.begin' n σ').2.1 ∧ PQ d (s.begin' n σ).2.2 (s'.begin' n σ').2.2 := by
  unfold St.begin' St.begin
  simp only
  rw [h.hasPara, h.isClose, hr.1, hr.2, hq.ind, hq.next, hq.left]
  split
  · unfold St.beginIndented
    rw [h.hasPara, hq.blank]
    split
    · exact ⟨rfl, h, hq⟩
    · refine ⟨rfl, ?_, hq.skip 4⟩
      have : takeI { first := n, last := n } n σ' = takeI { first := n, last := n } n σ := by unfold takeI; rw [hq.blank, (hq.skip 4).rest]
      simp only
      rw [this]
      exact h.stand _
  split
  · exact ⟨rfl, h.stand _, (hq.move 1).skip 1⟩
  split
  · exact ⟨rfl, (h.stand _).close (h.standTwo _), hq⟩
  split
  · exact ⟨rfl, h.stand _, hq⟩
  split
  · refine ⟨rfl, ?_, hq⟩
    obtain ⟨t1, t2, t3, _⟩ := takes_pq (n := n) hq (.html { first := n, last := n } (htmlL (beh σ.1)))
    show NR K P (s.beginHtml endsX n σ (htmlL (beh σ.1))) (s'.beginHtml endsX n σ' (htmlL (beh σ.1)))
    unfold St.beginHtml
    simp only
    rw [t2, t3]
    split
    · exact h.stand _
    · exact (h.stand _).close (h.standTwo _)
  split
  · rename_i hu
    obtain ⟨a, b⟩ := under_nest (n := n) (lv := underL (beh σ.1)) h hu.2
    exact ⟨a, b, hq⟩
  split
  · exact ⟨rfl, (h.stand _).close (h.standTwo _), hq⟩
  split
  · unfold St.beginItem
    simp only
    obtain ⟨p1, p2⟩ := (hq.move (St.markOf (beh σ.1)).size).pad
    rw [h.clear.sign, hq.ind, p1]
    refine ⟨trivial, ?_, p2⟩
    refine NR.push ?_ _
    split
    · exact h.clear
    · exact h.clear.stand _
  · exact ⟨rfl, h, hq⟩

theorem text_nest {K : Kd} {P : List Part} {d n : Nat} {s s' : St} {σ σ' : Pl} (h : NR K P s s') (hq : PQ d σ σ') : NR K P (s.text n σ) (s'.text n σ') := by
  unfold St.text
  rw [hq.blank, hq.left]
  split
  · exact h.clear
  · rcases h.last with ⟨d, c, e1, e2, e3⟩ | ⟨e, h2⟩
    · rw [e1, e2]
      cases c <;> first | exact h.stand _ | (rcases e3 with q | q <;> cases q)
    · rw [e]
      cases hl : s.opens.getLast? with
      | none => exact h.stand _
      | some p =>
        cases p with
        | para b l =>
          simp only
          have := h.set h2 (.para (b.add n (beh σ.1)) l) s.defs
          have e5 : ({ s' with opens := s'.opens.dropLast ++ [.para (b.add n (beh σ.1)) l], defs := s.defs } : St) = { s' with opens := s'.opens.dropLast ++ [.para (b.add n (beh σ.1)) l] } := by rw [← h.defs]
          rw [e5] at this
          exact this
        | _ => exact h.stand _

end Go.Proofs.YtcbojffcnlkejaaGreatDoor

/- Plain mathematics: a reader within a container of another one: a line. -/
namespace Go.Proofs.YtcbojffcnlkejaaGreatDoor

theorem goF_pq (n len p d : Nat) : ∀ (r : List Part) (i : Nat) (σ σ' : Pl), PQ d σ σ' → (goF n (len + p) r (i + p) σ').1 = (goF n len r i σ).1 ∧ PQ d (goF n len r i σ).2.1 (goF n (len + p) r (i + p) σ').2.1 ∧ (goF n (len + p) r (i + p) σ').2.2 = (goF n len r i σ).2.2.map (· + p)
  | [], i, σ, σ', h => ⟨rfl, h, rfl⟩
  | q :: r, i, σ, σ', h => by
    have hf : decide (i + p + 1 < len + p) = decide (i + 1 < len) := by
      rw [Bool.eq_iff_iff, decide_eq_true_eq, decide_eq_true_eq]; omega
    simp only [goF]
    rw [hf, show i + p + 1 = i + 1 + p by omega]
    by_cases hc : q.isC = false
    · rw [if_pos hc, if_pos hc]
      obtain ⟨a, b, c⟩ := goF_pq n len p d r (i + 1) σ σ' h
      exact ⟨by simp only [a], b, c⟩
    · rw [if_neg hc, if_neg hc]
      obtain ⟨g1, g2, g3⟩ := goes_pq (n := n) (f := decide (i + 1 < len)) h q
      rw [g1, g2]
      by_cases hg : (q.goesOn n (decide (i + 1 < len)) σ).1 = false
      · rw [if_pos hg, if_pos hg]
        exact ⟨rfl, g3, rfl⟩
      · rw [if_neg hg, if_neg hg]
        obtain ⟨a, b, c⟩ := goF_pq n len p d r (i + 1) _ _ g3
        exact ⟨by simp only [a], b, c⟩

/-- The container goes on over what stands ahead of the line. -/
def Ahead (K : Kd) (P : List Part) (n d : Nat) (s' : St) (L l : Str) : Prop := ∀ c r, s'.opens = P ++ c :: r → K.is c → ∃ c', toldK c' = toldK c ∧ K.is c' ∧ goF n s'.opens.length s'.opens 0 (L, 0, 0) = (P ++ c' :: (goF n s'.opens.length r (P.length + 1) (l, 0, d)).1, (goF n s'.opens.length r (P.length + 1) (l, 0, d)).2)

theorem goOn_nest {K : Kd} {P : List Part} {n d : Nat} {s s' : St} {L l : Str} (h : NR K P s s') (hl : ∀ c ∈ l, c ≠ 9) (ha : Ahead K P n d s' L l) :
    (s'.goOn endsX n (L, 0, 0)).1 = (s.goOn endsX n (l, 0, 0)).1 ∧ NR K P (s.goOn endsX n (l, 0, 0)).2.1 (s'.goOn endsX n (L, 0, 0)).2.1 ∧ PQ d (s.goOn endsX n (l, 0, 0)).2.2 (s'.goOn endsX n (L, 0, 0)).2.2 := by
  obtain ⟨dd, c, r, e1, e2, e3, e4⟩ := h.ex
  obtain ⟨c', k1, k2, k3⟩ := ha c r e2 e4
  have hlen := h.len
  have hpq : PQ d ((l, 0, 0) : Pl) ((l, 0, d) : Pl) := ⟨rfl, rfl, rfl, by simp, hl⟩
  obtain ⟨f1, f2, f3⟩ := goF_pq n s.opens.length P.length d r 1 _ _ hpq
  rw [hlen, show P.length + 1 = 1 + P.length by omega] at k3
  have g0 : goF n s.opens.length s.opens 0 (l, 0, 0) = (.doc dd :: (goF n s.opens.length r 1 (l, 0, 0)).1, (goF n s.opens.length r 1 (l, 0, 0)).2) := by
    have gen : ∀ m, goF n m (.doc dd :: r) 0 (l, 0, 0) = (.doc dd :: (goF n m r 1 (l, 0, 0)).1, (goF n m r 1 (l, 0, 0)).2) := fun m => rfl
    have q := gen s.opens.length
    rw [← e1] at q
    exact q
  rw [f1] at k3
  obtain ⟨o, τ, e, hg⟩ : ∃ o τ e, goF n s.opens.length r 1 (l, 0, 0) = (o, τ, e) := ⟨_, _, _, rfl⟩
  have hol : o.length = r.length := by have := goF_len n s.opens.length r 1 (l, 0, 0); rw [hg] at this; exact this
  obtain ⟨τ', hg'⟩ : ∃ τ', (goF n (s.opens.length + P.length) r (1 + P.length) (l, 0, d)).2 = (τ', e.map (· + P.length)) := by
    rw [hg] at f3
    exact ⟨_, Prod.ext rfl f3⟩
  rw [hg'] at k3 f2
  rw [hg] at g0 k3 f2
  simp only at f2 g0 k3
  have hol1 : s.opens.length = r.length + 1 := by rw [e1]; rfl
  rw [← hlen] at k3
  cases e with
  | some j =>
    have hj : 1 ≤ j := by
      have := goF_some n s.opens.length r 1 (l, 0, 0) j (by rw [hg])
      omega
    rw [goOn_some g0, goOn_some k3]
    exact ⟨rfl, ⟨⟨dd, c', o, rfl, rfl, k1.trans e3, k2⟩, rfl, h.defs, hj⟩, f2⟩
  | none =>
    have hNR : ∀ on, NR K P { s with opens := .doc dd :: o, on := on + 1 } { s' with opens := P ++ c' :: o, on := on + 1 + P.length } := fun on => ⟨⟨dd, c', o, rfl, rfl, k1.trans e3, k2⟩, rfl, h.defs, Nat.succ_le_succ (Nat.zero_le _)⟩
    have hol2 : (Part.doc dd :: o).length = o.length + 1 := rfl
    have hol3 : (P ++ c' :: o).length = o.length + 1 + P.length := by simp; omega
    cases ho : o.getLast? with
    | none =>
      rw [List.getLast?_eq_none_iff] at ho
      subst ho
      have hcl : c'.isLined = false := by have k4 := kind_of k2; cases c' <;> first | rfl | (rcases k4 with q | q <;> cases q)
      rw [goOn_stay g0 (p := .doc dd) rfl rfl, goOn_stay k3 (p := c') (by simp) hcl, hol2, hol3]
      exact ⟨rfl, hNR 0, f2⟩
    | some p =>
      have hp1 : (Part.doc dd :: o).getLast? = some p := by
        cases o with
        | nil => simp at ho
        | cons a t => rw [List.getLast?_cons_cons]; exact ho
      have hp2 : (P ++ c' :: o).getLast? = some p := by
        rw [List.getLast?_append]
        cases o with
        | nil => simp at ho
        | cons a t => rw [List.getLast?_cons_cons, ho]; rfl
      cases hpl : p.isLined
      · rw [goOn_stay g0 hp1 hpl, goOn_stay k3 hp2 hpl, hol2, hol3]
        exact ⟨rfl, hNR _, f2⟩
      · rw [goOn_takes g0 hp1 hpl, goOn_takes k3 hp2 hpl, hol2, hol3]
        obtain ⟨t1, t2, t3, t4⟩ := takes_pq (n := n) f2 p
        rw [t1, t2, t3]
        have h2 : 2 ≤ (Part.doc dd :: o).length := by
          cases o with
          | nil => simp at ho
          | cons a t => simp
        have hS := (hNR o.length).set (by exact h2) (p.takes endsX n τ).2.2.1 s.defs
        have e5 : ({ opens := (P ++ c' :: o).dropLast ++ [(p.takes endsX n τ).2.2.1], on := o.length + 1 + P.length, defs := s.defs } : St) = { s' with opens := (P ++ c' :: o).dropLast ++ [(p.takes endsX n τ).2.2.1], on := o.length + 1 + P.length } := by rw [← h.defs]
        have hS : NR K P { s with opens := (Part.doc dd :: o).dropLast ++ [(p.takes endsX n τ).2.2.1], on := o.length + 1 } { opens := (P ++ c' :: o).dropLast ++ [(p.takes endsX n τ).2.2.1], on := o.length + 1 + P.length, defs := s.defs } := hS
        rw [e5] at hS
        refine ⟨rfl, ?_, t4⟩
        simp only
        split
        · exact hS
        · refine hS.close ?_
          show 2 ≤ ((Part.doc dd :: o).dropLast ++ [_]).length
          rw [List.length_append, List.length_dropLast]
          simp only [List.length_cons, List.length_nil] at h2 ⊢
          omega

/-- There is room in both. -/
def Rooms (P : List Part) : Prop := P.countP Part.isDeep = 0
theorem NR.room {K : Kd} {P : List Part} {s s' : St} (h : NR K P s s') (hP : Rooms P) (hd : s.opens.countP Part.isDeep ≤ 22) : s.room = true ∧ s'.room = true := by
  obtain ⟨d, c, r, e1, e2, e3, e4⟩ := h.ex
  have hc : ∀ (l : List Part) (k : Nat), (l.take k).countP Part.isDeep ≤ l.countP Part.isDeep := fun l k => (List.take_sublist k l).countP_le
  constructor
  · unfold St.room
    rw [decide_eq_true_eq]
    have := hc s.opens s.on
    omega
  · unfold St.room
    rw [decide_eq_true_eq]
    have h1 := hc s'.opens s'.on
    have h2 : s'.opens.countP Part.isDeep ≤ 23 := by
      rw [e2, List.countP_append, List.countP_cons]
      rw [e1, List.countP_cons] at hd
      have hP : P.countP Part.isDeep = 0 := hP
      rw [hP]
      have h3 : (if (Part.doc d).isDeep = true then 1 else 0) = 0 := rfl
      rw [h3] at hd
      split <;> omega
    omega

end Go.Proofs.YtcbojffcnlkejaaGreatDoor

/- Plain mathematics: what stands deep while a text is read stands deep in the end. -/
namespace Go.Proofs.YtcbojffcnlkejaaGreatDoor

def deepN (p : Part) : Nat := if p.isDeep then 1 else 0
/-- How deep anything stands in what is open. -/
def dpL : Nat → List Part → Nat
  | _, [] => 0
  | k, p :: r => max (k + deepN p + (toldK p).deep) (dpL (k + deepN p) r)
def cntL : List Part → Nat
  | [] => 0
  | p :: r => deepN p + cntL r
def Dp (s : St) : Nat := dpL 0 s.opens

theorem cnt_eq : ∀ l : List Part, cntL l = l.countP Part.isDeep
  | [] => rfl
  | p :: r => by
    simp only [cntL, List.countP_cons, cnt_eq r, deepN]
    split <;> omega
theorem dp_append : ∀ (a b : List Part) (k : Nat), dpL k (a ++ b) = max (dpL k a) (dpL (k + cntL a) b)
  | [], b, k => by simp [dpL, cntL]
  | p :: a, b, k => by
    simp only [List.cons_append, dpL, cntL]
    rw [dp_append a b, show k + (deepN p + cntL a) = k + deepN p + cntL a by omega]
    omega
theorem dp_count : ∀ (l : List Part) (k : Nat), l ≠ [] → k + cntL l ≤ dpL k l
  | [], k, h => absurd rfl h
  | [p], k, _ => by simp only [dpL, cntL]; omega
  | p :: q :: r, k, _ => by
    have := dp_count (q :: r) (k + deepN p) (by simp)
    simp only [dpL, cntL] at this ⊢
    omega
theorem dp_one (k : Nat) (p : Part) : dpL k [p] = k + deepN p + (toldK p).deep := by simp [dpL]

theorem snoc_deep : ∀ (l : Bs) (b : BI) (k : Bs), (l.snoc b k).deep = max l.deep (Bs.deepOne b k.deep)
  | .nil, b, k => by simp [Bs.snoc, Bs.deep]
  | .cons c q r, b, k => by
    simp only [Bs.snoc, Bs.deep]
    rw [snoc_deep r b k]
    omega
theorem told_val (p : Part) (h : toldO p = true) : deepN p + (toldK p).deep ≤ Bs.deepOne (toldB p) (toldK p).deep := by
  cases p with
  | quote b => simp [deepN, Part.isDeep, toldB, Bs.deepOne]; omega
  | item b w => simp [deepN, Part.isDeep, toldB, Bs.deepOne]; omega
  | _ => simp only [deepN, Part.isDeep, Bs.deepOne, Bool.false_eq_true, if_false]; split <;> omega
theorem gone_val (p : Part) (h : toldO p = false) : deepN p + (toldK p).deep = 0 := by
  cases p <;> first | rfl | (cases h; done)
theorem box_val (b : Box) (p : Part) : b.kids.deep ≤ (b.hold p).kids.deep ∧ deepN p + (toldK p).deep ≤ (b.hold p).kids.deep := by
  have he : (b.hold p).kids = match p.told with | some (i, k) => b.kids.snoc i k | none => b.kids := rfl
  rw [he, told_eq]
  cases h : toldO p
  · simp only [Bool.false_eq_true, if_false]
    have := gone_val p h
    omega
  · simp only [if_true]
    rw [snoc_deep]
    have := told_val p h
    omega
theorem hold_val {c : Part} (hc : c.isC = true) (p : Part) : (toldK c).deep ≤ (toldK (c.hold p)).deep ∧ deepN p + (toldK p).deep ≤ (toldK (c.hold p)).deep ∧ deepN (c.hold p) = deepN c := by
  cases c with
  | doc b => exact ⟨(box_val b p).1, (box_val b p).2, rfl⟩
  | quote b => exact ⟨(box_val b p).1, (box_val b p).2, rfl⟩
  | list b m => exact ⟨(box_val b p).1, (box_val b p).2, rfl⟩
  | item b w => exact ⟨(box_val b p).1, (box_val b p).2, rfl⟩
  | _ => cases hc
theorem off_val (p : Part) (d : List Df) : deepN (St.takeOff p d).1 + (toldK (St.takeOff p d).1).deep = deepN p + (toldK p).deep := by cases p <;> rfl

theorem dp_close {s : St} {n : Nat} (hn : s.opens.length = n + 2) (hc : ∀ c, s.opens[n]? = some c → c.isC = true) : Dp s ≤ Dp s.close := by
  obtain ⟨r, p, hr⟩ : ∃ r p, s.opens = r ++ [p] := by
    cases hq : s.opens.getLast? with
    | none => rw [List.getLast?_eq_none_iff] at hq; rw [hq] at hn; simp at hn
    | some p => obtain ⟨ys, hy⟩ := List.getLast?_eq_some_iff.1 hq; exact ⟨ys, p, hy⟩
  obtain ⟨X, q, hX⟩ : ∃ X q, r = X ++ [q] := by
    cases hq : r.getLast? with
    | none => rw [List.getLast?_eq_none_iff] at hq; rw [hr, hq] at hn; simp at hn
    | some p => obtain ⟨ys, hy⟩ := List.getLast?_eq_some_iff.1 hq; exact ⟨ys, p, hy⟩
  subst hX
  have hqc : q.isC = true := hc q (by
    have hl : X.length = n := by have := congrArg List.length hr; rw [hn] at this; simp at this; omega
    rw [hr, List.getElem?_append_left (by simp; omega), ← hl]
    simp)
  have e : s.close.opens = X ++ [q.hold (St.takeOff p s.defs).1] := by
    unfold St.close
    rw [hr, List.getLast?_append]
    simp only [List.getLast?_singleton, Option.some_or, List.dropLast_concat]
    exact holdLast_snoc X q _
  obtain ⟨a, b, c⟩ := hold_val hqc (St.takeOff p s.defs).1
  have d := off_val p s.defs
  unfold Dp
  rw [e, hr, dp_append, dp_append, dp_append, dp_one, dp_one, dp_one, c]
  have hcn : ∀ x : List Part, cntL (x ++ [q]) = cntL x + deepN q := fun x => by
    induction x with
    | nil => simp [cntL]
    | cons y t ih => simp only [List.cons_append, cntL, ih]; omega
  rw [hcn]
  omega
theorem dp_push (s : St) (p : Part) : Dp s ≤ Dp (s.push p) := by
  unfold Dp
  show dpL 0 s.opens ≤ dpL 0 (s.opens ++ [p])
  rw [dp_append]
  omega
theorem dp_same {k : Nat} : ∀ {l l' : List Part}, l'.map (fun p => (deepN p, toldK p)) = l.map (fun p => (deepN p, toldK p)) → dpL k l' = dpL k l := by
  intro l
  induction l generalizing k with
  | nil => intro l' h; have : l' = [] := by simpa using h
           subst this; rfl
  | cons p r ih =>
    intro l' h
    cases l' with
    | nil => simp at h
    | cons p' r' =>
      simp only [List.map_cons, List.cons.injEq, Prod.mk.injEq] at h
      simp only [dpL]
      rw [h.1.1, h.1.2, ih h.2]

theorem dp_closeW {B N : Nat} {s : St} (h : Wf B N s) (h2 : 2 ≤ s.opens.length) : Dp s ≤ Dp s.close := by
  obtain ⟨n, hn⟩ : ∃ n, s.opens.length = n + 2 := ⟨s.opens.length - 2, by omega⟩
  exact dp_close hn (fun c hc => h.cont n c hc (by omega))
theorem dp_leave : ∀ (k B N : Nat) (s : St), s.opens.length = k → Wf B N s → 1 ≤ s.on → Dp s ≤ Dp s.leave := by
  intro k
  induction k with
  | zero => intro B N s hk h h1; have := h.on; omega
  | succ k ih =>
    intro B N s hk h h1
    by_cases hlt : s.on < s.opens.length
    · obtain ⟨N2, w2, _, e2, o2, _⟩ := close_last h (by omega)
      rw [leave_next hlt e2]
      exact Nat.le_trans (dp_closeW h (by omega)) (ih B N2 s.close (by omega) w2 (by rw [o2]; omega))
    · rw [leave_stop hlt]
      exact Nat.le_refl _
theorem dp_clear {B N : Nat} {s : St} (h : Wf B N s) (h1 : 1 ≤ s.on) : Dp s ≤ Dp s.clear := by
  obtain ⟨N1, w1, o1⟩ := leave_wf _ B N s rfl h h1
  have hl := dp_leave _ B N s rfl h h1
  unfold St.clear
  split
  · rename_i hp
    exact Nat.le_trans hl (dp_closeW w1 (para_two w1 hp))
  · exact hl
theorem dp_stand {B N : Nat} {s : St} (h : Wf B N s) (h1 : 1 ≤ s.on) (p : Part) : Dp s ≤ Dp (s.stand p) := by
  obtain ⟨N1, w1, o1⟩ := clear_wf h h1
  have hl := dp_clear h h1
  unfold St.stand
  split
  · rename_i hi
    exact Nat.le_trans hl (Nat.le_trans (dp_closeW w1 (list_two w1 hi)) (dp_push _ _))
  · exact Nat.le_trans hl (dp_push _ _)
theorem dp_standClose {B N : Nat} {s : St} (h : Wf B N s) (hr : Ready s) (p : Part) : Dp s ≤ Dp (s.stand p).close := by
  obtain ⟨X, e1, e2, e3, e4⟩ := stand_on h hr.on hr.leaf p
  obtain ⟨n, hn⟩ : ∃ n, X.length = n + 1 := ⟨X.length - 1, by have := List.length_pos_iff.2 e3; omega⟩
  refine Nat.le_trans (dp_stand h hr.on p) (dp_close (n := n) (by rw [e1, List.length_append, hn]; rfl) (fun c hc => e4 c ?_))
  rw [e1, List.getElem?_append_left (by omega)] at hc
  rw [List.getLast?_eq_getElem?, hn]
  exact hc
/-- The last part is a leaf, and is exchanged for one. -/
theorem dp_set {s : St} {p p' : Part} (h : s.opens.getLast? = some p) (hv : deepN p' = deepN p ∧ toldK p' = toldK p) (on : Nat) (df : List Df) : Dp { s with opens := s.opens.dropLast ++ [p'], on := on, defs := df } = Dp s := by
  unfold Dp
  refine dp_same ?_
  obtain ⟨ys, hy⟩ := List.getLast?_eq_some_iff.1 h
  show (s.opens.dropLast ++ [p']).map _ = _
  rw [hy, List.dropLast_concat, List.map_append, List.map_append]
  simp only [List.map_cons, List.map_nil, hv.1, hv.2]

theorem dp_begin {B N n : Nat} {s : St} {σ : Pl} (h : Wf B N s) (hr : Ready s) : Dp s ≤ Dp (s.begin' n σ).2.1 := by
  unfold St.begin' St.begin
  simp only
  split
  · unfold St.beginIndented
    split
    · exact Nat.le_refl _
    · exact dp_stand h hr.on _
  split
  · exact dp_stand h hr.on _
  split
  · exact dp_standClose h hr _
  split
  · exact dp_stand h hr.on _
  split
  · show Dp s ≤ Dp (s.beginHtml endsX n σ (htmlL (beh σ.1)))
    unfold St.beginHtml
    simp only
    split
    · exact dp_stand h hr.on _
    · exact dp_standClose h hr _
  split
  · rename_i hu
    obtain ⟨x, l, hlast⟩ := isClose_para hu.2
    have h2 := h.two hlast rfl
    obtain ⟨m, hm⟩ : ∃ m, s.opens.length = m + 2 := ⟨s.opens.length - 2, by omega⟩
    have key : ∀ (x' : Body) (l' : Nat) (d : List Df), Dp s ≤ Dp (St.close { s with opens := s.opens.dropLast ++ [.para x' l'], defs := d }) := by
      intro x' l' d
      have e := dp_set (p' := .para x' l') hlast ⟨rfl, rfl⟩ s.on d
      rw [← e]
      refine dp_close (n := m) (by show (s.opens.dropLast ++ [_]).length = m + 2; rw [List.length_append, List.length_dropLast, hm]; rfl) (fun c hcc => ?_)
      have hcc : (s.opens.dropLast ++ [Part.para x' l'])[m]? = some c := hcc
      rw [List.getElem?_append_left (by rw [List.length_dropLast]; omega), List.getElem?_dropLast, if_pos (by omega)] at hcc
      exact h.cont m c hcc (by omega)
    unfold St.underline
    rw [hlast]
    simp only
    split
    · exact key _ _ _
    · exact key _ _ _
  split
  · exact dp_standClose h hr _
  split
  · unfold St.beginItem
    simp only
    refine Nat.le_trans ?_ (dp_push _ _)
    split
    · exact dp_clear h hr.on
    · obtain ⟨N1, w1, o1⟩ := clear_wf h hr.on
      exact Nat.le_trans (dp_clear h hr.on) (dp_stand w1 o1 _)
  · exact Nat.le_refl _
theorem dp_text {B N n : Nat} {s : St} {σ : Pl} (h : Wf B N s) (hr : Ready s) : Dp s ≤ Dp (s.text n σ) := by
  unfold St.text
  split
  · exact dp_clear h hr.on
  · split
    · rename_i b l hl
      have e := dp_set (p' := .para (b.add n (beh σ.1)) l) hl ⟨rfl, rfl⟩ s.on s.defs
      exact Nat.le_of_eq e.symm
    · exact dp_stand h hr.on _

end Go.Proofs.YtcbojffcnlkejaaGreatDoor

/- Plain mathematics: what is quoted is what it is. -/
namespace Go.Proofs.YtcbojffcnlkejaaGreatDoor

theorem goF_val (n len : Nat) : ∀ (l : List Part) (i : Nat) (σ : Pl), (goF n len l i σ).1.map (fun p => (deepN p, toldK p)) = l.map (fun p => (deepN p, toldK p))
  | [], i, σ => rfl
  | p :: r, i, σ => by
    have hv : ∀ f τ, (deepN (p.goesOn n f τ).2.1, toldK (p.goesOn n f τ).2.1) = (deepN p, toldK p) := fun f τ => by
      have h := goes_P n f τ p
      rw [h.2.2.1]
      congr 1
      unfold deepN
      congr 1
      cases p with
      | quote b => simp only [Part.goesOn]; split <;> rfl
      | item b w => simp only [Part.goesOn]; repeat' split
                    all_goals rfl
      | _ => rfl
    simp only [goF]
    split
    · simp only [List.map_cons, goF_val n len r (i + 1) σ]
    · split
      · simp only [List.map_cons, hv]
      · simp only [List.map_cons, hv, goF_val n len r (i + 1) _]
theorem takes_val (n : Nat) (σ : Pl) (p : Part) : deepN (p.takes endsX n σ).2.2.1 = deepN p ∧ toldK (p.takes endsX n σ).2.2.1 = toldK p := by
  cases p with
  | fenced b c k i t => simp only [Part.takes]; split <;> exact ⟨rfl, rfl⟩
  | indented b => simp only [Part.takes]; split <;> exact ⟨rfl, rfl⟩
  | html b k => simp only [Part.takes]; split <;> exact ⟨rfl, rfl⟩
  | _ => exact ⟨rfl, rfl⟩

theorem dp_goOn {B N n : Nat} {s : St} (h : Wf B N s) (σ : Pl) : Dp s ≤ Dp (s.goOn endsX n σ).2.1 := by
  obtain ⟨o, τ, e, hg⟩ : ∃ o τ e, goF n s.opens.length s.opens 0 σ = (o, τ, e) := ⟨_, _, _, rfl⟩
  have hv := goF_val n s.opens.length s.opens 0 σ
  have hm := goF_C n s.opens.length s.opens 0 σ
  have hol := goF_len n s.opens.length s.opens 0 σ
  rw [hg] at hv hm hol
  have hD : ∀ on df, Dp ⟨o, on, df⟩ = Dp s := fun on df => dp_same hv
  cases e with
  | some j => rw [goOn_some hg]; exact Nat.le_of_eq (hD _ _).symm
  | none =>
    obtain ⟨p, hp⟩ : ∃ p, o.getLast? = some p := by
      obtain ⟨m, q, hq, _⟩ := h.last
      cases hq2 : o.getLast? with
      | none => rw [List.getLast?_eq_none_iff] at hq2; have : o.length = s.opens.length := hol; rw [hq2, hq] at this; simp at this
      | some p => exact ⟨p, rfl⟩
    cases hl : p.isLined
    · rw [goOn_stay hg hp hl]; exact Nat.le_of_eq (hD _ _).symm
    · rw [goOn_takes hg hp hl]
      have hs : Dp { s with opens := o.dropLast ++ [(p.takes endsX n τ).2.2.1], on := o.length } = Dp s := by
        have := dp_set (s := ⟨o, o.length, s.defs⟩) hp (takes_val n τ p) o.length s.defs
        exact this.trans (hD _ _)
      simp only
      split
      · exact Nat.le_of_eq hs.symm
      · rw [← hs]
        have hc : p.isC = false := by cases p <;> first | rfl | (cases hl; done)
        have hgl := goF_last n _ _ _ _ p (by rw [hg]; exact hp) hc
        have h2 : 2 ≤ s.opens.length := h.two hgl (by cases p <;> first | rfl | (cases hl; done))
        have hol : o.length = s.opens.length := hol
        obtain ⟨m, hmm⟩ : ∃ m, o.length = m + 2 := ⟨o.length - 2, by omega⟩
        refine dp_close (n := m) (by show (o.dropLast ++ [_]).length = m + 2; rw [List.length_append, List.length_dropLast, hmm]; rfl) (fun c hcc => ?_)
        have hcc : (o.dropLast ++ [(p.takes endsX n τ).2.2.1])[m]? = some c := hcc
        rw [List.getElem?_append_left (by rw [List.length_dropLast]; omega), List.getElem?_dropLast, if_pos (by omega)] at hcc
        have hm : o.map Part.isC = s.opens.map Part.isC := hm
        have h1 : (o.map Part.isC)[m]? = some c.isC := by rw [List.getElem?_map, hcc]; rfl
        rw [hm, List.getElem?_map] at h1
        obtain ⟨c', hc', e⟩ : ∃ c', s.opens[m]? = some c' ∧ c'.isC = c.isC := by
          cases hq : s.opens[m]? with
          | none => rw [hq] at h1; cases h1
          | some c' => rw [hq] at h1; exact ⟨c', rfl, by simpa using h1⟩
        rw [← e]
        exact h.cont m c' hc' (by omega)

theorem RunL.wf {n B L : Nat} {s : St} {σ : Pl} (h : RunL n s σ B L) : (∃ N, Wf B N s) ∧ Ready s := by
  obtain ⟨w, r, c, own, g1, _, _, _, _, _, _, _, g9⟩ := h
  exact ⟨g1.wf, g9⟩
theorem Run.wf {n B : Nat} {s : St} (h : Run n s B) : (∃ N, Wf B N s) ∧ ∀ q, s.opens.getLast? = some q → q.since n := by
  obtain ⟨w, r, own, g1, _, _, _, g5⟩ := h
  exact ⟨g1.wf, g5⟩

theorem dp_begins : ∀ (f n B L : Nat) (s : St) (σ : Pl), RunL n s σ B L → B + 2 * f + 3 * (L + 1) + 3 ≤ 549755813888 → L ≤ 2147483648 → Dp s ≤ Dp (St.beginsF htmlL endsX n f s σ).2.1 ∧ ((St.beginsF htmlL endsX n f s σ).1 = 1 → ∃ B N, Wf B N (St.beginsF htmlL endsX n f s σ).2.1 ∧ Ready (St.beginsF htmlL endsX n f s σ).2.1)
  | 0, n, B, L, s, σ, h, _, _ => ⟨Nat.le_refl _, fun e => by cases e⟩
  | f + 1, n, B, L, s, σ, h, hB, hL => by
    obtain ⟨⟨N, hw⟩, hr⟩ := h.wf
    have hb := dp_begin (n := n) (σ := σ) hw hr
    by_cases h0 : (s.begin' n σ).1 = 0
    · rw [begins_zero h0]
      obtain ⟨a, _⟩ := run_begin h (by omega) hL h0
      obtain ⟨x, y⟩ := dp_begins f n (B + 2) L _ _ a (by omega) hL
      exact ⟨Nat.le_trans hb x, y⟩
    · rw [begins_else h0]
      refine ⟨hb, fun e => ?_⟩
      rw [(begin_after (n := n) (σ := σ) hw hr).2.1 e]
      exact ⟨B, N, hw, hr⟩

theorem read_eq (n : Nat) (s : St) (l : Str) : s.read' n l = if (s.goOn endsX n (l, 0, 0)).1 = 0 then (if (St.beginsF htmlL endsX n (St.fuel (s.goOn endsX n (l, 0, 0)).2.2) (s.goOn endsX n (l, 0, 0)).2.1 (s.goOn endsX n (l, 0, 0)).2.2).1 = 1 then (St.beginsF htmlL endsX n (St.fuel (s.goOn endsX n (l, 0, 0)).2.2) (s.goOn endsX n (l, 0, 0)).2.1 (s.goOn endsX n (l, 0, 0)).2.2).2.1.text n (St.beginsF htmlL endsX n (St.fuel (s.goOn endsX n (l, 0, 0)).2.2) (s.goOn endsX n (l, 0, 0)).2.1 (s.goOn endsX n (l, 0, 0)).2.2).2.2 else (St.beginsF htmlL endsX n (St.fuel (s.goOn endsX n (l, 0, 0)).2.2) (s.goOn endsX n (l, 0, 0)).2.1 (s.goOn endsX n (l, 0, 0)).2.2).2.1)
    else (if (s.goOn endsX n (l, 0, 0)).1 = 1 then (s.goOn endsX n (l, 0, 0)).2.1.text n (s.goOn endsX n (l, 0, 0)).2.2 else (s.goOn endsX n (l, 0, 0)).2.1) := by
  unfold St.read' St.read
  simp only
  split <;> rfl

theorem fuel_le {l : Str} {σ : Pl} (h : wt σ ≤ 4 * l.length) : St.fuel σ ≤ 8 * l.length + 2 := by
  unfold St.fuel
  unfold wt at h
  omega
theorem dp_read {n B : Nat} {s : St} (h : Run n s B) (l : Str) (hl : l.length ≤ 536870912) (hB : B + 100 * l.length + 100 ≤ 549755813888) : Dp s ≤ Dp (s.read' n l) := by
  obtain ⟨⟨N, hw⟩, hs⟩ := h.wf
  have hg := dp_goOn (n := n) hw (l, 0, 0)
  obtain ⟨a1, a2, a3, a4⟩ := goOn_after (n := n) (σ := ((l, 0, 0) : Pl)) hw hs
  have hwt : wt ((l, 0, 0) : Pl) ≤ 4 * l.length := by unfold wt; simp only; omega
  have hfu := fuel_le (Nat.le_trans a4 hwt)
  rw [read_eq]
  rcases a2 with e | e
  · rw [if_pos e]
    have hR := run_go h l hl (by simp only [lineK]; omega) e
    obtain ⟨x, y⟩ := dp_begins (St.fuel (s.goOn endsX n (l, 0, 0)).2.2) n _ _ _ _ hR (by omega) (by omega)
    by_cases h1 : (St.beginsF htmlL endsX n (St.fuel (s.goOn endsX n (l, 0, 0)).2.2) (s.goOn endsX n (l, 0, 0)).2.1 (s.goOn endsX n (l, 0, 0)).2.2).1 = 1
    · rw [if_pos h1]
      obtain ⟨B', N', w', r'⟩ := y h1
      exact Nat.le_trans hg (Nat.le_trans x (dp_text w' r'))
    · rw [if_neg h1]
      exact Nat.le_trans hg x
  · rw [if_neg (by rw [e]; decide), if_neg (by rw [e]; decide)]
    exact hg

theorem begins_nest2 {K : Kd} {P : List Part} (hP : Rooms P) (d : Nat) : ∀ (f n B L : Nat) {s s' : St} {σ σ' : Pl}, RunL n s σ B L → B + 2 * f + 3 * (L + 1) + 3 ≤ 549755813888 → L ≤ 2147483648 → NR K P s s' → PQ d σ σ' → Dp (St.beginsF htmlL endsX n f s σ).2.1 ≤ 22 → (St.beginsF htmlL endsX n f s' σ').1 = (St.beginsF htmlL endsX n f s σ).1 ∧ NR K P (St.beginsF htmlL endsX n f s σ).2.1 (St.beginsF htmlL endsX n f s' σ').2.1 ∧ PQ d (St.beginsF htmlL endsX n f s σ).2.2 (St.beginsF htmlL endsX n f s' σ').2.2
  | 0, n, B, L, s, s', σ, σ', _, _, _, h, hq, _ => ⟨rfl, h, hq⟩
  | f + 1, n, B, L, s, s', σ, σ', hR, hB, hL, h, hq, ho => by
    have hs : Dp s ≤ 22 := Nat.le_trans (dp_begins (f + 1) n B L s σ hR hB hL).1 ho
    have hc : s.opens.countP Part.isDeep ≤ 22 := by
      obtain ⟨dd, c, r, e1, _⟩ := h.ex
      have := dp_count s.opens 0 (by rw [e1]; simp)
      rw [cnt_eq] at this
      unfold Dp at hs
      omega
    obtain ⟨a, b, c⟩ := begin_nest (n := n) h hq (h.room hP hc)
    by_cases h0 : (s.begin' n σ).1 = 0
    · rw [begins_zero h0] at ho ⊢
      rw [begins_zero (a.trans h0)]
      obtain ⟨hR2, _⟩ := run_begin hR (by omega) hL h0
      exact begins_nest2 hP d f n (B + 2) L hR2 (by omega) hL b c ho
    · rw [begins_else h0, begins_else (by rw [a]; exact h0)]
      exact ⟨a, b, c⟩

theorem read_nest {K : Kd} {P : List Part} (hP : Rooms P) {d n B : Nat} {s s' : St} {L l : Str} (hR : Run n s B) (hl : l.length ≤ 536870912) (hB : B + 100 * l.length + 100 ≤ 549755813888) (h : NR K P s s') (h9 : ∀ c ∈ l, c ≠ 9) (ha : Ahead K P n d s' L l) (ho : Dp (s.read' n l) ≤ 22) : NR K P (s.read' n l) (s'.read' n L) := by
  obtain ⟨⟨N, hw⟩, hs⟩ := hR.wf
  obtain ⟨g1, g2, g3⟩ := goOn_nest h h9 ha
  obtain ⟨a1, a2, a3, a4⟩ := goOn_after (n := n) (σ := ((l, 0, 0) : Pl)) hw hs
  have hwt : wt ((l, 0, 0) : Pl) ≤ 4 * l.length := by unfold wt; simp only; omega
  have hfu := fuel_le (Nat.le_trans a4 hwt)
  have hfe : St.fuel (s'.goOn endsX n (L, 0, 0)).2.2 = St.fuel (s.goOn endsX n (l, 0, 0)).2.2 := by unfold St.fuel; rw [g3.left]
  rw [read_eq] at ho
  rw [read_eq n s, read_eq n s', g1, hfe]
  rcases a2 with e | e
  · rw [if_pos e] at ho ⊢
    rw [if_pos e]
    have hRL := run_go hR l hl (by simp only [lineK]; omega) e
    obtain ⟨x, y⟩ := dp_begins (St.fuel (s.goOn endsX n (l, 0, 0)).2.2) n _ _ _ _ hRL (by omega) (by omega)
    have hob : Dp (St.beginsF htmlL endsX n (St.fuel (s.goOn endsX n (l, 0, 0)).2.2) (s.goOn endsX n (l, 0, 0)).2.1 (s.goOn endsX n (l, 0, 0)).2.2).2.1 ≤ 22 := by
      by_cases h1 : (St.beginsF htmlL endsX n (St.fuel (s.goOn endsX n (l, 0, 0)).2.2) (s.goOn endsX n (l, 0, 0)).2.1 (s.goOn endsX n (l, 0, 0)).2.2).1 = 1
      · rw [if_pos h1] at ho
        obtain ⟨B', N', w', r'⟩ := y h1
        exact Nat.le_trans (dp_text w' r') ho
      · rw [if_neg h1] at ho
        exact ho
    obtain ⟨b1, b2, b3⟩ := begins_nest2 hP d _ n _ _ hRL (by omega) (by omega) g2 g3 hob
    rw [b1]
    by_cases h1 : (St.beginsF htmlL endsX n (St.fuel (s.goOn endsX n (l, 0, 0)).2.2) (s.goOn endsX n (l, 0, 0)).2.1 (s.goOn endsX n (l, 0, 0)).2.2).1 = 1
    · rw [if_pos h1, if_pos h1]
      exact text_nest b2 b3
    · rw [if_neg h1, if_neg h1]
      exact b2
  · rw [if_neg (by rw [e]; decide), if_neg (by rw [e]; decide), if_neg (by rw [e]; decide), if_neg (by rw [e]; decide)]
    exact g2

end Go.Proofs.YtcbojffcnlkejaaGreatDoor

/- Plain mathematics: what is quoted is what it is: all lines. -/
namespace Go.Proofs.YtcbojffcnlkejaaGreatDoor

abbrev qL (l : Str) : Str := 62 :: 32 :: l
abbrev d00 : Box := { first := 0, last := 0 }

/-- What lines cost, at most. -/
def costL : List Str → Nat
  | [] => 0
  | l :: r => 100 * l.length + 200 + costL r

theorem dp_readAll : ∀ (ls : List Str) (n B : Nat) (s : St), Run n s B → (∀ l ∈ ls, l.length ≤ 536870912) → B + costL ls ≤ 549755813888 → Dp s ≤ Dp (St.readAll htmlL endsX n s ls) ∧ ∃ B', B' ≤ B + costL ls ∧ Run (n + ls.length) (St.readAll htmlL endsX n s ls) B'
  | [], n, B, s, h, _, _ => ⟨Nat.le_refl _, B, Nat.le_add_right _ _, h⟩
  | l :: r, n, B, s, h, hl, hB => by
    have hll := hl l (List.mem_cons_self ..)
    simp only [costL] at hB
    have h1 := dp_read h l hll (by omega)
    have h2 := run_read h l hll (by simp only [lineK]; omega)
    simp only [lineK] at h2
    obtain ⟨a, B', b, c⟩ := dp_readAll r (n + 1) _ (s.read' n l) h2 (fun x hx => hl x (List.mem_cons_of_mem _ hx)) (by omega)
    refine ⟨Nat.le_trans h1 a, B', by simp only [costL]; omega, ?_⟩
    rw [List.length_cons, show n + (r.length + 1) = n + 1 + r.length by omega]
    exact c

theorem all_nest {P : List Part} (hP : Rooms P) {K : Kd} {d : Nat} (F : Str → Str) (hF : ∀ n s' l, Ahead K P n d s' (F l) l) : ∀ (ls : List Str) (n B : Nat) (s s' : St), Run n s B → (∀ l ∈ ls, l.length ≤ 536870912) → B + costL ls ≤ 549755813888 → (∀ l ∈ ls, ∀ c ∈ l, c ≠ 9) → NR K P s s' → Dp (St.readAll htmlL endsX n s ls) ≤ 22 → NR K P (St.readAll htmlL endsX n s ls) (St.readAll htmlL endsX n s' (ls.map F))
  | [], n, B, s, s', _, _, _, _, h, _ => h
  | l :: r, n, B, s, s', hR, hl, hB, h9, h, ho => by
    have hll := hl l (List.mem_cons_self ..)
    simp only [costL] at hB
    have h2 := run_read hR l hll (by simp only [lineK]; omega)
    simp only [lineK] at h2
    have hl2 : ∀ x ∈ r, x.length ≤ 536870912 := fun x hx => hl x (List.mem_cons_of_mem _ hx)
    have ho : Dp (St.readAll htmlL endsX (n + 1) (s.read' n l) r) ≤ 22 := ho
    have hd := (dp_readAll r (n + 1) _ (s.read' n l) h2 hl2 (by omega)).1
    have hn := read_nest hP hR hll (by omega) h (h9 l (List.mem_cons_self ..)) (hF n s' l) (Nat.le_trans hd ho)
    exact all_nest hP F hF r (n + 1) _ (s.read' n l) (s'.read' n (F l)) h2 hl2 (by omega) (fun x hx => h9 x (List.mem_cons_of_mem _ hx)) hn ho

theorem close_on (s : St) (a : Nat) (h2 : 2 ≤ s.opens.length) : St.close { s with on := a } = { s.close with on := min a (s.opens.length - 1) } := by
  unfold St.close
  cases hq : s.opens.getLast? with
  | none => rw [List.getLast?_eq_none_iff] at hq; rw [hq] at h2; simp at h2
  | some p => rfl
theorem leave_to : ∀ (k : Nat) (s : St) (a b : Nat), s.opens.length = k → 1 ≤ a → a ≤ b → St.leave { s with on := a } = St.leave { (St.leave { s with on := b }) with on := a } := by
  intro k
  induction k with
  | zero =>
    intro s a b hk h1 h2
    rw [leave_stop (s := { s with on := b }) (by show ¬ b < s.opens.length; omega)]
  | succ k ih =>
    intro s a b hk h1 h2
    by_cases hb : b < s.opens.length
    · have h2l : 2 ≤ s.opens.length := by omega
      have ca : St.close { s with on := a } = { s.close with on := a } := by rw [close_on s a h2l, show min a (s.opens.length - 1) = a by omega]
      have cb : St.close { s with on := b } = { s.close with on := b } := by rw [close_on s b h2l, show min b (s.opens.length - 1) = b by omega]
      have hcl := (close_len' h2l).1
      have la := leave_next (s := { s with on := a }) (by show a < s.opens.length; omega) (by rw [ca]; exact hcl)
      have lb := leave_next (s := { s with on := b }) (by show b < s.opens.length; omega) (by rw [cb]; exact hcl)
      rw [la, lb, ca, cb]
      exact ih s.close a b (by omega) h1 h2
    · rw [leave_stop (s := { s with on := b }) (by show ¬ b < s.opens.length; omega)]

theorem leave_len : ∀ (k : Nat) (s : St), s.opens.length = k → s.on = 1 → 1 ≤ k → s.leave.opens.length = 1 := by
  intro k
  induction k with
  | zero => intro s hk h1 h; omega
  | succ k ih =>
    intro s hk h1 h
    by_cases hlt : s.on < s.opens.length
    · have h2 : 2 ≤ s.opens.length := by omega
      obtain ⟨a, b⟩ := close_len' h2
      rw [leave_next hlt a]
      exact ih s.close (by omega) (by rw [b]; omega) (by omega)
    · rw [leave_stop hlt]
      omega

theorem dp_told {n B : Nat} {s : St} (h : Run n s B) : Dp s ≤ (toldS s).1.deep := by
  obtain ⟨⟨N, hw⟩, _⟩ := h.wf
  obtain ⟨x, hx⟩ := hw.doc
  have hpos := (List.getElem?_eq_some_iff.1 hx).1
  have h1 := dp_leave _ B N ({ s with on := 1 } : St) rfl (hw.onTo 1 hpos) (Nat.le_refl _)
  have hl1 := leave_len _ ({ s with on := 1 } : St) rfl rfl hpos
  obtain ⟨N1, w1, _⟩ := leave_wf _ B N ({ s with on := 1 } : St) rfl (hw.onTo 1 hpos) (Nat.le_refl _)
  have h1 : Dp s ≤ Dp (St.leave { s with on := 1 }) := h1
  unfold toldS
  generalize St.leave ({ s with on := 1 } : St) = S at *
  obtain ⟨y, hy⟩ := w1.doc
  have hS : S.opens = [.doc y] := by
    obtain ⟨a, ha⟩ := List.length_eq_one_iff.1 hl1
    rw [ha] at hy ⊢
    simp at hy
    rw [hy]
  refine Nat.le_trans h1 ?_
  unfold Dp
  rw [hS]
  show max (0 + 0 + y.kids.deep) 0 ≤ y.kids.deep
  omega

end Go.Proofs.YtcbojffcnlkejaaGreatDoor

/- Plain mathematics: nothing stands deeper than it may. -/
namespace Go.Proofs.YtcbojffcnlkejaaGreatDoor

/-- A block of one line that is no Quote and no Item, or any other part. -/
def Part.low : Part → Prop
  | .whole _ _ b => b.kind ≠ 1 ∧ b.kind ≠ 3
  | _ => True
theorem told_low {p : Part} (hl : p.low) : Bs.deepOne (toldB p) (toldK p).deep = deepN p + (toldK p).deep ∨ toldO p = false := by
  cases p with
  | quote b => left; simp [deepN, Part.isDeep, toldB, Bs.deepOne]; omega
  | item b w => left; simp [deepN, Part.isDeep, toldB, Bs.deepOne]; omega
  | whole f l b =>
    left
    have h : b.kind ≠ 1 ∧ b.kind ≠ 3 := hl
    show (if b.kind = 1 ∨ b.kind = 3 then (0 : Nat) + 1 else 0) = 0 + 0
    rw [if_neg (by
      rintro (q | q)
      · exact h.1 q
      · exact h.2 q)]
  | para b l =>
    by_cases h0 : b.rows = []
    · right; simp [toldO, h0]
    · left
      cases l <;> simp [deepN, Part.isDeep, toldB, Bs.deepOne, h0, toldK, Bs.deep]
  | doc b => left; simp [deepN, Part.isDeep, toldB, Bs.deepOne]
  | list b m => left; simp [deepN, Part.isDeep, toldB, Bs.deepOne]
  | fenced b c k i t => left; simp [deepN, Part.isDeep, toldB, Bs.deepOne, toldK, Bs.deep]
  | indented b => left; simp [deepN, Part.isDeep, toldB, Bs.deepOne, toldK, Bs.deep]
  | html b k => left; simp [deepN, Part.isDeep, toldB, Bs.deepOne, toldK, Bs.deep]
theorem box_low (b : Box) {p : Part} (hl : p.low) : (b.hold p).kids.deep ≤ max b.kids.deep (deepN p + (toldK p).deep) := by
  have he : (b.hold p).kids = match p.told with | some (i, k) => b.kids.snoc i k | none => b.kids := rfl
  rw [he, told_eq]
  rcases told_low hl with q | q
  · cases h : toldO p
    · simp only [Bool.false_eq_true, if_false]; omega
    · simp only [if_true]
      rw [snoc_deep, q]
      exact Nat.le_refl _
  · rw [q]
    simp only [Bool.false_eq_true, if_false]
    omega
theorem hold_low {c : Part} (hc : c.isC = true) {p : Part} (hl : p.low) : (toldK (c.hold p)).deep ≤ max (toldK c).deep (deepN p + (toldK p).deep) := by
  cases c with
  | doc b => exact box_low b hl
  | quote b => exact box_low b hl
  | list b m => exact box_low b hl
  | item b w => exact box_low b hl
  | _ => cases hc
theorem off_low {p : Part} (h : p.low) (d : List Df) : (St.takeOff p d).1.low := by cases p <;> exact h
theorem hold_islow (c p : Part) (h : c.isC = true) : (c.hold p).low := by cases c <;> first | trivial | cases h

def Low (s : St) : Prop := ∀ p ∈ s.opens, p.low

theorem close_form {s : St} {n : Nat} (hn : s.opens.length = n + 2) : ∃ X q p, s.opens = X ++ [q] ++ [p] ∧ s.close.opens = X ++ [q.hold (St.takeOff p s.defs).1] ∧ X.length = n := by
  obtain ⟨r, p, hr⟩ : ∃ r p, s.opens = r ++ [p] := by
    cases hq : s.opens.getLast? with
    | none => rw [List.getLast?_eq_none_iff] at hq; rw [hq] at hn; simp at hn
    | some p => obtain ⟨ys, hy⟩ := List.getLast?_eq_some_iff.1 hq; exact ⟨ys, p, hy⟩
  obtain ⟨X, q, hX⟩ : ∃ X q, r = X ++ [q] := by
    cases hq : r.getLast? with
    | none => rw [List.getLast?_eq_none_iff] at hq; rw [hr, hq] at hn; simp at hn
    | some p => obtain ⟨ys, hy⟩ := List.getLast?_eq_some_iff.1 hq; exact ⟨ys, p, hy⟩
  subst hX
  refine ⟨X, q, p, hr, ?_, by have := congrArg List.length hr; rw [hn] at this; simp at this; omega⟩
  unfold St.close
  rw [hr, List.getLast?_append]
  simp only [List.getLast?_singleton, Option.some_or, List.dropLast_concat]
  exact holdLast_snoc X q _
theorem cnt_snoc (x : List Part) (q : Part) : cntL (x ++ [q]) = cntL x + deepN q := by
  induction x with
  | nil => simp [cntL]
  | cons y t ih => simp only [List.cons_append, cntL, ih]; omega

theorem low_close {B N : Nat} {s : St} (h : Wf B N s) (h2 : 2 ≤ s.opens.length) (hl : Low s) : Low s.close ∧ Dp s.close ≤ Dp s := by
  obtain ⟨n, hn⟩ : ∃ n, s.opens.length = n + 2 := ⟨s.opens.length - 2, by omega⟩
  obtain ⟨X, q, p, e1, e2, e3⟩ := close_form hn
  have hqc : q.isC = true := h.cont n q (by rw [e1, List.getElem?_append_left (by simp; omega), ← e3]; simp) (by omega)
  have hp : p.low := hl p (by rw [e1]; simp)
  refine ⟨fun x hx => ?_, ?_⟩
  · rw [e2] at hx
    rcases List.mem_append.1 hx with q1 | q1
    · exact hl x (by rw [e1]; simp [q1])
    · simp at q1
      rw [q1]
      exact hold_islow _ _ hqc
  · have a := hold_low hqc (off_low hp s.defs)
    have c := (hold_val hqc (St.takeOff p s.defs).1).2.2
    have d := off_val p s.defs
    unfold Dp
    rw [e2, e1, dp_append, dp_append, dp_append, dp_one, dp_one, dp_one, c, cnt_snoc]
    omega
theorem low_leave : ∀ (k B N : Nat) (s : St), s.opens.length = k → Wf B N s → 1 ≤ s.on → Low s → Low s.leave ∧ Dp s.leave ≤ Dp s ∧ cntL s.leave.opens ≤ cntL (s.opens.take s.on) := by
  intro k
  induction k with
  | zero => intro B N s hk h h1 _; have := h.on; omega
  | succ k ih =>
    intro B N s hk h h1 hl
    by_cases hlt : s.on < s.opens.length
    · have h2 : 2 ≤ s.opens.length := by omega
      obtain ⟨N2, w2, _, e2, o2, _⟩ := close_last h h2
      obtain ⟨a, b⟩ := low_close h h2 hl
      rw [leave_next hlt e2]
      obtain ⟨c, d, e⟩ := ih B N2 s.close (by omega) w2 (by rw [o2]; omega) a
      refine ⟨c, Nat.le_trans d b, Nat.le_trans e ?_⟩
      obtain ⟨n, hn⟩ : ∃ n, s.opens.length = n + 2 := ⟨s.opens.length - 2, by omega⟩
      obtain ⟨X, q, p, f1, f2, f3⟩ := close_form hn
      have hqc : q.isC = true := h.cont n q (by rw [f1, List.getElem?_append_left (by simp; omega), ← f3]; simp) (by omega)
      have hv := (hold_val hqc (St.takeOff p s.defs).1).2.2
      rw [o2, f2, f1]
      rw [show min s.on ((X ++ [q] ++ [p]).length - 1) = s.on by rw [← f1]; omega]
      have hon : s.on ≤ (X ++ [q]).length := by have := hn; simp; omega
      rw [List.take_append_of_le_length hon]
      rcases Nat.lt_or_ge s.on (X ++ [q]).length with hc | hc
      · have h3 : s.on ≤ X.length := by simp at hc; omega
        rw [List.take_append_of_le_length h3, List.take_append_of_le_length h3]
        exact Nat.le_refl _
      · rw [List.take_of_length_le (by simp at hc ⊢; omega), List.take_of_length_le hc, cnt_snoc, cnt_snoc, hv]
        exact Nat.le_refl _
    · rw [leave_stop hlt]
      refine ⟨hl, Nat.le_refl _, ?_⟩
      rw [List.take_of_length_le (by omega)]
      exact Nat.le_refl _
theorem cnt_close {B N : Nat} {s : St} (h : Wf B N s) (h2 : 2 ≤ s.opens.length) : cntL s.close.opens ≤ cntL s.opens := by
  obtain ⟨n, hn⟩ : ∃ n, s.opens.length = n + 2 := ⟨s.opens.length - 2, by omega⟩
  obtain ⟨X, q, p, f1, f2, f3⟩ := close_form hn
  have hqc : q.isC = true := h.cont n q (by rw [f1, List.getElem?_append_left (by simp; omega), ← f3]; simp) (by omega)
  rw [f2, f1, cnt_snoc, cnt_snoc, cnt_snoc, (hold_val hqc (St.takeOff p s.defs).1).2.2]
  omega
theorem low_clear {B N : Nat} {s : St} (h : Wf B N s) (h1 : 1 ≤ s.on) (hl : Low s) : Low s.clear ∧ Dp s.clear ≤ Dp s ∧ cntL s.clear.opens ≤ cntL (s.opens.take s.on) := by
  obtain ⟨N1, w1, o1⟩ := leave_wf _ B N s rfl h h1
  obtain ⟨a, b, c⟩ := low_leave _ B N s rfl h h1 hl
  unfold St.clear
  split
  · rename_i hp
    have h2 := para_two w1 hp
    obtain ⟨d, e⟩ := low_close w1 h2 a
    exact ⟨d, Nat.le_trans e b, Nat.le_trans (cnt_close w1 h2) c⟩
  · exact ⟨a, b, c⟩
theorem low_push {s : St} (hl : Low s) {p : Part} (hp : p.low) (hk : toldK p = .nil) (m : Nat) (hd : Dp s ≤ m) (hc : cntL s.opens + deepN p ≤ m) : Low (s.push p) ∧ Dp (s.push p) ≤ m := by
  refine ⟨fun x hx => ?_, ?_⟩
  · have hx : x ∈ s.opens ++ [p] := hx
    rcases List.mem_append.1 hx with q | q
    · exact hl x q
    · simp at q; rw [q]; exact hp
  · unfold Dp at hd ⊢
    show dpL 0 (s.opens ++ [p]) ≤ m
    rw [dp_append, dp_one, hk]
    have : (Bs.nil : Bs).deep = 0 := rfl
    omega
theorem low_stand {B N : Nat} {s : St} (h : Wf B N s) (h1 : 1 ≤ s.on) (hl : Low s) {p : Part} (hp : p.low) (hk : toldK p = .nil) (m : Nat) (hd : Dp s ≤ m) (hc : cntL (s.opens.take s.on) + deepN p ≤ m) : Low (s.stand p) ∧ Dp (s.stand p) ≤ m ∧ cntL (s.stand p).opens ≤ cntL (s.opens.take s.on) + deepN p := by
  obtain ⟨N1, w1, o1⟩ := clear_wf h h1
  obtain ⟨a, b, c⟩ := low_clear h h1 hl
  unfold St.stand
  split
  · rename_i hi
    have h2 := list_two w1 hi
    obtain ⟨d, e⟩ := low_close w1 h2 a
    have f := cnt_close w1 h2
    obtain ⟨g1, g2⟩ := low_push d hp hk m (by omega) (by omega)
    exact ⟨g1, g2, by show cntL (s.clear.close.opens ++ [p]) ≤ _; rw [cnt_snoc]; omega⟩
  · obtain ⟨g1, g2⟩ := low_push a hp hk m (by omega) (by omega)
    exact ⟨g1, g2, by show cntL (s.clear.opens ++ [p]) ≤ _; rw [cnt_snoc]; omega⟩

theorem low_standClose {B N : Nat} {s : St} (h : Wf B N s) (hr : Ready s) (hl : Low s) {p : Part} (hp : p.low) (hk : toldK p = .nil) (m : Nat) (hd : Dp s ≤ m) (hc : cntL (s.opens.take s.on) + deepN p ≤ m) : Low (s.stand p).close ∧ Dp (s.stand p).close ≤ m := by
  obtain ⟨a, b, _⟩ := low_stand h hr.on hl hp hk m hd hc
  obtain ⟨X, e1, e2, e3, e4⟩ := stand_on h hr.on hr.leaf p
  obtain ⟨n, hn⟩ : ∃ n, X.length = n + 1 := ⟨X.length - 1, by have := List.length_pos_iff.2 e3; omega⟩
  have hlen : (s.stand p).opens.length = n + 2 := by rw [e1, List.length_append, hn]; rfl
  obtain ⟨Y, q, p', f1, f2, f3⟩ := close_form hlen
  have hqc : q.isC = true := e4 q (by
    have hX : X = Y ++ [q] := by
      have := f1.symm.trans e1
      exact (List.append_inj' this rfl).1.symm
    rw [hX, List.getLast?_append]
    rfl)
  have hp' : p'.low := a p' (by rw [f1]; simp)
  refine ⟨fun x hx => ?_, ?_⟩
  · rw [f2] at hx
    rcases List.mem_append.1 hx with q1 | q1
    · exact a x (by rw [f1]; simp [q1])
    · simp at q1
      rw [q1]
      exact hold_islow _ _ hqc
  · have a1 := hold_low hqc (off_low hp' (s.stand p).defs)
    have c1 := (hold_val hqc (St.takeOff p' (s.stand p).defs).1).2.2
    have d1 := off_val p' (s.stand p).defs
    unfold Dp at b ⊢
    rw [f1, dp_append, dp_append, dp_one, dp_one, cnt_snoc] at b
    rw [f2, dp_append, dp_one, c1]
    omega

theorem cnt_take (l : List Part) (k : Nat) : cntL (l.take k) ≤ cntL l := by
  rw [cnt_eq, cnt_eq]
  exact (List.take_sublist k l).countP_le
theorem room_cnt {s : St} (h : s.room = true) : cntL (s.opens.take s.on) ≤ 23 := by
  unfold St.room at h
  rw [decide_eq_true_eq] at h
  rw [cnt_eq]
  omega
theorem dp_cnt {B N : Nat} {s : St} (h : Wf B N s) : cntL s.opens ≤ Dp s := by
  obtain ⟨x, hx⟩ := h.doc
  have := dp_count s.opens 0 (fun e => by rw [e] at hx; simp at hx)
  unfold Dp
  omega

theorem low_set {s : St} {p p' : Part} (h : s.opens.getLast? = some p) (hl : Low s) (hp : p'.low) (on : Nat) (df : List Df) : Low { s with opens := s.opens.dropLast ++ [p'], on := on, defs := df } := by
  intro x hx
  have hx : x ∈ s.opens.dropLast ++ [p'] := hx
  rcases List.mem_append.1 hx with q | q
  · exact hl x (List.dropLast_subset _ q)
  · simp at q; rw [q]; exact hp

theorem low_begin {B N n : Nat} {s : St} {σ : Pl} (h : Wf B N s) (hr : Ready s) (hl : Low s) (hd : Dp s ≤ 24) : Low (s.begin' n σ).2.1 ∧ Dp (s.begin' n σ).2.1 ≤ 24 := by
  have h0 : cntL (s.opens.take s.on) ≤ 24 := by have := cnt_take s.opens s.on; have := dp_cnt h; omega
  have st : ∀ p : Part, p.low → toldK p = .nil → deepN p = 0 → Low (s.stand p) ∧ Dp (s.stand p) ≤ 24 := fun p a b c => by
    obtain ⟨x, y, _⟩ := low_stand h hr.on hl a b 24 hd (by omega)
    exact ⟨x, y⟩
  have sc : ∀ p : Part, p.low → toldK p = .nil → deepN p = 0 → Low (s.stand p).close ∧ Dp (s.stand p).close ≤ 24 := fun p a b c => low_standClose h hr hl a b 24 hd (by omega)
  unfold St.begin' St.begin
  simp only
  split
  · unfold St.beginIndented
    split
    · exact ⟨hl, hd⟩
    · exact st _ trivial rfl rfl
  split
  · rename_i hq
    have := room_cnt hq.2
    obtain ⟨x, y, _⟩ := low_stand h hr.on hl (p := .quote { first := n, last := n }) trivial rfl 24 hd (by show _ + 1 ≤ 24; omega)
    exact ⟨x, y⟩
  split
  · exact sc _ (by show (4 : Nat) ≠ 1 ∧ (4 : Nat) ≠ 3; decide) rfl rfl
  split
  · exact st _ trivial rfl rfl
  split
  · show Low (s.beginHtml endsX n σ (htmlL (beh σ.1))) ∧ Dp (s.beginHtml endsX n σ (htmlL (beh σ.1))) ≤ 24
    unfold St.beginHtml
    have hv := takes_val n σ (.html { first := n, last := n } (htmlL (beh σ.1)))
    have hlw : ((Part.html { first := n, last := n } (htmlL (beh σ.1))).takes endsX n σ).2.2.1.low := by simp only [Part.takes]; split <;> trivial
    simp only
    split
    · exact st _ hlw (hv.2.trans rfl) (hv.1.trans rfl)
    · exact sc _ hlw (hv.2.trans rfl) (hv.1.trans rfl)
  split
  · rename_i hu
    obtain ⟨x, l, hlast⟩ := isClose_para hu.2
    have h2 := h.two hlast rfl
    obtain ⟨m, hm⟩ : ∃ m, s.opens.length = m + 2 := ⟨s.opens.length - 2, by omega⟩
    have key : ∀ (x' : Body) (l' : Nat) (d : List Df), Low (St.close { s with opens := s.opens.dropLast ++ [.para x' l'], defs := d }) ∧ Dp (St.close { s with opens := s.opens.dropLast ++ [.para x' l'], defs := d }) ≤ 24 := by
      intro x' l' d
      have e := dp_set (p' := .para x' l') hlast ⟨rfl, rfl⟩ s.on d
      have lw := low_set (p' := .para x' l') hlast hl trivial s.on d
      obtain ⟨Y, q, p', f1, f2, f3⟩ := close_form (s := { s with opens := s.opens.dropLast ++ [.para x' l'], defs := d }) (n := m) (by show (s.opens.dropLast ++ [_]).length = m + 2; rw [List.length_append, List.length_dropLast, hm]; rfl)
      have f1 : s.opens.dropLast ++ [Part.para x' l'] = Y ++ [q] ++ [p'] := f1
      have hYq : s.opens.dropLast = Y ++ [q] := (List.append_inj' f1 rfl).1
      have hqc : q.isC = true := h.cont m q (by
        have : s.opens.dropLast[m]? = some q := by rw [hYq, ← f3]; simp
        rw [List.getElem?_dropLast, if_pos (by omega)] at this
        exact this) (by omega)
      have hp' : p'.low := lw p' (by show p' ∈ s.opens.dropLast ++ [_]; rw [f1]; simp)
      refine ⟨fun y hy => ?_, ?_⟩
      · rw [f2] at hy
        rcases List.mem_append.1 hy with q1 | q1
        · exact lw y (by show y ∈ s.opens.dropLast ++ [_]; rw [f1]; simp [q1])
        · simp at q1
          rw [q1]
          exact hold_islow _ _ hqc
      · have a1 := hold_low hqc (off_low hp' d)
        have c1 := (hold_val hqc (St.takeOff p' d).1).2.2
        have d1 := off_val p' d
        have e : dpL 0 (s.opens.dropLast ++ [Part.para x' l']) = Dp s := e
        rw [f1, dp_append, dp_append, dp_one, dp_one, cnt_snoc] at e
        unfold Dp at hd e ⊢
        rw [f2, dp_append, dp_one]
        show max (dpL 0 Y) (0 + cntL Y + deepN (q.hold (St.takeOff p' d).1) + (toldK (q.hold (St.takeOff p' d).1)).deep) ≤ 24
        rw [c1]
        omega
    unfold St.underline
    rw [hlast]
    simp only
    split
    · exact key _ _ _
    · exact key _ _ _
  split
  · exact sc _ (by show (8 : Nat) ≠ 1 ∧ (8 : Nat) ≠ 3; decide) rfl rfl
  split
  · rename_i hit
    have hrm := room_cnt hit.2.1
    obtain ⟨N1, w1, o1⟩ := clear_wf h hr.on
    obtain ⟨a, b, c⟩ := low_clear h hr.on hl
    unfold St.beginItem
    simp only
    split
    · exact low_push a (by trivial) (by rfl) 24 (by omega) (by show _ + 1 ≤ 24; omega)
    · have hct := cnt_take s.clear.opens s.clear.on
      obtain ⟨x, y, z⟩ := low_stand w1 o1 a (p := .list { first := n, last := n } (St.markOf (beh σ.1))) trivial rfl 24 (by omega) (by show _ + 0 ≤ 24; omega)
      have z : cntL (s.clear.stand (.list { first := n, last := n } (St.markOf (beh σ.1)))).opens ≤ cntL (s.clear.opens.take s.clear.on) + 0 := z
      exact low_push x (by trivial) (by rfl) 24 y (by show _ + 1 ≤ 24; omega)
  · exact ⟨hl, hd⟩
theorem low_text {B N n : Nat} {s : St} {σ : Pl} (h : Wf B N s) (hr : Ready s) (hl : Low s) (hd : Dp s ≤ 24) : Low (s.text n σ) ∧ Dp (s.text n σ) ≤ 24 := by
  unfold St.text
  split
  · obtain ⟨a, b, c⟩ := low_clear h hr.on hl
    exact ⟨a, Nat.le_trans b hd⟩
  · split
    · rename_i b l hq
      refine ⟨low_set (p' := .para (b.add n (beh σ.1)) l) hq hl trivial s.on s.defs, ?_⟩
      have e := dp_set (p' := .para (b.add n (beh σ.1)) l) hq ⟨rfl, rfl⟩ s.on s.defs
      exact Nat.le_trans (Nat.le_of_eq e) hd
    · have h0 : cntL (s.opens.take s.on) ≤ 24 := by have := cnt_take s.opens s.on; have := dp_cnt h; omega
      obtain ⟨x, y, _⟩ := low_stand h hr.on hl (p := .para (Body.add { first := n, last := n } n (beh σ.1)) 0) trivial rfl 24 hd (by show _ + 0 ≤ 24; omega)
      exact ⟨x, y⟩

end Go.Proofs.YtcbojffcnlkejaaGreatDoor

/- Plain mathematics: nothing stands deeper than it may: all lines. -/
namespace Go.Proofs.YtcbojffcnlkejaaGreatDoor

theorem low_closeAt {s : St} {n : Nat} (hn : s.opens.length = n + 2) (hc : ∀ c, s.opens[n]? = some c → c.isC = true) (hl : Low s) : Low s.close ∧ Dp s.close ≤ Dp s := by
  obtain ⟨X, q, p, e1, e2, e3⟩ := close_form hn
  have hqc : q.isC = true := hc q (by rw [e1, List.getElem?_append_left (by simp; omega), ← e3]; simp)
  have hp : p.low := hl p (by rw [e1]; simp)
  refine ⟨fun x hx => ?_, ?_⟩
  · rw [e2] at hx
    rcases List.mem_append.1 hx with q1 | q1
    · exact hl x (by rw [e1]; simp [q1])
    · simp at q1
      rw [q1]
      exact hold_islow _ _ hqc
  · have a := hold_low hqc (off_low hp s.defs)
    have c := (hold_val hqc (St.takeOff p s.defs).1).2.2
    have d := off_val p s.defs
    unfold Dp
    rw [e2, e1, dp_append, dp_append, dp_append, dp_one, dp_one, dp_one, c, cnt_snoc]
    omega
theorem goes_low (n : Nat) (f : Bool) (σ : Pl) {p : Part} (h : p.low) : (p.goesOn n f σ).2.1.low := by
  cases p with
  | quote b => simp only [Part.goesOn]; split <;> trivial
  | item b w => simp only [Part.goesOn]; repeat' split
                all_goals trivial
  | _ => exact h
theorem takes_low (n : Nat) (σ : Pl) {p : Part} (h : p.low) : (p.takes endsX n σ).2.2.1.low := by
  cases p with
  | fenced b c k i t => simp only [Part.takes]; split <;> trivial
  | indented b => simp only [Part.takes]; split <;> trivial
  | html b k => simp only [Part.takes]; split <;> trivial
  | _ => exact h
theorem goF_low (n len : Nat) : ∀ (l : List Part) (i : Nat) (σ : Pl), (∀ p ∈ l, p.low) → ∀ p ∈ (goF n len l i σ).1, p.low
  | [], i, σ, _, p, hp => by cases hp
  | q :: r, i, σ, h, p, hp => by
    have hq := h q (List.mem_cons_self ..)
    have hr : ∀ p ∈ r, p.low := fun x hx => h x (List.mem_cons_of_mem _ hx)
    simp only [goF] at hp
    split at hp
    · rcases List.mem_cons.1 hp with e | e
      · rw [e]; exact hq
      · exact goF_low n len r (i + 1) σ hr p e
    · split at hp
      · rcases List.mem_cons.1 hp with e | e
        · rw [e]; exact goes_low _ _ _ hq
        · exact hr p e
      · rcases List.mem_cons.1 hp with e | e
        · rw [e]; exact goes_low _ _ _ hq
        · exact goF_low n len r (i + 1) _ hr p e

theorem low_goOn {B N n : Nat} {s : St} (h : Wf B N s) (σ : Pl) (hl : Low s) (hd : Dp s ≤ 24) : Low (s.goOn endsX n σ).2.1 ∧ Dp (s.goOn endsX n σ).2.1 ≤ 24 := by
  obtain ⟨o, τ, e, hg⟩ : ∃ o τ e, goF n s.opens.length s.opens 0 σ = (o, τ, e) := ⟨_, _, _, rfl⟩
  have hv := goF_val n s.opens.length s.opens 0 σ
  have hm := goF_C n s.opens.length s.opens 0 σ
  have hol := goF_len n s.opens.length s.opens 0 σ
  have hlo := goF_low n s.opens.length s.opens 0 σ hl
  rw [hg] at hv hm hol hlo
  have hD : ∀ on df, Dp ⟨o, on, df⟩ = Dp s := fun on df => dp_same hv
  cases e with
  | some j => rw [goOn_some hg]; exact ⟨hlo, by rw [show Dp _ = Dp s from hD _ _]; exact hd⟩
  | none =>
    obtain ⟨p, hp⟩ : ∃ p, o.getLast? = some p := by
      obtain ⟨m, q, hq, _⟩ := h.last
      cases hq2 : o.getLast? with
      | none => rw [List.getLast?_eq_none_iff] at hq2; have : o.length = s.opens.length := hol; rw [hq2, hq] at this; simp at this
      | some p => exact ⟨p, rfl⟩
    cases hll : p.isLined
    · rw [goOn_stay hg hp hll]; exact ⟨hlo, by rw [show Dp _ = Dp s from hD _ _]; exact hd⟩
    · rw [goOn_takes hg hp hll]
      have hs : Dp { s with opens := o.dropLast ++ [(p.takes endsX n τ).2.2.1], on := o.length } = Dp s := by
        have := dp_set (s := ⟨o, o.length, s.defs⟩) hp (takes_val n τ p) o.length s.defs
        exact this.trans (hD _ _)
      have hpl : p.low := hlo p (List.mem_of_getLast? hp)
      have hsl : Low { s with opens := o.dropLast ++ [(p.takes endsX n τ).2.2.1], on := o.length } := low_set (s := ⟨o, o.length, s.defs⟩) hp hlo (takes_low n τ hpl) o.length s.defs
      simp only
      split
      · exact ⟨hsl, by rw [hs]; exact hd⟩
      · have hc : p.isC = false := by cases p <;> first | rfl | (cases hll; done)
        have hgl := goF_last n _ _ _ _ p (by rw [hg]; exact hp) hc
        have h2 : 2 ≤ s.opens.length := h.two hgl (by cases p <;> first | rfl | (cases hll; done))
        have hol : o.length = s.opens.length := hol
        obtain ⟨m, hmm⟩ : ∃ m, o.length = m + 2 := ⟨o.length - 2, by omega⟩
        obtain ⟨x, y⟩ := low_closeAt (s := { s with opens := o.dropLast ++ [(p.takes endsX n τ).2.2.1], on := o.length }) (n := m) (by show (o.dropLast ++ [_]).length = m + 2; rw [List.length_append, List.length_dropLast, hmm]; rfl) (fun c hcc => by
          have hcc : (o.dropLast ++ [(p.takes endsX n τ).2.2.1])[m]? = some c := hcc
          rw [List.getElem?_append_left (by rw [List.length_dropLast]; omega), List.getElem?_dropLast, if_pos (by omega)] at hcc
          have hm : o.map Part.isC = s.opens.map Part.isC := hm
          have h1 : (o.map Part.isC)[m]? = some c.isC := by rw [List.getElem?_map, hcc]; rfl
          rw [hm, List.getElem?_map] at h1
          obtain ⟨c', hc', e⟩ : ∃ c', s.opens[m]? = some c' ∧ c'.isC = c.isC := by
            cases hq : s.opens[m]? with
            | none => rw [hq] at h1; cases h1
            | some c' => rw [hq] at h1; exact ⟨c', rfl, by simpa using h1⟩
          rw [← e]
          exact h.cont m c' hc' (by omega)) hsl
        exact ⟨x, by rw [hs] at y; omega⟩

theorem low_begins : ∀ (f n B L : Nat) (s : St) (σ : Pl), RunL n s σ B L → B + 2 * f + 3 * (L + 1) + 3 ≤ 549755813888 → L ≤ 2147483648 → Low s → Dp s ≤ 24 → Low (St.beginsF htmlL endsX n f s σ).2.1 ∧ Dp (St.beginsF htmlL endsX n f s σ).2.1 ≤ 24
  | 0, n, B, L, s, σ, h, _, _, hl, hd => ⟨hl, hd⟩
  | f + 1, n, B, L, s, σ, h, hB, hL, hl, hd => by
    obtain ⟨⟨N, hw⟩, hr⟩ := h.wf
    obtain ⟨x, y⟩ := low_begin (n := n) (σ := σ) hw hr hl hd
    by_cases h0 : (s.begin' n σ).1 = 0
    · rw [begins_zero h0]
      obtain ⟨a, _⟩ := run_begin h (by omega) hL h0
      exact low_begins f n (B + 2) L _ _ a (by omega) hL x y
    · rw [begins_else h0]
      exact ⟨x, y⟩
theorem low_read {n B : Nat} {s : St} (h : Run n s B) (l : Str) (hl : l.length ≤ 536870912) (hB : B + 100 * l.length + 100 ≤ 549755813888) (hlo : Low s) (hd : Dp s ≤ 24) : Low (s.read' n l) ∧ Dp (s.read' n l) ≤ 24 := by
  obtain ⟨⟨N, hw⟩, hs⟩ := h.wf
  obtain ⟨g1, g2⟩ := low_goOn (n := n) hw (l, 0, 0) hlo hd
  obtain ⟨a1, a2, a3, a4⟩ := goOn_after (n := n) (σ := ((l, 0, 0) : Pl)) hw hs
  have hwt : wt ((l, 0, 0) : Pl) ≤ 4 * l.length := by unfold wt; simp only; omega
  have hfu := fuel_le (Nat.le_trans a4 hwt)
  rw [read_eq]
  rcases a2 with e | e
  · rw [if_pos e]
    have hR := run_go h l hl (by simp only [lineK]; omega) e
    obtain ⟨_, y⟩ := dp_begins (St.fuel (s.goOn endsX n (l, 0, 0)).2.2) n _ _ _ _ hR (by omega) (by omega)
    obtain ⟨x1, x2⟩ := low_begins (St.fuel (s.goOn endsX n (l, 0, 0)).2.2) n _ _ _ _ hR (by omega) (by omega) g1 g2
    by_cases h1 : (St.beginsF htmlL endsX n (St.fuel (s.goOn endsX n (l, 0, 0)).2.2) (s.goOn endsX n (l, 0, 0)).2.1 (s.goOn endsX n (l, 0, 0)).2.2).1 = 1
    · rw [if_pos h1]
      obtain ⟨B', N', w', r'⟩ := y h1
      exact low_text w' r' x1 x2
    · rw [if_neg h1]
      exact ⟨x1, x2⟩
  · rw [if_neg (by rw [e]; decide), if_neg (by rw [e]; decide)]
    exact ⟨g1, g2⟩
theorem low_readAll : ∀ (ls : List Str) (n B : Nat) (s : St), Run n s B → (∀ l ∈ ls, l.length ≤ 536870912) → B + costL ls ≤ 549755813888 → Low s → Dp s ≤ 24 → Low (St.readAll htmlL endsX n s ls) ∧ Dp (St.readAll htmlL endsX n s ls) ≤ 24
  | [], n, B, s, h, _, _, hl, hd => ⟨hl, hd⟩
  | l :: r, n, B, s, h, hls, hB, hl, hd => by
    have hll := hls l (List.mem_cons_self ..)
    simp only [costL] at hB
    obtain ⟨x, y⟩ := low_read h l hll (by omega) hl hd
    have h2 := run_read h l hll (by simp only [lineK]; omega)
    simp only [lineK] at h2
    exact low_readAll r (n + 1) _ (s.read' n l) h2 (fun x hx => hls x (List.mem_cons_of_mem _ hx)) (by omega) x y

/-- Nothing that is told stands deeper than twenty-four. -/
theorem parse_deep (ls : List Str) (hl : ∀ l ∈ ls, l.length ≤ 536870912) (hc : costL ls ≤ 1000000000) : (St.parse htmlL endsX ls).1.deep ≤ 24 := by
  rw [parse_told]
  obtain ⟨a, B', b, c⟩ := dp_readAll ls 0 1 St.start run_start hl (by omega)
  obtain ⟨x, y⟩ := low_readAll ls 0 1 St.start run_start hl (by omega) (fun p hp => by
    have : p = .doc { first := 0, last := 0 } := by simpa [St.start] using hp
    rw [this]; trivial) (by decide)
  obtain ⟨⟨N, hw⟩, _⟩ := c.wf
  generalize St.readAll htmlL endsX 0 St.start ls = s at *
  obtain ⟨z, hz⟩ := hw.doc
  have hpos := (List.getElem?_eq_some_iff.1 hz).1
  obtain ⟨_, h1, _⟩ := low_leave _ B' N ({ s with on := 1 } : St) rfl (hw.onTo 1 hpos) (Nat.le_refl _) x
  have hl1 := leave_len _ ({ s with on := 1 } : St) rfl rfl hpos
  obtain ⟨N1, w1, _⟩ := leave_wf _ B' N ({ s with on := 1 } : St) rfl (hw.onTo 1 hpos) (Nat.le_refl _)
  have h1 : Dp (St.leave { s with on := 1 }) ≤ Dp s := h1
  unfold toldS
  generalize St.leave ({ s with on := 1 } : St) = S at *
  obtain ⟨q, hq⟩ := w1.doc
  have hS : S.opens = [.doc q] := by
    obtain ⟨a, ha⟩ := List.length_eq_one_iff.1 hl1
    rw [ha] at hq ⊢
    simp at hq
    rw [hq]
  rw [hS]
  have h3 : Dp S = max (0 + 0 + q.kids.deep) 0 := by unfold Dp; rw [hS]; rfl
  show q.kids.deep ≤ 24
  omega

end Go.Proofs.YtcbojffcnlkejaaGreatDoor

/- Plain mathematics: what stands in an item is what it is. -/
namespace Go.Proofs.YtcbojffcnlkejaaGreatDoor

theorem endC_blanks (l : Str) : ∀ (w c : Nat), endC (List.replicate w 32 ++ l) c = endC l (c + w)
  | 0, c => rfl
  | w + 1, c => by
    show endC (List.replicate w 32 ++ l) (c + 1) = _
    rw [endC_blanks l w (c + 1), show c + 1 + w = c + (w + 1) by omega]
theorem endC_ge : ∀ (l : Str) (c : Nat), c ≤ endC l c
  | [], c => Nat.le_refl _
  | b :: t, c => by
    unfold endC
    split
    · exact Nat.le_trans (Nat.le_add_right _ _) (endC_ge t _)
    · exact Nat.le_refl _
theorem ind_blanks (l : Str) (w : Nat) : w ≤ indR ((List.replicate w 32 ++ l, 0, 0) : Pl) := by
  unfold indR
  simp only
  rw [endC_blanks]
  have := endC_ge l (0 + 0 + w)
  omega
theorem skip_blanks (l : Str) : ∀ (w c : Nat), skipR w ((List.replicate w 32 ++ l, 0, c) : Pl) = (l, 0, c + w)
  | 0, c => rfl
  | w + 1, c => by
    show skipR w ((List.replicate w 32 ++ l, 0, c + 1) : Pl) = _
    rw [skip_blanks l w (c + 1), show c + 1 + w = c + (w + 1) by omega]

abbrev iL (w : Nat) (l : Str) : Str := List.replicate w 32 ++ l

theorem item_ahead (b0 b1 : Box) (m : Mk) (w n : Nat) (s' : St) (l : Str) : Ahead (.item w) [.doc b0, .list b1 m] n w s' (iL w l) l := by
  intro c r e hk
  obtain ⟨b, rfl⟩ := hk
  refine ⟨.item b w, rfl, ⟨b, rfl⟩, ?_⟩
  rw [e]
  generalize ([Part.doc b0, .list b1 m] ++ Part.item b w :: r).length = q
  have hg : ∀ f, (Part.item b w).goesOn n f ((iL w l, 0, 0) : Pl) = (true, .item b w, (l, 0, w)) := fun f => by
    have h2 : skipR w ((iL w l, 0, 0) : Pl) = (l, 0, w) := by have := skip_blanks l w 0; rwa [Nat.zero_add] at this
    simp only [Part.goesOn]
    rw [if_pos (ind_blanks l w), h2]
  have g1 : ∀ (X : List Part) (σ : Pl), goF n q ([.doc b0, .list b1 m] ++ X) 0 σ = ([.doc b0, .list b1 m] ++ (goF n q X 2 σ).1, (goF n q X 2 σ).2) := fun X σ => rfl
  have g2 : goF n q (Part.item b w :: r) 2 ((iL w l, 0, 0) : Pl) = (.item b w :: (goF n q r 3 ((l, 0, w) : Pl)).1, (goF n q r 3 ((l, 0, w) : Pl)).2) := by
    conv => lhs; unfold goF
    rw [if_neg (by simp [Part.isC]), hg, if_neg (by simp)]
  rw [g1, g2]
  rfl

theorem first_item (f : Str) (m : Mk) (l : Str) (hf1 : 1 ≤ f.length ∧ f.length ≤ 20) (hb : (docS d00 1 []).begin' 0 (f ++ l, 0, 0) = (0, ⟨[.doc d00, .list d00 m, .item d00 f.length], 3, []⟩, (l, 0, f.length))) (hl : l.length ≤ 500000000) (h9 : ∀ c ∈ l, c ≠ 9) (ho : Dp (St.start.read' 0 l) ≤ 22) : NR (.item f.length) [.doc d00, .list d00 m] (St.start.read' 0 l) (St.start.read' 0 (f ++ l)) := by
  have hg : St.start.goOn endsX 0 (l, 0, 0) = (0, docS d00 1 [], (l, 0, 0)) := go_doc 0 d00 0 [] _
  have hg' : St.start.goOn endsX 0 (f ++ l, 0, 0) = (0, docS d00 1 [], (f ++ l, 0, 0)) := go_doc 0 d00 0 [] _
  have hR := run_go run_start l (by omega) (by simp only [lineK]; omega) (by rw [hg])
  rw [hg] at hR
  have hR : RunL 0 (docS d00 1 []) (l, 0, 0) (1 + 3 * (4 * l.length + 1)) (4 * l.length) := hR
  have hmu : mu (docS d00 1 []) (l, 0, 0) ≤ 2 * l.length := by
    unfold mu
    show 2 * l.length + 0 ≤ _
    omega
  obtain ⟨F, hF⟩ : ∃ F, F = 2 * l.length + 2 * f.length + 1 := ⟨_, rfl⟩
  have hfu := begins_fuel (St.fuel ((l, 0, 0) : Pl)) F 0 _ _ _ _ hR (by unfold St.fuel; simp only; omega) (by omega) (by unfold St.fuel; simp only; omega) (by omega)
  have hf2 : St.fuel ((f ++ l, 0, 0) : Pl) = F + 1 := by
    unfold St.fuel
    simp only [List.length_append]
    omega
  have hN : NR (.item f.length) [.doc d00, .list d00 m] (docS d00 1 []) ⟨[.doc d00, .list d00 m, .item d00 f.length], 3, []⟩ := ⟨⟨d00, .item d00 f.length, [], rfl, rfl, rfl, ⟨_, rfl⟩⟩, rfl, rfl, Nat.le_refl _⟩
  have hpq : PQ f.length ((l, 0, 0) : Pl) ((l, 0, f.length) : Pl) := ⟨rfl, rfl, rfl, by simp, h9⟩
  have r1 : St.start.read' 0 l = if (St.beginsF htmlL endsX 0 F (docS d00 1 []) (l, 0, 0)).1 = 1 then (St.beginsF htmlL endsX 0 F (docS d00 1 []) (l, 0, 0)).2.1.text 0 (St.beginsF htmlL endsX 0 F (docS d00 1 []) (l, 0, 0)).2.2 else (St.beginsF htmlL endsX 0 F (docS d00 1 []) (l, 0, 0)).2.1 := by
    rw [read_eq, hg, if_pos rfl]
    simp only
    rw [hfu]
  obtain ⟨S0, hS0⟩ : ∃ S0 : St, S0 = ⟨[.doc d00, .list d00 m, .item d00 f.length], 3, []⟩ := ⟨_, rfl⟩
  rw [← hS0] at hb hN
  have r2 : St.start.read' 0 (f ++ l) = if (St.beginsF htmlL endsX 0 F S0 (l, 0, f.length)).1 = 1 then (St.beginsF htmlL endsX 0 F S0 (l, 0, f.length)).2.1.text 0 (St.beginsF htmlL endsX 0 F S0 (l, 0, f.length)).2.2 else (St.beginsF htmlL endsX 0 F S0 (l, 0, f.length)).2.1 := by
    have hb2 : St.beginsF htmlL endsX 0 (F + 1) (docS d00 1 []) (f ++ l, 0, 0) = St.beginsF htmlL endsX 0 F S0 (l, 0, f.length) := by
      rw [begins_zero (by rw [hb]), hb]
    rw [read_eq, hg', if_pos rfl]
    simp only
    rw [hf2, hb2]
  rw [r1] at ho
  rw [r1, r2]
  obtain ⟨x, y⟩ := dp_begins F 0 _ _ _ _ hR (by omega) (by omega)
  have hob : Dp (St.beginsF htmlL endsX 0 F (docS d00 1 []) (l, 0, 0)).2.1 ≤ 22 := by
    by_cases h1 : (St.beginsF htmlL endsX 0 F (docS d00 1 []) (l, 0, 0)).1 = 1
    · rw [if_pos h1] at ho
      obtain ⟨B', N', w', r'⟩ := y h1
      exact Nat.le_trans (dp_text w' r') ho
    · rw [if_neg h1] at ho
      exact ho
  obtain ⟨b1, b2, b3⟩ := begins_nest2 (P := [.doc d00, .list d00 m]) rfl f.length _ 0 _ _ hR (by omega) (by omega) hN hpq hob
  rw [b1]
  by_cases h1 : (St.beginsF htmlL endsX 0 F (docS d00 1 []) (l, 0, 0)).1 = 1
  · rw [if_pos h1, if_pos h1]
    exact text_nest b2 b3
  · rw [if_neg h1, if_neg h1]
    exact b2

theorem told_item {b0 b1 : Box} {m : Mk} {w : Nat} {s s' : St} (h : NR (.item w) [.doc b0, .list b1 m] s s') (hk : b0.kids = .nil) (hk1 : b1.kids = .nil) : ∃ i : BI, i.kind = 2 ∧ toldS s' = (.cons i (.cons { kind := 3 } (toldS s).1 .nil) .nil, (toldS s).2) := by
  have hT : NR (.item w) [.doc b0, .list b1 m] ({ s with on := 1 } : St) ({ s' with on := 3 } : St) := ⟨h.ex, rfl, h.defs, Nat.le_refl _⟩
  have hL := hT.leave
  have hpos : 1 ≤ s.opens.length := by obtain ⟨d, c, r, e1, _⟩ := h.ex; rw [e1]; simp
  have hl1 := leave_len _ ({ s with on := 1 } : St) rfl rfl hpos
  have ht := leave_to _ s' 1 3 rfl (Nat.le_refl _) (by omega)
  unfold toldS
  rw [ht]
  generalize St.leave ({ s with on := 1 } : St) = S at *
  generalize St.leave ({ s' with on := 3 } : St) = S' at *
  obtain ⟨d, c, r, e1, e2, e3, b, rfl⟩ := hL.ex
  have hr : r = [] := by rw [e1] at hl1; simpa using hl1
  subst hr
  have e3 : b.kids = d.kids := e3
  have hcl : St.close { S' with on := 1 } = ⟨[.doc b0, (Part.list b1 m).hold (.item b w)], 1, S'.defs⟩ := by
    unfold St.close
    rw [e2]
    rfl
  have hcl2 : St.close ⟨[.doc b0, (Part.list b1 m).hold (.item b w)], 1, S'.defs⟩ = ⟨[.doc (b0.hold ((Part.list b1 m).hold (.item b w)))], 1, S'.defs⟩ := rfl
  have hlv : St.leave { S' with on := 1 } = ⟨[.doc (b0.hold ((Part.list b1 m).hold (.item b w)))], 1, S'.defs⟩ := by
    rw [leave_next (s := { S' with on := 1 }) (by show 1 < S'.opens.length; rw [e2]; simp) (by rw [hcl]; show 2 = S'.opens.length - 1; rw [e2]; rfl), hcl]
    rw [leave_next (s := ⟨[.doc b0, (Part.list b1 m).hold (.item b w)], 1, S'.defs⟩) (by show 1 < 2; omega) (by rw [hcl2]; rfl), hcl2]
    rfl
  rw [hlv, e1]
  simp only
  rw [hL.defs]
  have hkid : (b0.hold ((Part.list b1 m).hold (.item b w))).kids = b0.kids.snoc { kind := 2, ordered := ordB m.sign, start := m.number, tight := !((b1.hold (.item b w)).gap || itemGap (.item b w)) } (b1.kids.snoc { kind := 3 } b.kids) := rfl
  rw [hkid, hk, hk1, e3]
  exact ⟨_, rfl, rfl⟩

theorem items_parse (f : Str) (m : Mk) (l : Str) (r : List Str) (hf1 : 1 ≤ f.length ∧ f.length ≤ 20) (hb : (docS d00 1 []).begin' 0 (f ++ l, 0, 0) = (0, ⟨[.doc d00, .list d00 m, .item d00 f.length], 3, []⟩, (l, 0, f.length))) (hl : ∀ x ∈ l :: r, x.length ≤ 500000000) (hc : costL (l :: r) ≤ 1000000000) (h9 : ∀ x ∈ l :: r, ∀ c ∈ x, c ≠ 9) (hd : (St.parse htmlL endsX (l :: r)).1.deep ≤ 22) :
    ∃ i : BI, i.kind = 2 ∧ St.parse htmlL endsX ((f ++ l) :: r.map (iL f.length)) = (.cons i (.cons { kind := 3 } (St.parse htmlL endsX (l :: r)).1 .nil) .nil, (St.parse htmlL endsX (l :: r)).2) := by
  rw [parse_told] at hd ⊢
  rw [parse_told]
  have hl5 : ∀ x ∈ l :: r, x.length ≤ 536870912 := fun x hx => by have := hl x hx; omega
  obtain ⟨a, B', b, c⟩ := dp_readAll (l :: r) 0 1 St.start run_start hl5 (by omega)
  have ho : Dp (St.readAll htmlL endsX 0 St.start (l :: r)) ≤ 22 := Nat.le_trans (dp_told c) hd
  refine told_item (b0 := d00) (b1 := d00) (m := m) (w := f.length) ?_ rfl rfl
  have hll := hl l (List.mem_cons_self ..)
  have hl2 : ∀ x ∈ r, x.length ≤ 536870912 := fun x hx => hl5 x (List.mem_cons_of_mem _ hx)
  have h2 := run_read run_start l (by omega) (by simp only [lineK]; omega)
  simp only [lineK] at h2
  simp only [costL] at hc
  have ho : Dp (St.readAll htmlL endsX 1 (St.start.read' 0 l) r) ≤ 22 := ho
  have hdd := (dp_readAll r 1 _ (St.start.read' 0 l) h2 hl2 (by omega)).1
  have hf := first_item f m l hf1 hb hll (h9 l (List.mem_cons_self ..)) (Nat.le_trans hdd ho)
  exact all_nest (P := [.doc d00, .list d00 m]) (show Rooms [.doc d00, .list d00 m] from rfl) (iL f.length) (fun n s' l => item_ahead d00 d00 m f.length n s' l) r 1 _ (St.start.read' 0 l) (St.start.read' 0 (f ++ l)) h2 hl2 (by omega) (fun x hx => h9 x (List.mem_cons_of_mem _ hx)) hf ho

end Go.Proofs.YtcbojffcnlkejaaGreatDoor

/- Plain mathematics: which lines begin an item. -/
namespace Go.Proofs.YtcbojffcnlkejaaGreatDoor

/-- The markers. -/
def markT : Nat → Str
  | 0 => [45]
  | 1 => [43]
  | 2 => [42]
  | 3 => [49, 46]
  | 4 => [55, 41]
  | _ => [49, 50, 51, 52, 53, 54, 55, 56, 57, 46]
abbrev firstT (i k : Nat) : Str := markT i ++ List.replicate (k + 1) 32

theorem rule_first (t : Str) (i k : Nat) (hi : i < 6) : ruleL (beh (firstT i k ++ 97 :: t)) = false := by
  have hi' : i = 0 ∨ i = 1 ∨ i = 2 ∨ i = 3 ∨ i = 4 ∨ i = 5 := by omega
  rcases hi' with rfl | rfl | rfl | rfl | rfl | rfl
  · exact rule_not (b := 45) (t := List.replicate (k + 1) 32 ++ 97 :: t) ⟨97, by simp, by decide, by decide⟩
  · exact rule_not (b := 43) (t := List.replicate (k + 1) 32 ++ 97 :: t) ⟨97, by simp, by decide, by decide⟩
  · exact rule_not (b := 42) (t := List.replicate (k + 1) 32 ++ 97 :: t) ⟨97, by simp, by decide, by decide⟩
  · exact rule_not (b := 49) (t := 46 :: (List.replicate (k + 1) 32 ++ 97 :: t)) ⟨97, by simp, by decide, by decide⟩
  · exact rule_not (b := 55) (t := 41 :: (List.replicate (k + 1) 32 ++ 97 :: t)) ⟨97, by simp, by decide, by decide⟩
  · exact rule_not (b := 49) (t := 50 :: 51 :: 52 :: 53 :: 54 :: 55 :: 56 :: 57 :: 46 :: (List.replicate (k + 1) 32 ++ 97 :: t)) ⟨97, by simp, by decide, by decide⟩

set_option maxHeartbeats 8000000 in
set_option maxRecDepth 20000 in
theorem item_begin (t : Str) (i k : Nat) (hi : i < 6) (hk : k < 4) : ∃ m, (docS d00 1 []).begin' 0 (firstT i k ++ 97 :: t, 0, 0) = (0, ⟨[.doc d00, .list d00 m, .item d00 (firstT i k).length], 3, []⟩, (97 :: t, 0, (firstT i k).length)) := by
  have hr := rule_first t i k hi
  have hi' : i = 0 ∨ i = 1 ∨ i = 2 ∨ i = 3 ∨ i = 4 ∨ i = 5 := by omega
  have hk' : k = 0 ∨ k = 1 ∨ k = 2 ∨ k = 3 := by omega
  have key : ∀ (i k : Nat) (L : Str), L = firstT i k ++ 97 :: t → ruleL (beh L) = false → indR ((L, 0, 0) : Pl) = 0 → (nextB ((L, 0, 0) : Pl) == 62) = false → (headL (beh L)).1 = 0 → (fenceL (beh L)).2.1 = 0 → htmlL (beh L) = 0 → decide (0 < (St.markOf (beh L)).size) = true → ((docS d00 1 []).beginItem 0 ((L, 0, 0) : Pl) (St.markOf (beh L))) = (⟨[.doc d00, .list d00 (St.markOf (beh L)), .item d00 (firstT i k).length], 3, []⟩, (97 :: t, 0, (firstT i k).length)) → ∃ m, (docS d00 1 []).begin' 0 (firstT i k ++ 97 :: t, 0, 0) = (0, ⟨[.doc d00, .list d00 m, .item d00 (firstT i k).length], 3, []⟩, (97 :: t, 0, (firstT i k).length)) := by
    intro i k L hL h1 h2 h3 h4 h5 h6 h7 h8
    subst hL
    refine ⟨St.markOf (beh (firstT i k ++ 97 :: t)), (begin_item (s := docS d00 1 []) (n := 0) (σ := (firstT i k ++ 97 :: t, 0, 0)) h2 h3 h4 h5 h6 rfl h1 h7 rfl).trans ?_⟩
    rw [h8]
  rcases hi' with rfl | rfl | rfl | rfl | rfl | rfl <;> rcases hk' with rfl | rfl | rfl | rfl <;> exact key _ _ _ rfl hr rfl rfl rfl rfl rfl rfl rfl

end Go.Proofs.YtcbojffcnlkejaaGreatDoor
