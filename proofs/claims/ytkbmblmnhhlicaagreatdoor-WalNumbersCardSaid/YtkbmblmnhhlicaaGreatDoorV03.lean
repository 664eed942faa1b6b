/- Several texts in one. -/
import Derived.Test.YtkbmblmnhhlicaaGreatDoorVName
import Derived.Deep.RegionWith
import Derived.BigRegion
import Derived.Maps.AppendAt
set_option linter.unusedVariables false
/- A log in memory; its last segment; walked. -/
namespace Go.Proofs.YtkbmblmnhhlicaaGreatDoor
open Go.RowKit

abbrev Sgs := List (Sg × Value)
def sgCells (q : Sgs) : List Value := q.flatMap fun x => [.int .i64 (x.1.num : Int), x.2]
theorem sgCells_len (q : Sgs) : (sgCells q).length = q.length * 2 := by
  induction q with
  | nil => rfl
  | cons x q ih => simp [sgCells] at ih ⊢; omega
theorem sgCells_append (q r : Sgs) : sgCells (q ++ r) = sgCells q ++ sgCells r := by simp [sgCells]
theorem sgCells_at : ∀ (q : Sgs) (i : Nat) (x : Sg × Value), q[i]? = some x → (sgCells q)[i * 2]? = some (.int .i64 (x.1.num : Int)) ∧ (sgCells q)[i * 2 + 1]? = some x.2
  | [], i, x, h => by simp at h
  | y :: q, 0, x, h => by simp at h; subst h; simp [sgCells]
  | y :: q, i + 1, x, h => by
    have ih := sgCells_at q i x (by simpa using h)
    have e : sgCells (y :: q) = .int .i64 (y.1.num : Int) :: y.2 :: sgCells q := rfl
    rw [e, show (i + 1) * 2 = i * 2 + 1 + 1 by omega]
    simpa using ih
theorem sgCells_take : ∀ (q : Sgs) (k : Nat), (sgCells q).take (k * 2) = sgCells (q.take k)
  | [], k => by simp [sgCells]
  | x :: q, 0 => by simp [sgCells]
  | x :: q, k + 1 => by
    have e : sgCells (x :: q) = .int .i64 (x.1.num : Int) :: x.2 :: sgCells q := rfl
    rw [e, show (k + 1) * 2 = k * 2 + 1 + 1 by omega, List.take_succ_cons, List.take_succ_cons, sgCells_take q k]
    rfl

abbrev OwnQ (w : World) (B : Nat) (v : Value) (q : Sgs) : Prop := w.ownsRow B 101 2 v q.length (sgCells q)

/-- Block p holds a log on the disk in block b, with the segments q; its blocks are T's. -/
structure LgW (w : World) (p b : Nat) (T : Nat → Prop) (vs : Value) (q : Sgs) : Prop where
  blk : w.heap[p]? = some (.cells #[dptr b, vs] 99 (0, 0))
  row : OwnQ w 0 vs q
  pls : ∀ x ∈ q, OwnI w 0 x.2 x.1.pl
  apart : q.Pairwise (fun x y => x.2.ownBlock ≠ y.2.ownBlock)
  tp : T p
  tr : ∀ g, vs.ownBlock = some g → T g
  ts : ∀ x ∈ q, ∀ g, x.2.ownBlock = some g → T g
  lt : ∀ k, T k → k < w.heap.size
  ne : ∀ x ∈ q, x.1.pl ≠ []
  num : ∀ x ∈ q, x.1.num ≤ 999999
  len : ∀ x ∈ q, x.1.pl.length ≤ 1099511627777
  few : q.length ≤ 1048576

theorem ownQ_keep {w w' : World} {B : Nat} {v : Value} {q : Sgs} (h : OwnQ w B v q) (hk : ∀ g, v.ownBlock = some g → w'.heap[g]? = w.heap[g]?) : OwnQ w' B v q := by
  refine ⟨h.1, ?_⟩
  rcases h.2 with hn | ⟨g, cap, cur, hv, hB, hgg, rest⟩
  · exact .inl hn
  · exact .inr ⟨g, cap, cur, hv, hB, (hk g (by rw [hv]; rfl)).trans hgg, rest⟩
theorem LgW.keep {w w' : World} {p b : Nat} {T : Nat → Prop} {vs : Value} {q : Sgs} (h : LgW w p b T vs q) (hs : w.heap.size ≤ w'.heap.size) (hk : ∀ k, T k → w'.heap[k]? = w.heap[k]?) : LgW w' p b T vs q :=
  { h with
    blk := (hk p h.tp).trans h.blk
    row := ownQ_keep h.row (fun g hg => hk g (h.tr g hg))
    pls := fun x hx => ownI_keep (h.pls x hx) (fun g hg => hk g (h.ts x hx g hg))
    lt := fun k hk' => Nat.lt_of_lt_of_le (h.lt k hk') hs }
theorem LgW.below {w w' : World} {p b : Nat} {T : Nat → Prop} {vs : Value} {q : Sgs} (h : LgW w p b T vs q) (hb : Below w.heap.size w w') : LgW w' p b T vs q :=
  h.keep hb.size (fun k hk => hb.block k (h.lt k hk))
/-- The row of segments, where there is one. -/
theorem LgW.form {w : World} {p b : Nat} {T : Nat → Prop} {vs : Value} {q : Sgs} (h : LgW w p b T vs q) (hq : q ≠ []) : ∃ g c, vs = .slice (some ⟨g, 0, none⟩) q.length c ∧ q.length ≤ c ∧ T g ∧ c ≤ maxLen := by
  rcases h.row.2 with ⟨_, h0⟩ | ⟨g, cap, cur, rfl, hB, hg, h1, h2, h3, h4⟩
  · exact absurd (List.eq_nil_of_length_eq_zero h0) hq
  · exact ⟨g, cap, rfl, h1, h.tr g rfl, h2⟩
theorem LgW.at {w : World} {p b : Nat} {T : Nat → Prop} {g n c : Nat} {q : Sgs} (h : LgW w p b T (.slice (some ⟨g, 0, none⟩) n c) q) {i : Nat} {x : Sg × Value} (hi : q[i]? = some x) : w.cell? ⟨g, i * 2, none⟩ = some (.int .i64 (x.1.num : Int)) ∧ w.cell? ⟨g, i * 2 + 1, none⟩ = some x.2 := by
  obtain ⟨h0, h1⟩ := sgCells_at q i x hi
  have e0 := h.row.cells (g := g) rfl (i * 2) _ h0
  have e1 := h.row.cells (g := g) rfl (i * 2 + 1) _ h1
  rw [Addr.add_lit, Nat.zero_add] at e0 e1
  exact ⟨e0, e1⟩

set_option maxHeartbeats 2000000 in
set_option maxRecDepth 40000 in
theorem last_any {w : World} {p b : Nat} {T : Nat → Prop} {vs : Value} {q : Sgs} {x : Sg × Value} (h : LgW w p b T vs (q ++ [x])) :
    Calls Tryz.prog 64 #[dptr p] w fun e w' => e = .returned (sgV x.1.num x.2) ∧ Below w.heap.size w w' := by
  obtain ⟨g, c, rfl, hc, hT, _⟩ := h.form (by simp)
  obtain ⟨pg, pc, hx2, _⟩ := ownI_form (h.pls x (by simp)) (h.ne x (by simp))
  obtain ⟨a0, a1⟩ := h.at (i := q.length) (x := x) (by simp)
  have hfew := h.few
  have hgl := h.lt g hT
  have hp := h.blk
  obtain ⟨W, hW⟩ : ∃ W, W = w.alloc (.cells #[.int .i64 0, .slice none 0 0] 101) := ⟨_, rfl⟩
  have hbW : Below w.heap.size w W := by rw [hW]; exact (Below.refl _ w).alloc (Nat.le_refl _) _
  have hkW : W.heap[w.heap.size]? = some (.cells #[.int .i64 0, .slice none 0 0] 101 (0, 0)) := by rw [hW]; exact heap_alloc_new w _
  have c1 : W.cell? ⟨p, 1, none⟩ = some (.slice (some ⟨g, 0, none⟩) (q ++ [x]).length c) := by rw [hbW.cell (lt_blk hp)]; exact cell_blk hp rfl
  have c2 : W.cell? ⟨g, q.length * 2, none⟩ = some (.int .i64 (x.1.num : Int)) := by rw [hbW.cell hgl]; exact a0
  have c3 : W.cell? ⟨g, q.length * 2 + 1, none⟩ = some x.2 := by rw [hbW.cell hgl]; exact a1
  obtain ⟨xs, xv⟩ := x
  simp only at hx2 c3 ⊢
  subst hx2
  obtain ⟨n, hn⟩ : ∃ n, (q ++ [(xs, Value.slice (some ⟨pg, 0, none⟩) xs.pl.length pc)]).length = n := ⟨_, rfl⟩
  rw [hn] at c1
  have hn1 : n = q.length + 1 := by rw [← hn]; simp
  obtain ⟨Kq, hK⟩ : ∃ Kq, q.length = Kq := ⟨_, rfl⟩
  rw [hK] at c2 c3
  have e1 : (n : Int) - 1 = (Kq : Int) := by omega
  have b1 : (Kq : Int) < (n : Int) := by omega
  have b2 : (n : Int) ≤ 1048576 := by rw [List.length_append] at hfew; simp at hfew; omega
  have b3 : Kq < n := by omega
  obtain ⟨rb, hrb⟩ : ∃ rb, rb = w.heap.size := ⟨_, rfl⟩
  rw [← hrb] at hkW
  have r0 : W.cell? ⟨rb, 0, none⟩ = some (.int .i64 0) := cell_blk hkW rfl
  have r1 : W.cell? ⟨rb, 1, none⟩ = some (.slice none 0 0) := cell_blk hkW rfl
  have rf := free_blk hkW
  have HBW : Hid (Below w.heap.size w W) := hbW
  have HRB : Hid (rb = w.heap.size) := hrb
  have HKW : Hid (W.heap[rb]? = some (.cells #[.int .i64 0, .slice none 0 0] 101 (0, 0))) := hkW
  clear h hc hT a0 a1 hfew hgl hp hbW hkW hn hn1 hK
  go_enter Tryz.func64, Tryz.ntmps64
  go_wp2_with (fail)
  rw [← hW, ← hrb]
  clear hW hrb
  go_region
  obtain ⟨W3, hW3⟩ : ∃ W3, W3 = ((W.setCell ⟨rb, 0, none⟩ (.int .i64 (xs.num : Int))).setCell ⟨rb, 1, none⟩ (.slice (some ⟨pg, 0, none⟩) xs.pl.length pc)).drew := ⟨_, rfl⟩
  have h3 : W3.heap[rb]? = some (.cells #[.int .i64 (xs.num : Int), .slice (some ⟨pg, 0, none⟩) xs.pl.length pc] 101 (0, 0)) := by rw [hW3]; exact set_blk (set_blk HKW.out 0 _) 1 _
  have d0 : W3.cell? ⟨rb, 0, none⟩ = some (.int .i64 (xs.num : Int)) := cell_blk h3 rfl
  have d1 : W3.cell? ⟨rb, 1, none⟩ = some (.slice (some ⟨pg, 0, none⟩) xs.pl.length pc) := cell_blk h3 rfl
  have HB3 : Hid (Below w.heap.size w W3) := by
    show Below _ _ _
    rw [hW3]
    have hr := HRB.out
    refine below_drew ⟨HBW.out.os, HBW.out.tape, HBW.out.output, by rw [set_size, set_size]; exact HBW.out.size, fun k hk => ?_⟩
    rw [set_other _ (by omega), set_other _ (by omega)]
    exact HBW.out.block k hk
  rw [← hW3]
  clear h3 hW3 r0 r1 rf
  go_wp2_with (fail)
  refine bodyPost_ret (v := sgV xs.num (.slice (some ⟨pg, 0, none⟩) xs.pl.length pc)) ?_ rfl ⟨rfl, HB3.out⟩
  rw [results_cell1 rfl]
  go_simp
end Go.Proofs.YtkbmblmnhhlicaaGreatDoor

/- A log and its disk; First, Last, Sync; walked. -/
namespace Go.Proofs.YtkbmblmnhhlicaaGreatDoor
open Go.RowKit

/-- A log and its disk, all of a law's own. -/
structure Wl (w0 w : World) (b m : Nat) (S : Nat → Prop) (d : Dk) (p : Nat) (T : Nat → Prop) (vs : Value) (q : Sgs) : Prop where
  lv : Lv w0 w b m S d
  lg : LgW w p b T vs q
  ge : ∀ k, T k → w0.heap.size ≤ k
  ap : ∀ k, T k → ¬ S k
  tb : Tabs w0

/-- From one world to the next. -/
def StW (w : World) (S T : Nat → Prop) (w' : World) (S' T' : Nat → Prop) : Prop := Fr (fun k => S k ∨ T k) w w' ∧ ∀ k, (S' k ∨ T' k) → (S k ∨ T k) ∨ w.heap.size ≤ k
theorem StW.trans {w w1 w2 : World} {S T S1 T1 S2 T2 : Nat → Prop} (h : StW w S T w1 S1 T1) (k : StW w1 S1 T1 w2 S2 T2) : StW w S T w2 S2 T2 :=
  ⟨h.1.trans k.1 h.2, fun i hi => by
    rcases k.2 i hi with q | q
    · exact h.2 i q
    · exact .inr (Nat.le_trans h.1.size q)⟩
theorem StW.same {w w' : World} (S T : Nat → Prop) (hb : Below w.heap.size w w') : StW w S T w' S T := ⟨Fr.of_below _ hb, fun k hk => .inl hk⟩
theorem Wl.tabs {w0 w : World} {b m : Nat} {S : Nat → Prop} {d : Dk} {p : Nat} {T : Nat → Prop} {vs : Value} {q : Sgs} (h : Wl w0 w b m S d p T vs q) : Tabs w := h.tb.bel h.lv.below
theorem Wl.same {w0 w w' : World} {b m : Nat} {S : Nat → Prop} {d : Dk} {p : Nat} {T : Nat → Prop} {vs : Value} {q : Sgs} (h : Wl w0 w b m S d p T vs q) (hb : Below w.heap.size w w') : Wl w0 w' b m S d p T vs q :=
  ⟨h.lv.same hb, h.lg.below hb, h.ge, h.ap, h.tb⟩
/-- The disk alone is changed. -/
theorem Wl.disk {w0 w w' : World} {b m : Nat} {S S' : Nat → Prop} {d d' : Dk} {p : Nat} {T : Nat → Prop} {vs : Value} {q : Sgs} (h : Wl w0 w b m S d p T vs q) (hl : Lv w0 w' b m S' d') (hs : St w S w' S') : Wl w0 w' b m S' d' p T vs q ∧ StW w S T w' S' T := by
  refine ⟨⟨hl, h.lg.keep hs.1.size (fun k hk => hs.1.block k (h.lg.lt k hk) (h.ap k hk)), h.ge, fun k hk hS => ?_, h.tb⟩, ⟨hs.1.os, hs.1.tape, hs.1.output, hs.1.size, fun k hk hn => hs.1.block k hk (fun q => hn (.inl q))⟩, fun k hk => ?_⟩
  · rcases hs.2 k hS with q1 | q1
    · exact h.ap k hk q1
    · have := h.lg.lt k hk; omega
  · rcases hk with hk | hk
    · rcases hs.2 k hk with q1 | q1
      · exact .inl (.inl q1)
      · exact .inr q1
    · exact .inl (.inr hk)

set_option maxHeartbeats 1000000 in
set_option maxRecDepth 20000 in
theorem first_any {w : World} {p b : Nat} {T : Nat → Prop} {vs : Value} {q : Sgs} {x : Sg × Value} (h : LgW w p b T vs (x :: q)) :
    Calls Tryz.prog 21 #[dptr p] w fun e w' => e = .returned (.int .i64 (x.1.num : Int)) ∧ w' = w := by
  obtain ⟨g, c, rfl, hc, hT, _⟩ := h.form (by simp)
  obtain ⟨a0, a1⟩ := h.at (i := 0) (x := x) (by simp)
  have c1 : w.cell? ⟨p, 1, none⟩ = some (.slice (some ⟨g, 0, none⟩) (x :: q).length c) := cell_blk h.blk rfl
  rw [Nat.zero_mul] at a0
  obtain ⟨n, hn⟩ : ∃ n, (x :: q).length = n := ⟨_, rfl⟩
  rw [hn] at c1
  have b1 : (0 : Int) < (n : Int) := by rw [← hn]; simp
  have b2 : 0 < n := by omega
  clear h hc hT a1 hn
  go_enter Tryz.func21, Tryz.ntmps21
  go_wp2
  go_ret
  exact ⟨rfl, rfl⟩

def lastN (q : Sgs) : Nat := match q.getLast? with
  | some x => x.1.next
  | none => 1
theorem lastN_snoc (q : Sgs) (x : Sg × Value) : lastN (q ++ [x]) = x.1.next := by simp [lastN]

set_option maxHeartbeats 1000000 in
set_option maxRecDepth 20000 in
theorem lastn_any {w : World} {p b : Nat} {T : Nat → Prop} {vs : Value} {q : Sgs} {x : Sg × Value} (h : LgW w p b T vs (q ++ [x])) :
    Calls Tryz.prog 18 #[dptr p] w fun e w' => e = .returned (.int .i64 ((x.1.next : Int) - 1)) ∧ Below w.heap.size w w' := by
  have hL := last_any h
  obtain ⟨pg, pc, hx2, _⟩ := ownI_form (h.pls x (by simp)) (h.ne x (by simp))
  have hl1 : 1 ≤ x.1.pl.length := List.length_pos_iff.2 (h.ne x (by simp))
  have hnum := h.num x (by simp)
  have hlen := h.len x (by simp)
  obtain ⟨xs, xv⟩ := x
  simp only at hx2 hl1 hnum hlen
  subst hx2
  have hN : ∀ w, Calls Tryz.prog 67 #[sgV xs.num (.slice (some ⟨pg, 0, none⟩) xs.pl.length pc)] w fun e w' => e = .returned (.int .i64 (xs.next : Int)) ∧ Below w.heap.size w w' := fun w => next_any w xs.num _ _ _ (by omega) (by omega) (by omega)
  have hnx : xs.next ≤ 1099512627776 := by unfold Sg.next; omega
  have b1 : (xs.next : Int) ≤ 1099512627776 := by omega
  simp only
  clear h hl1 hnum hlen hnx
  go_enter Tryz.func18, Tryz.ntmps18
  go_wp2_with (fail)
  refine hL.mono ?_
  rintro e w1 ⟨rfl, hb⟩
  have HB : Hid (Below w.heap.size w w1) := hb
  clear hb hL
  go_wp2_with (fail)
  refine (hN _).mono ?_
  rintro e w2 ⟨rfl, hb⟩
  have HB2 : Hid (Below w.heap.size w w2) := HB.out.trans (hb.mono HB.out.size)
  clear hb hN HB
  go_wp2_with (fail)
  go_ret
  exact ⟨rfl, HB2.out⟩

set_option maxHeartbeats 4000000 in
set_option maxRecDepth 40000 in
theorem wsync_any {w0 w : World} {b m : Nat} {S : Nat → Prop} {d : Dk} {p : Nat} {T : Nat → Prop} {vs : Value} {q : Sgs} {x : Sg × Value} (h : Wl w0 w b m S d p T vs (q ++ [x])) :
    Calls Tryz.prog 44 #[dptr p] w fun e w' => e = .returned (.int .i64 ((syncP d (nameL x.1.num)).1 : Int)) ∧ Wl w0 w' b m S (syncP d (nameL x.1.num)).2 p T vs (q ++ [x]) ∧ StW w S T w' S T := by
  have HW : Hid (Wl w0 w b m S d p T vs (q ++ [x])) := h
  have HPB : Hid (w.heap[p]? = some (.cells #[dptr b, vs] 99 (0, 0))) := h.lg.blk
  have n0 : ∀ w' : World, w'.heap[p]? = some (.cells #[dptr b, vs] 99 (0, 0)) → w'.cell? ⟨p, 0, none⟩ = some (dptr b) := fun w' hw => cell_blk hw rfl
  have hnum := h.lg.num x (by simp)
  have FL : Hid (∀ u, Below w.heap.size w u → Calls Tryz.prog 64 #[dptr p] u fun e w' => e = .returned (sgV x.1.num x.2) ∧ Below u.heap.size u w') := fun u hu => last_any (HW.out.same hu).lg
  have FN : Hid (∀ u, Below w.heap.size w u → Calls Tryz.prog 69 #[sgV x.1.num x.2] u fun e w' => e = .returned (strN (nameL x.1.num)) ∧ Below u.heap.size u w') := fun u hu => name_any (HW.out.same hu).tabs _ (by omega) _
  obtain ⟨D', hD'⟩ : ∃ D', syncP d (nameL x.1.num) = D' := ⟨_, rfl⟩
  have HDE : Hid (syncP d (nameL x.1.num) = D') := hD'
  rw [hD']
  clear h hnum hD'
  obtain ⟨⟨xn, xp⟩, xv⟩ := x
  simp only at FL FN HDE
  go_enter Tryz.func44, Tryz.ntmps44
  go_wp2_with (fail)
  refine regionC (fun (w' : World) => w'.heap[p]? = some (.cells #[dptr b, vs] 99 (0, 0))) 8 (by kernel_rfl) ?_
  (try (change wpAnyC _ _ _ _ _ _ _ _ _ (World.drew _)))
  refine nameW (fun W0 hW0 => ?_)
  have hC : Hid (W0.heap[p]? = some (.cells #[dptr b, vs] 99 (0, 0))) := by show _ = _; rw [hW0]; exact HPB.out
  have hB : Hid (Below w.heap.size w W0) := by show Below _ _ _; rw [hW0]; exact ⟨rfl, rfl, rfl, Nat.le_refl _, fun _ _ => rfl⟩
  clear hW0
  refine takeC (i := 0) (v := ?_) rfl (by kernel_rfl) (by kernel_rfl) (by kernel_rfl) (by kernel_rfl) (by kernel_rfl) (fun _ _ _ h => h) hC.out (Or.inl ⟨by rfl, ?_⟩) ?_
  rotate_left 1
  · intro w' hw'
    skip
    go_simp
    first | done | with_reducible rfl
  (try simp only [Act.put])
  (try simp only [List.setIfInBounds_toArray])
  (try simp only [List.set_cons_succ])
  (try simp only [List.set_cons_zero])
  refine takeC (i := 1) (v := ?_) rfl (by kernel_rfl) (by kernel_rfl) (by kernel_rfl) (by kernel_rfl) (by kernel_rfl) (fun _ _ _ h => h) hC.out (Or.inl ⟨by rfl, ?_⟩) ?_
  rotate_left 1
  · intro w' hw'
    skip
    go_simp
    first | done | with_reducible rfl
  (try simp only [Act.put])
  (try simp only [List.setIfInBounds_toArray])
  (try simp only [List.set_cons_succ])
  (try simp only [List.set_cons_zero])
  refine takeC (i := 2) (v := ?_) rfl (by kernel_rfl) (by kernel_rfl) (by kernel_rfl) (by kernel_rfl) (by kernel_rfl) (fun _ _ _ h => h) hC.out (Or.inl ⟨by rfl, ?_⟩) ?_
  rotate_left 1
  · intro w' hw'
    skip
    go_simp
    first | done | with_reducible rfl
  (try simp only [Act.put])
  (try simp only [List.setIfInBounds_toArray])
  (try simp only [List.set_cons_succ])
  (try simp only [List.set_cons_zero])
  refine takeC (i := 3) (v := ?_) rfl (by kernel_rfl) (by kernel_rfl) (by kernel_rfl) (by kernel_rfl) (by kernel_rfl) (fun _ _ _ h => h) hC.out (Or.inl ⟨by rfl, ?_⟩) ?_
  rotate_left 1
  · intro w' hw'
    have z0 := n0 w' hw'
    go_simp
    first | done | with_reducible rfl
  (try simp only [Act.put])
  (try simp only [List.setIfInBounds_toArray])
  (try simp only [List.set_cons_succ])
  (try simp only [List.set_cons_zero])
  refine takeC (i := 4) (v := ?_) rfl (by kernel_rfl) (by kernel_rfl) (by kernel_rfl) (by kernel_rfl) (by kernel_rfl) (fun _ _ _ h => h) hC.out (Or.inl ⟨by rfl, ?_⟩) ?_
  rotate_left 1
  · intro w' hw'
    skip
    go_simp
    first | done | with_reducible rfl
  (try simp only [Act.put])
  (try simp only [List.setIfInBounds_toArray])
  (try simp only [List.set_cons_succ])
  (try simp only [List.set_cons_zero])
  refine readyC (rs := [5]) (by kernel_rfl) (by simp) ?_
  refine ReadyC.cons rfl (fun K hK => ?_) ReadyC.nil
  refine stepV_call rfl 64 #[dptr p] (by kernel_rfl) (FL.out W0 hB.out) (fun e w' h => ⟨_, h.1⟩) ?_
  intro v1 W1 hq
  obtain ⟨hv1, hq⟩ := hq
  have hv1' := Ending.returned.inj hv1
  subst hv1'
  have hq2 : Below w.heap.size w W1 := hB.out.trans (hq.mono hB.out.size)
  have hq3 : W1.heap[p]? = some (.cells #[dptr b, vs] 99 (0, 0)) := (hq2.block _ (lt_blk HPB.out)).trans HPB.out
  refine hK _ _ (fun _ => hq3) ?_
  clear hK K
  (try simp only [Act.put])
  (try simp only [List.setIfInBounds_toArray])
  (try simp only [List.set_cons_succ])
  (try simp only [List.set_cons_zero])
  replace hC : Hid (W1.heap[p]? = some (.cells #[dptr b, vs] 99 (0, 0))) := hq3
  replace hB : Hid (Below w.heap.size w W1) := hq2
  clear hv1 hq hq2 hq3
  refine readyC (rs := [6]) (by kernel_rfl) (by simp) ?_
  refine ReadyC.cons rfl (fun K hK => ?_) ReadyC.nil
  refine stepV_call rfl 69 #[sgV xn xv] (by kernel_rfl) (FN.out W1 hB.out) (fun e w' h => ⟨_, h.1⟩) ?_
  intro v1 W2 hq
  obtain ⟨hv1, hq⟩ := hq
  have hv1' := Ending.returned.inj hv1
  subst hv1'
  have hq2 : Below w.heap.size w W2 := hB.out.trans (hq.mono hB.out.size)
  have hq3 : W2.heap[p]? = some (.cells #[dptr b, vs] 99 (0, 0)) := (hq2.block _ (lt_blk HPB.out)).trans HPB.out
  refine hK _ _ (fun _ => hq3) ?_
  clear hK K
  (try simp only [Act.put])
  (try simp only [List.setIfInBounds_toArray])
  (try simp only [List.set_cons_succ])
  (try simp only [List.set_cons_zero])
  replace hC : Hid (W2.heap[p]? = some (.cells #[dptr b, vs] 99 (0, 0))) := hq3
  replace hB : Hid (Below w.heap.size w W2) := hq2
  clear hv1 hq hq2 hq3
  refine readyC (rs := [7]) (by kernel_rfl) (by simp) ?_
  refine ReadyC.cons rfl (fun K hK => ?_) ReadyC.nil
  refine stepV_call rfl 113 #[dptr b, strN (nameL xn)] (by kernel_rfl) (syncL (HW.out.same hB.out).lv (nameL xn) (by rw [nameL_length]; omega)) (fun e w' h => ⟨_, h.1⟩) ?_
  intro v9 W3 hq
  obtain ⟨hv9, hlv, hst⟩ := hq
  have hv9' := Ending.returned.inj hv9
  subst hv9'
  rw [HDE.out] at hlv ⊢
  obtain ⟨hwl, hstw⟩ := (HW.out.same hB.out).disk hlv hst
  have hkk : W3.heap[p]? = some (.cells #[dptr b, vs] 99 (0, 0)) := hwl.lg.blk
  refine hK _ _ (fun _ => hkk) ?_
  clear hK K
  (try simp only [Act.put])
  (try simp only [List.setIfInBounds_toArray])
  (try simp only [List.set_cons_succ])
  (try simp only [List.set_cons_zero])
  replace hC : Hid (W3.heap[p]? = some (.cells #[dptr b, vs] 99 (0, 0))) := hkk
  clear hkk
  have HX : Hid (Wl w0 W3 b m S D'.2 p T vs (q ++ [(⟨xn, xp⟩, xv)]) ∧ StW w S T W3 S T) := ⟨hwl, (StW.same S T hB.out).trans hstw⟩
  clear hv9 hlv hst hwl hstw hB
  refine readyC (rs := [8]) (by kernel_rfl) (by simp) ?_
  refine ReadyC.cons rfl (fun K hK => ?_) ReadyC.nil
  go_simp
  refine hK _ _ (fun _ => hC.out) ?_
  clear hK K
  (try simp only [Act.put])
  (try simp only [List.setIfInBounds_toArray])
  (try simp only [List.set_cons_succ])
  (try simp only [List.set_cons_zero])
  refine doneC (by kernel_rfl) ?_ _
  go_wp2_with (fail)
  go_ret
  exact ⟨rfl, HX.out.1, HX.out.2⟩
end Go.Proofs.YtkbmblmnhhlicaaGreatDoor

/- A segment is put into a log's row. -/
namespace Go.Proofs.YtkbmblmnhhlicaaGreatDoor
open Go.RowKit

/-- The first segments of a log: vr is their row; the log's own cell still holds vs. -/
structure LgX (w : World) (p b : Nat) (T : Nat → Prop) (vs vr : Value) (q : Sgs) : Prop where
  blk : w.heap[p]? = some (.cells #[dptr b, vs] 99 (0, 0))
  row : OwnQ w 0 vr q
  pls : ∀ x ∈ q, OwnI w 0 x.2 x.1.pl
  apart : q.Pairwise (fun x y => x.2.ownBlock ≠ y.2.ownBlock)
  tp : T p
  tr : ∀ g, vr.ownBlock = some g → T g
  ts : ∀ x ∈ q, ∀ g, x.2.ownBlock = some g → T g
  lt : ∀ k, T k → k < w.heap.size
  ne : ∀ x ∈ q, x.1.pl ≠ []
  num : ∀ x ∈ q, x.1.num ≤ 999999
  len : ∀ x ∈ q, x.1.pl.length ≤ 1099511627777
  few : q.length ≤ 1048576

theorem LgW.x {w : World} {p b : Nat} {T : Nat → Prop} {vs : Value} {q : Sgs} (h : LgW w p b T vs q) : LgX w p b T vs vs q := { h with }
theorem LgX.w {w : World} {p b : Nat} {T : Nat → Prop} {vs : Value} {q : Sgs} (h : LgX w p b T vs vs q) : LgW w p b T vs q := { h with }

theorem sg_zero : (Tryz.prog.info? 101).map (fun i => (i.zero, i.size, i.bytes)) = some (some (.agg #[.int .i64 0, .slice none 0 0]), 2, 32) := by kernel_rfl

theorem ownQ_take {w : World} {B : Nat} {a : Option Addr} {n c : Nat} {q : Sgs} (h : OwnQ w B (.slice a n c) q) (k : Nat) (hk : k ≤ q.length) (hk0 : q ≠ []) : OwnQ w B (.slice a k c) (q.take k) := by
  have hl : (q.take k).length = k := by rw [List.length_take]; omega
  rcases h.2 with ⟨_, h0⟩ | ⟨g, cap, cur, hv, hB, hg, h1, h2, h3, h4⟩
  · exact absurd (List.eq_nil_of_length_eq_zero h0) hk0
  · have ea : a = some ⟨g, 0, none⟩ := congrArg (fun v => match v with | Value.slice a _ _ => a | _ => a) hv
    have ec : c = cap := congrArg (fun v => match v with | Value.slice _ _ c => c | _ => c) hv
    subst ea ec
    refine ⟨by rw [sgCells_len], .inr ⟨g, c, cur, by rw [hl], hB, hg, by omega, h2, h3, ?_⟩⟩
    rw [hl, ← sgCells_take, ← h4, List.take_take, Nat.min_eq_left (Nat.mul_le_mul_right 2 hk)]

/-- The first k segments. -/
theorem LgW.cutTo {w : World} {p b : Nat} {T : Nat → Prop} {a : Option Addr} {n c : Nat} {q : Sgs} (h : LgW w p b T (.slice a n c) q) (k : Nat) (hk : k ≤ q.length) (hq : q ≠ []) : LgX w p b T (.slice a n c) (.slice a k c) (q.take k) :=
  { blk := h.blk
    row := ownQ_take h.row k hk hq
    pls := fun x hx => h.pls x (List.mem_of_mem_take hx)
    apart := h.apart.sublist (List.take_sublist k q)
    tp := h.tp
    tr := fun g hg => h.tr g (ob_same hg)
    ts := fun x hx => h.ts x (List.mem_of_mem_take hx)
    lt := h.lt
    ne := fun x hx => h.ne x (List.mem_of_mem_take hx)
    num := fun x hx => h.num x (List.mem_of_mem_take hx)
    len := fun x hx => h.len x (List.mem_of_mem_take hx)
    few := by have := h.few; rw [List.length_take]; omega }

/-- A world in which its own blocks are as they were. -/
theorem LgX.keep {w w' : World} {p b : Nat} {T : Nat → Prop} {vs vr : Value} {q : Sgs} (h : LgX w p b T vs vr q) (hs : w.heap.size ≤ w'.heap.size) (h1 : w'.heap[p]? = w.heap[p]?) (h2 : ∀ g, vr.ownBlock = some g → w'.heap[g]? = w.heap[g]?) (h3 : ∀ x ∈ q, ∀ g, x.2.ownBlock = some g → w'.heap[g]? = w.heap[g]?) : LgX w' p b T vs vr q :=
  { h with
    blk := h1.trans h.blk
    row := ownQ_keep h.row h2
    pls := fun x hx => ownI_keep (h.pls x hx) (h3 x hx)
    lt := fun k hk' => Nat.lt_of_lt_of_le (h.lt k hk') hs }
theorem LgX.below {w w' : World} {p b : Nat} {T : Nat → Prop} {vs vr : Value} {q : Sgs} (h : LgX w p b T vs vr q) (hb : Below w.heap.size w w') : LgX w' p b T vs vr q :=
  h.keep hb.size (hb.block p (h.lt p h.tp)) (fun g hg => hb.block g (h.lt g (h.tr g hg))) (fun x hx g hg => hb.block g (h.lt g (h.ts x hx g hg)))

theorem ownQ_type {w : World} {B : Nat} {v : Value} {q : Sgs} (h : OwnQ w B v q) {g : Nat} (hg : v.ownBlock = some g) : ∃ cur, w.heap[g]? = some (.cells cur 101 (0, 0)) := by
  rcases h.2 with ⟨rfl, _⟩ | ⟨g', cap, cur, rfl, _, hgg, _⟩
  · cases hg
  · cases hg; exact ⟨cur, hgg⟩
theorem ownI_type {w : World} {B : Nat} {v : Value} {q : List Nat} (h : OwnI w B v q) {g : Nat} (hg : v.ownBlock = some g) : ∃ cur, w.heap[g]? = some (.cells cur 3 (0, 0)) := by
  rcases h.2 with ⟨rfl, _⟩ | ⟨g', cap, cur, rfl, _, hgg, _⟩
  · cases hg
  · cases hg; exact ⟨cur, hgg⟩
theorem ne_types {w : World} {g k : Nat} {c1 c2 : Array Value} {t1 t2 : TypeId} (h1 : w.heap[g]? = some (.cells c1 t1 (0, 0))) (h2 : w.heap[k]? = some (.cells c2 t2 (0, 0))) (ht : t1 ≠ t2) : g ≠ k := by
  intro e
  subst e
  rw [h1] at h2
  simp at h2
  exact ht h2.2

def PushedQ (w : World) (v : Value) (q : Sgs) (x : Sg × Value) (vo : Value) (w2 : World) : Prop := OwnQ w2 0 vo (q ++ [x]) ∧ w.grownBy w2 v.ownBlock ∧ ∀ g, vo.ownBlock = some g → v.ownBlock = some g ∨ w.heap.size ≤ g
/-- A segment more. -/
theorem append_seg {w : World} {v : Value} {q : Sgs} (h : OwnQ w 0 v q) (y : Addr) (c : Nat) (x : Sg × Value) (h0 : w.cell? y = some (.int .i64 (x.1.num : Int))) (h1 : w.cell? (y.add 1) = some x.2) (hone : x.2.oneCell' = true) (hl : q.length + 1 ≤ 1048577) (ty : TypeId) :
    ∃ vo w2, (Builtin.append_ #[97, 97] ty #[v, .slice (some y) 1 c]).run Tryz.prog w = .ok vo w2 ∧ PushedQ w v q x vo w2 := by
  obtain ⟨i0, hi, hz0, hz1, hz2⟩ := info_parts sg_zero
  obtain ⟨vo, w2, hr, h4, h5, _, h6⟩ := run_append_own_at (P := Tryz.prog) w 0 97 ty 101 i0 (.agg #[.int .i64 0, .slice none 0 0]) 2 32 Tryz.underlying97 hi hz0 hz1 hz2 rfl (by decide) v q.length (sgCells q) h y 1 c [.int .i64 (x.1.num : Int), x.2] rfl
    (by
      intro j u hj
      match j, hj with
      | 0, hj => simp at hj; rw [← hj, Addr.add_zero']; exact h0
      | 1, hj => simp at hj; rw [← hj]; exact h1
      | j + 2, hj => simp at hj)
    (by
      intro u hu
      simp at hu
      rcases hu with rfl | rfl
      · rfl
      · exact hone) (by unfold maxLen; omega) (by omega) (Nat.zero_le _)
  refine ⟨vo, w2, hr, ?_, h5, ?_⟩
  · show w2.ownsRow _ _ _ _ (q ++ [x]).length _
    rw [List.length_append, sgCells_append]
    exact h4
  · intro g hg
    rcases h6 with e | e
    · exact .inl (e ▸ hg)
    · rw [e] at hg
      exact .inr (by have := Option.some.inj hg; omega)

/-- A segment is put behind the first ones, and the log's own cell is set. -/
theorem LgX.put {w w1 w2 : World} {p b : Nat} {T : Nat → Prop} {vs vr vo : Value} {q : Sgs} {x : Sg × Value} (h : LgX w p b T vs vr q) (hx : OwnI w 0 x.2 x.1.pl) (hne : x.1.pl ≠ []) (hnum : x.1.num ≤ 999999) (hlen : x.1.pl.length ≤ 1099511627777)
    (hap : ∀ y ∈ q, y.2.ownBlock ≠ x.2.ownBlock) (hfew : q.length + 1 ≤ 1048576) (hp : PushedQ w vr q x vo w1) (hw : w2 = w1.setCell ⟨p, 1, none⟩ vo) :
    LgW w2 p b (fun g => T g ∨ x.2.ownBlock = some g ∨ vo.ownBlock = some g) vo (q ++ [x]) ∧ Fr (fun g => g = p ∨ vr.ownBlock = some g) w w2 ∧ ∀ g, (T g ∨ x.2.ownBlock = some g ∨ vo.ownBlock = some g) → (T g ∨ x.2.ownBlock = some g) ∨ w.heap.size ≤ g := by
  obtain ⟨ho, hg, hb⟩ := hp
  have hpl := lt_blk h.blk
  have hvr : ∀ g, vr.ownBlock = some g → g ≠ p := fun g hg' => by
    obtain ⟨cur, hc⟩ := ownQ_type h.row hg'
    exact ne_types hc h.blk (by decide)
  have hvp : ∀ v pl, OwnI w 0 v pl → ∀ g, v.ownBlock = some g → g ≠ p ∧ vr.ownBlock ≠ some g := fun v pl ho' g hg' => by
    obtain ⟨cur, hc⟩ := ownI_type ho' hg'
    refine ⟨ne_types hc h.blk (by decide), fun e => ?_⟩
    obtain ⟨cur2, hc2⟩ := ownQ_type h.row e
    exact ne_types hc2 hc (by decide) rfl
  have hk1 : w1.heap[p]? = some (.cells #[dptr b, vs] 99 (0, 0)) := (hg.block p hpl (fun e => hvr p e.symm rfl)).trans h.blk
  have hk2 : w2.heap[p]? = some (.cells #[dptr b, vo] 99 (0, 0)) := by rw [hw]; exact set_blk hk1 1 vo
  have hsz : w.heap.size ≤ w2.heap.size := by rw [hw, set_size]; exact hg.size
  have hoI : ∀ v pl, OwnI w 0 v pl → OwnI w2 0 v pl := fun v pl ho' => ownI_keep ho' (fun g hg' => by
    obtain ⟨h1, h2⟩ := hvp v pl ho' g hg'
    rw [hw, set_other _ h1]
    exact hg.block g (ho'.lt g hg').2 (fun e => h2 e.symm))
  have hvo : ∀ g, vo.ownBlock = some g → g ≠ p := fun g hg' => by
    obtain ⟨cur, hc⟩ := ownQ_type ho hg'
    exact ne_types hc hk1 (by decide)
  refine ⟨{ blk := hk2, row := ownQ_keep ho (fun g hg' => by rw [hw, set_other _ (hvo g hg')]), pls := ?_, apart := ?_, tp := .inl h.tp, tr := fun g hg' => .inr (.inr hg'), ts := ?_, lt := ?_, ne := ?_, num := ?_, len := ?_, few := by rw [List.length_append]; exact hfew }, ?_, ?_⟩
  · intro y hy
    rcases List.mem_append.1 hy with hy | hy
    · exact hoI _ _ (h.pls y hy)
    · rw [List.mem_singleton.1 hy]; exact hoI _ _ hx
  · rw [List.pairwise_append]
    exact ⟨h.apart, List.pairwise_singleton _ _, fun y hy z hz => by rw [List.mem_singleton.1 hz]; exact hap y hy⟩
  · intro y hy g hg'
    rcases List.mem_append.1 hy with hy | hy
    · exact .inl (h.ts y hy g hg')
    · rw [List.mem_singleton.1 hy] at hg'; exact .inr (.inl hg')
  · intro k hk
    rcases hk with hk | hk | hk
    · exact Nat.lt_of_lt_of_le (h.lt k hk) hsz
    · exact Nat.lt_of_lt_of_le (hx.lt k hk).2 hsz
    · rw [hw, set_size]; exact (ho.lt k hk).2
  · intro y hy
    rcases List.mem_append.1 hy with hy | hy
    · exact h.ne y hy
    · rw [List.mem_singleton.1 hy]; exact hne
  · intro y hy
    rcases List.mem_append.1 hy with hy | hy
    · exact h.num y hy
    · rw [List.mem_singleton.1 hy]; exact hnum
  · intro y hy
    rcases List.mem_append.1 hy with hy | hy
    · exact h.len y hy
    · rw [List.mem_singleton.1 hy]; exact hlen
  · rw [hw]
    exact (show Fr (fun g => g = p ∨ vr.ownBlock = some g) w w1 from ⟨hg.os, hg.tape, hg.output, hg.size, fun k hk hn => hg.block k hk (fun e => hn (.inr e.symm))⟩).set (.inl rfl) vo
  · intro g hg'
    rcases hg' with hg' | hg' | hg'
    · exact .inl (.inl hg')
    · exact .inl (.inr hg')
    · rcases hb g hg' with e | e
      · exact .inl (.inl (h.tr g e))
      · exact .inr e
end Go.Proofs.YtkbmblmnhhlicaaGreatDoor

/- begin, walked. -/
namespace Go.Proofs.YtkbmblmnhhlicaaGreatDoor
open Go.RowKit

/-- What is told of a call on a log: its disk, and its segments. -/
def DidW (w0 w : World) (b m : Nat) (S : Nat → Prop) (p : Nat) (T : Nat → Prop) (d' : Dk) (L : List Sg) (w' : World) : Prop := ∃ S' T' vs' q', Wl w0 w' b m S' d' p T' vs' q' ∧ q'.map (·.1) = L ∧ StW w S T w' S' T'

/-- A log of one empty segment, just laid. -/
theorem LgW.fresh {w w1 W2 : World} {p b N g : Nat} {vs : Value} (hp : w.heap[p]? = some (.cells #[dptr b, vs] 99 (0, 0))) (ho : OwnI w1 w.heap.size (.slice (some ⟨g, 0, none⟩) 1 1) [0]) (hb : Below w.heap.size w w1) (hN : N ≤ 999999)
    (hW : W2 = (w1.alloc (.cells #[.int .i64 (N : Int), .slice (some ⟨g, 0, none⟩) 1 1] 101)).setCell ⟨p, 1, none⟩ (.slice (some ⟨w1.heap.size, 0, none⟩) 1 1)) :
    LgW W2 p b (fun k => k = p ∨ k = g ∨ k = w1.heap.size) (.slice (some ⟨w1.heap.size, 0, none⟩) 1 1) [(⟨N, [0]⟩, .slice (some ⟨g, 0, none⟩) 1 1)] ∧ Fr (fun k => k = p) w W2 ∧ w.heap.size ≤ g := by
  have hpl := lt_blk hp
  have hg := ho.lt g rfl
  have hp1 : w1.heap[p]? = some (.cells #[dptr b, vs] 99 (0, 0)) := (hb.block p hpl).trans hp
  obtain ⟨WA, hWA⟩ : ∃ WA, WA = w1.alloc (.cells #[.int .i64 (N : Int), .slice (some ⟨g, 0, none⟩) 1 1] 101) := ⟨_, rfl⟩
  rw [← hWA] at hW
  have hbA : Below w1.heap.size w1 WA := by rw [hWA]; exact (Below.refl _ w1).alloc (Nat.le_refl _) _
  have hpA := (hbA.block p (lt_blk hp1)).trans hp1
  have hrA : WA.heap[w1.heap.size]? = some (.cells #[.int .i64 (N : Int), .slice (some ⟨g, 0, none⟩) 1 1] 101 (0, 0)) := by rw [hWA]; exact heap_alloc_new w1 _
  have hz : WA.heap.size = w1.heap.size + 1 := by rw [hWA]; simp
  have hs1 := hb.size
  have hz2 : W2.heap.size = w1.heap.size + 1 := by rw [hW, set_size, hz]
  refine ⟨{ blk := by rw [hW]; exact set_blk hpA 1 _, row := ?_, pls := ?_, apart := List.pairwise_singleton _ _, tp := .inl rfl, tr := ?_, ts := ?_, lt := ?_, ne := ?_, num := ?_, len := ?_, few := by simp }, ?_, hg.1⟩
  · refine ⟨rfl, .inr ⟨w1.heap.size, 1, #[.int .i64 (N : Int), .slice (some ⟨g, 0, none⟩) 1 1], rfl, Nat.zero_le _, ?_, Nat.le_refl _, by unfold maxLen; omega, rfl, rfl⟩⟩
    rw [hW, set_other _ (by omega)]
    exact hrA
  · intro x hx
    rw [List.mem_singleton.1 hx]
    refine ownI_mono (ownI_keep (ownI_below ho hbA) (fun k hk => ?_)) (Nat.zero_le _)
    cases hk
    rw [hW, set_other _ (by show g ≠ p; omega)]
  · intro k hk; cases hk; exact .inr (.inr rfl)
  · intro x hx k hk
    rw [List.mem_singleton.1 hx] at hk
    cases hk; exact .inr (.inl rfl)
  · intro k hk
    rcases hk with rfl | rfl | rfl <;> omega
  · intro x hx; rw [List.mem_singleton.1 hx]; simp
  · intro x hx; rw [List.mem_singleton.1 hx]; exact hN
  · intro x hx; rw [List.mem_singleton.1 hx]; simp
  · rw [hW]
    exact Fr.set (S := fun k => k = p) (p := ⟨p, 1, none⟩) ((Fr.of_below _ hb).tr (Fr.of_below _ hbA)) rfl _

set_option maxHeartbeats 4000000 in
set_option maxRecDepth 40000 in
theorem begin_any {w0 w : World} {b m : Nat} {S : Nat → Prop} {d : Dk} {p : Nat} {T : Nat → Prop} {vs : Value} {q : Sgs} (h : Wl w0 w b m S d p T vs q) (N : Nat) (hN : N ≤ 999999) (hu : usedL d.files ≤ 1099511627776) (hf : d.files.length + 1 ≤ 1048576) :
    Calls Tryz.prog 75 #[dptr p, .int .i64 (N : Int)] w fun e w' => e = .returned (.int .i64 ((appendP d (nameL N) []).1 : Int)) ∧ DidW w0 w b m S p T (appendP d (nameL N) []).2 [⟨N, [0]⟩] w' := by
  have HW : Hid (Wl w0 w b m S d p T vs q) := h
  have hE := empty_any w N
  obtain ⟨D', hD'⟩ : ∃ D', appendP d (nameL N) [] = D' := ⟨_, rfl⟩
  have HDE : Hid (appendP d (nameL N) [] = D') := hD'
  rw [hD']
  have HN : Hid (N ≤ 999999) := hN
  have HU : Hid (usedL d.files + ([] : List UInt8).length ≤ 1099511627776 ∧ d.files.length + 1 ≤ 1048576) := ⟨hu, hf⟩
  clear h hD' hN hu hf
  go_enter Tryz.func75, Tryz.ntmps75
  go_wp2_with (fail)
  refine hE.mono ?_
  rintro e w1 ⟨g, rfl, ho, hb⟩
  clear hE
  obtain ⟨WB, hWB⟩ : ∃ WB, WB = (w1.alloc (.cells #[.int .i64 (N : Int), .slice (some ⟨g, 0, none⟩) 1 1] 101)).setCell ⟨p, 1, none⟩ (.slice (some ⟨w1.heap.size, 0, none⟩) 1 1) := ⟨_, rfl⟩
  obtain ⟨hlg, hfr, hgw⟩ := LgW.fresh HW.out.lg.blk ho hb HN.out hWB
  have hpa : (w1.alloc (.cells #[.int .i64 (N : Int), .slice (some ⟨g, 0, none⟩) 1 1] 101)).heap[p]? = some (.cells #[dptr b, vs] 99 (0, 0)) := by
    rw [heap_alloc_old _ _ (Nat.lt_of_lt_of_le (lt_blk HW.out.lg.blk) hb.size)]
    exact (hb.block p (lt_blk HW.out.lg.blk)).trans HW.out.lg.blk
  have x1 := cell_blk hpa (i := 1) rfl
  have x2 := free_blk hpa 1
  simp only [List.getElem_toArray, List.getElem_cons_zero, List.getElem_cons_succ] at x1
  have hs1 := hb.size
  have hlv2 : Lv w0 WB b m S d := by
    obtain ⟨sl, hd⟩ := HW.out.lv.dk
    refine ⟨⟨sl, hd.keep hfr.size (fun k hk => hfr.block k (hd.lt k hk) (fun e => HW.out.ap p HW.out.lg.tp (e ▸ hk)))⟩, HW.out.lv.ge, ?_⟩
    exact HW.out.lv.below.trans (hfr.below (fun k hk => by rw [hk]; exact HW.out.ge p HW.out.lg.tp) HW.out.lv.below.size)
  have hlt : ∀ k, S k → k < w.heap.size := fun k hk => by
    obtain ⟨sl, hd⟩ := HW.out.lv.dk
    exact hd.lt k hk
  have hw0 := HW.out.lv.below.size
  obtain ⟨rb, hrb⟩ : ∃ rb, rb = w1.heap.size := ⟨_, rfl⟩
  rw [← hrb] at hlg hWB hs1
  have H2 : Hid (Wl w0 WB b m S d p (fun k => k = p ∨ k = g ∨ k = rb) (.slice (some ⟨rb, 0, none⟩) 1 1) ([] ++ [(⟨N, [0]⟩, .slice (some ⟨g, 0, none⟩) 1 1)])) := by
    refine ⟨hlv2, hlg, fun k hk => ?_, fun k hk hS => ?_, HW.out.tb⟩
    · rcases hk with rfl | rfl | rfl
      · exact HW.out.ge _ HW.out.lg.tp
      · omega
      · omega
    · rcases hk with rfl | rfl | rfl
      · exact HW.out.ap _ HW.out.lg.tp hS
      · have := hlt _ hS; omega
      · have := hlt _ hS; omega
  have HS2 : Hid (StW w S T WB S (fun k => k = p ∨ k = g ∨ k = rb)) := by
    refine ⟨⟨hfr.os, hfr.tape, hfr.output, hfr.size, fun k hk hn => hfr.block k hk (fun e => hn (.inr (by rw [e]; exact HW.out.lg.tp)))⟩, fun k hk => ?_⟩
    rcases hk with hk | rfl | rfl | rfl
    · exact .inl (.inl hk)
    · exact .inl (.inr HW.out.lg.tp)
    · exact .inr hgw
    · exact .inr hs1
  have HPB : Hid (WB.heap[p]? = some (.cells #[dptr b, .slice (some ⟨rb, 0, none⟩) 1 1] 99 (0, 0))) := hlg.blk
  have n0 : ∀ w' : World, w'.heap[p]? = some (.cells #[dptr b, .slice (some ⟨rb, 0, none⟩) 1 1] 99 (0, 0)) → w'.cell? ⟨p, 0, none⟩ = some (dptr b) := fun w' hw => cell_blk hw rfl
  have FL : Hid (∀ u, Below WB.heap.size WB u → Calls Tryz.prog 64 #[dptr p] u fun e w' => e = .returned (sgV N (.slice (some ⟨g, 0, none⟩) 1 1)) ∧ Below u.heap.size u w') := fun u hu => last_any (H2.out.same hu).lg
  have FN : Hid (∀ u, Below WB.heap.size WB u → Calls Tryz.prog 69 #[sgV N (.slice (some ⟨g, 0, none⟩) 1 1)] u fun e w' => e = .returned (strN (nameL N)) ∧ Below u.heap.size u w') := fun u hu => name_any (H2.out.same hu).tabs _ (by have := HN.out; omega) _
  clear ho hb hlg hfr hgw hpa hs1 hlv2 hlt hw0
  go_wp2_with (fail)
  rw [← hrb]
  (try rw [← hWB])
  clear hWB hrb x1 x2
  refine regionC (fun (w' : World) => w'.heap[p]? = some (.cells #[dptr b, .slice (some ⟨rb, 0, none⟩) 1 1] 99 (0, 0))) 8 (by kernel_rfl) ?_
  (try (change wpAnyC _ _ _ _ _ _ _ _ _ (World.drew _)))
  refine nameW (fun W0 hW0 => ?_)
  have hC : Hid (W0.heap[p]? = some (.cells #[dptr b, .slice (some ⟨rb, 0, none⟩) 1 1] 99 (0, 0))) := by show _ = _; rw [hW0]; exact HPB.out
  have hB : Hid (Below WB.heap.size WB W0) := by show Below _ _ _; rw [hW0]; exact ⟨rfl, rfl, rfl, Nat.le_refl _, fun _ _ => rfl⟩
  clear hW0
  refine takeC (i := 0) (v := ?_) rfl (by kernel_rfl) (by kernel_rfl) (by kernel_rfl) (by kernel_rfl) (by kernel_rfl) (fun _ _ _ h => h) hC.out (Or.inl ⟨by rfl, ?_⟩) ?_
  rotate_left 1
  · intro w' hw'
    skip
    go_simp
    first | done | with_reducible rfl
  (try simp only [Act.put])
  (try simp only [List.setIfInBounds_toArray])
  (try simp only [List.set_cons_succ])
  (try simp only [List.set_cons_zero])
  refine takeC (i := 1) (v := ?_) rfl (by kernel_rfl) (by kernel_rfl) (by kernel_rfl) (by kernel_rfl) (by kernel_rfl) (fun _ _ _ h => h) hC.out (Or.inl ⟨by rfl, ?_⟩) ?_
  rotate_left 1
  · intro w' hw'
    skip
    go_simp
    first | done | with_reducible rfl
  (try simp only [Act.put])
  (try simp only [List.setIfInBounds_toArray])
  (try simp only [List.set_cons_succ])
  (try simp only [List.set_cons_zero])
  refine takeC (i := 2) (v := ?_) rfl (by kernel_rfl) (by kernel_rfl) (by kernel_rfl) (by kernel_rfl) (by kernel_rfl) (fun _ _ _ h => h) hC.out (Or.inl ⟨by rfl, ?_⟩) ?_
  rotate_left 1
  · intro w' hw'
    skip
    go_simp
    first | done | with_reducible rfl
  (try simp only [Act.put])
  (try simp only [List.setIfInBounds_toArray])
  (try simp only [List.set_cons_succ])
  (try simp only [List.set_cons_zero])
  refine takeC (i := 3) (v := ?_) rfl (by kernel_rfl) (by kernel_rfl) (by kernel_rfl) (by kernel_rfl) (by kernel_rfl) (fun _ _ _ h => h) hC.out (Or.inl ⟨by rfl, ?_⟩) ?_
  rotate_left 1
  · intro w' hw'
    have z0 := n0 w' hw'
    go_simp
    first | done | with_reducible rfl
  (try simp only [Act.put])
  (try simp only [List.setIfInBounds_toArray])
  (try simp only [List.set_cons_succ])
  (try simp only [List.set_cons_zero])
  refine takeC (i := 4) (v := ?_) rfl (by kernel_rfl) (by kernel_rfl) (by kernel_rfl) (by kernel_rfl) (by kernel_rfl) (fun _ _ _ h => h) hC.out (Or.inl ⟨by rfl, ?_⟩) ?_
  rotate_left 1
  · intro w' hw'
    skip
    go_simp
    first | done | with_reducible rfl
  (try simp only [Act.put])
  (try simp only [List.setIfInBounds_toArray])
  (try simp only [List.set_cons_succ])
  (try simp only [List.set_cons_zero])
  refine readyC (rs := [5]) (by kernel_rfl) (by simp) ?_
  refine ReadyC.cons rfl (fun K hK => ?_) ReadyC.nil
  refine stepV_call rfl 64 #[dptr p] (by kernel_rfl) (FL.out W0 hB.out) (fun e w' h => ⟨_, h.1⟩) ?_
  intro v1 W1 hq
  obtain ⟨hv1, hq⟩ := hq
  have hv1' := Ending.returned.inj hv1
  subst hv1'
  have hq2 : Below WB.heap.size WB W1 := hB.out.trans (hq.mono hB.out.size)
  have hq3 : W1.heap[p]? = some (.cells #[dptr b, .slice (some ⟨rb, 0, none⟩) 1 1] 99 (0, 0)) := (hq2.block _ (lt_blk HPB.out)).trans HPB.out
  refine hK _ _ (fun _ => hq3) ?_
  clear hK K
  (try simp only [Act.put])
  (try simp only [List.setIfInBounds_toArray])
  (try simp only [List.set_cons_succ])
  (try simp only [List.set_cons_zero])
  replace hC : Hid (W1.heap[p]? = some (.cells #[dptr b, .slice (some ⟨rb, 0, none⟩) 1 1] 99 (0, 0))) := hq3
  replace hB : Hid (Below WB.heap.size WB W1) := hq2
  clear hv1 hq hq2 hq3
  refine readyC (rs := [6]) (by kernel_rfl) (by simp) ?_
  refine ReadyC.cons rfl (fun K hK => ?_) ReadyC.nil
  refine stepV_call rfl 69 #[sgV N (.slice (some ⟨g, 0, none⟩) 1 1)] (by kernel_rfl) (FN.out W1 hB.out) (fun e w' h => ⟨_, h.1⟩) ?_
  intro v1 W2 hq
  obtain ⟨hv1, hq⟩ := hq
  have hv1' := Ending.returned.inj hv1
  subst hv1'
  have hq2 : Below WB.heap.size WB W2 := hB.out.trans (hq.mono hB.out.size)
  have hq3 : W2.heap[p]? = some (.cells #[dptr b, .slice (some ⟨rb, 0, none⟩) 1 1] 99 (0, 0)) := (hq2.block _ (lt_blk HPB.out)).trans HPB.out
  refine hK _ _ (fun _ => hq3) ?_
  clear hK K
  (try simp only [Act.put])
  (try simp only [List.setIfInBounds_toArray])
  (try simp only [List.set_cons_succ])
  (try simp only [List.set_cons_zero])
  replace hC : Hid (W2.heap[p]? = some (.cells #[dptr b, .slice (some ⟨rb, 0, none⟩) 1 1] 99 (0, 0))) := hq3
  replace hB : Hid (Below WB.heap.size WB W2) := hq2
  clear hv1 hq hq2 hq3
  refine readyC (rs := [7]) (by kernel_rfl) (by simp) ?_
  refine ReadyC.cons rfl (fun K hK => ?_) ReadyC.nil
  refine stepV_call rfl 43 #[dptr b, strN (nameL N), .slice none 0 0] (by kernel_rfl) (appendL (l := []) (H2.out.same hB.out).lv (nameL N) (by rw [nameL_length]; omega) ⟨rfl, .inl ⟨rfl, rfl, rfl⟩⟩ HU.out.1 HU.out.2) (fun e w' h => ⟨_, h.1⟩) ?_
  intro v9 W3 hq
  obtain ⟨hv9, S9, hlv, hst⟩ := hq
  have hv9' := Ending.returned.inj hv9
  subst hv9'
  rw [HDE.out] at hlv ⊢
  obtain ⟨hwl, hstw⟩ := (H2.out.same hB.out).disk hlv hst
  have hkk : W3.heap[p]? = some (.cells #[dptr b, .slice (some ⟨rb, 0, none⟩) 1 1] 99 (0, 0)) := hwl.lg.blk
  refine hK _ _ (fun _ => hkk) ?_
  clear hK K
  (try simp only [Act.put])
  (try simp only [List.setIfInBounds_toArray])
  (try simp only [List.set_cons_succ])
  (try simp only [List.set_cons_zero])
  replace hC : Hid (W3.heap[p]? = some (.cells #[dptr b, .slice (some ⟨rb, 0, none⟩) 1 1] 99 (0, 0))) := hkk
  clear hkk
  have HX : Hid (DidW w0 w b m S p T D'.2 [⟨N, [0]⟩] W3) := ⟨_, _, _, _, hwl, rfl, HS2.out.trans ((StW.same S _ hB.out).trans hstw)⟩
  clear hv9 hlv hst hwl hstw hB
  refine readyC (rs := [8]) (by kernel_rfl) (by simp) ?_
  refine ReadyC.cons rfl (fun K hK => ?_) ReadyC.nil
  go_simp
  refine hK _ _ (fun _ => hC.out) ?_
  clear hK K
  (try simp only [Act.put])
  (try simp only [List.setIfInBounds_toArray])
  (try simp only [List.set_cons_succ])
  (try simp only [List.set_cons_zero])
  refine doneC (by kernel_rfl) ?_ _
  go_wp2_with (fail)
  go_ret
  exact ⟨rfl, HX.out⟩
end Go.Proofs.YtkbmblmnhhlicaaGreatDoor

/- A place more, a segment put: what Append does to memory. -/
namespace Go.Proofs.YtkbmblmnhhlicaaGreatDoor
open Go.RowKit

def PushedG (w : World) (v : Value) (pl : List Nat) (P : Nat) (vo : Value) (w2 : World) : Prop := OwnI w2 0 vo (pl ++ [P]) ∧ w.grownBy w2 v.ownBlock ∧ ∀ g, vo.ownBlock = some g → v.ownBlock = some g ∨ w.heap.size ≤ g
theorem append_placeG {w : World} {v : Value} {pl : List Nat} (h : OwnI w 0 v pl) (x : Addr) (c P : Nat) (hx : w.cell? x = some (placeV P)) (hl : pl.length + 1 ≤ 17592186044416) (ty : TypeId) :
    ∃ vo w2, (Builtin.append_ #[50, 50] ty #[v, .slice (some x) 1 c]).run Tryz.prog w = .ok vo w2 ∧ PushedG w v pl P vo w2 := by
  obtain ⟨i0, hi, hz0, hz1, hz2⟩ := info_parts info3
  obtain ⟨vo, w2, hr, h4, h5, _, h6⟩ := run_append_own_at (P := Tryz.prog) w 0 50 ty 3 i0 (.int .i64 0) 1 8 Tryz.underlying50 hi hz0 hz1 hz2 rfl (by decide) v pl.length (pl.map placeV) h x 1 c [placeV P] rfl
    (by
      intro j u hj
      have hj0 : j = 0 := by
        have := (List.getElem?_eq_some_iff.1 hj).1
        simpa using this
      subst hj0
      simp at hj
      rw [← hj, Addr.add_zero']
      exact hx)
    (by intro u hu; simp at hu; rw [hu]; rfl) (by unfold maxLen; omega) (by omega) (Nat.zero_le _)
  refine ⟨vo, w2, hr, ?_, h5, ?_⟩
  · show w2.ownsRow _ _ _ _ (pl ++ [P]).length _
    rw [List.length_append, List.map_append]
    exact h4
  · intro g hg
    rcases h6 with e | e
    · exact .inl (e ▸ hg)
    · rw [e] at hg
      exact .inr (by have := Option.some.inj hg; omega)

/-- The first segments of a row. -/
theorem seg_cut (a : Option Addr) (n c K : Nat) (h : K ≤ c) (w : World) : (Instr.slice 97 (.slice a n c) none (some (.int .i64 (K : Int))) none).run Tryz.prog w = .ok (.slice a K c) w := by
  have hel : Tryz.prog.elem 97 = 101 := by kernel_rfl
  rw [run_slice_h w 97 a n c (by rw [hel]; exact Tryz.underlying97) .i64 (K : Int) (by omega) (by omega), hel]
  have hsz : (sizeOf 101).run Tryz.prog w = .ok 2 w := by kernel_rfl
  rw [hsz]
  by_cases hk : c = 0
  · have : K = 0 := by omega
    subst this hk
    simp [Result.andThen, sliced]
  · simp [Result.andThen, sliced]
    intro _
    cases a with
    | none => rfl
    | some x => simp [Addr.add_zero']

/-- A segment's block, just made. -/
def SgB (w wx : World) (sb N : Nat) (v : Value) : Prop := Below w.heap.size w wx ∧ w.heap.size ≤ sb ∧ wx.heap[sb]? = some (.cells #[.int .i64 (N : Int), v] 101 (0, 0))

/-- A segment is put behind the first ones of a log. -/
theorem Wl.put {w0 w w5 w8 w9 w10 : World} {b m : Nat} {S T : Nat → Prop} {d : Dk} {p B sb g K nn cc N : Nat} {a : Option Addr} {v9 vo : Value} {Q : Sgs} {pl' : List Nat}
    (h : Wl w0 w b m S d p T (.slice a nn cc) Q) (hK : K ≤ Q.length) (hQ : Q ≠ []) (hf5 : Fr (fun k => k = g ∨ k = sb) w w5) (ho : OwnI w5 0 v9 pl') (h9 : ∀ k, v9.ownBlock = some k → k = g ∨ w.heap.size ≤ k)
    (hne : pl' ≠ []) (hN : N ≤ 999999) (hlen : pl'.length ≤ 1099511627777) (hap : ∀ y ∈ Q.take K, y.2.ownBlock ≠ some g) (hgn : g ≠ p) (hgr : ∀ k, (Value.slice a nn cc).ownBlock = some k → k ≠ g)
    (hsT : ¬ T sb) (hsS : ¬ S sb) (hgS : ¬ S g) (hgB : T g ∨ B ≤ g) (hsB : B ≤ sb) (hB0 : w0.heap.size ≤ B) (hBw : B ≤ w.heap.size) (hfew : K + 1 ≤ 1048576) (h58 : Below w5.heap.size w5 w8)
    (hp : PushedQ w8 (.slice a K cc) (Q.take K) (⟨N, pl'⟩, v9) vo w9) (hw : w10 = w9.setCell ⟨p, 1, none⟩ vo) :
    ∃ T', Wl w0 w10 b m S d p T' vo (Q.take K ++ [(⟨N, pl'⟩, v9)]) ∧ Fr (fun k => T k ∨ B ≤ k) w w10 ∧ ∀ k, T' k → T k ∨ B ≤ k := by
  have hX := h.lg.cutTo K hK hQ
  have hps : p ≠ sb := fun e => hsT (e ▸ h.lg.tp)
  have hTs : ∀ k, T k → k ≠ sb := fun k hk e => hsT (e ▸ hk)
  have hX5 := hX.keep hf5.size (hf5.block p (h.lg.lt p h.lg.tp) (fun e => e.elim (fun e => hgn e.symm) hps)) (fun k hk => hf5.block k (h.lg.lt k (hX.tr k hk)) (fun e => e.elim (hgr k (ob_same hk)) (hTs k (hX.tr k hk))))
    (fun y hy k hk => hf5.block k (h.lg.lt k (hX.ts y hy k hk)) (fun e => e.elim (fun e => hap y hy (e ▸ hk)) (hTs k (hX.ts y hy k hk))))
  have hX8 := hX5.below h58
  have ho8 := ownI_below ho h58
  have hs5 := hf5.size
  have hs8 := h58.size
  obtain ⟨hlg, hfr, hb⟩ := hX8.put ho8 hne hN hlen (fun y hy e => by
    obtain ⟨gy, cy, hy2, _⟩ := ownI_form (hX.pls y hy) (hX.ne y hy)
    have hky : y.2.ownBlock = some gy := by rw [hy2]; rfl
    have hky' : v9.ownBlock = some gy := by rw [← hky]; exact e.symm
    rcases h9 gy hky' with e1 | e1
    · exact hap y hy (e1 ▸ hky)
    · have := h.lg.lt gy (hX.ts y hy gy hky); omega) (by rw [List.length_take]; omega) hp hw
  obtain ⟨sl, hd⟩ := h.lv.dk
  have hT3 : ∀ k, (T k ∨ v9.ownBlock = some k ∨ vo.ownBlock = some k) → T k ∨ k = g ∨ w.heap.size ≤ k := fun k hk => by
    rcases hb k hk with (e | e) | e
    · exact .inl e
    · exact .inr (h9 k e)
    · exact .inr (.inr (by omega))
  have hTB : ∀ k, (T k ∨ v9.ownBlock = some k ∨ vo.ownBlock = some k) → T k ∨ B ≤ k := fun k hk => by
    rcases hT3 k hk with e | e | e
    · exact .inl e
    · exact e ▸ hgB
    · exact .inr (by omega)
  have hrow : ∀ k, (k = p ∨ (Value.slice a K cc).ownBlock = some k) → T k := fun k hk => hk.elim (fun e => e ▸ h.lg.tp) (fun e => hX.tr k e)
  have hsame : ∀ k, k < w.heap.size → k ≠ g → k ≠ sb → ¬ T k → w10.heap[k]? = w.heap[k]? := fun k hk h1 h2 h3 =>
    ((hfr.block k (by omega) (fun e => h3 (hrow k e))).trans (h58.block k (by omega))).trans (hf5.block k hk (fun e => e.elim h1 h2))
  have hFr : Fr (fun k => T k ∨ B ≤ k) w w10 := ⟨hfr.os.trans (h58.os.trans hf5.os), hfr.tape.trans (h58.tape.trans hf5.tape), hfr.output.trans (h58.output.trans hf5.output), by have := hfr.size; omega, fun k hk hn =>
    hsame k hk (fun e => hn (e ▸ hgB)) (fun e => hn (.inr (e ▸ hsB))) (fun e => hn (.inl e))⟩
  refine ⟨fun k => T k ∨ v9.ownBlock = some k ∨ vo.ownBlock = some k, ⟨⟨⟨sl, hd.keep hFr.size (fun k hk => hsame k (hd.lt k hk) (fun e => hgS (e ▸ hk)) (fun e => hsS (e ▸ hk)) (fun e => h.ap k e hk))⟩, h.lv.ge, ?_⟩, hlg, ?_, ?_, h.tb⟩, hFr, hTB⟩
  · exact h.lv.below.trans (hFr.below (fun k hk => hk.elim (h.ge k) (fun e => Nat.le_trans hB0 e)) h.lv.below.size)
  · intro k hk
    rcases hTB k hk with e | e
    · exact h.ge k e
    · exact Nat.le_trans hB0 e
  · intro k hk hS
    rcases hT3 k hk with e | e | e
    · exact h.ap k e hS
    · exact hgS (e ▸ hS)
    · have := hd.lt k hS; omega

/-- Another block than the log's and the disk's is changed. -/
theorem Wl.other {w0 w w' : World} {b m : Nat} {S : Nat → Prop} {d : Dk} {p sb : Nat} {T : Nat → Prop} {vs : Value} {q : Sgs} (h : Wl w0 w b m S d p T vs q) (hf : Fr (fun k => k = sb) w w') (hS : ¬ S sb) (hT : ¬ T sb) (hb : w0.heap.size ≤ sb) : Wl w0 w' b m S d p T vs q := by
  obtain ⟨sl, hd⟩ := h.lv.dk
  exact ⟨⟨⟨sl, hd.keep hf.size (fun k hk => hf.block k (hd.lt k hk) (fun e => hS (e ▸ hk)))⟩, h.lv.ge, h.lv.below.trans (hf.below (fun k hk => by rw [hk]; exact hb) h.lv.below.size)⟩, h.lg.keep hf.size (fun k hk => hf.block k (h.lg.lt k hk) (fun e => hT (e ▸ hk))), h.ge, h.ap, h.tb⟩

/-- What a step inside a call leaves, seen from its start. -/
theorem StW.more {w w1 w2 : World} {S T S1 T2 : Nat → Prop} (h : StW w S T w1 S1 T) (hf : Fr (fun k => T k ∨ w.heap.size ≤ k) w1 w2) (hT : ∀ k, T2 k → T k ∨ w.heap.size ≤ k) : StW w S T w2 S1 T2 :=
  ⟨h.1.trans hf (fun k hk => hk.imp .inr id), fun k hk => hk.elim (fun e => h.2 k (.inl e)) (fun e => (hT k e).imp .inr id)⟩
end Go.Proofs.YtkbmblmnhhlicaaGreatDoor
