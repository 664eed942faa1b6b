/- A definition is told, if its label was not told yet. -/
import Derived.Test.YtcbojffcnlkejaaGreatDoorBMap
import Derived.Test.YtcbojffcnlkejaaGreatDoorG33
import Derived.Test.YtcbojffcnlkejaaGreatDoorBOrd
import Derived.Deep.RegionLaw
import Derived.Deep.CutRange
import Derived.WalkSpells
import Derived.WalkArith
set_option linter.unusedVariables false
namespace Go.Proofs.YtcbojffcnlkejaaGreatDoor
open Go.RowKit
open cur (cell_blk free_blk set_blk blk_below)

/-- Blocks that are the reader's, and all that were made since. -/
def OwnN (O : Nat → Prop) (w w' : World) (g : Nat) : Prop := (g < w.heap.size ∧ O g) ∨ (w.heap.size ≤ g ∧ g < w'.heap.size)

/-- The reader's definitions in memory. -/
def DefsR (w : World) (O : Nat → Prop) (r : Nat) (vo : Value) (on : Nat) (d : List Df) (N : Nat) : Prop := ∃ vd vm, w.heap[r]? = some (.cells (rdCs vo vd vm on) 58 (0, 0)) ∧ DefsV w O vd vm d N

abbrev dfV (q : Df) : Value := .agg #[strV q.1, strV q.2.1, strV q.2.2]
abbrev dptr (r : Nat) : Value := .pointer (some ⟨r, 2, none⟩)

/-- A map is at hand. -/
def MapAt (w0 w : World) (O : Nat → Prop) (r qb : Nat) (vo : Value) (on : Nat) (vd : Value) (m : Nat) (q : Df) (d : List Df) (N : Nat) : Prop :=
  w.heap[r]? = some (.cells (rdCs vo vd (.map (some m)) on) 58 (0, 0)) ∧ w.heap[qb]? = some (.cells #[strV q.1, strV q.2.1, strV q.2.2] 41 (0, 0)) ∧
  w.ownsRow 0 41 3 vd d.length (defCs d) ∧ (∀ g, vd.ownBlock = some g → O g) ∧ (m < w0.heap.size → O m) ∧
  (∃ n cnt, MapK w m n cnt ∧ n ≤ N ∧ (∀ l, cnt l ≤ n) ∧ ∀ l, cnt l = 0 ↔ d.any (fun x => x.1 == l) = false) ∧ Fr O w0 w

/-- .. and the row is as it will be; the map is not yet written. -/
def MapB (w0 w : World) (O : Nat → Prop) (r qb : Nat) (vo : Value) (on : Nat) (vd : Value) (m : Nat) (q : Df) (d : List Df) (n : Nat) (cnt : Str → Nat) : Prop :=
  w.heap[r]? = some (.cells (rdCs vo vd (.map (some m)) on) 58 (0, 0)) ∧ w.heap[qb]? = some (.cells #[strV q.1, strV q.2.1, strV q.2.2] 41 (0, 0)) ∧
  w.ownsRow 0 41 3 vd d.length (defCs d) ∧ (∀ g, vd.ownBlock = some g → OwnN O w0 w g) ∧ (m < w0.heap.size → O m) ∧ MapK w m n cnt ∧ Fr O w0 w

theorem defCs_snoc (d : List Df) (q : Df) : defCs (d ++ [q]) = defCs d ++ [strV q.1, strV q.2.1, strV q.2.2] := by
  induction d with
  | nil => rfl
  | cons x r ih => simp [defCs, ih]
theorem map_ne {w : World} {m n b : Nat} {cnt : Str → Nat} {cs : Array Value} {t : TypeId} {z : Nat × Nat} (h : MapK w m n cnt) (hb : w.heap[b]? = some (.cells cs t z)) : m ≠ b := by
  obtain ⟨D, ⟨es, ck, x, _⟩, _⟩ := h
  intro e
  rw [e, hb] at x
  cases x
theorem map_row {w : World} {m n k s : Nat} {cnt : Str → Nat} {e : TypeId} {v : Value} {xs : List Value} (h : MapK w m n cnt) (hb : w.ownsRow 0 e s v k xs) : v.ownBlock ≠ some m := by
  intro q
  obtain ⟨cu, x⟩ := row_block hb q
  exact map_ne h x rfl
theorem add_g {a : Option Addr} {n c g r sz : Nat} (h : (Value.slice a n c).ownBlock ≠ some r) (hat : (Value.slice a n c).ownBlock = some g ∨ g = sz) (hr : r < sz) : g ≠ r := by
  intro e
  subst e
  rcases hat with q | q
  · exact h q
  · omega
theorem add_own {O : Nat → Prop} {w w' : World} {a : Option Addr} {n c g sz qb : Nat} (hat : (Value.slice a n c).ownBlock = some g ∨ g = sz) (hO : (Value.slice a n c).ownBlock = some g → O g) (h0 : ∀ k, (Value.slice a n c).ownBlock = some k → k < qb) (hq : w.heap.size = qb) (hs : qb ≤ sz) (hg : g < w'.heap.size) : OwnN O w w' g := by
  rcases hat with q | q
  · exact .inl ⟨by rw [hq]; exact h0 g q, hO q⟩
  · exact .inr ⟨by omega, hg⟩

theorem infoD : (Tryz.prog.info? 41).map (fun i => (i.zero, i.size, i.bytes)) = some (some (.agg #[.string ⟨#[]⟩, .string ⟨#[]⟩, .string ⟨#[]⟩]), 3, 48) := by kernel_rfl
theorem add_apart {w : World} {a : Option Addr} {n c r : Nat} {xs : List Value} {cs : Array Value} {s : Nat} (h : w.ownsRow 0 41 s (.slice a n c) n xs) (hr : w.heap[r]? = some (.cells cs 58 (0, 0))) : (Value.slice a n c).ownBlock ≠ some r := by
  intro e
  obtain ⟨cu, x⟩ := row_block h e
  rw [hr] at x
  cases x

set_option maxHeartbeats 4000000 in
set_option maxRecDepth 20000 in
theorem badd_any {w : World} {O : Nat → Prop} {r on N : Nat} {vo : Value} {d : List Df} {vd vm : Value} (h : w.heap[r]? = some (.cells (rdCs vo vd vm on) 58 (0, 0))) (hr : O r) (hd : DefsV w O vd vm d N) (q : Df) (hq : q.1.length ≤ 1099511627776) (hl : d.length ≤ 1099511627776) (hN : N ≤ 1099511627776) :
    Calls Tryz.prog 86 #[dptr r, dfV q] w fun e w' => e = .returned (.tuple #[]) ∧ DefsR w' (OwnN O w w') r vo on (addD d q) (N + 1) ∧ Fr O w w' := by
  have qT : ∀ (w : World) (r : Option Nat), (binOp .eql 54 (.map r) (.map none)).run Tryz.prog w = .ok (.bool r.isNone) w := fun w r => run_eql_map_nil w _ _ _ r Tryz.underlying54
  have hqb := new_blk w #[strV q.1, strV q.2.1, strV q.2.2] 41
  have hB := (Below.refl w.heap.size w).alloc (Nat.le_refl _) (.cells #[strV q.1, strV q.2.1, strV q.2.2] 41)
  have hrW := blk_below h hB
  have hrow := row_keeps hd.1 (fun g hg => hB.block g (World.ownsRow.lt hd.1 g hg).2)
  generalize hW : w.alloc (.cells #[strV q.1, strV q.2.1, strV q.2.2] 41) = W at *
  have hrlt := lt_of_block h
  generalize hqe : w.heap.size = qb at *
  obtain ⟨mo, rfl⟩ : ∃ mo, vm = .map mo := by
    rcases hd.2.2 with ⟨e, _⟩ | ⟨m, _, _, e, _⟩
    · exact ⟨_, e⟩
    · exact ⟨_, e⟩
  have hmo := hd.2.2
  have c3 := cell_blk hrW (i := 3) rfl
  have f3 := free_blk hrW 3
  simp only [List.getElem_toArray, List.getElem_cons_zero, List.getElem_cons_succ] at c3
  have HD := (show Hid _ from hd)
  have HM := (show Hid _ from hmo)
  have HR := (show Hid _ from hrW)
  have HQ := (show Hid _ from hqb)
  have HRow : Hid (W.ownsRow 0 41 3 vd d.length (defCs d)) := hrow
  have HB := (show Hid _ from hB)
  clear hd hmo hrW hqb hrow hB h
  go_enter Tryz.func86, Tryz.ntmps86
  go_upto_if 8 with fail
  go_cut [] from 4 to 12 (fun wx => (∃ m, Hid (MapAt w wx O r qb vo on vd m q d N)) ∧ Hid (W.heap.size ≤ wx.heap.size))
  case first =>
    cases mo with
    | none =>
      have mk := fun w => run_makeMap (P := Tryz.prog) 54 w
      have hBm := (Below.refl W.heap.size W).alloc (Nat.le_refl _) (.map #[] 0)
      have hr2 := blk_below HR.out hBm
      have c3a := cell_blk hr2 (i := 3) rfl
      have f3a := free_blk hr2 3
      simp only [List.getElem_toArray, List.getElem_cons_zero, List.getElem_cons_succ] at c3a
      have HBM := (show Hid _ from hBm)
      have HR2 := (show Hid _ from hr2)
      clear hBm hr2
      go_wp2
      go_meet
      have hne : ∀ k, k ≠ r → ((W.alloc (.map #[] 0)).setCell ⟨r, 3, none⟩ (.map (some W.heap.size))).heap[k]? = (W.alloc (.map #[] 0)).heap[k]? := fun k hk => Below.heap_setCell _ _ _ _ (by simpa using hk)
      have hWs : r < W.heap.size := lt_of_block HR.out
      have hnr : W.heap.size ≠ r := by omega
      have hqr : qb ≠ r := by omega
      have hrr : ∀ g, vd.ownBlock = some g → g ≠ r := by
        intro g hg e
        obtain ⟨cu, x⟩ := row_block HRow.out hg
        rw [e, HR.out] at x
        cases x
      refine ⟨?_, by show _ ≤ _; simp [World.setCell]⟩
      refine ⟨W.heap.size, set_blk HR2.out 3 _, (hne _ hqr).trans (blk_below HQ.out HBM.out), row_keeps HRow.out (fun g hg => (hne g (hrr g hg)).trans (HBM.out.block g (World.ownsRow.lt HRow.out g hg).2)), HD.out.2.1, ?_, ?_, ?_⟩
      · intro hlt
        have := HB.out.size
        omega
      · refine ⟨0, fun _ => 0, map_keeps (map_made W) (hne _ hnr), Nat.zero_le _, fun _ => Nat.le_refl _, fun l => ?_⟩
        rcases HM.out with ⟨_, e⟩ | ⟨m', _, _, e, _⟩
        · subst e; simp
        · cases e
      · exact ((Fr.of_below (hqe ▸ HB.out)).trans (Fr.of_below HBM.out)).set hr 3 _
    | some m =>
      go_wp2
      go_meet
      refine ⟨?_, Nat.le_refl _⟩
      refine ⟨m, HR.out, HQ.out, HRow.out, HD.out.2.1, ?_, ?_, Fr.of_below (hqe ▸ HB.out)⟩
      · intro _
        rcases HM.out with ⟨e, _⟩ | ⟨m', n, cnt, e, a, _⟩
        · cases e
        · cases e; exact a
      · rcases HM.out with ⟨e, _⟩ | ⟨m', n, cnt, e, a, b, c⟩
        · cases e
        · cases e; exact ⟨n, cnt, map_keeps b (HB.out.block _ (by obtain ⟨D, ⟨es, ck, x, _⟩, _⟩ := b; have := lt_of_block x; omega)), c⟩
  case rest =>
    obtain ⟨⟨m, hma⟩, HWV⟩ := hcut
    clear c3 f3 HR HQ HRow HM
    generalize wc = V at *
    obtain ⟨n, cnt, hmk, hnN, hcn, hc0⟩ := hma.out.2.2.2.2.2.1
    have hlk : ∀ k, (Instr.lookup 54 (.map (some m)) (strV q.1) false).run Tryz.prog (V.drewN k) = .ok (.int .i64 (cnt q.1 : Int)) (V.drewN k) := fun k => map_look (w := V.drewN k) (map_keeps hmk rfl) q.1 hq
    have c3 := cell_blk hma.out.1 (i := 3) rfl
    have q0 := cell_blk hma.out.2.1 (i := 0) rfl
    simp only [List.getElem_toArray, List.getElem_cons_zero, List.getElem_cons_succ] at c3 q0
    have hadd : addD d q = if cnt q.1 = 0 then d ++ [q] else d := by
      unfold addD
      by_cases e : cnt q.1 = 0
      · rw [if_pos e, (hc0 q.1).1 e]; rfl
      · rw [if_neg e]
        cases x : d.any (fun x => x.1 == q.1)
        · exact absurd ((hc0 q.1).2 x) e
        · rfl
    have HA := (show Hid _ from hadd)
    have HMK := (show Hid _ from hmk)
    have HC0 := (show Hid _ from hc0)
    have HCN := (show Hid _ from hcn)
    clear hadd hmk hc0 hcn
    go_wp2
    go_quiet (fail)
    go_upto_if 20 with fail
    have HMA := (show Hid _ from hma.out)
    have HSZ : Hid (W.heap.size ≤ V.heap.size) := HWV.out
    clear c3 q0 hlk
    generalize hV1 : V.drewN nq = V1 at *
    have HV : Hid (∀ k : Nat, V1.heap[k]? = V.heap[k]?) := by intro k; rw [← hV1]; rfl
    have HF1 : Hid (Fr O w V1) := by show Fr _ _ _; rw [← hV1]; exact HMA.out.2.2.2.2.2.2.drewN nq
    go_cut [] from 13 to 30 (fun wx => ∃ vd', Hid (MapB w wx O r qb vo on vd' m q (addD d q) n cnt))
    case first =>
      have hrV := (HV.out r).trans HMA.out.1
      have hqV := (HV.out qb).trans HMA.out.2.1
      have hrow := row_keeps HMA.out.2.2.1 (fun g _ => HV.out g)
      by_cases hz : cnt q.1 = 0
      · have hz' : (cnt q.1 : Int) = 0 := by omega
        obtain ⟨av, cv, hvd, hcv⟩ := row_slice hrow
        subst hvd
        have c2 := cell_blk hrV (i := 2) rfl
        have q0 := cell_blk hqV (i := 0) rfl
        have q1 := cell_blk hqV (i := 1) rfl
        have q2 := cell_blk hqV (i := 2) rfl
        simp only [List.getElem_toArray, List.getElem_cons_zero, List.getElem_cons_succ] at c2 q0 q1 q2
        have a0 := fun o => alc c2 o
        obtain ⟨i0, hi, hz0, hz1, hz2⟩ := info_parts infoD
        have HRV := (show Hid _ from hrV)
        have HQV := (show Hid _ from hqV)
        have HRow : Hid (V1.ownsRow 0 41 3 (.slice av d.length cv) d.length (defCs d)) := hrow
        clear hrV hqV
        go_wp2
        go_region_law (refine step_append_row rfl (.tmp 25) (.tmp 27) 28 rfl 41 i0 _ 3 48 Tryz.underlying28 hi hz0 hz1 hz2 rfl (by decide) (.slice av d.length cv) d.length (defCs d) (by first | rfl | simp [Act.eval, Act.put]) (World.ownsRow.alloc (w := V1.drew) hrow _) ⟨V1.heap.size, 0, none⟩ 1 _ (by first | rfl | simp [Act.eval, Act.put]) rfl (lit_cells V1.drew [strV q.1, strV q.2.1, strV q.2.2] _) (by intro u hu; simp at hu; rcases hu with rfl | rfl | rfl <;> rfl) (by unfold maxLen; omega) (by omega) ?_; intro g c' w2 hown' hgrow hat; have hgr : (Value.slice av d.length cv).ownBlock ≠ some r := add_apart HRow.out HRV.out; have hr5 : w2.heap[r]? = _ := (hgrow.block r (by have := lt_of_block HRV.out; simp; omega) (fun e => hgr e.symm)).trans (blk_below (w := V1.drew) HRV.out ((Below.refl _ _).alloc (Nat.le_refl _) _)); have b25 := cell_blk hr5 (i := 2) rfl; have f25 := free_blk hr5 2; simp only [List.getElem_toArray, List.getElem_cons_zero, List.getElem_cons_succ] at b25; have HO' := (show Hid (w2.ownsRow 0 41 3 (.slice (some ⟨g, 0, none⟩) (d.length + 1) c') (d.length + 1) (defCs d ++ [strV q.1, strV q.2.1, strV q.2.2])) from hown'); have HG' := (show Hid _ from hgrow); have HAT := (show Hid _ from hat); have HB5 := (show Hid _ from hr5); clear hown' hgrow hat hr5)
        all_goals (go_wp2_with fail)
        all_goals go_meet
        all_goals have hV1s : W.heap.size ≤ V1.heap.size := by rw [← hV1]; exact HSZ.out
        all_goals have hg0 : ∀ k, (Value.slice av d.length cv).ownBlock = some k → k < qb := fun k hk => by have := (World.ownsRow.lt HD.out.1 k hk).2; omega
        all_goals have hqlt := lt_of_block HQV.out
        all_goals have hmlt : m < V1.heap.size := map_lt (map_keeps HMK.out (HV.out m))
        all_goals have F2 : Fr O V1 w2 := ((((Fr.refl (fun k => (Value.slice av d.length cv).ownBlock = some k) V1).drewN 1).alloc _).trans (fr_grown HG'.out)).mono (fun k hk => HMA.out.2.2.2.1 k hk)
        all_goals have key : ∀ k, k < V1.heap.size → k ≠ r → (Value.slice av d.length cv).ownBlock ≠ some k → (w2.setCell ⟨r, 2, none⟩ (.slice (some ⟨g, 0, none⟩) (d.length + 1) c')).heap[k]? = V1.heap[k]? := fun k hk hkr hko => (Below.heap_setCell _ _ _ _ (by simpa using hkr)).trans ((HG'.out.block k (by simp; omega) (fun e => hko e.symm)).trans (((Below.refl V1.drew.heap.size V1.drew).alloc (Nat.le_refl _) _).block k hk))
        all_goals have hrsz : r < (V1.drew.alloc (.cells #[strV q.1, strV q.2.1, strV q.2.2] 41)).heap.size := by have := lt_of_block HRV.out; simp; omega
        all_goals have hgsz : g < w2.heap.size := (World.ownsRow.lt HO'.out g rfl).2
        all_goals refine ⟨.slice (some ⟨g, 0, none⟩) (d.length + 1) c', set_blk HB5.out 2 _, (key qb hqlt (by omega) (fun e => by have := hg0 qb e; omega)).trans HQV.out, ?_, ?_, HMA.out.2.2.2.2.1, map_keeps (map_keeps HMK.out (HV.out m)) (key m hmlt ?_ ?_), (HF1.out.trans F2).set hr 2 _⟩
        all_goals first
          | exact map_ne (map_keeps HMK.out (HV.out m)) HRV.out
          | exact map_row (map_keeps HMK.out (HV.out m)) HRow.out
          | (rw [HA.out, if_pos hz, List.length_append, defCs_snoc]; exact row_keeps HO'.out (fun k hk => Below.heap_setCell _ _ _ _ (by cases hk; simpa using add_g hgr HAT.out hrsz)))
          | (intro k hk; cases hk; exact add_own HAT.out (fun e => HMA.out.2.2.2.1 g e) hg0 hqe (by simp; omega) (by simpa [World.setCell] using hgsz))
      · have hz' : ¬ (cnt q.1 : Int) = 0 := by omega
        go_wp2
        go_meet
        refine ⟨vd, hrV, hqV, ?_, fun g hg => .inl ⟨?_, HMA.out.2.2.2.1 g hg⟩, HMA.out.2.2.2.2.1, map_keeps HMK.out (HV.out m), HF1.out⟩
        · rw [HA.out, if_neg hz]; exact hrow
        · exact (World.ownsRow.lt HD.out.1 g hg).2
    case rest =>
      obtain ⟨vd', hmb⟩ := hcut
      clear HMA HSZ HV HF1 hma HWV
      generalize wc = V2 at *
      obtain ⟨D, hown, hat⟩ := hmb.out.2.2.2.2.2.1
      have hlk : ∀ u : BwW V2, (Instr.lookup 54 (.map (some m)) (strV q.1) false).run Tryz.prog u.wo = .ok (.int .i64 (cnt q.1 : Int)) u.wo := fun u => map_look (map_keeps hmb.out.2.2.2.2.2.1 (u.is.block m (map_lt hmb.out.2.2.2.2.2.1))) q.1 hq
      have c3 := fun u : BwW V2 => cell_blk (u.blk hmb.out.1) (i := 3) rfl
      have q0 := fun u : BwW V2 => cell_blk (u.blk hmb.out.2.1) (i := 0) rfl
      simp only [List.getElem_toArray, List.getElem_cons_zero, List.getElem_cons_succ] at c3 q0
      have hcq := HCN.out q.1
      have hci : (cnt q.1 : Int) + 1 ≤ 9223372036854775807 := by omega
      have HOw := (show Hid _ from hown)
      have HAt := (show Hid _ from hat)
      clear hown hat
      go_wp2
      refine region_tail (fun w' => ∃ u : BwW V2, w' = u.wo) 8 (by kernel_rfl) (by kernel_rfl) (BwW.first V2) ?_
      haveI := BwW.some V2
      simp only [List.take_succ_cons, List.take_zero]
      repeat (go_big_quiet_step (fail))
      refine wpQuiet_nil ?_
      intro _ hw'
      obtain ⟨u, hu⟩ := hw'
      subst hu
      simp only [List.drop_succ_cons, List.drop_zero]
      have hown := HOw.out
      have hown' : u.wo.ownsMap Tryz.prog 9 (plainElem Tryz.prog 3) m n D := by
        obtain ⟨es, ck, x, y⟩ := hown
        exact ⟨es, ck, (u.is.block m (lt_of_block x)).trans x, y⟩
      refine wpList_mapUpdate_own u.wo rfl (.tmp 34) (.tmp 36) (.tmp 38) 54 rfl 9 3 (Maps.string_keyed Tryz.underlying9) Tryz.underlying54 (plainElem Tryz.prog 3) m n D (by rfl) hown' (by unfold maxLen; omega) (strV q.1) (.int .i64 ((cnt q.1 : Int) + 1)) (.string q.1) (by rfl) (by rfl) (by rw [Go.WideMaps.keyOf_string_mk Tryz.underlying9 (by rw [size_list]; unfold maxLen; omega), list_data]) (.lit (.int .i64 ((cnt q.1 : Int) + 1))) [] (plainElem_int Tryz.underlying3 (Go.WalkArith.wf_i64 (by omega))) ?_
      intro w3 hown3 hgrow3
      have HU := (show Hid _ from u.is)
      clear c3 q0 hlk
      generalize u.wo = U at *
      go_wp2
      go_end0
      have hmr : r ≠ m := fun e => map_ne hmb.out.2.2.2.2.2.1 hmb.out.1 e.symm
      have keep : ∀ k, k < V2.heap.size → k ≠ m → w3.heap[k]? = V2.heap[k]? := fun k hk hkm => (hgrow3.block k (Nat.lt_of_lt_of_le hk HU.out.size) (fun e => hkm (Option.some.inj e))).trans (HU.out.block k hk)
      have hrl := lt_of_block hmb.out.1
      have FA : Fr O w w3 := (hmb.out.2.2.2.2.2.2.trans (Fr.of_below HU.out)).trans' (fr_grown hgrow3) (fun i hi e => by cases e; exact hmb.out.2.2.2.2.1 hi)
      refine ⟨rfl, ⟨vd', .map (some m), (keep r hrl hmr).trans hmb.out.1, row_keeps hmb.out.2.2.1 (fun g hg => keep g (World.ownsRow.lt hmb.out.2.2.1 g hg).2 (fun e => map_row hmb.out.2.2.2.2.2.1 hmb.out.2.2.1 (e ▸ hg))), ?_, .inr ⟨m, n + 1, _, rfl, ?_, map_put (c := cnt q.1 + 1) hown3 (map_is hown) HAt.out, by omega, ?_, ?_⟩⟩, FA⟩
      · intro g hg
        rcases hmb.out.2.2.2.1 g hg with x | ⟨x, y⟩
        · exact .inl x
        · exact .inr ⟨x, Nat.lt_of_lt_of_le y (Nat.le_trans HU.out.size hgrow3.size)⟩
      · have hm2 := map_lt hmb.out.2.2.2.2.2.1
        rcases Nat.lt_or_ge m w.heap.size with x | x
        · exact .inl ⟨x, hmb.out.2.2.2.2.1 x⟩
        · exact .inr ⟨x, Nat.lt_of_lt_of_le hm2 (Nat.le_trans HU.out.size hgrow3.size)⟩
      · intro l
        have := HCN.out l
        show (if l = q.1 then cnt q.1 + 1 else cnt l) ≤ n + 1
        split <;> omega
      · intro l
        show (if l = q.1 then cnt q.1 + 1 else cnt l) = 0 ↔ _
        have h0 := HC0.out l
        rw [HA.out]
        by_cases hl1 : l = q.1
        · subst hl1
          rw [if_pos rfl]
          by_cases hz : cnt q.1 = 0
          · rw [if_pos hz, List.any_append]; simp
          · rw [if_neg hz]
            have : d.any (fun x => x.1 == q.1) = true := by
              cases x : d.any (fun x => x.1 == q.1)
              · exact absurd (h0.2 x) hz
              · rfl
            rw [this]
            simp
        · rw [if_neg hl1, h0]
          split
          · rw [List.any_append]
            have : (q.1 == l) = false := by simpa using Ne.symm hl1
            simp [this]
          · rfl

end Go.Proofs.YtcbojffcnlkejaaGreatDoor
