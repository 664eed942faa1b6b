/- InlineFirst: of several definitions of one label the first one counts; walked. -/
import Derived.Test.YtjdijlaoeoikhaaGreatDoorWCode8
import Derived.Test.YtjdijlaoeoikhaaGreatDoorIPlainW
import Derived.Maps.AppendAt
set_option linter.unusedVariables false
namespace Go.Proofs.YtjdijlaoeoikhaaGreatDoor
open Go.RowKit

def dfCs : List Df8 → List Value
  | [] => []
  | q :: r => strI q.1 :: strI q.2.1 :: strI q.2.2 :: dfCs r
theorem dfCs_snoc : ∀ (d : List Df8) (q : Df8), dfCs (d ++ [q]) = dfCs d ++ [strI q.1, strI q.2.1, strI q.2.2]
  | [], q => rfl
  | p :: r, q => by
    show strI p.1 :: strI p.2.1 :: strI p.2.2 :: dfCs (r ++ [q]) = _
    rw [dfCs_snoc r q]
    rfl
theorem dfCs_at : ∀ (d : List Df8) (i : Nat) (q : Df8), d[i]? = some q → (dfCs d)[i * 3]? = some (strI q.1) ∧ (dfCs d)[i * 3 + 1]? = some (strI q.2.1) ∧ (dfCs d)[i * 3 + 2]? = some (strI q.2.2)
  | [], i, q, h => by cases h
  | p :: r, 0, q, h => by
    cases h
    exact ⟨rfl, rfl, rfl⟩
  | p :: r, i + 1, q, h => by
    obtain ⟨h1, h2, h3⟩ := dfCs_at r i q h
    have key : ∀ m, (dfCs (p :: r))[m + 3]? = (dfCs r)[m]? := fun m => rfl
    refine ⟨?_, ?_, ?_⟩
    · rw [show (i + 1) * 3 = i * 3 + 3 by omega, key]; exact h1
    · rw [show (i + 1) * 3 + 1 = i * 3 + 1 + 3 by omega, key]; exact h2
    · rw [show (i + 1) * 3 + 2 = i * 3 + 2 + 3 by omega, key]; exact h3
theorem defs_row {w : World} {B : Nat} {v : Value} {ds : List Df8} (h : w.ownsRow B 35 3 v ds.length (dfCs ds)) : DefsAt w v ds := by
  obtain ⟨a, c, rfl⟩ := row_len h
  refine ⟨a, c, rfl, fun i q hq => ?_⟩
  obtain ⟨h1, h2, h3⟩ := dfCs_at ds i q hq
  obtain ⟨g, e, hg, q1⟩ := row_cell h h1
  refine ⟨g, 0, e, hg, ?_, ?_, ?_⟩
  · rw [Nat.zero_add]; exact q1
  · obtain ⟨g', e', _, q⟩ := row_cell h h2; rw [e] at e'; cases e'; rw [Nat.zero_add]; exact q
  · obtain ⟨g', e', _, q⟩ := row_cell h h3; rw [e] at e'; cases e'; rw [Nat.zero_add]; exact q
theorem info8D : (Tryz.prog.info? 35).map (fun i => (i.zero, i.size, i.bytes)) = some (some (.agg #[.string ⟨#[]⟩, .string ⟨#[]⟩, .string ⟨#[]⟩]), 3, 48) := by kernel_rfl
theorem row_kept8 {w w' : World} {B e s : Nat} {v : Value} {n : Nat} {xs : List Value} (h : w.ownsRow B e s v n xs) (hb : Below w.heap.size w w') : w'.ownsRow B e s v n xs := irow_keeps h (fun g hg => hb.block g (World.ownsRow.lt h g hg).2)
theorem dfs_len (os ps : List Str8) : (dfsI os ps).length = os.length + ps.length := by simp [dfsI]
theorem dfs_other (os : List Str8) (o : Str8) : dfsI (os ++ [o]) [] = dfsI os [] ++ [(120 :: o, [47, 110, 111], [])] := by simp [dfsI]
theorem dfs_place (os ps : List Str8) (p : Str8) : dfsI os (ps ++ [p]) = dfsI os ps ++ [(oneL, 47 :: p, [])] := by simp [dfsI]
def wantI (ps : List Str8) : Str8 := match ps with
  | [] => []
  | p :: _ => 47 :: p
theorem dfs_short (os ps : List Str8) (h : ∀ o ∈ os, o.length ≤ 20) : ∀ d ∈ dfsI os ps, d.1.length ≤ 1099511627776 := by
  intro d hd
  unfold dfsI at hd
  rcases List.mem_append.1 hd with q | q
  · obtain ⟨o, ho, rfl⟩ := List.mem_map.1 q
    have := h o ho
    simp only [List.length_cons]
    omega
  · obtain ⟨p, _, rfl⟩ := List.mem_map.1 q
    show (7 : Nat) ≤ _
    decide

theorem inrow_one2 {w : World} {b : II} {k : Is} {v : Value} (h : InRow w (.cons b k .nil) v) : ∃ g c v', v = .slice (some ⟨g, 0, none⟩) 1 c ∧ w.cell? ⟨g, 0, none⟩ = some (.int .i64 (b.kind : Int)) ∧ w.cell? ⟨g, 1, none⟩ = some (strW b.text) ∧ w.cell? ⟨g, 2, none⟩ = some (strW b.dest) ∧ w.cell? ⟨g, 4, none⟩ = some v' ∧ InRow w k v' := by
  obtain ⟨ys, hr, hk⟩ := h
  obtain ⟨v', ys', zs, e, h1, h2, h3, h4⟩ := hk
  have h4 : zs = [] := h4
  subst h4
  subst e
  obtain ⟨a, c, rfl⟩ := row_len hr
  obtain ⟨g, rfl, _, q0⟩ := row_cell hr (j := 0) rfl
  refine ⟨g, c, v', rfl, q0, ?_, ?_, ?_, ys', h1, h3⟩
  · obtain ⟨g', e, _, q⟩ := row_cell hr (j := 1) rfl; cases e; exact q
  · obtain ⟨g', e, _, q⟩ := row_cell hr (j := 2) rfl; cases e; exact q
  · obtain ⟨g', e, _, q⟩ := row_cell hr (j := 4) rfl; cases e; exact q

set_option maxHeartbeats 8000000 in
set_option maxRecDepth 20000 in
theorem wfirst8 (a0 : Option Addr) (b0 o0 len0 cap0 : Nat) (txt0 : Nat → ByteArray) (a1 : Option Addr) (b1 o1 len1 cap1 : Nat) (txt1 : Nat → ByteArray) (w : World) (hm : Glob w)
    (e01 : 0 < len0 → a0 = some ⟨b0, o0, none⟩) (e02 : ∀ i, i < len0 → w.cell? ⟨b0, o0 + i, none⟩ = some (.string (txt0 i))) (e03 : len0 ≤ maxLen) (e04 : ∀ i, (txt0 i).size ≤ maxLen)
    (e11 : 0 < len1 → a1 = some ⟨b1, o1, none⟩) (e12 : ∀ i, i < len1 → w.cell? ⟨b1, o1 + i, none⟩ = some (.string (txt1 i))) (e13 : len1 ≤ maxLen) (e14 : ∀ i, (txt1 i).size ≤ maxLen) :
    Calls Tryz.prog 6 #[.slice a0 len0 cap0, .slice a1 len1 cap1] w fun e w' => e = .returned (.bool true) ∧ Below w.heap.size w w' := by
  unfold maxLen at e03 e04 e13 e14
  have HS : Hid (Calls Tryz.prog 7 #[] w fun e w' => e = .returned (.bool true) ∧ Below w.heap.size w w') := ishown_any w hm
  have HG := (show Hid (Glob w) from hm)
  have h3 := hm.2.2
  have HBL0 : Hid (0 < len0 → b0 < w.heap.size) := fun h => World.block_lt_of_cell? w ⟨b0, o0 + 0, none⟩ (e02 0 h)
  have HBL1 : Hid (0 < len1 → b1 < w.heap.size) := fun h => World.block_lt_of_cell? w ⟨b1, o1 + 0, none⟩ (e12 0 h)
  have E01 := (show Hid (0 < len0 → a0 = some ⟨b0, o0, none⟩) from e01)
  have E02 := (show Hid (∀ i, i < len0 → w.cell? ⟨b0, o0 + i, none⟩ = some (.string (txt0 i))) from e02)
  have E11 := (show Hid (0 < len1 → a1 = some ⟨b1, o1, none⟩) from e11)
  have E12 := (show Hid (∀ i, i < len1 → w.cell? ⟨b1, o1 + i, none⟩ = some (.string (txt1 i))) from e12)
  have HW0 : Hid (∀ i u, Calls Tryz.prog 12 #[.string (txt0 i), .int .i64 50] u fun e w' => ∃ l : List UInt8, e = .returned (.string ⟨l.toArray⟩) ∧ (∀ c ∈ l, lowB c = true) ∧ l.length ≤ 50 ∧ Below u.heap.size u w') := fun i u => iplain_any (txt0 i) (by have := e04 i; omega) 50 (by omega) u
  have HW1 : Hid (∀ i u, Calls Tryz.prog 12 #[.string (txt1 i), .int .i64 20] u fun e w' => ∃ l : List UInt8, e = .returned (.string ⟨l.toArray⟩) ∧ (∀ c ∈ l, lowB c = true) ∧ l.length ≤ 20 ∧ Below u.heap.size u w') := fun i u => iplain_any (txt1 i) (by have := e14 i; omega) 20 (by omega) u
  obtain ⟨n0, hn0⟩ : ∃ n, n = min len0 10 := ⟨_, rfl⟩
  obtain ⟨n1, hn1⟩ : ∃ n, n = min len1 10 := ⟨_, rfl⟩
  clear hm e01 e02 e04 e11 e12 e14
  obtain ⟨i0, hi, hz0, hz1, hz2⟩ := info_parts info8D
  go_enter Tryz.func6, Tryz.ntmps6
  go_wp2_with (go_at_call 7; refine Calls.mono HS.out ?_; rintro e u1 ⟨rfl, hb1⟩; have HB1 := (show Hid (Below _ _ _) from hb1); clear hb1)
  go_loopw [6, 7] (fun v i wr => ∃ (k : Nat) (os : List Str8), i = .int .i64 (k : Int) ∧ k ≤ n1 ∧ os.length = k ∧ Hid (∀ o ∈ os, o.length ≤ 20) ∧ Hid (wr.ownsRow w.heap.size 35 3 v k (dfCs (dfsI os []))) ∧ Hid (Below w.heap.size w wr)) (fun _ i _ => n1 - (intOf i).toNat)
  case atStart => exact ⟨0, [], rfl, Nat.zero_le _, rfl, (fun o ho => by cases ho), World.ownsRow_nil _ _ _ _, HB1⟩
  case round =>
    obtain ⟨k, os, rfl, hk, hol, HO, HR, HBr⟩ := hrel
    obtain ⟨va, vc, hv⟩ := row_len HR.out
    subst hv
    by_cases hlt : k < n1
    · have hlt1 : (k : Int) < (len1 : Int) := by omega
      have hlt2 : (k : Int) < 10 := by omega
      have hao := E11.out (by omega)
      subst hao
      have hck : wr.cell? ⟨b1, o1 + k, none⟩ = some (.string (txt1 k)) := (HBr.out.cell (p := ⟨b1, o1 + k, none⟩) (HBL1.out (by omega))).trans (E12.out k (by omega))
      have HWk := (show Hid (∀ u, Calls Tryz.prog 12 #[.string (txt1 k), .int .i64 20] u fun e w' => ∃ l : List UInt8, e = .returned (.string ⟨l.toArray⟩) ∧ (∀ c ∈ l, lowB c = true) ∧ l.length ≤ 20 ∧ Below u.heap.size u w') from HW1.out k)
      generalize txt1 k = tx at *
      clear E01 E02 E11 E12 HBL0 HBL1 HW0 HS HG
      have hsz := HBr.out.size
      go_wp2_with (first
        | (go_at_call 12; refine Calls.mono (HWk.out _) ?_; rintro e u2 ⟨o, rfl, _, hon, hb2⟩; have HB2 := (show Hid (Below _ _ _) from hb2); have HR2 := (show Hid (World.ownsRow _ _ _ _ _ _ _) from row_kept8 HR.out hb2); obtain ⟨O, hO⟩ : ∃ O : Str8, O = [120] ++ o := ⟨_, rfl⟩; have dO := sadd8 [120] o (by simp only [List.length_cons, List.length_nil]; omega); rw [← hO] at dO; have HOO := (show Hid (O = [120] ++ o) from hO); clear hb2 hO)
        | (at_builtin; refine wpList_append_own_at _ rfl _ _ 22 rfl w.heap.size 35 i0 (.agg #[.string ⟨#[]⟩, .string ⟨#[]⟩, .string ⟨#[]⟩]) 3 48 Tryz.underlying22 hi hz0 hz1 hz2 rfl (by decide) _ _ _ rfl (World.ownsRow.alloc HR2.out _) ⟨u2.heap.size, 0, none⟩ 1 1 [strI O, .string ⟨#[47, 110, 111]⟩, .string ⟨#[]⟩] rfl rfl (lit_cells _ _ _) ?c2 ?c3 ?c4 ?c5 ?_))
      case c2 => intro u hu; simp at hu; rcases hu with rfl | rfl | rfl <;> rfl
      case c3 => unfold maxLen; omega
      case c4 => omega
      case c5 => have := (HBr.out.trans (HB2.out.mono HBr.out.size)).size; simp; omega
      intro v' w2 hown' hgrow _ hat
      have HO' : Hid (w2.ownsRow w.heap.size 35 3 v' (k + 1) (dfCs (dfsI (os ++ [o]) []))) := by
        show World.ownsRow _ _ _ _ _ _ _
        rw [dfs_other, dfCs_snoc]
        have e : strI O = strI (120 :: o) := by rw [HOO.out]; rfl
        rw [e] at hown'
        exact hown'
      have hW5 := HBr.out.trans (HB2.out.mono HBr.out.size)
      have HW2 : Hid (Below w.heap.size w w2) := (hW5.alloc hW5.size _).grown hgrow (by have := hW5.size; simp; omega) (fun k hk => (World.ownsRow.lt HR2.out k hk).1)
      have HOS : Hid (∀ p ∈ os ++ [o], p.length ≤ 20) := fun p hp => by
        rcases List.mem_append.1 hp with q | q
        · exact HO.out p q
        · rw [List.mem_singleton.1 q]; exact hon
      clear hown' hgrow hat hW5 HB2 HR2 hi hz0 hz1 hz2
      go_wp2
      go_roundw
      case rel => exact ⟨k + 1, os ++ [o], by go_num, by omega, by rw [List.length_append, hol]; rfl, HOS, HO', HW2⟩
      case measure => (simp [intOf]) <;> omega
    · have hkn : k = n1 := by omega
      have hex : (¬ (k : Int) < (len1 : Int)) ∨ ((k : Int) < (len1 : Int) ∧ ¬ (k : Int) < 10) := by omega
      have hk10 : k ≤ 10 := by omega
      clear hlt hk hkn hn1 HW1 E11 E12 HBL1
      rcases hex with hex | ⟨hex, hex2⟩
      all_goals
        go_wp2
        go_loopw [6, 8, 9] (fun v wn i wr2 => ∃ (j : Nat) (ps : List Str8) (WN : Str8), i = .int .i64 (j : Int) ∧ j ≤ n0 ∧ ps.length = j ∧ wn = strI WN ∧ Hid (WN = wantI ps) ∧ Hid (wr2.ownsRow w.heap.size 35 3 v (k + j) (dfCs (dfsI os ps))) ∧ Hid (Below w.heap.size w wr2)) (fun _ _ i _ => n0 - (intOf i).toNat)
        case atStart => exact ⟨0, [], [], rfl, Nat.zero_le _, rfl, rfl, rfl, HR, HBr⟩
        case round =>
          obtain ⟨j, ps, WN, rfl, hj, hpl, rfl, HWN, HR3, HB3⟩ := hrel
          obtain ⟨va3, vc3, hv⟩ := row_len HR3.out
          subst hv
          by_cases hlt : j < n0
          · have hlt1 : (j : Int) < (len0 : Int) := by omega
            have hlt2 : (j : Int) < 10 := by omega
            have hao := E01.out (by omega)
            subst hao
            have hck := (show _ = _ from (HB3.out.cell (p := ⟨b0, o0 + j, none⟩) (HBL0.out (by omega))).trans (E02.out j (by omega)))
            have HWk := (show Hid (∀ u, Calls Tryz.prog 12 #[.string (txt0 j), .int .i64 50] u fun e w' => ∃ l : List UInt8, e = .returned (.string ⟨l.toArray⟩) ∧ (∀ c ∈ l, lowB c = true) ∧ l.length ≤ 50 ∧ Below u.heap.size u w') from HW0.out j)
            generalize txt0 j = tx at *
            clear E01 E02 HBL0 HW0 HS HG HR HBr
            have hsz := HB3.out.size
            by_cases h0 : j = 0
            · have hps : ps = [] := List.length_eq_zero_iff.1 (hpl.trans h0)
              subst hps
              have hz : ((j : Int) == 0) = true := by simp; omega
              clear h0
              go_wp2_with (first
                | (go_at_call 12; refine Calls.mono (HWk.out _) ?_; rintro e u4 ⟨o, rfl, _, hon, hb4⟩; have HB4 := (show Hid (Below _ _ _) from hb4); have HR4 := (show Hid (World.ownsRow _ _ _ _ _ _ _) from row_kept8 HR3.out hb4); obtain ⟨O, hO⟩ : ∃ O : Str8, O = [47] ++ o := ⟨_, rfl⟩; have dO := sadd8 [47] o (by simp only [List.length_cons, List.length_nil]; omega); rw [← hO] at dO; have HOO := (show Hid (O = [47] ++ o) from hO); clear hb4 hO)
                | (at_builtin; refine wpList_append_own_at _ rfl _ _ 22 rfl w.heap.size 35 i0 (.agg #[.string ⟨#[]⟩, .string ⟨#[]⟩, .string ⟨#[]⟩]) 3 48 Tryz.underlying22 hi hz0 hz1 hz2 rfl (by decide) _ _ _ rfl (World.ownsRow.alloc HR4.out _) ⟨u4.heap.size, 0, none⟩ 1 1 [.string ⟨#[116, 104, 101, 32, 111, 110, 101]⟩, strI O, .string ⟨#[]⟩] rfl rfl (lit_cells _ _ _) ?c2 ?c3 ?c4 ?c5 ?_))
              case c2 => intro u hu; simp at hu; rcases hu with rfl | rfl | rfl <;> rfl
              case c3 => unfold maxLen; omega
              case c4 => omega
              case c5 => have := (HB3.out.trans (HB4.out.mono HB3.out.size)).size; simp; omega
              intro v' w2 hown' hgrow _ hat
              have HO' : Hid (w2.ownsRow w.heap.size 35 3 v' (k + (j + 1)) (dfCs (dfsI os ([] ++ [o])))) := by
                show World.ownsRow _ _ _ _ _ _ _
                rw [dfs_place, dfCs_snoc]
                have e : strI O = strI (47 :: o) := by rw [HOO.out]; rfl
                rw [e] at hown'
                exact hown'
              have hW5 := HB3.out.trans (HB4.out.mono HB3.out.size)
              have HW2 : Hid (Below w.heap.size w w2) := (hW5.alloc hW5.size _).grown hgrow (by have := hW5.size; simp; omega) (fun k hk => (World.ownsRow.lt HR4.out k hk).1)
              have HWN2 : Hid (O = wantI ([] ++ [o])) := HOO.out
              clear hown' hgrow hat hW5 HB4 HR4 hi hz0 hz1 hz2
              go_wp2
              go_roundw
              case rel => exact ⟨j + 1, [] ++ [o], O, by go_num, by omega, by rw [List.length_append, hpl]; rfl, rfl, HWN2, HO', HW2⟩
              case measure => (simp [intOf]) <;> omega
            · have hz : ((j : Int) == 0) = false := by simp; omega
              go_wp2_with (first
                | (go_at_call 12; refine Calls.mono (HWk.out _) ?_; rintro e u4 ⟨o, rfl, _, hon, hb4⟩; have HB4 := (show Hid (Below _ _ _) from hb4); have HR4 := (show Hid (World.ownsRow _ _ _ _ _ _ _) from row_kept8 HR3.out hb4); obtain ⟨O, hO⟩ : ∃ O : Str8, O = [47] ++ o := ⟨_, rfl⟩; have dO := sadd8 [47] o (by simp only [List.length_cons, List.length_nil]; omega); rw [← hO] at dO; have HOO := (show Hid (O = [47] ++ o) from hO); clear hb4 hO)
                | (at_builtin; refine wpList_append_own_at _ rfl _ _ 22 rfl w.heap.size 35 i0 (.agg #[.string ⟨#[]⟩, .string ⟨#[]⟩, .string ⟨#[]⟩]) 3 48 Tryz.underlying22 hi hz0 hz1 hz2 rfl (by decide) _ _ _ rfl (World.ownsRow.alloc HR4.out _) ⟨u4.heap.size, 0, none⟩ 1 1 [.string ⟨#[116, 104, 101, 32, 111, 110, 101]⟩, strI O, .string ⟨#[]⟩] rfl rfl (lit_cells _ _ _) ?c2 ?c3 ?c4 ?c5 ?_))
              case c2 => intro u hu; simp at hu; rcases hu with rfl | rfl | rfl <;> rfl
              case c3 => unfold maxLen; omega
              case c4 => omega
              case c5 => have := (HB3.out.trans (HB4.out.mono HB3.out.size)).size; simp; omega
              intro v' w2 hown' hgrow _ hat
              have HO' : Hid (w2.ownsRow w.heap.size 35 3 v' (k + (j + 1)) (dfCs (dfsI os (ps ++ [o])))) := by
                show World.ownsRow _ _ _ _ _ _ _
                rw [dfs_place, dfCs_snoc]
                have e : strI O = strI (47 :: o) := by rw [HOO.out]; rfl
                rw [e] at hown'
                exact hown'
              have hW5 := HB3.out.trans (HB4.out.mono HB3.out.size)
              have HW2 : Hid (Below w.heap.size w w2) := (hW5.alloc hW5.size _).grown hgrow (by have := hW5.size; simp; omega) (fun k hk => (World.ownsRow.lt HR4.out k hk).1)
              have HWN2 : Hid (WN = wantI (ps ++ [o])) := by
                show _ = _
                rw [HWN.out]
                cases ps with
                | nil => exact absurd hpl.symm h0
                | cons a b => rfl
              clear hown' hgrow hat hW5 HB4 HR4 hi hz0 hz1 hz2
              go_wp2
              go_roundw
              case rel => exact ⟨j + 1, ps ++ [o], WN, by go_num, by omega, by rw [List.length_append, hpl]; rfl, rfl, HWN2, HO', HW2⟩
              case measure => (simp [intOf]) <;> omega
          · have hjn : j = n0 := by omega
            have hjex : (¬ (j : Int) < (len0 : Int)) ∨ ((j : Int) < (len0 : Int) ∧ ¬ (j : Int) < 10) := by omega
            have hj10 : j ≤ 10 := by omega
            have HPx : Hid (∀ u, Below w.heap.size w u → DefsAt u (.slice va3 (k + j) vc3) (dfsI os ps) → Calls Tryz.prog 9 #[.string ⟨#[91, 84, 104, 101, 32, 32, 32, 79, 78, 69, 93]⟩, .slice va3 (k + j) vc3] u fun e w' => ∃ v', e = .returned v' ∧ InRow w' (match ps.head? with
                | none => .cons { text := oneT } .nil .nil
                | some p => .cons { kind := 6, dest := 47 :: p } (.cons { text := oneW } .nil .nil) .nil) v' ∧ Below w.heap.size w w') := fun u hu hd => by
              have := iparse_any oneT (by decide) (dfsI os ps) (by rw [dfs_len]; omega) (dfs_short os ps HO.out) _ u hd (HG.out.below h3 hu)
              rw [first_parse] at this
              refine this.mono ?_
              rintro e w' ⟨v', rfl, hr, hb⟩
              exact ⟨v', rfl, hr, hu.trans (hb.mono hu.size)⟩
            have hl : (dfsI os ps).length = k + j := by rw [dfs_len, hol, hpl]
            have hr := HR3.out
            rw [← hl] at hr
            have hd := defs_row hr
            rw [hl] at hd
            have HD3 := (show Hid (DefsAt _ _ _) from hd)
            clear hr hd hl HR3 HR HO HG HS HW0 E01 E02 HBL0 hjn hlt hj
            rcases hjex with hjex | ⟨hjex, hjex2⟩
            all_goals
              cases ps with
              | nil =>
                have hw0 : WN = [] := HWN.out
                subst hw0
                go_wp2_with (go_at_call 9; refine Calls.mono (HPx.out _ HB3.out HD3.out) ?_; rintro e u5 ⟨v', rfl, hr5, hb5⟩; obtain ⟨g, c, v2, rfl, k0, k1, k4, _⟩ := inrow_one hr5; have HB5 := (show Hid (Below _ _ _) from hb5); clear hb5 hr5)
                go_ret
                exact ⟨rfl, HB5.out⟩
              | cons q qs =>
                have hw0 : WN = 47 :: q := HWN.out
                have hne : (WN == []) = false := by rw [hw0]; rfl
                have HW5 : Hid (strW (47 :: q) = strI WN) := by show _ = _; rw [hw0]
                have hww : (WN == WN) = true := by simp
                clear hw0 HWN
                go_wp2_with (go_at_call 9; refine Calls.mono (HPx.out _ HB3.out HD3.out) ?_; rintro e u5 ⟨v', rfl, hr5, hb5⟩; obtain ⟨g, c, v2, rfl, k0, k1, k2, k4, hr6⟩ := inrow_one2 hr5; obtain ⟨g2, c2, v3, rfl, m0, m1, m4, _⟩ := inrow_one hr6; have HB5 := (show Hid (Below _ _ _) from hb5); replace k2 := k2.trans (congrArg some HW5.out); clear hb5 hr5 hr6)
                go_ret
                exact ⟨rfl, HB5.out⟩
end Go.Proofs.YtjdijlaoeoikhaaGreatDoor
