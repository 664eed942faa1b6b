/- InlineForms: each part has just what a part of its kind has; walked. -/
import Derived.Test.YtjdijlaoeoikhaaGreatDoorIFormedT
import Derived.Test.YtjdijlaoeoikhaaGreatDoorIFormedF
import Derived.Test.YtjdijlaoeoikhaaGreatDoorH02
import Derived.Maps.AppendAt
set_option linter.unusedVariables false
namespace Go.Proofs.YtjdijlaoeoikhaaGreatDoor
open Go.RowKit

def dfCs : List Df8 → List Value
  | [] => []
  | q :: r => strI q.1 :: strI q.2.1 :: strI q.2.2 :: dfCs r
theorem dfCs_snoc : ∀ (d : List Df8) (q : Df8), dfCs (d ++ [q]) = dfCs d ++ [strI q.1, strI q.2.1, strI q.2.2]
  | [], q => rfl
  | p :: r, q => by
    show strI p.1 :: strI p.2.1 :: strI p.2.2 :: dfCs (r ++ [q]) = _
    rw [dfCs_snoc r q]
    rfl
theorem dfCs_at : ∀ (d : List Df8) (i : Nat) (q : Df8), d[i]? = some q → (dfCs d)[i * 3]? = some (strI q.1) ∧ (dfCs d)[i * 3 + 1]? = some (strI q.2.1) ∧ (dfCs d)[i * 3 + 2]? = some (strI q.2.2)
  | [], i, q, h => by cases h
  | p :: r, 0, q, h => by
    cases h
    exact ⟨rfl, rfl, rfl⟩
  | p :: r, i + 1, q, h => by
    obtain ⟨h1, h2, h3⟩ := dfCs_at r i q h
    have key : ∀ m, (dfCs (p :: r))[m + 3]? = (dfCs r)[m]? := fun m => rfl
    refine ⟨?_, ?_, ?_⟩
    · rw [show (i + 1) * 3 = i * 3 + 3 by omega, key]; exact h1
    · rw [show (i + 1) * 3 + 1 = i * 3 + 1 + 3 by omega, key]; exact h2
    · rw [show (i + 1) * 3 + 2 = i * 3 + 2 + 3 by omega, key]; exact h3
theorem defs_row {w : World} {B : Nat} {v : Value} {ds : List Df8} (h : w.ownsRow B 35 3 v ds.length (dfCs ds)) : DefsAt w v ds := by
  obtain ⟨a, c, rfl⟩ := row_len h
  refine ⟨a, c, rfl, fun i q hq => ?_⟩
  obtain ⟨h1, h2, h3⟩ := dfCs_at ds i q hq
  obtain ⟨g, e, hg, q1⟩ := row_cell h h1
  refine ⟨g, 0, e, hg, ?_, ?_, ?_⟩
  · rw [Nat.zero_add]; exact q1
  · obtain ⟨g', e', _, q⟩ := row_cell h h2; rw [e] at e'; cases e'; rw [Nat.zero_add]; exact q
  · obtain ⟨g', e', _, q⟩ := row_cell h h3; rw [e] at e'; cases e'; rw [Nat.zero_add]; exact q
theorem info8D : (Tryz.prog.info? 35).map (fun i => (i.zero, i.size, i.bytes)) = some (some (.agg #[.string ⟨#[]⟩, .string ⟨#[]⟩, .string ⟨#[]⟩]), 3, 48) := by kernel_rfl
theorem row_kept8 {w w' : World} {B e s : Nat} {v : Value} {n : Nat} {xs : List Value} (h : w.ownsRow B e s v n xs) (hb : Below w.heap.size w w') : w'.ownsRow B e s v n xs := irow_keeps h (fun g hg => hb.block g (World.ownsRow.lt h g hg).2)

set_option maxHeartbeats 8000000 in
set_option maxRecDepth 20000 in
/-- some: a hundred definitions at most, of short texts. -/
theorem isome_any (a : Option Addr) (b o len cap : Nat) (lb de ti : Nat → Str8) (w : World) (e1 : 0 < len → a = some ⟨b, o, none⟩) (e2 : ∀ i, i < len → w.cell? ⟨b, o + i * 3, none⟩ = some (strI (lb i)) ∧ w.cell? ⟨b, o + i * 3 + 1, none⟩ = some (strI (de i)) ∧ w.cell? ⟨b, o + i * 3 + 2, none⟩ = some (strI (ti i)))
    (e3 : len ≤ maxLen) (e4 : ∀ i, (lb i).length ≤ 140737488355328 ∧ (de i).length ≤ 140737488355328 ∧ (ti i).length ≤ 140737488355328) :
    Calls Tryz.prog 11 #[.slice a len cap] w fun e w' => ∃ v', e = .returned v' ∧ ∃ ds, DefsAt w' v' ds ∧ ds.length ≤ 100 ∧ (∀ d ∈ ds, d.1.length ≤ 300) ∧ Below w.heap.size w w' := by
  unfold maxLen at e3
  have HBL : Hid (0 < len → b < w.heap.size) := fun h => World.block_lt_of_cell? w ⟨b, o + 0 * 3, none⟩ (e2 0 h).1
  have E1 := (show Hid (0 < len → a = some ⟨b, o, none⟩) from e1)
  have E2 := (show Hid (∀ i, i < len → w.cell? ⟨b, o + i * 3, none⟩ = some (strI (lb i)) ∧ w.cell? ⟨b, o + i * 3 + 1, none⟩ = some (strI (de i)) ∧ w.cell? ⟨b, o + i * 3 + 2, none⟩ = some (strI (ti i))) from e2)
  have E4 := (show Hid (∀ i, (lb i).length ≤ 140737488355328 ∧ (de i).length ≤ 140737488355328 ∧ (ti i).length ≤ 140737488355328) from e4)
  obtain ⟨n, hn⟩ : ∃ n, n = min len 100 := ⟨_, rfl⟩
  clear e1 e2 e4
  obtain ⟨i0, hi, hz0, hz1, hz2⟩ := info_parts info8D
  go_enter Tryz.func11, Tryz.ntmps11
  go_wp2
  go_loopw [3, 4] (fun v i wr => ∃ (k : Nat) (ds : List Df8), i = .int .i64 (k : Int) ∧ k ≤ n ∧ ds.length ≤ k ∧ Hid (∀ d ∈ ds, d.1.length ≤ 300) ∧ Hid (wr.ownsRow w.heap.size 35 3 v ds.length (dfCs ds)) ∧ Hid (Below w.heap.size w wr)) (fun _ i _ => n - (intOf i).toNat)
  case atStart => exact ⟨0, [], rfl, Nat.zero_le _, Nat.le_refl _, (fun o ho => by cases ho), World.ownsRow_nil _ _ _ _, Below.refl _ _⟩
  case round =>
    obtain ⟨k, ds, rfl, hk, hdl, HD, HR, HBr⟩ := hrel
    by_cases hlt : k < n
    · have hlt1 : (k : Int) < (len : Int) := by omega
      have hlt2 : (k : Int) < 100 := by omega
      have hao := E1.out (by omega)
      subst hao
      obtain ⟨f1, f2, f3⟩ := E2.out k (by omega)
      obtain ⟨l1, l2, l3⟩ := E4.out k
      have hbl := HBL.out (by omega)
      have c1 := (show _ = _ from (HBr.out.cell (p := ⟨b, o + k * 3, none⟩) hbl).trans f1)
      have c2 := (show _ = _ from (HBr.out.cell (p := ⟨b, o + k * 3 + 1, none⟩) hbl).trans f2)
      have c3 := (show _ = _ from (HBr.out.cell (p := ⟨b, o + k * 3 + 2, none⟩) hbl).trans f3)
      generalize lb k = X at *
      generalize de k = Y at *
      generalize ti k = Z at *
      obtain ⟨va, vc, hv⟩ := row_len HR.out
      subst hv
      clear f1 f2 f3 E1 E2 E4 HBL hn
      have l1i : (X.length : Int) ≤ 140737488355328 := by omega
      have l2i : (Y.length : Int) ≤ 140737488355328 := by omega
      have l3i : (Z.length : Int) ≤ 140737488355328 := by omega
      by_cases hs : X.length + Y.length + Z.length ≤ 300
      · have hsi : (X.length : Int) + (Y.length : Int) + (Z.length : Int) ≤ 300 := by omega
        have HRd := (show Hid (World.ownsRow _ _ _ _ _ _ _) from irow_keeps (w' := wr.drew) HR.out (fun g hg => rfl))
        have HBd := (show Hid (Below w.heap.size w wr.drew) from HBr.out.trans ⟨rfl, rfl, rfl, Nat.le_refl _, fun k hk => rfl⟩)
        go_wp2
        go_region
        go_wp2_with (at_builtin; refine wpList_append_own_at _ rfl _ _ 22 rfl w.heap.size 35 i0 (.agg #[.string ⟨#[]⟩, .string ⟨#[]⟩, .string ⟨#[]⟩]) 3 48 Tryz.underlying22 hi hz0 hz1 hz2 rfl (by decide) _ _ _ rfl (World.ownsRow.alloc HRd.out _) ⟨wr.drew.heap.size, 0, none⟩ 1 1 [strI X, strI Y, strI Z] rfl rfl (lit_cells _ _ _) ?c2 ?c3 ?c4 ?c5 ?_)
        case c2 => intro u hu; simp at hu; rcases hu with rfl | rfl | rfl <;> rfl
        case c3 => unfold maxLen; omega
        case c4 => omega
        case c5 => have := HBr.out.size; simp; omega
        intro v' w2 hown' hgrow _ hat
        have HO' : Hid (w2.ownsRow w.heap.size 35 3 v' (ds ++ [(X, Y, Z)]).length (dfCs (ds ++ [(X, Y, Z)]))) := by
          show World.ownsRow _ _ _ _ _ _ _
          rw [dfCs_snoc, List.length_append]
          exact hown'
        have HW2 : Hid (Below w.heap.size w w2) := (HBd.out.alloc HBd.out.size _).grown hgrow (by have := HBr.out.size; simp; omega) (fun k hk => (World.ownsRow.lt HRd.out k hk).1)
        have HDS : Hid (∀ d ∈ ds ++ [(X, Y, Z)], d.1.length ≤ 300) := fun p hp => by
          rcases List.mem_append.1 hp with q | q
          · exact HD.out p q
          · rw [List.mem_singleton.1 q]
            show X.length ≤ 300
            omega
        clear hown' hgrow hat hi hz0 hz1 hz2
        go_wp2
        go_roundw
        case rel => exact ⟨k + 1, ds ++ [(X, Y, Z)], by go_num, by omega, by rw [List.length_append]; simp; omega, HDS, HO', HW2⟩
        case measure => (simp [intOf]) <;> omega
      · have hsi : ¬ (X.length : Int) + (Y.length : Int) + (Z.length : Int) ≤ 300 := by omega
        have HRd := (show Hid (World.ownsRow _ _ _ _ _ _ _) from irow_keeps (w' := wr.drew) HR.out (fun g hg => rfl))
        have HBd := (show Hid (Below w.heap.size w wr.drew) from HBr.out.trans ⟨rfl, rfl, rfl, Nat.le_refl _, fun k hk => rfl⟩)
        go_wp2
        go_region
        all_goals (go_wp2_with fail)
        all_goals exact ⟨⟨k + 1, ds, by go_num, by omega, by omega, HD, HRd, HBd⟩, by simp [intOf]; omega⟩
    · have hkn : k = n := by omega
      have hex : (¬ (k : Int) < (len : Int)) ∨ ((k : Int) < (len : Int) ∧ ¬ (k : Int) < 100) := by omega
      have hd := (show Hid (DefsAt _ _ _) from defs_row HR.out)
      have hlen : ds.length ≤ 100 := by omega
      obtain ⟨va, vc, hv⟩ := row_len HR.out
      subst hv
      clear hlt hk hkn hn E1 E2 E4 HBL HR
      rcases hex with hex | ⟨hex, hex2⟩
      all_goals
        go_wp2
        go_ret
        exact ⟨_, rfl, ds, hd.out, hlen, (fun a _ _ h => HD.out _ h), HBr.out⟩

theorem ishort_any (l : Str8) (hs : l.length ≤ 140737488351232) (w : World) :
    Calls Tryz.prog 10 #[strI l] w fun e w' => e = .returned (strI (l.take 4096)) ∧ w' = w := by
  by_cases h : 4096 < l.length
  · have hi : (4096 : Int) < (l.length : Int) := by omega
    have hi2 : (4096 : Int) ≤ (l.length : Int) := by omega
    have hx : (ByteArray.mk l.toArray).extract 0 4096 = ⟨(l.take 4096).toArray⟩ := by
      rw [extract_eq, list_data]
      rfl
    go_enter Tryz.func10, Tryz.ntmps10
    go_wp2
    go_ret
    exact ⟨rfl, rfl⟩
  · have hi : ¬ (4096 : Int) < (l.length : Int) := by omega
    go_enter Tryz.func10, Tryz.ntmps10
    go_wp2
    go_ret
    exact ⟨by rw [List.take_of_length_le (by omega)]; rfl, rfl⟩

theorem iformed_all : ∀ n : Nat, FormIH n := by
  intro n
  induction n with
  | zero => exact fun I link v w h => absurd h (Nat.not_lt_zero _)
  | succ n ih =>
    intro I link v w hs hf hr
    by_cases hlt : I.size < n
    · exact ih I link v w hlt hf hr
    · have hn : I.size = n := by omega
      cases link
      · exact iformed_false n ih I v w hn hf hr
      · exact iformed_true n ih I v w hn hf hr
theorem iformed_any (I : Is) (link : Bool) (v : Value) (w : World) (hf : Fm link false I) (hr : InRow w I v) : Calls Tryz.prog 8 #[v, .bool link] w fun e w' => e = .returned (.bool true) ∧ Below w.heap.size w w' := iformed_all (I.size + 1) I link v w (Nat.lt_succ_self _) hf hr

set_option maxHeartbeats 8000000 in
set_option maxRecDepth 20000 in
theorem wforms8 (s0 : ByteArray) (w0 : s0.size ≤ 140737488351232) (a : Option Addr) (b o len cap : Nat) (lb de ti : Nat → Str8) (w : World) (hm : Glob w) (e1 : 0 < len → a = some ⟨b, o, none⟩) (e2 : ∀ i, i < len → w.cell? ⟨b, o + i * 3, none⟩ = some (strI (lb i)) ∧ w.cell? ⟨b, o + i * 3 + 1, none⟩ = some (strI (de i)) ∧ w.cell? ⟨b, o + i * 3 + 2, none⟩ = some (strI (ti i)))
    (e3 : len ≤ maxLen) (e4 : ∀ i, (lb i).length ≤ 140737488355328 ∧ (de i).length ≤ 140737488355328 ∧ (ti i).length ≤ 140737488355328) :
    Calls Tryz.prog 3 #[.string s0, .slice a len cap] w fun e w' => e = .returned (.bool true) ∧ Below w.heap.size w w' := by
  obtain ⟨l0, hl0⟩ : ∃ l0 : Str8, s0 = ⟨l0.toArray⟩ := ⟨s0.data.toList, by simp⟩
  subst hl0
  rw [size_list] at w0
  have HS : Hid (Calls Tryz.prog 7 #[] w fun e w' => e = .returned (.bool true) ∧ Below w.heap.size w w') := ishown_any w hm
  have HG := (show Hid (Glob w) from hm)
  have h3 := hm.2.2
  obtain ⟨l, hl⟩ : ∃ l, l = l0.take 4096 := ⟨_, rfl⟩
  have hll : l.length ≤ 4096 := by rw [hl, List.length_take]; omega
  have HSh : Hid (∀ u, Calls Tryz.prog 10 #[strI l0] u fun e w' => e = .returned (strI l) ∧ w' = u) := fun u => by rw [hl]; exact ishort_any l0 w0 u
  have hbl : 0 < len → b < w.heap.size := fun h => World.block_lt_of_cell? w ⟨b, o + 0 * 3, none⟩ (e2 0 h).1
  have HSo : Hid (∀ u, Below w.heap.size w u → Calls Tryz.prog 11 #[.slice a len cap] u fun e w' => ∃ v', e = .returned v' ∧ ∃ ds, DefsAt w' v' ds ∧ ds.length ≤ 100 ∧ (∀ d ∈ ds, d.1.length ≤ 300) ∧ Below u.heap.size u w') := fun u hu => isome_any a b o len cap lb de ti u e1 (fun i hi => by
    obtain ⟨f1, f2, f3⟩ := e2 i hi
    exact ⟨(hu.cell (p := ⟨b, o + i * 3, none⟩) (hbl (by omega))).trans f1, (hu.cell (p := ⟨b, o + i * 3 + 1, none⟩) (hbl (by omega))).trans f2, (hu.cell (p := ⟨b, o + i * 3 + 2, none⟩) (hbl (by omega))).trans f3⟩) e3 e4
  have HP : Hid (∀ (u : World) (v : Value) (ds : List Df8), Below w.heap.size w u → DefsAt u v ds → ds.length ≤ 100 → (∀ d ∈ ds, d.1.length ≤ 300) → Calls Tryz.prog 9 #[strI l, v] u fun e w' => ∃ v', e = .returned v' ∧ (∃ I, Fm false false I ∧ InRow w' I v') ∧ Below u.heap.size u w') := fun u v ds hu hd h1 h2 => by
    refine (iparse_any l (by omega) ds (by omega) (fun d hd => by have := h2 d hd; omega) v u hd (HG.out.below h3 hu)).mono ?_
    rintro e w' ⟨v', rfl, hr, hb⟩
    exact ⟨v', rfl, ⟨_, parse_fm l ds (by omega), hr⟩, hb⟩
  have HF : Hid (∀ (u : World) (v : Value) (I : Is), Fm false false I → InRow u I v → Calls Tryz.prog 8 #[v, .bool false] u fun e w' => e = .returned (.bool true) ∧ Below u.heap.size u w') := fun u v I hf hr => iformed_any I false v u hf hr
  clear hm hl e1 e2 e4 e3 hbl
  go_enter Tryz.func3, Tryz.ntmps3
  go_wp2_with (first
    | (go_at_call 7; refine Calls.mono HS.out ?_; rintro e u1 ⟨rfl, hb1⟩; have HB1 := (show Hid (Below _ _ _) from hb1); clear hb1)
    | (go_at_call 10; refine Calls.mono (HSh.out _) ?_; rintro e u2 ⟨rfl, hu2⟩; subst hu2)
    | (go_at_call 11; refine Calls.mono (HSo.out _ HB1.out) ?_; rintro e u3 ⟨v3, rfl, ds, hd3, hn3, hs3, hb3⟩; have HB3 := (show Hid (Below w.heap.size w u3) from HB1.out.trans (hb3.mono HB1.out.size)); have HD3 := (show Hid (DefsAt u3 v3 ds) from hd3); have HS3 := (show Hid (∀ d ∈ ds, d.1.length ≤ 300) from hs3); clear hb3 hd3 hs3)
    | (go_at_call 9; refine Calls.mono (HP.out _ _ _ HB3.out HD3.out hn3 HS3.out) ?_; rintro e u4 ⟨v4, rfl, ⟨I, hf4, hr4⟩, hb4⟩; have HB4 := (show Hid (Below w.heap.size w u4) from HB3.out.trans (hb4.mono HB3.out.size)); have HF4 := (show Hid (Fm false false I) from hf4); have HR4 := (show Hid (InRow u4 I v4) from hr4); clear hb4 hf4 hr4)
    | (go_at_call 8; refine Calls.mono (HF.out _ _ _ HF4.out HR4.out) ?_; rintro e u5 ⟨rfl, hb5⟩; have HB5 := (show Hid (Below w.heap.size w u5) from HB4.out.trans (hb5.mono HB4.out.size)); clear hb5))
  go_ret
  exact ⟨rfl, HB5.out⟩
end Go.Proofs.YtjdijlaoeoikhaaGreatDoor
