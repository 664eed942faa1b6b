/- escaped, of the laws of layer 6: a text with a backslash ahead of each mark, and what it was; walked. -/
import Derived.Test.YtadghfgjdfgopaaDoorKShown
import Derived.Test.YtadghfgjdfgopaaDoorPlainLink5
import Derived.Maps.AppendAt
import Derived.Laws.OwnMore
set_option linter.unusedVariables false
namespace Go.Proofs.YtadghfgjdfgopaaDoor
open Go.RowKit
open Go.Proofs.YtadghfgjdfgopaaDoor.esc (OwnB own_push byteCells_one)

theorem kown_len {w : World} {B : Nat} {v : Value} {l : List UInt8} (h : OwnB w B v l) : ∃ a c, v = .slice a l.length c := by
  rcases h.2 with ⟨rfl, hn⟩ | ⟨g, cap, cur, rfl, _⟩
  · exact ⟨none, 0, by rw [hn]⟩
  · exact ⟨_, _, rfl⟩

/-- Two rows of bytes that a call owns, side by side. -/
def Two (w : World) (B : Nat) (v : Value) (l : List UInt8) (u : Value) (m : List UInt8) : Prop :=
  OwnB w B v l ∧ OwnB w B u m ∧ (v.ownBlock = none ∨ v.ownBlock ≠ u.ownBlock) ∧ (u.ownBlock = none ∨ u.ownBlock ≠ v.ownBlock)

theorem two_lt {w : World} {B : Nat} {v : Value} {l : List UInt8} (h : OwnB w B v l) {g : Nat} (hg : v.ownBlock = some g) : g < w.heap.size := by
  obtain ⟨c, fz, e⟩ := own_block h g hg
  exact (Array.getElem?_eq_some_iff.1 e).1

theorem Two.left {w w2 : World} {B : Nat} {v v' u : Value} {l l' m : List UInt8} {o : Obj} (h : Two w B v l u m) (h1 : OwnB w2 B v' l') (hg : (w.alloc o).grownBy w2 v.ownBlock) (hb : v'.ownBlock = v.ownBlock ∨ v'.ownBlock = some (w.heap.size + 1)) : Two w2 B v' l' u m := by
  obtain ⟨ha, hu, h3, h4⟩ := h
  refine ⟨h1, (hu.alloc o).kept hg h4, ?_, ?_⟩
  · rcases hb with hb | hb
    · rw [hb]; exact h3
    · right
      rw [hb]
      intro e
      have := two_lt hu e.symm
      omega
  · rcases hb with hb | hb
    · rw [hb]; exact h4
    · right
      rw [hb]
      intro e
      have := two_lt hu e
      omega
theorem Two.swap {w : World} {B : Nat} {v u : Value} {l m : List UInt8} (h : Two w B v l u m) : Two w B u m v l := ⟨h.2.1, h.1, h.2.2.2, h.2.2.1⟩

theorem mark_cons {ws : List UInt8} {c : UInt8} (h : markN c.toNat = true) : (ws ++ [c]).flatMap markB' = ws.flatMap markB' ++ [92] ++ [c] := by
  rw [List.flatMap_append]
  simp [markB', h]
theorem mark_skip {ws : List UInt8} {c : UInt8} (h : markN c.toNat = false) : (ws ++ [c]).flatMap markB' = ws.flatMap markB' ++ [c] := by
  rw [List.flatMap_append]
  simp [markB', h]

theorem no10 {ws : List UInt8} {c : UInt8} (h : ∀ x ∈ ws, x ≠ 10) (hc : c ≠ 10) : ∀ x ∈ ws ++ [c], x ≠ 10 := by
  intro x hx
  rcases List.mem_append.1 hx with hx | hx
  · exact h x hx
  · rw [List.mem_singleton.1 hx]; exact hc

set_option maxHeartbeats 8000000 in
set_option maxRecDepth 8000 in
theorem kescaped_any (s : ByteArray) (hs : (s.size : Int) ≤ 140737488351232) (most : Nat) (hm : most ≤ 2000) (w : World) :
    Calls Tryd.prog 20 #[.string s, .int .i64 (most : Int)] w fun e w' => ∃ ws : List UInt8, e = .returned (.tuple #[.string ⟨(ws.flatMap markB').toArray⟩, .string ⟨ws.toArray⟩]) ∧ (∀ c ∈ ws, c ≠ 10) ∧ (ws.flatMap markB').length ≤ most + 1 ∧ Below w.heap.size w w' := by
  obtain ⟨i0, hi, hz0, hz1, hz2⟩ := info_parts info5
  go_enter Tryd.func20, Tryd.ntmps20
  go_wp2
  go_loopw [6, 7, 8] (fun v u i wr => ∃ (k : Nat) (ws : List UInt8), i = .int .i64 (k : Int) ∧ k ≤ s.size ∧ Hid ((ws.flatMap markB').length ≤ most + 1) ∧ Hid (ws.length ≤ (ws.flatMap markB').length) ∧ Hid (Two wr w.heap.size v (ws.flatMap markB') u ws) ∧ Hid (∀ c ∈ ws, c ≠ 10) ∧ Hid (Below w.heap.size w wr)) (fun _ _ i _ => s.size - (intOf i).toNat)
  case atStart => exact ⟨0, [], rfl, by omega, Nat.zero_le _, Nat.le_refl _, ⟨World.ownsRow_nil _ _ _ _, World.ownsRow_nil _ _ _ _, .inl rfl, .inl rfl⟩, (fun c hc => absurd hc (by simp)), Below.refl _ _⟩
  case round =>
    obtain ⟨k, ws, rfl, hk, hll, hlw, htwo, h10, hbw⟩ := hrel
    have hsz := hbw.out.size
    have hll' := hll.out
    have hlw' := hlw.out
    obtain ⟨ad, cp, rfl⟩ := kown_len htwo.out.1
    generalize hL : ws.flatMap markB' = L at *
    by_cases hgo : k < s.size ∧ L.length + 1 < most
    · obtain ⟨hks, hlm⟩ := hgo
      have g1 : (k : Int) < (s.size : Int) := by omega
      have g2 : (L.length : Int) + 1 < (most : Int) := by omega
      obtain ⟨c, hc⟩ : ∃ c, s[k] = c := ⟨_, rfl⟩
      by_cases hc10 : c = 10
      · subst hc10
        go_wp2
        go_roundw
        case rel => exact ⟨k + 1, ws, by go_num, by omega, by rw [hL]; exact hll, by rw [hL]; exact hlw, by rw [hL]; exact htwo, h10, hbw⟩
        case measure => simp [intOf]; omega
      · have hcn : ((c.toNat : Int) == 10) = false := by rw [beq_eq_false_iff_ne]; intro x; exact hc10 (UInt8.toNat_inj.1 (by show _ = 10; omega))
        have HM := (show Hid _ from fun w => kmark_any c w)
        have H10 : Hid (∀ x ∈ ws ++ [c], x ≠ 10) := no10 h10.out hc10
        clear hc10
        cases hmk : markN c.toNat
        · rw [hmk] at HM
          have HF : Hid ((ws ++ [c]).flatMap markB' = L ++ [c]) := by show _ = _; rw [mark_skip hmk, hL]
          clear hmk
          go_wp2_with (first
            | (go_at_call 40; refine (HM.out _).mono ?_; rintro e w' ⟨rfl, hw'⟩; subst w')
            | (at_builtin; refine wpList_append_own_at _ rfl _ _ 46 rfl w.heap.size 5 i0 (.int .u8 0) 1 1 Tryd.underlying46 hi hz0 hz1 hz2 rfl (by decide) _ _ _ rfl (htwo.out.1.alloc _) ⟨wr.heap.size, 0, none⟩ 1 1 [.int .u8 (c.toNat : Int)] rfl rfl (lit_cells _ _ _) ?c2 ?c3 ?c4 ?c5 ?_))
          case c2 => first | rfl | (intro u hu; simp at hu; subst hu; rfl)
          case c3 => unfold maxLen; first | omega | (simp only [List.length_append, List.length_cons, List.length_nil]; omega)
          case c4 => first | omega | (simp only [List.length_append, List.length_cons, List.length_nil]; omega)
          case c5 => first | omega | (simp; omega)
          intro v1 w1 hown1 hgrow1 _ hblk1
          have R1 := own_push (l := [c]) hown1 rfl (byteCells_one _)
          have T1 : Hid (Two w1 w.heap.size v1 (L ++ [c]) _ ws) := htwo.out.left R1 hgrow1 hblk1
          have B1 := (show Hid _ from below_grown hbw.out hsz htwo.out.1 hgrow1)
          have hs1 := B1.out.size
          clear hown1 hgrow1 hblk1 R1
          go_wp2_with (at_builtin; refine wpList_append_own_at _ rfl _ _ 46 rfl w.heap.size 5 i0 (.int .u8 0) 1 1 Tryd.underlying46 hi hz0 hz1 hz2 rfl (by decide) _ _ _ rfl (T1.out.2.1.alloc _) ⟨w1.heap.size, 0, none⟩ 1 1 [.int .u8 (c.toNat : Int)] rfl rfl (lit_cells _ _ _) ?c2 ?c3 ?c4 ?c5 ?_)
          case c2 => first | rfl | (intro u hu; simp at hu; subst hu; rfl)
          case c3 => unfold maxLen; first | omega | (simp only [List.length_append, List.length_cons, List.length_nil]; omega)
          case c4 => first | omega | (simp only [List.length_append, List.length_cons, List.length_nil]; omega)
          case c5 => first | omega | (simp; omega)
          intro v2 w2 hown2 hgrow2 _ hblk2
          have R2 := own_push (l := [c]) hown2 rfl (byteCells_one _)
          have T2 : Hid (Two w2 w.heap.size v1 (L ++ [c]) v2 (ws ++ [c])) := (T1.out.swap.left R2 hgrow2 hblk2).swap
          have B2 := (show Hid _ from below_grown B1.out hs1 T1.out.2.1 hgrow2)
          clear hown2 hgrow2 hblk2 R2
          go_wp2
          go_roundw
          case rel =>
            refine ⟨k + 1, ws ++ [c], by go_num, by omega, ?_, ?_, by rw [HF.out]; exact T2, H10, B2⟩
            · rw [HF.out]; show (_ : List UInt8).length ≤ _; simp only [List.length_append, List.length_cons, List.length_nil]; omega
            · rw [HF.out]; show (_ : List UInt8).length ≤ (_ : List UInt8).length; simp only [List.length_append, List.length_cons, List.length_nil]; omega
          case measure => simp [intOf]; omega
        · rw [hmk] at HM
          have HF : Hid ((ws ++ [c]).flatMap markB' = L ++ [92] ++ [c]) := by show _ = _; rw [mark_cons hmk, hL]
          clear hmk
          go_wp2_with (first
            | (go_at_call 40; refine (HM.out _).mono ?_; rintro e w' ⟨rfl, hw'⟩; subst w')
            | (at_builtin; refine wpList_append_own_at _ rfl _ _ 46 rfl w.heap.size 5 i0 (.int .u8 0) 1 1 Tryd.underlying46 hi hz0 hz1 hz2 rfl (by decide) _ _ _ rfl (htwo.out.1.alloc _) ⟨wr.heap.size, 0, none⟩ 1 1 [.int .u8 92] rfl rfl (lit_cells _ _ _) ?c2 ?c3 ?c4 ?c5 ?_))
          case c2 => first | rfl | (intro u hu; simp at hu; subst hu; rfl)
          case c3 => unfold maxLen; first | omega | (simp only [List.length_append, List.length_cons, List.length_nil]; omega)
          case c4 => first | omega | (simp only [List.length_append, List.length_cons, List.length_nil]; omega)
          case c5 => first | omega | (simp; omega)
          intro v0 w0 hown0 hgrow0 _ hblk0
          have R0 := own_push (l := [92]) hown0 rfl (byteCells_one _)
          have T0 : Hid (Two w0 w.heap.size v0 (L ++ [92]) _ ws) := htwo.out.left R0 hgrow0 hblk0
          have B0 := (show Hid _ from below_grown hbw.out hsz htwo.out.1 hgrow0)
          have hs0 := B0.out.size
          clear hown0 hgrow0 hblk0 R0
          go_wp2_with (at_builtin; refine wpList_append_own_at _ rfl _ _ 46 rfl w.heap.size 5 i0 (.int .u8 0) 1 1 Tryd.underlying46 hi hz0 hz1 hz2 rfl (by decide) _ _ _ rfl (T0.out.1.alloc _) ⟨w0.heap.size, 0, none⟩ 1 1 [.int .u8 (c.toNat : Int)] rfl rfl (lit_cells _ _ _) ?c2 ?c3 ?c4 ?c5 ?_)
          case c2 => first | rfl | (intro u hu; simp at hu; subst hu; rfl)
          case c3 => unfold maxLen; first | omega | (simp only [List.length_append, List.length_cons, List.length_nil]; omega)
          case c4 => first | omega | (simp only [List.length_append, List.length_cons, List.length_nil]; omega)
          case c5 => first | omega | (simp; omega)
          intro v1 w1 hown1 hgrow1 _ hblk1
          have R1 := own_push (acc := L ++ [92]) (l := [c]) (n := 1) (by rw [List.length_append]; exact hown1) rfl (byteCells_one _)
          have T1 : Hid (Two w1 w.heap.size v1 (L ++ [92] ++ [c]) _ ws) := T0.out.left R1 hgrow1 hblk1
          have B1 := (show Hid _ from below_grown B0.out hs0 T0.out.1 hgrow1)
          have hs1 := B1.out.size
          clear hown1 hgrow1 hblk1 R1
          go_wp2_with (at_builtin; refine wpList_append_own_at _ rfl _ _ 46 rfl w.heap.size 5 i0 (.int .u8 0) 1 1 Tryd.underlying46 hi hz0 hz1 hz2 rfl (by decide) _ _ _ rfl (T1.out.2.1.alloc _) ⟨w1.heap.size, 0, none⟩ 1 1 [.int .u8 (c.toNat : Int)] rfl rfl (lit_cells _ _ _) ?c2 ?c3 ?c4 ?c5 ?_)
          case c2 => first | rfl | (intro u hu; simp at hu; subst hu; rfl)
          case c3 => unfold maxLen; first | omega | (simp only [List.length_append, List.length_cons, List.length_nil]; omega)
          case c4 => first | omega | (simp only [List.length_append, List.length_cons, List.length_nil]; omega)
          case c5 => first | omega | (simp; omega)
          intro v2 w2 hown2 hgrow2 _ hblk2
          have R2 := own_push (l := [c]) hown2 rfl (byteCells_one _)
          have T2 : Hid (Two w2 w.heap.size v1 (L ++ [92] ++ [c]) v2 (ws ++ [c])) := (T1.out.swap.left R2 hgrow2 hblk2).swap
          have B2 := (show Hid _ from below_grown B1.out hs1 T1.out.2.1 hgrow2)
          clear hown2 hgrow2 hblk2 R2
          go_wp2
          go_roundw
          case rel =>
            refine ⟨k + 1, ws ++ [c], by go_num, by omega, ?_, ?_, by rw [HF.out]; exact T2, H10, B2⟩
            · rw [HF.out]; show (_ : List UInt8).length ≤ _; simp only [List.length_append, List.length_cons, List.length_nil]; omega
            · rw [HF.out]; show (_ : List UInt8).length ≤ (_ : List UInt8).length; simp only [List.length_append, List.length_cons, List.length_nil]; omega
          case measure => simp [intOf]; omega
    · have HC1 := (show Hid _ from own_string (own_below htwo.out.1 (below_drewK (Below.refl _ _))))
      have HC2 := (show Hid _ from own_string (own_below htwo.out.2.1 (below_drewK (Below.refl _ _))))
      have hc1 := HC1.out
      have hc2 := HC2.out
      have hcase : (¬ (k : Int) < (s.size : Int)) ∨ ((k : Int) < (s.size : Int) ∧ ¬ (L.length : Int) + 1 < (most : Int)) := by omega
      rcases hcase with g1 | ⟨g1, g2⟩
      all_goals
        go_wp2
        go_region
        go_wp2
        go_ret2
        exact ⟨ws, by rw [hL]; rfl, h10.out, by rw [hL]; exact hll', below_drewK hbw.out⟩

end Go.Proofs.YtadghfgjdfgopaaDoor
