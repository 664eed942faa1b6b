/- A net: drop, Take; walked. -/
import Derived.Test.YtblohegdlcpipaaUDel
set_option linter.unusedVariables false
set_option linter.unusedSimpArgs false
namespace Go.Proofs.Ytblohegdlcpipaa
open Go.RowKit

theorem map_erase {α β : Type} (f : α → β) (xs : List α) (j : Nat) : (xs.eraseIdx j).map f = (xs.map f).eraseIdx j := by
  rw [List.eraseIdx_eq_take_drop_succ, List.eraseIdx_eq_take_drop_succ, List.map_append, List.map_take, List.map_drop]

/-- The row is set anew. -/
theorem NetW.stored2 {w w1 W2 : World} {b : Nat} {v vo : Value} {sd : Nat} {xs ys : List Lr} (h : NetW w b v sd xs) (hb : Below w.heap.size w w1) (hf2 : Fr (fun k => v.ownBlock = some k) w1 W2) (hA1 : OwnL W2 vo ys) (hA3 : ∀ g, vo.ownBlock = some g → v.ownBlock = some g ∨ w.heap.size ≤ g)
    (hd : ∀ x ∈ ys, x ∈ xs) (hl : ys.length ≤ 200) : NetGo w b v sd ys (W2.setCell ⟨b, 0, none⟩ vo) := by
  have h1 := h.below hb
  have hblk := hf2.at h1.blk (fun e => h1.ne e rfl)
  refine ⟨vo, ⟨set_blk hblk 0 vo, hA1.keep (fun g hg => ?_), fun x hx => ownB_keep (w := w1) (h1.dat x (hd x hx)) (fun g hg => ?_), hl, fun x hx => h.nod x (hd x hx), fun x hx => h.short x (hd x hx), h.side⟩, ?_, hA3⟩
  · obtain ⟨cur, hc⟩ := hA1.block hg
    exact set_other _ (type_ne hc hblk (by decide))
  · obtain ⟨cur, hc⟩ := ownB_block (h1.dat x (hd x hx)) hg
    have hne : ¬ v.ownBlock = some g := fun e => by
      obtain ⟨c2, hc2⟩ := h1.row.block e
      exact type_ne hc hc2 (by decide) rfl
    have hc' := hf2.at hc hne
    exact (set_other _ (type_ne hc' hblk (by decide))).trans (hc'.trans hc.symm)
  · exact Fr.set (S := NetB b v) (p := ⟨b, 0, none⟩) (Fr.pre hb hf2 (fun k hk => Or.inr hk)) (Or.inl rfl) vo

set_option maxHeartbeats 4000000 in
set_option maxRecDepth 20000 in
theorem udrop_any {w : World} {b : Nat} {v : Value} {sd : Nat} {xs : List Lr} (h : NetW w b v sd xs) {j : Nat} (hj : j < xs.length) :
    Calls Try.prog 28 #[nptr b, .int .i64 (j : Int)] w fun e w' => e = .returned (.tuple #[]) ∧ NetGo w b v sd (xs.eraseIdx j) w' := by
  obtain ⟨g, c, hv, hnc, hyy⟩ := h.row.at (List.getElem?_eq_getElem hj)
  obtain ⟨k, hk⟩ : ∃ k, xs.length = k + 1 := ⟨xs.length - 1, by omega⟩
  have x0 := h.c0
  have f0 := h.fz 0
  rw [hv, hk] at x0
  have hrow : OwnL w (.slice (some ⟨g, 0, none⟩) (k + 1) c) xs := by have := h.row; rwa [hv, hk] at this
  have hfew := h.few
  have hdel := udelete_any hrow (i := j) (by omega) (by omega)
  have HD : Hid (Calls Try.prog 34 #[.slice (some ⟨g, 0, none⟩) (k + 1) c, .int .i64 (j : Int), .int .i64 ((j : Int) + 1)] w fun e w' => e = .returned (.slice (some ⟨g, 0, none⟩) k c) ∧ OwnL w' (.slice (some ⟨g, 0, none⟩) k c) (xs.eraseIdx j) ∧ Fr (fun q => q = g) w w') := hdel
  have HH : Hid (NetW w b v sd xs ∧ v.ownBlock = some g ∧ (xs.eraseIdx j).length ≤ 200) := ⟨h, by rw [hv]; rfl, by rw [List.length_eraseIdx]; split <;> omega⟩
  have bj : (j : Int) ≤ 200 := by omega
  clear hyy
  clear h hv hnc hk hrow hfew hdel hj
  go_enter Try.func28, Try.ntmps28
  go_wp2_with (fail)
  refine HD.out.mono ?_
  rintro e w2 ⟨rfl, ho, hf⟩
  have hg := HH.out.2.1
  have hf2 : Fr (fun q => v.ownBlock = some q) w w2 := hf.wide (fun q hq => by rw [hg, hq])
  have hblk := hf2.at HH.out.1.blk (fun e => HH.out.1.ne e rfl)
  have z0 := cell_blk hblk (i := 0) (v := v) rfl
  have zf : w2.frozen? ⟨b, 0, none⟩ = false := free_blk hblk 0
  have HF : Hid (NetGo w b v sd (xs.eraseIdx j) (w2.setCell ⟨b, 0, none⟩ (.slice (some ⟨g, 0, none⟩) k c))) :=
    HH.out.1.stored2 (Below.refl _ _) hf2 ho (fun q hq => .inl (by rw [hg, ← hq]; rfl)) (fun x hx => List.mem_of_mem_eraseIdx hx) HH.out.2.2
  clear HD ho hf hg hf2 hblk x0
  go_wp2
  go_end0
  exact ⟨rfl, HF.out⟩

def zeroT : Value := .tuple #[.int .i64 0, .int .i64 0, .slice none 0 0, .bool false]
theorem NetB.lt {w : World} {b : Nat} {v : Value} {sd : Nat} {xs : List Lr} (h : NetW w b v sd xs) {k : Nat} (hk : NetB b v k) : k < w.heap.size := by
  rcases hk with rfl | hk
  · exact lt_blk h.blk
  · obtain ⟨cur, hc⟩ := h.row.block hk
    exact lt_blk hc

set_option maxHeartbeats 4000000 in
set_option maxRecDepth 20000 in
theorem utake_none {w : World} {b : Nat} {v : Value} {sd : Nat} {ls : List L3} (h : NetC w b v sd ls) (i : Int) (hi : hasB ls.length i = false) :
    Calls Try.prog 15 #[nptr b, .int .i64 i] w fun e w' => e = .returned zeroT ∧ GoC w b v sd ls w' := by
  have HF : Hid (GoC w b v sd ls w) := h.go (Below.refl _ _)
  obtain ⟨xs, hx, hm⟩ := h
  have hlen : ls.length = xs.length := by rw [← hm, List.length_map]
  have h1 := ulook_no hx i (by rw [← hlen]; exact hi)
  clear hx hm hlen hi
  unfold zeroT
  go_enter Try.func15, Try.ntmps15
  go_wp2_with (fail)
  refine h1.mono ?_
  rintro e w1 ⟨rfl, hw⟩
  replace hw := hw.symm
  subst hw
  clear h1
  go_wp2
  (try simp only [Exit.inBlock, Exit.then])
  refine bodyPost_ret (results_tmp4 rfl _ _ _) rfl ?_
  exact ⟨rfl, HF.out⟩

set_option maxHeartbeats 4000000 in
set_option maxRecDepth 20000 in
theorem utake_some {w : World} {b : Nat} {v : Value} {sd : Nat} {ls : List L3} (h : NetC w b v sd ls) {j : Nat} {y : L3} (hj : ls[j]? = some y) :
    Calls Try.prog 15 #[nptr b, .int .i64 (j : Int)] w fun e w' =>
      if reachB sd (y.1 : Int) (y.2.1 : Int) = true then ∃ a c, e = .returned (.tuple #[.int .i64 (y.1 : Int), .int .i64 (y.2.1 : Int), .slice a y.2.2.length c, .bool true]) ∧ OwnB w' w.heap.size (.slice a y.2.2.length c) y.2.2 ∧ GoC w b v sd (ls.eraseIdx j) w'
      else e = .returned zeroT ∧ GoC w b v sd ls w' := by
  obtain ⟨xs, hx, hm⟩ := h
  have hlen : ls.length = xs.length := by rw [← hm, List.length_map]
  have hjl : j < xs.length := by have := (List.getElem?_eq_some_iff.1 hj).1; omega
  obtain ⟨x, hxj⟩ : ∃ x, xs[j]? = some x := ⟨xs[j], List.getElem?_eq_getElem hjl⟩
  have hy : y = x.v := by
    rw [← hm, List.getElem?_map, hxj] at hj
    exact (Option.some.inj hj).symm
  subst hy
  have HL : Hid (Calls Try.prog 11 #[nptr b, .int .i64 (j : Int)] w fun e w' => ∃ a c, e = .returned (.tuple #[.int .i64 (x.f : Int), .int .i64 (x.t : Int), .slice a x.d.length c, .bool true]) ∧ OwnB w' w.heap.size (.slice a x.d.length c) x.d ∧ Below w.heap.size w w') := ulook_yes hx hxj
  have HH : Hid (NetW w b v sd xs ∧ xs.map Lr.v = ls ∧ j < xs.length) := ⟨hx, hm, hjl⟩
  obtain ⟨m, hmm⟩ : ∃ m, x.d.length = m := ⟨_, rfl⟩
  have HM : Hid (x.d.length = m) := hmm
  rw [hmm] at HL
  show Calls _ _ _ _ fun e w' => if reachB sd (x.f : Int) (x.t : Int) = true then ∃ a c, e = .returned (.tuple #[.int .i64 (x.f : Int), .int .i64 (x.t : Int), .slice a x.d.length c, .bool true]) ∧ OwnB w' w.heap.size (.slice a x.d.length c) x.d ∧ GoC w b v sd (ls.eraseIdx j) w' else e = .returned zeroT ∧ GoC w b v sd ls w'
  rw [hmm]
  unfold zeroT
  clear hx hm hlen hjl hxj hmm hj
  obtain ⟨R, hR⟩ : ∃ R, reachB sd (x.f : Int) (x.t : Int) = R := ⟨_, rfl⟩
  rw [hR]
  have HR : Hid (reachB sd (x.f : Int) (x.t : Int) = R) := hR
  clear hR
  go_enter Try.func15, Try.ntmps15
  go_wp2_with (fail)
  refine HL.out.mono ?_
  rintro e w1 ⟨a, c, rfl, hown, hb⟩
  clear HL
  have hre := ureach_any (HH.out.1.below hb) (x.f : Int) (x.t : Int)
  rw [HR.out] at hre
  have HB : Hid (Below w.heap.size w w1 ∧ OwnB w1 w.heap.size (.slice a m c) x.d) := ⟨hb, hown⟩
  clear hb hown
  go_wp2_with (fail)
  refine hre.mono ?_
  rintro e w2 ⟨rfl, hw⟩
  replace hw := hw.symm
  subst hw
  clear hre
  cases R with
  | false =>
    have HF : Hid (GoC w b v sd ls w1) := NetC.go ⟨xs, HH.out.1, HH.out.2.1⟩ HB.out.1
    go_wp2
    (try simp only [Exit.inBlock, Exit.then])
    refine bodyPost_ret (results_tmp4 rfl _ _ _) rfl ?_
    simp only [Bool.false_eq_true, if_false]
    exact ⟨rfl, HF.out⟩
  | true =>
    have HD : Hid (Calls Try.prog 28 #[nptr b, .int .i64 (j : Int)] w1 fun e w' => e = .returned (.tuple #[]) ∧ NetGo w1 b v sd (xs.eraseIdx j) w') := udrop_any (HH.out.1.below HB.out.1) HH.out.2.2
    go_wp2_with (fail)
    refine HD.out.mono ?_
    rintro e w2 ⟨rfl, hg⟩
    have HF : Hid (OwnB w2 w.heap.size (.slice a m c) x.d ∧ GoC w b v sd (ls.eraseIdx j) w2) := by
      refine ⟨ownB_keep HB.out.2 (fun g hgg => ?_), ?_⟩
      · obtain ⟨cur, hc⟩ := ownB_block HB.out.2 hgg
        obtain ⟨v', h1, h2, h3⟩ := hg
        exact h2.block g (lt_blk hc) ((HH.out.1.below HB.out.1).u8 hc)
      · have h1 := GoC.pre HB.out.1 hg.c
        rw [← HH.out.2.1]
        rwa [map_erase] at h1
    clear HD hg
    go_wp2
    (try simp only [Exit.inBlock, Exit.then])
    refine bodyPost_ret (results_tmp4 rfl _ _ _) rfl ?_
    simp only [if_true]
    exact ⟨a, c, rfl, HF.out⟩
end Go.Proofs.Ytblohegdlcpipaa
