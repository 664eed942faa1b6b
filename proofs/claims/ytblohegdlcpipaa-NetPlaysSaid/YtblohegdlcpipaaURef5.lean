/- The document's net: Take; walked. -/
import Derived.Test.YtblohegdlcpipaaURef4
set_option linter.unusedVariables false
set_option linter.unusedSimpArgs false
namespace Go.Proofs.Ytblohegdlcpipaa
open Go.RowKit

theorem RfGo.rb {w w5 w6 : World} {b : Nat} {v : Value} {sd : Nat} {ls : List L3} (h : RfGo w b v sd ls w5) (hb : b < w.heap.size) {q : Nat} (hq : w.heap.size ≤ q) (hv : ∀ v', RfW w5 b v' sd ls → v'.ownBlock ≠ some q) (hf : Fr (fun k => k = q) w5 w6) : RfGo w b v sd ls w6 := by
  obtain ⟨v', h1, h2, h3⟩ := h
  refine ⟨v', h1.keep (hf.block b (lt_blk h1.blk) (by omega)) (fun g hg => ?_), h2.trans hf (fun k hk => Or.inr (by omega)), h3⟩
  obtain ⟨_, cur, hc⟩ := h1.row.block hg
  exact hf.block g (lt_blk hc) (fun e => hv v' h1 (by rw [← e]; exact hg))
def takesB (ls : List L3) (sd : Nat) (i : Int) : Bool := hasB ls.length i && reachB sd ((lookR ls i).1 : Int) ((lookR ls i).2.1 : Int)
def takeA (ls : List L3) (sd : Nat) (i : Int) : List L3 := if takesB ls sd i = true then ls.eraseIdx i.toNat else ls
def takenR (ls : List L3) (sd : Nat) (i : Int) : L3 := if takesB ls sd i = true then lookR ls i else zL3
set_option maxHeartbeats 4000000 in
set_option maxRecDepth 20000 in
theorem rtake_any {w : World} {b : Nat} {v : Value} {sd : Nat} {ls : List L3} (h : RfW w b v sd ls) (i : Int) :
    Calls Try.prog 19 #[nptr b, .int .i64 i] w fun e w' => e = .returned (.tuple #[aggR (takenR ls sd i), .bool (takesB ls sd i)]) ∧ RfGo w b v sd (takeA ls sd i) w' := by
  obtain ⟨w1, hw1⟩ : ∃ w1, w1 = w.alloc (.cells #[.int .i64 0, .int .i64 0, .string ⟨#[]⟩] 39) := ⟨_, rfl⟩
  have hb1 : Below w.heap.size w w1 := by rw [hw1]; exact (Below.refl _ w).alloc (Nat.le_refl _) _
  have hk1 : w1.heap[w.heap.size]? = some (.cells #[.int .i64 0, .int .i64 0, .string ⟨#[]⟩] 39 (0, 0)) := by rw [hw1]; exact heap_alloc_new _ _
  have h1 := h.below hb1
  have HL : Hid (Calls Try.prog 23 #[nptr b, .int .i64 i] w1 fun e w' => e = .returned (.tuple #[aggR (lookR ls i), .bool (hasB ls.length i)]) ∧ Below w1.heap.size w1 w') := rlook_any h1 i
  have H1 : Hid (RfW w b v sd ls ∧ RfW w1 b v sd ls ∧ Below w.heap.size w w1 ∧ w1.heap[w.heap.size]? = some (.cells #[.int .i64 0, .int .i64 0, .string ⟨#[]⟩] 39 (0, 0)) ∧ b < w.heap.size) := ⟨h, h1, hb1, hk1, lt_blk h.blk⟩
  obtain ⟨y, hy⟩ : ∃ y, lookR ls i = y := ⟨_, rfl⟩
  unfold takeA takenR takesB
  rw [hy] at HL ⊢
  have HY : Hid (lookR ls i = y) := hy
  clear h h1 hb1 hk1 hy
  have HSet : Hid (∀ u, Below w1.heap.size w1 u → ∀ x0 x1 x2, Below w.heap.size w (((u.setCell ⟨w.heap.size, 0, none⟩ x0).setCell ⟨w.heap.size, 1, none⟩ x1).setCell ⟨w.heap.size, 2, none⟩ x2) ∧ (((u.setCell ⟨w.heap.size, 0, none⟩ x0).setCell ⟨w.heap.size, 1, none⟩ x1).setCell ⟨w.heap.size, 2, none⟩ x2).heap[w.heap.size]? = some (.cells #[x0, x1, x2] 39 (0, 0))) := fun u hu x0 x1 x2 => set3 (H1.out.2.2.1.trans (hu.mono H1.out.2.2.1.size)) (blk_below H1.out.2.2.2.1 hu) x0 x1 x2
  have HFz : Hid (∀ u, Below w1.heap.size w1 u → u.heap[w.heap.size]? = some (.cells #[.int .i64 0, .int .i64 0, .string ⟨#[]⟩] 39 (0, 0))) := fun u hu => blk_below H1.out.2.2.2.1 hu
  cases hi : hasB ls.length i with
  | false =>
    rw [hi] at HL
    simp only [Bool.false_and, Bool.false_eq_true, if_false]
    clear hi
    go_enter Try.func19, Try.ntmps19
    go_upto_region 1 with fail
    rw [← hw1]
    clear hw1
    go_wp2_with (fail)
    refine HL.out.mono ?_
    rintro e w2 ⟨rfl, hb⟩
    obtain ⟨w3, hw3⟩ : ∃ w3, w3 = w2.alloc (.cells #[.int .i64 (y.1 : Int), .int .i64 (y.2.1 : Int), .string ⟨y.2.2.toArray⟩] 39) := ⟨_, rfl⟩
    have hb3 : Below w1.heap.size w1 w3 := by rw [hw3]; exact hb.alloc hb.size _
    obtain ⟨k1, k2⟩ := HSet.out w3 hb3 (.int .i64 0) (.int .i64 0) (.string ⟨#[]⟩)
    have hz := HFz.out w3 hb3
    have f0 := free_blk hz 0
    have f1 := free_blk hz 1
    have f2 := free_blk hz 2
    have y0 := cell_blk hz (i := 0) rfl
    have y1 := cell_blk hz (i := 1) rfl
    have y2 := cell_blk hz (i := 2) rfl
    have HF : Hid (RfGo w b v sd ls (((w3.setCell ⟨w.heap.size, 0, none⟩ (.int .i64 0)).setCell ⟨w.heap.size, 1, none⟩ (.int .i64 0)).setCell ⟨w.heap.size, 2, none⟩ (.string ⟨#[]⟩))) := H1.out.1.go k1
    have HK2 : Hid ((((w3.setCell ⟨w.heap.size, 0, none⟩ (.int .i64 0)).setCell ⟨w.heap.size, 1, none⟩ (.int .i64 0)).setCell ⟨w.heap.size, 2, none⟩ (.string ⟨#[]⟩)).heap[w.heap.size]? = some (.cells #[.int .i64 0, .int .i64 0, .string ⟨#[]⟩] 39 (0, 0))) := k2
    clear HL hb hb3 k1 k2 hz
    go_upto_region 2 with fail
    rw [← hw3]
    clear hw3
    go_wp2
    have k2 := HK2.out
    exact bodyPost_ret (res_letter rfl _ _ w.heap.size _ _ _ rfl (cell_blk k2 rfl) (cell_blk k2 rfl) (cell_blk k2 rfl)) rfl ⟨rfl, HF.out⟩
  | true =>
    rw [hi] at HL
    obtain ⟨i0, i1⟩ := hasB_iff.1 hi
    obtain ⟨j, rfl⟩ : ∃ j : Nat, i = (j : Int) := ⟨i.toNat, by omega⟩
    have hjl : j < ls.length := by omega
    simp only [Bool.true_and]
    clear hi i0 i1
    cases hr : reachB sd (y.1 : Int) (y.2.1 : Int) with
    | false =>
      simp only [Bool.false_eq_true, if_false]
      go_enter Try.func19, Try.ntmps19
      go_upto_region 1 with fail
      rw [← hw1]
      clear hw1
      go_wp2_with (fail)
      refine HL.out.mono ?_
      rintro e w2 ⟨rfl, hb⟩
      obtain ⟨w3, hw3⟩ : ∃ w3, w3 = w2.alloc (.cells #[.int .i64 (y.1 : Int), .int .i64 (y.2.1 : Int), .string ⟨y.2.2.toArray⟩] 39) := ⟨_, rfl⟩
      have hb3 : Below w1.heap.size w1 w3 := by rw [hw3]; exact hb.alloc hb.size _
      have hk3 : w3.heap[w2.heap.size]? = some (.cells #[.int .i64 (y.1 : Int), .int .i64 (y.2.1 : Int), .string ⟨y.2.2.toArray⟩] 39 (0, 0)) := by rw [hw3]; exact heap_alloc_new _ _
      have l0 := cell_blk hk3 (i := 0) rfl
      have l1 := cell_blk hk3 (i := 1) rfl
      have HRe : Hid (Calls Try.prog 22 #[nptr b, .int .i64 (y.1 : Int), .int .i64 (y.2.1 : Int)] w3 fun e w' => e = .returned (.bool false) ∧ Below w3.heap.size w3 w') := by
        have := rreach_any (H1.out.2.1.below hb3) (y.1 : Int) (y.2.1 : Int)
        rwa [hr] at this
      have HB3 : Hid (Below w1.heap.size w1 w3) := hb3
      clear HL hb hb3 hk3 hr hjl
      go_upto_region 2 with fail
      rw [← hw3]
      clear hw3
      go_wp2_with (fail)
      refine HRe.out.mono ?_
      rintro e w4 ⟨rfl, hb4⟩
      have hb5 : Below w1.heap.size w1 w4 := HB3.out.trans (hb4.mono HB3.out.size)
      obtain ⟨k1, k2⟩ := HSet.out w4 hb5 (.int .i64 0) (.int .i64 0) (.string ⟨#[]⟩)
      have hz := HFz.out w4 hb5
      have f0 := free_blk hz 0
      have f1 := free_blk hz 1
      have f2 := free_blk hz 2
      have y0 := cell_blk hz (i := 0) rfl
      have y1 := cell_blk hz (i := 1) rfl
      have y2 := cell_blk hz (i := 2) rfl
      have HF : Hid (RfGo w b v sd ls (((w4.setCell ⟨w.heap.size, 0, none⟩ (.int .i64 0)).setCell ⟨w.heap.size, 1, none⟩ (.int .i64 0)).setCell ⟨w.heap.size, 2, none⟩ (.string ⟨#[]⟩))) := H1.out.1.go k1
      have HK2 : Hid ((((w4.setCell ⟨w.heap.size, 0, none⟩ (.int .i64 0)).setCell ⟨w.heap.size, 1, none⟩ (.int .i64 0)).setCell ⟨w.heap.size, 2, none⟩ (.string ⟨#[]⟩)).heap[w.heap.size]? = some (.cells #[.int .i64 0, .int .i64 0, .string ⟨#[]⟩] 39 (0, 0))) := k2
      clear HRe hb4 hb5 k1 k2 hz l0 l1
      go_wp2
      have k2 := HK2.out
      exact bodyPost_ret (res_letter rfl _ _ w.heap.size _ _ _ rfl (cell_blk k2 rfl) (cell_blk k2 rfl) (cell_blk k2 rfl)) rfl ⟨rfl, HF.out⟩
    | true =>
      simp only [if_true, Int.toNat_natCast]
      go_enter Try.func19, Try.ntmps19
      go_upto_region 1 with fail
      rw [← hw1]
      clear hw1
      go_wp2_with (fail)
      refine HL.out.mono ?_
      rintro e w2 ⟨rfl, hb⟩
      obtain ⟨w3, hw3⟩ : ∃ w3, w3 = w2.alloc (.cells #[.int .i64 (y.1 : Int), .int .i64 (y.2.1 : Int), .string ⟨y.2.2.toArray⟩] 39) := ⟨_, rfl⟩
      have hb3 : Below w1.heap.size w1 w3 := by rw [hw3]; exact hb.alloc hb.size _
      have hk3 : w3.heap[w2.heap.size]? = some (.cells #[.int .i64 (y.1 : Int), .int .i64 (y.2.1 : Int), .string ⟨y.2.2.toArray⟩] 39 (0, 0)) := by rw [hw3]; exact heap_alloc_new _ _
      have l0 := cell_blk hk3 (i := 0) rfl
      have l1 := cell_blk hk3 (i := 1) rfl
      have HRe : Hid (Calls Try.prog 22 #[nptr b, .int .i64 (y.1 : Int), .int .i64 (y.2.1 : Int)] w3 fun e w' => e = .returned (.bool true) ∧ Below w3.heap.size w3 w') := by
        have := rreach_any (H1.out.2.1.below hb3) (y.1 : Int) (y.2.1 : Int)
        rwa [hr] at this
      have HB3 : Hid (Below w1.heap.size w1 w3 ∧ w3.heap[w2.heap.size]? = some (.cells #[.int .i64 (y.1 : Int), .int .i64 (y.2.1 : Int), .string ⟨y.2.2.toArray⟩] 39 (0, 0)) ∧ j < ls.length ∧ w1.heap.size ≤ w2.heap.size ∧ w.heap.size < w1.heap.size) := ⟨hb3, hk3, hjl, hb.size, lt_blk H1.out.2.2.2.1⟩
      clear HL hb hb3 hk3 hr hjl
      go_upto_region 2 with fail
      rw [← hw3]
      clear hw3
      go_wp2_with (fail)
      refine HRe.out.mono ?_
      rintro e w4 ⟨rfl, hb4⟩
      have h4 := (H1.out.2.1.below HB3.out.1).below hb4
      have HOu : Hid (Calls Try.prog 32 #[nptr b, .int .i64 (j : Int)] w4 fun e w' => ∃ v', e = .returned v' ∧ OwnR w' w4.heap.size v' (ls.eraseIdx j) ∧ Below w4.heap.size w4 w') := rout_any h4 HB3.out.2.2.1
      have H4 : Hid (RfW w4 b v sd ls ∧ Below w3.heap.size w3 w4) := ⟨h4, hb4⟩
      clear HRe hb4 h4 l0 l1
      go_wp2_with (fail)
      refine HOu.out.mono ?_
      rintro e w5 ⟨vo, rfl, ho, hb5⟩
      obtain ⟨oa, oc, hvo⟩ := ho.slice
      obtain ⟨on, hon⟩ : ∃ on, (ls.eraseIdx j).length = on := ⟨_, rfl⟩
      rw [hon] at hvo
      clear hon
      subst hvo
      have hbk := blk_below H4.out.1.blk hb5
      have z := cell_blk hbk (i := 0) rfl
      have zf : w5.frozen? ⟨b, 0, none⟩ = false := free_blk hbk 0
      have hG : RfGo w4 b v sd (ls.eraseIdx j) (w5.setCell ⟨b, 0, none⟩ (.slice oa on oc)) := H4.out.1.stored (Fr.of_below _ hb5) (ho.low (Nat.zero_le _)) (fun g hg => Or.inr (ho.block hg).1) (by rw [List.length_eraseIdx]; have := H4.out.1.few; split <;> omega) (fun q hq => H4.out.1.nod q (List.mem_of_mem_eraseIdx hq))
      obtain ⟨w6, hw6⟩ : ∃ w6, w6 = w5.setCell ⟨b, 0, none⟩ (.slice oa on oc) := ⟨_, rfl⟩
      rw [← hw6] at hG
      have hb15 : Below w1.heap.size w1 w5 := HB3.out.1.trans ((H4.out.2.mono HB3.out.1.size).trans (hb5.mono (Nat.le_trans HB3.out.1.size H4.out.2.size)))
      have hbw : b < w.heap.size := H1.out.2.2.2.2
      have hk6 : w6.heap[w.heap.size]? = some (.cells #[.int .i64 0, .int .i64 0, .string ⟨#[]⟩] 39 (0, 0)) := by rw [hw6, set_other _ (by omega)]; exact HFz.out w5 hb15
      have hl6 : w6.heap[w2.heap.size]? = some (.cells #[.int .i64 (y.1 : Int), .int .i64 (y.2.1 : Int), .string ⟨y.2.2.toArray⟩] 39 (0, 0)) := by
        have := HB3.out.2.2.2
        rw [hw6, set_other _ (by omega)]
        exact blk_below (blk_below HB3.out.2.1 H4.out.2) hb5
      have f0 := free_blk hk6 0
      have f1 := free_blk hk6 1
      have f2 := free_blk hk6 2
      have y0 := cell_blk hk6 (i := 0) rfl
      have y1 := cell_blk hk6 (i := 1) rfl
      have y2 := cell_blk hk6 (i := 2) rfl
      have l0 := cell_blk hl6 (i := 0) rfl
      have l1 := cell_blk hl6 (i := 1) rfl
      have l2 := cell_blk hl6 (i := 2) rfl
      have HK6 : Hid ((((w6.setCell ⟨w.heap.size, 0, none⟩ (.int .i64 (y.1 : Int))).setCell ⟨w.heap.size, 1, none⟩ (.int .i64 (y.2.1 : Int))).setCell ⟨w.heap.size, 2, none⟩ (.string ⟨y.2.2.toArray⟩)).heap[w.heap.size]? = some (.cells #[.int .i64 (y.1 : Int), .int .i64 (y.2.1 : Int), .string ⟨y.2.2.toArray⟩] 39 (0, 0))) := set_blk (set_blk (set_blk hk6 0 _) 1 _) 2 _
      have HF : Hid (RfGo w b v sd (ls.eraseIdx j) (((w6.setCell ⟨w.heap.size, 0, none⟩ (.int .i64 (y.1 : Int))).setCell ⟨w.heap.size, 1, none⟩ (.int .i64 (y.2.1 : Int))).setCell ⟨w.heap.size, 2, none⟩ (.string ⟨y.2.2.toArray⟩))) := by
        have hpre : Below w.heap.size w w4 := H1.out.2.2.1.trans ((HB3.out.1.trans (H4.out.2.mono HB3.out.1.size)).mono H1.out.2.2.1.size)
        have hlt4 : w.heap.size < w4.heap.size := by have := HB3.out.2.2.2; have := HB3.out.1.size; have := H4.out.2.size; omega
        refine RfGo.rb (RfGo.pre hpre hG) hbw (q := w.heap.size) (Nat.le_refl _) (fun v' hv' => ?_) (Fr.set (S := fun k => k = w.heap.size) (p := ⟨w.heap.size, 2, none⟩) (Fr.set (S := fun k => k = w.heap.size) (p := ⟨w.heap.size, 1, none⟩) (Fr.set (S := fun k => k = w.heap.size) (p := ⟨w.heap.size, 0, none⟩) (Fr.refl _ _) rfl _) rfl _) rfl _)
        intro e
        have e0 := hv'.c0
        have e1 : w6.cell? ⟨b, 0, none⟩ = some (.slice oa on oc) := by
          rw [hw6]
          exact cell_blk (set_blk hbk 0 _) rfl
        rw [e1] at e0
        have e2 := Option.some.inj e0
        rw [← e2] at e
        have := (ho.block e).1
        omega
      clear HOu ho hb5 hG hb15 hbk hk6 hl6
      go_upto_region 8 with fail
      rw [← hw6]
      clear hw6 z zf
      go_wp2
      have k2 := HK6.out
      exact bodyPost_ret (res_letter rfl _ _ w.heap.size _ _ _ rfl (cell_blk k2 rfl) (cell_blk k2 rfl) (cell_blk k2 rfl)) rfl ⟨rfl, HF.out⟩
end Go.Proofs.Ytblohegdlcpipaa
