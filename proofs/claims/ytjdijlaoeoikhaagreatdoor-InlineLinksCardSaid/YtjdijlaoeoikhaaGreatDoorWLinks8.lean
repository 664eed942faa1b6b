/- InlineLinks: a link leads where it says; walked. -/
import Derived.Test.YtjdijlaoeoikhaaGreatDoorWCode8
import Derived.Test.YtjdijlaoeoikhaaGreatDoorIPlainW
set_option linter.unusedVariables false
namespace Go.Proofs.YtjdijlaoeoikhaaGreatDoor
open Go.RowKit

/-- Two texts, one behind the other, by a name. -/
theorem sadd_ex (A B : Str8) (h : A.length + B.length ≤ 9000000000000000000) : ∃ C : Str8, Hid (C = A ++ B) ∧ C.length = A.length + B.length ∧ ∀ w, (Op.stringOp .add (ByteArray.mk A.toArray) (ByteArray.mk B.toArray)).run Tryz.prog w = .ok (strI C) w :=
  ⟨A ++ B, rfl, by simp, sadd8 A B (by omega)⟩
theorem str_self (D : Str8) : (D == D) = true := by simp

abbrev dcells (D T W : Str8) : Array Value := #[.string ⟨#[114, 101, 102]⟩, strI D, strI T, strI W, strI D, strI T]
theorem defs_two (u : World) (D T W : Str8) (p : Obj) : DefsAt ((u.alloc (.cells (dcells D T W) 35)).alloc p) (.slice (some ⟨u.heap.size, 0, none⟩) 2 2) [([114, 101, 102], D, T), (W, D, T)] := by
  refine ⟨some ⟨u.heap.size, 0, none⟩, 2, rfl, fun i q hq => ?_⟩
  have hb0 := heap_alloc_new u (.cells (dcells D T W) 35)
  have hb := blk.blk_below hb0 ((Below.refl _ _).alloc (Nat.le_refl _) p)
  have hi : i = 0 ∨ i = 1 := by
    have := (List.getElem?_eq_some_iff.1 hq).1
    simp only [List.length_cons, List.length_nil] at this
    omega
  rcases hi with rfl | rfl
  · cases hq
    exact ⟨u.heap.size, 0, rfl, blk.lt_of_block hb, blk.cell_blk hb rfl, blk.cell_blk hb rfl, blk.cell_blk hb rfl⟩
  · cases hq
    exact ⟨u.heap.size, 0, rfl, blk.lt_of_block hb, blk.cell_blk hb rfl, blk.cell_blk hb rfl, blk.cell_blk hb rfl⟩
theorem lits_six (K : Nat) (hK : K < 6) (D T A B C : Str8) (hA : A = [40] ++ D ++ [32, 39] ++ T ++ [39, 41]) (hB : B = [40, 60] ++ D ++ [62, 10, 40] ++ T ++ [41, 41]) (hC : C = [40, 32] ++ D ++ [9, 34] ++ T ++ [34, 32, 41]) :
    ∃ TL : Str8, TL = tailI K D T ∧ ∀ h : K < ([strI A, strI B, .string ⟨#[91, 82, 69, 70, 93]⟩, .string ⟨#[91, 93]⟩, .string ⟨#[]⟩, strI C] : List Value).length, ([strI A, strI B, .string ⟨#[91, 82, 69, 70, 93]⟩, .string ⟨#[91, 93]⟩, .string ⟨#[]⟩, strI C] : List Value)[K]'h = strI TL := by
  have : K = 0 ∨ K = 1 ∨ K = 2 ∨ K = 3 ∨ K = 4 ∨ K = 5 := by omega
  subst hA
  subst hB
  subst hC
  rcases this with rfl | rfl | rfl | rfl | rfl | rfl <;> exact ⟨_, rfl, fun h => rfl⟩
/-- What Parse answers of a link between two words. -/
theorem links_row {w : World} {v : Value} {im : Bool} {D T W : Str8} (h : InRow w (.cons { text := [120, 32] } .nil (.cons { kind := knI im, dest := D, title := T } (.cons { text := W } .nil .nil) (.cons { text := [32, 121] } .nil .nil))) v) :
    ∃ g c g2 c2, v = .slice (some ⟨g, 0, none⟩) 3 c ∧ w.cell? ⟨g, 1, none⟩ = some (strW [120, 32]) ∧ w.cell? ⟨g, 11, none⟩ = some (strW [32, 121]) ∧ w.cell? ⟨g, 5, none⟩ = some (.int .i64 (knI im : Int)) ∧ w.cell? ⟨g, 7, none⟩ = some (strW D) ∧ w.cell? ⟨g, 8, none⟩ = some (strW T) ∧ w.cell? ⟨g, 9, none⟩ = some (.slice (some ⟨g2, 0, none⟩) 1 c2) ∧ w.cell? ⟨g2, 1, none⟩ = some (strW W) := by
  obtain ⟨ys, hr, hk⟩ := h
  obtain ⟨v0, _, z0, hx0, _, _, _, v1, y1, z1, hx1, r1, _, k1, v2, _, z2, hx2, _, _, _, hx3⟩ := hk
  have hx3 : z2 = [] := hx3
  subst hx3
  subst hx2
  subst hx1
  subst hx0
  obtain ⟨a, c, rfl⟩ := row_len hr
  obtain ⟨g, rfl, _, q1⟩ := row_cell hr (j := 1) rfl
  obtain ⟨g2, c2, v3, rfl, m0, m1, m4, _⟩ := inrow_one (w := w) (v := v1) ⟨y1, r1, k1⟩
  refine ⟨g, c, g2, c2, rfl, q1, ?_, ?_, ?_, ?_, ?_, m1⟩
  · obtain ⟨g', e, _, q⟩ := row_cell hr (j := 11) rfl; cases e; exact q
  · obtain ⟨g', e, _, q⟩ := row_cell hr (j := 5) rfl; cases e; exact q
  · obtain ⟨g', e, _, q⟩ := row_cell hr (j := 7) rfl; cases e; exact q
  · obtain ⟨g', e, _, q⟩ := row_cell hr (j := 8) rfl; cases e; exact q
  · obtain ⟨g', e, _, q⟩ := row_cell hr (j := 9) rfl; cases e; exact q

set_option maxHeartbeats 8000000 in
set_option maxRecDepth 20000 in
theorem wlinks8 (s0 : ByteArray) (w0 : s0.size ≤ 140737488351232) (s1 : ByteArray) (w1 : s1.size ≤ 140737488351232) (s2 : ByteArray) (w2 : s2.size ≤ 140737488351232) (a3 : Int) (w3 : -9223372036854775808 ≤ a3 ∧ a3 ≤ 9223372036854775807) (c4 : Bool) (w : World) (hm : Glob w) :
    Calls Tryz.prog 5 #[.string s0, .string s1, .string s2, .int .i64 a3, .bool c4] w fun e w' => e = .returned (.bool true) ∧ Below w.heap.size w w' := by
  have HS : Hid (Calls Tryz.prog 7 #[] w fun e w' => e = .returned (.bool true) ∧ Below w.heap.size w w') := ishown_any w hm
  have HG := (show Hid (Glob w) from hm)
  have h3 := hm.2.2
  have HW0 : Hid (∀ u, Calls Tryz.prog 12 #[.string s0, .int .i64 50] u fun e w' => ∃ l : List UInt8, e = .returned (.string ⟨l.toArray⟩) ∧ (∀ c ∈ l, lowB c = true) ∧ l.length ≤ 50 ∧ Below u.heap.size u w') := fun u => iplain_any s0 (by omega) 50 (by omega) u
  have HW1 : Hid (∀ u, Calls Tryz.prog 12 #[.string s1, .int .i64 50] u fun e w' => ∃ l : List UInt8, e = .returned (.string ⟨l.toArray⟩) ∧ (∀ c ∈ l, lowB c = true) ∧ l.length ≤ 50 ∧ Below u.heap.size u w') := fun u => iplain_any s1 (by omega) 50 (by omega) u
  have HW2 : Hid (∀ u, Calls Tryz.prog 12 #[.string s2, .int .i64 50] u fun e w' => ∃ l : List UInt8, e = .returned (.string ⟨l.toArray⟩) ∧ (∀ c ∈ l, lowB c = true) ∧ l.length ≤ 50 ∧ Below u.heap.size u w') := fun u => iplain_any s2 (by omega) 50 (by omega) u
  obtain ⟨x, hx0, hx6, hfold⟩ := fold8_ex a3 6 w3.1 (by omega)
  obtain ⟨K, hK⟩ : ∃ K : Nat, x = (K : Int) := ⟨x.toNat, by omega⟩
  have hK6 : K < 6 := by omega
  have hK6i : (K : Int) < 6 := by omega
  subst hK
  obtain ⟨w3a, w3b⟩ := w3
  have HP : Hid (∀ (u : World) (v : Value) (im : Bool) (L wl D T : Str8), Below w.heap.size w u → DefsAt u v [([114, 101, 102], D, T), (119 :: wl, D, T)] → L.length ≤ 1073741824 → wl.length ≤ 50 → (∀ c ∈ wl, lowB c = true) → D.head? = some 100 → (∀ c ∈ D, lowB c = true) → T.head? = some 116 → (∀ c ∈ T, lowB c = true) → L = [120, 32] ++ opI im ++ (119 :: wl) ++ 93 :: (tailI K D T ++ [32, 121]) → Calls Tryz.prog 9 #[strI L, v] u fun e w' => ∃ g c g2 c2, e = .returned (.slice (some ⟨g, 0, none⟩) 3 c) ∧ (w'.cell? ⟨g, 1, none⟩ = some (strW [120, 32]) ∧ w'.cell? ⟨g, 11, none⟩ = some (strW [32, 121]) ∧ w'.cell? ⟨g, 5, none⟩ = some (.int .i64 (knI im : Int)) ∧ w'.cell? ⟨g, 7, none⟩ = some (strW D) ∧ w'.cell? ⟨g, 8, none⟩ = some (strW T) ∧ w'.cell? ⟨g, 9, none⟩ = some (.slice (some ⟨g2, 0, none⟩) 1 c2) ∧ w'.cell? ⟨g2, 1, none⟩ = some (strW (119 :: wl))) ∧ Below w.heap.size w w') := by
    intro u v im L wl D T hu hd hL hwl hwlow hD1 hD2 hT1 hT2 hLe
    refine (iparse_any L hL _ (by simp) (fun d hd => by
      simp only [List.mem_cons, List.not_mem_nil, or_false] at hd
      rcases hd with rfl | rfl
      · simp
      · simp only [List.length_cons]; omega) v u hd (HG.out.below h3 hu)).mono ?_
    rintro e w' ⟨v', rfl, hr, hb⟩
    rw [hLe, link_ways im K hK6 wl D T hwlow hwl hD1 hT1 hD2 hT2] at hr
    obtain ⟨g, c, g2, c2, rfl, q⟩ := links_row (w := w') (v := v') (im := im) hr
    exact ⟨g, c, g2, c2, rfl, q, hu.trans (hb.mono hu.size)⟩
  clear hm w0 w1 w2 hx0 hx6
  have hfc : ∀ {P : Prop}, (¬ a3 < 0 → a3.tmod 6 = (K : Int) → c4 = true → P) → (¬ a3 < 0 → a3.tmod 6 = (K : Int) → c4 = false → P) → (a3 < 0 → (-(a3 + 1)).tmod 6 = (K : Int) → c4 = true → P) → (a3 < 0 → (-(a3 + 1)).tmod 6 = (K : Int) → c4 = false → P) → P := by
    intro P p1 p2 p3 p4
    rcases hfold with ⟨f1, f2⟩ | ⟨f1, _, f2⟩ <;> cases hc : c4
    · exact p2 f1 f2 hc
    · exact p1 f1 f2 hc
    · exact p4 f1 f2 hc
    · exact p3 f1 f2 hc
  clear hfold
  apply hfc
  all_goals
    clear hfc
    intro f1 f2 g1
  · subst g1
    go_enter Tryz.func5, Tryz.ntmps5
    go_wp2_with (first
      | (go_at_call 7; refine Calls.mono HS.out ?_; rintro e u1 ⟨rfl, hb1⟩; have HB1 := (show Hid (Below _ _ _) from hb1); clear hb1)
      | (have := u3; go_at_call 12; refine Calls.mono (HW2.out _) ?_; clear this; rintro e u4 ⟨tl, rfl, htl, htn, hb4⟩; have HB4 := (show Hid (Below w.heap.size w u4) from HB3.out.trans (hb4.mono HB3.out.size)); obtain ⟨T, HTe, hTl, dt⟩ := sadd_ex [116] tl (by simp only [List.length_cons, List.length_nil]; omega)
         have HT1 : Hid (T.head? = some 116) := (by show T.head? = some 116; rw [HTe.out]; rfl)
         have HT2 : Hid (∀ c ∈ T, lowB c = true) := (fun c hc => by rw [HTe.out] at hc; rcases List.mem_cons.1 hc with rfl | q; exact (by decide); exact htl c q)
         have HD1 : Hid (D.head? = some 100) := (by show D.head? = some 100; rw [HDe.out]; rfl)
         have HD2 : Hid (∀ c ∈ D, lowB c = true) := (fun c hc => by rw [HDe.out] at hc; rcases List.mem_cons.1 hc with rfl | q; exact (by decide); exact HDL.out c q)
         clear hb4 htl HTe HDe HDL
         simp only [List.length_cons, List.length_nil] at hTl hDl hWl
         obtain ⟨A1, HA1, hA1, a1⟩ := sadd_ex [40] D (by simp only [List.length_cons, List.length_nil]; omega)
         obtain ⟨A2, HA2, hA2, a2⟩ := sadd_ex A1 [32, 39] (by simp only [List.length_cons, List.length_nil] at *; omega)
         obtain ⟨A3, HA3, hA3, a3⟩ := sadd_ex A2 T (by simp only [List.length_cons, List.length_nil] at *; omega)
         obtain ⟨A4, HA4, hA4, a4⟩ := sadd_ex A3 [39, 41] (by simp only [List.length_cons, List.length_nil] at *; omega)
         obtain ⟨B1, HB1', hB1, b1⟩ := sadd_ex [40, 60] D (by simp only [List.length_cons, List.length_nil]; omega)
         obtain ⟨B2, HB2', hB2, b2⟩ := sadd_ex B1 [62, 10, 40] (by simp only [List.length_cons, List.length_nil] at *; omega)
         obtain ⟨B3, HB3', hB3, b3⟩ := sadd_ex B2 T (by simp only [List.length_cons, List.length_nil] at *; omega)
         obtain ⟨B4, HB4', hB4, b4⟩ := sadd_ex B3 [41, 41] (by simp only [List.length_cons, List.length_nil] at *; omega)
         obtain ⟨C1, HC1, hC1, c1⟩ := sadd_ex [40, 32] D (by simp only [List.length_cons, List.length_nil]; omega)
         obtain ⟨C2, HC2, hC2, c2⟩ := sadd_ex C1 [9, 34] (by simp only [List.length_cons, List.length_nil] at *; omega)
         obtain ⟨C3, HC3, hC3, c3⟩ := sadd_ex C2 T (by simp only [List.length_cons, List.length_nil] at *; omega)
         obtain ⟨C4, HC4, hC4, c4⟩ := sadd_ex C3 [34, 32, 41] (by simp only [List.length_cons, List.length_nil] at *; omega)
         obtain ⟨TL, hTL, hlit⟩ := lits_six K hK6 D T A4 B4 C4 (by rw [HA4.out, HA3.out, HA2.out, HA1.out]) (by rw [HB4'.out, HB3'.out, HB2'.out, HB1'.out]) (by rw [HC4.out, HC3.out, HC2.out, HC1.out])
         have hTLl : TL.length ≤ 120 := (by rw [hTL]; unfold tailI; repeat (first | (split) | (simp only [List.length_append, List.length_cons, List.length_nil]; omega)))
         have HTL := (show Hid (TL = tailI K D T) from hTL)
         clear hTL HA1 HA2 HA3 HA4 HB1' HB2' HB3' HB4' HC1 HC2 HC3 HC4 hA1 hA2 hA3 hA4 hB1 hB2 hB3 hB4 hC1 hC2 hC3 hC4
         obtain ⟨S1, HS1, hS1, e1⟩ := sadd_ex [91] W (by simp only [List.length_cons, List.length_nil]; omega)
         obtain ⟨S2, HS2, hS2, e2⟩ := sadd_ex S1 [93] (by simp only [List.length_cons, List.length_nil] at *; omega)
         obtain ⟨S3, HS3, hS3, e3⟩ := sadd_ex S2 TL (by simp only [List.length_cons, List.length_nil] at *; omega)
         obtain ⟨S4, HS4, hS4, e4⟩ := sadd_ex [33] S3 (by simp only [List.length_cons, List.length_nil] at *; omega)
         obtain ⟨Z1, HZ1, hZ1, z1⟩ := sadd_ex [120, 32] S4 (by simp only [List.length_cons, List.length_nil] at *; omega)
         obtain ⟨Z2, HZ2, hZ2, z2⟩ := sadd_ex Z1 [32, 121] (by simp only [List.length_cons, List.length_nil] at *; omega)
         have HPx : Hid (∀ p, Calls Tryz.prog 9 #[strI Z2, .slice (some ⟨u4.heap.size, 0, none⟩) 2 2] ((u4.alloc (.cells (dcells D T W) 35)).alloc p) fun e w' => ∃ g c g2 c2, e = .returned (.slice (some ⟨g, 0, none⟩) 3 c) ∧ (w'.cell? ⟨g, 1, none⟩ = some (strW [120, 32]) ∧ w'.cell? ⟨g, 11, none⟩ = some (strW [32, 121]) ∧ w'.cell? ⟨g, 5, none⟩ = some (.int .i64 7) ∧ w'.cell? ⟨g, 7, none⟩ = some (strW D) ∧ w'.cell? ⟨g, 8, none⟩ = some (strW T) ∧ w'.cell? ⟨g, 9, none⟩ = some (.slice (some ⟨g2, 0, none⟩) 1 c2) ∧ w'.cell? ⟨g2, 1, none⟩ = some (strW W)) ∧ Below w.heap.size w w') := (by
           intro p
           have hb5 := HB4.out.alloc HB4.out.size (.cells (dcells D T W) 35)
           have hb6 := hb5.alloc hb5.size p
           have := HP.out _ _ true Z2 wl D T hb6 (by rw [← show W = 119 :: wl from HWe.out]; exact defs_two u4 D T W p) (by simp only [List.length_cons, List.length_nil] at *; omega) hwn HWL.out HD1.out HD2.out HT1.out HT2.out (by rw [HZ2.out, HZ1.out, HS4.out, HS3.out, HS2.out, HS1.out, HWe.out, HTL.out]; simp [opI])
           rw [← show W = 119 :: wl from HWe.out] at this
           exact this)
         have hDD := str_self D
         have hTT := str_self T
         have hWW := str_self W
         clear HP HTL HS1 HS2 HS3 HZ1 HZ2 HT1 HT2 HD1 HD2 HWe HWL hS1 hS2 hS3 hZ1 hZ2 hTLl HS4 hS4)
      | (have := u2; go_at_call 12; refine Calls.mono (HW1.out _) ?_; clear this; rintro e u3 ⟨dl, rfl, hdl, hdn, hb3⟩; have HB3 := (show Hid (Below w.heap.size w u3) from HB2.out.trans (hb3.mono HB2.out.size)); have HDL := (show Hid (∀ c ∈ dl, lowB c = true) from hdl); clear hb3 hdl; obtain ⟨D, HDe, hDl, dd⟩ := sadd_ex [100] dl (by simp only [List.length_cons, List.length_nil]; omega))
      | (go_at_call 12; refine Calls.mono (HW0.out _) ?_; rintro e u2 ⟨wl, rfl, hwl, hwn, hb2⟩; have HB2 := (show Hid (Below w.heap.size w u2) from HB1.out.trans (hb2.mono HB1.out.size)); have HWL := (show Hid (∀ c ∈ wl, lowB c = true) from hwl); clear hb2 hwl; obtain ⟨W, HWe, hWl, dw⟩ := sadd_ex [119] wl (by simp only [List.length_cons, List.length_nil]; omega))
      | (go_at_call 9; refine Calls.mono (HPx.out _) ?_; rintro e u5 ⟨g, c, g2, c2, rfl, ⟨q1, q11, q5, q7, q8, q9, m1⟩, hb5⟩; have HB5 := (show Hid (Below _ _ _) from hb5); clear hb5))
    go_ret
    exact ⟨rfl, HB5.out⟩
  · subst g1
    go_enter Tryz.func5, Tryz.ntmps5
    go_wp2_with (first
      | (go_at_call 7; refine Calls.mono HS.out ?_; rintro e u1 ⟨rfl, hb1⟩; have HB1 := (show Hid (Below _ _ _) from hb1); clear hb1)
      | (have := u3; go_at_call 12; refine Calls.mono (HW2.out _) ?_; clear this; rintro e u4 ⟨tl, rfl, htl, htn, hb4⟩; have HB4 := (show Hid (Below w.heap.size w u4) from HB3.out.trans (hb4.mono HB3.out.size)); obtain ⟨T, HTe, hTl, dt⟩ := sadd_ex [116] tl (by simp only [List.length_cons, List.length_nil]; omega)
         have HT1 : Hid (T.head? = some 116) := (by show T.head? = some 116; rw [HTe.out]; rfl)
         have HT2 : Hid (∀ c ∈ T, lowB c = true) := (fun c hc => by rw [HTe.out] at hc; rcases List.mem_cons.1 hc with rfl | q; exact (by decide); exact htl c q)
         have HD1 : Hid (D.head? = some 100) := (by show D.head? = some 100; rw [HDe.out]; rfl)
         have HD2 : Hid (∀ c ∈ D, lowB c = true) := (fun c hc => by rw [HDe.out] at hc; rcases List.mem_cons.1 hc with rfl | q; exact (by decide); exact HDL.out c q)
         clear hb4 htl HTe HDe HDL
         simp only [List.length_cons, List.length_nil] at hTl hDl hWl
         obtain ⟨A1, HA1, hA1, a1⟩ := sadd_ex [40] D (by simp only [List.length_cons, List.length_nil]; omega)
         obtain ⟨A2, HA2, hA2, a2⟩ := sadd_ex A1 [32, 39] (by simp only [List.length_cons, List.length_nil] at *; omega)
         obtain ⟨A3, HA3, hA3, a3⟩ := sadd_ex A2 T (by simp only [List.length_cons, List.length_nil] at *; omega)
         obtain ⟨A4, HA4, hA4, a4⟩ := sadd_ex A3 [39, 41] (by simp only [List.length_cons, List.length_nil] at *; omega)
         obtain ⟨B1, HB1', hB1, b1⟩ := sadd_ex [40, 60] D (by simp only [List.length_cons, List.length_nil]; omega)
         obtain ⟨B2, HB2', hB2, b2⟩ := sadd_ex B1 [62, 10, 40] (by simp only [List.length_cons, List.length_nil] at *; omega)
         obtain ⟨B3, HB3', hB3, b3⟩ := sadd_ex B2 T (by simp only [List.length_cons, List.length_nil] at *; omega)
         obtain ⟨B4, HB4', hB4, b4⟩ := sadd_ex B3 [41, 41] (by simp only [List.length_cons, List.length_nil] at *; omega)
         obtain ⟨C1, HC1, hC1, c1⟩ := sadd_ex [40, 32] D (by simp only [List.length_cons, List.length_nil]; omega)
         obtain ⟨C2, HC2, hC2, c2⟩ := sadd_ex C1 [9, 34] (by simp only [List.length_cons, List.length_nil] at *; omega)
         obtain ⟨C3, HC3, hC3, c3⟩ := sadd_ex C2 T (by simp only [List.length_cons, List.length_nil] at *; omega)
         obtain ⟨C4, HC4, hC4, c4⟩ := sadd_ex C3 [34, 32, 41] (by simp only [List.length_cons, List.length_nil] at *; omega)
         obtain ⟨TL, hTL, hlit⟩ := lits_six K hK6 D T A4 B4 C4 (by rw [HA4.out, HA3.out, HA2.out, HA1.out]) (by rw [HB4'.out, HB3'.out, HB2'.out, HB1'.out]) (by rw [HC4.out, HC3.out, HC2.out, HC1.out])
         have hTLl : TL.length ≤ 120 := (by rw [hTL]; unfold tailI; repeat (first | (split) | (simp only [List.length_append, List.length_cons, List.length_nil]; omega)))
         have HTL := (show Hid (TL = tailI K D T) from hTL)
         clear hTL HA1 HA2 HA3 HA4 HB1' HB2' HB3' HB4' HC1 HC2 HC3 HC4 hA1 hA2 hA3 hA4 hB1 hB2 hB3 hB4 hC1 hC2 hC3 hC4
         obtain ⟨S1, HS1, hS1, e1⟩ := sadd_ex [91] W (by simp only [List.length_cons, List.length_nil]; omega)
         obtain ⟨S2, HS2, hS2, e2⟩ := sadd_ex S1 [93] (by simp only [List.length_cons, List.length_nil] at *; omega)
         obtain ⟨S3, HS3, hS3, e3⟩ := sadd_ex S2 TL (by simp only [List.length_cons, List.length_nil] at *; omega)
         obtain ⟨Z1, HZ1, hZ1, z1⟩ := sadd_ex [120, 32] S3 (by simp only [List.length_cons, List.length_nil] at *; omega)
         obtain ⟨Z2, HZ2, hZ2, z2⟩ := sadd_ex Z1 [32, 121] (by simp only [List.length_cons, List.length_nil] at *; omega)
         have HPx : Hid (∀ p, Calls Tryz.prog 9 #[strI Z2, .slice (some ⟨u4.heap.size, 0, none⟩) 2 2] ((u4.alloc (.cells (dcells D T W) 35)).alloc p) fun e w' => ∃ g c g2 c2, e = .returned (.slice (some ⟨g, 0, none⟩) 3 c) ∧ (w'.cell? ⟨g, 1, none⟩ = some (strW [120, 32]) ∧ w'.cell? ⟨g, 11, none⟩ = some (strW [32, 121]) ∧ w'.cell? ⟨g, 5, none⟩ = some (.int .i64 6) ∧ w'.cell? ⟨g, 7, none⟩ = some (strW D) ∧ w'.cell? ⟨g, 8, none⟩ = some (strW T) ∧ w'.cell? ⟨g, 9, none⟩ = some (.slice (some ⟨g2, 0, none⟩) 1 c2) ∧ w'.cell? ⟨g2, 1, none⟩ = some (strW W)) ∧ Below w.heap.size w w') := (by
           intro p
           have hb5 := HB4.out.alloc HB4.out.size (.cells (dcells D T W) 35)
           have hb6 := hb5.alloc hb5.size p
           have := HP.out _ _ false Z2 wl D T hb6 (by rw [← show W = 119 :: wl from HWe.out]; exact defs_two u4 D T W p) (by simp only [List.length_cons, List.length_nil] at *; omega) hwn HWL.out HD1.out HD2.out HT1.out HT2.out (by rw [HZ2.out, HZ1.out, HS3.out, HS2.out, HS1.out, HWe.out, HTL.out]; simp [opI])
           rw [← show W = 119 :: wl from HWe.out] at this
           exact this)
         have hDD := str_self D
         have hTT := str_self T
         have hWW := str_self W
         clear HP HTL HS1 HS2 HS3 HZ1 HZ2 HT1 HT2 HD1 HD2 HWe HWL hS1 hS2 hS3 hZ1 hZ2 hTLl)
      | (have := u2; go_at_call 12; refine Calls.mono (HW1.out _) ?_; clear this; rintro e u3 ⟨dl, rfl, hdl, hdn, hb3⟩; have HB3 := (show Hid (Below w.heap.size w u3) from HB2.out.trans (hb3.mono HB2.out.size)); have HDL := (show Hid (∀ c ∈ dl, lowB c = true) from hdl); clear hb3 hdl; obtain ⟨D, HDe, hDl, dd⟩ := sadd_ex [100] dl (by simp only [List.length_cons, List.length_nil]; omega))
      | (go_at_call 12; refine Calls.mono (HW0.out _) ?_; rintro e u2 ⟨wl, rfl, hwl, hwn, hb2⟩; have HB2 := (show Hid (Below w.heap.size w u2) from HB1.out.trans (hb2.mono HB1.out.size)); have HWL := (show Hid (∀ c ∈ wl, lowB c = true) from hwl); clear hb2 hwl; obtain ⟨W, HWe, hWl, dw⟩ := sadd_ex [119] wl (by simp only [List.length_cons, List.length_nil]; omega))
      | (go_at_call 9; refine Calls.mono (HPx.out _) ?_; rintro e u5 ⟨g, c, g2, c2, rfl, ⟨q1, q11, q5, q7, q8, q9, m1⟩, hb5⟩; have HB5 := (show Hid (Below _ _ _) from hb5); clear hb5))
    go_ret
    exact ⟨rfl, HB5.out⟩
  · subst g1
    go_enter Tryz.func5, Tryz.ntmps5
    go_wp2_with (first
      | (go_at_call 7; refine Calls.mono HS.out ?_; rintro e u1 ⟨rfl, hb1⟩; have HB1 := (show Hid (Below _ _ _) from hb1); clear hb1)
      | (have := u3; go_at_call 12; refine Calls.mono (HW2.out _) ?_; clear this; rintro e u4 ⟨tl, rfl, htl, htn, hb4⟩; have HB4 := (show Hid (Below w.heap.size w u4) from HB3.out.trans (hb4.mono HB3.out.size)); obtain ⟨T, HTe, hTl, dt⟩ := sadd_ex [116] tl (by simp only [List.length_cons, List.length_nil]; omega)
         have HT1 : Hid (T.head? = some 116) := (by show T.head? = some 116; rw [HTe.out]; rfl)
         have HT2 : Hid (∀ c ∈ T, lowB c = true) := (fun c hc => by rw [HTe.out] at hc; rcases List.mem_cons.1 hc with rfl | q; exact (by decide); exact htl c q)
         have HD1 : Hid (D.head? = some 100) := (by show D.head? = some 100; rw [HDe.out]; rfl)
         have HD2 : Hid (∀ c ∈ D, lowB c = true) := (fun c hc => by rw [HDe.out] at hc; rcases List.mem_cons.1 hc with rfl | q; exact (by decide); exact HDL.out c q)
         clear hb4 htl HTe HDe HDL
         simp only [List.length_cons, List.length_nil] at hTl hDl hWl
         obtain ⟨A1, HA1, hA1, a1⟩ := sadd_ex [40] D (by simp only [List.length_cons, List.length_nil]; omega)
         obtain ⟨A2, HA2, hA2, a2⟩ := sadd_ex A1 [32, 39] (by simp only [List.length_cons, List.length_nil] at *; omega)
         obtain ⟨A3, HA3, hA3, a3⟩ := sadd_ex A2 T (by simp only [List.length_cons, List.length_nil] at *; omega)
         obtain ⟨A4, HA4, hA4, a4⟩ := sadd_ex A3 [39, 41] (by simp only [List.length_cons, List.length_nil] at *; omega)
         obtain ⟨B1, HB1', hB1, b1⟩ := sadd_ex [40, 60] D (by simp only [List.length_cons, List.length_nil]; omega)
         obtain ⟨B2, HB2', hB2, b2⟩ := sadd_ex B1 [62, 10, 40] (by simp only [List.length_cons, List.length_nil] at *; omega)
         obtain ⟨B3, HB3', hB3, b3⟩ := sadd_ex B2 T (by simp only [List.length_cons, List.length_nil] at *; omega)
         obtain ⟨B4, HB4', hB4, b4⟩ := sadd_ex B3 [41, 41] (by simp only [List.length_cons, List.length_nil] at *; omega)
         obtain ⟨C1, HC1, hC1, c1⟩ := sadd_ex [40, 32] D (by simp only [List.length_cons, List.length_nil]; omega)
         obtain ⟨C2, HC2, hC2, c2⟩ := sadd_ex C1 [9, 34] (by simp only [List.length_cons, List.length_nil] at *; omega)
         obtain ⟨C3, HC3, hC3, c3⟩ := sadd_ex C2 T (by simp only [List.length_cons, List.length_nil] at *; omega)
         obtain ⟨C4, HC4, hC4, c4⟩ := sadd_ex C3 [34, 32, 41] (by simp only [List.length_cons, List.length_nil] at *; omega)
         obtain ⟨TL, hTL, hlit⟩ := lits_six K hK6 D T A4 B4 C4 (by rw [HA4.out, HA3.out, HA2.out, HA1.out]) (by rw [HB4'.out, HB3'.out, HB2'.out, HB1'.out]) (by rw [HC4.out, HC3.out, HC2.out, HC1.out])
         have hTLl : TL.length ≤ 120 := (by rw [hTL]; unfold tailI; repeat (first | (split) | (simp only [List.length_append, List.length_cons, List.length_nil]; omega)))
         have HTL := (show Hid (TL = tailI K D T) from hTL)
         clear hTL HA1 HA2 HA3 HA4 HB1' HB2' HB3' HB4' HC1 HC2 HC3 HC4 hA1 hA2 hA3 hA4 hB1 hB2 hB3 hB4 hC1 hC2 hC3 hC4
         obtain ⟨S1, HS1, hS1, e1⟩ := sadd_ex [91] W (by simp only [List.length_cons, List.length_nil]; omega)
         obtain ⟨S2, HS2, hS2, e2⟩ := sadd_ex S1 [93] (by simp only [List.length_cons, List.length_nil] at *; omega)
         obtain ⟨S3, HS3, hS3, e3⟩ := sadd_ex S2 TL (by simp only [List.length_cons, List.length_nil] at *; omega)
         obtain ⟨S4, HS4, hS4, e4⟩ := sadd_ex [33] S3 (by simp only [List.length_cons, List.length_nil] at *; omega)
         obtain ⟨Z1, HZ1, hZ1, z1⟩ := sadd_ex [120, 32] S4 (by simp only [List.length_cons, List.length_nil] at *; omega)
         obtain ⟨Z2, HZ2, hZ2, z2⟩ := sadd_ex Z1 [32, 121] (by simp only [List.length_cons, List.length_nil] at *; omega)
         have HPx : Hid (∀ p, Calls Tryz.prog 9 #[strI Z2, .slice (some ⟨u4.heap.size, 0, none⟩) 2 2] ((u4.alloc (.cells (dcells D T W) 35)).alloc p) fun e w' => ∃ g c g2 c2, e = .returned (.slice (some ⟨g, 0, none⟩) 3 c) ∧ (w'.cell? ⟨g, 1, none⟩ = some (strW [120, 32]) ∧ w'.cell? ⟨g, 11, none⟩ = some (strW [32, 121]) ∧ w'.cell? ⟨g, 5, none⟩ = some (.int .i64 7) ∧ w'.cell? ⟨g, 7, none⟩ = some (strW D) ∧ w'.cell? ⟨g, 8, none⟩ = some (strW T) ∧ w'.cell? ⟨g, 9, none⟩ = some (.slice (some ⟨g2, 0, none⟩) 1 c2) ∧ w'.cell? ⟨g2, 1, none⟩ = some (strW W)) ∧ Below w.heap.size w w') := (by
           intro p
           have hb5 := HB4.out.alloc HB4.out.size (.cells (dcells D T W) 35)
           have hb6 := hb5.alloc hb5.size p
           have := HP.out _ _ true Z2 wl D T hb6 (by rw [← show W = 119 :: wl from HWe.out]; exact defs_two u4 D T W p) (by simp only [List.length_cons, List.length_nil] at *; omega) hwn HWL.out HD1.out HD2.out HT1.out HT2.out (by rw [HZ2.out, HZ1.out, HS4.out, HS3.out, HS2.out, HS1.out, HWe.out, HTL.out]; simp [opI])
           rw [← show W = 119 :: wl from HWe.out] at this
           exact this)
         have hDD := str_self D
         have hTT := str_self T
         have hWW := str_self W
         clear HP HTL HS1 HS2 HS3 HZ1 HZ2 HT1 HT2 HD1 HD2 HWe HWL hS1 hS2 hS3 hZ1 hZ2 hTLl HS4 hS4)
      | (have := u2; go_at_call 12; refine Calls.mono (HW1.out _) ?_; clear this; rintro e u3 ⟨dl, rfl, hdl, hdn, hb3⟩; have HB3 := (show Hid (Below w.heap.size w u3) from HB2.out.trans (hb3.mono HB2.out.size)); have HDL := (show Hid (∀ c ∈ dl, lowB c = true) from hdl); clear hb3 hdl; obtain ⟨D, HDe, hDl, dd⟩ := sadd_ex [100] dl (by simp only [List.length_cons, List.length_nil]; omega))
      | (go_at_call 12; refine Calls.mono (HW0.out _) ?_; rintro e u2 ⟨wl, rfl, hwl, hwn, hb2⟩; have HB2 := (show Hid (Below w.heap.size w u2) from HB1.out.trans (hb2.mono HB1.out.size)); have HWL := (show Hid (∀ c ∈ wl, lowB c = true) from hwl); clear hb2 hwl; obtain ⟨W, HWe, hWl, dw⟩ := sadd_ex [119] wl (by simp only [List.length_cons, List.length_nil]; omega))
      | (go_at_call 9; refine Calls.mono (HPx.out _) ?_; rintro e u5 ⟨g, c, g2, c2, rfl, ⟨q1, q11, q5, q7, q8, q9, m1⟩, hb5⟩; have HB5 := (show Hid (Below _ _ _) from hb5); clear hb5))
    go_ret
    exact ⟨rfl, HB5.out⟩
  · subst g1
    go_enter Tryz.func5, Tryz.ntmps5
    go_wp2_with (first
      | (go_at_call 7; refine Calls.mono HS.out ?_; rintro e u1 ⟨rfl, hb1⟩; have HB1 := (show Hid (Below _ _ _) from hb1); clear hb1)
      | (have := u3; go_at_call 12; refine Calls.mono (HW2.out _) ?_; clear this; rintro e u4 ⟨tl, rfl, htl, htn, hb4⟩; have HB4 := (show Hid (Below w.heap.size w u4) from HB3.out.trans (hb4.mono HB3.out.size)); obtain ⟨T, HTe, hTl, dt⟩ := sadd_ex [116] tl (by simp only [List.length_cons, List.length_nil]; omega)
         have HT1 : Hid (T.head? = some 116) := (by show T.head? = some 116; rw [HTe.out]; rfl)
         have HT2 : Hid (∀ c ∈ T, lowB c = true) := (fun c hc => by rw [HTe.out] at hc; rcases List.mem_cons.1 hc with rfl | q; exact (by decide); exact htl c q)
         have HD1 : Hid (D.head? = some 100) := (by show D.head? = some 100; rw [HDe.out]; rfl)
         have HD2 : Hid (∀ c ∈ D, lowB c = true) := (fun c hc => by rw [HDe.out] at hc; rcases List.mem_cons.1 hc with rfl | q; exact (by decide); exact HDL.out c q)
         clear hb4 htl HTe HDe HDL
         simp only [List.length_cons, List.length_nil] at hTl hDl hWl
         obtain ⟨A1, HA1, hA1, a1⟩ := sadd_ex [40] D (by simp only [List.length_cons, List.length_nil]; omega)
         obtain ⟨A2, HA2, hA2, a2⟩ := sadd_ex A1 [32, 39] (by simp only [List.length_cons, List.length_nil] at *; omega)
         obtain ⟨A3, HA3, hA3, a3⟩ := sadd_ex A2 T (by simp only [List.length_cons, List.length_nil] at *; omega)
         obtain ⟨A4, HA4, hA4, a4⟩ := sadd_ex A3 [39, 41] (by simp only [List.length_cons, List.length_nil] at *; omega)
         obtain ⟨B1, HB1', hB1, b1⟩ := sadd_ex [40, 60] D (by simp only [List.length_cons, List.length_nil]; omega)
         obtain ⟨B2, HB2', hB2, b2⟩ := sadd_ex B1 [62, 10, 40] (by simp only [List.length_cons, List.length_nil] at *; omega)
         obtain ⟨B3, HB3', hB3, b3⟩ := sadd_ex B2 T (by simp only [List.length_cons, List.length_nil] at *; omega)
         obtain ⟨B4, HB4', hB4, b4⟩ := sadd_ex B3 [41, 41] (by simp only [List.length_cons, List.length_nil] at *; omega)
         obtain ⟨C1, HC1, hC1, c1⟩ := sadd_ex [40, 32] D (by simp only [List.length_cons, List.length_nil]; omega)
         obtain ⟨C2, HC2, hC2, c2⟩ := sadd_ex C1 [9, 34] (by simp only [List.length_cons, List.length_nil] at *; omega)
         obtain ⟨C3, HC3, hC3, c3⟩ := sadd_ex C2 T (by simp only [List.length_cons, List.length_nil] at *; omega)
         obtain ⟨C4, HC4, hC4, c4⟩ := sadd_ex C3 [34, 32, 41] (by simp only [List.length_cons, List.length_nil] at *; omega)
         obtain ⟨TL, hTL, hlit⟩ := lits_six K hK6 D T A4 B4 C4 (by rw [HA4.out, HA3.out, HA2.out, HA1.out]) (by rw [HB4'.out, HB3'.out, HB2'.out, HB1'.out]) (by rw [HC4.out, HC3.out, HC2.out, HC1.out])
         have hTLl : TL.length ≤ 120 := (by rw [hTL]; unfold tailI; repeat (first | (split) | (simp only [List.length_append, List.length_cons, List.length_nil]; omega)))
         have HTL := (show Hid (TL = tailI K D T) from hTL)
         clear hTL HA1 HA2 HA3 HA4 HB1' HB2' HB3' HB4' HC1 HC2 HC3 HC4 hA1 hA2 hA3 hA4 hB1 hB2 hB3 hB4 hC1 hC2 hC3 hC4
         obtain ⟨S1, HS1, hS1, e1⟩ := sadd_ex [91] W (by simp only [List.length_cons, List.length_nil]; omega)
         obtain ⟨S2, HS2, hS2, e2⟩ := sadd_ex S1 [93] (by simp only [List.length_cons, List.length_nil] at *; omega)
         obtain ⟨S3, HS3, hS3, e3⟩ := sadd_ex S2 TL (by simp only [List.length_cons, List.length_nil] at *; omega)
         obtain ⟨Z1, HZ1, hZ1, z1⟩ := sadd_ex [120, 32] S3 (by simp only [List.length_cons, List.length_nil] at *; omega)
         obtain ⟨Z2, HZ2, hZ2, z2⟩ := sadd_ex Z1 [32, 121] (by simp only [List.length_cons, List.length_nil] at *; omega)
         have HPx : Hid (∀ p, Calls Tryz.prog 9 #[strI Z2, .slice (some ⟨u4.heap.size, 0, none⟩) 2 2] ((u4.alloc (.cells (dcells D T W) 35)).alloc p) fun e w' => ∃ g c g2 c2, e = .returned (.slice (some ⟨g, 0, none⟩) 3 c) ∧ (w'.cell? ⟨g, 1, none⟩ = some (strW [120, 32]) ∧ w'.cell? ⟨g, 11, none⟩ = some (strW [32, 121]) ∧ w'.cell? ⟨g, 5, none⟩ = some (.int .i64 6) ∧ w'.cell? ⟨g, 7, none⟩ = some (strW D) ∧ w'.cell? ⟨g, 8, none⟩ = some (strW T) ∧ w'.cell? ⟨g, 9, none⟩ = some (.slice (some ⟨g2, 0, none⟩) 1 c2) ∧ w'.cell? ⟨g2, 1, none⟩ = some (strW W)) ∧ Below w.heap.size w w') := (by
           intro p
           have hb5 := HB4.out.alloc HB4.out.size (.cells (dcells D T W) 35)
           have hb6 := hb5.alloc hb5.size p
           have := HP.out _ _ false Z2 wl D T hb6 (by rw [← show W = 119 :: wl from HWe.out]; exact defs_two u4 D T W p) (by simp only [List.length_cons, List.length_nil] at *; omega) hwn HWL.out HD1.out HD2.out HT1.out HT2.out (by rw [HZ2.out, HZ1.out, HS3.out, HS2.out, HS1.out, HWe.out, HTL.out]; simp [opI])
           rw [← show W = 119 :: wl from HWe.out] at this
           exact this)
         have hDD := str_self D
         have hTT := str_self T
         have hWW := str_self W
         clear HP HTL HS1 HS2 HS3 HZ1 HZ2 HT1 HT2 HD1 HD2 HWe HWL hS1 hS2 hS3 hZ1 hZ2 hTLl)
      | (have := u2; go_at_call 12; refine Calls.mono (HW1.out _) ?_; clear this; rintro e u3 ⟨dl, rfl, hdl, hdn, hb3⟩; have HB3 := (show Hid (Below w.heap.size w u3) from HB2.out.trans (hb3.mono HB2.out.size)); have HDL := (show Hid (∀ c ∈ dl, lowB c = true) from hdl); clear hb3 hdl; obtain ⟨D, HDe, hDl, dd⟩ := sadd_ex [100] dl (by simp only [List.length_cons, List.length_nil]; omega))
      | (go_at_call 12; refine Calls.mono (HW0.out _) ?_; rintro e u2 ⟨wl, rfl, hwl, hwn, hb2⟩; have HB2 := (show Hid (Below w.heap.size w u2) from HB1.out.trans (hb2.mono HB1.out.size)); have HWL := (show Hid (∀ c ∈ wl, lowB c = true) from hwl); clear hb2 hwl; obtain ⟨W, HWe, hWl, dw⟩ := sadd_ex [119] wl (by simp only [List.length_cons, List.length_nil]; omega))
      | (go_at_call 9; refine Calls.mono (HPx.out _) ?_; rintro e u5 ⟨g, c, g2, c2, rfl, ⟨q1, q11, q5, q7, q8, q9, m1⟩, hb5⟩; have HB5 := (show Hid (Below _ _ _) from hb5); clear hb5))
    go_ret
    exact ⟨rfl, HB5.out⟩
end Go.Proofs.YtjdijlaoeoikhaaGreatDoor
