/- AclGives: who was given a right has it, and nobody else has another one than before; walked. -/
import Derived.Test.YtfaekjplebjnlaaASet2
import Derived.Test.YtfaekjplebjnlaaASame
import Derived.Test.YtfaekjplebjnlaaAMid
import Derived.Test.YtfaekjplebjnlaaPlainGives
set_option linter.unusedVariables false
namespace Go.Proofs.Ytfaekjplebjnlaa
open Go.RowKit

def ShA (a : Option Addr) (n cap : Nat) : Prop := (n ≤ cap ∧ cap ≤ 9223372036854775807) ∧ ((a = none ∧ n = 0 ∧ cap = 0) ∨ (∃ b o, a = some ⟨b, o, none⟩) ∨ ∃ ad, a = some ad ∧ n = 0 ∧ cap = 0)
theorem aset_all (l : List GrA) (hle : Lens l) (g : GrA) (hg : g.who.length ≤ 9223372036854775000) (a : Option Addr) (cap : Nat) (hs : ShA a l.length cap) (w : World) (hv : GrsAt w (.slice a l.length cap) l) : Calls Try.prog 19 #[.slice a l.length cap, aggA g] w fun e w' => (if errA l g = 0 then ∃ v', e = .returned (.tuple #[v', .int .i64 0]) ∧ w'.ownsRow w.heap.size 33 3 v' (setL l g).length (grCs (setL l g)) else e = .returned (.tuple #[.slice none 0 0, .int .i64 (errA l g)])) ∧ Below w.heap.size w w' := by
  by_cases hb : rightA l = false ∨ fitsA g 0 = false
  · have he : errA l g = 1 := by unfold errA; rw [if_pos hb]
    refine (aset_bad l hle g hg _ w hv hb).mono ?_
    rintro e w' ⟨q, hbl⟩
    rw [if_neg (by rw [he]; decide), he]
    exact ⟨q, hbl⟩
  · have hr : rightA l = true := by cases h : rightA l <;> simp_all
    have hf : fitsA g 0 = true := by cases h : fitsA g 0 <;> simp_all
    obtain ⟨hc, h | h | ⟨ad, h1, h2, h3⟩⟩ := hs
    · exact aset_ok l hle g hg a cap hc (Or.inl ⟨h.1, List.length_eq_zero_iff.1 h.2.1, h.2.2⟩) w hv hr hf
    · exact aset_ok l hle g hg a cap hc (Or.inr h) w hv hr hf
    · obtain rfl := List.length_eq_zero_iff.1 h2
      subst h1
      subst h3
      have he : errA [] g = 0 := by unfold errA; rw [if_neg hb, if_neg (by simp)]
      refine (aset_zero g hg ad w hf).mono ?_
      rintro e w' ⟨q, hbl⟩
      rw [if_pos he]
      exact ⟨q, hbl⟩
theorem sha_row {w : World} {B : Nat} {v : Value} {l : List GrA} (h : w.ownsRow B 33 3 v l.length (grCs l)) : ∃ a cap, v = .slice a l.length cap ∧ ShA a l.length cap := by
  obtain ⟨a, cap, h1, h2, h3⟩ := grs_shape h
  refine ⟨a, cap, h1, h2, ?_⟩
  rcases h3 with ⟨p, q, r⟩ | h3
  · exact Or.inl ⟨p, by rw [q]; rfl, r⟩
  · exact Or.inr (Or.inl h3)
theorem lens_setG {l : List GrA} (hs : Asc l) (h : Lens l) (g : GrA) (hg : g.who.length ≤ 9223372036854775000) : Lens (setL l g) := fun x hx => by
  rcases (set_mem hs g x).1 hx with h1 | h1
  · exact h x h1.1
  · rw [h1.1]; exact hg

set_option maxHeartbeats 8000000 in
set_option maxRecDepth 20000 in
theorem wgives (L : List GrA) (hL : Lens L) (a : Option Addr) (cap : Nat) (hs : ShA a L.length cap) (G : GrA) (hG : G.who.length ≤ 9223372036854775000) (T O : StrA) (hO : O.length ≤ 9223372036854775000) (w : World) (hv : GrsAt w (.slice a L.length cap) L) :
    Calls Try.prog 5 #[.slice a L.length cap, aggA G, strA T, strA O] w fun e w' => e = .returned (.bool true) ∧ Below w.heap.size w w' := by
  have HA : Hid (∀ o, Below w.heap.size w (w.alloc o)) := fun o => (Below.refl _ _).alloc (Nat.le_refl _) o
  have HS : Hid (∀ u, Calls Try.prog 8 #[] u fun e w' => e = .returned (.bool true) ∧ Below u.heap.size u w') := fun u => ashown_any u
  obtain ⟨gt, gw, gr⟩ := G
  have S1 : Hid (∀ u, Below w.heap.size w u → Calls Try.prog 19 #[.slice a L.length cap, .agg #[strA gt, strA gw, .int .i64 gr]] u fun e w' => (if errA L ⟨gt, gw, gr⟩ = 0 then ∃ v', e = .returned (.tuple #[v', .int .i64 0]) ∧ w'.ownsRow u.heap.size 33 3 v' (setL L ⟨gt, gw, gr⟩).length (grCs (setL L ⟨gt, gw, gr⟩)) else e = .returned (.tuple #[.slice none 0 0, .int .i64 (errA L ⟨gt, gw, gr⟩)])) ∧ Below u.heap.size u w') := fun u hu => aset_all L hL ⟨gt, gw, gr⟩ hG a cap hs u (hv.below hu)
  have HLn : Hid (ShA a L.length cap) := hs
  have HV : Hid (GrsAt w (.slice a L.length cap) L) := hv
  have HLe : Hid (Lens L) := hL
  have HG : Hid (gw.length ≤ 9223372036854775000) := hG
  clear hs hv hL hG
  by_cases h200 : 200 < L.length
  · have hi : (200 : Int) < (L.length : Int) := by omega
    clear S1 HV HLn HLe
    go_enter Try.func5, Try.ntmps5
    go_wp2_with (go_at_call 8; refine Calls.mono (HS.out _) ?_; rintro e u1 ⟨rfl, hb1⟩; have HB1 := (show Hid (Below w.heap.size w u1) from (by first | exact (HA.out _).trans (hb1.mono (HA.out _).size) | exact hb1)); (try (have hk := blk_belowA (blk_new w _ _) hb1; have x0 : u1.cell? ⟨w.heap.size, 0, none⟩ = some (strA gt) := cell_blkA hk (i := 0) rfl; have x1 : u1.cell? ⟨w.heap.size, 1, none⟩ = some (strA gw) := cell_blkA hk (i := 1) rfl; have x2 : u1.cell? ⟨w.heap.size, 2, none⟩ = some (.int .i64 gr) := cell_blkA hk (i := 2) rfl; have HK1 := (show Hid _ from hk); clear hk)); clear hb1)
    go_ret
    exact ⟨rfl, HB1.out⟩
  have hi : ¬ (200 : Int) < (L.length : Int) := by omega
  by_cases he : errA L ⟨gt, gw, gr⟩ = 0
  · have S2 : Hid (∀ u, Below w.heap.size w u → Calls Try.prog 19 #[.slice a L.length cap, .agg #[strA gt, strA gw, .int .i64 gr]] u fun e w' => (∃ v', e = .returned (.tuple #[v', .int .i64 0]) ∧ w'.ownsRow u.heap.size 33 3 v' (setL L ⟨gt, gw, gr⟩).length (grCs (setL L ⟨gt, gw, gr⟩))) ∧ Below u.heap.size u w') := fun u hu => (S1.out u hu).mono (fun e w' q => by rw [if_pos he] at q; exact q)
    have hrf : rightA L = true ∧ fitsA ⟨gt, gw, gr⟩ 0 = true := by
      unfold errA at he
      split at he
      · cases he
      · rename_i hb
        constructor
        · cases h : rightA L <;> simp_all
        · cases h : fitsA ⟨gt, gw, gr⟩ 0 <;> simp_all
    have HE := (show Hid (errA L ⟨gt, gw, gr⟩ = 0) from he)
    have HRF := (show Hid (rightA L = true ∧ fitsA ⟨gt, gw, gr⟩ 0 = true) from hrf)
    clear S1 he hrf
    go_enter Try.func5, Try.ntmps5
    go_wp2_with (first | (go_at_call 8; refine Calls.mono (HS.out _) ?_; rintro e u1 ⟨rfl, hb1⟩; have HB1 := (show Hid (Below w.heap.size w u1) from (by first | exact (HA.out _).trans (hb1.mono (HA.out _).size) | exact hb1)); (try (have hk := blk_belowA (blk_new w _ _) hb1; have x0 : u1.cell? ⟨w.heap.size, 0, none⟩ = some (strA gt) := cell_blkA hk (i := 0) rfl; have x1 : u1.cell? ⟨w.heap.size, 1, none⟩ = some (strA gw) := cell_blkA hk (i := 1) rfl; have x2 : u1.cell? ⟨w.heap.size, 2, none⟩ = some (.int .i64 gr) := cell_blkA hk (i := 2) rfl; have HK1 := (show Hid _ from hk); clear hk)); clear hb1) | (go_at_call 19; refine Calls.mono (S2.out u1 HB1.out) ?_))
    rintro e u2 ⟨⟨v2, rfl, hr2⟩, hb2⟩
    obtain ⟨aX, cX, rfl, hsX⟩ := sha_row hr2
    have hX := grs_row hr2
    have HB2 := (show Hid (Below w.heap.size w u2) from HB1.out.trans (hb2.mono HB1.out.size))
    have HC2 : Hid (Below u2.heap.size u2 u2) := Below.refl _ _
    have hk2 := blk_belowA HK1.out hb2
    have y20 : u2.cell? ⟨w.heap.size, 0, none⟩ = some (strA gt) := cell_blkA hk2 (i := 0) rfl
    have y21 : u2.cell? ⟨w.heap.size, 1, none⟩ = some (strA gw) := cell_blkA hk2 (i := 1) rfl
    have y22 : u2.cell? ⟨w.heap.size, 2, none⟩ = some (.int .i64 gr) := cell_blkA hk2 (i := 2) rfl
    have HK2 := (show Hid _ from hk2)
    have hr := HRF.out.1
    have hf := HRF.out.2
    have he := HE.out
    have hasc := (right_asc hr).2.2
    have hLX : Lens (setL L ⟨gt, gw, gr⟩) := lens_setG hasc HLe.out _ HG.out
    have hrX := set_right hr hf he
    have hvL : GrsAt u2 (.slice a L.length cap) L := HV.out.below HB2.out
    have R : Hid (∀ u, Below u2.heap.size u2 u → Calls Try.prog 14 #[.slice aX (setL L ⟨gt, gw, gr⟩).length cX] u fun e w' => e = .returned (.bool true) ∧ Below u.heap.size u w') := fun u hu => by have := aright_any _ hLX _ u (hX.below hu); rw [hrX] at this; exact this
    have M1 : Hid (∀ u, Below u2.heap.size u2 u → Calls Try.prog 16 #[.slice aX (setL L ⟨gt, gw, gr⟩).length cX, strA gt, strA gw] u fun e w' => e = .returned (.int .i64 gr) ∧ Below u.heap.size u w') := fun u hu => by have := amay_any _ hLX gt gw HG.out _ u (hX.below hu); rw [show mayA (setL L ⟨gt, gw, gr⟩) gt gw = gr from give_has hr hf he] at this; exact this
    have M2 : Hid (∀ u, (T ≠ gt ∨ O ≠ gw) → Below u2.heap.size u2 u → Calls Try.prog 16 #[.slice aX (setL L ⟨gt, gw, gr⟩).length cX, strA T, strA O] u fun e w' => e = .returned (.int .i64 (mayA L T O)) ∧ Below u.heap.size u w') := fun u ho hu => by have := amay_any _ hLX T O hO _ u (hX.below hu); rw [show mayA (setL L ⟨gt, gw, gr⟩) T O = mayA L T O from give_others hr hf he ho] at this; exact this
    have M3 : Hid (∀ u, Below u2.heap.size u2 u → Calls Try.prog 16 #[.slice a L.length cap, strA T, strA O] u fun e w' => e = .returned (.int .i64 (mayA L T O)) ∧ Below u.heap.size u w') := fun u hu => amay_any L HLe.out T O hO _ u (hvL.below hu)
    have M4 : Hid (∀ u, Below u2.heap.size u2 u → Calls Try.prog 16 #[.slice a L.length cap, strA gt, strA gw] u fun e w' => e = .returned (.int .i64 (grantedL L { tenant := gt, who := gw })) ∧ Below u.heap.size u w') := fun u hu => by have := amay_any L HLe.out gt gw HG.out _ u (hvL.below hu); rw [show mayA L gt gw = _ from may_key hr hf] at this; exact this
    have HW : Hid (∀ r, setL (setL L ⟨gt, gw, gr⟩) ⟨gt, gw, r⟩ = setL (setL L ⟨gt, gw, gr⟩) (withR ⟨gt, gw, gr⟩ r)) := fun r => rfl
    have hS : ∀ (r : Int), 0 ≤ r → r ≤ 3 → errA (setL L ⟨gt, gw, gr⟩) ⟨gt, gw, r⟩ = 0 → ∀ u, Below u2.heap.size u2 u → Calls Try.prog 19 #[.slice aX (setL L ⟨gt, gw, gr⟩).length cX, .agg #[strA gt, strA gw, .int .i64 r]] u fun e w' => (∃ v', e = .returned (.tuple #[v', .int .i64 0]) ∧ w'.ownsRow u.heap.size 33 3 v' (setL (setL L ⟨gt, gw, gr⟩) ⟨gt, gw, r⟩).length (grCs (setL (setL L ⟨gt, gw, gr⟩) ⟨gt, gw, r⟩))) ∧ Below u.heap.size u w' := fun r _ _ h0 u hu => (aset_all _ hLX ⟨gt, gw, r⟩ HG.out aX cX hsX u (hX.below hu)).mono (fun e w' q => by rw [if_pos h0] at q; exact q)
    have S3 : Hid (∀ u, Below u2.heap.size u2 u → Calls Try.prog 19 #[.slice aX (setL L ⟨gt, gw, gr⟩).length cX, .agg #[strA gt, strA gw, .int .i64 0]] u fun e w' => (∃ v', e = .returned (.tuple #[v', .int .i64 0]) ∧ w'.ownsRow u.heap.size 33 3 v' (setL (setL L ⟨gt, gw, gr⟩) ⟨gt, gw, 0⟩).length (grCs (setL (setL L ⟨gt, gw, gr⟩) ⟨gt, gw, 0⟩))) ∧ Below u.heap.size u w') := hS 0 (by decide) (by decide) (give_zero hr hf he)
    have hback := give_back hr hf
    have hrange := granted_range hr { tenant := gt, who := gw }
    have hsame : ∀ v u, GrsAt u v L → Below u2.heap.size u2 u → Calls Try.prog 20 #[v, .slice a L.length cap] u fun e w' => e = .returned (.bool true) ∧ Below u.heap.size u w' := fun v u h1 hu => asame_any L (by omega) v _ u h1 (hvL.below hu)
    have HSm := (show Hid (∀ v u, GrsAt u v L → Below u2.heap.size u2 u → Calls Try.prog 20 #[v, .slice a L.length cap] u fun e w' => e = .returned (.bool true) ∧ Below u.heap.size u w') from hsame)
    have hrr : (gr == gr) = true := by simp
    have hrr2 : (gr != gr) = false := by simp
    have hV : ∃ V, Hid (V = grantedL L { tenant := gt, who := gw }) := ⟨_, rfl⟩
    obtain ⟨V, HVV⟩ := hV
    have HKV : Hid ((V = 0 → setL (setL L ⟨gt, gw, gr⟩) ⟨gt, gw, 0⟩ = L) ∧ (V ≠ 0 → ((setL (setL L ⟨gt, gw, gr⟩) ⟨gt, gw, 0⟩).length + 1 = L.length) ∧ setL (setL L ⟨gt, gw, gr⟩) ⟨gt, gw, V⟩ = L ∧ ∀ u, Below u2.heap.size u2 u → Calls Try.prog 19 #[.slice aX (setL L ⟨gt, gw, gr⟩).length cX, .agg #[strA gt, strA gw, .int .i64 V]] u fun e w' => (∃ v', e = .returned (.tuple #[v', .int .i64 0]) ∧ w'.ownsRow u.heap.size 33 3 v' L.length (grCs L)) ∧ Below u.heap.size u w')) := by
      have hVe := HVV.out
      subst hVe
      refine ⟨fun h0 => ?_, fun h0 => ?_⟩
      · have := hback
        simp only at this
        rw [h0] at this
        exact this
      · have hh : hasL L ⟨gt, gw, gr⟩ = true := by
          cases hc : hasL L ⟨gt, gw, gr⟩
          · exact absurd (granted_not (g := ⟨gt, gw, 0⟩) ((has_key L ⟨gt, gw, gr⟩ 0).1.trans hc)) h0
          · rfl
        refine ⟨give_less hr hh, hback, fun u hu => ?_⟩
        have := hS _ hrange.1 hrange.2.1 (give_put hr hf he hrange.1 hrange.2.1 hh) u hu
        rw [show setL (setL L ⟨gt, gw, gr⟩) ⟨gt, gw, grantedL L { tenant := gt, who := gw }⟩ = L from hback] at this
        exact this
    rw [← HVV.out] at M4
    clear hback hrange hsame hS hX hsX hr2 hr hf he hasc hLX hrX hvL HW HVV HRF HE HV HLe HG HLn hb2 hk2 S2 HS HA hO HK1 x0 x1 x2
    generalize setL (setL L ⟨gt, gw, gr⟩) ⟨gt, gw, 0⟩ = Y at *
    generalize setL (setL L ⟨gt, gw, gr⟩) ⟨gt, gw, V⟩ = Z at *
    generalize (setL L ⟨gt, gw, gr⟩).length = M at *
    generalize mayA L T O = VO at *
    have hvo : (VO == VO) = true := by simp
    have hvo2 : (VO != VO) = false := by simp
    obtain ⟨U2, hU2⟩ : ∃ U : BwA u2, U.wo = u2 := ⟨BwA.of (Below.refl _ _), rfl⟩
    have kk := HK2.out
    have x0 : ∀ u : BwA u2, u.wo.cell? ⟨w.heap.size, 0, none⟩ = some (strA gt) := fun u => cell_blkA (blk_belowA HK2.out u.is) rfl
    have x1 : ∀ u : BwA u2, u.wo.cell? ⟨w.heap.size, 1, none⟩ = some (strA gw) := fun u => cell_blkA (blk_belowA HK2.out u.is) rfl
    have x2 : ∀ u : BwA u2, u.wo.cell? ⟨w.heap.size, 2, none⟩ = some (.int .i64 gr) := fun u => cell_blkA (blk_belowA HK2.out u.is) rfl
    have Rj : Hid (∀ u : BwA u2, Calls Try.prog 14 #[.slice aX M cX] u.wo fun e w' => e = .returned (.bool true) ∧ ∃ u' : BwA u2, w' = u'.wo) := fun u => (R.out u.wo u.is).mono fun e w' q => ⟨q.1, BwA.of (u.is.trans (q.2.mono u.is.size)), rfl⟩
    have M1j : Hid (∀ u : BwA u2, Calls Try.prog 16 #[.slice aX M cX, strA gt, strA gw] u.wo fun e w' => e = .returned (.int .i64 gr) ∧ ∃ u' : BwA u2, w' = u'.wo) := fun u => (M1.out u.wo u.is).mono fun e w' q => ⟨q.1, BwA.of (u.is.trans (q.2.mono u.is.size)), rfl⟩
    clear kk hU2
    go_wp2
    refine region_classA (fun w' => ∃ u : BwA u2, w' = u.wo) (by kernel_rfl) (by kernel_rfl) (BwA.first u2) ?_
    haveI := BwA.some u2
    repeat (go_big_quiet_step (first | (go_at_call 14; exact Rj.out _) | (go_at_call 16; exact M1j.out _) | exact rfl))
    refine wpQuiet_nil ?_
    intro w4 hw4
    obtain ⟨U4, hu4⟩ := hw4
    subst hu4
    have hb4 := U4.is
    clear Rj M1j R M1 y20 y21 y22 x0 x1 x2
    generalize U4.wo = u4 at *
    have HB4 := (show Hid (Below w.heap.size w u4) from HB2.out.trans (hb4.mono HB2.out.size))
    have HC4 := (show Hid (Below u2.heap.size u2 u4) from hb4)
    have hk4 := blk_belowA HK2.out hb4
    have y40 : u4.cell? ⟨w.heap.size, 0, none⟩ = some (strA gt) := cell_blkA hk4 (i := 0) rfl
    have y41 : u4.cell? ⟨w.heap.size, 1, none⟩ = some (strA gw) := cell_blkA hk4 (i := 1) rfl
    have y42 : u4.cell? ⟨w.heap.size, 2, none⟩ = some (.int .i64 gr) := cell_blkA hk4 (i := 2) rfl
    have HK4 := (show Hid _ from hk4)
    clear hb4 hk4
    by_cases hT : T = gt
    · have e1 : (T == gt) = true := by simpa using hT
      have e1n : (T != gt) = false := by simpa using hT
      by_cases hO2 : O = gw
      · have e2 : (O == gw) = true := by simpa using hO2
        have e2n : (O != gw) = false := by simpa using hO2
        clear hT hO2 M2 M3
        go_wp2_with (go_at_call 19; refine Calls.mono (S3.out u4 HC4.out) ?_)
        rintro e u7 ⟨⟨vY, rfl, hr7⟩, hb7⟩
        have HB7 := (show Hid (Below w.heap.size w u7) from HB4.out.trans (hb7.mono HB4.out.size))
        have HC7 := (show Hid (Below u2.heap.size u2 u7) from HC4.out.trans (hb7.mono HC4.out.size))
        have hk7 := blk_belowA HK4.out hb7
        have y70 : u7.cell? ⟨w.heap.size, 0, none⟩ = some (strA gt) := cell_blkA hk7 (i := 0) rfl
        have y71 : u7.cell? ⟨w.heap.size, 1, none⟩ = some (strA gw) := cell_blkA hk7 (i := 1) rfl
        have y72 : u7.cell? ⟨w.heap.size, 2, none⟩ = some (.int .i64 gr) := cell_blkA hk7 (i := 2) rfl
        have HK7 := (show Hid _ from hk7)
        clear hb7 hk7 y40 y41 y42 HK4
        obtain ⟨aY, cY, hvY⟩ := arow_len hr7
        subst hvY
        have HY := (show Hid (GrsAt u7 (.slice aY Y.length cY) Y) from grs_row hr7)
        clear hr7
        go_wp2_with (go_at_call 16; refine Calls.mono (M4.out u7 HC7.out) ?_)
        rintro e u8 ⟨rfl, hb8⟩
        have HY8 := (show Hid (GrsAt u8 (.slice aY Y.length cY) Y) from HY.out.below hb8)
        have HB8 := (show Hid (Below w.heap.size w u8) from HB7.out.trans (hb8.mono HB7.out.size))
        have HC8 := (show Hid (Below u2.heap.size u2 u8) from HC7.out.trans (hb8.mono HC7.out.size))
        have hk8 := blk_belowA HK7.out hb8
        have y80 : u8.cell? ⟨w.heap.size, 0, none⟩ = some (strA gt) := cell_blkA hk8 (i := 0) rfl
        have y81 : u8.cell? ⟨w.heap.size, 1, none⟩ = some (strA gw) := cell_blkA hk8 (i := 1) rfl
        have y82 : u8.cell? ⟨w.heap.size, 2, none⟩ = some (.int .i64 gr) := cell_blkA hk8 (i := 2) rfl
        have HK8 := (show Hid _ from hk8)
        clear hb8 hk8 y70 y71 y72 HK7
        by_cases hV0 : V = 0
        · have hYL : Y = L := HKV.out.1 hV0
          have hv0 : (V == 0) = true := by simpa using hV0
          subst hYL
          clear HKV hV0
          go_wp2_with (go_at_call 20; refine Calls.mono (HSm.out _ u8 HY8.out HC8.out) ?_; rintro e u9 ⟨rfl, hb9⟩; have HB9 := (show Hid (Below w.heap.size w u9) from HB8.out.trans (hb9.mono HB8.out.size)); clear hb9)
          go_ret
          exact ⟨rfl, HB9.out⟩
        · obtain ⟨k1, k2, k3⟩ := HKV.out.2 hV0
          have hv0 : (V == 0) = false := by simpa using hV0
          have hyl : ((Y.length : Int) == (L.length : Int) - 1) = true := by rw [beq_iff_eq]; omega
          have hLi : (L.length : Int) ≤ 200 := by omega
          have S4 := (show Hid (∀ u, Below u2.heap.size u2 u → Calls Try.prog 19 #[.slice aX M cX, .agg #[strA gt, strA gw, .int .i64 V]] u fun e w' => (∃ v', e = .returned (.tuple #[v', .int .i64 0]) ∧ w'.ownsRow u.heap.size 33 3 v' L.length (grCs L)) ∧ Below u.heap.size u w') from k3)
          generalize Y.length = LY at *
          clear k1 k2 k3 HKV hV0
          have hk8 := HK8.out
          have x0 : ∀ u : BwA u8, u.wo.cell? ⟨w.heap.size, 0, none⟩ = some (strA gt) := fun u => cell_blkA (blk_belowA hk8 u.is) rfl
          have x1 : ∀ u : BwA u8, u.wo.cell? ⟨w.heap.size, 1, none⟩ = some (strA gw) := fun u => cell_blkA (blk_belowA hk8 u.is) rfl
          have M4j : Hid (∀ u : BwA u8, Calls Try.prog 16 #[.slice a L.length cap, strA gt, strA gw] u.wo fun e w' => e = .returned (.int .i64 V) ∧ ∃ u' : BwA u8, w' = u'.wo) := fun u => (M4.out u.wo (HC8.out.trans (u.is.mono HC8.out.size))).mono fun e w' q => ⟨q.1, BwA.of (u.is.trans (q.2.mono u.is.size)), rfl⟩
          clear hk8 y80 y81 y82
          go_wp2
          refine region_mid (fun w' => ∃ u : BwA u8, w' = u.wo) (fun w2 w3 => ∃ u : BwA w2, w3 = u.wo) 12 #[true, true, true, true, true, true, true, true, true, true, true, true, false, false, false, false, false, false] (by kernel_rfl) (by kernel_rfl) (BwA.first u8) (fun u => ⟨BwA.of (Below.refl _ _), rfl⟩) ?_
          haveI := BwA.some u8
          simp only [List.take_succ_cons, List.take_zero]
          repeat (go_big_quiet_step (first | (go_at_call 16; exact M4j.out _) | exact rfl))
          refine wpQuiet_nil ?_
          intro w9 hw9
          obtain ⟨U9, hu9⟩ := hw9
          subst hu9
          have hb9 := U9.is
          clear x0 x1 M4j
          generalize U9.wo = u9 at *
          have HB9 := (show Hid (Below w.heap.size w u9) from HB8.out.trans (hb9.mono HB8.out.size))
          have HC9 := (show Hid (Below u2.heap.size u2 u9) from HC8.out.trans (hb9.mono HC8.out.size))
          have hk9 := blk_belowA HK8.out hb9
          have y90 : u9.cell? ⟨w.heap.size, 0, none⟩ = some (strA gt) := cell_blkA hk9 (i := 0) rfl
          have y91 : u9.cell? ⟨w.heap.size, 1, none⟩ = some (strA gw) := cell_blkA hk9 (i := 1) rfl
          have y92 : u9.cell? ⟨w.heap.size, 2, none⟩ = some (.int .i64 gr) := cell_blkA hk9 (i := 2) rfl
          have HK9 := (show Hid _ from hk9)
          clear hb9 hk9 HK8
          refine mid_call (R := fun v w' => (∃ v', v = .tuple #[v', .int .i64 0] ∧ w'.ownsRow u9.heap.size 33 3 v' L.length (grCs L)) ∧ Below u9.heap.size u9 w') rfl rfl rfl (by kernel_rfl) ((S4.out u9 HC9.out).mono (fun e w' q => ?_)) ?_
          · obtain ⟨⟨v', rfl, q1⟩, q2⟩ := q
            exact ⟨_, rfl, ⟨v', rfl, q1⟩, q2⟩
          rintro v u9a ⟨⟨vZ, rfl, hrZ⟩, hb9a⟩
          obtain ⟨aZ, cZ, hvZ⟩ := arow_len hrZ
          subst hvZ
          have HZ9 := (show Hid (GrsAt u9a (.slice aZ L.length cZ) L) from grs_row hrZ)
          have HB9a := (show Hid (Below u9.heap.size u9 u9a) from hb9a)
          clear hrZ hb9a
          haveI := BwA.some u9a
          simp only [List.drop_succ_cons, List.drop_zero, List.setIfInBounds_toArray, List.set_cons_succ, List.set_cons_zero]
          repeat (go_big_quiet_step (exact rfl))
          refine wpQuiet_nil ?_
          intro w10 hw10
          obtain ⟨U10, hu10⟩ := hw10
          subst hu10
          have hbb := U10.is
          have HZ := (show Hid (GrsAt U10.wo (.slice aZ L.length cZ) L) from HZ9.out.below hbb)
          have HBB := (show Hid (Below u9.heap.size u9 U10.wo) from HB9a.out.trans (hbb.mono HB9a.out.size))
          clear hbb HZ9 HB9a
          generalize U10.wo = u10 at *
          have hb10 := HBB.out
          have HB10 := (show Hid (Below w.heap.size w u10) from HB9.out.trans (hb10.mono HB9.out.size))
          have HC10 := (show Hid (Below u2.heap.size u2 u10) from HC9.out.trans (hb10.mono HC9.out.size))
          have hk10 := blk_belowA HK9.out hb10
          have y100 : u10.cell? ⟨w.heap.size, 0, none⟩ = some (strA gt) := cell_blkA hk10 (i := 0) rfl
          have y101 : u10.cell? ⟨w.heap.size, 1, none⟩ = some (strA gw) := cell_blkA hk10 (i := 1) rfl
          have y102 : u10.cell? ⟨w.heap.size, 2, none⟩ = some (.int .i64 gr) := cell_blkA hk10 (i := 2) rfl
          have HK10 := (show Hid _ from hk10)
          clear hb10 hk10 y90 y91 y92 HK9
          go_wp2_with (go_at_call 20; refine Calls.mono (HSm.out _ u10 HZ.out HC10.out) ?_; rintro e u11 ⟨rfl, hb11⟩; have HB11 := (show Hid (Below w.heap.size w u11) from HB10.out.trans (hb11.mono HB10.out.size)); clear hb11)
          go_ret
          exact ⟨rfl, HB11.out⟩
      · have e2 : (O == gw) = false := by simpa using hO2
        have e2n : (O != gw) = true := by simpa using hO2
        have HO2 : Hid (T ≠ gt ∨ O ≠ gw) := Or.inr hO2
        clear hT hO2
        have M5 := (show Hid (∀ u, Below u2.heap.size u2 u → Calls Try.prog 16 #[.slice aX M cX, strA T, strA O] u fun e w' => e = .returned (.int .i64 VO) ∧ Below u.heap.size u w') from fun u hu => M2.out u HO2.out hu)
        clear M2 HO2
        go_wp2_with (go_at_call 16; refine Calls.mono (M5.out u4 HC4.out) ?_)
        rintro e u5 ⟨rfl, hb5⟩
        have HB5 := (show Hid (Below w.heap.size w u5) from HB4.out.trans (hb5.mono HB4.out.size))
        have HC5 := (show Hid (Below u2.heap.size u2 u5) from HC4.out.trans (hb5.mono HC4.out.size))
        have hk5 := blk_belowA HK4.out hb5
        have y50 : u5.cell? ⟨w.heap.size, 0, none⟩ = some (strA gt) := cell_blkA hk5 (i := 0) rfl
        have y51 : u5.cell? ⟨w.heap.size, 1, none⟩ = some (strA gw) := cell_blkA hk5 (i := 1) rfl
        have y52 : u5.cell? ⟨w.heap.size, 2, none⟩ = some (.int .i64 gr) := cell_blkA hk5 (i := 2) rfl
        have HK5 := (show Hid _ from hk5)
        clear hb5 hk5 y40 y41 y42 HK4
        go_wp2_with (go_at_call 16; refine Calls.mono (M3.out u5 HC5.out) ?_)
        rintro e u6 ⟨rfl, hb6⟩
        have HB6 := (show Hid (Below w.heap.size w u6) from HB5.out.trans (hb6.mono HB5.out.size))
        have HC6 := (show Hid (Below u2.heap.size u2 u6) from HC5.out.trans (hb6.mono HC5.out.size))
        have hk6 := blk_belowA HK5.out hb6
        have y60 : u6.cell? ⟨w.heap.size, 0, none⟩ = some (strA gt) := cell_blkA hk6 (i := 0) rfl
        have y61 : u6.cell? ⟨w.heap.size, 1, none⟩ = some (strA gw) := cell_blkA hk6 (i := 1) rfl
        have y62 : u6.cell? ⟨w.heap.size, 2, none⟩ = some (.int .i64 gr) := cell_blkA hk6 (i := 2) rfl
        have HK6 := (show Hid _ from hk6)
        clear hb6 hk6 y50 y51 y52 HK5
        go_wp2_with (go_at_call 19; refine Calls.mono (S3.out u6 HC6.out) ?_)
        rintro e u7 ⟨⟨vY, rfl, hr7⟩, hb7⟩
        have HB7 := (show Hid (Below w.heap.size w u7) from HB6.out.trans (hb7.mono HB6.out.size))
        have HC7 := (show Hid (Below u2.heap.size u2 u7) from HC6.out.trans (hb7.mono HC6.out.size))
        have hk7 := blk_belowA HK6.out hb7
        have y70 : u7.cell? ⟨w.heap.size, 0, none⟩ = some (strA gt) := cell_blkA hk7 (i := 0) rfl
        have y71 : u7.cell? ⟨w.heap.size, 1, none⟩ = some (strA gw) := cell_blkA hk7 (i := 1) rfl
        have y72 : u7.cell? ⟨w.heap.size, 2, none⟩ = some (.int .i64 gr) := cell_blkA hk7 (i := 2) rfl
        have HK7 := (show Hid _ from hk7)
        clear hb7 hk7 y60 y61 y62 HK6
        obtain ⟨aY, cY, hvY⟩ := arow_len hr7
        subst hvY
        have HY := (show Hid (GrsAt u7 (.slice aY Y.length cY) Y) from grs_row hr7)
        clear hr7
        go_wp2_with (go_at_call 16; refine Calls.mono (M4.out u7 HC7.out) ?_)
        rintro e u8 ⟨rfl, hb8⟩
        have HY8 := (show Hid (GrsAt u8 (.slice aY Y.length cY) Y) from HY.out.below hb8)
        have HB8 := (show Hid (Below w.heap.size w u8) from HB7.out.trans (hb8.mono HB7.out.size))
        have HC8 := (show Hid (Below u2.heap.size u2 u8) from HC7.out.trans (hb8.mono HC7.out.size))
        have hk8 := blk_belowA HK7.out hb8
        have y80 : u8.cell? ⟨w.heap.size, 0, none⟩ = some (strA gt) := cell_blkA hk8 (i := 0) rfl
        have y81 : u8.cell? ⟨w.heap.size, 1, none⟩ = some (strA gw) := cell_blkA hk8 (i := 1) rfl
        have y82 : u8.cell? ⟨w.heap.size, 2, none⟩ = some (.int .i64 gr) := cell_blkA hk8 (i := 2) rfl
        have HK8 := (show Hid _ from hk8)
        clear hb8 hk8 y70 y71 y72 HK7
        by_cases hV0 : V = 0
        · have hYL : Y = L := HKV.out.1 hV0
          have hv0 : (V == 0) = true := by simpa using hV0
          subst hYL
          clear HKV hV0
          go_wp2_with (go_at_call 20; refine Calls.mono (HSm.out _ u8 HY8.out HC8.out) ?_; rintro e u9 ⟨rfl, hb9⟩; have HB9 := (show Hid (Below w.heap.size w u9) from HB8.out.trans (hb9.mono HB8.out.size)); clear hb9)
          go_ret
          exact ⟨rfl, HB9.out⟩
        · obtain ⟨k1, k2, k3⟩ := HKV.out.2 hV0
          have hv0 : (V == 0) = false := by simpa using hV0
          have hyl : ((Y.length : Int) == (L.length : Int) - 1) = true := by rw [beq_iff_eq]; omega
          have hLi : (L.length : Int) ≤ 200 := by omega
          have S4 := (show Hid (∀ u, Below u2.heap.size u2 u → Calls Try.prog 19 #[.slice aX M cX, .agg #[strA gt, strA gw, .int .i64 V]] u fun e w' => (∃ v', e = .returned (.tuple #[v', .int .i64 0]) ∧ w'.ownsRow u.heap.size 33 3 v' L.length (grCs L)) ∧ Below u.heap.size u w') from k3)
          generalize Y.length = LY at *
          clear k1 k2 k3 HKV hV0
          have hk8 := HK8.out
          have x0 : ∀ u : BwA u8, u.wo.cell? ⟨w.heap.size, 0, none⟩ = some (strA gt) := fun u => cell_blkA (blk_belowA hk8 u.is) rfl
          have x1 : ∀ u : BwA u8, u.wo.cell? ⟨w.heap.size, 1, none⟩ = some (strA gw) := fun u => cell_blkA (blk_belowA hk8 u.is) rfl
          have M4j : Hid (∀ u : BwA u8, Calls Try.prog 16 #[.slice a L.length cap, strA gt, strA gw] u.wo fun e w' => e = .returned (.int .i64 V) ∧ ∃ u' : BwA u8, w' = u'.wo) := fun u => (M4.out u.wo (HC8.out.trans (u.is.mono HC8.out.size))).mono fun e w' q => ⟨q.1, BwA.of (u.is.trans (q.2.mono u.is.size)), rfl⟩
          clear hk8 y80 y81 y82
          go_wp2
          refine region_mid (fun w' => ∃ u : BwA u8, w' = u.wo) (fun w2 w3 => ∃ u : BwA w2, w3 = u.wo) 12 #[true, true, true, true, true, true, true, true, true, true, true, true, false, false, false, false, false, false] (by kernel_rfl) (by kernel_rfl) (BwA.first u8) (fun u => ⟨BwA.of (Below.refl _ _), rfl⟩) ?_
          haveI := BwA.some u8
          simp only [List.take_succ_cons, List.take_zero]
          repeat (go_big_quiet_step (first | (go_at_call 16; exact M4j.out _) | exact rfl))
          refine wpQuiet_nil ?_
          intro w9 hw9
          obtain ⟨U9, hu9⟩ := hw9
          subst hu9
          have hb9 := U9.is
          clear x0 x1 M4j
          generalize U9.wo = u9 at *
          have HB9 := (show Hid (Below w.heap.size w u9) from HB8.out.trans (hb9.mono HB8.out.size))
          have HC9 := (show Hid (Below u2.heap.size u2 u9) from HC8.out.trans (hb9.mono HC8.out.size))
          have hk9 := blk_belowA HK8.out hb9
          have y90 : u9.cell? ⟨w.heap.size, 0, none⟩ = some (strA gt) := cell_blkA hk9 (i := 0) rfl
          have y91 : u9.cell? ⟨w.heap.size, 1, none⟩ = some (strA gw) := cell_blkA hk9 (i := 1) rfl
          have y92 : u9.cell? ⟨w.heap.size, 2, none⟩ = some (.int .i64 gr) := cell_blkA hk9 (i := 2) rfl
          have HK9 := (show Hid _ from hk9)
          clear hb9 hk9 HK8
          refine mid_call (R := fun v w' => (∃ v', v = .tuple #[v', .int .i64 0] ∧ w'.ownsRow u9.heap.size 33 3 v' L.length (grCs L)) ∧ Below u9.heap.size u9 w') rfl rfl rfl (by kernel_rfl) ((S4.out u9 HC9.out).mono (fun e w' q => ?_)) ?_
          · obtain ⟨⟨v', rfl, q1⟩, q2⟩ := q
            exact ⟨_, rfl, ⟨v', rfl, q1⟩, q2⟩
          rintro v u9a ⟨⟨vZ, rfl, hrZ⟩, hb9a⟩
          obtain ⟨aZ, cZ, hvZ⟩ := arow_len hrZ
          subst hvZ
          have HZ9 := (show Hid (GrsAt u9a (.slice aZ L.length cZ) L) from grs_row hrZ)
          have HB9a := (show Hid (Below u9.heap.size u9 u9a) from hb9a)
          clear hrZ hb9a
          haveI := BwA.some u9a
          simp only [List.drop_succ_cons, List.drop_zero, List.setIfInBounds_toArray, List.set_cons_succ, List.set_cons_zero]
          repeat (go_big_quiet_step (exact rfl))
          refine wpQuiet_nil ?_
          intro w10 hw10
          obtain ⟨U10, hu10⟩ := hw10
          subst hu10
          have hbb := U10.is
          have HZ := (show Hid (GrsAt U10.wo (.slice aZ L.length cZ) L) from HZ9.out.below hbb)
          have HBB := (show Hid (Below u9.heap.size u9 U10.wo) from HB9a.out.trans (hbb.mono HB9a.out.size))
          clear hbb HZ9 HB9a
          generalize U10.wo = u10 at *
          have hb10 := HBB.out
          have HB10 := (show Hid (Below w.heap.size w u10) from HB9.out.trans (hb10.mono HB9.out.size))
          have HC10 := (show Hid (Below u2.heap.size u2 u10) from HC9.out.trans (hb10.mono HC9.out.size))
          have hk10 := blk_belowA HK9.out hb10
          have y100 : u10.cell? ⟨w.heap.size, 0, none⟩ = some (strA gt) := cell_blkA hk10 (i := 0) rfl
          have y101 : u10.cell? ⟨w.heap.size, 1, none⟩ = some (strA gw) := cell_blkA hk10 (i := 1) rfl
          have y102 : u10.cell? ⟨w.heap.size, 2, none⟩ = some (.int .i64 gr) := cell_blkA hk10 (i := 2) rfl
          have HK10 := (show Hid _ from hk10)
          clear hb10 hk10 y90 y91 y92 HK9
          go_wp2_with (go_at_call 20; refine Calls.mono (HSm.out _ u10 HZ.out HC10.out) ?_; rintro e u11 ⟨rfl, hb11⟩; have HB11 := (show Hid (Below w.heap.size w u11) from HB10.out.trans (hb11.mono HB10.out.size)); clear hb11)
          go_ret
          exact ⟨rfl, HB11.out⟩
    · have e1 : (T == gt) = false := by simpa using hT
      have e1n : (T != gt) = true := by simpa using hT
      have HO2 : Hid (T ≠ gt ∨ O ≠ gw) := Or.inl hT
      clear hT
      have M5 := (show Hid (∀ u, Below u2.heap.size u2 u → Calls Try.prog 16 #[.slice aX M cX, strA T, strA O] u fun e w' => e = .returned (.int .i64 VO) ∧ Below u.heap.size u w') from fun u hu => M2.out u HO2.out hu)
      clear M2 HO2
      go_wp2_with (go_at_call 16; refine Calls.mono (M5.out u4 HC4.out) ?_)
      rintro e u5 ⟨rfl, hb5⟩
      have HB5 := (show Hid (Below w.heap.size w u5) from HB4.out.trans (hb5.mono HB4.out.size))
      have HC5 := (show Hid (Below u2.heap.size u2 u5) from HC4.out.trans (hb5.mono HC4.out.size))
      have hk5 := blk_belowA HK4.out hb5
      have y50 : u5.cell? ⟨w.heap.size, 0, none⟩ = some (strA gt) := cell_blkA hk5 (i := 0) rfl
      have y51 : u5.cell? ⟨w.heap.size, 1, none⟩ = some (strA gw) := cell_blkA hk5 (i := 1) rfl
      have y52 : u5.cell? ⟨w.heap.size, 2, none⟩ = some (.int .i64 gr) := cell_blkA hk5 (i := 2) rfl
      have HK5 := (show Hid _ from hk5)
      clear hb5 hk5 y40 y41 y42 HK4
      go_wp2_with (go_at_call 16; refine Calls.mono (M3.out u5 HC5.out) ?_)
      rintro e u6 ⟨rfl, hb6⟩
      have HB6 := (show Hid (Below w.heap.size w u6) from HB5.out.trans (hb6.mono HB5.out.size))
      have HC6 := (show Hid (Below u2.heap.size u2 u6) from HC5.out.trans (hb6.mono HC5.out.size))
      have hk6 := blk_belowA HK5.out hb6
      have y60 : u6.cell? ⟨w.heap.size, 0, none⟩ = some (strA gt) := cell_blkA hk6 (i := 0) rfl
      have y61 : u6.cell? ⟨w.heap.size, 1, none⟩ = some (strA gw) := cell_blkA hk6 (i := 1) rfl
      have y62 : u6.cell? ⟨w.heap.size, 2, none⟩ = some (.int .i64 gr) := cell_blkA hk6 (i := 2) rfl
      have HK6 := (show Hid _ from hk6)
      clear hb6 hk6 y50 y51 y52 HK5
      go_wp2_with (go_at_call 19; refine Calls.mono (S3.out u6 HC6.out) ?_)
      rintro e u7 ⟨⟨vY, rfl, hr7⟩, hb7⟩
      have HB7 := (show Hid (Below w.heap.size w u7) from HB6.out.trans (hb7.mono HB6.out.size))
      have HC7 := (show Hid (Below u2.heap.size u2 u7) from HC6.out.trans (hb7.mono HC6.out.size))
      have hk7 := blk_belowA HK6.out hb7
      have y70 : u7.cell? ⟨w.heap.size, 0, none⟩ = some (strA gt) := cell_blkA hk7 (i := 0) rfl
      have y71 : u7.cell? ⟨w.heap.size, 1, none⟩ = some (strA gw) := cell_blkA hk7 (i := 1) rfl
      have y72 : u7.cell? ⟨w.heap.size, 2, none⟩ = some (.int .i64 gr) := cell_blkA hk7 (i := 2) rfl
      have HK7 := (show Hid _ from hk7)
      clear hb7 hk7 y60 y61 y62 HK6
      obtain ⟨aY, cY, hvY⟩ := arow_len hr7
      subst hvY
      have HY := (show Hid (GrsAt u7 (.slice aY Y.length cY) Y) from grs_row hr7)
      clear hr7
      go_wp2_with (go_at_call 16; refine Calls.mono (M4.out u7 HC7.out) ?_)
      rintro e u8 ⟨rfl, hb8⟩
      have HY8 := (show Hid (GrsAt u8 (.slice aY Y.length cY) Y) from HY.out.below hb8)
      have HB8 := (show Hid (Below w.heap.size w u8) from HB7.out.trans (hb8.mono HB7.out.size))
      have HC8 := (show Hid (Below u2.heap.size u2 u8) from HC7.out.trans (hb8.mono HC7.out.size))
      have hk8 := blk_belowA HK7.out hb8
      have y80 : u8.cell? ⟨w.heap.size, 0, none⟩ = some (strA gt) := cell_blkA hk8 (i := 0) rfl
      have y81 : u8.cell? ⟨w.heap.size, 1, none⟩ = some (strA gw) := cell_blkA hk8 (i := 1) rfl
      have y82 : u8.cell? ⟨w.heap.size, 2, none⟩ = some (.int .i64 gr) := cell_blkA hk8 (i := 2) rfl
      have HK8 := (show Hid _ from hk8)
      clear hb8 hk8 y70 y71 y72 HK7
      by_cases hV0 : V = 0
      · have hYL : Y = L := HKV.out.1 hV0
        have hv0 : (V == 0) = true := by simpa using hV0
        subst hYL
        clear HKV hV0
        go_wp2_with (go_at_call 20; refine Calls.mono (HSm.out _ u8 HY8.out HC8.out) ?_; rintro e u9 ⟨rfl, hb9⟩; have HB9 := (show Hid (Below w.heap.size w u9) from HB8.out.trans (hb9.mono HB8.out.size)); clear hb9)
        go_ret
        exact ⟨rfl, HB9.out⟩
      · obtain ⟨k1, k2, k3⟩ := HKV.out.2 hV0
        have hv0 : (V == 0) = false := by simpa using hV0
        have hyl : ((Y.length : Int) == (L.length : Int) - 1) = true := by rw [beq_iff_eq]; omega
        have hLi : (L.length : Int) ≤ 200 := by omega
        have S4 := (show Hid (∀ u, Below u2.heap.size u2 u → Calls Try.prog 19 #[.slice aX M cX, .agg #[strA gt, strA gw, .int .i64 V]] u fun e w' => (∃ v', e = .returned (.tuple #[v', .int .i64 0]) ∧ w'.ownsRow u.heap.size 33 3 v' L.length (grCs L)) ∧ Below u.heap.size u w') from k3)
        generalize Y.length = LY at *
        clear k1 k2 k3 HKV hV0
        have hk8 := HK8.out
        have x0 : ∀ u : BwA u8, u.wo.cell? ⟨w.heap.size, 0, none⟩ = some (strA gt) := fun u => cell_blkA (blk_belowA hk8 u.is) rfl
        have x1 : ∀ u : BwA u8, u.wo.cell? ⟨w.heap.size, 1, none⟩ = some (strA gw) := fun u => cell_blkA (blk_belowA hk8 u.is) rfl
        have M4j : Hid (∀ u : BwA u8, Calls Try.prog 16 #[.slice a L.length cap, strA gt, strA gw] u.wo fun e w' => e = .returned (.int .i64 V) ∧ ∃ u' : BwA u8, w' = u'.wo) := fun u => (M4.out u.wo (HC8.out.trans (u.is.mono HC8.out.size))).mono fun e w' q => ⟨q.1, BwA.of (u.is.trans (q.2.mono u.is.size)), rfl⟩
        clear hk8 y80 y81 y82
        go_wp2
        refine region_mid (fun w' => ∃ u : BwA u8, w' = u.wo) (fun w2 w3 => ∃ u : BwA w2, w3 = u.wo) 12 #[true, true, true, true, true, true, true, true, true, true, true, true, false, false, false, false, false, false] (by kernel_rfl) (by kernel_rfl) (BwA.first u8) (fun u => ⟨BwA.of (Below.refl _ _), rfl⟩) ?_
        haveI := BwA.some u8
        simp only [List.take_succ_cons, List.take_zero]
        repeat (go_big_quiet_step (first | (go_at_call 16; exact M4j.out _) | exact rfl))
        refine wpQuiet_nil ?_
        intro w9 hw9
        obtain ⟨U9, hu9⟩ := hw9
        subst hu9
        have hb9 := U9.is
        clear x0 x1 M4j
        generalize U9.wo = u9 at *
        have HB9 := (show Hid (Below w.heap.size w u9) from HB8.out.trans (hb9.mono HB8.out.size))
        have HC9 := (show Hid (Below u2.heap.size u2 u9) from HC8.out.trans (hb9.mono HC8.out.size))
        have hk9 := blk_belowA HK8.out hb9
        have y90 : u9.cell? ⟨w.heap.size, 0, none⟩ = some (strA gt) := cell_blkA hk9 (i := 0) rfl
        have y91 : u9.cell? ⟨w.heap.size, 1, none⟩ = some (strA gw) := cell_blkA hk9 (i := 1) rfl
        have y92 : u9.cell? ⟨w.heap.size, 2, none⟩ = some (.int .i64 gr) := cell_blkA hk9 (i := 2) rfl
        have HK9 := (show Hid _ from hk9)
        clear hb9 hk9 HK8
        refine mid_call (R := fun v w' => (∃ v', v = .tuple #[v', .int .i64 0] ∧ w'.ownsRow u9.heap.size 33 3 v' L.length (grCs L)) ∧ Below u9.heap.size u9 w') rfl rfl rfl (by kernel_rfl) ((S4.out u9 HC9.out).mono (fun e w' q => ?_)) ?_
        · obtain ⟨⟨v', rfl, q1⟩, q2⟩ := q
          exact ⟨_, rfl, ⟨v', rfl, q1⟩, q2⟩
        rintro v u9a ⟨⟨vZ, rfl, hrZ⟩, hb9a⟩
        obtain ⟨aZ, cZ, hvZ⟩ := arow_len hrZ
        subst hvZ
        have HZ9 := (show Hid (GrsAt u9a (.slice aZ L.length cZ) L) from grs_row hrZ)
        have HB9a := (show Hid (Below u9.heap.size u9 u9a) from hb9a)
        clear hrZ hb9a
        haveI := BwA.some u9a
        simp only [List.drop_succ_cons, List.drop_zero, List.setIfInBounds_toArray, List.set_cons_succ, List.set_cons_zero]
        repeat (go_big_quiet_step (exact rfl))
        refine wpQuiet_nil ?_
        intro w10 hw10
        obtain ⟨U10, hu10⟩ := hw10
        subst hu10
        have hbb := U10.is
        have HZ := (show Hid (GrsAt U10.wo (.slice aZ L.length cZ) L) from HZ9.out.below hbb)
        have HBB := (show Hid (Below u9.heap.size u9 U10.wo) from HB9a.out.trans (hbb.mono HB9a.out.size))
        clear hbb HZ9 HB9a
        generalize U10.wo = u10 at *
        have hb10 := HBB.out
        have HB10 := (show Hid (Below w.heap.size w u10) from HB9.out.trans (hb10.mono HB9.out.size))
        have HC10 := (show Hid (Below u2.heap.size u2 u10) from HC9.out.trans (hb10.mono HC9.out.size))
        have hk10 := blk_belowA HK9.out hb10
        have y100 : u10.cell? ⟨w.heap.size, 0, none⟩ = some (strA gt) := cell_blkA hk10 (i := 0) rfl
        have y101 : u10.cell? ⟨w.heap.size, 1, none⟩ = some (strA gw) := cell_blkA hk10 (i := 1) rfl
        have y102 : u10.cell? ⟨w.heap.size, 2, none⟩ = some (.int .i64 gr) := cell_blkA hk10 (i := 2) rfl
        have HK10 := (show Hid _ from hk10)
        clear hb10 hk10 y90 y91 y92 HK9
        go_wp2_with (go_at_call 20; refine Calls.mono (HSm.out _ u10 HZ.out HC10.out) ?_; rintro e u11 ⟨rfl, hb11⟩; have HB11 := (show Hid (Below w.heap.size w u11) from HB10.out.trans (hb11.mono HB10.out.size)); clear hb11)
        go_ret
        exact ⟨rfl, HB11.out⟩
  · have S2 : Hid (∀ u, Below w.heap.size w u → Calls Try.prog 19 #[.slice a L.length cap, .agg #[strA gt, strA gw, .int .i64 gr]] u fun e w' => e = .returned (.tuple #[.slice none 0 0, .int .i64 (errA L ⟨gt, gw, gr⟩)]) ∧ Below u.heap.size u w') := fun u hu => (S1.out u hu).mono (fun e w' q => by rw [if_neg he] at q; exact q)
    have hne : (errA L ⟨gt, gw, gr⟩ != 0) = true := by simpa using he
    have hne2 : (errA L ⟨gt, gw, gr⟩ == 0) = false := by simpa using he
    clear S1 HV HLn HLe he
    generalize errA L ⟨gt, gw, gr⟩ = E at *
    go_enter Try.func5, Try.ntmps5
    go_wp2_with (first | (go_at_call 8; refine Calls.mono (HS.out _) ?_; rintro e u1 ⟨rfl, hb1⟩; have HB1 := (show Hid (Below w.heap.size w u1) from (by first | exact (HA.out _).trans (hb1.mono (HA.out _).size) | exact hb1)); (try (have hk := blk_belowA (blk_new w _ _) hb1; have x0 : u1.cell? ⟨w.heap.size, 0, none⟩ = some (strA gt) := cell_blkA hk (i := 0) rfl; have x1 : u1.cell? ⟨w.heap.size, 1, none⟩ = some (strA gw) := cell_blkA hk (i := 1) rfl; have x2 : u1.cell? ⟨w.heap.size, 2, none⟩ = some (.int .i64 gr) := cell_blkA hk (i := 2) rfl; have HK1 := (show Hid _ from hk); clear hk)); clear hb1) | (go_at_call 19; refine Calls.mono (S2.out u1 HB1.out) ?_; rintro e u2 ⟨rfl, hb2⟩; have HB2 := (show Hid (Below w.heap.size w u2) from HB1.out.trans (hb2.mono HB1.out.size)); clear hb2))
    go_ret
    exact ⟨rfl, HB2.out⟩
end Go.Proofs.Ytfaekjplebjnlaa
