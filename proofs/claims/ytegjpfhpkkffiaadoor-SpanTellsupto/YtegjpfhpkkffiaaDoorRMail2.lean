/- The document's answer for span: mail, on; walked. -/
import Derived.Test.YtegjpfhpkkffiaaDoorRMail
set_option linter.unusedVariables false
namespace Go.Proofs.YtegjpfhpkkffiaaDoor
open Go.RowKit

theorem parts_dot2 {acc t : List UInt8} {c : UInt8} (h : c = 46) : partsL acc (c :: t) = (partOk acc && partsL [] t) := by rw [h]; exact parts_dot acc t

theorem tw_nil_of_dw {u : List UInt8} (h : u.dropWhile mailC = u) : u.takeWhile mailC = [] := by
  have e := List.takeWhile_append_dropWhile (p := mailC) (l := u)
  have := congrArg List.length e
  rw [List.length_append, h] at this
  exact List.length_eq_zero_iff.1 (by omega)
theorem mail_whole {u : List UInt8} (h : u.dropWhile mailC = u) : mailL u = false := by
  unfold mailL
  rw [tw_nil_of_dw h]
  cases u.dropWhile mailC <;> rfl
theorem mail_done {u : List UInt8} (h : u.dropWhile mailC = []) : mailL u = false := by
  unfold mailL
  rw [h]
theorem mail_sign {u v : List UInt8} {b : UInt8} (h : u.dropWhile mailC = b :: v) (hb : b ≠ 64) : mailL u = false := by
  unfold mailL
  rw [h]
  simp [hb]
theorem mail_parts {u v : List UInt8} (h : u.dropWhile mailC = 64 :: v) (h2 : u ≠ 64 :: v) : mailL u = partsL [] v := by
  unfold mailL
  rw [h]
  have : (u.takeWhile mailC).isEmpty = false := by
    cases ht : u.takeWhile mailC with
    | nil =>
      have e := List.takeWhile_append_dropWhile (p := mailC) (l := u)
      rw [ht, h] at e
      exact absurd e.symm h2
    | cons a b => rfl
  show (!(u.takeWhile mailC).isEmpty && (64 : UInt8) == 64 && partsL [] v) = _
  rw [this]
  rfl

set_option maxHeartbeats 8000000 in
set_option maxRecDepth 8000 in
theorem rmail_any (t : ByteArray) (hs : t.size ≤ 9223372036854775000) (w : World) :
    Calls Tryd.prog 31 #[.string t] w fun e w' => e = .returned (.bool (mailL t.data.toList)) ∧ w' = w := by
  obtain ⟨T, hT⟩ : ∃ T, T = t.data.toList := ⟨_, rfl⟩
  have HW : Hid (Suf t T) := by rw [hT]; exact Suf.whole t
  have HP0 : Hid (pos t T = 0) := by show _ = _; rw [hT]; exact pos_whole t
  rw [← hT]
  clear hT
  go_enter Tryd.func31, Tryd.ntmps31
  go_wp2
  go_loop [3] (fun A => ∃ l' : List UInt8, A = .int .i64 (pos t l' : Int) ∧ Hid (Suf t l') ∧ Hid (l'.dropWhile mailC = T.dropWhile mailC)) (fun A => t.size - (intOf A).toNat)
  case atStart => exact ⟨T, by rw [HP0.out]; rfl, HW.out, rfl⟩
  case round =>
    obtain ⟨l', rfl, h1, h2⟩ := hrel
    cases l' with
    | nil =>
      have hp : pos t [] = t.size := pos_nil t
      have HE : Hid (mailL T = false) := mail_done h2.out.symm
      by_cases hz : (t.size : Int) = 0
      · go_wp2
        go_ret
        exact ⟨ret_bool (by rw [HE.out]), rfl⟩
      · have hzb : ((t.size : Int) == 0) = false := by rw [beq_eq_false_iff_ne]; exact hz
        go_wp2
        all_goals
          go_ret
          exact ⟨ret_bool (by rw [HE.out]), rfl⟩
    | cons c u =>
      have hlt := h1.out.lt
      have hb := h1.out.byte hlt
      have hle : (pos t (c :: u) : Int) + 1 ≤ (t.size : Int) := by omega
      have hsu := (show Hid _ from h1.out.succ)
      rcases mailC_cases c with ⟨y1, c1⟩ | ⟨y1, c1, c2⟩ | ⟨c1, c2, y1⟩
      · have HY : Hid (mailC c = true) := y1
        clear y1
        go_wp2_with (first
        | (go_at_call 28; refine (rletter_any _ _).mono ?_; rintro e w1 ⟨rfl, hw⟩; subst w1)
        | (go_at_call 29; refine (rdigit_any _ _).mono ?_; rintro e w1 ⟨rfl, hw⟩; subst w1))
        go_round
        case rel =>
          refine ⟨u, ?_, h1.out.tail, ?_⟩
          · rw [hsu.out]; go_num
          · show _ = _
            rw [← h2.out, List.dropWhile_cons, if_pos HY.out]
        case measure => simp [intOf]; omega
      · have HY : Hid (mailC c = true) := y1
        clear y1
        go_wp2_with (first
        | (go_at_call 28; refine (rletter_any _ _).mono ?_; rintro e w1 ⟨rfl, hw⟩; subst w1)
        | (go_at_call 29; refine (rdigit_any _ _).mono ?_; rintro e w1 ⟨rfl, hw⟩; subst w1))
        go_round
        case rel =>
          refine ⟨u, ?_, h1.out.tail, ?_⟩
          · rw [hsu.out]; go_num
          · show _ = _
            rw [← h2.out, List.dropWhile_cons, if_pos HY.out]
        case measure => simp [intOf]; omega
      cases hmc : mailC c
      case true =>
        have HY : Hid (mailC c = true) := hmc
        have HEL : Hid (([46, 33, 35, 36, 37, 38, 39, 42, 43, 47, 61, 63, 94, 95, 123, 124, 125, 126, 45, 96] : List UInt8).elem c = true) := by show _ = _; rw [y1, hmc]
        clear y1 hmc
        go_wp2_with (first
        | (go_at_call 28; refine (rletter_any _ _).mono ?_; rintro e w1 ⟨rfl, hw⟩; subst w1)
        | (go_at_call 29; refine (rdigit_any _ _).mono ?_; rintro e w1 ⟨rfl, hw⟩; subst w1)
        | (go_at_call 30; refine (ramong_any _ (by decide) _ true HEL.out _).mono ?_; rintro e w1 ⟨rfl, hw⟩; subst w1))
        go_round
        case rel =>
          refine ⟨u, ?_, h1.out.tail, ?_⟩
          · rw [hsu.out]; go_num
          · show _ = _
            rw [← h2.out, List.dropWhile_cons, if_pos HY.out]
        case measure => simp [intOf]; omega
      have HEL : Hid (([46, 33, 35, 36, 37, 38, 39, 42, 43, 47, 61, 63, 94, 95, 123, 124, 125, 126, 45, 96] : List UInt8).elem c = false) := by show _ = _; rw [y1, hmc]
      have HDW : Hid (T.dropWhile mailC = c :: u) := by show _ = _; rw [← h2.out, List.dropWhile_cons, if_neg (by rw [hmc]; decide)]
      clear y1 hmc h2
      have nn : ¬ (pos t (c :: u) : Int) = (t.size : Int) := by omega
      have nnb : ((pos t (c :: u) : Int) == (t.size : Int)) = false := by rw [beq_eq_false_iff_ne]; exact nn
      by_cases hzero : pos t (c :: u) = 0
      · have HE : Hid (mailL T = false) := by
          have e : c :: u = T := h1.out.same HW.out (by have a1 := h1.out.sum; have a2 := HW.out.sum; have a3 := HP0.out; omega)
          exact mail_whole (by rw [HDW.out, e])
        have q0b : ((pos t (c :: u) : Int) == 0) = true := by rw [beq_iff_eq]; omega
        clear hzero
        go_wp2_with (first
        | (go_at_call 28; refine (rletter_any _ _).mono ?_; rintro e w1 ⟨rfl, hw⟩; subst w1)
        | (go_at_call 29; refine (rdigit_any _ _).mono ?_; rintro e w1 ⟨rfl, hw⟩; subst w1)
        | (go_at_call 30; refine (ramong_any _ (by decide) _ false HEL.out _).mono ?_; rintro e w1 ⟨rfl, hw⟩; subst w1))
        go_ret
        exact ⟨ret_bool (by rw [HE.out]), rfl⟩
      have q0 : ¬ (pos t (c :: u) : Int) = 0 := by omega
      have q0b : ((pos t (c :: u) : Int) == 0) = false := by rw [beq_eq_false_iff_ne]; exact q0
      by_cases h64 : c = 64
      case neg =>
        have HE : Hid (mailL T = false) := mail_sign HDW.out h64
        have q1 : ¬ (c.toNat : Int) = 64 := fun e => h64 (UInt8.toNat_inj.1 (by show c.toNat = 64; omega))
        have q2 : ((c.toNat : Int) != 64) = true := by simpa using q1
        go_wp2_with (first
        | (go_at_call 28; refine (rletter_any _ _).mono ?_; rintro e w1 ⟨rfl, hw⟩; subst w1)
        | (go_at_call 29; refine (rdigit_any _ _).mono ?_; rintro e w1 ⟨rfl, hw⟩; subst w1)
        | (go_at_call 30; refine (ramong_any _ (by decide) _ false HEL.out _).mono ?_; rintro e w1 ⟨rfl, hw⟩; subst w1))
        go_ret
        exact ⟨ret_bool (by rw [HE.out]), rfl⟩
      have HM : Hid (mailL T = partsL [] u) := mail_parts (by rw [HDW.out, h64]) (fun e => hzero (by rw [h64, ← e]; exact HP0.out))
      have q2 : ((c.toNat : Int) != 64) = false := by rw [h64]; rfl
      clear HDW hzero h64
      go_wp2_with (first
        | (go_at_call 28; refine (rletter_any _ _).mono ?_; rintro e w1 ⟨rfl, hw⟩; subst w1)
        | (go_at_call 29; refine (rdigit_any _ _).mono ?_; rintro e w1 ⟨rfl, hw⟩; subst w1)
        | (go_at_call 30; refine (ramong_any _ (by decide) _ false HEL.out _).mono ?_; rintro e w1 ⟨rfl, hw⟩; subst w1))
      go_loop [4, 5] (fun F I => (∃ f l : List UInt8, F = .int .i64 (pos t f : Int) ∧ I = .int .i64 (pos t l : Int) ∧ Hid (Suf t f) ∧ Hid (Suf t l) ∧ Hid (l.length ≤ f.length) ∧ Hid (partsL (accOf f l) l = partsL [] u)) ∨ (F = .int .i64 ((t.size : Int) + 1) ∧ I = .int .i64 ((t.size : Int) + 1) ∧ Hid (partsL [] u = true))) (fun _ I => t.size + 1 - (intOf I).toNat)
      case atStart => exact .inl ⟨u, u, by rw [hsu.out]; go_num, by rw [hsu.out]; go_num, h1.out.tail, h1.out.tail, Nat.le_refl _, by show _ = _; rw [accOf_same]⟩
      case round =>
        rcases hrel with ⟨f, l, rfl, rfl, k1, k2, k3, k4⟩ | ⟨rfl, rfl, k4⟩
        · have hpl := pos_le t l
          cases l with
          | nil =>
            have hp : pos t [] = t.size := pos_nil t
            have HK : Hid (mailL T = partOk (accOf f [])) := by show _ = _; rw [HM.out, ← k4.out, parts_nil]
            clear k4
            rcases part_end k1.out k2.out k3.out with ⟨e, po⟩ | ⟨ne, b, z, p, g1, g2, hp1, hbf, hbz, hlt2, po⟩
            · have HE : Hid (mailL T = false) := by show _ = _; rw [HK.out, po]
              subst e
              clear po
              go_wp2
              go_ret
              exact ⟨ret_bool (by rw [HE.out]), rfl⟩

            · have HNE : Hid (mailL T = (decide (pos t [] - pos t f ≤ 63) && b != 45 && z != 45)) := by show _ = _; rw [HK.out, po]
              have ne1 : ¬ (t.size : Int) = (pos t f : Int) := by rw [pos_nil] at hp1 hlt2; omega
              have ne2 : ((t.size : Int) == (pos t f : Int)) = false := by rw [beq_eq_false_iff_ne]; exact ne1
              have d1 : (pos t f : Int) < (t.size : Int) := by rw [pos_nil] at hp1 hlt2; omega
              have d2 : (1 : Int) ≤ (t.size : Int) := by rw [pos_nil] at hp1 hlt2; omega
              have hp1i : (t.size : Int) - 1 = (p : Int) := by rw [pos_nil] at hp1 hlt2; omega
              have HPE := (show Hid _ from po)
              clear po ne hp1 hlt2
              by_cases h63 : 63 < (t.size : Int) - (pos t f : Int)
              · have HE : Hid (mailL T = false) := by show _ = _; rw [HNE.out, decide_eq_false (by rw [pos_nil]; omega)]; rfl
                clear HNE HPE
                go_wp2
                go_ret
                exact ⟨ret_bool (by rw [HE.out]), rfl⟩

              · by_cases hb45 : b = 45
                · have HE : Hid (mailL T = false) := by show _ = _; rw [HNE.out, hb45]; simp
                  have qb : ((b.toNat : Int) == 45) = true := by rw [hb45]; rfl
                  clear HNE HPE hb45
                  go_wp2
                  go_ret
                  exact ⟨ret_bool (by rw [HE.out]), rfl⟩

                · have qb1 : ¬ (b.toNat : Int) = 45 := fun e => hb45 (UInt8.toNat_inj.1 (by show b.toNat = 45; omega))
                  have qb : ((b.toNat : Int) == 45) = false := by rw [beq_eq_false_iff_ne]; exact qb1
                  by_cases hz45 : z = 45
                  · have HE : Hid (mailL T = false) := by show _ = _; rw [HNE.out, hz45]; simp
                    have qz : ((z.toNat : Int) == 45) = true := by rw [hz45]; rfl
                    clear HNE HPE hz45 hb45
                    go_wp2
                    go_ret
                    exact ⟨ret_bool (by rw [HE.out]), rfl⟩

                  · have qz1 : ¬ (z.toNat : Int) = 45 := fun e => hz45 (UInt8.toNat_inj.1 (by show z.toNat = 45; omega))
                    have qz : ((z.toNat : Int) == 45) = false := by rw [beq_eq_false_iff_ne]; exact qz1
                    have HPO : Hid (partOk (accOf f []) = true) := by show _ = _; rw [HPE.out, decide_eq_true (by rw [pos_nil]; omega)]; simp [hb45, hz45]
                    clear HNE HPE hz45 hb45
                    go_wp2
                    go_round
                    case rel => exact .inr ⟨by go_num, by go_num, by show _ = _; rw [← HM.out, HK.out, HPO.out]⟩
                    case measure => simp [intOf]; omega

          | cons c2 v =>
            have hlt4 := k2.out.lt
            have hb4 := k2.out.byte hlt4
            have hle4 : (pos t (c2 :: v) : Int) + 1 ≤ (t.size : Int) := by omega
            have hsu4 := (show Hid _ from k2.out.succ)
            by_cases h46 : c2 = 46
            · have q46 : ((c2.toNat : Int) != 46) = false := by rw [h46]; rfl
              have HK : Hid (mailL T = (partOk (accOf f (c2 :: v)) && partsL [] v)) := by show _ = _; rw [HM.out, ← k4.out]; rw [parts_dot2 h46]
              clear k4 h46
              rcases part_end k1.out k2.out k3.out with ⟨e, po⟩ | ⟨ne, b, z, p, g1, g2, hp1, hbf, hbz, hlt2, po⟩
              · have HE : Hid (mailL T = false) := by show _ = _; rw [HK.out, po]; rfl
                subst e
                clear po
                go_wp2
                go_ret
                exact ⟨ret_bool (by rw [HE.out]), rfl⟩

              · have HNE : Hid (mailL T = ((decide (pos t (c2 :: v) - pos t f ≤ 63) && b != 45 && z != 45) && partsL [] v)) := by show _ = _; rw [HK.out, po]
                have ne1 : ¬ (pos t (c2 :: v) : Int) = (pos t f : Int) := by omega
                have ne2 : ((pos t (c2 :: v) : Int) == (pos t f : Int)) = false := by rw [beq_eq_false_iff_ne]; exact ne1
                have d1 : (pos t f : Int) < (pos t (c2 :: v) : Int) := by omega
                have d2 : (1 : Int) ≤ (pos t (c2 :: v) : Int) := by omega
                have hp1i : (pos t (c2 :: v) : Int) - 1 = (p : Int) := by omega
                have HPE := (show Hid _ from po)
                clear po ne hp1 hlt2
                by_cases h63 : 63 < (pos t (c2 :: v) : Int) - (pos t f : Int)
                · have HE : Hid (mailL T = false) := by show _ = _; rw [HNE.out, decide_eq_false (by omega)]; rfl
                  clear HNE HPE
                  go_wp2
                  go_ret
                  exact ⟨ret_bool (by rw [HE.out]), rfl⟩

                · by_cases hb45 : b = 45
                  · have HE : Hid (mailL T = false) := by show _ = _; rw [HNE.out, hb45]; simp
                    have qb : ((b.toNat : Int) == 45) = true := by rw [hb45]; rfl
                    clear HNE HPE hb45
                    go_wp2
                    go_ret
                    exact ⟨ret_bool (by rw [HE.out]), rfl⟩

                  · have qb1 : ¬ (b.toNat : Int) = 45 := fun e => hb45 (UInt8.toNat_inj.1 (by show b.toNat = 45; omega))
                    have qb : ((b.toNat : Int) == 45) = false := by rw [beq_eq_false_iff_ne]; exact qb1
                    by_cases hz45 : z = 45
                    · have HE : Hid (mailL T = false) := by show _ = _; rw [HNE.out, hz45]; simp
                      have qz : ((z.toNat : Int) == 45) = true := by rw [hz45]; rfl
                      clear HNE HPE hz45 hb45
                      go_wp2
                      go_ret
                      exact ⟨ret_bool (by rw [HE.out]), rfl⟩

                    · have qz1 : ¬ (z.toNat : Int) = 45 := fun e => hz45 (UInt8.toNat_inj.1 (by show z.toNat = 45; omega))
                      have qz : ((z.toNat : Int) == 45) = false := by rw [beq_eq_false_iff_ne]; exact qz1
                      have HPO : Hid (partOk (accOf f (c2 :: v)) = true) := by show _ = _; rw [HPE.out, decide_eq_true (by omega)]; simp [hb45, hz45]
                      clear HNE HPE hz45 hb45
                      go_wp2
                      go_round
                      case rel =>
                        refine .inl ⟨v, v, ?_, ?_, k2.out.tail, k2.out.tail, Nat.le_refl _, ?_⟩
                        · rw [hsu4.out]; go_num
                        · rw [hsu4.out]; go_num
                        · show _ = _
                          rw [accOf_same, ← HM.out, HK.out, HPO.out, Bool.true_and]
                      case measure => simp [intOf]; omega

            · have q46 : ¬ (c2.toNat : Int) = 46 := fun e => h46 (UInt8.toNat_inj.1 (by show c2.toNat = 46; omega))
              have q46b : ((c2.toNat : Int) != 46) = true := by simpa using q46
              have HX : Hid (c2 ≠ 46) := h46
              clear h46
              rcases nameB_cases c2 with ⟨y1, m1⟩ | ⟨y1, m1, m2⟩ | ⟨y1, m1, m2, m3⟩ | ⟨y1, m1, m2, m3⟩
              · have HY : Hid (nameC c2 = true) := y1
                clear y1
                go_wp2_with (first
                  | (go_at_call 28; refine (rletter_any _ _).mono ?_; rintro e w1 ⟨rfl, hw⟩; subst w1)
                  | (go_at_call 29; refine (rdigit_any _ _).mono ?_; rintro e w1 ⟨rfl, hw⟩; subst w1))
                go_round
                case rel =>
                  refine .inl ⟨f, v, rfl, ?_, k1.out, k2.out.tail, ?_, ?_⟩
                  · rw [hsu4.out]; go_num
                  · have h9 := k3.out
                    rw [List.length_cons] at h9
                    show v.length ≤ f.length
                    omega
                  · show _ = _
                    rw [← k4.out, parts_byte _ _ HX.out, HY.out, Bool.true_and, accOf_push k1.out k2.out k3.out]
                case measure => simp [intOf]; omega

              · have HY : Hid (nameC c2 = true) := y1
                clear y1
                go_wp2_with (first
                  | (go_at_call 28; refine (rletter_any _ _).mono ?_; rintro e w1 ⟨rfl, hw⟩; subst w1)
                  | (go_at_call 29; refine (rdigit_any _ _).mono ?_; rintro e w1 ⟨rfl, hw⟩; subst w1))
                go_round
                case rel =>
                  refine .inl ⟨f, v, rfl, ?_, k1.out, k2.out.tail, ?_, ?_⟩
                  · rw [hsu4.out]; go_num
                  · have h9 := k3.out
                    rw [List.length_cons] at h9
                    show v.length ≤ f.length
                    omega
                  · show _ = _
                    rw [← k4.out, parts_byte _ _ HX.out, HY.out, Bool.true_and, accOf_push k1.out k2.out k3.out]
                case measure => simp [intOf]; omega

              · have HY : Hid (nameC c2 = true) := y1
                have q45 : ((c2.toNat : Int) != 45) = false := by simp [m3]
                clear y1 m3
                go_wp2_with (first
                  | (go_at_call 28; refine (rletter_any _ _).mono ?_; rintro e w1 ⟨rfl, hw⟩; subst w1)
                  | (go_at_call 29; refine (rdigit_any _ _).mono ?_; rintro e w1 ⟨rfl, hw⟩; subst w1))
                go_round
                case rel =>
                  refine .inl ⟨f, v, rfl, ?_, k1.out, k2.out.tail, ?_, ?_⟩
                  · rw [hsu4.out]; go_num
                  · have h9 := k3.out
                    rw [List.length_cons] at h9
                    show v.length ≤ f.length
                    omega
                  · show _ = _
                    rw [← k4.out, parts_byte _ _ HX.out, HY.out, Bool.true_and, accOf_push k1.out k2.out k3.out]
                case measure => simp [intOf]; omega

              · have HE : Hid (mailL T = false) := by show _ = _; rw [HM.out, ← k4.out, parts_byte _ _ HX.out, y1]; rfl
                have q45a : ¬ (c2.toNat : Int) = 45 := by omega
                have q45 : ((c2.toNat : Int) != 45) = true := by simpa using q45a
                clear y1
                go_wp2_with (first
                  | (go_at_call 28; refine (rletter_any _ _).mono ?_; rintro e w1 ⟨rfl, hw⟩; subst w1)
                  | (go_at_call 29; refine (rdigit_any _ _).mono ?_; rintro e w1 ⟨rfl, hw⟩; subst w1))
                go_ret
                exact ⟨ret_bool (by rw [HE.out]), rfl⟩
        · have qe : ¬ ((t.size : Int) + 1 ≤ (t.size : Int)) := by omega
          go_wp2
          go_ret
          exact ⟨ret_bool (by rw [HM.out, k4.out]), rfl⟩

end Go.Proofs.YtegjpfhpkkffiaaDoor
