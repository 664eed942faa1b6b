/- The document's Entity. -/
import Derived.Test.YtebnobhalffalaaRNum
import Derived.Test.YtebnobhalffalaaPlainRef
set_option linter.unusedVariables false
namespace Go.Proofs.Ytebnobhalffalaa
open Go.RowKit

theorem pair_w {v : List UInt8} {z : Nat} {w w1 : World} {e : Ending} (h : e = .returned (.tuple #[.string ⟨v.toArray⟩, .int .i64 (z : Int)]) ∧ Below w.heap.size w w1) : e = .returned (.tuple #[.string ⟨v.toArray⟩, .int .i64 (z : Int)]) ∧ Below w.heap.size w w1 := h

theorem name_take (s : ByteArray) (p : Nat) : (s.extract 1 p).toList = (s.data.toList.drop 1).take (p - 1) := by
  rw [extract_eq, ByteArray.toList_eq]

theorem take_more {s : ByteArray} {p : Nat} (h1 : 1 ≤ p) (hp : p < s.size) (h : ∀ c ∈ (s.data.toList.drop 1).take (p - 1), noSemi c = true) (hc : s[p] ≠ 59) : ∀ c ∈ (s.data.toList.drop 1).take (p + 1 - 1), noSemi c = true := by
  intro c hcm
  rw [show p + 1 - 1 = (p - 1) + 1 by omega, List.take_add_one, ← get_drop1, show 1 + (p - 1) = p by omega, get_byte s p hp] at hcm
  simp only [Option.toList_some, List.mem_append, List.mem_singleton] at hcm
  rcases hcm with hcm | rfl
  · exact h c hcm
  · simp [noSemi, hc]

set_option maxHeartbeats 4000000 in
set_option maxRecDepth 100000 in
theorem refentity_call (s : ByteArray) (hs : s.size ≤ 140737488355328) (v : List UInt8) (z : Nat) (HE : Hid (entity s.data.toList = (v, z))) (w : World) :
    Calls Try.prog 15 #[.string s] w fun e w' => e = .returned (.tuple #[.string ⟨v.toArray⟩, .int .i64 (z : Int)]) ∧ Below w.heap.size w w' := by
  by_cases h3 : s.size < 3
  · have HV : Hid ((v, z) = (([] : List UInt8), 0)) := by
      show _ = _
      rw [← HE.out]
      have hl := entity_len s.data.toList
      have hg2 : s.data.toList[2]? = none := get_past s 2 (by omega)
      unfold entity
      split
      · split
        · rw [hg2, if_neg (by simp)]
          rw [numE_of (k := 0) (n := 0) (by rw [drop_past s 2 (by omega), readN_nil]), if_neg (by simp)]
        · by_cases h1 : s.size < 2
          · rw [nameE_of (p := 1) (by unfold stopN; rw [drop_past s 1 (by omega)]; rfl), get_past s 1 (by omega), if_neg (by simp)]
          · have g1 : s.data.toList[1]? = some s[1] := get_byte s 1 (by omega)
            have hd := drop_byte s 1 (by omega)
            rw [drop_past s (1 + 1) (by omega)] at hd
            cases ha : alnum s[1] with
            | true =>
              rw [nameE_of (p := 2) (by unfold stopN; rw [hd, List.takeWhile_cons, if_pos ha]; rfl), hg2, if_neg (by simp)]
            | false =>
              rw [nameE_of (p := 1) (by unfold stopN; rw [hd, List.takeWhile_cons, if_neg (by simp [ha])]; rfl), hd, List.takeWhile_cons, if_neg (show ¬ alnum s[1] = true by simp [ha])]
              rw [if_neg (by intro h; exact h.2 (by decide))]
      · rfl
    clear HE
    go_enter Try.func15, Try.ntmps15
    go_wp2
    go_ret2
    exact ⟨pair_none HV, Below.refl _ _⟩
  · have g0 : s.data.toList[0]? = some s[0] := get_byte s 0 (by omega)
    have g1 : s.data.toList[1]? = some s[1] := get_byte s 1 (by omega)
    have g2 : s.data.toList[2]? = some s[2] := get_byte s 2 (by omega)
    have hE := HE.out
    unfold entity at hE
    rw [g0, g1, g2] at hE
    clear g0 g1 g2
    by_cases h38 : s[0] = 38
    · have q38 : ((s[0].toNat : Int) != 38) = false := by rw [h38]; rfl
      rw [if_pos (by rw [h38])] at hE
      by_cases h35 : s[1] = 35
      · have q35 : ((s[1].toNat : Int) == 35) = true := by rw [h35]; rfl
        rw [if_pos (by rw [h35])] at hE
        clear h38 h35
        by_cases hx : s[2] = 120
        · have q1 : ((s[2].toNat : Int) == 120) = true := by rw [hx]; rfl
          rw [if_pos (by rw [hx]; exact .inl rfl)] at hE
          have hc := refnumber_16 s hs v z hE
          clear HE hE hx
          go_enter Try.func15, Try.ntmps15
          go_wp2_with (go_at_call 23; refine (hc _ (by omega)).mono ?_)
          first | rintro e w1 rfl hb1 | rintro e w1 ⟨rfl, hb1⟩
          go_wp2
          go_ret2
          exact ⟨rfl, hb1⟩
        · have q1 : ((s[2].toNat : Int) == 120) = false := by rw [beq_eq_false_iff_ne]; intro h; exact hx (u8_eq (n := 120) (by omega))
          by_cases hx2 : s[2] = 88
          · have q2 : ((s[2].toNat : Int) == 88) = true := by rw [hx2]; rfl
            rw [if_pos (by rw [hx2]; exact .inr rfl)] at hE
            have hc := refnumber_16 s hs v z hE
            clear HE hE hx hx2
            go_enter Try.func15, Try.ntmps15
            go_wp2_with (go_at_call 23; refine (hc _ (by omega)).mono ?_)
            first | rintro e w1 rfl hb1 | rintro e w1 ⟨rfl, hb1⟩
            go_wp2
            go_ret2
            exact ⟨rfl, hb1⟩
          · have q2 : ((s[2].toNat : Int) == 88) = false := by rw [beq_eq_false_iff_ne]; intro h; exact hx2 (u8_eq (n := 88) (by omega))
            rw [if_neg (by simp [hx, hx2])] at hE
            have hc := refnumber_10 s hs v z hE
            clear HE hE hx hx2
            go_enter Try.func15, Try.ntmps15
            go_wp2_with (go_at_call 23; refine (hc _ (by omega)).mono ?_)
            first | rintro e w1 rfl hb1 | rintro e w1 ⟨rfl, hb1⟩
            go_wp2
            go_ret2
            exact ⟨rfl, hb1⟩
      · have q35 : ((s[1].toNat : Int) == 35) = false := by rw [beq_eq_false_iff_ne]; intro h; exact h35 (u8_eq (n := 35) (by omega))
        rw [if_neg (by simp [h35])] at hE
        have HN : Hid (nameE s.data.toList = (v, z)) := hE
        clear HE hE h38 h35
        go_enter Try.func15, Try.ntmps15
        go_wp2
        go_loopw [4] (fun t wr => Hid (w = wr) ∧ ∃ (p : Nat), 1 ≤ p ∧ p ≤ 20 ∧ p ≤ s.size ∧ t = .int .i64 (p : Int) ∧ Hid (∀ c ∈ (s.data.toList.drop 1).take (p - 1), noSemi c = true)) (fun t _ => s.size - (intOf t).toNat)
        case atStart => exact ⟨rfl, 1, by omega, by omega, by omega, rfl, by intro c hc; simp at hc⟩
        case round =>
          obtain ⟨HW, p, hp1, hp20, hps, rfl, HS⟩ := hrel
          have hW := HW.out
          have hend : ((s.data.toList.drop 1).length ≤ p - 1 ∨ p - 1 = 19 ∨ (s.data.toList.drop 1)[p - 1]? = some 59) → Hid ((v, z) = if s.data.toList[p]? = some 59 ∧ nameT ((s.data.toList.drop 1).take (p - 1)) ≠ [] then (nameT ((s.data.toList.drop 1).take (p - 1)), p + 1) else ([], 0)) := by
            intro h
            show _ = _
            rw [← HN.out]
            exact nameR_of hp1 (twR_of HS.out (by omega) h) (by rw [len_data]; omega)
          by_cases hlt : p < s.size
          · have hd1 : decide ((p : Int) < (s.size : Int)) = true := by simp; omega
            have hnl : ((p : Int) == (s.size : Int)) = false := by simp; omega
            have hg := get_byte s p hlt
            by_cases h59 : s[p] = 59
            · have q59 : ((s[p].toNat : Int) != 59) = false := by rw [h59]; rfl
              have HV := hend (.inr (.inr (by rw [← get_drop1, show 1 + (p - 1) = p by omega, hg, h59])))
              rw [hg, h59] at HV
              have hcn := refnamed_any (s.extract 1 p)
              rw [name_take] at hcn
              have hemp := empty_mk (nameT ((s.data.toList.drop 1).take (p - 1)))
              generalize nameT ((s.data.toList.drop 1).take (p - 1)) = t at *
              subst hW
              clear HS HN hend hg h59 HW
              have hpc : p < 20 ∨ p = 20 := by omega
              by_cases ht : t = []
              · have HV' : Hid ((v, z) = (([] : List UInt8), 0)) := by show _ = _; rw [HV.out, if_neg (by simp [ht])]
                subst ht
                clear HV hemp
                rcases hpc with hpc | hpc
                all_goals
                  first | (have hd2 : decide ((p : Int) < 20) = true := by (simp; omega)) | (have hd2 : decide ((p : Int) < 20) = false := by (simp; omega))
                  clear hpc
                  go_wp2_with (go_at_call 24; refine (hcn _).mono ?_)
                  first | rintro e w1 rfl hb1 | rintro e w1 ⟨rfl, hb1⟩
                  go_wp2
                  go_ret2
                  exact ⟨pair_none HV', hb1⟩
              · have HV' : Hid ((v, z) = (t, p + 1)) := by show _ = _; rw [HV.out, if_pos ⟨rfl, ht⟩]
                have f1 : t.isEmpty = false := by simpa using ht
                rw [f1] at hemp
                clear HV ht
                rcases hpc with hpc | hpc
                all_goals
                  first | (have hd2 : decide ((p : Int) < 20) = true := by (simp; omega)) | (have hd2 : decide ((p : Int) < 20) = false := by (simp; omega))
                  clear hpc
                  go_wp2_with (go_at_call 24; refine (hcn _).mono ?_)
                  first | rintro e w1 rfl hb1 | rintro e w1 ⟨rfl, hb1⟩
                  go_wp2
                  go_ret2
                  exact ⟨pair_some HV' (by go_num), hb1⟩
            · have q59 : ((s[p].toNat : Int) != 59) = true := by rw [bne_iff_ne]; intro h; exact h59 (u8_eq (n := 59) (by omega))
              by_cases hp2 : p < 20
              · have hd2 : decide ((p : Int) < 20) = true := by simp; omega
                have HS' : Hid (∀ c ∈ (s.data.toList.drop 1).take (p + 1 - 1), noSemi c = true) := take_more hp1 hlt HS.out h59
                clear HS hend hg h59
                go_wp2
                go_roundw
                case rel => exact ⟨HW, p + 1, by omega, by omega, by omega, by go_num, HS'⟩
                case measure => simp [intOf]; omega
              · have hd2 : decide ((p : Int) < 20) = false := by simp; omega
                have HV := hend (.inr (.inl (by omega)))
                have HV' : Hid ((v, z) = (([] : List UInt8), 0)) := by show _ = _; rw [HV.out, hg, if_neg (by simp [h59])]
                subst hW
                clear HS hend hg h59 HV HW HN
                go_wp2
                go_ret2
                exact ⟨pair_none HV', Below.refl _ _⟩
          · have hd1 : decide ((p : Int) < (s.size : Int)) = false := by simp; omega
            have hnl : ((p : Int) == (s.size : Int)) = true := by simp; omega
            have HV := hend (.inl (by rw [List.length_drop, len_data]; omega))
            have HV' : Hid ((v, z) = (([] : List UInt8), 0)) := by show _ = _; rw [HV.out, get_past s p (by omega), if_neg (by simp)]
            subst hW
            clear HS hend HV HW HN
            go_wp2
            go_ret2
            exact ⟨pair_none HV', Below.refl _ _⟩
    · have q38 : ((s[0].toNat : Int) != 38) = true := by rw [bne_iff_ne]; intro h; exact h38 (u8_eq (n := 38) (by omega))
      rw [if_neg (by simp [h38])] at hE
      have HV : Hid ((v, z) = (([] : List UInt8), 0)) := hE.symm
      clear HE hE h38
      go_enter Try.func15, Try.ntmps15
      go_wp2
      go_ret2
      exact ⟨pair_none HV, Below.refl _ _⟩

end Go.Proofs.Ytebnobhalffalaa
