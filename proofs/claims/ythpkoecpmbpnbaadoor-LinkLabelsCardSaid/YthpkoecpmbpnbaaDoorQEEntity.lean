/- What escape's namedEntity and Entity answer. -/
import Derived.Test.YthpkoecpmbpnbaaDoorQEName
set_option linter.unusedVariables false
namespace Go.Proofs.YthpkoecpmbpnbaaDoor.esc
open Go.RowKit

/-- Where a name that holds place i stops. -/
def stopN (l : List UInt8) (i : Nat) : Nat := i + ((l.drop i).takeWhile alnum).length

theorem stopN_more (s : ByteArray) (p : Nat) (h : p < s.size) (ha : alnum s[p] = true) : stopN s.data.toList p = stopN s.data.toList (p + 1) := by
  unfold stopN
  rw [drop_byte s p h, List.takeWhile_cons, if_pos ha, List.length_cons]
  omega
theorem stopN_here (s : ByteArray) (p : Nat) (h : p < s.size) (ha : alnum s[p] = false) : stopN s.data.toList p = p := by
  unfold stopN
  rw [drop_byte s p h, List.takeWhile_cons, if_neg (by simp [ha])]
  rfl
theorem stopN_past (s : ByteArray) (p : Nat) (h : s.size ≤ p) : stopN s.data.toList p = p := by
  unfold stopN
  rw [drop_past s p h]
  rfl

theorem take_take (p : UInt8 → Bool) : ∀ l : List UInt8, l.take (l.takeWhile p).length = l.takeWhile p
  | [] => rfl
  | c :: l => by
    rw [List.takeWhile_cons]
    split
    · rw [List.length_cons, List.take_succ_cons, take_take p l]
    · rfl

/-- The name that stands behind the first byte. -/
theorem name_bytes (s : ByteArray) (p : Nat) (h : stopN s.data.toList 1 = p) : (s.extract 1 p).toList = (s.data.toList.drop 1).takeWhile alnum := by
  rw [extract_eq, ByteArray.toList_eq]
  subst h
  have : stopN s.data.toList 1 - 1 = ((s.data.toList.drop 1).takeWhile alnum).length := by unfold stopN; omega
  rw [this, take_take]

theorem nameE_of {l : List UInt8} {p : Nat} (h : stopN l 1 = p) : nameE l = if l[p]? = some 59 ∧ nameT ((l.drop 1).takeWhile alnum) ≠ [] then (nameT ((l.drop 1).takeWhile alnum), p + 1) else ([], 0) := by
  unfold nameE
  subst h
  rfl

set_option maxHeartbeats 4000000 in
set_option maxRecDepth 100000 in
theorem namedEntity_any (s : ByteArray) (hs : s.size ≤ 140737488355328) (h1 : 1 ≤ s.size) (v : List UInt8) (z : Nat) (HE : Hid (nameE s.data.toList = (v, z))) (w : World) :
    Calls Tryd.prog 58 #[.string s] w fun e w' => e = .returned (.tuple #[.string ⟨v.toArray⟩, .int .i64 (z : Int)]) ∧ w = w' := by
  go_enter Tryd.func58, Tryd.ntmps58
  go_wp2
  go_loopw [4] (fun t wr => Hid (w = wr) ∧ ∃ (p : Nat), 1 ≤ p ∧ p ≤ s.size ∧ t = .int .i64 (p : Int) ∧ Hid (stopN s.data.toList p = stopN s.data.toList 1)) (fun t _ => s.size - (intOf t).toNat)
  case atStart => exact ⟨rfl, 1, by omega, by omega, rfl, rfl⟩
  case round =>
    obtain ⟨HW, p, hp1, hps, rfl, HS⟩ := hrel
    have hW := HW.out
    by_cases hlt : p < s.size
    · have cl := letter_any s[p].toNat
      have cd := digit_any s[p].toNat
      have hal : alnum s[p] = (letterN s[p].toNat || digitN s[p].toNat) := rfl
      have hd1 : decide ((p : Int) < (s.size : Int)) = true := by simp; omega
      have hnl : ((p : Int) == (s.size : Int)) = false := by simp; omega
      cases ha : alnum s[p] with
      | true =>
        have HS' : Hid (stopN s.data.toList (p + 1) = stopN s.data.toList 1) := by show _ = _; rw [← stopN_more s p hlt ha]; exact HS.out
        rw [ha] at hal
        generalize letterN s[p].toNat = bl at *
        generalize digitN s[p].toNat = bd at *
        clear HS HE ha
        cases bl with
        | true =>
          clear hal cd
          go_wp2_with (first | (go_at_call 69; refine (cl _).mono ?_; rintro e w' ⟨rfl, rfl⟩))
          go_roundw
          case rel => exact ⟨HW, p + 1, by omega, by omega, by go_num, HS'⟩
          case measure => simp [intOf]; omega
        | false =>
          have hbd : bd = true := by simpa using hal.symm
          subst hbd
          clear hal
          go_wp2_with (first | (go_at_call 69; refine (cl _).mono ?_; rintro e w' ⟨rfl, rfl⟩) | (go_at_call 70; refine (cd _).mono ?_; rintro e w' ⟨rfl, rfl⟩))
          go_roundw
          case rel => exact ⟨HW, p + 1, by omega, by omega, by go_num, HS'⟩
          case measure => simp [intOf]; omega
      | false =>
        have hst : stopN s.data.toList 1 = p := by rw [← HS.out, stopN_here s p hlt ha]
        have hne := nameE_of hst
        have hnm := name_bytes s p hst
        rw [get_byte s p hlt, HE.out] at hne
        have hcn := named_any (s.extract 1 p)
        rw [hnm] at hcn
        have hemp := empty_mk (nameT ((s.data.toList.drop 1).takeWhile alnum))
        generalize nameT ((s.data.toList.drop 1).takeWhile alnum) = t at *
        rw [ha] at hal
        have hbl : letterN s[p].toNat = false := (Bool.or_eq_false_iff.1 hal.symm).1
        have hbd : digitN s[p].toNat = false := (Bool.or_eq_false_iff.1 hal.symm).2
        rw [hbl] at cl
        rw [hbd] at cd
        subst hW
        clear HS HE ha hal hbl hbd hst hnm HW
        by_cases h59 : s[p] = 59
        · have q59 : ((s[p].toNat : Int) != 59) = false := by rw [h59]; rfl
          by_cases ht : t = []
          · have HV : Hid ((v, z) = (([] : List UInt8), 0)) := by show _ = _; rw [hne, if_neg (by simp [ht])]
            subst ht
            clear hne hemp h59
            go_wp2_with (first | (go_at_call 69; refine (cl _).mono ?_; rintro e w' ⟨rfl, rfl⟩) | (go_at_call 70; refine (cd _).mono ?_; rintro e w' ⟨rfl, rfl⟩) | (go_at_call 71; refine (hcn _).mono ?_; rintro e w' ⟨rfl, rfl⟩))
            go_ret2
            exact ⟨pair_none HV, rfl⟩
          · have HV : Hid ((v, z) = (t, p + 1)) := by show _ = _; rw [hne, if_pos ⟨by rw [h59], ht⟩]
            have f1 : t.isEmpty = false := by simpa using ht
            rw [f1] at hemp
            clear hne h59 ht
            go_wp2_with (first | (go_at_call 69; refine (cl _).mono ?_; rintro e w' ⟨rfl, rfl⟩) | (go_at_call 70; refine (cd _).mono ?_; rintro e w' ⟨rfl, rfl⟩) | (go_at_call 71; refine (hcn _).mono ?_; rintro e w' ⟨rfl, rfl⟩))
            go_ret2
            exact ⟨pair_some HV (by go_num), rfl⟩
        · have HV : Hid ((v, z) = (([] : List UInt8), 0)) := by show _ = _; rw [hne, if_neg (by simp [h59])]
          have q59 : ((s[p].toNat : Int) != 59) = true := by rw [bne_iff_ne]; intro h; exact h59 (u8_eq (n := 59) (by omega))
          clear hne hemp h59 hcn
          go_wp2_with (first | (go_at_call 69; refine (cl _).mono ?_; rintro e w' ⟨rfl, rfl⟩) | (go_at_call 70; refine (cd _).mono ?_; rintro e w' ⟨rfl, rfl⟩))
          go_ret2
          exact ⟨pair_none HV, rfl⟩
    · have hd1 : decide ((p : Int) < (s.size : Int)) = false := by simp; omega
      have hnl : ((p : Int) == (s.size : Int)) = true := by simp; omega
      have hst : stopN s.data.toList 1 = p := by rw [← HS.out, stopN_past s p (by omega)]
      have hne := nameE_of hst
      rw [get_past s p (by omega), HE.out] at hne
      have HV : Hid ((v, z) = (([] : List UInt8), 0)) := by show _ = _; rw [hne, if_neg (by simp)]
      subst hW
      clear HS HE HW hst hne
      go_wp2
      go_ret2
      exact ⟨pair_none HV, rfl⟩

set_option maxHeartbeats 4000000 in
set_option maxRecDepth 100000 in
theorem entity_call (s : ByteArray) (hs : s.size ≤ 140737488355328) (v : List UInt8) (z : Nat) (HE : Hid (entity s.data.toList = (v, z))) (w : World) :
    Calls Tryd.prog 45 #[.string s] w fun e w' => e = .returned (.tuple #[.string ⟨v.toArray⟩, .int .i64 (z : Int)]) ∧ w = w' := by
  by_cases h2 : s.size < 2
  · have HV : Hid ((v, z) = (([] : List UInt8), 0)) := by
      show _ = _
      rw [← HE.out]
      have h1 : s.data.toList[1]? = none := get_past s 1 (by omega)
      unfold entity
      split
      · rw [h1, if_neg (by simp)]
        rw [nameE_of (p := 1) (by unfold stopN; rw [drop_past s 1 (by omega)]; rfl), h1, if_neg (by simp)]
      · rfl
    clear HE
    go_enter Tryd.func45, Tryd.ntmps45
    go_wp2
    go_ret2
    exact ⟨pair_none HV, rfl⟩
  · have g0 : s.data.toList[0]? = some s[0] := get_byte s 0 (by omega)
    have g1 : s.data.toList[1]? = some s[1] := get_byte s 1 (by omega)
    have hE := HE.out
    unfold entity at hE
    rw [g0, g1] at hE
    clear g0 g1
    by_cases h38 : s[0] = 38
    · have q38 : ((s[0].toNat : Int) != 38) = false := by rw [h38]; rfl
      rw [if_pos (by rw [h38])] at hE
      by_cases h35 : s[1] = 35
      · have q35 : ((s[1].toNat : Int) != 35) = false := by rw [h35]; rfl
        rw [if_pos (by rw [h35])] at hE
        clear h38 h35
        by_cases h3 : 2 < s.size
        · have g2 : s.data.toList[2]? = some s[2] := get_byte s 2 (by omega)
          rw [g2] at hE
          have hd : decide (2 < (s.size : Int)) = true := by simp; omega
          by_cases hx : s[2] = 120
          · have q1 : ((s[2].toNat : Int) == 120) = true := by rw [hx]; rfl
            rw [if_pos (by rw [hx]; exact .inl rfl)] at hE
            have hc := number_16 s hs v z hE
            clear HE hE hx g2
            go_enter Tryd.func45, Tryd.ntmps45
            go_wp2_with (go_at_call 59; refine (hc _ (by omega)).mono ?_; rintro e w' ⟨rfl, rfl⟩)
            go_ret2
            exact ⟨rfl, rfl⟩
          · have q1 : ((s[2].toNat : Int) == 120) = false := by rw [beq_eq_false_iff_ne]; intro h; exact hx (u8_eq (n := 120) (by omega))
            by_cases hx2 : s[2] = 88
            · have q2 : ((s[2].toNat : Int) == 88) = true := by rw [hx2]; rfl
              rw [if_pos (by rw [hx2]; exact .inr rfl)] at hE
              have hc := number_16 s hs v z hE
              clear HE hE hx hx2 g2
              go_enter Tryd.func45, Tryd.ntmps45
              go_wp2_with (go_at_call 59; refine (hc _ (by omega)).mono ?_; rintro e w' ⟨rfl, rfl⟩)
              go_ret2
              exact ⟨rfl, rfl⟩
            · have q2 : ((s[2].toNat : Int) == 88) = false := by rw [beq_eq_false_iff_ne]; intro h; exact hx2 (u8_eq (n := 88) (by omega))
              rw [if_neg (by simp [hx, hx2])] at hE
              have hc := number_10 s hs v z hE
              clear HE hE hx hx2 g2
              go_enter Tryd.func45, Tryd.ntmps45
              go_wp2_with (go_at_call 59; refine (hc _ (by omega)).mono ?_; rintro e w' ⟨rfl, rfl⟩)
              go_ret2
              exact ⟨rfl, rfl⟩
        · have hd : decide (2 < (s.size : Int)) = false := by simp; omega
          rw [get_past s 2 (by omega), if_neg (by simp)] at hE
          have hc := number_10 s hs v z hE
          clear HE hE
          go_enter Tryd.func45, Tryd.ntmps45
          go_wp2_with (go_at_call 59; refine (hc _ (by omega)).mono ?_; rintro e w' ⟨rfl, rfl⟩)
          go_ret2
          exact ⟨rfl, rfl⟩
      · have q35 : ((s[1].toNat : Int) != 35) = true := by rw [bne_iff_ne]; intro h; exact h35 (u8_eq (n := 35) (by omega))
        rw [if_neg (by simp [h35])] at hE
        have hc := namedEntity_any s hs (by omega) v z hE
        clear HE hE h38 h35
        go_enter Tryd.func45, Tryd.ntmps45
        go_wp2_with (go_at_call 58; refine (hc _).mono ?_; rintro e w' ⟨rfl, rfl⟩)
        go_ret2
        exact ⟨rfl, rfl⟩
    · have q38 : ((s[0].toNat : Int) != 38) = true := by rw [bne_iff_ne]; intro h; exact h38 (u8_eq (n := 38) (by omega))
      rw [if_neg (by simp [h38])] at hE
      have HV : Hid ((v, z) = (([] : List UInt8), 0)) := hE.symm
      clear HE hE h38
      go_enter Tryd.func45, Tryd.ntmps45
      go_wp2
      go_ret2
      exact ⟨pair_none HV, rfl⟩

theorem entity_any (s : ByteArray) (hs : s.size ≤ 140737488355328) (w : World) :
    Calls Tryd.prog 45 #[.string s] w fun e w' => e = .returned (.tuple #[.string ⟨(entity s.data.toList).1.toArray⟩, .int .i64 ((entity s.data.toList).2 : Nat)]) ∧ w = w' :=
  entity_call s hs _ _ rfl w

end Go.Proofs.YthpkoecpmbpnbaaDoor.esc
