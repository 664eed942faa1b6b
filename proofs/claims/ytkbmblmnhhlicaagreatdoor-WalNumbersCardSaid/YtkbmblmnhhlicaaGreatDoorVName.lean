/- Names of segments; walked. -/
import Derived.Test.YtkbmblmnhhlicaaGreatDoorVEmp
import Derived.Test.YtkbmblmnhhlicaaGreatDoorShelf
set_option linter.unusedVariables false
namespace Go.Proofs.YtkbmblmnhhlicaaGreatDoor
open Go.RowKit

theorem below_grow (w : World) (k : Nat) (os : Array Obj) : Below w.heap.size w (Sort.grow (w.drewN k) os) := by
  refine ⟨rfl, rfl, rfl, ?_, fun j hj => ?_⟩
  · show w.heap.size ≤ (w.heap ++ os).size
    simp
  · show (w.heap ++ os)[j]? = _
    rw [Array.getElem?_append_left hj]
theorem repeatL_zero (k : Nat) : Lib.repeatL [48] k = List.replicate k (48 : UInt8) := by
  induction k with
  | zero => rfl
  | succ k ih => rw [Lib.repeatL, ih]; rfl

set_option maxHeartbeats 1000000 in
set_option maxRecDepth 20000 in
theorem name_any {w : World} (ht : Tabs w) (N : Nat) (hN : N < 1000000) (v : Value) : Calls Tryz.prog 69 #[sgV N v] w fun e w' => e = .returned (strN (nameL N)) ∧ Below w.heap.size w w' := by
  obtain ⟨hlen, hpad⟩ := pad_name N hN
  have hi : Lib.itoa (N : Int) = Lib.decDigits N := by unfold Lib.itoa; rw [if_neg (by omega), Int.toNat_natCast]
  obtain ⟨D, hD⟩ : ∃ D, Lib.decDigits N = D := ⟨_, rfl⟩
  rw [hD] at hlen hpad hi
  have hIt : ∀ w, Tabs w → Calls Tryz.prog 132 #[.int .i64 (N : Int)] w fun e w' => e = .returned (.string ⟨D.toArray⟩) ∧ Below w.heap.size w w' := fun w ht => by
    refine (Tryz.strconv_Itoa (N : Int) (by omega) (by omega) w ht.pow).mono ?_
    rintro e w' ⟨rfl, k, os, rfl⟩
    rw [hi]
    exact ⟨rfl, below_grow _ _ _⟩
  obtain ⟨K, hK⟩ : ∃ K, 6 - D.length = K := ⟨_, rfl⟩
  have hRe : ∀ w, Calls Tryz.prog 133 #[.string ⟨#[48]⟩, .int .i64 (K : Int)] w fun e w' => e = .returned (.string ⟨(List.replicate K (48 : UInt8)).toArray⟩) ∧ Below w.heap.size w w' := fun w => by
    refine (Tryz.strings_Repeat ⟨#[48]⟩ K w (by omega) (by show 1 * K ≤ _; omega)).mono ?_
    rintro e w' ⟨rfl, hb⟩
    refine ⟨?_, hb⟩
    rw [← repeatL_zero]
  have hsz : (⟨D.toArray⟩ : ByteArray).size = D.length := by simp [ByteArray.size]
  have e1 : (6 : Int) - (D.length : Int) = (K : Int) := by omega
  have b1 : (D.length : Int) ≤ 6 := by omega
  rw [hK] at hpad
  obtain ⟨DS, hDS⟩ : ∃ DS : ByteArray, DS = ⟨D.toArray⟩ := ⟨_, rfl⟩
  obtain ⟨RS, hRS⟩ : ∃ RS : ByteArray, RS = ⟨(List.replicate K (48 : UInt8)).toArray⟩ := ⟨_, rfl⟩
  rw [← hDS] at hIt hsz
  rw [← hRS] at hRe
  have HF : Hid ((⟨#[108, 111, 103, 46]⟩ : ByteArray) ++ RS ++ DS = ⟨(nameL N).toArray⟩) := by
    show _ = _
    rw [← hpad, hRS, hDS]
    simp [ByteArray.ext_iff]
  have HT : Hid (Tabs w) := ht
  have hRz : RS.size = K := by rw [hRS]; simp [ByteArray.size]
  have k1 : ¬ (9223372036854775807 < 4 + RS.size) := by omega
  have k2 : ¬ (9223372036854775807 < 4 + RS.size + DS.size) := by omega
  clear hRz
  clear ht hi hK hlen hD hpad hDS hRS hN
  have e2 : (DS.size : Int) = (D.length : Int) := by omega
  go_enter Tryz.func69, Tryz.ntmps69
  go_wp2_with (fail)
  refine (hIt _ (HT.out.alloc _)).mono ?_
  rintro e w1 ⟨rfl, hb⟩
  have HB : Hid (Below w.heap.size w w1) := ((Below.refl _ w).alloc (Nat.le_refl _) _).trans (hb.mono (by simp))
  clear hb hIt
  go_wp2_with (fail)
  refine (hRe _).mono ?_
  rintro e w2 ⟨rfl, hb⟩
  have HB2 : Hid (Below w.heap.size w w2) := HB.out.trans (hb.mono HB.out.size)
  clear hb hRe HB
  go_wp2_with (fail)
  go_ret
  refine ⟨?_, HB2.out⟩
  have h9 := HF.out
  rw [show strN (nameL N) = .string ⟨(nameL N).toArray⟩ from rfl, ← h9]
  rfl

set_option maxHeartbeats 1000000 in
set_option maxRecDepth 20000 in
theorem lprefix_any (s : ByteArray) (w : World) : Calls Tryz.prog 187 #[.string s, .string ⟨#[108, 111, 103, 46]⟩] w fun e w' => e = .returned (.bool (decide (s.data.toList.take 4 = [108, 111, 103, 46]))) ∧ w' = w := by
  have h := Tryz.stringslite_HasPrefix s ⟨#[108, 111, 103, 46]⟩ w
  have e : Lib.hasPrefix s.data.toList [108, 111, 103, 46] = decide (s.data.toList.take 4 = [108, 111, 103, 46]) := by
    unfold Lib.hasPrefix
    rw [Bool.eq_iff_iff, List.isPrefixOf_iff_prefix, List.prefix_iff_eq_take, decide_eq_true_eq]
    exact eq_comm
  rw [← e]
  exact h

set_option maxHeartbeats 1000000 in
set_option maxRecDepth 20000 in
theorem cutprefix_any (s : ByteArray) (hs : s.size ≤ 140737488355328) (w : World) : Calls Tryz.prog 182 #[.string s, .string ⟨#[108, 111, 103, 46]⟩] w fun e w' => e = .returned (.tuple #[.string (if s.data.toList.take 4 = [108, 111, 103, 46] then s.extract 4 s.size else s), .bool (decide (s.data.toList.take 4 = [108, 111, 103, 46]))]) ∧ w' = w := by
  have h1 := lprefix_any s w
  obtain ⟨B, hB⟩ : ∃ B, decide (s.data.toList.take 4 = [108, 111, 103, 46]) = B := ⟨_, rfl⟩
  obtain ⟨R, hR⟩ : ∃ R, (if s.data.toList.take 4 = [108, 111, 103, 46] then s.extract 4 s.size else s) = R := ⟨_, rfl⟩
  have h2 : Calls Tryz.prog 196 #[.string s, .string ⟨#[108, 111, 103, 46]⟩] w fun e w' => e = .returned (.tuple #[.string R, .bool B]) ∧ w' = w := by
    rw [hB] at h1
    cases B with
    | true =>
      have hp := of_decide_eq_true hB
      rw [if_pos hp] at hR
      have h4 : 4 ≤ s.size := by
        have := congrArg List.length hp
        rw [List.length_take] at this
        have e : s.data.toList.length = s.size := len_data s
        rw [e] at this
        have e2 : ([108, 111, 103, 46] : List UInt8).length = 4 := rfl
        rw [e2] at this
        omega
      have h4' : (4 : Int) ≤ (s.size : Int) := by omega
      subst hR
      clear hp hB
      go_enter Tryz.func196, Tryz.ntmps196
      go_wp2_with (go_at_call 187; refine h1.mono ?_; rintro e w1 ⟨rfl, hw⟩; subst w1)
      go_ret2
      exact ⟨rfl, rfl⟩
    | false =>
      have hp := of_decide_eq_false hB
      rw [if_neg hp] at hR
      subst hR
      clear hp hB
      go_enter Tryz.func196, Tryz.ntmps196
      go_wp2_with (go_at_call 187; refine h1.mono ?_; rintro e w1 ⟨rfl, hw⟩; subst w1)
      go_ret2
      exact ⟨rfl, rfl⟩
  rw [hB, hR]
  clear h1 hB hR
  go_enter Tryz.func182, Tryz.ntmps182
  go_wp2_with (go_at_call 196; refine h2.mono ?_; rintro e w1 ⟨rfl, hw⟩; subst w1)
  go_ret2
  exact ⟨rfl, rfl⟩

theorem digs_none_or (l : List UInt8) (n : Nat) : digs n l = none ∨ ∃ k, digs n l = some k := by
  cases h : digs n l
  · exact .inl rfl
  · exact .inr ⟨_, rfl⟩

set_option maxHeartbeats 1000000 in
set_option maxRecDepth 20000 in
theorem segnum_any (s : Nm) (hs : s.length ≤ 140737488355328) (w : World) : Calls Tryz.prog 162 #[strN s] w fun e w' => e = .returned (.int .i64 ((segNum s : Nat) : Int)) ∧ Below w.heap.size w w' := by
  have h1 := cutprefix_any ⟨s.toArray⟩ (by simpa [ByteArray.size] using hs) w
  unfold segNum
  rw [show (⟨s.toArray⟩ : ByteArray).data.toList = s from rfl] at h1
  by_cases hp : s.take 4 = [108, 111, 103, 46]
  · rw [if_pos hp, decide_eq_true hp] at h1
    have hl4 : 4 ≤ s.length := by
      have := congrArg List.length hp
      rw [List.length_take, show ([108, 111, 103, 46] : List UInt8).length = 4 from rfl] at this
      omega
    obtain ⟨r, hr⟩ : ∃ r, s.drop 4 = r := ⟨_, rfl⟩
    have hrl : r.length = s.length - 4 := by rw [← hr, List.length_drop]
    have hex : (⟨s.toArray⟩ : ByteArray).extract 4 (⟨s.toArray⟩ : ByteArray).size = ⟨r.toArray⟩ := by
      rw [extract_end, ← hr]
    rw [hex] at h1
    rw [hr]
    have hrs : (⟨r.toArray⟩ : ByteArray).size = r.length := by simp [ByteArray.size]
    by_cases hl : r.length = 6
    · rw [if_pos ⟨hp, by omega⟩]
      have hr6 : (⟨r.toArray⟩ : ByteArray).size = 6 := by omega
      obtain ⟨D, hD⟩ : ∃ D, (digs 0 r).getD 0 = D := ⟨_, rfl⟩
      rw [hD]
      have HD : Hid ((digs 0 (r.drop 0)).getD 0 = D) := by rw [List.drop_zero]; exact hD
      have HL : Hid (r.length = 6) := hl
      have hcv := Lib.run_convert_string_bytes (P := Tryz.prog) w 9 34 5 ⟨r.toArray⟩ Tryz.underlying9 Tryz.underlying34 Tryz.underlying5
      have hce := Lib.bytesWorld_cell w 5 ⟨r.toArray⟩
      have hol := Lib.bytesWorld_at_old w 5 ⟨r.toArray⟩
      have hsz := Lib.bytesWorld_size w 5 ⟨r.toArray⟩
      have hbw : Below w.heap.size w (Lib.bytesWorld w 5 ⟨r.toArray⟩) := ⟨rfl, rfl, rfl, by rw [hsz]; omega, hol⟩
      rw [hr6] at hcv hce
      obtain ⟨W, hW⟩ : ∃ W, Lib.bytesWorld w 5 ⟨r.toArray⟩ = W := ⟨_, rfl⟩
      rw [hW] at hcv hce hbw
      obtain ⟨CC, hCC⟩ : ∃ CC, grownCap w 6 0 5 = CC := ⟨_, rfl⟩
      rw [hCC] at hcv
      have HC : Hid (∀ j, j < 6 → W.cell? ⟨w.heap.size, j, none⟩ = some (.int .u8 ((r.getD j 0).toNat : Int))) := hce
      have HBW : Hid (Below w.heap.size w W) := hbw
      clear hp hl4 hr hrl hex hD hl hs hce hol hsz hbw hW hCC
      have q6 : ((r.length : Int) != 6) = false := by have := HL.out; simp; omega
      have q7 : (r.length : Int) = 6 := by have := HL.out; omega
      clear hrs hr6
      go_enter Tryz.func162, Tryz.ntmps162
      go_wp2_with (go_at_call 182; refine h1.mono ?_; rintro e w1 ⟨rfl, hw⟩; subst w1)
      clear h1 hcv
      go_loopw [5, 23] (fun sm i wr => Hid (wr = W) ∧ ∃ (k A : Nat), sm = .int .i64 A ∧ i = .int .i64 k ∧ k ≤ 6 ∧ Hid (A < 10 ^ k) ∧ Hid ((digs A (r.drop k)).getD 0 = D)) (fun _ i _ => 6 - (intOf i).toNat)
      case atStart => exact ⟨rfl, 0, 0, rfl, rfl, by omega, by show 0 < 10 ^ 0; decide, HD⟩
      case round =>
        obtain ⟨HW, k, A, rfl, rfl, hk, HA, HG⟩ := hrel
        obtain rfl : W = wr := HW.out.symm
        by_cases hlt : k < 6
        · have hc := HC.out k hlt
          have hdr : r.drop k = r.getD k 0 :: r.drop (k + 1) := by
            have := HL.out
            rw [List.drop_eq_getElem_cons (by omega)]
            congr 1
            simp [List.getD_eq_getElem?_getD, this.symm ▸ hlt]
          generalize r.getD k 0 = cc at hc hdr
          obtain ⟨v, hv⟩ : ∃ v, cc.toNat = v := ⟨_, rfl⟩
          have hv256 : v < 256 := by have := cc.toNat_lt; omega
          rw [hv] at hc
          have HG2 := HG.out
          rw [hdr, digs, hv] at HG2
          have hA6 : A < 1000000 := Nat.lt_of_lt_of_le HA.out (show 10 ^ k ≤ 10 ^ 6 from Nat.pow_le_pow_right (by omega) (by omega))
          by_cases hbad : v < 48 ∨ 57 < v
          · rw [if_pos hbad] at HG2
            obtain rfl : 0 = D := HG2
            by_cases hb1 : v < 48
            · have q1 : decide ((v : Int) < 48) = true := by simp; omega
              clear HG hdr hbad hb1
              go_wp2
              go_ret
              exact ⟨rfl, HBW.out⟩
            · have q1 : decide ((v : Int) < 48) = false := by simp; omega
              have q2 : decide ((57 : Int) < (v : Int)) = true := by simp; omega
              clear HG hdr hbad hb1
              go_wp2
              go_ret
              exact ⟨rfl, HBW.out⟩
          · rw [if_neg hbad] at HG2
            have q1 : decide ((v : Int) < 48) = false := by simp; omega
            have q2 : decide ((57 : Int) < (v : Int)) = false := by simp; omega
            obtain ⟨A', hA'⟩ : ∃ A', A * 10 + (v - 48) = A' := ⟨_, rfl⟩
            rw [hA'] at HG2
            have HN : Hid ((digs A' (r.drop (k + 1))).getD 0 = D) := HG2
            have HA3 : Hid (A' < 10 ^ (k + 1)) := by
              show _ < _
              have := HA.out
              rw [Nat.pow_succ]
              omega
            obtain ⟨V, hV⟩ : ∃ V, v - 48 = V := ⟨_, rfl⟩
            obtain ⟨Te, hTe⟩ : ∃ Te, A * 10 = Te := ⟨_, rfl⟩
            have e1 : (v : Int) - 48 = (V : Int) := by omega
            have e2 : (A : Int) * 10 = (Te : Int) := by omega
            have e3 : (Te : Int) + (V : Int) = (A' : Int) := by omega
            have b1 : (V : Int) ≤ 9 := by omega
            have b2 : (Te : Int) ≤ 10000000 := by omega
            have b3 : (A' : Int) ≤ 100000000 := by omega
            clear HG HG2 hdr hA' hbad hV hTe
            go_wp2
            go_roundw
            case rel => first | exact ⟨True.intro, k + 1, A', rfl, rfl, by omega, HA3, HN⟩ | exact ⟨rfl, k + 1, A', rfl, rfl, by omega, HA3, HN⟩
            case measure => simp [intOf]; omega
        · have hk6 : k = 6 := by omega
          subst hk6
          have HG2 := HG.out
          rw [List.drop_of_length_le (by have := HL.out; omega), digs] at HG2
          obtain rfl : A = D := HG2
          clear HG
          go_wp2
          go_ret
          exact ⟨rfl, HBW.out⟩
    · rw [if_neg (fun q => hl (by omega))]
      have q6 : ((r.length : Int) != 6) = true := by simp; omega
      clear hp hl4 hr hrl hex hl hs hrs
      go_enter Tryz.func162, Tryz.ntmps162
      go_wp2_with (go_at_call 182; refine h1.mono ?_; rintro e w1 ⟨rfl, hw⟩; subst w1)
      go_ret
      exact ⟨rfl, Below.refl _ _⟩
  · rw [if_neg hp, decide_eq_false hp] at h1
    rw [if_neg (fun q => hp q.1)]
    clear hp
    go_enter Tryz.func162, Tryz.ntmps162
    go_wp2_with (go_at_call 182; refine h1.mono ?_; rintro e w1 ⟨rfl, hw⟩; subst w1)
    go_ret
    exact ⟨rfl, Below.refl _ _⟩
end Go.Proofs.YtkbmblmnhhlicaaGreatDoor
