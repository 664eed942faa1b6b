/- EscapeNumbers: of every number and every text behind it, a number between its signs is its character, in base ten and in base sixteen; no condition. -/
import Derived.Test.YtebnobhalffalaaPlainNum
import Derived.ProofKit
import Derived.OpenShut
import Derived.ShutString
import Derived.ChangeOld
import Derived.Below
import Derived.JoinedCond
import Derived.SizedLaws
set_option linter.unusedVariables false
namespace Go.Proofs.Ytebnobhalffalaa.escapeNumbers
open Go.ChangeShapes Go.WideShapes Go.ChangeAt Go.RowKit
open Go.ChangeMaps (open_string shut_string)

theorem own : ownKnob Try.prog.godebug = none := by kernel_rfl

def strLenV : Value → Nat
  | .string b => b.size
  | _ => 0

set_option maxHeartbeats 2000000 in
set_option maxRecDepth 100000 in
theorem walk_from (x : Int) (hx0 : 0 ≤ x) (hx1 : x < 10000000) (a0 : Int) (hc : (0 ≤ a0 ∧ a0.tmod 10000000 = x) ∨ (a0 < 0 ∧ -9223372036854775808 ≤ a0 ∧ (-(a0 + 1)).tmod 10000000 = x)) (s : ByteArray) (w : World) (hs : s.size ≤ 140737488351232) :
    Calls Try.prog 7 #[.int .i64 a0, .string s] w fun e w' => e = .returned (.bool true) ∧ Below w.heap.size w w' := by
  obtain ⟨E, HE⟩ : ∃ E : ByteArray, Hid (ByteArray.mk (enc (charN x.toNat)).toArray = E) := ⟨_, rfl⟩
  have hEe : E.toList.isEmpty = false := by
    rw [← HE.out, empty_mk]
    have := (enc_len (charN x.toNat)).1
    cases h : enc (charN x.toNat) with
    | nil => rw [h] at this; simp at this
    | cons a t => rfl
  have H10 : Hid (x.toNat < 10 ^ 7) := by
    show _ < _
    have h3 : (10000000 : Nat) ≤ 10 ^ 7 := by decide
    omega
  have H16 : Hid (x.toNat < 16 ^ 6) := by
    show _ < _
    have h3 : (10000000 : Nat) ≤ 16 ^ 6 := by decide
    omega
  have hbig : decide ((16777216 : Int) ≤ x) = false := by simp; omega
  rcases hc with ⟨hc0, hc1⟩ | ⟨hc0, hc2, hc1⟩
  all_goals
    go_enter Try.func7, Try.ntmps7
    go_wp2_with (go_at_call 9; refine (shown_any _).mono ?_)
    rintro e w1 ⟨rfl, hb1⟩
    go_wp2
    go_loopw [6, 7] (fun t k wr => ∃ (kn : Nat) (ds : List UInt8), t = .string ⟨ds.toArray⟩ ∧ k = .int .i64 (kn : Int) ∧ Below w.heap.size w wr ∧ ds.length ≤ 7 ∧ Hid (Digits 10 7 x.toNat kn ds)) (fun t _ _ => 7 - strLenV t)
    case atStart => exact ⟨x.toNat, [], rfl, by rw [Int.toNat_of_nonneg hx0], hb1, by simp, digits_start (by omega) H10.out⟩
    case round =>
      obtain ⟨kn, ds, rfl, rfl, hbw, hdl, HD⟩ := hrel
      clear hb1
      by_cases hk : 0 < kn
      · have hroom := digits_room HD.out (.inl hk)
        have HD' : Hid (Digits 10 7 x.toNat (kn / 10) (UInt8.ofNat (48 + kn % 10) :: ds)) := digits_more HD.out (by omega) (digV_ten _ (Nat.mod_lt _ (by omega))) hroom
        have hdn : (UInt8.ofNat (48 + kn % 10)).toNat = 48 + kn % 10 := by rw [UInt8.toNat_ofNat']; omega
        have hkI : (0 : Int) < (kn : Int) := by omega
        have hkb : (kn : Int) ≤ 16777216 := by
          have h1 := HD.out.left
          have h2 : 10 ^ (7 - ds.length) ≤ 10 ^ 7 := Nat.pow_le_pow_right (by omega) (by omega)
          have h3 : (10 : Nat) ^ 7 ≤ 16777216 := by decide
          omega
        obtain ⟨y, hy1⟩ : ∃ y : Int, (kn : Int) % 10 = y := ⟨_, rfl⟩
        have hy2 : (kn : Int).tmod 10 = y := by rw [Int.tmod_eq_emod_of_nonneg (by omega)]; exact hy1
        have y0 : 0 ≤ y := by omega
        have y1 : y < 10 := by omega
        obtain ⟨q, hq1⟩ : ∃ q : Int, (kn : Int) / 10 = q := ⟨_, rfl⟩
        have hq2 : (kn : Int).tdiv 10 = q := by rw [Int.tdiv_eq_ediv_of_nonneg (by omega)]; exact hq1
        have q0 : 0 ≤ q := by omega
        have q1 : q ≤ 16777216 := by omega
        have HQ : Hid (q = ((kn / 10 : Nat) : Int)) := by show _ = _; omega
        have hcl := conv_lit wr [UInt8.ofNat (48 + kn % 10)] #[.int .u8 (48 + y)] 1 rfl (by rw [byteCells_one, hdn, show ((48 + kn % 10 : Nat) : Int) = 48 + y by omega])
        have hbl := hbw.alloc hbw.size (.cells #[.int .u8 (48 + y)] 5)
        clear hdn
        generalize UInt8.ofNat (48 + kn % 10) = d at *
        clear HD
        go_wp2
        go_roundw
        case rel => exact ⟨kn / 10, d :: ds, by show _ = Value.string ⟨([d] ++ ds).toArray⟩; rw [← cat_eq], by rw [← HQ.out], hbl, by rw [List.length_cons]; omega, HD'⟩
        case measure => simp [strLenV, size_list] <;> omega
      have hk0 : kn = 0 := by omega
      subst hk0
      clear hk
      by_cases hne : ds = []
      · subst hne
        have HD' : Hid (Digits 10 7 x.toNat 0 [48]) := digits_more (d := 48) HD.out (by omega) (by decide) (by simp)
        have hcl := conv_lit wr [48] #[.int .u8 48] 1 rfl rfl
        have hbl := hbw.alloc hbw.size (.cells #[.int .u8 48] 5)
        clear HD
        go_wp2
        go_roundw
        case rel => exact ⟨0, [48], congrArg Value.string (cat_eq [48] []), rfl, hbl, by simp, HD'⟩
        case measure => simp [strLenV, size_list]
      have hemp : ds.isEmpty = false := by simpa using hne
      obtain ⟨T, hT⟩ : ∃ T : ByteArray, ByteArray.mk #[38, 35] ++ ByteArray.mk ds.toArray ++ ByteArray.mk #[59] ++ s = T := ⟨_, rfl⟩
      have hTd : T.data.toList = [38, 35] ++ (ds ++ 59 :: s.data.toList) := by rw [← hT]; simp
      have hTs : T.size ≤ 140737488355328 := by rw [← len_data, hTd]; simp; omega
      have hen := fun w' => entity_any T hTs w'
      rw [hTd, entity_ten HD.out hne] at hen
      dsimp only at hen
      rw [HE.out, ← hT] at hen
      clear hTs hTd hT HD hne
      go_wp2_with (go_at_call 14; refine (hen _).mono ?_; rintro e w' ⟨rfl, rfl⟩)
      clear hen hemp
      go_loopw [11, 12] (fun t k wr => ∃ (kn : Nat) (ds : List UInt8), t = .string ⟨ds.toArray⟩ ∧ k = .int .i64 (kn : Int) ∧ Below w.heap.size w wr ∧ ds.length ≤ 6 ∧ Hid (Digits 16 6 x.toNat kn ds)) (fun t _ _ => 6 - strLenV t)
      case atStart => exact ⟨x.toNat, [], rfl, by rw [Int.toNat_of_nonneg hx0], hbw, by simp, digits_start (by omega) H16.out⟩
      case round =>
        obtain ⟨kn, ds, rfl, rfl, hbx, hdl, HD⟩ := hrel
        clear hbw
        by_cases hk : 0 < kn
        · have hroom := digits_room HD.out (.inl hk)
          have hm16 : kn % 16 < 16 := Nat.mod_lt _ (by omega)
          have HD' : Hid (Digits 16 6 x.toNat (kn / 16) (lows.getD (kn % 16) 0 :: ds)) := digits_more HD.out (by omega) (digV_low ⟨kn % 16, hm16⟩) hroom
          have hkI : (0 : Int) < (kn : Int) := by omega
          have hkb : (kn : Int) ≤ 16777216 := by
            have h1 := HD.out.left
            have h2 : 16 ^ (6 - ds.length) ≤ 16 ^ 6 := Nat.pow_le_pow_right (by omega) (by omega)
            have h3 : (16 : Nat) ^ 6 ≤ 16777216 := by decide
            omega
          obtain ⟨y, hy1⟩ : ∃ y : Int, (kn : Int) % 16 = y := ⟨_, rfl⟩
          have hy2 : (kn : Int).tmod 16 = y := by rw [Int.tmod_eq_emod_of_nonneg (by omega)]; exact hy1
          have y0 : 0 ≤ y := by omega
          have y1 : y < 16 := by omega
          have hy16 : y.toNat < 16 := by omega
          have hyn : y.toNat = kn % 16 := by omega
          obtain ⟨q, hq1⟩ : ∃ q : Int, (kn : Int) / 16 = q := ⟨_, rfl⟩
          have hq2 : (kn : Int).tdiv 16 = q := by rw [Int.tdiv_eq_ediv_of_nonneg (by omega)]; exact hq1
          have q0 : 0 ≤ q := by omega
          have q1 : q ≤ 16777216 := by omega
          have HQ : Hid (q = ((kn / 16 : Nat) : Int)) := by show _ = _; omega
          have hlo : (ByteArray.mk #[48, 49, 50, 51, 52, 53, 54, 55, 56, 57, 97, 98, 99, 100, 101, 102])[y.toNat]'hy16 = lows.getD (kn % 16) 0 := by
            rw [byte_at, hyn]; rfl
          have hcl := conv_lit wr [lows.getD (kn % 16) 0] #[.int .u8 (((ByteArray.mk #[48, 49, 50, 51, 52, 53, 54, 55, 56, 57, 97, 98, 99, 100, 101, 102])[y.toNat]'hy16).toNat : Int)] 1 rfl (by rw [hlo, byteCells_one])
          have hbl := hbx.alloc hbx.size (.cells #[.int .u8 (((ByteArray.mk #[48, 49, 50, 51, 52, 53, 54, 55, 56, 57, 97, 98, 99, 100, 101, 102])[y.toNat]'hy16).toNat : Int)] 5)
          generalize lows.getD (kn % 16) 0 = d at *
          clear hlo hyn hm16 HD
          go_wp2
          go_roundw
          case rel => exact ⟨kn / 16, d :: ds, by show _ = Value.string ⟨([d] ++ ds).toArray⟩; rw [← cat_eq], by rw [← HQ.out], hbl, by rw [List.length_cons]; omega, HD'⟩
          case measure => simp [strLenV, size_list] <;> omega
        have hk0 : kn = 0 := by omega
        subst hk0
        clear hk
        by_cases hne : ds = []
        · subst hne
          have HD' : Hid (Digits 16 6 x.toNat 0 [48]) := digits_more (d := 48) HD.out (by omega) (by decide) (by simp)
          have hcl := conv_lit wr [48] #[.int .u8 (((ByteArray.mk #[48, 49, 50, 51, 52, 53, 54, 55, 56, 57, 97, 98, 99, 100, 101, 102])[0]'(by decide)).toNat : Int)] 1 rfl rfl
          have hbl := hbx.alloc hbx.size (.cells #[.int .u8 (((ByteArray.mk #[48, 49, 50, 51, 52, 53, 54, 55, 56, 57, 97, 98, 99, 100, 101, 102])[0]'(by decide)).toNat : Int)] 5)
          clear HD
          go_wp2
          go_roundw
          case rel => exact ⟨0, [48], congrArg Value.string (cat_eq [48] []), rfl, hbl, by simp, HD'⟩
          case measure => simp [strLenV, size_list]
        · have hemp : ds.isEmpty = false := by simpa using hne
          obtain ⟨T, hT⟩ : ∃ T : ByteArray, ByteArray.mk #[38, 35, 120] ++ ByteArray.mk ds.toArray ++ ByteArray.mk #[59] ++ s = T := ⟨_, rfl⟩
          have hTd : T.data.toList = [38, 35, 120] ++ (ds ++ 59 :: s.data.toList) := by rw [← hT]; simp
          have hTs : T.size ≤ 140737488355328 := by rw [← len_data, hTd]; simp; omega
          have hen := fun w' => entity_any T hTs w'
          rw [hTd, entity_sixteen HD.out hne] at hen
          dsimp only at hen
          rw [HE.out, ← hT] at hen
          clear hTs hTd hT HD hne
          go_wp2_with (go_at_call 14; refine (hen _).mono ?_; rintro e w' ⟨rfl, rfl⟩)
          go_ret
          exact ⟨rfl, hbx⟩

theorem walk (a0 : Int) (w0 : (Lit.int .i64 a0).wf = true) (s : ByteArray) (w : World) (hs : s.size ≤ 140737488351232) :
    Calls Try.prog 7 #[.int .i64 a0, .string s] w fun e w' => e = .returned (.bool true) ∧ Below w.heap.size w w' := by
  obtain ⟨l0, u0⟩ := bounds_i64 w0
  by_cases h : 0 ≤ a0
  · exact walk_from (a0 % 10000000) (by omega) (by omega) a0 (.inl ⟨h, Int.tmod_eq_emod_of_nonneg h⟩) s w hs
  · exact walk_from ((-(a0 + 1)) % 10000000) (by omega) (by omega) a0 (.inr ⟨by omega, l0, Int.tmod_eq_emod_of_nonneg (by omega)⟩) s w hs

set_option maxRecDepth 100000 in
theorem lifted (os : Os) (started : os.Started) (H : Type) (enc : TypeId × Value → H) :
    ReturnsInHanded {} Try.checked os 7 .any (Rows.escapeNumbersSpec.pre6 enc Try.prog Try.f7 Rows.escapeNumbersRow.domain false) (Rows.escapeNumbersSpec.post enc Try.prog Try.f7 false true false false) := by
  refine returnsInHanded_of_change_sized (C := Try.checked) own started (by kernel_rfl) Try.func7
    (ChangeSpec.witness6 (enc := enc) (C := Try.checked) false ⟨#[], #[.int .i64 0, .string ⟨#[]⟩], []⟩ 8 (by kernel_rfl) (by kernel_rfl) (by kernel_rfl) (by kernel_rfl)) ?_
  intro W base args ds gs before hval0 hW hcnd hsz0 _
  have hsz1 : (DataW.weightsEach Try.prog (Try.f7.params.toList ++ []) (ds ++ gs)).all (· ≤ reachBytes) = true := hsz0
  clear hsz0
  have hval : ∀ (j : Nat) t v, Try.f7.params[j]? = some t → args[j]? = some v → Value.okWide Try.prog W .any base t v := hval0
  have hW' := hW
  obtain ⟨p, q, hA0, hV, rfl, hfz, hnd⟩ := hW
  have hA : DataW.TrodAll enc Try.prog W 0 (fun _ => true) true Try.f7.params.toList args.toList ds p := hA0
  rw [Try.params7] at hA hval hsz1
  obtain ⟨v0, vs0, d0, ds0, p0, q0, hargs, rfl, rfl, h0, r0⟩ := trodAll_cons hA
  obtain ⟨v1, vs1, d1, ds1, p1, q1, rfl, rfl, rfl, h1, r1⟩ := trodAll_cons r0
  obtain ⟨rfl, rfl, rfl⟩ := trodAll_nil r1
  obtain rfl : args = #[v0, v1] := by cases args; simp_all
  obtain ⟨rfl, rfl⟩ := trodVars_none hV
  obtain ⟨a0, rfl, rfl, rfl, w0⟩ := open_int Try.underlying3 (hval 0 3 v0 rfl rfl) h0
  obtain ⟨s, rfl, rfl, rfl, ws⟩ := open_string Try.underlying9 (hval 1 9 v1 rfl rfl) h1
  have hsz : s.size ≤ 140737488351232 := by have := sized_string hsz1 (j := 1) (t := 9) (bytes := s.data.toList) rfl rfl; rwa [len_data] at this
  clear hA0 hval0 hsz1
  simp only [List.append_nil] at hW'
  refine (walk a0 w0 s W hsz).mono fun e W' ⟨he, bel⟩ => ?_
  subst he
  exact ⟨_, rfl, _, _, _, [], _, [], hW', trodAll_mk1 (shut_bool Try.underlying4 _), (trodAll_cons_mk (shut_int Try.underlying3 w0) (trodAll_cons_mk (shut_string Try.underlying9 ws) trodAll_mk0)), rfl, bel.frame _, fun h => by cases h⟩

theorem over : Rows.escapeNumbersRow.holds Try.pinned (OpenSpec.ofChange Rows.escapeNumbersSpec) :=
  OpenClaim.holds_of_wide 7 Try.f7 rfl rfl rfl rfl rfl rfl rfl ⟨rfl, rfl, rfl, rfl, rfl⟩ rfl rfl rfl rfl rfl (by kernel_rfl) Try.func7 (by kernel_rfl)
    (of_decide_eq_true (by kernel_rfl)) (by unfold Func.isWrapper; first | (rw [if_pos (by decide +kernel)]; kernel_rfl) | (rw [if_neg (by decide +kernel)]; exact ⟨rfl, rfl⟩))
    (fun os started H enc _ => lifted os started H enc)

theorem proved : Rows.EscapeNumbersSaid :=
  over
#print axioms proved
end Go.Proofs.Ytebnobhalffalaa.escapeNumbers
