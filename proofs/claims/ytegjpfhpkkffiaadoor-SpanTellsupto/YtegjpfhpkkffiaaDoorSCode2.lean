/- Code in package span, walked: accents, codeText, Code. -/
import Derived.Test.YtegjpfhpkkffiaaDoorSCode
set_option linter.unusedVariables false
namespace Go.Proofs.YtegjpfhpkkffiaaDoor
open Go.RowKit

theorem ML.below {w w' : World} (h : ML w) (h0 : 0 < w.heap.size) (hb : Below w.heap.size w w') : ML w' := by
  obtain ⟨m, hm⟩ := h
  exact ⟨m, (hb.cell (p := ⟨0, 0, none⟩) h0).trans hm⟩
theorem ML.pos {w : World} (h : ML w) : 0 < w.heap.size := by
  obtain ⟨m, hm⟩ := h
  rcases Nat.eq_zero_or_pos w.heap.size with h0 | h0
  · exfalso
    have : w.heap[0]? = none := by simp [h0]
    simp [World.cell?, this] at hm
  · exact h0
theorem ML.go {w w' : World} (h : ML w) (hb : Below w.heap.size w w') : ML w' := h.below h.pos hb

theorem accents_any (s : ByteArray) (hs : s.size ≤ 9223372036854775000) (l : List UInt8) (hl : Suf s l) (z : Int) (hz : z = (pos s l : Int)) (w : World) :
    Calls Tryd.prog 20 #[.string s, .int .i64 z] w fun e w' => e = .returned (.int .i64 (runL l : Int)) ∧ w' = w := by
  subst hz
  have hrow := (show Hid _ from fun w => row_any accent_kind s hs l hl w)
  have hle : (pos s (l.dropWhile (· == 96)) : Int) = (pos s l : Int) + (runL l : Int) := by
    have h1 := hl.sum
    have h2 := (hl.dw (· == 96)).sum
    have h3 := run_le l
    rw [run_dw] at h2 ⊢
    rw [List.length_drop] at h2
    omega
  have hb := pos_le s (l.dropWhile (· == 96))
  have HL := (show Hid _ from hle)
  have hlo : (pos s l : Int) ≤ (pos s (l.dropWhile (· == 96)) : Int) := by omega
  clear hle
  go_enter Tryd.func20, Tryd.ntmps20
  go_wp2_with (go_at_call 42; refine (hrow.out _).mono ?_; rintro e w' ⟨rfl, rfl⟩)
  go_ret
  exact ⟨ret_int (by have := HL.out; omega), rfl⟩

set_option maxHeartbeats 2000000 in
theorem codeText_any (s : ByteArray) (hs : s.size < 4294967281) (w : World) (hm : ML w) :
    Calls Tryd.prog 21 #[.string s] w fun e w' => e = .returned (.string ⟨(innerL s.data.toList).toArray⟩) ∧ Below w.heap.size w w' := by
  obtain ⟨M, hM⟩ : ∃ M : ByteArray, M = ⟨(s.data.toList.map feed).toArray⟩ := ⟨_, rfl⟩
  have hMd : M.data.toList = s.data.toList.map feed := by rw [hM]
  have hMs : M.size = s.size := by rw [← len_data M, hMd, List.length_map, len_data]
  have HR : Hid (Calls Tryd.prog 44 #[.string s, .string ⟨#[10]⟩, .string ⟨#[32]⟩] w fun e w' => e = .returned (.string M) ∧ Below w.heap.size w w') := by
    obtain ⟨m, hm⟩ := hm
    have hc := Lib.countB_le ⟨#[10]⟩ (by decide) s.size s (Nat.le_refl _)
    have := Tryd.strings_ReplaceAll s ⟨#[10]⟩ ⟨#[32]⟩ m w hs hm (by decide) (by
      have h1 : (ByteArray.mk #[32]).size = 1 := rfl
      rw [h1, Nat.mul_one]
      omega)
    rw [show Lib.replaceAll s.data.toList (ByteArray.mk #[10]).data.toList (ByteArray.mk #[32]).data.toList = s.data.toList.map feed from rep_all _, ← hM] at this
    exact this
  obtain ⟨p, hp⟩ : ∃ b, [32].isPrefixOf (s.data.toList.map feed) = b := ⟨_, rfl⟩
  obtain ⟨q, hq⟩ : ∃ b, [32].isSuffixOf (s.data.toList.map feed) = b := ⟨_, rfl⟩
  obtain ⟨x, hx⟩ : ∃ x : ByteArray, x = ⟨(Lib.trimB M.data.toList 32).toArray⟩ := ⟨_, rfl⟩
  have hxl : x.toList = Lib.trimB M.data.toList 32 := by rw [ByteArray.toList_eq, hx]
  have hxe : x.toList.isEmpty = (s.data.toList.map feed).all (· == 32) := by rw [hxl, hMd]; exact trim_empty _
  have HP := (show Hid _ from fun w => pre_any M ⟨#[32]⟩ p (by rw [hMd]; exact hp) w)
  have HQ : Hid (∀ w, Calls Tryd.prog 45 #[.string M, .string ⟨#[32]⟩] w fun e w' => e = .returned (.bool q) ∧ w' = w) := fun w => by
    refine (Tryd.strings_HasSuffix M ⟨#[32]⟩ w (by omega)).mono ?_
    rintro e w' ⟨rfl, rfl⟩
    exact ⟨ret_bool (by rw [hMd]; exact hq), rfl⟩
  have HT : Hid (∀ w, Calls Tryd.prog 46 #[.string M, .string ⟨#[32]⟩] w fun e w' => e = .returned (.string x) ∧ ∃ n, w' = w.drewN n) := fun w => by
    refine (Tryd.strings_Trim_one M 32 (by decide) w (by omega)).mono ?_
    rintro e w' ⟨rfl, rfl | rfl⟩
    · exact ⟨by rw [hx], 0, rfl⟩
    · exact ⟨by rw [hx], 1, rfl⟩
  clear hx hxl hm
  cases p
  · have HE : Hid (innerL s.data.toList = M.data.toList) := by show _ = _; rw [hMd]; exact inner_keep _ (.inl hp)
    clear hp hq hxe hMd hM
    go_enter Tryd.func21, Tryd.ntmps21
    go_wp2_with (first
      | (go_at_call 44; refine HR.out.mono ?_; rintro e w1 ⟨rfl, hb1⟩)
      | (go_at_call 37; refine (HP.out _).mono ?_; rintro e w2 ⟨rfl, hw⟩; subst w2))
    go_ret
    exact ⟨ret_str (by rw [HE.out, mk_data]), hb1⟩
  · cases q
    · have HE : Hid (innerL s.data.toList = M.data.toList) := by show _ = _; rw [hMd]; exact inner_keep _ (.inr (.inl hq))
      clear hp hq hxe hMd hM
      go_enter Tryd.func21, Tryd.ntmps21
      go_wp2_with (first
        | (go_at_call 44; refine HR.out.mono ?_; rintro e w1 ⟨rfl, hb1⟩)
        | (go_at_call 37; refine (HP.out _).mono ?_; rintro e w2 ⟨rfl, hw⟩; subst w2)
        | (go_at_call 45; refine (HQ.out _).mono ?_; rintro e w2 ⟨rfl, hw⟩; subst w2))
      go_ret
      exact ⟨ret_str (by rw [HE.out, mk_data]), hb1⟩
    · cases ha : (s.data.toList.map feed).all (· == 32)
      · obtain ⟨h1, h2⟩ := inner_cut _ hp hq ha
        rw [ha] at hxe
        have h3 : 1 < M.size := by rw [← len_data, hMd]; exact h2
        have HE : Hid (M.extract 1 (M.size - 1) = ⟨(innerL s.data.toList).toArray⟩) := by
          show _ = _
          rw [extract_eq, h1, hMd]
          have : M.size - 1 - 1 = ((s.data.toList.map feed).drop 1).length - 1 := by rw [List.length_drop, ← hMd, len_data]
          rw [this, List.dropLast_eq_take]
        have h4 : (1 : Int) < (M.size : Int) := by omega
        clear hp hq hMd hM h1 h2 ha
        go_enter Tryd.func21, Tryd.ntmps21
        go_wp2_with (first
          | (go_at_call 44; refine HR.out.mono ?_; rintro e w1 ⟨rfl, hb1⟩)
          | (go_at_call 37; refine (HP.out _).mono ?_; rintro e w2 ⟨rfl, hw⟩; subst w2)
          | (go_at_call 45; refine (HQ.out _).mono ?_; rintro e w2 ⟨rfl, hw⟩; subst w2)
          | (go_at_call 46; refine (HT.out _).mono ?_; rintro e w2 ⟨rfl, n, hw⟩; subst w2))
        go_ret
        exact ⟨ret_str (by rw [← hMs]; exact HE.out), hb1.trans ⟨rfl, rfl, rfl, Nat.le_refl _, fun k hk => rfl⟩⟩
      · rw [ha] at hxe
        have HE : Hid (innerL s.data.toList = M.data.toList) := by show _ = _; rw [hMd]; exact inner_keep _ (.inr (.inr ha))
        clear hp hq hMd hM ha
        go_enter Tryd.func21, Tryd.ntmps21
        go_wp2_with (first
          | (go_at_call 44; refine HR.out.mono ?_; rintro e w1 ⟨rfl, hb1⟩)
          | (go_at_call 37; refine (HP.out _).mono ?_; rintro e w2 ⟨rfl, hw⟩; subst w2)
          | (go_at_call 45; refine (HQ.out _).mono ?_; rintro e w2 ⟨rfl, hw⟩; subst w2)
          | (go_at_call 46; refine (HT.out _).mono ?_; rintro e w2 ⟨rfl, n, hw⟩; subst w2))
        go_ret
        exact ⟨ret_str (by rw [HE.out, mk_data]), hb1.trans ⟨rfl, rfl, rfl, Nat.le_refl _, fun k hk => rfl⟩⟩

/-- What Code tells. -/
def codeV (o : Option (List UInt8 × Nat)) : Value := match o with
  | none => .tuple #[.string ⟨#[]⟩, .int .i64 0]
  | some (a, n) => .tuple #[.string ⟨a.toArray⟩, .int .i64 (n : Int)]

set_option maxHeartbeats 4000000 in
/-- Code, of a text that is not too long for the library's search. -/
theorem code_any (s : ByteArray) (hs : s.size < 4294967281) (w : World) (hm : ML w) :
    Calls Tryd.prog 10 #[.string s] w fun e w' => e = .returned (codeV (codeL s.data.toList)) ∧ Below w.heap.size w w' := by
  obtain ⟨L, hL⟩ : ∃ L, s.data.toList = L := ⟨_, rfl⟩
  have hsL : Suf s L := by rw [← hL]; exact Suf.whole s
  have h0 : (0 : Int) = (pos s L : Int) := by rw [← hL, pos_whole]; rfl
  obtain ⟨k, hk⟩ : ∃ k, k = runL L := ⟨_, rfl⟩
  have hac0 : Hid (∀ w, Calls Tryd.prog 20 #[.string s, .int .i64 0] w fun e w' => e = .returned (.int .i64 (k : Int)) ∧ w' = w) := fun w => by rw [hk]; exact accents_any s (by omega) L hsL 0 h0 w
  rw [hL]
  have hkl := run_le L
  rw [← hk] at hkl
  have hll : L.length = s.size := by rw [← hL, len_data]
  rcases Nat.eq_zero_or_pos k with hk0 | hk0
  · have HC : Hid (codeL L = none) := by show _ = _; unfold codeL; rw [if_pos (by omega)]
    clear hk h0
    subst hk0
    go_enter Tryd.func10, Tryd.ntmps10
    go_wp2_with (go_at_call 20; refine (hac0.out _).mono ?_; rintro e w1 ⟨rfl, hw⟩; subst w1)
    go_ret2
    exact ⟨by rw [HC.out]; rfl, Below.refl _ _⟩
  · obtain ⟨R, hR⟩ : ∃ R, R = L.drop k := ⟨_, rfl⟩
    have hsR : Suf s R := by rw [hR]; exact hsL.drop k
    have hRl : R.length + k = s.size := by rw [hR, List.length_drop]; omega
    have hpR : pos s R = k := by have := hsR.sum; omega
    have HC : Hid (codeL L = match scanC k 0 R with | none => none | some m => some (innerL (R.take (m - k)), k + m)) := by
      show _ = _
      unfold codeL
      rw [if_neg (by omega), ← hk, ← hR]
      rfl
    have hne : ((k : Int) == 0) = false := by rw [beq_eq_false_iff_ne]; omega
    have hne2 : ¬ (k : Int) = 0 := by omega
    have HRL := (show Hid _ from hRl)
    have HPR := (show Hid _ from hpR)
    clear hk h0 hR hL hll hkl hRl hpR
    have hle : (k : Int) ≤ s.size := by have := HRL.out; omega
    go_enter Tryd.func10, Tryd.ntmps10
    go_wp2_with (go_at_call 20; refine (hac0.out _).mono ?_; rintro e w1 ⟨rfl, hw⟩; subst w1)
    go_loop [5] (fun A => ∃ l' : List UInt8, A = .int .i64 (pos s l' : Int) ∧ Hid (Suf s l') ∧ Hid (l'.length ≤ R.length ∧ scanC k 0 R = (scanC k 0 l').map (· + (R.length - l'.length)))) (fun A => s.size - (intOf A).toNat)
    case atStart => exact ⟨R, by rw [HPR.out], hsR, Nat.le_refl _, by simp⟩
    case round =>
      obtain ⟨l', rfl, h1, h2⟩ := hrel
      cases hl' : l' with
      | nil =>
        subst hl'
        have hp : pos s [] = s.size := pos_nil s
        have HE : Hid (codeL L = none) := by
          show _ = _
          have h3 : scanC k 0 [] = none := by simp only [scanC]; rw [if_neg (by omega)]
          rw [HC.out, h2.out.2, h3]
          rfl
        go_wp2
        go_ret2
        exact ⟨by rw [HE.out]; rfl, Below.refl _ _⟩
      | cons b t =>
        rw [← hl']
        have hnil : l' ≠ [] := by rw [hl']; simp
        have hlt : pos s l' < s.size := by have := h1.out; rw [hl'] at this ⊢; exact this.lt
        have hrl := run_le l'
        have hsum := h1.out.sum
        have HS := (show Hid _ from scan_step k hk0 l')
        obtain ⟨r, hr⟩ : ∃ r, r = runL l' := ⟨_, rfl⟩
        rw [← hr] at hrl HS
        have hac : Hid (∀ w, Calls Tryd.prog 20 #[.string s, .int .i64 (pos s l' : Int)] w fun e w' => e = .returned (.int .i64 (r : Int)) ∧ w' = w) := fun w => by rw [hr]; exact accents_any s (by omega) l' h1.out _ rfl w
        have hb : (pos s l' : Int) + (r : Int) ≤ (s.size : Int) := by omega
        clear hr hl'
        by_cases hrk : r = k
        · subst hrk
          have hkp : (r : Int) ≤ (pos s l' : Int) := by have := HRL.out; have := h2.out.1; omega
          have hpp : r = pos s R := HPR.out.symm
          obtain ⟨T, hT⟩ : ∃ T, T = s.extract r (pos s l') := ⟨_, rfl⟩
          have hTe : T = ⟨(R.take (R.length - l'.length)).toArray⟩ := by
            rw [hT]
            conv => lhs; rw [hpp]
            exact hsR.between h1.out
          have hTs : T.size ≤ s.size := by rw [hT, ByteArray.size_extract]; omega
          obtain ⟨X, hX⟩ : ∃ X : ByteArray, X = ⟨(innerL T.data.toList).toArray⟩ := ⟨_, rfl⟩
          have hct : Hid (Calls Tryd.prog 21 #[.string (s.extract r (pos s l'))] w fun e w' => e = .returned (.string X) ∧ Below w.heap.size w w') := by rw [hX, ← hT]; exact codeText_any T (by omega) w hm
          have HX := (show Hid _ from hX)
          have HE : Hid (codeL L = some (innerL T.data.toList, pos s l' + r)) := by
            show _ = _
            rw [HC.out, h2.out.2, HS.out, if_pos rfl, hTe]
            simp only [Option.map_some]
            have h3 := HRL.out
            have h4 := h2.out.1
            rw [show r + (R.length - l'.length) - r = R.length - l'.length by omega, show r + (r + (R.length - l'.length)) = pos s l' + r by omega]
          clear hTe hpp hTs hX hT
          go_wp2_with (first
            | (go_at_call 20; refine (hac.out _).mono ?_; rintro e w1 ⟨rfl, hw⟩; subst w1)
            | (go_at_call 21; refine hct.out.mono ?_; rintro e w1 ⟨rfl, hb1⟩))
          go_ret2
          exact ⟨by rw [HE.out, HX.out]; rfl, hb1⟩
        · have t1 : ¬ (r : Int) = (k : Int) := by omega
          have t2 : ((r : Int) == (k : Int)) = false := by rw [beq_eq_false_iff_ne]; exact t1
          have HS2 : Hid (scanC k 0 R = (scanC k 0 (l'.drop (max r 1))).map (· + (R.length - (l'.drop (max r 1)).length)) ∧ (l'.drop (max r 1)).length ≤ R.length ∧ pos s (l'.drop (max r 1)) = pos s l' + max r 1) := by
            have h3 := h2.out.1
            have hm1 : max r 1 ≤ l'.length := by
              have : 0 < l'.length := List.length_pos_iff.2 hnil
              omega
            refine ⟨?_, by rw [List.length_drop]; omega, by unfold pos; rw [List.length_drop]; omega⟩
            rw [h2.out.2, HS.out, if_neg hrk, if_neg hnil, Option.map_map]
            congr 1
            funext x
            simp only [Function.comp_apply, List.length_drop]
            omega
          clear hrk HS
          rcases Nat.eq_zero_or_pos r with h0 | h0
          · subst h0
            go_wp2_with (go_at_call 20; refine (hac.out _).mono ?_; rintro e w1 ⟨rfl, hw⟩; subst w1)
            go_round
            case rel =>
              refine ⟨l'.drop (max 0 1), ?_, h1.out.drop _, HS2.out.2.1, HS2.out.1⟩
              rw [HS2.out.2.2]
              go_num
            case measure => simp [intOf]; omega
          · have t3 : (1 : Int) ≤ (r : Int) := by omega
            go_wp2_with (go_at_call 20; refine (hac.out _).mono ?_; rintro e w1 ⟨rfl, hw⟩; subst w1)
            all_goals
              go_round
              case rel =>
                refine ⟨l'.drop (max r 1), ?_, h1.out.drop _, HS2.out.2.1, HS2.out.1⟩
                rw [HS2.out.2.2]
                first | go_num | (congr 1; omega)
              case measure => simp [intOf]; omega

end Go.Proofs.YtegjpfhpkkffiaaDoor
