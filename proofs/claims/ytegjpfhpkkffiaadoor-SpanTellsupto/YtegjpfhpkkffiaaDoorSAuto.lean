/- Links in package span, walked: all, place, part, mail, Auto. -/
import Derived.Test.YtegjpfhpkkffiaaDoorSAutoP
import Derived.Test.YtegjpfhpkkffiaaDoorSCode2
set_option linter.unusedVariables false
namespace Go.Proofs.YtegjpfhpkkffiaaDoor
open Go.RowKit

theorem all_any {g : Nat} {p : UInt8 → Bool} (hk : Kind g p) (s : ByteArray) (hs : s.size ≤ 9223372036854775000) (b : Bool) (hb : s.data.toList.all p = b) (w : World) :
    Calls Tryd.prog 48 #[.string s, .func (.func g) #[] #[]] w fun e w' => e = .returned (.bool b) ∧ w' = w := by
  have h0 : (pos s s.data.toList : Int) = 0 := by rw [pos_whole]; rfl
  have hrow : Hid (∀ w, Calls Tryd.prog 42 #[.string s, .int .i64 0, .func (.func g) #[] #[]] w fun e w' => e = .returned (.int .i64 (pos s (s.data.toList.dropWhile p) : Int)) ∧ w' = w) := fun w => by
    have := row_any hk s hs _ (Suf.whole s) w
    rwa [h0] at this
  have HB : Hid (b = ((s.data.toList.dropWhile p).isEmpty)) := by rw [dw_nil]; exact hb.symm
  have HS : Hid (Suf s (s.data.toList.dropWhile p)) := (Suf.whole s).dw p
  clear hb h0
  go_enter Tryd.func48, Tryd.ntmps48
  go_wp2_with (go_at_call 42; refine (hrow.out _).mono ?_; rintro e w1 ⟨rfl, hw⟩; subst w1)
  go_ret
  refine ⟨ret_bool ?_, rfl⟩
  rw [HB.out]
  have h1 := HS.out.sum
  cases hd : s.data.toList.dropWhile p with
  | nil => simp [pos_nil]
  | cons a t =>
    rw [hd] at h1
    simp only [List.length_cons] at h1
    rw [Bool.eq_iff_iff]
    simp
    omega

theorem idx_first {c : UInt8} {h : List UInt8} (hh : c ∉ h) (v : List UInt8) : Lib.indexByte (h ++ c :: v) c = (h.length : Int) := by
  induction h with
  | nil => simp [Lib.indexByte]
  | cons b t ih =>
    simp only [List.mem_cons, not_or] at hh
    rw [List.cons_append]
    unfold Lib.indexByte
    rw [ih hh.2, if_neg (by simpa using fun e => hh.1 e.symm), if_neg (by simp)]
    simp

theorem index_at (s : ByteArray) (c : UInt8) (y : Int) (hy : y = (c.toNat : Int)) (z : Int) (hz : Lib.indexByte s.data.toList c = z) (w : World) :
    Calls Tryd.prog 25 #[.string s, .int .u8 y] w fun e w' => e = .returned (.int .i64 z) ∧ w' = w := by
  subst hy
  have := indexByte_any s c.toNat w
  rw [back8, hz] at this
  exact this

theorem ext_head {s : ByteArray} {h r : List UInt8} (e : s.data.toList = h ++ r) : s.extract 0 h.length = ⟨h.toArray⟩ := by
  rw [extract_eq, e]
  simp
theorem ext_tail {s : ByteArray} {h r : List UInt8} {c : UInt8} (e : s.data.toList = h ++ c :: r) : s.extract (h.length + 1) s.size = ⟨r.toArray⟩ := by
  rw [extract_end, e]
  have : h ++ c :: r = (h ++ [c]) ++ r := by simp
  rw [this, List.drop_left' (by simp)]

set_option maxHeartbeats 4000000 in
theorem place_any (s : ByteArray) (hs : s.size ≤ 9223372036854775000) (w : World) :
    Calls Tryd.prog 26 #[.string s] w fun e w' => e = .returned (.bool (placeP s.data.toList)) ∧ w' = w := by
  have hlen := len_data s
  rcases part_first 58 s.data.toList with hn | ⟨h, v, hu, hh⟩
  · have HI := (show Hid _ from fun w => index_at s 58 58 rfl (-1) (idx_neg _ _ hn) w)
    have HE := (show Hid _ from placeP_no hn)
    go_enter Tryd.func26, Tryd.ntmps26
    go_wp2_with (go_at_call 25; refine (HI.out _).mono ?_; rintro e w1 ⟨rfl, hw⟩; subst w1)
    go_ret
    exact ⟨ret_bool (by rw [HE.out]), rfl⟩
  · have HI := (show Hid _ from fun w => index_at s 58 58 rfl (h.length : Int) (by rw [hu]; exact idx_first hh v) w)
    have HE : Hid (placeP s.data.toList = placeQ h v) := by rw [hu]; exact placeP_of hh
    have hsz : h.length + 1 + v.length = s.size := by rw [← hlen, hu]; simp; omega
    have h1 := ext_head hu
    have h2 := ext_tail hu
    have hb1 : (h.length : Int) + 1 ≤ (s.size : Int) := by omega
    have HS1 : Hid (∀ b, h.all schC = b → ∀ w, Calls Tryd.prog 48 #[.string (s.extract 0 h.length), .func (.func 49) #[] #[]] w fun e w' => e = .returned (.bool b) ∧ w' = w) := fun b hb w => by rw [h1]; exact all_any scheme_kind _ (by rw [size_list]; omega) b (by rw [list_data]; exact hb) w
    have HS2 : Hid (∀ b, v.all linkC = b → ∀ w, Calls Tryd.prog 48 #[.string (s.extract (h.length + 1) s.size), .func (.func 50) #[] #[]] w fun e w' => e = .returned (.bool b) ∧ w' = w) := fun b hb w => by rw [h2]; exact all_any place_kind _ (by rw [size_list]; omega) b (by rw [list_data]; exact hb) w
    clear h1 h2
    have hc : h.length < 2 ∨ 32 < h.length ∨ (2 ≤ h.length ∧ h.length ≤ 32) := by omega
    rcases hc with hc | hc | ⟨hc, hc'⟩
    · have HF : Hid (placeQ h v = false) := by show _ = _; unfold placeQ; rw [decide_eq_false (by omega)]; rfl
      have t1 : (h.length : Int) < 2 := by omega
      clear hu
      go_enter Tryd.func26, Tryd.ntmps26
      go_wp2_with (go_at_call 25; refine (HI.out _).mono ?_; rintro e w1 ⟨rfl, hw⟩; subst w1)
      go_ret
      exact ⟨ret_bool (by rw [HE.out, HF.out]), rfl⟩
    · have HF : Hid (placeQ h v = false) := by show _ = _; unfold placeQ; rw [decide_eq_false (p := h.length ≤ 32) (by omega)]; simp
      have t1 : ¬ (h.length : Int) < 2 := by omega
      have t2 : (32 : Int) < (h.length : Int) := by omega
      clear hu
      go_enter Tryd.func26, Tryd.ntmps26
      go_wp2_with (go_at_call 25; refine (HI.out _).mono ?_; rintro e w1 ⟨rfl, hw⟩; subst w1)
      go_ret
      exact ⟨ret_bool (by rw [HE.out, HF.out]), rfl⟩
    · have t1 : ¬ (h.length : Int) < 2 := by omega
      have t2 : ¬ (32 : Int) < (h.length : Int) := by omega
      have t1' : decide ((h.length : Int) < 2) = false := by simpa using t1
      have t2' : decide ((32 : Int) < (h.length : Int)) = false := by simpa using t2
      obtain ⟨c, hhd, hb0⟩ : ∃ c, headLet h = letN c.toNat ∧ s.data.toList.getD 0 0 = c := by
        cases h with
        | nil => simp at hc
        | cons c g => exact ⟨c, rfl, by rw [hu]; rfl⟩
      have h0s : 0 < s.size := by omega
      have hb : s[0] = c := by rw [byte_at s 0 h0s]; exact hb0
      have HQ : Hid (placeQ h v = (letN c.toNat && h.all schC && v.all linkC)) := by
        show _ = _
        unfold placeQ
        rw [decide_eq_true hc, decide_eq_true hc', hhd]
        rfl
      clear hu hb0 hhd
      cases hlet : letN c.toNat
      · go_enter Tryd.func26, Tryd.ntmps26
        go_wp2_with (first
          | (go_at_call 25; refine (HI.out _).mono ?_; rintro e w1 ⟨rfl, hw⟩; subst w1)
          | (go_at_call 39; refine (letter_any _ _).mono ?_; rintro e w1 ⟨rfl, hw⟩; subst w1))
        go_ret
        exact ⟨ret_bool (by rw [HE.out, HQ.out, hlet]; rfl), rfl⟩
      · cases hsch : h.all schC
        · have HS1 := (show Hid _ from HS1.out _ hsch)
          go_enter Tryd.func26, Tryd.ntmps26
          go_wp2_with (first
            | (go_at_call 25; refine (HI.out _).mono ?_; rintro e w1 ⟨rfl, hw⟩; subst w1)
            | (go_at_call 39; refine (letter_any _ _).mono ?_; rintro e w1 ⟨rfl, hw⟩; subst w1)
            | (go_at_call 48; refine (HS1.out _).mono ?_; rintro e w1 ⟨rfl, hw⟩; subst w1))
          go_ret
          exact ⟨ret_bool (by rw [HE.out, HQ.out, hlet, hsch]; rfl), rfl⟩
        · have HS1 := (show Hid _ from HS1.out _ hsch)
          obtain ⟨b2, hb2⟩ : ∃ b, v.all linkC = b := ⟨_, rfl⟩
          have HS2 := (show Hid _ from HS2.out _ hb2)
          have HB2 := (show Hid _ from hb2)
          clear hb2
          go_enter Tryd.func26, Tryd.ntmps26
          go_wp2_with (first
            | (go_at_call 25; refine (HI.out _).mono ?_; rintro e w1 ⟨rfl, hw⟩; subst w1)
            | (go_at_call 39; refine (letter_any _ _).mono ?_; rintro e w1 ⟨rfl, hw⟩; subst w1)
            | (go_at_call_of 48 (Value.string (s.extract 0 h.length)); refine (HS1.out _).mono ?_; rintro e w1 ⟨rfl, hw⟩; subst w1)
            | (go_at_call 48; refine (HS2.out _).mono ?_; rintro e w1 ⟨rfl, hw⟩; subst w1))
          go_ret
          exact ⟨ret_bool (by rw [HE.out, HQ.out, hlet, hsch, HB2.out]; rfl), rfl⟩

theorem last_byte (s : ByteArray) (h : 0 < s.size) : s.data.toList.getLast? = some (s[s.size - 1]'(by omega)) := by
  rw [List.getLast?_eq_getElem?, len_data, List.getElem?_eq_getElem (by rw [len_data]; omega)]
  rfl
theorem first_byte (s : ByteArray) (h : 0 < s.size) : s.data.toList.head? = some (s[0]'h) := by
  rw [List.head?_eq_getElem?, List.getElem?_eq_getElem (by rw [len_data]; omega)]
  rfl

set_option maxHeartbeats 4000000 in
theorem part_any (s : ByteArray) (hs : s.size ≤ 9223372036854775000) (w : World) :
    Calls Tryd.prog 53 #[.string s] w fun e w' => e = .returned (.bool (partP s.data.toList)) ∧ w' = w := by
  have hlen := len_data s
  rcases Nat.eq_zero_or_pos s.size with h0 | h0
  · have HF : Hid (partP s.data.toList = false) := by
      have : s.data.toList = [] := List.eq_nil_of_length_eq_zero (by omega)
      rw [this]; rfl
    have t1 : (s.size : Int) < 1 := by omega
    go_enter Tryd.func53, Tryd.ntmps53
    go_wp2
    go_ret
    exact ⟨ret_bool (by rw [HF.out]), rfl⟩
  · have t1 : ¬ (s.size : Int) < 1 := by omega
    have hfi := first_byte s h0
    have hla := last_byte s h0
    have hne : s.data.toList.isEmpty = false := by
      cases hd : s.data.toList with
      | nil => rw [hd] at hlen; simp at hlen; omega
      | cons a t => rfl
    by_cases h63 : 63 < s.size
    · have HF : Hid (partP s.data.toList = false) := by
        show _ = _
        unfold partP partOk
        rw [decide_eq_false (p := s.data.toList.length ≤ 63) (by omega)]
        simp
      have t2 : (63 : Int) < (s.size : Int) := by omega
      clear hfi hla hne
      go_enter Tryd.func53, Tryd.ntmps53
      go_wp2
      go_ret
      exact ⟨ret_bool (by rw [HF.out]), rfl⟩
    · have t2 : ¬ (63 : Int) < (s.size : Int) := by omega
      have t1' : decide ((s.size : Int) < 1) = false := by simpa using t1
      have t2' : decide ((63 : Int) < (s.size : Int)) = false := by simpa using t2
      obtain ⟨a, ha⟩ : ∃ a, s[0]'h0 = a := ⟨_, rfl⟩
      obtain ⟨z, hz⟩ : ∃ z, s[s.size - 1]'(by omega) = z := ⟨_, rfl⟩
      have HQ : Hid (partP s.data.toList = (!decide (a.toNat = 45) && !decide (z.toNat = 45) && s.data.toList.all nameC)) := by
        show _ = _
        unfold partP partOk
        rw [hne, decide_eq_true (p := s.data.toList.length ≤ 63) (by omega), hfi, hla, ha, hz]
        have e1 := eqN a 45 (by omega)
        have e2 := eqN z 45 (by omega)
        rw [← e1, ← e2]
        rfl
      obtain ⟨b2, hb2⟩ : ∃ b, s.data.toList.all nameC = b := ⟨_, rfl⟩
      have HA := (show Hid _ from fun w => all_any part_kind s hs b2 hb2 w)
      rw [hb2] at HQ
      clear hb2
      clear hfi hla hne
      by_cases ha45 : a.toNat = 45
      · have t3 : (a.toNat : Int) = 45 := by omega
        go_enter Tryd.func53, Tryd.ntmps53
        go_wp2
        go_ret
        exact ⟨ret_bool (by rw [HQ.out, decide_eq_true ha45]; rfl), rfl⟩
      · have t3 : ¬ (a.toNat : Int) = 45 := by omega
        have t3' : ((a.toNat : Int) == 45) = false := by rw [beq_eq_false_iff_ne]; exact t3
        by_cases hz45 : z.toNat = 45
        · have t4 : (z.toNat : Int) = 45 := by omega
          go_enter Tryd.func53, Tryd.ntmps53
          go_wp2
          go_ret
          exact ⟨ret_bool (by rw [HQ.out, decide_eq_true hz45]; simp), rfl⟩
        · have t4 : ¬ (z.toNat : Int) = 45 := by omega
          have t4' : ((z.toNat : Int) == 45) = false := by rw [beq_eq_false_iff_ne]; exact t4
          go_enter Tryd.func53, Tryd.ntmps53
          go_wp2_with (go_at_call 48; refine (HA.out _).mono ?_; rintro e w1 ⟨rfl, hw⟩; subst w1)
          go_ret
          exact ⟨ret_bool (by rw [HQ.out, decide_eq_false ha45, decide_eq_false hz45]; rfl), rfl⟩

theorem splits {s : ByteArray} : ((Lib.splitB ⟨#[46]⟩ 0 (Lib.countB s ⟨#[46]⟩) s).map (·.data.toList)) = splitD s.data.toList := by
  rw [Lib.splitB_data]
  refine split_all _ _ ?_
  show _ ≤ Lib.count s.data.toList [46]
  rw [Lib.count_one]
  exact Nat.le_refl _

theorem split_sizes : ∀ (k : Nat) (s : ByteArray), ∀ x ∈ Lib.splitB ⟨#[46]⟩ 0 k s, x.size ≤ s.size
  | 0, s, x, h => by
    simp only [Lib.splitB, List.mem_cons, List.not_mem_nil, or_false] at h
    rw [h]; exact Nat.le_refl _
  | k + 1, s, x, h => by
    simp only [Lib.splitB] at h
    split at h
    · simp only [List.mem_cons, List.not_mem_nil, or_false] at h
      rw [h]; exact Nat.le_refl _
    · rcases List.mem_cons.1 h with h | h
      · rw [h, ByteArray.size_extract]; omega
      · have := split_sizes k _ x h
        rw [ByteArray.size_extract] at this
        omega

set_option maxHeartbeats 4000000 in
theorem mail_any (s : ByteArray) (hs : s.size < 4294967281) (w : World) (hm : ML w) :
    Calls Tryd.prog 27 #[.string s] w fun e w' => e = .returned (.bool (mailP s.data.toList)) ∧ Below w.heap.size w w' := by
  have hlen := len_data s
  rcases part_first 64 s.data.toList with hn | ⟨h, v, hu, hh⟩
  · have HI := (show Hid _ from fun w => index_at s 64 64 rfl (-1) (idx_neg _ _ hn) w)
    have HE := (show Hid _ from mailP_no hn)
    go_enter Tryd.func27, Tryd.ntmps27
    go_wp2_with (go_at_call 25; refine (HI.out _).mono ?_; rintro e w1 ⟨rfl, hw⟩; subst w1)
    go_ret
    exact ⟨ret_bool (by rw [HE.out]), Below.refl _ _⟩
  · have HI := (show Hid _ from fun w => index_at s 64 64 rfl (h.length : Int) (by rw [hu]; exact idx_first hh v) w)
    have HE : Hid (mailP s.data.toList = (!h.isEmpty && h.all mailC && (splitD v).all partP)) := by rw [hu]; exact mailP_of hh
    have hsz : h.length + 1 + v.length = s.size := by rw [← hlen, hu]; simp; omega
    have h1 := ext_head hu
    have h2 := ext_tail hu
    have hb1 : (h.length : Int) + 1 ≤ (s.size : Int) := by omega
    rcases Nat.eq_zero_or_pos h.length with h0 | h0
    · have hh0 : h = [] := List.eq_nil_of_length_eq_zero h0
      subst hh0
      have t1 : ((0 : Nat) : Int) < 1 := by omega
      go_enter Tryd.func27, Tryd.ntmps27
      go_wp2_with (go_at_call 25; refine (HI.out _).mono ?_; rintro e w1 ⟨rfl, hw⟩; subst w1)
      go_ret
      exact ⟨ret_bool (by rw [HE.out]; rfl), Below.refl _ _⟩
    · have hne : h.isEmpty = false := by
        cases h with
        | nil => simp at h0
        | cons a t => rfl
      have t1 : ¬ (h.length : Int) < 1 := by omega
      have t1' : decide ((h.length : Int) < 1) = false := by simpa using t1
      obtain ⟨b1, hb1'⟩ : ∃ b, h.all mailC = b := ⟨_, rfl⟩
      have HS1 : Hid (∀ w, Calls Tryd.prog 48 #[.string (s.extract 0 h.length), .func (.func 51) #[] #[]] w fun e w' => e = .returned (.bool b1) ∧ w' = w) := fun w => by rw [h1]; exact all_any mail_kind _ (by rw [size_list]; omega) b1 (by rw [list_data]; exact hb1') w
      rw [hne, hb1'] at HE
      clear hb1' hne
      cases b1
      · clear hs hsz hm h1 h2 hu hlen
        go_enter Tryd.func27, Tryd.ntmps27
        go_wp2_with (first
          | (go_at_call 25; refine (HI.out _).mono ?_; rintro e w1 ⟨rfl, hw⟩; subst w1)
          | (go_at_call 48; refine (HS1.out _).mono ?_; rintro e w1 ⟨rfl, hw⟩; subst w1))
        go_ret
        exact ⟨ret_bool (by rw [HE.out]; rfl), Below.refl _ _⟩
      · obtain ⟨V, hV⟩ : ∃ V : ByteArray, V = s.extract (h.length + 1) s.size := ⟨_, rfl⟩
        have hVd : V.data.toList = v := (congrArg (fun x : ByteArray => x.data.toList) (hV.trans h2)).trans (list_data v)
        have hVs : V.size ≤ s.size := by rw [hV, ByteArray.size_extract]; omega
        obtain ⟨P, hP⟩ : ∃ P, P = Lib.splitB ⟨#[46]⟩ 0 (Lib.countB V ⟨#[46]⟩) V := ⟨_, rfl⟩
        have hPm : P.map (·.data.toList) = splitD v := by rw [hP, splits, hVd]
        have hPl : P.length = Lib.countB V ⟨#[46]⟩ + 1 := by rw [hP]; exact Lib.splitB_all ⟨#[46]⟩ (by decide) 0 _ V rfl
        have hPs : ∀ x ∈ P, x.size ≤ s.size := fun x hx => Nat.le_trans (split_sizes _ _ x (hP ▸ hx)) hVs
        have hPc : P.length ≤ s.size + 1 := by have := Lib.countB_le ⟨#[46]⟩ (by decide) V.size V (Nat.le_refl _); omega
        have HSP : Hid (∀ w, ML w → Calls Tryd.prog 52 #[.string (s.extract (h.length + 1) s.size), .string ⟨#[46]⟩] w fun e w' => e = .returned (.slice (some ⟨w.heap.size, 0, none⟩) P.length P.length) ∧ w' = w.alloc (.cells (P.map Value.string).toArray 9)) := fun w ⟨m, hm⟩ => by
          rw [← hV, hPl, hP]
          exact Tryd.strings_Split V ⟨#[46]⟩ m w (Nat.lt_of_le_of_lt hVs hs) hm (by decide)
        rw [← hPm] at HE
        have HPS := (show Hid _ from hPs)
        clear hV hVd hVs hPm hP hPl hPs h1 h2 hu
        go_enter Tryd.func27, Tryd.ntmps27
        go_wp2_with (first
          | (go_at_call 25; refine (HI.out _).mono ?_; rintro e w1 ⟨rfl, hw⟩; subst w1)
          | (go_at_call 48; refine (HS1.out _).mono ?_; rintro e w1 ⟨rfl, hw⟩; subst w1)
          | (go_at_call 52; refine (HSP.out _ hm).mono ?_; rintro e w1 ⟨rfl, hw⟩; subst w1))
        obtain ⟨O, hO⟩ : ∃ O, O = Obj.cells (P.map Value.string).toArray 9 := ⟨_, rfl⟩
        have HO := (show Hid _ from hO)
        rw [← hO]
        clear hO HSP HI HS1
        go_loop [23] (fun I => ∃ k : Nat, I = .int .i64 (k : Int) ∧ k ≤ P.length ∧ Hid (∀ x ∈ P.take k, partP x.data.toList = true)) (fun I => P.length - (intOf I).toNat)
        case atStart => exact ⟨0, rfl, Nat.zero_le _, fun x hx => by simp at hx⟩
        case round =>
          obtain ⟨k, rfl, hk, hok⟩ := hrel
          by_cases hlt : k < P.length
          · obtain ⟨x, hx⟩ : ∃ x, P[k] = x := ⟨_, rfl⟩
            have hxm : x ∈ P := hx ▸ List.getElem_mem hlt
            have hcell : (w.alloc O).cell? ⟨w.heap.size, k, none⟩ = some (.string x) := by
              have := lit_cells w (P.map Value.string) 9 k (.string x) (by rw [List.getElem?_map, List.getElem?_eq_getElem hlt, hx]; rfl)
              rw [← HO.out] at this
              have hadd : (⟨w.heap.size, 0, none⟩ : Addr).add k = ⟨w.heap.size, k, none⟩ := by unfold Addr.add; split <;> simp_all
              rwa [hadd] at this
            have hpt := (show Hid _ from fun w => part_any x (by have := HPS.out x hxm; omega) w)
            have g1 : (k : Int) < (P.length : Int) := by omega
            have HX := (show Hid _ from hx)
            clear hx
            cases hpx : partP x.data.toList
            · go_wp2_with (go_at_call 53; refine (hpt.out _).mono ?_; rintro e w1 ⟨rfl, hw⟩; subst w1)
              go_ret
              refine ⟨ret_bool ?_, (Below.refl _ _).alloc (Nat.le_refl _) _⟩
              rw [HE.out]
              simp only [Bool.not_false, Bool.true_and]
              symm
              rw [Bool.eq_false_iff]
              intro h
              have := List.all_eq_true.1 h _ (List.mem_map_of_mem hxm)
              rw [hpx] at this
              cases this
            · go_wp2_with (go_at_call 53; refine (hpt.out _).mono ?_; rintro e w1 ⟨rfl, hw⟩; subst w1)
              go_round
              case rel =>
                refine ⟨k + 1, by go_num, by omega, fun y hy => ?_⟩
                rw [List.take_succ_eq_append_getElem hlt, List.mem_append] at hy
                rcases hy with hy | hy
                · exact hok.out y hy
                · simp only [List.mem_cons, List.not_mem_nil, or_false] at hy
                  rw [hy, HX.out]; exact hpx
              case measure => simp [intOf]; omega
          · go_wp2
            go_ret
            refine ⟨ret_bool ?_, (Below.refl _ _).alloc (Nat.le_refl _) _⟩
            rw [HE.out]
            simp only [Bool.not_false, Bool.true_and]
            symm
            rw [List.all_eq_true]
            intro y hy
            obtain ⟨x, hx, rfl⟩ := List.mem_map.1 hy
            exact hok.out x (by rw [List.take_of_length_le (by omega)]; exact hx)

end Go.Proofs.YtegjpfhpkkffiaaDoor
