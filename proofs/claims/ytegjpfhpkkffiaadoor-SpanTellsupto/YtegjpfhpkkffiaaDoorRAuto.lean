/- The document's answer for span: Auto, walked. -/
import Derived.Test.YtegjpfhpkkffiaaDoorRMail2
import Derived.Test.YtegjpfhpkkffiaaDoorSAuto2
set_option linter.unusedVariables false
namespace Go.Proofs.YtegjpfhpkkffiaaDoor
open Go.RowKit

/-! ### A scheme, place by place -/

/-- How far a scheme has been gone over. -/
def SchAt (u l : List UInt8) : Prop := l = u ∨ ∃ c r, u = c :: r ∧ letN c.toNat = true ∧ l.length ≤ r.length ∧ l.dropWhile schC = r.dropWhile schC

section
variable {U : ByteArray} {u l : List UInt8}
theorem sch_whole (hU : U.data.toList = u) (hl : Suf U l) : pos U l = 0 ↔ l = u := by
  have h1 := hl.sum
  have h2 : u.length = U.size := by rw [← hU, len_data]
  constructor
  · intro h
    exact hl.same (by rw [← hU]; exact Suf.whole U) (by omega)
  · intro h
    rw [h] at h1 ⊢
    omega

theorem sch_row {c : UInt8} (h1 : letN c.toNat = false) (h2 : digN c.toNat = false) : ([43, 46, 45] : List UInt8).elem c = schC c := by
  rw [sch_mem]
  unfold ldN
  rw [h1, h2, ← eqN c 43 (by omega), ← eqN c 46 (by omega), ← eqN c 45 (by omega), Bool.eq_iff_iff]
  simp
  exact ⟨fun h => by rcases h with h | h | h <;> simp [h], fun h => by rcases h with (h | h) | h <;> simp [h]⟩
theorem sch_dig {c : UInt8} (h : digN c.toNat = true) : schC c = true := by
  rw [sch_mem]
  unfold ldN
  rw [h]
  simp
theorem sch_letC {c : UInt8} (h : letN c.toNat = true) : schC c = true := by
  rw [sch_mem]
  unfold ldN
  rw [h]
  simp

theorem sch_next {c : UInt8} {v : List UInt8} (hU : U.data.toList = u) (hp : pos U u = 0) (hl : Suf U (c :: v)) (h : SchAt u (c :: v)) (h0 : ¬ pos U (c :: v) = 0) (hc : schC c = true) : SchAt u v := by
  rcases h with h | ⟨d, r, e1, e2, e3, e4⟩
  · exact absurd ((sch_whole hU hl).2 h) h0
  · refine .inr ⟨d, r, e1, e2, by simp at e3; omega, ?_⟩
    rw [← e4, List.dropWhile_cons, if_pos hc]
theorem sch_let {c : UInt8} {v : List UInt8} (hU : U.data.toList = u) (hp : pos U u = 0) (hl : Suf U (c :: v)) (h : SchAt u (c :: v)) (hc : letN c.toNat = true) : SchAt u v := by
  rcases h with h | ⟨d, r, e1, e2, e3, e4⟩
  · exact .inr ⟨c, v, h.symm, hc, Nat.le_refl _, rfl⟩
  · refine .inr ⟨d, r, e1, e2, by simp at e3; omega, ?_⟩
    rw [← e4, List.dropWhile_cons, if_pos (sch_letC hc)]

theorem sch_stop (hU : U.data.toList = u) (hp : pos U u = 0) (hl : Suf U l) (h : SchAt u l) (hs : l = [] ∨ ∃ c v, l = c :: v ∧ ((pos U l = 0 ∧ letN c.toNat = false) ∨ (¬ pos U l = 0 ∧ schC c = false))) : schK u = pos U l := by
  have h1 := hl.sum
  have h2 : u.length = U.size := by rw [← hU, len_data]
  rcases h with h | ⟨d, r, e1, e2, e3, e4⟩
  · have hz := (sch_whole hU hl).2 h
    rw [hz]
    rcases hs with h3 | ⟨c, v, h3, h4 | h4⟩
    · rw [← h, h3]; rfl
    · rw [← h, h3]
      show (if letN c.toNat = true then _ else 0) = 0
      rw [h4.2]; rfl
    · exact absurd hz h4.1
  · have hd : l.dropWhile schC = l := by
      rcases hs with h3 | ⟨c, v, h3, h4 | h4⟩
      · rw [h3]; rfl
      · exfalso
        have := (sch_whole hU hl).1 h4.1
        rw [this, e1, List.length_cons] at e3
        omega
      · rw [h3, List.dropWhile_cons, h4.2]; rfl
    rw [hd] at e4
    rw [e1]
    show (if letN d.toNat = true then 1 + (r.takeWhile schC).length else 0) = _
    rw [e2, if_pos rfl]
    have h5 := congrArg List.length (List.takeWhile_append_dropWhile (p := schC) (l := r))
    rw [List.length_append, ← e4] at h5
    rw [e1] at h2
    simp at h2
    omega

theorem sch_at (hU : U.data.toList = u) (hl : Suf U l) (hk : schK u = pos U l) : schOk u = (decide (2 ≤ pos U l) && decide (pos U l ≤ 32) && (l.head? == some 58)) := by
  unfold schOk
  rw [hk, ← hU, hl.at]
end

theorem auto_linkV {U : ByteArray} {u : List UInt8} (h : U.data.toList = u) {i : Int} (hi : i + 1 = ((u.length + 2 : Nat) : Int)) : Ending.returned (.tuple #[.string U, .string U, .int .i64 (i + 1)]) = .returned (autoV (some (u, u, u.length + 2))) := by
  have e : U = ⟨u.toArray⟩ := by rw [← h, mk_data]
  rw [hi, e]
  rfl
theorem auto_mailV {U : ByteArray} {u : List UInt8} (h : U.data.toList = u) {i : Int} (hi : i + 1 = ((u.length + 2 : Nat) : Int)) : Ending.returned (.tuple #[.string (ByteArray.mk #[109, 97, 105, 108, 116, 111, 58] ++ U), .string U, .int .i64 (i + 1)]) = .returned (autoV (some ([109, 97, 105, 108, 116, 111, 58] ++ u, u, u.length + 2))) := by
  have e : U = ⟨u.toArray⟩ := by rw [← h, mk_data]
  have e2 : ByteArray.mk #[109, 97, 105, 108, 116, 111, 58] ++ ByteArray.mk u.toArray = ⟨([109, 97, 105, 108, 116, 111, 58] ++ u).toArray⟩ := cat_eq [109, 97, 105, 108, 116, 111, 58] u
  rw [hi, e, e2]
  rfl

theorem link_cases (c : UInt8) : (linkC c = true ∧ 32 < c.toNat ∧ c.toNat ≠ 127 ∧ c.toNat ≠ 60 ∧ c.toNat ≠ 62) ∨ (linkC c = false ∧ (c.toNat ≤ 32 ∨ (32 < c.toNat ∧ (c.toNat = 127 ∨ c.toNat = 60 ∨ c.toNat = 62)))) := by
  rw [link_mem]
  by_cases h1 : 32 < c.toNat
  · by_cases h2 : c.toNat = 127
    · right; simp [h2]
    · by_cases h3 : c.toNat = 60
      · right; simp [h3]
      · by_cases h4 : c.toNat = 62
        · right; simp [h4]
        · left; simp [h1, h2, h3, h4]
  · right; simp [h1]; omega

set_option maxHeartbeats 16000000 in
set_option maxRecDepth 8000 in
theorem rauto_open (s : ByteArray) (hs : s.size ≤ 9223372036854770000) (t0 : List UInt8) (hl : s.data.toList = 60 :: t0) (w : World) :
    Calls Tryd.prog 13 #[.string s] w fun e w' => e = .returned (autoV (autoL (60 :: t0))) ∧ w' = w := by
  have hz : 0 < s.size := by rw [← len_data, hl]; simp
  have he : s.toList.isEmpty = false := by rw [ByteArray.toList_eq, hl]; rfl
  have hb0 : s[0] = 60 := by have := (Suf.head hl).byte (by rw [pos_of (p := []) hl]; exact hz); simpa [pos_of (p := []) hl] using this
  have HS0 : Hid (Suf s t0) := ⟨[60], hl⟩
  have HP1 : Hid (pos s t0 = 1) := pos_of (p := [60]) hl
  have HSL : Hid (s.data.toList = 60 :: t0) := hl
  clear hl
  go_enter Tryd.func13, Tryd.ntmps13
  go_wp2
  go_loop [5] (fun A => ∃ l' : List UInt8, A = .int .i64 (pos s l' : Int) ∧ Hid (Suf s l') ∧ Hid (l'.dropWhile linkC = t0.dropWhile linkC)) (fun A => s.size - (intOf A).toNat)
  case atStart => exact ⟨t0, by rw [HP1.out]; rfl, HS0.out, rfl⟩
  case round =>
    obtain ⟨l', rfl, h1, h2⟩ := hrel
    cases l' with
    | nil =>
      have hp : pos s [] = s.size := pos_nil s
      have HE : Hid (autoL (60 :: t0) = none) := by
        show _ = _
        simp only [autoL, if_true]
        rw [← h2.out]
        rfl
      go_wp2
      go_ret3
      exact ⟨by rw [HE.out]; rfl, rfl⟩
    | cons c y =>
      have hlt := h1.out.lt
      have hb := h1.out.byte hlt
      have hle : (pos s (c :: y) : Int) + 1 ≤ (s.size : Int) := by omega
      have hsu := (show Hid _ from h1.out.succ)
      rcases link_cases c with ⟨y1, d1, d2, d3, d4⟩ | ⟨y1, hd⟩
      · have HY : Hid (linkC c = true) := y1
        have q1 : (32 : Int) < (c.toNat : Int) := by omega
        have q2 : ((c.toNat : Int) != 127) = true := by rw [bne_iff_ne]; omega
        have q3 : ((c.toNat : Int) != 60) = true := by rw [bne_iff_ne]; omega
        have q4 : ((c.toNat : Int) != 62) = true := by rw [bne_iff_ne]; omega
        clear y1
        go_wp2
        go_round
        case rel =>
          refine ⟨y, ?_, h1.out.tail, ?_⟩
          · rw [hsu.out]; go_num
          · show _ = _
            rw [← h2.out, List.dropWhile_cons, if_pos HY.out]
        case measure => simp [intOf]; omega

      have HDW : Hid (t0.dropWhile linkC = c :: y) := by show _ = _; rw [← h2.out, List.dropWhile_cons, if_neg (by rw [y1]; decide)]
      have nn : ¬ (pos s (c :: y) : Int) = (s.size : Int) := by omega
      have nnb : ((pos s (c :: y) : Int) == (s.size : Int)) = false := by rw [beq_eq_false_iff_ne]; exact nn
      clear y1 h2
      by_cases h62 : c.toNat = 62
      case neg =>
        have HE : Hid (autoL (60 :: t0) = none) := by
          show _ = _
          simp only [autoL, if_true]
          rw [HDW.out]
          show (if c = 62 then _ else none) = none
          rw [if_neg (by rintro rfl; exact h62 rfl)]
        have q6 : ((c.toNat : Int) != 62) = true := by rw [bne_iff_ne]; omega
        rcases hd with d1 | ⟨d1, d2 | d2 | d2⟩
        · have q1 : ¬ (32 : Int) < (c.toNat : Int) := by omega
          go_wp2
          go_ret3
          exact ⟨by rw [HE.out]; rfl, rfl⟩
        · have q1 : (32 : Int) < (c.toNat : Int) := by omega
          have q2 : ((c.toNat : Int) != 127) = false := by rw [d2]; rfl
          clear d2
          go_wp2
          go_ret3
          exact ⟨by rw [HE.out]; rfl, rfl⟩
        · have q1 : (32 : Int) < (c.toNat : Int) := by omega
          have q2 : ((c.toNat : Int) != 127) = true := by rw [bne_iff_ne]; omega
          have q3 : ((c.toNat : Int) != 60) = false := by rw [d2]; rfl
          clear d2
          go_wp2
          go_ret3
          exact ⟨by rw [HE.out]; rfl, rfl⟩
        · exact absurd d2 h62
      have q1 : (32 : Int) < (c.toNat : Int) := by omega
      have q2 : ((c.toNat : Int) != 127) = true := by rw [bne_iff_ne]; omega
      have q3 : ((c.toNat : Int) != 60) = true := by rw [bne_iff_ne]; omega
      have q4 : ((c.toNat : Int) != 62) = false := by rw [h62]; rfl
      obtain ⟨u, hu⟩ : ∃ u, u = t0.takeWhile linkC := ⟨_, rfl⟩
      have hsp : t0 = u ++ c :: y := by rw [hu, ← HDW.out, List.takeWhile_append_dropWhile]
      obtain ⟨U, hUd⟩ : ∃ U : ByteArray, U = s.extract 1 (pos s (c :: y)) := ⟨_, rfl⟩
      have hpc : pos s (c :: y) = u.length + 1 := by
        have := pos_of (s := s) (p := 60 :: u) (l := c :: y) (by rw [HSL.out, hsp]; rfl)
        rw [this]; rfl
      have HU : Hid (U.data.toList = u) := by
        show _ = _
        rw [hUd, hpc]
        have := ext_mid (s := s) (a := 60) (u := u) (r := c :: y) (by rw [HSL.out, hsp])
        rw [this]
      have HI : Hid ((pos s (c :: y) : Int) + 1 = ((u.length + 2 : Nat) : Int)) := by show _ = _; rw [hpc]; omega
      have HA : Hid (autoL (60 :: t0) = if schOk u = true then some (u, u, u.length + 2) else if mailL u = true then some ([109, 97, 105, 108, 116, 111, 58] ++ u, u, u.length + 2) else none) := by
        show _ = _
        simp only [autoL, if_true]
        rw [HDW.out, ← hu]
        show (if c = 62 then _ else none) = _
        rw [if_pos (UInt8.toNat_inj.1 h62)]
      have hUs : U.size ≤ s.size := by rw [hUd, ByteArray.size_extract]; omega
      have HMA : Hid (∀ w, Calls Tryd.prog 31 #[.string U] w fun e w' => e = .returned (.bool (mailL u)) ∧ w' = w) := fun w => by have := rmail_any U (by omega) w; rwa [HU.out] at this
      have HUW : Hid (Suf U u) := by have := Suf.whole U; rw [HU.out] at this; exact this
      have HPU : Hid (pos U u = 0) := by have := pos_whole U; rw [HU.out] at this; exact this
      have e1 : (1 : Int) ≤ (pos s (c :: y) : Int) := by omega
      have hX : s.extract 1 (pos s (c :: y)) = U := hUd.symm
      clear hpc hsp hu hUd h62 hd HDW
      go_wp2
      go_loop [7] (fun A => ∃ l2 : List UInt8, A = .int .i64 (pos U l2 : Int) ∧ Hid (Suf U l2) ∧ Hid (SchAt u l2)) (fun A => U.size - (intOf A).toNat)
      case atStart => exact ⟨u, by rw [HPU.out]; rfl, HUW.out, .inl rfl⟩
      case round =>
        obtain ⟨l2, rfl, k1, k2⟩ := hrel
        cases l2 with
        | nil =>
          have hp2 : pos U [] = U.size := pos_nil U
          have HK : Hid (schK u = pos U []) := sch_stop HU.out HPU.out k1.out k2.out (.inl rfl)
          have HSO : Hid (schOk u = false) := by
            show _ = _
            rw [sch_at HU.out k1.out HK.out]
            simp
          clear HK
          by_cases g2 : 2 ≤ U.size
          · have r2 : (2 : Int) ≤ (U.size : Int) := by omega
            by_cases g32 : U.size ≤ 32
            · have r32 : (U.size : Int) ≤ 32 := by omega
              cases hmm : mailL u
              · have HML : Hid (∀ w, Calls Tryd.prog 31 #[.string U] w fun e w' => e = .returned (.bool false) ∧ w' = w) := fun w => by have := HMA.out w; rwa [hmm] at this
                have HE : Hid (autoL (60 :: t0) = none) := by show _ = _; rw [HA.out, HSO.out, hmm]; rfl
                clear hmm
                go_wp2_with (first
                  | (go_at_call 28; refine (rletter_any _ _).mono ?_; rintro e w1 ⟨rfl, hw⟩; subst w1)
                  | (go_at_call 29; refine (rdigit_any _ _).mono ?_; rintro e w1 ⟨rfl, hw⟩; subst w1)
                  | (go_at_call 31; refine (HML.out _).mono ?_; rintro e w1 ⟨rfl, hw⟩; subst w1))
                go_ret3
                exact ⟨by rw [HE.out]; rfl, rfl⟩
              · have HML : Hid (∀ w, Calls Tryd.prog 31 #[.string U] w fun e w' => e = .returned (.bool true) ∧ w' = w) := fun w => by have := HMA.out w; rwa [hmm] at this
                have HE : Hid (autoL (60 :: t0) = some ([109, 97, 105, 108, 116, 111, 58] ++ u, u, u.length + 2)) := by show _ = _; rw [HA.out, HSO.out, hmm]; rfl
                clear hmm
                go_wp2_with (first
                  | (go_at_call 28; refine (rletter_any _ _).mono ?_; rintro e w1 ⟨rfl, hw⟩; subst w1)
                  | (go_at_call 29; refine (rdigit_any _ _).mono ?_; rintro e w1 ⟨rfl, hw⟩; subst w1)
                  | (go_at_call 31; refine (HML.out _).mono ?_; rintro e w1 ⟨rfl, hw⟩; subst w1))
                go_ret3
                exact ⟨by rw [HE.out]; exact auto_mailV HU.out HI.out, rfl⟩

            · have r32 : ¬ (U.size : Int) ≤ 32 := by omega
              cases hmm : mailL u
              · have HML : Hid (∀ w, Calls Tryd.prog 31 #[.string U] w fun e w' => e = .returned (.bool false) ∧ w' = w) := fun w => by have := HMA.out w; rwa [hmm] at this
                have HE : Hid (autoL (60 :: t0) = none) := by show _ = _; rw [HA.out, HSO.out, hmm]; rfl
                clear hmm
                go_wp2_with (first
                  | (go_at_call 28; refine (rletter_any _ _).mono ?_; rintro e w1 ⟨rfl, hw⟩; subst w1)
                  | (go_at_call 29; refine (rdigit_any _ _).mono ?_; rintro e w1 ⟨rfl, hw⟩; subst w1)
                  | (go_at_call 31; refine (HML.out _).mono ?_; rintro e w1 ⟨rfl, hw⟩; subst w1))
                go_ret3
                exact ⟨by rw [HE.out]; rfl, rfl⟩
              · have HML : Hid (∀ w, Calls Tryd.prog 31 #[.string U] w fun e w' => e = .returned (.bool true) ∧ w' = w) := fun w => by have := HMA.out w; rwa [hmm] at this
                have HE : Hid (autoL (60 :: t0) = some ([109, 97, 105, 108, 116, 111, 58] ++ u, u, u.length + 2)) := by show _ = _; rw [HA.out, HSO.out, hmm]; rfl
                clear hmm
                go_wp2_with (first
                  | (go_at_call 28; refine (rletter_any _ _).mono ?_; rintro e w1 ⟨rfl, hw⟩; subst w1)
                  | (go_at_call 29; refine (rdigit_any _ _).mono ?_; rintro e w1 ⟨rfl, hw⟩; subst w1)
                  | (go_at_call 31; refine (HML.out _).mono ?_; rintro e w1 ⟨rfl, hw⟩; subst w1))
                go_ret3
                exact ⟨by rw [HE.out]; exact auto_mailV HU.out HI.out, rfl⟩

          · have r2 : ¬ (2 : Int) ≤ (U.size : Int) := by omega
            cases hmm : mailL u
            · have HML : Hid (∀ w, Calls Tryd.prog 31 #[.string U] w fun e w' => e = .returned (.bool false) ∧ w' = w) := fun w => by have := HMA.out w; rwa [hmm] at this
              have HE : Hid (autoL (60 :: t0) = none) := by show _ = _; rw [HA.out, HSO.out, hmm]; rfl
              clear hmm
              go_wp2_with (first
                | (go_at_call 28; refine (rletter_any _ _).mono ?_; rintro e w1 ⟨rfl, hw⟩; subst w1)
                | (go_at_call 29; refine (rdigit_any _ _).mono ?_; rintro e w1 ⟨rfl, hw⟩; subst w1)
                | (go_at_call 31; refine (HML.out _).mono ?_; rintro e w1 ⟨rfl, hw⟩; subst w1))
              go_ret3
              exact ⟨by rw [HE.out]; rfl, rfl⟩
            · have HML : Hid (∀ w, Calls Tryd.prog 31 #[.string U] w fun e w' => e = .returned (.bool true) ∧ w' = w) := fun w => by have := HMA.out w; rwa [hmm] at this
              have HE : Hid (autoL (60 :: t0) = some ([109, 97, 105, 108, 116, 111, 58] ++ u, u, u.length + 2)) := by show _ = _; rw [HA.out, HSO.out, hmm]; rfl
              clear hmm
              go_wp2_with (first
                | (go_at_call 28; refine (rletter_any _ _).mono ?_; rintro e w1 ⟨rfl, hw⟩; subst w1)
                | (go_at_call 29; refine (rdigit_any _ _).mono ?_; rintro e w1 ⟨rfl, hw⟩; subst w1)
                | (go_at_call 31; refine (HML.out _).mono ?_; rintro e w1 ⟨rfl, hw⟩; subst w1))
              go_ret3
              exact ⟨by rw [HE.out]; exact auto_mailV HU.out HI.out, rfl⟩

        | cons c v =>
          have hlt4 := k1.out.lt
          have hb4 := k1.out.byte hlt4
          have hle4 : (pos U (c :: v) : Int) + 1 ≤ (U.size : Int) := by omega
          have hsu4 := (show Hid _ from k1.out.succ)
          cases hlc : letN c.toNat
          · by_cases hk0 : pos U (c :: v) = 0
            · have HK : Hid (schK u = pos U (c :: v)) := sch_stop HU.out HPU.out k1.out k2.out (.inr ⟨c, v, rfl, .inl ⟨hk0, hlc⟩⟩)
              have r0 : ¬ (0 : Int) < (pos U (c :: v) : Int) := by omega
              have r0b : decide ((0 : Int) < (pos U (c :: v) : Int)) = false := decide_eq_false r0
              clear hk0
              have HSK : Hid (schOk u = (decide (2 ≤ pos U (c :: v)) && decide (pos U (c :: v) ≤ 32) && ((c :: v).head? == some 58))) := sch_at HU.out k1.out HK.out
              have r2 : ¬ (2 : Int) ≤ (pos U (c :: v) : Int) := by omega
              have g2 : ¬ 2 ≤ pos U (c :: v) := by omega
              have HSO : Hid (schOk u = false) := by show _ = _; rw [HSK.out, decide_eq_false g2]; rfl
              clear HSK
              cases hmm : mailL u
              · have HML : Hid (∀ w, Calls Tryd.prog 31 #[.string U] w fun e w' => e = .returned (.bool false) ∧ w' = w) := fun w => by have := HMA.out w; rwa [hmm] at this
                have HE : Hid (autoL (60 :: t0) = none) := by show _ = _; rw [HA.out, HSO.out, hmm]; rfl
                clear hmm
                go_wp2_with (first
                  | (go_at_call 28; refine (rletter_any _ _).mono ?_; rintro e w1 ⟨rfl, hw⟩; subst w1)
                  | (go_at_call 29; refine (rdigit_any _ _).mono ?_; rintro e w1 ⟨rfl, hw⟩; subst w1)
                  | (go_at_call 31; refine (HML.out _).mono ?_; rintro e w1 ⟨rfl, hw⟩; subst w1))
                go_ret3
                exact ⟨by rw [HE.out]; rfl, rfl⟩
              · have HML : Hid (∀ w, Calls Tryd.prog 31 #[.string U] w fun e w' => e = .returned (.bool true) ∧ w' = w) := fun w => by have := HMA.out w; rwa [hmm] at this
                have HE : Hid (autoL (60 :: t0) = some ([109, 97, 105, 108, 116, 111, 58] ++ u, u, u.length + 2)) := by show _ = _; rw [HA.out, HSO.out, hmm]; rfl
                clear hmm
                go_wp2_with (first
                  | (go_at_call 28; refine (rletter_any _ _).mono ?_; rintro e w1 ⟨rfl, hw⟩; subst w1)
                  | (go_at_call 29; refine (rdigit_any _ _).mono ?_; rintro e w1 ⟨rfl, hw⟩; subst w1)
                  | (go_at_call 31; refine (HML.out _).mono ?_; rintro e w1 ⟨rfl, hw⟩; subst w1))
                go_ret3
                exact ⟨by rw [HE.out]; exact auto_mailV HU.out HI.out, rfl⟩

            · have r0 : (0 : Int) < (pos U (c :: v) : Int) := by omega
              cases hdc : digN c.toNat
              · cases hsc : schC c
                · have HEL : Hid (([43, 46, 45] : List UInt8).elem c = false) := by show _ = _; rw [sch_row hlc hdc, hsc]
                  have HK : Hid (schK u = pos U (c :: v)) := sch_stop HU.out HPU.out k1.out k2.out (.inr ⟨c, v, rfl, .inr ⟨hk0, hsc⟩⟩)
                  clear hsc hk0
                  have HSK : Hid (schOk u = (decide (2 ≤ pos U (c :: v)) && decide (pos U (c :: v) ≤ 32) && ((c :: v).head? == some 58))) := sch_at HU.out k1.out HK.out
                  by_cases g2 : 2 ≤ pos U (c :: v)
                  · have r2 : (2 : Int) ≤ (pos U (c :: v) : Int) := by omega
                    by_cases g32 : pos U (c :: v) ≤ 32
                    · have r32 : (pos U (c :: v) : Int) ≤ 32 := by omega
                      by_cases g58 : c = 58
                      · have HSO : Hid (schOk u = true) := by show _ = _; rw [HSK.out, decide_eq_true g2, decide_eq_true g32, g58]; rfl
                        have r58 : ((c.toNat : Int) == 58) = true := by rw [g58]; rfl
                        clear HSK g58
                        have HE : Hid (autoL (60 :: t0) = some (u, u, u.length + 2)) := by show _ = _; rw [HA.out, HSO.out]; rfl
                        go_wp2_with (first
                          | (go_at_call 28; refine (rletter_any _ _).mono ?_; rintro e w1 ⟨rfl, hw⟩; subst w1)
                          | (go_at_call 29; refine (rdigit_any _ _).mono ?_; rintro e w1 ⟨rfl, hw⟩; subst w1)
                          | (go_at_call 30; refine (ramong_any _ (by decide) _ false HEL.out _).mono ?_; rintro e w1 ⟨rfl, hw⟩; subst w1))
                        go_ret3
                        exact ⟨by rw [HE.out]; exact auto_linkV HU.out HI.out, rfl⟩

                      · have HSO : Hid (schOk u = false) := by
                          show _ = _
                          rw [HSK.out, show ((c :: v).head? == some 58) = false by simpa using g58, Bool.and_false]
                        have r58a : ¬ (c.toNat : Int) = 58 := fun e => g58 (UInt8.toNat_inj.1 (by show c.toNat = 58; omega))
                        have r58 : ((c.toNat : Int) == 58) = false := by rw [beq_eq_false_iff_ne]; exact r58a
                        clear HSK g58
                        cases hmm : mailL u
                        · have HML : Hid (∀ w, Calls Tryd.prog 31 #[.string U] w fun e w' => e = .returned (.bool false) ∧ w' = w) := fun w => by have := HMA.out w; rwa [hmm] at this
                          have HE : Hid (autoL (60 :: t0) = none) := by show _ = _; rw [HA.out, HSO.out, hmm]; rfl
                          clear hmm
                          go_wp2_with (first
                            | (go_at_call 28; refine (rletter_any _ _).mono ?_; rintro e w1 ⟨rfl, hw⟩; subst w1)
                            | (go_at_call 29; refine (rdigit_any _ _).mono ?_; rintro e w1 ⟨rfl, hw⟩; subst w1)
                            | (go_at_call 30; refine (ramong_any _ (by decide) _ false HEL.out _).mono ?_; rintro e w1 ⟨rfl, hw⟩; subst w1)
                            | (go_at_call 31; refine (HML.out _).mono ?_; rintro e w1 ⟨rfl, hw⟩; subst w1))
                          go_ret3
                          exact ⟨by rw [HE.out]; rfl, rfl⟩
                        · have HML : Hid (∀ w, Calls Tryd.prog 31 #[.string U] w fun e w' => e = .returned (.bool true) ∧ w' = w) := fun w => by have := HMA.out w; rwa [hmm] at this
                          have HE : Hid (autoL (60 :: t0) = some ([109, 97, 105, 108, 116, 111, 58] ++ u, u, u.length + 2)) := by show _ = _; rw [HA.out, HSO.out, hmm]; rfl
                          clear hmm
                          go_wp2_with (first
                            | (go_at_call 28; refine (rletter_any _ _).mono ?_; rintro e w1 ⟨rfl, hw⟩; subst w1)
                            | (go_at_call 29; refine (rdigit_any _ _).mono ?_; rintro e w1 ⟨rfl, hw⟩; subst w1)
                            | (go_at_call 30; refine (ramong_any _ (by decide) _ false HEL.out _).mono ?_; rintro e w1 ⟨rfl, hw⟩; subst w1)
                            | (go_at_call 31; refine (HML.out _).mono ?_; rintro e w1 ⟨rfl, hw⟩; subst w1))
                          go_ret3
                          exact ⟨by rw [HE.out]; exact auto_mailV HU.out HI.out, rfl⟩

                    · have r32 : ¬ (pos U (c :: v) : Int) ≤ 32 := by omega
                      have HSO : Hid (schOk u = false) := by show _ = _; rw [HSK.out, decide_eq_false g32, Bool.and_false]; rfl
                      clear HSK
                      cases hmm : mailL u
                      · have HML : Hid (∀ w, Calls Tryd.prog 31 #[.string U] w fun e w' => e = .returned (.bool false) ∧ w' = w) := fun w => by have := HMA.out w; rwa [hmm] at this
                        have HE : Hid (autoL (60 :: t0) = none) := by show _ = _; rw [HA.out, HSO.out, hmm]; rfl
                        clear hmm
                        go_wp2_with (first
                          | (go_at_call 28; refine (rletter_any _ _).mono ?_; rintro e w1 ⟨rfl, hw⟩; subst w1)
                          | (go_at_call 29; refine (rdigit_any _ _).mono ?_; rintro e w1 ⟨rfl, hw⟩; subst w1)
                          | (go_at_call 30; refine (ramong_any _ (by decide) _ false HEL.out _).mono ?_; rintro e w1 ⟨rfl, hw⟩; subst w1)
                          | (go_at_call 31; refine (HML.out _).mono ?_; rintro e w1 ⟨rfl, hw⟩; subst w1))
                        go_ret3
                        exact ⟨by rw [HE.out]; rfl, rfl⟩
                      · have HML : Hid (∀ w, Calls Tryd.prog 31 #[.string U] w fun e w' => e = .returned (.bool true) ∧ w' = w) := fun w => by have := HMA.out w; rwa [hmm] at this
                        have HE : Hid (autoL (60 :: t0) = some ([109, 97, 105, 108, 116, 111, 58] ++ u, u, u.length + 2)) := by show _ = _; rw [HA.out, HSO.out, hmm]; rfl
                        clear hmm
                        go_wp2_with (first
                          | (go_at_call 28; refine (rletter_any _ _).mono ?_; rintro e w1 ⟨rfl, hw⟩; subst w1)
                          | (go_at_call 29; refine (rdigit_any _ _).mono ?_; rintro e w1 ⟨rfl, hw⟩; subst w1)
                          | (go_at_call 30; refine (ramong_any _ (by decide) _ false HEL.out _).mono ?_; rintro e w1 ⟨rfl, hw⟩; subst w1)
                          | (go_at_call 31; refine (HML.out _).mono ?_; rintro e w1 ⟨rfl, hw⟩; subst w1))
                        go_ret3
                        exact ⟨by rw [HE.out]; exact auto_mailV HU.out HI.out, rfl⟩

                  · have r2 : ¬ (2 : Int) ≤ (pos U (c :: v) : Int) := by omega
                    have HSO : Hid (schOk u = false) := by show _ = _; rw [HSK.out, decide_eq_false g2]; rfl
                    clear HSK
                    cases hmm : mailL u
                    · have HML : Hid (∀ w, Calls Tryd.prog 31 #[.string U] w fun e w' => e = .returned (.bool false) ∧ w' = w) := fun w => by have := HMA.out w; rwa [hmm] at this
                      have HE : Hid (autoL (60 :: t0) = none) := by show _ = _; rw [HA.out, HSO.out, hmm]; rfl
                      clear hmm
                      go_wp2_with (first
                        | (go_at_call 28; refine (rletter_any _ _).mono ?_; rintro e w1 ⟨rfl, hw⟩; subst w1)
                        | (go_at_call 29; refine (rdigit_any _ _).mono ?_; rintro e w1 ⟨rfl, hw⟩; subst w1)
                        | (go_at_call 30; refine (ramong_any _ (by decide) _ false HEL.out _).mono ?_; rintro e w1 ⟨rfl, hw⟩; subst w1)
                        | (go_at_call 31; refine (HML.out _).mono ?_; rintro e w1 ⟨rfl, hw⟩; subst w1))
                      go_ret3
                      exact ⟨by rw [HE.out]; rfl, rfl⟩
                    · have HML : Hid (∀ w, Calls Tryd.prog 31 #[.string U] w fun e w' => e = .returned (.bool true) ∧ w' = w) := fun w => by have := HMA.out w; rwa [hmm] at this
                      have HE : Hid (autoL (60 :: t0) = some ([109, 97, 105, 108, 116, 111, 58] ++ u, u, u.length + 2)) := by show _ = _; rw [HA.out, HSO.out, hmm]; rfl
                      clear hmm
                      go_wp2_with (first
                        | (go_at_call 28; refine (rletter_any _ _).mono ?_; rintro e w1 ⟨rfl, hw⟩; subst w1)
                        | (go_at_call 29; refine (rdigit_any _ _).mono ?_; rintro e w1 ⟨rfl, hw⟩; subst w1)
                        | (go_at_call 30; refine (ramong_any _ (by decide) _ false HEL.out _).mono ?_; rintro e w1 ⟨rfl, hw⟩; subst w1)
                        | (go_at_call 31; refine (HML.out _).mono ?_; rintro e w1 ⟨rfl, hw⟩; subst w1))
                      go_ret3
                      exact ⟨by rw [HE.out]; exact auto_mailV HU.out HI.out, rfl⟩

                · have HEL : Hid (([43, 46, 45] : List UInt8).elem c = true) := by show _ = _; rw [sch_row hlc hdc, hsc]
                  have NX : Hid (SchAt u v) := sch_next HU.out HPU.out k1.out k2.out hk0 hsc
                  clear hsc hk0
                  go_wp2_with (first
                    | (go_at_call 28; refine (rletter_any _ _).mono ?_; rintro e w1 ⟨rfl, hw⟩; subst w1)
                    | (go_at_call 29; refine (rdigit_any _ _).mono ?_; rintro e w1 ⟨rfl, hw⟩; subst w1)
                    | (go_at_call 30; refine (ramong_any _ (by decide) _ true HEL.out _).mono ?_; rintro e w1 ⟨rfl, hw⟩; subst w1))
                  go_round
                  case rel =>
                    refine ⟨v, ?_, k1.out.tail, ?_⟩
                    · rw [hsu4.out]; go_num
                    · exact NX.out
                  case measure => simp [intOf]; omega

              · have NX : Hid (SchAt u v) := sch_next HU.out HPU.out k1.out k2.out hk0 (sch_dig hdc)
                clear hk0
                go_wp2_with (first
                  | (go_at_call 28; refine (rletter_any _ _).mono ?_; rintro e w1 ⟨rfl, hw⟩; subst w1)
                  | (go_at_call 29; refine (rdigit_any _ _).mono ?_; rintro e w1 ⟨rfl, hw⟩; subst w1))
                go_round
                case rel =>
                  refine ⟨v, ?_, k1.out.tail, ?_⟩
                  · rw [hsu4.out]; go_num
                  · exact NX.out
                case measure => simp [intOf]; omega

          · have NX : Hid (SchAt u v) := sch_let HU.out HPU.out k1.out k2.out hlc
            go_wp2_with (first
              | (go_at_call 28; refine (rletter_any _ _).mono ?_; rintro e w1 ⟨rfl, hw⟩; subst w1)
              | (go_at_call 29; refine (rdigit_any _ _).mono ?_; rintro e w1 ⟨rfl, hw⟩; subst w1))
            go_round
            case rel =>
              refine ⟨v, ?_, k1.out.tail, ?_⟩
              · rw [hsu4.out]; go_num
              · exact NX.out
            case measure => simp [intOf]; omega


set_option maxHeartbeats 2000000 in
/-- Auto, of any text. -/
theorem rauto_any (s : ByteArray) (hs : s.size ≤ 9223372036854770000) (w : World) :
    Calls Tryd.prog 13 #[.string s] w fun e w' => e = .returned (autoV (autoL s.data.toList)) ∧ w' = w := by
  cases hl : s.data.toList with
  | nil =>
    have he : s.toList.isEmpty = true := by rw [ByteArray.toList_eq, hl]; rfl
    clear hl
    go_enter Tryd.func13, Tryd.ntmps13
    go_wp2
    go_ret3
    exact ⟨rfl, rfl⟩
  | cons a t0 =>
    by_cases ha : a = 60
    · subst ha
      exact rauto_open s hs t0 hl w
    · have hz : 0 < s.size := by rw [← len_data, hl]; simp
      have he : s.toList.isEmpty = false := by rw [ByteArray.toList_eq, hl]; rfl
      have hb0 : s[0] = a := by have := (Suf.head hl).byte (by rw [pos_of (p := []) hl]; exact hz); simpa [pos_of (p := []) hl] using this
      have q1 : ¬ (a.toNat : Int) = 60 := fun e => ha (UInt8.toNat_inj.1 (by show a.toNat = 60; omega))
      have q2 : ((a.toNat : Int) != 60) = true := by simpa using q1
      have HE : Hid (autoL (a :: t0) = none) := by show (if a = 60 then _ else none) = none; rw [if_neg ha]
      clear hl ha
      go_enter Tryd.func13, Tryd.ntmps13
      go_wp2
      go_ret3
      exact ⟨by rw [HE.out]; rfl, rfl⟩

end Go.Proofs.YtegjpfhpkkffiaaDoor
