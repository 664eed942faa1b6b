/- The document's answer for span: value, walked. -/
import Derived.Test.YtegjpfhpkkffiaaDoorRTag
set_option linter.unusedVariables false
namespace Go.Proofs.YtegjpfhpkkffiaaDoor
open Go.RowKit

/-- What value tells: a place, or that it is wrong. -/
def valZ (s : ByteArray) (o : Option (List UInt8)) : Int := match o with
  | none => -1
  | some r => (pos s r : Int)

theorem valL_no {l : List UInt8} (h : hdB (gapL 0 l) 61 = false) : valL l = some l := by
  unfold valL
  cases hg : gapL 0 l with
  | nil => rfl
  | cons b t =>
    rw [hg] at h
    have : b ≠ 61 := by rintro rfl; cases h
    simp [this]
theorem valL_yes {l t : List UInt8} (h : gapL 0 l = 61 :: t) : valL l = val2 (gapL 0 t) := by
  unfold valL
  rw [h]
  rfl

theorem unq_row {c : UInt8} (h : unqC c = false) : ([9, 10, 32, 34, 39, 61, 60, 62, 96] : List UInt8).elem c = true := by
  rw [unq_mem] at h
  exact (Bool.not_eq_false' _).mp h
theorem unq_no {c : UInt8} (h : unqC c = true) : ([9, 10, 32, 34, 39, 61, 60, 62, 96] : List UInt8).elem c = false := by
  rw [unq_mem] at h
  exact (Bool.not_eq_true' _).mp h

set_option maxHeartbeats 4000000 in
theorem rvalue_any (s : ByteArray) (hs : s.size ≤ 9223372036854775000) (l : List UInt8) (hl : Suf s l) (w : World) :
    Calls Tryd.prog 36 #[.string s, .int .i64 (pos s l : Int)] w fun e w' => e = .returned (.int .i64 (valZ s (valL l))) ∧ w' = w := by
  obtain ⟨g, hg⟩ : ∃ g, g = gapL 0 l := ⟨_, rfl⟩
  have hgs : Suf s g := by rw [hg]; exact hl.gap 0
  have hgap : Hid (∀ w, Calls Tryd.prog 35 #[.string s, .int .i64 (pos s l : Int)] w fun e w' => e = .returned (.int .i64 (pos s g : Int)) ∧ w' = w) := fun w => by rw [hg]; exact rgap_any s hs l hl _ rfl w
  cases hgl : g with
  | nil =>
    subst hgl
    have HE : Hid (valL l = some l) := valL_no (by rw [← hg]; rfl)
    have hp : pos s [] = s.size := pos_nil s
    clear hg
    go_enter Tryd.func36, Tryd.ntmps36
    go_wp2_with (go_at_call 35; refine (hgap.out _).mono ?_; rintro e w1 ⟨rfl, hw⟩; subst w1)
    go_ret
    exact ⟨ret_int (by rw [HE.out]; rfl), rfl⟩
  | cons b t =>
    subst hgl
    have hlt := hgs.lt
    have hb := hgs.byte hlt
    have hne : ((pos s (b :: t) : Int) == (s.size : Int)) = false := by rw [beq_eq_false_iff_ne]; omega
    have hne2 : ¬ (pos s (b :: t) : Int) = (s.size : Int) := by omega
    by_cases h61 : b = 61
    · subst h61
      obtain ⟨y, hy⟩ : ∃ y, y = gapL 0 t := ⟨_, rfl⟩
      have HV : Hid (valL l = val2 y) := by show _ = _; rw [valL_yes hg.symm, hy]
      have hsu : (pos s (61 :: t) : Int) + 1 = (pos s t : Int) := by rw [hgs.succ]; omega
      have hle : (pos s (61 :: t) : Int) + 1 ≤ (s.size : Int) := by omega
      have hys : Suf s y := by rw [hy]; exact hgs.tail.gap 0
      have hgap2 : Hid (∀ w, Calls Tryd.prog 35 #[.string s, .int .i64 ((pos s (61 :: t) : Int) + 1)] w fun e w' => e = .returned (.int .i64 (pos s y : Int)) ∧ w' = w) := fun w => by rw [hy]; exact rgap_any s hs t hgs.tail _ hsu w
      clear hy hg hsu
      cases y with
      | nil =>
        have hp : pos s [] = s.size := pos_nil s
        have HE : Hid (valL l = none) := HV.out
        go_enter Tryd.func36, Tryd.ntmps36
        go_wp2_with (first
          | (go_at_call_of 35 (Value.int .i64 (pos s l : Int)); refine (hgap.out _).mono ?_; rintro e w1 ⟨rfl, hw⟩; subst w1)
          | (go_at_call 35; refine (hgap2.out _).mono ?_; rintro e w1 ⟨rfl, hw⟩; subst w1))
        go_ret
        exact ⟨ret_int (by rw [HE.out]; rfl), rfl⟩
      | cons q u =>
        have hlt2 := hys.lt
        have hb2 := hys.byte hlt2
        have hqs : Suf s (q :: u) := hys
        have hle2 : (pos s (q :: u) : Int) + 1 ≤ (s.size : Int) := by omega
        by_cases hq1 : q = 39
        · subst hq1
          have hn2 : ¬ (pos s (39 :: u) : Int) = (s.size : Int) := by omega
          have HQ : Hid (val2 (39 :: u) = match u.dropWhile (· != 39) with | [] => none | _ :: v => some v) := rfl
          go_enter Tryd.func36, Tryd.ntmps36
          go_wp2_with (first
            | (go_at_call_of 35 (Value.int .i64 (pos s l : Int)); refine (hgap.out _).mono ?_; rintro e w1 ⟨rfl, hw⟩; subst w1)
            | (go_at_call 35; refine (hgap2.out _).mono ?_; rintro e w1 ⟨rfl, hw⟩; subst w1))
          go_loop [5] (fun A => ∃ l' : List UInt8, A = .int .i64 (pos s l' : Int) ∧ Hid (Suf s l') ∧ Hid (l'.dropWhile (· != 39) = u.dropWhile (· != 39))) (fun A => s.size - (intOf A).toNat)
          case atStart => exact ⟨u, by rw [hqs.succ]; go_num, hqs.tail, rfl⟩
          case round =>
            obtain ⟨l', rfl, h1, h2⟩ := hrel
            cases l' with
            | nil =>
              have hp : pos s [] = s.size := pos_nil s
              go_wp2
              go_ret
              exact ⟨ret_int (by rw [HV.out, HQ.out, ← h2.out]; rfl), rfl⟩
            | cons c v =>
              have hlt3 := h1.out.lt
              have hb3 := h1.out.byte hlt3
              have hle3 : (pos s (c :: v) : Int) + 1 ≤ (s.size : Int) := by omega
              have hn3 : ¬ (pos s (c :: v) : Int) = (s.size : Int) := by omega
              have hsu3 := (show Hid _ from h1.out.succ)
              by_cases hc : c = 39
              · subst hc
                go_wp2
                go_ret
                refine ⟨ret_int ?_, rfl⟩
                rw [HV.out, HQ.out, ← h2.out, List.dropWhile_cons, if_neg (by decide)]
                show _ = (pos s v : Int)
                rw [hsu3.out]; omega
              · have q1 : ¬ (c.toNat : Int) = 39 := fun e => hc (UInt8.toNat_inj.1 (by show c.toNat = 39; omega))
                have q2 : ((c.toNat : Int) != 39) = true := by simpa using q1
                go_wp2
                go_round
                case rel =>
                  refine ⟨v, ?_, h1.out.tail, ?_⟩
                  · rw [hsu3.out]; go_num
                  · show _ = _
                    rw [← h2.out, List.dropWhile_cons, if_pos (by simpa using hc)]
                case measure => simp [intOf]; omega
        · by_cases hq2 : q = 34
          · subst hq2
            have hn2 : ¬ (pos s (34 :: u) : Int) = (s.size : Int) := by omega
            have HQ : Hid (val2 (34 :: u) = match u.dropWhile (· != 34) with | [] => none | _ :: v => some v) := rfl
            go_enter Tryd.func36, Tryd.ntmps36
            go_wp2_with (first
              | (go_at_call_of 35 (Value.int .i64 (pos s l : Int)); refine (hgap.out _).mono ?_; rintro e w1 ⟨rfl, hw⟩; subst w1)
              | (go_at_call 35; refine (hgap2.out _).mono ?_; rintro e w1 ⟨rfl, hw⟩; subst w1))
            go_loop [5] (fun A => ∃ l' : List UInt8, A = .int .i64 (pos s l' : Int) ∧ Hid (Suf s l') ∧ Hid (l'.dropWhile (· != 34) = u.dropWhile (· != 34))) (fun A => s.size - (intOf A).toNat)
            case atStart => exact ⟨u, by rw [hqs.succ]; go_num, hqs.tail, rfl⟩
            case round =>
              obtain ⟨l', rfl, h1, h2⟩ := hrel
              cases l' with
              | nil =>
                have hp : pos s [] = s.size := pos_nil s
                go_wp2
                go_ret
                exact ⟨ret_int (by rw [HV.out, HQ.out, ← h2.out]; rfl), rfl⟩
              | cons c v =>
                have hlt3 := h1.out.lt
                have hb3 := h1.out.byte hlt3
                have hle3 : (pos s (c :: v) : Int) + 1 ≤ (s.size : Int) := by omega
                have hn3 : ¬ (pos s (c :: v) : Int) = (s.size : Int) := by omega
                have hsu3 := (show Hid _ from h1.out.succ)
                by_cases hc : c = 34
                · subst hc
                  go_wp2
                  go_ret
                  refine ⟨ret_int ?_, rfl⟩
                  rw [HV.out, HQ.out, ← h2.out, List.dropWhile_cons, if_neg (by decide)]
                  show _ = (pos s v : Int)
                  rw [hsu3.out]; omega
                · have q1 : ¬ (c.toNat : Int) = 34 := fun e => hc (UInt8.toNat_inj.1 (by show c.toNat = 34; omega))
                  have q2 : ((c.toNat : Int) != 34) = true := by simpa using q1
                  go_wp2
                  go_round
                  case rel =>
                    refine ⟨v, ?_, h1.out.tail, ?_⟩
                    · rw [hsu3.out]; go_num
                    · show _ = _
                      rw [← h2.out, List.dropWhile_cons, if_pos (by simpa using hc)]
                  case measure => simp [intOf]; omega
          ·
            have hn2 : ¬ (pos s (q :: u) : Int) = (s.size : Int) := by omega
            have hn2b : ((pos s (q :: u) : Int) == (s.size : Int)) = false := by rw [beq_eq_false_iff_ne]; exact hn2
            have a1 : ¬ (q.toNat : Int) = 39 := fun e => hq1 (UInt8.toNat_inj.1 (by show q.toNat = 39; omega))
            have a2 : ¬ (q.toNat : Int) = 34 := fun e => hq2 (UInt8.toNat_inj.1 (by show q.toNat = 34; omega))
            have a3 : ((q.toNat : Int) == 39) = false := by rw [beq_eq_false_iff_ne]; exact a1
            have a4 : ((q.toNat : Int) == 34) = false := by rw [beq_eq_false_iff_ne]; exact a2
            have HQ : Hid (val2 (q :: u) = if unqC q = true then some (u.dropWhile unqC) else none) := by
              show _ = _
              simp only [val2]
              rw [if_neg (by rintro (h | h); exact hq1 h; exact hq2 h)]
            clear hq1 hq2
            go_enter Tryd.func36, Tryd.ntmps36
            go_wp2_with (first
              | (go_at_call_of 35 (Value.int .i64 (pos s l : Int)); refine (hgap.out _).mono ?_; rintro e w1 ⟨rfl, hw⟩; subst w1)
              | (go_at_call 35; refine (hgap2.out _).mono ?_; rintro e w1 ⟨rfl, hw⟩; subst w1))
            go_loop [5] (fun A => ∃ l' : List UInt8, A = .int .i64 (pos s l' : Int) ∧ Hid (Suf s l') ∧ Hid ((l' = q :: u) ∨ (unqC q = true ∧ l'.length ≤ u.length ∧ l'.dropWhile unqC = u.dropWhile unqC))) (fun A => s.size - (intOf A).toNat)
            case atStart => exact ⟨q :: u, rfl, hqs, .inl rfl⟩
            case round =>
              obtain ⟨l', rfl, h1, h2⟩ := hrel
              cases l' with
              | nil =>
                have hp : pos s [] = s.size := pos_nil s
                have HD : Hid (unqC q = true ∧ u.dropWhile unqC = []) := by
                  rcases h2.out with h | ⟨h3, h4, h⟩
                  · cases h
                  · exact ⟨h3, h.symm⟩
                have hne9 : ¬ (s.size : Int) = (pos s (q :: u) : Int) := by omega
                go_wp2
                go_ret
                refine ⟨ret_int ?_, rfl⟩
                rw [HV.out, HQ.out, if_pos HD.out.1, HD.out.2]
                show _ = (pos s [] : Int)
                rw [pos_nil]
              | cons c v =>
                have hlt3 := h1.out.lt
                have hb3 := h1.out.byte hlt3
                have hle3 : (pos s (c :: v) : Int) + 1 ≤ (s.size : Int) := by omega
                have hsu3 := (show Hid _ from h1.out.succ)
                cases hu : unqC c
                · by_cases hsame : c :: v = q :: u
                  · cases hsame
                    have HE : Hid (valL l = none) := by show _ = _; rw [HV.out, HQ.out, if_neg (by rw [hu]; decide)]
                    go_wp2_with (go_at_call 30; refine (ramong_any _ (by decide) _ true (unq_row hu) _).mono ?_; rintro e w1 ⟨rfl, hw⟩; subst w1)
                    go_ret
                    exact ⟨ret_int (by rw [HE.out]; rfl), rfl⟩
                  · have HD : Hid (unqC q = true ∧ u.dropWhile unqC = c :: v) := by
                      rcases h2.out with h | ⟨h3, h4, h⟩
                      · exact absurd h hsame
                      · refine ⟨h3, ?_⟩
                        rw [← h, List.dropWhile_cons, if_neg (by rw [hu]; decide)]
                    have hne9 : ¬ (pos s (c :: v) : Int) = (pos s (q :: u) : Int) := fun e => hsame ((h1.out.eq_iff hqs).1 e)
                    go_wp2_with (go_at_call 30; refine (ramong_any _ (by decide) _ true (unq_row hu) _).mono ?_; rintro e w1 ⟨rfl, hw⟩; subst w1)
                    go_ret
                    refine ⟨ret_int ?_, rfl⟩
                    rw [HV.out, HQ.out, if_pos HD.out.1, HD.out.2]
                    rfl
                · go_wp2_with (go_at_call 30; refine (ramong_any _ (by decide) _ false (unq_no hu) _).mono ?_; rintro e w1 ⟨rfl, hw⟩; subst w1)
                  go_round
                  case rel =>
                    refine ⟨v, ?_, h1.out.tail, .inr ?_⟩
                    · rw [hsu3.out]; go_num
                    · rcases h2.out with h | ⟨h3, h4, h⟩
                      · cases h
                        exact ⟨hu, Nat.le_refl _, rfl⟩
                      · refine ⟨h3, by simp at h4; omega, ?_⟩
                        rw [← h, List.dropWhile_cons, if_pos hu]
                  case measure => simp [intOf]; omega
    · have HE : Hid (valL l = some l) := valL_no (by rw [← hg]; simpa [hdB] using h61)
      have q : ¬ (b.toNat : Int) = 61 := fun e => h61 (UInt8.toNat_inj.1 (by show b.toNat = 61; omega))
      have q2 : ((b.toNat : Int) != 61) = true := by simpa using q
      clear hg
      go_enter Tryd.func36, Tryd.ntmps36
      go_wp2_with (go_at_call 35; refine (hgap.out _).mono ?_; rintro e w1 ⟨rfl, hw⟩; subst w1)
      go_ret
      exact ⟨ret_int (by rw [HE.out]; rfl), rfl⟩

end Go.Proofs.YtegjpfhpkkffiaaDoor
