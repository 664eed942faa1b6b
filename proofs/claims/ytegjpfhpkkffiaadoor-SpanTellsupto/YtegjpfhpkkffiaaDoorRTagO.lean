/- The document's answer for span: Tag, where it opens; walked. -/
import Derived.Test.YtegjpfhpkkffiaaDoorRTagC
set_option linter.unusedVariables false
namespace Go.Proofs.YtegjpfhpkkffiaaDoor
open Go.RowKit

theorem attr_no {c : UInt8} (h : attrF c = false) : letN c.toNat = false ∧ c.toNat ≠ 95 ∧ c.toNat ≠ 58 := by
  rw [attrF_N] at h
  simp only [Bool.or_eq_false_iff, decide_eq_false_iff_not] at h
  exact ⟨h.1.1, h.1.2, h.2⟩
theorem attr_yes {c : UInt8} (h : attrF c = true) : letN c.toNat = true ∨ (letN c.toNat = false ∧ c.toNat = 95) ∨ (letN c.toNat = false ∧ c.toNat ≠ 95 ∧ c.toNat = 58) := by
  rw [attrF_N] at h
  cases hl : letN c.toNat
  · rw [hl] at h
    by_cases h2 : c.toNat = 95
    · exact .inr (.inl ⟨rfl, h2⟩)
    · simp only [Bool.false_or, Bool.or_eq_true, decide_eq_true_eq] at h
      exact .inr (.inr ⟨rfl, h2, h.resolve_left h2⟩)
  · exact .inl rfl
theorem attrC_cases (c : UInt8) : (attrC c = true ∧ letN c.toNat = true) ∨ (attrC c = true ∧ letN c.toNat = false ∧ digN c.toNat = true) ∨ (letN c.toNat = false ∧ digN c.toNat = false ∧ ([95, 46, 58, 45] : List UInt8).elem c = attrC c) := by
  rw [attr_mem]
  unfold ldN
  cases letN c.toNat
  · cases digN c.toNat
    · right; right; simp
    · right; left; simp
  · left; simp

/-- How what stands behind the attributes may go on. -/
theorem end_cases (b : UInt8) (t : List UInt8) : (b = 62) ∨ (b = 47 ∧ t = []) ∨ (∃ u, b = 47 ∧ t = 62 :: u) ∨ (∃ c u, b = 47 ∧ t = c :: u ∧ c ≠ 62) ∨ (b ≠ 62 ∧ b ≠ 47) := by
  by_cases h1 : b = 62
  · exact .inl h1
  · by_cases h2 : b = 47
    · cases t with
      | nil => exact .inr (.inl ⟨h2, rfl⟩)
      | cons c u =>
        by_cases h3 : c = 62
        · exact .inr (.inr (.inl ⟨u, h2, by rw [h3]⟩))
        · exact .inr (.inr (.inr (.inl ⟨c, u, h2, rfl, h3⟩)))
    · exact .inr (.inr (.inr (.inr ⟨h1, h2⟩)))

theorem nb {c : UInt8} {n : Nat} (hn : n < 256) (h : c ≠ n.toUInt8) : ¬ (c.toNat : Int) = (n : Int) := fun e => h (UInt8.toNat_inj.1 (by rw [show c.toNat = n by omega]; simp [Nat.mod_eq_of_lt hn]))

set_option maxHeartbeats 16000000 in
set_option maxRecDepth 8000 in
/-- Texts that begin a tag. -/
theorem rtag_open (s : ByteArray) (hs : s.size ≤ 9223372036854775000) (b0 c0 : UInt8) (l : List UInt8) (hl : s.data.toList = 60 :: b0 :: c0 :: l) (h47 : b0 ≠ 47) (w : World) :
    Calls Tryd.prog 15 #[.string s] w fun e w' => e = .returned (.int .i64 (endN s ((nameL (b0 :: c0 :: l)).bind finL) : Int)) ∧ w' = w := by
  have HZ : Hid (s.size = l.length + 3) := by show _ = _; rw [← len_data, hl]; rfl
  have h3 : ¬ (s.size : Int) < 3 := by have := HZ.out; omega
  have h3b : (3 : Int) ≤ (s.size : Int) := by have := HZ.out; omega
  have h3c : decide ((s.size : Int) < 3) = false := by simpa using h3
  have hb0 : s[0]'(by have := HZ.out; omega) = 60 := by have := (Suf.head hl).byte (by rw [pos_of (p := []) hl]; show 0 < s.size; have := HZ.out; omega); simpa [pos_of (p := []) hl] using this
  have hb1 : s[1]'(by have := HZ.out; omega) = b0 := by have := (Suf.head hl).tail.byte (by rw [pos_of (p := [60]) hl]; show 1 < s.size; have := HZ.out; omega); simpa [pos_of (p := [60]) hl] using this
  have q47 : ¬ (b0.toNat : Int) = 47 := fun e => h47 (UInt8.toNat_inj.1 (by show b0.toNat = 47; omega))
  have q47b : ((b0.toNat : Int) == 47) = false := by rw [beq_eq_false_iff_ne]; exact q47
  have h2 : (1 : Int) = (pos s (b0 :: c0 :: l) : Int) := by rw [pos_of (p := [60]) hl]; rfl
  have hsl : Suf s (b0 :: c0 :: l) := ⟨[60], hl⟩
  have hname := (show Hid _ from fun w => rname_any s hs (b0 :: c0 :: l) hsl 1 h2 w)
  cases hn : nameL (b0 :: c0 :: l) with
  | none =>
    have h4 : (pos s (b0 :: c0 :: l) : Int) = 1 := h2.symm
    rw [hn] at hname
    have hname : Hid (∀ w, Calls Tryd.prog 34 #[.string s, .int .i64 1] w fun e w' => e = .returned (.int .i64 1) ∧ w' = w) := fun w => by have := hname.out w; rw [show ((pos s (Option.getD none (b0 :: c0 :: l)) : Nat) : Int) = 1 from h4] at this; exact this
    clear h2 h4
    go_enter Tryd.func15, Tryd.ntmps15
    go_wp2_with (go_at_call 34; refine (hname.out _).mono ?_; rintro e w1 ⟨rfl, hw⟩; subst w1)
    go_ret
    exact ⟨rfl, rfl⟩
  | some r =>
    rw [hn] at hname
    have hr : Suf s r := hsl.of (name_suf hn)
    have hne : ¬ (pos s r : Int) = 1 := by
      rw [h2]
      intro e
      have h4 := (hr.eq_iff hsl).1 e
      have h5 := name_lt hn
      rw [h4] at h5
      omega
    have hne2 : ((pos s r : Int) == 1) = false := by rw [beq_eq_false_iff_ne]; exact hne
    have hname : Hid (∀ w, Calls Tryd.prog 34 #[.string s, .int .i64 1] w fun e w' => e = .returned (.int .i64 (pos s r : Int)) ∧ w' = w) := fun w => hname.out w
    show Calls _ _ _ _ fun e w' => e = .returned (.int .i64 (endN s (finL r) : Int)) ∧ _
    clear hn h2 hl h47 hsl
    go_enter Tryd.func15, Tryd.ntmps15
    go_wp2_with (go_at_call 34; refine (hname.out _).mono ?_; rintro e w1 ⟨rfl, hw⟩; subst w1)
    go_loop [4] (fun A => ∃ l' : List UInt8, A = .int .i64 (pos s l' : Int) ∧ Hid (Suf s l') ∧ Hid (finL l' = finL r)) (fun A => s.size - (intOf A).toNat)
    case atStart => exact ⟨r, rfl, hr, rfl⟩
    case round =>
      obtain ⟨l', rfl, h1, h2⟩ := hrel
      obtain ⟨g, hg⟩ : ∃ g, g = gapL 0 l' := ⟨_, rfl⟩
      have hgs : Suf s g := by rw [hg]; exact h1.out.gap 0
      have HGL : Hid (g.length ≤ l'.length) := by show _ ≤ _; rw [hg]; exact gapL_le 0 l'
      have hgap : Hid (∀ w, Calls Tryd.prog 35 #[.string s, .int .i64 (pos s l' : Int)] w fun e w' => e = .returned (.int .i64 (pos s g : Int)) ∧ w' = w) := fun w => by rw [hg]; exact rgap_any s hs l' h1.out _ rfl w
      cases g with
      | nil =>
        have hp : pos s [] = s.size := pos_nil s
        have HF : Hid (finL r = none) := by show _ = _; rw [← h2.out, fin_none hg.symm]
        clear hg
        by_cases he : l' = []
        · subst he
          go_wp2_with (go_at_call 35; refine (hgap.out _).mono ?_; rintro e w1 ⟨rfl, hw⟩; subst w1)
          go_ret
          exact ⟨ret_int (by rw [HF.out]; rfl), rfl⟩
        · have t1 : ¬ (s.size : Int) = (pos s l' : Int) := fun e => he ((h1.out.eq_iff hgs).1 (by rw [hp]; exact e.symm))
          clear he
          go_wp2_with (go_at_call 35; refine (hgap.out _).mono ?_; rintro e w1 ⟨rfl, hw⟩; subst w1)
          go_ret
          exact ⟨ret_int (by rw [HF.out]; rfl), rfl⟩
      | cons b t =>
        have HFC := (show Hid _ from fin_cons hg.symm)
        clear hg
        by_cases he : l' = b :: t
        · subst he
          have HF : Hid (finL r = endL (b :: t)) := by show _ = _; rw [← h2.out, HFC.out, if_neg (by rintro ⟨h, _⟩; omega)]
          clear HFC h2
          rcases end_cases b t with rfl | ⟨rfl, rfl⟩ | ⟨u, rfl, rfl⟩ | ⟨c, u, rfl, rfl, hc⟩ | ⟨hb1, hb2⟩
          · have hlt := hgs.lt
            have hb := hgs.byte hlt
            have hle : (pos s (62 :: t) : Int) + 1 ≤ (s.size : Int) := by omega
            have hsu := (show Hid _ from hgs.succ)
            have nn : ¬ (pos s (62 :: t) : Int) = (s.size : Int) := by omega
            have HE : Hid (finL r = some t) := HF.out
            clear HF
            go_wp2_with (go_at_call 35; refine (hgap.out _).mono ?_; rintro e w1 ⟨rfl, hw⟩; subst w1)
            go_ret
            exact ⟨ret_int (by rw [HE.out]; show _ = ((pos s t : Nat) : Int); rw [hsu.out]; omega), rfl⟩
          · have hlt := hgs.lt
            have hb := hgs.byte hlt
            have hsz : (pos s [47] : Int) + 1 = (s.size : Int) := by have := hgs.succ; rw [pos_nil] at this; omega
            have nn : ¬ (pos s [47] : Int) = (s.size : Int) := by omega
            have HE : Hid (finL r = none) := HF.out
            clear HF
            go_wp2_with (go_at_call 35; refine (hgap.out _).mono ?_; rintro e w1 ⟨rfl, hw⟩; subst w1)
            go_ret
            exact ⟨ret_int (by rw [HE.out]; rfl), rfl⟩
          · have hlt := hgs.lt
            have hb := hgs.byte hlt
            have hsu := (show Hid _ from hgs.succ)
            have hsu2 := (show Hid _ from hgs.tail.succ)
            have hlt2 : pos s (47 :: 62 :: u) + 1 < s.size := by have := hgs.tail.lt; rw [hsu.out] at this; exact this
            have hb2 : s[pos s (47 :: 62 :: u) + 1] = 62 := by have := hgs.tail.byte hgs.tail.lt; simpa [hsu.out] using this
            have hle : (pos s (47 :: 62 :: u) : Int) + 2 ≤ (s.size : Int) := by omega
            have nn : ¬ (pos s (47 :: 62 :: u) : Int) = (s.size : Int) := by omega
            have HE : Hid (finL r = some u) := HF.out
            clear HF
            go_wp2_with (go_at_call 35; refine (hgap.out _).mono ?_; rintro e w1 ⟨rfl, hw⟩; subst w1)
            go_ret
            exact ⟨ret_int (by rw [HE.out]; show _ = ((pos s u : Nat) : Int); rw [hsu2.out, hsu.out]; omega), rfl⟩
          · have hlt := hgs.lt
            have hb := hgs.byte hlt
            have hsu := (show Hid _ from hgs.succ)
            have hlt2 : pos s (47 :: c :: u) + 1 < s.size := by have := hgs.tail.lt; rw [hsu.out] at this; exact this
            have hb2 : s[pos s (47 :: c :: u) + 1] = c := by have := hgs.tail.byte hgs.tail.lt; simpa [hsu.out] using this
            have hle : (pos s (47 :: c :: u) : Int) + 2 ≤ (s.size : Int) := by omega
            have nn : ¬ (pos s (47 :: c :: u) : Int) = (s.size : Int) := by omega
            have q1 : ¬ (c.toNat : Int) = 62 := fun e => hc (UInt8.toNat_inj.1 (by show c.toNat = 62; omega))
            have HE : Hid (finL r = none) := by show _ = _; rw [HF.out]; simp [endL, hc]
            clear HF
            go_wp2_with (go_at_call 35; refine (hgap.out _).mono ?_; rintro e w1 ⟨rfl, hw⟩; subst w1)
            go_ret
            exact ⟨ret_int (by rw [HE.out]; rfl), rfl⟩
          · have hlt := hgs.lt
            have hb := hgs.byte hlt
            have nn : ¬ (pos s (b :: t) : Int) = (s.size : Int) := by omega
            have q1 : ¬ (b.toNat : Int) = 62 := fun e => hb1 (UInt8.toNat_inj.1 (by show b.toNat = 62; omega))
            have q2 : ¬ (b.toNat : Int) = 47 := fun e => hb2 (UInt8.toNat_inj.1 (by show b.toNat = 47; omega))
            have HE : Hid (finL r = none) := by show _ = _; rw [HF.out]; simp [endL, hb1, hb2]
            clear HF
            go_wp2_with (go_at_call 35; refine (hgap.out _).mono ?_; rintro e w1 ⟨rfl, hw⟩; subst w1)
            go_ret
            exact ⟨ret_int (by rw [HE.out]; rfl), rfl⟩

        · have t1 : ¬ (pos s (b :: t) : Int) = (pos s l' : Int) := fun e => he ((hgs.eq_iff h1.out).1 e).symm
          have hll : (b :: t).length < l'.length := by
            have a1 := hgs.sum
            have a2 := h1.out.sum
            have a3 := HGL.out
            rcases Nat.lt_or_ge (b :: t).length l'.length with h | h
            · exact h
            · exact absurd ((h1.out).same hgs (by omega)) he
          have HLL := (show Hid _ from hll)
          clear hll
          cases haf : attrF b
          · have HF : Hid (finL r = endL (b :: t)) := by show _ = _; rw [← h2.out, HFC.out, if_neg (by rintro ⟨_, h⟩; rw [haf] at h; cases h)]
            clear HFC h2
            rcases end_cases b t with rfl | ⟨rfl, rfl⟩ | ⟨u, rfl, rfl⟩ | ⟨c, u, rfl, rfl, hc⟩ | ⟨hb1, hb2⟩
            · have hlt := hgs.lt
              have hb := hgs.byte hlt
              have hle : (pos s (62 :: t) : Int) + 1 ≤ (s.size : Int) := by omega
              have hsu := (show Hid _ from hgs.succ)
              have nn : ¬ (pos s (62 :: t) : Int) = (s.size : Int) := by omega
              have HE : Hid (finL r = some t) := HF.out
              clear HF
              have l1 : letN (UInt8.toNat 62) = false := by decide
              clear haf
              go_wp2_with (first
                | (go_at_call 35; refine (hgap.out _).mono ?_; rintro e w1 ⟨rfl, hw⟩; subst w1)
                | (go_at_call 28; refine (rletter_any _ _).mono ?_; rintro e w1 ⟨rfl, hw⟩; subst w1))
              go_ret
              exact ⟨ret_int (by rw [HE.out]; show _ = ((pos s t : Nat) : Int); rw [hsu.out]; omega), rfl⟩
            · have hlt := hgs.lt
              have hb := hgs.byte hlt
              have hsz : (pos s [47] : Int) + 1 = (s.size : Int) := by have := hgs.succ; rw [pos_nil] at this; omega
              have nn : ¬ (pos s [47] : Int) = (s.size : Int) := by omega
              have HE : Hid (finL r = none) := HF.out
              clear HF
              have l1 : letN (UInt8.toNat 47) = false := by decide
              clear haf
              go_wp2_with (first
                | (go_at_call 35; refine (hgap.out _).mono ?_; rintro e w1 ⟨rfl, hw⟩; subst w1)
                | (go_at_call 28; refine (rletter_any _ _).mono ?_; rintro e w1 ⟨rfl, hw⟩; subst w1))
              go_ret
              exact ⟨ret_int (by rw [HE.out]; rfl), rfl⟩
            · have hlt := hgs.lt
              have hb := hgs.byte hlt
              have hsu := (show Hid _ from hgs.succ)
              have hsu2 := (show Hid _ from hgs.tail.succ)
              have hlt2 : pos s (47 :: 62 :: u) + 1 < s.size := by have := hgs.tail.lt; rw [hsu.out] at this; exact this
              have hb2 : s[pos s (47 :: 62 :: u) + 1] = 62 := by have := hgs.tail.byte hgs.tail.lt; simpa [hsu.out] using this
              have hle : (pos s (47 :: 62 :: u) : Int) + 2 ≤ (s.size : Int) := by omega
              have nn : ¬ (pos s (47 :: 62 :: u) : Int) = (s.size : Int) := by omega
              have HE : Hid (finL r = some u) := HF.out
              clear HF
              have l1 : letN (UInt8.toNat 47) = false := by decide
              clear haf
              go_wp2_with (first
                | (go_at_call 35; refine (hgap.out _).mono ?_; rintro e w1 ⟨rfl, hw⟩; subst w1)
                | (go_at_call 28; refine (rletter_any _ _).mono ?_; rintro e w1 ⟨rfl, hw⟩; subst w1))
              go_ret
              exact ⟨ret_int (by rw [HE.out]; show _ = ((pos s u : Nat) : Int); rw [hsu2.out, hsu.out]; omega), rfl⟩
            · have hlt := hgs.lt
              have hb := hgs.byte hlt
              have hsu := (show Hid _ from hgs.succ)
              have hlt2 : pos s (47 :: c :: u) + 1 < s.size := by have := hgs.tail.lt; rw [hsu.out] at this; exact this
              have hb2 : s[pos s (47 :: c :: u) + 1] = c := by have := hgs.tail.byte hgs.tail.lt; simpa [hsu.out] using this
              have hle : (pos s (47 :: c :: u) : Int) + 2 ≤ (s.size : Int) := by omega
              have nn : ¬ (pos s (47 :: c :: u) : Int) = (s.size : Int) := by omega
              have q1 : ¬ (c.toNat : Int) = 62 := fun e => hc (UInt8.toNat_inj.1 (by show c.toNat = 62; omega))
              have HE : Hid (finL r = none) := by show _ = _; rw [HF.out]; simp [endL, hc]
              clear HF
              have l1 : letN (UInt8.toNat 47) = false := by decide
              clear haf
              go_wp2_with (first
                | (go_at_call 35; refine (hgap.out _).mono ?_; rintro e w1 ⟨rfl, hw⟩; subst w1)
                | (go_at_call 28; refine (rletter_any _ _).mono ?_; rintro e w1 ⟨rfl, hw⟩; subst w1))
              go_ret
              exact ⟨ret_int (by rw [HE.out]; rfl), rfl⟩
            · have hlt := hgs.lt
              have hb := hgs.byte hlt
              have nn : ¬ (pos s (b :: t) : Int) = (s.size : Int) := by omega
              have q1 : ¬ (b.toNat : Int) = 62 := fun e => hb1 (UInt8.toNat_inj.1 (by show b.toNat = 62; omega))
              have q2 : ¬ (b.toNat : Int) = 47 := fun e => hb2 (UInt8.toNat_inj.1 (by show b.toNat = 47; omega))
              have HE : Hid (finL r = none) := by show _ = _; rw [HF.out]; simp [endL, hb1, hb2]
              clear HF
              obtain ⟨l1, l2, l3⟩ := attr_no haf
              have m1 : ¬ (b.toNat : Int) = 95 := by omega
              have m2 : ¬ (b.toNat : Int) = 58 := by omega
              have m3 : ((b.toNat : Int) != 95) = true := by simpa using m1
              have m4 : ((b.toNat : Int) != 58) = true := by simpa using m2
              clear haf
              go_wp2_with (first
                | (go_at_call 35; refine (hgap.out _).mono ?_; rintro e w1 ⟨rfl, hw⟩; subst w1)
                | (go_at_call 28; refine (rletter_any _ _).mono ?_; rintro e w1 ⟨rfl, hw⟩; subst w1))
              go_ret
              exact ⟨ret_int (by rw [HE.out]; rfl), rfl⟩

          · have HF : Hid (finL r = match valL (t.dropWhile attrC) with | none => none | some q => finL q) := by show _ = _; rw [← h2.out, HFC.out, if_pos ⟨HLL.out, haf⟩]; cases valL (t.dropWhile attrC) <;> rfl
            clear HFC h2
            have hlt := hgs.lt
            have hb := hgs.byte hlt
            have nn : ¬ (pos s (b :: t) : Int) = (s.size : Int) := by omega
            have nnb : ((pos s (b :: t) : Int) == (s.size : Int)) = false := by rw [beq_eq_false_iff_ne]; exact nn
            have t1b : ((pos s (b :: t) : Int) == (pos s l' : Int)) = false := by rw [beq_eq_false_iff_ne]; exact t1
            have HAC : Hid (attrC b = true) := attrF_C haf
            rcases attr_yes haf with l1 | ⟨l1, l2⟩ | ⟨l1, l2, l3⟩
            · clear haf
              go_wp2_with (first
                | (go_at_call 35; refine (hgap.out _).mono ?_; rintro e w1 ⟨rfl, hw⟩; subst w1)
                | (go_at_call 28; refine (rletter_any _ _).mono ?_; rintro e w1 ⟨rfl, hw⟩; subst w1))
              go_loop [5] (fun A => ∃ l2 : List UInt8, A = .int .i64 (pos s l2 : Int) ∧ Hid (Suf s l2) ∧ Hid (l2.dropWhile attrC = t.dropWhile attrC) ∧ Hid (l2.length ≤ (b :: t).length)) (fun A => s.size - (intOf A).toNat)
              case atStart => exact ⟨b :: t, rfl, hgs, by show _ = _; rw [List.dropWhile_cons, if_pos HAC.out], Nat.le_refl _⟩
              case round =>
                obtain ⟨l2, rfl, k1, k2, k3⟩ := hrel
                cases l2 with
                | nil =>
                  have hp : pos s [] = s.size := pos_nil s
                  have HV : Hid (∀ w, Calls Tryd.prog 36 #[.string s, .int .i64 (s.size : Int)] w fun e w' => e = .returned (.int .i64 (s.size : Int)) ∧ w' = w) := fun w => by
                    have := rvalue_any s hs [] (Suf.nil s) w
                    rw [pos_nil] at this
                    exact this
                  have HFQ : Hid (finL [] = finL r) := by show _ = _; rw [HF.out, ← k2.out]; rfl
                  have hz0 : ¬ (s.size : Int) < 0 := by omega
                  go_wp2_with (go_at_call 36; refine (HV.out _).mono ?_; rintro e w1 ⟨rfl, hw⟩; subst w1)
                  go_round
                  case rel => exact ⟨[], by rw [pos_nil], Suf.nil s, HFQ.out⟩
                  case measure =>
                    have e2 := h1.out.sum
                    have e4 := HLL.out
                    simp [intOf]
                    simp at e4
                    omega
                | cons c u =>
                  have hlt3 := k1.out.lt
                  have hb3 := k1.out.byte hlt3
                  have hle3 : (pos s (c :: u) : Int) + 1 ≤ (s.size : Int) := by omega
                  have hsu3 := (show Hid _ from k1.out.succ)
                  rcases attrC_cases c with ⟨y1, c1⟩ | ⟨y1, c1, c2⟩ | ⟨c1, c2, y1⟩
                  · have HY : Hid (attrC c = true) := y1
                    clear y1
                    go_wp2_with (first
                        | (go_at_call 28; refine (rletter_any _ _).mono ?_; rintro e w1 ⟨rfl, hw⟩; subst w1)
                        | (go_at_call 29; refine (rdigit_any _ _).mono ?_; rintro e w1 ⟨rfl, hw⟩; subst w1))
                    go_round
                    case rel =>
                      refine ⟨u, ?_, k1.out.tail, ?_, ?_⟩
                      · rw [hsu3.out]; go_num
                      · show _ = _
                        rw [← k2.out, List.dropWhile_cons, if_pos HY.out]
                      · have h5 : (c :: u).length ≤ _ := k3.out
                        rw [List.length_cons] at h5
                        show u.length ≤ _
                        omega
                    case measure => simp [intOf]; omega

                  · have HY : Hid (attrC c = true) := y1
                    clear y1
                    go_wp2_with (first
                        | (go_at_call 28; refine (rletter_any _ _).mono ?_; rintro e w1 ⟨rfl, hw⟩; subst w1)
                        | (go_at_call 29; refine (rdigit_any _ _).mono ?_; rintro e w1 ⟨rfl, hw⟩; subst w1))
                    go_round
                    case rel =>
                      refine ⟨u, ?_, k1.out.tail, ?_, ?_⟩
                      · rw [hsu3.out]; go_num
                      · show _ = _
                        rw [← k2.out, List.dropWhile_cons, if_pos HY.out]
                      · have h5 : (c :: u).length ≤ _ := k3.out
                        rw [List.length_cons] at h5
                        show u.length ≤ _
                        omega
                    case measure => simp [intOf]; omega

                  · cases hac : attrC c
                    · have HEL : Hid (([95, 46, 58, 45] : List UInt8).elem c = false) := by show _ = _; rw [y1, hac]
                      have HDW : Hid (t.dropWhile attrC = c :: u) := by show _ = _; rw [← k2.out, List.dropWhile_cons, if_neg (by rw [hac]; decide)]
                      clear y1
                      have HVV := (show Hid _ from fun w => rvalue_any s hs (c :: u) k1.out w)
                      cases hv : valL (c :: u) with
                      | none =>
                        have HV : Hid (∀ w, Calls Tryd.prog 36 #[.string s, .int .i64 (pos s (c :: u) : Int)] w fun e w' => e = .returned (.int .i64 (-1)) ∧ w' = w) := fun w => by have := HVV.out w; rw [hv] at this; exact this
                        have HE : Hid (finL r = none) := by show _ = _; rw [HF.out, HDW.out, hv]
                        clear hv HVV
                        go_wp2_with (first
                            | (go_at_call 28; refine (rletter_any _ _).mono ?_; rintro e w1 ⟨rfl, hw⟩; subst w1)
                            | (go_at_call 29; refine (rdigit_any _ _).mono ?_; rintro e w1 ⟨rfl, hw⟩; subst w1)
                            | (go_at_call 30; refine (ramong_any _ (by decide) _ false HEL.out _).mono ?_; rintro e w1 ⟨rfl, hw⟩; subst w1)
                            | (go_at_call 36; refine (HV.out _).mono ?_; rintro e w1 ⟨rfl, hw⟩; subst w1))
                        go_ret
                        exact ⟨ret_int (by rw [HE.out]; rfl), rfl⟩
                      | some q =>
                        have HV : Hid (∀ w, Calls Tryd.prog 36 #[.string s, .int .i64 (pos s (c :: u) : Int)] w fun e w' => e = .returned (.int .i64 (pos s q : Int)) ∧ w' = w) := fun w => by have := HVV.out w; rw [hv] at this; exact this
                        have HFQ : Hid (finL q = finL r) := by show _ = _; rw [HF.out, HDW.out, hv]
                        have HQS : Hid (Suf s q) := by
                          have := valP_suf (c :: u)
                          unfold valP at this
                          rw [hv] at this
                          exact k1.out.of this
                        have HQL : Hid (q.length ≤ (b :: t).length) := Nat.le_trans (valL_le hv) k3.out
                        have hz0 : ¬ (pos s q : Int) < 0 := by omega
                        clear hv HVV
                        go_wp2_with (first
                            | (go_at_call 28; refine (rletter_any _ _).mono ?_; rintro e w1 ⟨rfl, hw⟩; subst w1)
                            | (go_at_call 29; refine (rdigit_any _ _).mono ?_; rintro e w1 ⟨rfl, hw⟩; subst w1)
                            | (go_at_call 30; refine (ramong_any _ (by decide) _ false HEL.out _).mono ?_; rintro e w1 ⟨rfl, hw⟩; subst w1)
                            | (go_at_call 36; refine (HV.out _).mono ?_; rintro e w1 ⟨rfl, hw⟩; subst w1))
                        go_round
                        case rel => exact ⟨q, rfl, HQS.out, HFQ.out⟩
                        case measure =>
                          have e1 := HQS.out.sum
                          have e2 := h1.out.sum
                          have e3 := HQL.out
                          have e4 := HLL.out
                          simp [intOf]
                          omega

                    · have HY : Hid (attrC c = true) := hac
                      have HEL : Hid (([95, 46, 58, 45] : List UInt8).elem c = true) := by show _ = _; rw [y1, hac]
                      clear y1 hac
                      go_wp2_with (first
                          | (go_at_call 28; refine (rletter_any _ _).mono ?_; rintro e w1 ⟨rfl, hw⟩; subst w1)
                          | (go_at_call 29; refine (rdigit_any _ _).mono ?_; rintro e w1 ⟨rfl, hw⟩; subst w1)
                          | (go_at_call 30; refine (ramong_any _ (by decide) _ true HEL.out _).mono ?_; rintro e w1 ⟨rfl, hw⟩; subst w1))
                      go_round
                      case rel =>
                        refine ⟨u, ?_, k1.out.tail, ?_, ?_⟩
                        · rw [hsu3.out]; go_num
                        · show _ = _
                          rw [← k2.out, List.dropWhile_cons, if_pos HY.out]
                        · have h5 : (c :: u).length ≤ _ := k3.out
                          rw [List.length_cons] at h5
                          show u.length ≤ _
                          omega
                      case measure => simp [intOf]; omega


            · have m1 : (b.toNat : Int) = 95 := by omega
              have m3 : ((b.toNat : Int) != 95) = false := by simp [m1]
              clear haf m1 l2
              go_wp2_with (first
                | (go_at_call 35; refine (hgap.out _).mono ?_; rintro e w1 ⟨rfl, hw⟩; subst w1)
                | (go_at_call 28; refine (rletter_any _ _).mono ?_; rintro e w1 ⟨rfl, hw⟩; subst w1))
              go_loop [5] (fun A => ∃ l2 : List UInt8, A = .int .i64 (pos s l2 : Int) ∧ Hid (Suf s l2) ∧ Hid (l2.dropWhile attrC = t.dropWhile attrC) ∧ Hid (l2.length ≤ (b :: t).length)) (fun A => s.size - (intOf A).toNat)
              case atStart => exact ⟨b :: t, rfl, hgs, by show _ = _; rw [List.dropWhile_cons, if_pos HAC.out], Nat.le_refl _⟩
              case round =>
                obtain ⟨l2, rfl, k1, k2, k3⟩ := hrel
                cases l2 with
                | nil =>
                  have hp : pos s [] = s.size := pos_nil s
                  have HV : Hid (∀ w, Calls Tryd.prog 36 #[.string s, .int .i64 (s.size : Int)] w fun e w' => e = .returned (.int .i64 (s.size : Int)) ∧ w' = w) := fun w => by
                    have := rvalue_any s hs [] (Suf.nil s) w
                    rw [pos_nil] at this
                    exact this
                  have HFQ : Hid (finL [] = finL r) := by show _ = _; rw [HF.out, ← k2.out]; rfl
                  have hz0 : ¬ (s.size : Int) < 0 := by omega
                  go_wp2_with (go_at_call 36; refine (HV.out _).mono ?_; rintro e w1 ⟨rfl, hw⟩; subst w1)
                  go_round
                  case rel => exact ⟨[], by rw [pos_nil], Suf.nil s, HFQ.out⟩
                  case measure =>
                    have e2 := h1.out.sum
                    have e4 := HLL.out
                    simp [intOf]
                    simp at e4
                    omega
                | cons c u =>
                  have hlt3 := k1.out.lt
                  have hb3 := k1.out.byte hlt3
                  have hle3 : (pos s (c :: u) : Int) + 1 ≤ (s.size : Int) := by omega
                  have hsu3 := (show Hid _ from k1.out.succ)
                  rcases attrC_cases c with ⟨y1, c1⟩ | ⟨y1, c1, c2⟩ | ⟨c1, c2, y1⟩
                  · have HY : Hid (attrC c = true) := y1
                    clear y1
                    go_wp2_with (first
                        | (go_at_call 28; refine (rletter_any _ _).mono ?_; rintro e w1 ⟨rfl, hw⟩; subst w1)
                        | (go_at_call 29; refine (rdigit_any _ _).mono ?_; rintro e w1 ⟨rfl, hw⟩; subst w1))
                    go_round
                    case rel =>
                      refine ⟨u, ?_, k1.out.tail, ?_, ?_⟩
                      · rw [hsu3.out]; go_num
                      · show _ = _
                        rw [← k2.out, List.dropWhile_cons, if_pos HY.out]
                      · have h5 : (c :: u).length ≤ _ := k3.out
                        rw [List.length_cons] at h5
                        show u.length ≤ _
                        omega
                    case measure => simp [intOf]; omega

                  · have HY : Hid (attrC c = true) := y1
                    clear y1
                    go_wp2_with (first
                        | (go_at_call 28; refine (rletter_any _ _).mono ?_; rintro e w1 ⟨rfl, hw⟩; subst w1)
                        | (go_at_call 29; refine (rdigit_any _ _).mono ?_; rintro e w1 ⟨rfl, hw⟩; subst w1))
                    go_round
                    case rel =>
                      refine ⟨u, ?_, k1.out.tail, ?_, ?_⟩
                      · rw [hsu3.out]; go_num
                      · show _ = _
                        rw [← k2.out, List.dropWhile_cons, if_pos HY.out]
                      · have h5 : (c :: u).length ≤ _ := k3.out
                        rw [List.length_cons] at h5
                        show u.length ≤ _
                        omega
                    case measure => simp [intOf]; omega

                  · cases hac : attrC c
                    · have HEL : Hid (([95, 46, 58, 45] : List UInt8).elem c = false) := by show _ = _; rw [y1, hac]
                      have HDW : Hid (t.dropWhile attrC = c :: u) := by show _ = _; rw [← k2.out, List.dropWhile_cons, if_neg (by rw [hac]; decide)]
                      clear y1
                      have HVV := (show Hid _ from fun w => rvalue_any s hs (c :: u) k1.out w)
                      cases hv : valL (c :: u) with
                      | none =>
                        have HV : Hid (∀ w, Calls Tryd.prog 36 #[.string s, .int .i64 (pos s (c :: u) : Int)] w fun e w' => e = .returned (.int .i64 (-1)) ∧ w' = w) := fun w => by have := HVV.out w; rw [hv] at this; exact this
                        have HE : Hid (finL r = none) := by show _ = _; rw [HF.out, HDW.out, hv]
                        clear hv HVV
                        go_wp2_with (first
                            | (go_at_call 28; refine (rletter_any _ _).mono ?_; rintro e w1 ⟨rfl, hw⟩; subst w1)
                            | (go_at_call 29; refine (rdigit_any _ _).mono ?_; rintro e w1 ⟨rfl, hw⟩; subst w1)
                            | (go_at_call 30; refine (ramong_any _ (by decide) _ false HEL.out _).mono ?_; rintro e w1 ⟨rfl, hw⟩; subst w1)
                            | (go_at_call 36; refine (HV.out _).mono ?_; rintro e w1 ⟨rfl, hw⟩; subst w1))
                        go_ret
                        exact ⟨ret_int (by rw [HE.out]; rfl), rfl⟩
                      | some q =>
                        have HV : Hid (∀ w, Calls Tryd.prog 36 #[.string s, .int .i64 (pos s (c :: u) : Int)] w fun e w' => e = .returned (.int .i64 (pos s q : Int)) ∧ w' = w) := fun w => by have := HVV.out w; rw [hv] at this; exact this
                        have HFQ : Hid (finL q = finL r) := by show _ = _; rw [HF.out, HDW.out, hv]
                        have HQS : Hid (Suf s q) := by
                          have := valP_suf (c :: u)
                          unfold valP at this
                          rw [hv] at this
                          exact k1.out.of this
                        have HQL : Hid (q.length ≤ (b :: t).length) := Nat.le_trans (valL_le hv) k3.out
                        have hz0 : ¬ (pos s q : Int) < 0 := by omega
                        clear hv HVV
                        go_wp2_with (first
                            | (go_at_call 28; refine (rletter_any _ _).mono ?_; rintro e w1 ⟨rfl, hw⟩; subst w1)
                            | (go_at_call 29; refine (rdigit_any _ _).mono ?_; rintro e w1 ⟨rfl, hw⟩; subst w1)
                            | (go_at_call 30; refine (ramong_any _ (by decide) _ false HEL.out _).mono ?_; rintro e w1 ⟨rfl, hw⟩; subst w1)
                            | (go_at_call 36; refine (HV.out _).mono ?_; rintro e w1 ⟨rfl, hw⟩; subst w1))
                        go_round
                        case rel => exact ⟨q, rfl, HQS.out, HFQ.out⟩
                        case measure =>
                          have e1 := HQS.out.sum
                          have e2 := h1.out.sum
                          have e3 := HQL.out
                          have e4 := HLL.out
                          simp [intOf]
                          omega

                    · have HY : Hid (attrC c = true) := hac
                      have HEL : Hid (([95, 46, 58, 45] : List UInt8).elem c = true) := by show _ = _; rw [y1, hac]
                      clear y1 hac
                      go_wp2_with (first
                          | (go_at_call 28; refine (rletter_any _ _).mono ?_; rintro e w1 ⟨rfl, hw⟩; subst w1)
                          | (go_at_call 29; refine (rdigit_any _ _).mono ?_; rintro e w1 ⟨rfl, hw⟩; subst w1)
                          | (go_at_call 30; refine (ramong_any _ (by decide) _ true HEL.out _).mono ?_; rintro e w1 ⟨rfl, hw⟩; subst w1))
                      go_round
                      case rel =>
                        refine ⟨u, ?_, k1.out.tail, ?_, ?_⟩
                        · rw [hsu3.out]; go_num
                        · show _ = _
                          rw [← k2.out, List.dropWhile_cons, if_pos HY.out]
                        · have h5 : (c :: u).length ≤ _ := k3.out
                          rw [List.length_cons] at h5
                          show u.length ≤ _
                          omega
                      case measure => simp [intOf]; omega


            · have m1 : ¬ (b.toNat : Int) = 95 := by omega
              have m3 : ((b.toNat : Int) != 95) = true := by simpa using m1
              have m2 : (b.toNat : Int) = 58 := by omega
              have m4 : ((b.toNat : Int) != 58) = false := by simp [m2]
              clear haf m1 m2 l2 l3
              go_wp2_with (first
                | (go_at_call 35; refine (hgap.out _).mono ?_; rintro e w1 ⟨rfl, hw⟩; subst w1)
                | (go_at_call 28; refine (rletter_any _ _).mono ?_; rintro e w1 ⟨rfl, hw⟩; subst w1))
              go_loop [5] (fun A => ∃ l2 : List UInt8, A = .int .i64 (pos s l2 : Int) ∧ Hid (Suf s l2) ∧ Hid (l2.dropWhile attrC = t.dropWhile attrC) ∧ Hid (l2.length ≤ (b :: t).length)) (fun A => s.size - (intOf A).toNat)
              case atStart => exact ⟨b :: t, rfl, hgs, by show _ = _; rw [List.dropWhile_cons, if_pos HAC.out], Nat.le_refl _⟩
              case round =>
                obtain ⟨l2, rfl, k1, k2, k3⟩ := hrel
                cases l2 with
                | nil =>
                  have hp : pos s [] = s.size := pos_nil s
                  have HV : Hid (∀ w, Calls Tryd.prog 36 #[.string s, .int .i64 (s.size : Int)] w fun e w' => e = .returned (.int .i64 (s.size : Int)) ∧ w' = w) := fun w => by
                    have := rvalue_any s hs [] (Suf.nil s) w
                    rw [pos_nil] at this
                    exact this
                  have HFQ : Hid (finL [] = finL r) := by show _ = _; rw [HF.out, ← k2.out]; rfl
                  have hz0 : ¬ (s.size : Int) < 0 := by omega
                  go_wp2_with (go_at_call 36; refine (HV.out _).mono ?_; rintro e w1 ⟨rfl, hw⟩; subst w1)
                  go_round
                  case rel => exact ⟨[], by rw [pos_nil], Suf.nil s, HFQ.out⟩
                  case measure =>
                    have e2 := h1.out.sum
                    have e4 := HLL.out
                    simp [intOf]
                    simp at e4
                    omega
                | cons c u =>
                  have hlt3 := k1.out.lt
                  have hb3 := k1.out.byte hlt3
                  have hle3 : (pos s (c :: u) : Int) + 1 ≤ (s.size : Int) := by omega
                  have hsu3 := (show Hid _ from k1.out.succ)
                  rcases attrC_cases c with ⟨y1, c1⟩ | ⟨y1, c1, c2⟩ | ⟨c1, c2, y1⟩
                  · have HY : Hid (attrC c = true) := y1
                    clear y1
                    go_wp2_with (first
                        | (go_at_call 28; refine (rletter_any _ _).mono ?_; rintro e w1 ⟨rfl, hw⟩; subst w1)
                        | (go_at_call 29; refine (rdigit_any _ _).mono ?_; rintro e w1 ⟨rfl, hw⟩; subst w1))
                    go_round
                    case rel =>
                      refine ⟨u, ?_, k1.out.tail, ?_, ?_⟩
                      · rw [hsu3.out]; go_num
                      · show _ = _
                        rw [← k2.out, List.dropWhile_cons, if_pos HY.out]
                      · have h5 : (c :: u).length ≤ _ := k3.out
                        rw [List.length_cons] at h5
                        show u.length ≤ _
                        omega
                    case measure => simp [intOf]; omega

                  · have HY : Hid (attrC c = true) := y1
                    clear y1
                    go_wp2_with (first
                        | (go_at_call 28; refine (rletter_any _ _).mono ?_; rintro e w1 ⟨rfl, hw⟩; subst w1)
                        | (go_at_call 29; refine (rdigit_any _ _).mono ?_; rintro e w1 ⟨rfl, hw⟩; subst w1))
                    go_round
                    case rel =>
                      refine ⟨u, ?_, k1.out.tail, ?_, ?_⟩
                      · rw [hsu3.out]; go_num
                      · show _ = _
                        rw [← k2.out, List.dropWhile_cons, if_pos HY.out]
                      · have h5 : (c :: u).length ≤ _ := k3.out
                        rw [List.length_cons] at h5
                        show u.length ≤ _
                        omega
                    case measure => simp [intOf]; omega

                  · cases hac : attrC c
                    · have HEL : Hid (([95, 46, 58, 45] : List UInt8).elem c = false) := by show _ = _; rw [y1, hac]
                      have HDW : Hid (t.dropWhile attrC = c :: u) := by show _ = _; rw [← k2.out, List.dropWhile_cons, if_neg (by rw [hac]; decide)]
                      clear y1
                      have HVV := (show Hid _ from fun w => rvalue_any s hs (c :: u) k1.out w)
                      cases hv : valL (c :: u) with
                      | none =>
                        have HV : Hid (∀ w, Calls Tryd.prog 36 #[.string s, .int .i64 (pos s (c :: u) : Int)] w fun e w' => e = .returned (.int .i64 (-1)) ∧ w' = w) := fun w => by have := HVV.out w; rw [hv] at this; exact this
                        have HE : Hid (finL r = none) := by show _ = _; rw [HF.out, HDW.out, hv]
                        clear hv HVV
                        go_wp2_with (first
                            | (go_at_call 28; refine (rletter_any _ _).mono ?_; rintro e w1 ⟨rfl, hw⟩; subst w1)
                            | (go_at_call 29; refine (rdigit_any _ _).mono ?_; rintro e w1 ⟨rfl, hw⟩; subst w1)
                            | (go_at_call 30; refine (ramong_any _ (by decide) _ false HEL.out _).mono ?_; rintro e w1 ⟨rfl, hw⟩; subst w1)
                            | (go_at_call 36; refine (HV.out _).mono ?_; rintro e w1 ⟨rfl, hw⟩; subst w1))
                        go_ret
                        exact ⟨ret_int (by rw [HE.out]; rfl), rfl⟩
                      | some q =>
                        have HV : Hid (∀ w, Calls Tryd.prog 36 #[.string s, .int .i64 (pos s (c :: u) : Int)] w fun e w' => e = .returned (.int .i64 (pos s q : Int)) ∧ w' = w) := fun w => by have := HVV.out w; rw [hv] at this; exact this
                        have HFQ : Hid (finL q = finL r) := by show _ = _; rw [HF.out, HDW.out, hv]
                        have HQS : Hid (Suf s q) := by
                          have := valP_suf (c :: u)
                          unfold valP at this
                          rw [hv] at this
                          exact k1.out.of this
                        have HQL : Hid (q.length ≤ (b :: t).length) := Nat.le_trans (valL_le hv) k3.out
                        have hz0 : ¬ (pos s q : Int) < 0 := by omega
                        clear hv HVV
                        go_wp2_with (first
                            | (go_at_call 28; refine (rletter_any _ _).mono ?_; rintro e w1 ⟨rfl, hw⟩; subst w1)
                            | (go_at_call 29; refine (rdigit_any _ _).mono ?_; rintro e w1 ⟨rfl, hw⟩; subst w1)
                            | (go_at_call 30; refine (ramong_any _ (by decide) _ false HEL.out _).mono ?_; rintro e w1 ⟨rfl, hw⟩; subst w1)
                            | (go_at_call 36; refine (HV.out _).mono ?_; rintro e w1 ⟨rfl, hw⟩; subst w1))
                        go_round
                        case rel => exact ⟨q, rfl, HQS.out, HFQ.out⟩
                        case measure =>
                          have e1 := HQS.out.sum
                          have e2 := h1.out.sum
                          have e3 := HQL.out
                          have e4 := HLL.out
                          simp [intOf]
                          omega

                    · have HY : Hid (attrC c = true) := hac
                      have HEL : Hid (([95, 46, 58, 45] : List UInt8).elem c = true) := by show _ = _; rw [y1, hac]
                      clear y1 hac
                      go_wp2_with (first
                          | (go_at_call 28; refine (rletter_any _ _).mono ?_; rintro e w1 ⟨rfl, hw⟩; subst w1)
                          | (go_at_call 29; refine (rdigit_any _ _).mono ?_; rintro e w1 ⟨rfl, hw⟩; subst w1)
                          | (go_at_call 30; refine (ramong_any _ (by decide) _ true HEL.out _).mono ?_; rintro e w1 ⟨rfl, hw⟩; subst w1))
                      go_round
                      case rel =>
                        refine ⟨u, ?_, k1.out.tail, ?_, ?_⟩
                        · rw [hsu3.out]; go_num
                        · show _ = _
                          rw [← k2.out, List.dropWhile_cons, if_pos HY.out]
                        · have h5 : (c :: u).length ≤ _ := k3.out
                          rw [List.length_cons] at h5
                          show u.length ≤ _
                          omega
                      case measure => simp [intOf]; omega



end Go.Proofs.YtegjpfhpkkffiaaDoor
