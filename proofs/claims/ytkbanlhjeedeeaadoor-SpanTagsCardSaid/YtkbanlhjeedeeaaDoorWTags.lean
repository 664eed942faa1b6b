/- SpanTags, walked: a tag is as long as it is written. -/
import Derived.Test.YtkbanlhjeedeeaaDoorWLinks
import Derived.BigRegion
set_option linter.unusedVariables false
namespace Go.Proofs.YtkbanlhjeedeeaaDoor.spanTags
open Go.RowKit

/-- A text that is a tag, whatever stands behind it. -/
theorem ans_is (w0 : World) {X y : ByteArray} (h : tagL (X.data.toList ++ y.data.toList) = some y.data.toList) (h0 : 0 < X.size) (hX : X.size ≤ 3000) (hy : y.size ≤ 140737488351232) :
    Ans w0 14 #[.string (X ++ y)] (.int .i64 (X.size : Int)) ∧ Ans w0 16 #[.string (X ++ y)] (.int .i64 (X.size : Int)) := by
  obtain ⟨h1, h2⟩ := tag_len h (by rw [len_data]; exact h0)
  rw [len_data] at h1
  have hs : (X ++ y).size ≤ 9223372036854775000 := by rw [ByteArray.size_append]; omega
  exact ⟨ans_tag w0 hs (by rw [app_data]; exact h1), ans_rawtag w0 hs h0 (by rw [app_data]; exact h1)⟩

theorem ans_alone (w0 : World) {X : ByteArray} (h : tagL (X.data.toList ++ []) = some []) (h0 : 0 < X.size) (hX : X.size ≤ 3000) : Ans w0 16 #[.string X] (.int .i64 (X.size : Int)) := by
  obtain ⟨h1, h2⟩ := tag_len h (by rw [len_data]; exact h0)
  rw [len_data, List.append_nil] at h1
  exact ans_rawtag w0 (by omega) h0 h1

theorem ans_without (w0 : World) {s bad : ByteArray} (hs : (s.size : Int) ≤ 140737488351232) (hbad : bad.size ≤ 9) {most : Nat} (hmost : most ≤ 2000) (w : World) (h : Fwd w0 w) :
    Calls Tryd.prog 19 #[.string s, .string bad, .int .i64 (most : Int)] w fun e w' => ∃ L : ByteArray, e = .returned (.string L) ∧ Lacks bad.data.toList L.data.toList ∧ L.size ≤ most ∧ Fwd w0 w' := by
  refine (without_any s bad hs hbad most hmost w h.1).mono ?_
  rintro e w2 ⟨l, rfl, h1, h2, h3⟩
  exact ⟨⟨l.toArray⟩, rfl, by rw [list_data]; exact h1, by rw [size_list]; exact h2, h.below h3⟩

theorem pick2 (l : List Value) (P : Nat → ByteArray → Prop) (hl : ∀ j, j < l.length → ∃ V, l[j]? = some (.string V) ∧ P j V) (m : Nat) (hm : m < l.length) : ∃ V, l[m] = .string V ∧ P m V := by
  obtain ⟨V, h1, h2⟩ := hl m hm
  rw [List.getElem?_eq_getElem hm] at h1
  exact ⟨V, Option.some.inj h1, h2⟩

theorem size3 (a b c : ByteArray) : (a ++ b ++ c).size = a.size + b.size + c.size := by rw [ByteArray.size_append, ByteArray.size_append]

theorem fwd_alloc {w0 w : World} (h : Fwd w0 w) (o : Obj) : Fwd w0 (w.alloc o) := h.below ((Below.refl _ _).alloc (Nat.le_refl _) _)
theorem fwd3 {w0 w : World} (h : Fwd w0 w) (o1 o2 o3 : Obj) : Fwd w0 ((((w.alloc o1).alloc o2).alloc o3).drew) := (fwd_alloc (fwd_alloc (fwd_alloc h o1) o2) o3).drewN 1
theorem fwd3' {w0 w : World} (h : Fwd w0 w) (o1 o2 o3 : Obj) : Fwd w0 ((((w.alloc o1).alloc o2).drew).alloc o3) := fwd_alloc ((fwd_alloc (fwd_alloc h o1) o2).drewN 1) o3

/-- The values: none, in quotes of either kind, without quotes. -/
theorem pickV {P Q : ByteArray} (hP : Lacks [39] P.data.toList) (hPs : P.size ≤ 500) (hQ : Lacks [34] Q.data.toList) (hQs : Q.size ≤ 500) (m : Nat) (hm : m < 4) :
    ∃ V : ByteArray, (∀ W : World, (W.alloc (.cells #[.string ⟨#[]⟩, .string (ByteArray.mk #[61, 39] ++ P ++ ByteArray.mk #[39]), .string (ByteArray.mk #[32, 61, 9, 34] ++ Q ++ ByteArray.mk #[34]), .string ⟨#[61, 118]⟩] 9)).cell? ⟨W.heap.size, m, none⟩ = some (.string V)) ∧ (V.size ≤ 510 ∧ ∀ e, (m = 3 → e ≠ [47, 62]) → IsVal V.data.toList e) := by
  have hc : ∀ (W : World) (j : Nat) (u : Value), ([.string ⟨#[]⟩, .string (ByteArray.mk #[61, 39] ++ P ++ ByteArray.mk #[39]), .string (ByteArray.mk #[32, 61, 9, 34] ++ Q ++ ByteArray.mk #[34]), .string ⟨#[61, 118]⟩] : List Value)[j]? = some u → (W.alloc (.cells #[.string ⟨#[]⟩, .string (ByteArray.mk #[61, 39] ++ P ++ ByteArray.mk #[39]), .string (ByteArray.mk #[32, 61, 9, 34] ++ Q ++ ByteArray.mk #[34]), .string ⟨#[61, 118]⟩] 9)).cell? ⟨W.heap.size, j, none⟩ = some u := fun W j u hj => by
    have := lit_cells W _ 9 j u hj
    rwa [add_lit'] at this
  have s1 : (ByteArray.mk #[61, 39]).size = 2 := rfl
  have s2 : (ByteArray.mk #[39]).size = 1 := rfl
  have s3 : (ByteArray.mk #[32, 61, 9, 34]).size = 4 := rfl
  have s4 : (ByteArray.mk #[34]).size = 1 := rfl
  match m, hm with
  | 0, _ => exact ⟨_, fun W => hc W 0 _ rfl, by decide, fun e _ => .inl rfl⟩
  | 1, _ => exact ⟨_, fun W => hc W 1 _ rfl, by rw [size3]; omega, fun e _ => .inr (.inl ⟨P.data.toList, by rw [app_data, app_data]; rfl, fun c h => hP c h 39 (by simp)⟩)⟩
  | 2, _ => exact ⟨_, fun W => hc W 2 _ rfl, by rw [size3]; omega, fun e _ => .inr (.inr (.inl ⟨Q.data.toList, by rw [app_data, app_data]; rfl, fun c h => hQ c h 34 (by simp)⟩))⟩
  | 3, _ => exact ⟨_, fun W => hc W 3 _ rfl, by decide, fun e he => .inr (.inr (.inr ⟨rfl, he rfl⟩))⟩

/-- An opening tag. -/
theorem open_is {L G A V E y : ByteArray} {n a : List UInt8} (hL : L.data.toList = [97] ++ n) (hn : AllW n) (hA : A.data.toList = [98] ++ a) (ha : AllW a) (hG : IsGap G.data.toList) (hE : IsEnd E.data.toList) (hV : IsVal V.data.toList E.data.toList) : tagL ((ByteArray.mk #[60] ++ L ++ G ++ A ++ V ++ E).data.toList ++ y.data.toList) = some y.data.toList := by
  have := tag_open hn hG ha hV hE y.data.toList
  rw [app_data, app_data, app_data, app_data, app_data, hL, hA, show (ByteArray.mk #[60]).data.toList = [60] from rfl]
  simpa using this
theorem bare_is {L y : ByteArray} {n : List UInt8} (hL : L.data.toList = [97] ++ n) (hn : AllW n) : tagL ((ByteArray.mk #[60] ++ L ++ ByteArray.mk #[62]).data.toList ++ y.data.toList) = some y.data.toList := by
  have := tag_bare hn y.data.toList
  rw [app_data, app_data, hL, show (ByteArray.mk #[60]).data.toList = [60] from rfl, show (ByteArray.mk #[62]).data.toList = [62] from rfl]
  simpa using this
theorem close_is {L K : ByteArray} {n : List UInt8} (hL : L.data.toList = [97] ++ n) (hn : AllW n) (hK : K.data.toList = [62] ∨ K.data.toList = [32, 62] ∨ K.data.toList = [10, 62]) (y : List UInt8) : tagL ((ByteArray.mk #[60, 47] ++ L ++ K).data.toList ++ y) = some y := by
  have := tag_close hn hK y
  rw [app_data, app_data, hL, show (ByteArray.mk #[60, 47]).data.toList = [60, 47] from rfl]
  simpa using this

theorem rem_nat (N : Int) (h : 0 ≤ N) (k : Nat) (hk : 0 < k) : ∃ m : Nat, m < k ∧ N % (k : Int) = (m : Int) := by
  refine ⟨(N % (k : Int)).toNat, ?_, ?_⟩
  · have := Int.emod_lt_of_pos N (show (0 : Int) < (k : Int) by omega)
    have := Int.emod_nonneg N (show (k : Int) ≠ 0 by omega)
    omega
  · have := Int.emod_nonneg N (show (k : Int) ≠ 0 by omega)
    omega

set_option maxHeartbeats 8000000 in
set_option maxRecDepth 8000 in
theorem walk (s0 : ByteArray) (w0 : s0.size ≤ 140737488351232) (s1 : ByteArray) (w1 : s1.size ≤ 140737488351232) (s2 : ByteArray) (w2 : s2.size ≤ 140737488351232) (a3 : Int) (w3 : -9223372036854775808 ≤ a3 ∧ a3 ≤ 9223372036854775807) (s4 : ByteArray) (w4 : s4.size ≤ 140737488351232) (w : World) (hm : ML w) :
    Calls Tryd.prog 6 #[.string s0, .string s1, .string s2, .int .i64 a3, .string s4] w fun e w' => e = .returned (.bool true) ∧ Below w.heap.size w w' := by
  have HS := (show Hid _ from ans_shown w)
  have h0 := Fwd.start hm
  have HW1 : Hid (∀ w', Fwd w w' → Calls Tryd.prog 18 #[.string ⟨#[97]⟩, .string s0, .int .i64 50] w' fun e w2 => ∃ L : ByteArray, e = .returned (.string L) ∧ (∃ l, L.data.toList = [97] ++ l ∧ AllW l) ∧ L.size ≤ 50 ∧ Fwd w w2) := fun w' h => spanLinks.ans_word w (f := ⟨#[97]⟩) (s := s0) (by decide) (by omega) (most := 50) (by decide) (by decide) w' h
  have HW2 : Hid (∀ w', Fwd w w' → Calls Tryd.prog 18 #[.string ⟨#[98]⟩, .string s1, .int .i64 50] w' fun e w2 => ∃ L : ByteArray, e = .returned (.string L) ∧ (∃ l, L.data.toList = [98] ++ l ∧ AllW l) ∧ L.size ≤ 50 ∧ Fwd w w2) := fun w' h => spanLinks.ans_word w (f := ⟨#[98]⟩) (s := s1) (by decide) (by omega) (most := 50) (by decide) (by decide) w' h
  have HO1 : Hid (∀ w', Fwd w w' → Calls Tryd.prog 19 #[.string s2, .string ⟨#[39]⟩, .int .i64 500] w' fun e w2 => ∃ L : ByteArray, e = .returned (.string L) ∧ Lacks [39] L.data.toList ∧ L.size ≤ 500 ∧ Fwd w w2) := fun w' h => ans_without w (s := s2) (bad := ⟨#[39]⟩) (by omega) (by decide) (most := 500) (by decide) w' h
  have HO2 : Hid (∀ w', Fwd w w' → Calls Tryd.prog 19 #[.string s2, .string ⟨#[34]⟩, .int .i64 500] w' fun e w2 => ∃ L : ByteArray, e = .returned (.string L) ∧ Lacks [34] L.data.toList ∧ L.size ≤ 500 ∧ Fwd w w2) := fun w' h => ans_without w (s := s2) (bad := ⟨#[34]⟩) (by omega) (by decide) (most := 500) (by decide) w' h
  have W4 := (show Hid _ from w4)
  have z4 : (s4.size : Int) ≤ 140737488351232 := by omega
  obtain ⟨wl, wu⟩ := w3
  obtain ⟨N, hN0, hNe⟩ : ∃ N : Int, 0 ≤ N ∧ N = (if a3 < 0 then -(a3 + 1) else a3) := by
    by_cases hn : a3 < 0
    · exact ⟨-(a3 + 1), by omega, by rw [if_pos hn]⟩
    · exact ⟨a3, by omega, by rw [if_neg hn]⟩
  clear w0 w1 w2 w4 hm
  by_cases hneg : a3 < 0
  · rw [if_pos hneg] at hNe
    go_enter Tryd.func6, Tryd.ntmps6
    go_wp2_with (go_at_call 9; refine (HS.out _ h0).mono ?_; rintro e wa ⟨rfl, ha⟩)
    clear h0 HS
    go_wp2_with (go_at_call_of 18 (Value.string ⟨#[97]⟩); refine (HW1.out _ ha).mono ?_; rintro e wb ⟨L, rfl, hL, hLs, hb⟩)
    clear ha HW1
    go_wp2_with (go_at_call_of 18 (Value.string ⟨#[98]⟩); refine (HW2.out _ hb).mono ?_; rintro e wc ⟨A, rfl, hA, hAs, hc⟩)
    clear hb HW2
    go_wp2_with (go_at_call_of 19 (Value.string ⟨#[39]⟩); refine (HO1.out _ hc).mono ?_; rintro e wd ⟨P, rfl, hP, hPs, hd⟩)
    clear hc HO1
    rw [← hNe]
    obtain ⟨m4, hm4, em4⟩ := rem_nat N hN0 4 (by decide)
    obtain ⟨d3, hd3, ed3⟩ := rem_nat (N / 4) (Int.ediv_nonneg hN0 (by decide)) 3 (by decide)
    obtain ⟨e4, he4, ee4⟩ := rem_nat (N / 12) (Int.ediv_nonneg hN0 (by decide)) 4 (by decide)
    obtain ⟨m3, hm3, em3⟩ := rem_nat N hN0 3 (by decide)
    have em4' : N % 4 = (m4 : Int) := em4
    have i4 : (m4 : Int) < 4 := by omega
    have hNu : N ≤ 9223372036854775807 := by omega
    clear hNe wl wu
    go_wp2_with (go_at_call_of 19 (Value.string ⟨#[34]⟩); refine (HO2.out _ hd).mono ?_; rintro e we ⟨Q, rfl, hQ, hQs, he⟩; obtain ⟨V, cV, pV⟩ := pickV hP hPs hQ hQs m4 hm4; have cV1 := cV we; clear cV)
    obtain ⟨wx, hwx⟩ : ∃ wx, wx = we.alloc (Obj.cells #[Value.string ⟨#[]⟩, Value.string (ByteArray.mk #[61, 39] ++ P ++ ByteArray.mk #[39]), Value.string (ByteArray.mk #[32, 61, 9, 34] ++ Q ++ ByteArray.mk #[34]), Value.string ⟨#[61, 118]⟩] 9) := ⟨_, rfl⟩
    have hx : Fwd w wx := by rw [hwx]; exact he.below ((Below.refl _ _).alloc (Nat.le_refl _) _)
    rw [← hwx]
    obtain ⟨G, cG, pG⟩ := pick2 [.string ⟨#[32]⟩, .string ⟨#[10]⟩, .string ⟨#[32, 9, 32]⟩] (fun _ G => G.size ≤ 3 ∧ IsGap G.data.toList) (by
      intro j hj
      match j, hj with
      | 0, _ => exact ⟨_, rfl, by decide, .inl rfl⟩
      | 1, _ => exact ⟨_, rfl, by decide, .inr (.inl rfl)⟩
      | 2, _ => exact ⟨_, rfl, by decide, .inr (.inr rfl)⟩) d3 hd3
    obtain ⟨E, cE, pE⟩ := pick2 [.string ⟨#[62]⟩, .string ⟨#[32, 62]⟩, .string ⟨#[47, 62]⟩, .string ⟨#[32, 47, 62]⟩] (fun j E => E.size ≤ 3 ∧ IsEnd E.data.toList ∧ (j ≠ 2 → E.data.toList ≠ [47, 62])) (by
      intro j hj
      match j, hj with
      | 0, _ => exact ⟨_, rfl, by decide, .inl rfl, fun _ => by decide⟩
      | 1, _ => exact ⟨_, rfl, by decide, .inr (.inl rfl), fun _ => by decide⟩
      | 2, _ => exact ⟨_, rfl, by decide, .inr (.inr (.inl rfl)), fun h => absurd rfl h⟩
      | 3, _ => exact ⟨_, rfl, by decide, .inr (.inr (.inr rfl)), fun _ => by decide⟩) e4 he4
    obtain ⟨K, cK, pK⟩ := pick2 [.string ⟨#[62]⟩, .string ⟨#[32, 62]⟩, .string ⟨#[10, 62]⟩] (fun _ K => K.size ≤ 2 ∧ (K.data.toList = [62] ∨ K.data.toList = [32, 62] ∨ K.data.toList = [10, 62])) (by
      intro j hj
      match j, hj with
      | 0, _ => exact ⟨_, rfl, by decide, .inl rfl⟩
      | 1, _ => exact ⟨_, rfl, by decide, .inr (.inl rfl)⟩
      | 2, _ => exact ⟨_, rfl, by decide, .inr (.inr rfl)⟩) m3 hm3
    have ed3' : N / 4 % 3 = (d3 : Int) := ed3
    have ee4' : N / 12 % 4 = (e4 : Int) := ee4
    have em3' : N % 3 = (m3 : Int) := em3
    have i3 : (d3 : Int) < 3 := by omega
    have i5 : (e4 : Int) < 4 := by omega
    have i6 : (m3 : Int) < 3 := by omega
    have l2 := pV.1
    have l3 := pG.1
    have l4 := pE.1
    have l5 := pK.1
    obtain ⟨n, hL, hn⟩ := hL
    obtain ⟨a, hA, haa⟩ := hA
    have k1 : (ByteArray.mk #[60]).size = 1 := rfl
    have k2 : (ByteArray.mk #[62]).size = 1 := rfl
    have k3 : (ByteArray.mk #[60, 47]).size = 2 := rfl
    have HC1 : Hid (Ans w 14 #[.string (ByteArray.mk #[60, 47] ++ L ++ K ++ s4)] (.int .i64 ((ByteArray.mk #[60, 47] ++ L ++ K).size : Int))) := (ans_is w (X := ByteArray.mk #[60, 47] ++ L ++ K) (y := s4) (close_is hL hn pK.2 _) (by rw [size3]; omega) (by rw [size3]; omega) W4.out).1
    have HC2 : Hid (Ans w 16 #[.string (ByteArray.mk #[60, 47] ++ L ++ K)] (.int .i64 ((ByteArray.mk #[60, 47] ++ L ++ K).size : Int))) := ans_alone w (X := ByteArray.mk #[60, 47] ++ L ++ K) (close_is hL hn pK.2 _) (by rw [size3]; omega) (by rw [size3]; omega)
    by_cases hbare : m4 = 3 ∧ e4 = 2
    · obtain ⟨b1, b2⟩ := hbare
      have t1 : ((m4 : Int) == 3) = true := by rw [beq_iff_eq]; omega
      have t2 : ((e4 : Int) == 2) = true := by rw [beq_iff_eq]; omega
      obtain ⟨x1, x2⟩ := ans_is w (X := ByteArray.mk #[60] ++ L ++ ByteArray.mk #[62]) (y := s4) (bare_is hL hn) (by rw [size3]; omega) (by rw [size3]; omega) W4.out
      have HX1 := (show Hid _ from x1)
      have HX2 := (show Hid _ from x2)
      clear hwx cV1 he HO2 ed3 ee4 em4 em3 hd x1 x2 hL hn hA haa pV pG pE pK hP hQ k1 k2 k3 b1 b2
      go_region
      all_goals
        go_wp2_with (go_at_call_of 14 (Value.string (ByteArray.mk #[60] ++ L ++ ByteArray.mk #[62] ++ s4)); refine (HX1.out _ (by first | exact fwd3 hx _ _ _ | exact fwd3' hx _ _ _)).mono ?_; rintro e wf ⟨rfl, hf⟩)
        go_wp2_with (go_at_call_of 16 (Value.string (ByteArray.mk #[60] ++ L ++ ByteArray.mk #[62] ++ s4)); refine (HX2.out _ hf).mono ?_; rintro e wg ⟨rfl, hg⟩)
        go_wp2_with (go_at_call_of 14 (Value.string (ByteArray.mk #[60, 47] ++ L ++ K ++ s4)); refine (HC1.out _ hg).mono ?_; rintro e wh ⟨rfl, hh⟩)
        go_wp2_with (go_at_call_of 16 (Value.string (ByteArray.mk #[60, 47] ++ L ++ K)); refine (HC2.out _ hh).mono ?_; rintro e wi ⟨rfl, hi⟩)
        go_ret
        have hbe := hi.2
        refine ⟨?_, hbe⟩
        kernel_rfl
    · have HVv : IsVal V.data.toList E.data.toList := pV.2 _ (fun h3 => pE.2.2 (fun h2 => hbare ⟨h3, h2⟩))
      obtain ⟨x1, x2⟩ := ans_is w (X := ByteArray.mk #[60] ++ L ++ G ++ A ++ V ++ E) (y := s4) (open_is hL hn hA haa pG.2 pE.2.1 HVv) (by rw [size3, size3, ByteArray.size_append]; omega) (by rw [size3, size3, ByteArray.size_append]; omega) W4.out
      have HX1 := (show Hid _ from x1)
      have HX2 := (show Hid _ from x2)
      have hbare' : ((m4 : Int) == 3) = false ∨ (((m4 : Int) == 3) = true ∧ ((e4 : Int) == 2) = false) := by
        by_cases h3 : m4 = 3
        · right; exact ⟨by rw [beq_iff_eq]; omega, by rw [beq_eq_false_iff_ne]; omega⟩
        · left; rw [beq_eq_false_iff_ne]; omega
      clear hwx cV1 he HO2 ed3 ee4 em4 em3 hd x1 x2 hL hn hA haa pV pG pE pK hP hQ k1 k2 k3 HVv hbare
      rcases hbare' with t1 | ⟨t1, t2⟩
      · go_region
        all_goals
          go_wp2_with (go_at_call_of 14 (Value.string (ByteArray.mk #[60] ++ L ++ G ++ A ++ V ++ E ++ s4)); refine (HX1.out _ (by first | exact fwd3 hx _ _ _ | exact fwd3' hx _ _ _)).mono ?_; rintro e wf ⟨rfl, hf⟩)
          go_wp2_with (go_at_call_of 16 (Value.string (ByteArray.mk #[60] ++ L ++ G ++ A ++ V ++ E ++ s4)); refine (HX2.out _ hf).mono ?_; rintro e wg ⟨rfl, hg⟩)
          go_wp2_with (go_at_call_of 14 (Value.string (ByteArray.mk #[60, 47] ++ L ++ K ++ s4)); refine (HC1.out _ hg).mono ?_; rintro e wh ⟨rfl, hh⟩)
          go_wp2_with (go_at_call_of 16 (Value.string (ByteArray.mk #[60, 47] ++ L ++ K)); refine (HC2.out _ hh).mono ?_; rintro e wi ⟨rfl, hi⟩)
          go_ret
          have hbe := hi.2
          refine ⟨?_, hbe⟩
          kernel_rfl
      · go_region
        all_goals
          go_wp2_with (go_at_call_of 14 (Value.string (ByteArray.mk #[60] ++ L ++ G ++ A ++ V ++ E ++ s4)); refine (HX1.out _ (by first | exact fwd3 hx _ _ _ | exact fwd3' hx _ _ _)).mono ?_; rintro e wf ⟨rfl, hf⟩)
          go_wp2_with (go_at_call_of 16 (Value.string (ByteArray.mk #[60] ++ L ++ G ++ A ++ V ++ E ++ s4)); refine (HX2.out _ hf).mono ?_; rintro e wg ⟨rfl, hg⟩)
          go_wp2_with (go_at_call_of 14 (Value.string (ByteArray.mk #[60, 47] ++ L ++ K ++ s4)); refine (HC1.out _ hg).mono ?_; rintro e wh ⟨rfl, hh⟩)
          go_wp2_with (go_at_call_of 16 (Value.string (ByteArray.mk #[60, 47] ++ L ++ K)); refine (HC2.out _ hh).mono ?_; rintro e wi ⟨rfl, hi⟩)
          go_ret
          have hbe := hi.2
          refine ⟨?_, hbe⟩
          kernel_rfl
  · rw [if_neg hneg] at hNe
    subst hNe
    go_enter Tryd.func6, Tryd.ntmps6
    go_wp2_with (go_at_call 9; refine (HS.out _ h0).mono ?_; rintro e wa ⟨rfl, ha⟩)
    clear h0 HS
    go_wp2_with (go_at_call_of 18 (Value.string ⟨#[97]⟩); refine (HW1.out _ ha).mono ?_; rintro e wb ⟨L, rfl, hL, hLs, hb⟩)
    clear ha HW1
    go_wp2_with (go_at_call_of 18 (Value.string ⟨#[98]⟩); refine (HW2.out _ hb).mono ?_; rintro e wc ⟨A, rfl, hA, hAs, hc⟩)
    clear hb HW2
    go_wp2_with (go_at_call_of 19 (Value.string ⟨#[39]⟩); refine (HO1.out _ hc).mono ?_; rintro e wd ⟨P, rfl, hP, hPs, hd⟩)
    clear hc HO1
    obtain ⟨m4, hm4, em4⟩ := rem_nat N hN0 4 (by decide)
    obtain ⟨d3, hd3, ed3⟩ := rem_nat (N / 4) (Int.ediv_nonneg hN0 (by decide)) 3 (by decide)
    obtain ⟨e4, he4, ee4⟩ := rem_nat (N / 12) (Int.ediv_nonneg hN0 (by decide)) 4 (by decide)
    obtain ⟨m3, hm3, em3⟩ := rem_nat N hN0 3 (by decide)
    have em4' : N % 4 = (m4 : Int) := em4
    have i4 : (m4 : Int) < 4 := by omega
    have hNu : N ≤ 9223372036854775807 := by omega
    clear wl wu
    go_wp2_with (go_at_call_of 19 (Value.string ⟨#[34]⟩); refine (HO2.out _ hd).mono ?_; rintro e we ⟨Q, rfl, hQ, hQs, he⟩; obtain ⟨V, cV, pV⟩ := pickV hP hPs hQ hQs m4 hm4; have cV1 := cV we; clear cV)
    obtain ⟨wx, hwx⟩ : ∃ wx, wx = we.alloc (Obj.cells #[Value.string ⟨#[]⟩, Value.string (ByteArray.mk #[61, 39] ++ P ++ ByteArray.mk #[39]), Value.string (ByteArray.mk #[32, 61, 9, 34] ++ Q ++ ByteArray.mk #[34]), Value.string ⟨#[61, 118]⟩] 9) := ⟨_, rfl⟩
    have hx : Fwd w wx := by rw [hwx]; exact he.below ((Below.refl _ _).alloc (Nat.le_refl _) _)
    rw [← hwx]
    obtain ⟨G, cG, pG⟩ := pick2 [.string ⟨#[32]⟩, .string ⟨#[10]⟩, .string ⟨#[32, 9, 32]⟩] (fun _ G => G.size ≤ 3 ∧ IsGap G.data.toList) (by
      intro j hj
      match j, hj with
      | 0, _ => exact ⟨_, rfl, by decide, .inl rfl⟩
      | 1, _ => exact ⟨_, rfl, by decide, .inr (.inl rfl)⟩
      | 2, _ => exact ⟨_, rfl, by decide, .inr (.inr rfl)⟩) d3 hd3
    obtain ⟨E, cE, pE⟩ := pick2 [.string ⟨#[62]⟩, .string ⟨#[32, 62]⟩, .string ⟨#[47, 62]⟩, .string ⟨#[32, 47, 62]⟩] (fun j E => E.size ≤ 3 ∧ IsEnd E.data.toList ∧ (j ≠ 2 → E.data.toList ≠ [47, 62])) (by
      intro j hj
      match j, hj with
      | 0, _ => exact ⟨_, rfl, by decide, .inl rfl, fun _ => by decide⟩
      | 1, _ => exact ⟨_, rfl, by decide, .inr (.inl rfl), fun _ => by decide⟩
      | 2, _ => exact ⟨_, rfl, by decide, .inr (.inr (.inl rfl)), fun h => absurd rfl h⟩
      | 3, _ => exact ⟨_, rfl, by decide, .inr (.inr (.inr rfl)), fun _ => by decide⟩) e4 he4
    obtain ⟨K, cK, pK⟩ := pick2 [.string ⟨#[62]⟩, .string ⟨#[32, 62]⟩, .string ⟨#[10, 62]⟩] (fun _ K => K.size ≤ 2 ∧ (K.data.toList = [62] ∨ K.data.toList = [32, 62] ∨ K.data.toList = [10, 62])) (by
      intro j hj
      match j, hj with
      | 0, _ => exact ⟨_, rfl, by decide, .inl rfl⟩
      | 1, _ => exact ⟨_, rfl, by decide, .inr (.inl rfl)⟩
      | 2, _ => exact ⟨_, rfl, by decide, .inr (.inr rfl)⟩) m3 hm3
    have ed3' : N / 4 % 3 = (d3 : Int) := ed3
    have ee4' : N / 12 % 4 = (e4 : Int) := ee4
    have em3' : N % 3 = (m3 : Int) := em3
    have i3 : (d3 : Int) < 3 := by omega
    have i5 : (e4 : Int) < 4 := by omega
    have i6 : (m3 : Int) < 3 := by omega
    have l2 := pV.1
    have l3 := pG.1
    have l4 := pE.1
    have l5 := pK.1
    obtain ⟨n, hL, hn⟩ := hL
    obtain ⟨a, hA, haa⟩ := hA
    have k1 : (ByteArray.mk #[60]).size = 1 := rfl
    have k2 : (ByteArray.mk #[62]).size = 1 := rfl
    have k3 : (ByteArray.mk #[60, 47]).size = 2 := rfl
    have HC1 : Hid (Ans w 14 #[.string (ByteArray.mk #[60, 47] ++ L ++ K ++ s4)] (.int .i64 ((ByteArray.mk #[60, 47] ++ L ++ K).size : Int))) := (ans_is w (X := ByteArray.mk #[60, 47] ++ L ++ K) (y := s4) (close_is hL hn pK.2 _) (by rw [size3]; omega) (by rw [size3]; omega) W4.out).1
    have HC2 : Hid (Ans w 16 #[.string (ByteArray.mk #[60, 47] ++ L ++ K)] (.int .i64 ((ByteArray.mk #[60, 47] ++ L ++ K).size : Int))) := ans_alone w (X := ByteArray.mk #[60, 47] ++ L ++ K) (close_is hL hn pK.2 _) (by rw [size3]; omega) (by rw [size3]; omega)
    by_cases hbare : m4 = 3 ∧ e4 = 2
    · obtain ⟨b1, b2⟩ := hbare
      have t1 : ((m4 : Int) == 3) = true := by rw [beq_iff_eq]; omega
      have t2 : ((e4 : Int) == 2) = true := by rw [beq_iff_eq]; omega
      obtain ⟨x1, x2⟩ := ans_is w (X := ByteArray.mk #[60] ++ L ++ ByteArray.mk #[62]) (y := s4) (bare_is hL hn) (by rw [size3]; omega) (by rw [size3]; omega) W4.out
      have HX1 := (show Hid _ from x1)
      have HX2 := (show Hid _ from x2)
      clear hwx cV1 he HO2 ed3 ee4 em4 em3 hd x1 x2 hL hn hA haa pV pG pE pK hP hQ k1 k2 k3 b1 b2
      go_region
      all_goals
        go_wp2_with (go_at_call_of 14 (Value.string (ByteArray.mk #[60] ++ L ++ ByteArray.mk #[62] ++ s4)); refine (HX1.out _ (by first | exact fwd3 hx _ _ _ | exact fwd3' hx _ _ _)).mono ?_; rintro e wf ⟨rfl, hf⟩)
        go_wp2_with (go_at_call_of 16 (Value.string (ByteArray.mk #[60] ++ L ++ ByteArray.mk #[62] ++ s4)); refine (HX2.out _ hf).mono ?_; rintro e wg ⟨rfl, hg⟩)
        go_wp2_with (go_at_call_of 14 (Value.string (ByteArray.mk #[60, 47] ++ L ++ K ++ s4)); refine (HC1.out _ hg).mono ?_; rintro e wh ⟨rfl, hh⟩)
        go_wp2_with (go_at_call_of 16 (Value.string (ByteArray.mk #[60, 47] ++ L ++ K)); refine (HC2.out _ hh).mono ?_; rintro e wi ⟨rfl, hi⟩)
        go_ret
        have hbe := hi.2
        refine ⟨?_, hbe⟩
        kernel_rfl
    · have HVv : IsVal V.data.toList E.data.toList := pV.2 _ (fun h3 => pE.2.2 (fun h2 => hbare ⟨h3, h2⟩))
      obtain ⟨x1, x2⟩ := ans_is w (X := ByteArray.mk #[60] ++ L ++ G ++ A ++ V ++ E) (y := s4) (open_is hL hn hA haa pG.2 pE.2.1 HVv) (by rw [size3, size3, ByteArray.size_append]; omega) (by rw [size3, size3, ByteArray.size_append]; omega) W4.out
      have HX1 := (show Hid _ from x1)
      have HX2 := (show Hid _ from x2)
      have hbare' : ((m4 : Int) == 3) = false ∨ (((m4 : Int) == 3) = true ∧ ((e4 : Int) == 2) = false) := by
        by_cases h3 : m4 = 3
        · right; exact ⟨by rw [beq_iff_eq]; omega, by rw [beq_eq_false_iff_ne]; omega⟩
        · left; rw [beq_eq_false_iff_ne]; omega
      clear hwx cV1 he HO2 ed3 ee4 em4 em3 hd x1 x2 hL hn hA haa pV pG pE pK hP hQ k1 k2 k3 HVv hbare
      rcases hbare' with t1 | ⟨t1, t2⟩
      · go_region
        all_goals
          go_wp2_with (go_at_call_of 14 (Value.string (ByteArray.mk #[60] ++ L ++ G ++ A ++ V ++ E ++ s4)); refine (HX1.out _ (by first | exact fwd3 hx _ _ _ | exact fwd3' hx _ _ _)).mono ?_; rintro e wf ⟨rfl, hf⟩)
          go_wp2_with (go_at_call_of 16 (Value.string (ByteArray.mk #[60] ++ L ++ G ++ A ++ V ++ E ++ s4)); refine (HX2.out _ hf).mono ?_; rintro e wg ⟨rfl, hg⟩)
          go_wp2_with (go_at_call_of 14 (Value.string (ByteArray.mk #[60, 47] ++ L ++ K ++ s4)); refine (HC1.out _ hg).mono ?_; rintro e wh ⟨rfl, hh⟩)
          go_wp2_with (go_at_call_of 16 (Value.string (ByteArray.mk #[60, 47] ++ L ++ K)); refine (HC2.out _ hh).mono ?_; rintro e wi ⟨rfl, hi⟩)
          go_ret
          have hbe := hi.2
          refine ⟨?_, hbe⟩
          kernel_rfl
      · go_region
        all_goals
          go_wp2_with (go_at_call_of 14 (Value.string (ByteArray.mk #[60] ++ L ++ G ++ A ++ V ++ E ++ s4)); refine (HX1.out _ (by first | exact fwd3 hx _ _ _ | exact fwd3' hx _ _ _)).mono ?_; rintro e wf ⟨rfl, hf⟩)
          go_wp2_with (go_at_call_of 16 (Value.string (ByteArray.mk #[60] ++ L ++ G ++ A ++ V ++ E ++ s4)); refine (HX2.out _ hf).mono ?_; rintro e wg ⟨rfl, hg⟩)
          go_wp2_with (go_at_call_of 14 (Value.string (ByteArray.mk #[60, 47] ++ L ++ K ++ s4)); refine (HC1.out _ hg).mono ?_; rintro e wh ⟨rfl, hh⟩)
          go_wp2_with (go_at_call_of 16 (Value.string (ByteArray.mk #[60, 47] ++ L ++ K)); refine (HC2.out _ hh).mono ?_; rintro e wi ⟨rfl, hi⟩)
          go_ret
          have hbe := hi.2
          refine ⟨?_, hbe⟩
          kernel_rfl

end Go.Proofs.YtkbanlhjeedeeaaDoor.spanTags
