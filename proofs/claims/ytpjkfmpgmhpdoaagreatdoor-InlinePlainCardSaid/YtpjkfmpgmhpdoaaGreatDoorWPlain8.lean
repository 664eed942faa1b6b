/- InlinePlain: what means nothing is text; walked. -/
import Derived.Test.YtpjkfmpgmhpdoaaGreatDoorWCode8
import Derived.Test.YtpjkfmpgmhpdoaaGreatDoorG05
set_option linter.unusedVariables false
namespace Go.Proofs.YtpjkfmpgmhpdoaaGreatDoor
open Go.RowKit

theorem ishort_any (l : Str8) (hs : l.length ≤ 140737488351232) (w : World) :
    Calls Tryz.prog 12 #[strI l] w fun e w' => e = .returned (strI (l.take 4096)) ∧ w' = w := by
  by_cases h : 4096 < l.length
  · have hi : (4096 : Int) < (l.length : Int) := by omega
    have hi2 : (4096 : Int) ≤ (l.length : Int) := by omega
    have hx : (ByteArray.mk l.toArray).extract 0 4096 = ⟨(l.take 4096).toArray⟩ := by
      rw [extract_eq, list_data]
      rfl
    go_enter Tryz.func12, Tryz.ntmps12
    go_wp2
    go_ret
    exact ⟨rfl, rfl⟩
  · have hi : ¬ (4096 : Int) < (l.length : Int) := by omega
    go_enter Tryz.func12, Tryz.ntmps12
    go_wp2
    go_ret
    exact ⟨by rw [List.take_of_length_le (by omega)]; rfl, rfl⟩

set_option maxHeartbeats 2000000 in
theorem imark_any (c : Nat) (w : World) :
    Calls Tryz.prog 14 #[.int .i64 (c : Int)] w fun e w' => e = .returned (.bool (markN c)) ∧ w' = w := by
  have hc : c < 33 ∨ (33 ≤ c ∧ c ≤ 47) ∨ (47 < c ∧ c < 58) ∨ (58 ≤ c ∧ c ≤ 64) ∨ (64 < c ∧ c < 91) ∨ (91 ≤ c ∧ c ≤ 96) ∨ (96 < c ∧ c < 123) ∨ (123 ≤ c ∧ c ≤ 126) ∨ 126 < c := by omega
  rcases hc with h | ⟨h, h'⟩ | ⟨h, h'⟩ | ⟨h, h'⟩ | ⟨h, h'⟩ | ⟨h, h'⟩ | ⟨h, h'⟩ | ⟨h, h'⟩ | h
  all_goals
    go_enter Tryz.func14, Tryz.ntmps14
    go_wp2
    go_ret
    exact ⟨ret_bool (by unfold markN; rw [Bool.eq_iff_iff]; simp; omega), rfl⟩

def plaB (c : UInt8) : Bool := !markN c.toNat && c != 10
def plaT (l : Str8) (k : Nat) : Str8 := (l.take k).filter plaB
def plaU (l : Str8) (k : Nat) : Str8 := (l.take k).filter (· != 10)
def plaE (l : Str8) (k : Nat) : Str8 := (plaU l k).flatMap markB'
theorem plaT_next {l : Str8} {k : Nat} {z : UInt8} (h : l[k]? = some z) : plaT l (k + 1) = plaT l k ++ (if plaB z = true then [z] else []) := by
  unfold plaT
  rw [List.take_add_one, h, List.filter_append]
  cases hz : plaB z <;> simp [hz]
theorem plaU_next {l : Str8} {k : Nat} {z : UInt8} (h : l[k]? = some z) : plaU l (k + 1) = plaU l k ++ (if (z != 10) = true then [z] else []) := by
  unfold plaU
  rw [List.take_add_one, h, List.filter_append]
  cases hz : (z != 10) <;> simp [hz]
theorem plaE_next {l : Str8} {k : Nat} {z : UInt8} (h : l[k]? = some z) : plaE l (k + 1) = plaE l k ++ (if (z != 10) = true then markB' z else []) := by
  unfold plaE
  rw [plaU_next h, List.flatMap_append]
  cases hz : (z != 10) <;> simp
theorem plaT_len (l : Str8) (k : Nat) : (plaT l k).length ≤ k := by
  have h1 := List.length_filter_le plaB (l.take k)
  rw [List.length_take] at h1
  unfold plaT
  omega
theorem plaU_len (l : Str8) (k : Nat) : (plaU l k).length ≤ k := by
  have h1 := List.length_filter_le (fun c : UInt8 => c != 10) (l.take k)
  rw [List.length_take] at h1
  unfold plaU
  omega
theorem plaE_len (l : Str8) (k : Nat) : (plaE l k).length ≤ 2 * k := by
  have h1 := flat_len (g := markB') (k := 2) (fun c => by unfold markB'; split <;> simp) (plaU l k)
  have h2 := plaU_len l k
  unfold plaE
  omega

/-- Parse where its answer is one text or none. -/
theorem iparse_one (L T : Str8) (hl : L.length ≤ 1073741824) (hp : parseI L [] = withT T .nil) (w : World) (hg : Glob w) : Calls Tryz.prog 11 #[strI L, .slice none 0 0] w fun e w' => ((T = [] ∧ ∃ a c, e = .returned (.slice a 0 c)) ∨ (T ≠ [] ∧ ∃ g c, e = .returned (.slice (some ⟨g, 0, none⟩) 1 c) ∧ w'.cell? ⟨g, 0, none⟩ = some (.int .i64 0) ∧ w'.cell? ⟨g, 1, none⟩ = some (strW T) ∧ g < w'.heap.size)) ∧ Below w.heap.size w w' := by
  refine (iparse_nil L hl w hg).mono ?_
  rintro e w' ⟨v', rfl, ⟨ys, hr, hk⟩, hb⟩
  rw [hp] at hr hk
  refine ⟨?_, hb⟩
  by_cases h : T = []
  · subst h
    obtain ⟨a, c, rfl⟩ := row_len hr
    exact Or.inl ⟨rfl, a, c, rfl⟩
  · refine Or.inr ⟨h, ?_⟩
    have ew : withT T .nil = .cons { text := T } .nil .nil := by unfold withT; rw [if_neg h]
    rw [ew] at hr hk
    obtain ⟨a, c, rfl⟩ := row_len hr
    obtain ⟨v0, _, _, hx0, _, _, _, hx1⟩ := hk
    subst hx1
    subst hx0
    obtain ⟨g, rfl, hg0, q0⟩ := row_cell hr (j := 0) rfl
    obtain ⟨g', e, hg1, q1⟩ := row_cell hr (j := 1) rfl
    cases e
    exact ⟨g, c, rfl, q0, q1, hg1⟩

set_option maxHeartbeats 8000000 in
set_option maxRecDepth 20000 in
theorem wplain8 (s0 : ByteArray) (w0 : s0.size ≤ 140737488351232) (w : World) (hm : Glob w) :
    Calls Tryz.prog 4 #[.string s0] w fun e w' => e = .returned (.bool true) ∧ Below w.heap.size w w' := by
  obtain ⟨l0, hl0⟩ : ∃ l0 : Str8, s0 = ⟨l0.toArray⟩ := ⟨s0.data.toList, by simp⟩
  subst hl0
  rw [size_list] at w0
  have HS : Hid (Calls Tryz.prog 9 #[] w fun e w' => e = .returned (.bool true) ∧ Below w.heap.size w w') := ishown_any w hm
  have HG := (show Hid (Glob w) from hm)
  have h3 := hm.2.2
  obtain ⟨l, hl⟩ : ∃ l, l = l0.take 4096 := ⟨_, rfl⟩
  have hll : l.length ≤ 4096 := by rw [hl, List.length_take]; omega
  have HSh : Hid (∀ u, Calls Tryz.prog 12 #[strI l0] u fun e w' => e = .returned (strI l) ∧ w' = u) := fun u => by rw [hl]; exact ishort_any l0 w0 u
  have HP : Hid (∀ (u : World) (L T : Str8), Below w.heap.size w u → L.length ≤ 1073741824 → parseI L [] = withT T .nil → Calls Tryz.prog 11 #[strI L, .slice none 0 0] u fun e w' => ((T = [] ∧ ∃ a c, e = .returned (.slice a 0 c)) ∨ (T ≠ [] ∧ ∃ g c, e = .returned (.slice (some ⟨g, 0, none⟩) 1 c) ∧ w'.cell? ⟨g, 0, none⟩ = some (.int .i64 0) ∧ w'.cell? ⟨g, 1, none⟩ = some (strW T) ∧ g < w'.heap.size)) ∧ Below u.heap.size u w') := fun u L T hu hL hp => iparse_one L T hL hp u (HG.out.below h3 hu)
  clear hm hl
  go_enter Tryz.func4, Tryz.ntmps4
  go_wp2_with (first | (go_at_call 9; refine Calls.mono HS.out ?_; rintro e u1 ⟨rfl, hb1⟩; have HB1 := (show Hid (Below _ _ _) from hb1); clear hb1) | (go_at_call 12; refine Calls.mono (HSh.out _) ?_; rintro e u2 ⟨rfl, hu2⟩; subst hu2))
  go_loopw [4, 6, 5, 7] (fun t u e i wr => ∃ (k : Nat) (T U E : Str8), i = .int .i64 (k : Int) ∧ k ≤ l.length ∧ t = strI T ∧ u = strI U ∧ e = strI E ∧ Hid (T = plaT l k) ∧ Hid (U = plaU l k) ∧ Hid (E = plaE l k) ∧ wr = u2) (fun _ _ _ i _ => l.length - (intOf i).toNat)
  case atStart => exact ⟨0, [], [], [], rfl, Nat.zero_le _, rfl, rfl, rfl, rfl, rfl, rfl, rfl⟩
  case round =>
    obtain ⟨k, T, U, E, rfl, hk, rfl, rfl, rfl, HT, HU, HE, hw⟩ := hrel
    subst hw
    have hTl : T.length ≤ k := by rw [HT.out]; exact plaT_len l k
    have hUl : U.length ≤ k := by rw [HU.out]; exact plaU_len l k
    have hEl : E.length ≤ 2 * k := by rw [HE.out]; exact plaE_len l k
    by_cases hlt : k < l.length
    · have hlt1 : (k : Int) < (l.length : Int) := by omega
      obtain ⟨z, hz⟩ : ∃ z, l[k]? = some z := ⟨_, List.getElem?_eq_getElem hlt⟩
      have hsz : k < (ByteArray.mk l.toArray).size := by rw [size_list]; exact hlt
      have hby : (ByteArray.mk l.toArray)[k]'hsz = z := by
        rw [byte_at, list_data, List.getD_eq_getElem?_getD, hz]
        rfl
      have hx : (ByteArray.mk l.toArray).extract k (k + 1) = ⟨#[z]⟩ := by
        rw [extract_eq, list_data]
        have hd : l.drop k = z :: l.drop (k + 1) := by rw [List.drop_eq_getElem_cons hlt]; rw [(List.getElem?_eq_some_iff.1 hz).2]
        rw [hd, show k + 1 - k = 1 by omega]
        rfl
      have HNT : Hid (plaT l (k + 1) = T ++ (if plaB z = true then [z] else [])) := by rw [HT.out]; exact plaT_next hz
      have HNU : Hid (plaU l (k + 1) = U ++ (if (z != 10) = true then [z] else [])) := by rw [HU.out]; exact plaU_next hz
      have HNE : Hid (plaE l (k + 1) = E ++ (if (z != 10) = true then markB' z else [])) := by rw [HE.out]; exact plaE_next hz
      have HM : Hid (∀ u, Calls Tryz.prog 14 #[.int .i64 (z.toNat : Int)] u fun e w' => e = .returned (.bool (markN z.toNat)) ∧ w' = u) := fun u => imark_any z.toNat u
      have hkl : (k : Int) ≤ 4096 := by omega
      have hzb : (z.toNat : Int) ≤ 255 := by have := z.toNat_lt; omega
      have hwz : IntKind.i64.wrap (z.toNat : Int) = (z.toNat : Int) := by rw [IntKind.wrap_i64]; omega
      clear HT HU HE hz
      by_cases h10 : z = 10
      · subst h10
        clear hzb hwz
        have hmf : markN (10 : UInt8).toNat = false := by decide
        rw [hmf] at HM
        have hlo : ¬ plaB 10 = true := by decide
        have HNT2 : Hid (T = plaT l (k + 1)) := by show _ = _; rw [HNT.out, if_neg hlo, List.append_nil]
        have HNU2 : Hid (U = plaU l (k + 1)) := by show _ = _; rw [HNU.out, if_neg (by decide), List.append_nil]
        have HNE2 : Hid (E = plaE l (k + 1)) := by show _ = _; rw [HNE.out, if_neg (by decide), List.append_nil]
        clear hmf hlo HNT HNU HNE
        go_wp2_with (go_at_call 14; refine Calls.mono (HM.out _) ?_; rintro e u3 ⟨rfl, hu3⟩; subst hu3)
        go_roundw
        case rel => exact ⟨k + 1, T, U, E, by go_num, by omega, rfl, rfl, rfl, HNT2, HNU2, HNE2, by first | rfl | trivial⟩
        case measure => simp [intOf]; omega
      · have i2 : ¬ (z.toNat : Int) = 10 := fun e => h10 (UInt8.toNat_inj.1 (by have : (10 : UInt8).toNat = 10 := rfl; omega))
        have i2b : ((z.toNat : Int) != 10) = true := by simpa using i2
        have hz10 : (z != 10) = true := by simpa using h10
        have d1 := sadd8 U [z] (by simp only [List.length_cons, List.length_nil]; omega)
        have HNU2 : Hid (U ++ [z] = plaU l (k + 1)) := by show _ = _; rw [HNU.out, if_pos hz10]
        cases hmk : markN z.toNat
        · rw [hmk] at HM
          have hlo : plaB z = true := by simp [plaB, hmk, h10]
          have HNT2 : Hid (T ++ [z] = plaT l (k + 1)) := by show _ = _; rw [HNT.out, if_pos hlo]
          have HNE2 : Hid (E ++ [z] = plaE l (k + 1)) := by show _ = _; rw [HNE.out, if_pos hz10, show markB' z = [z] by unfold markB'; rw [if_neg (by rw [hmk]; simp)]]
          have d2 := sadd8 T [z] (by simp only [List.length_cons, List.length_nil]; omega)
          have d3 := sadd8 E [z] (by simp only [List.length_cons, List.length_nil]; omega)
          clear hmk hlo HNT HNU HNE hz10 h10
          go_wp2_with (go_at_call 14; refine Calls.mono (HM.out _) ?_; rintro e u3 ⟨rfl, hu3⟩; subst hu3)
          go_roundw
          case rel => exact ⟨k + 1, T ++ [z], U ++ [z], E ++ [z], by go_num, by omega, rfl, rfl, rfl, HNT2, HNU2, HNE2, by first | rfl | trivial⟩
          case measure => simp [intOf]; omega
        · rw [hmk] at HM
          have hlo : ¬ plaB z = true := by simp [plaB, hmk]
          have HNT2 : Hid (T = plaT l (k + 1)) := by show _ = _; rw [HNT.out, if_neg hlo, List.append_nil]
          have HNE2 : Hid (E ++ [92, z] = plaE l (k + 1)) := by show _ = _; rw [HNE.out, if_pos hz10, show markB' z = [92, z] by unfold markB'; rw [if_pos hmk]]
          have d2 := sadd8 E [92] (by simp only [List.length_cons, List.length_nil]; omega)
          have d3 := sadd8 (E ++ [92]) [z] (by simp only [List.length_append, List.length_cons, List.length_nil]; omega)
          clear hmk hlo HNT HNU HNE hz10 h10
          go_wp2_with (go_at_call 14; refine Calls.mono (HM.out _) ?_; rintro e u3 ⟨rfl, hu3⟩; subst hu3)
          go_roundw
          case rel => exact ⟨k + 1, T, U ++ [z], E ++ [92, z], by go_num, by omega, rfl, rfl, rfl, HNT2, HNU2, HNE2, by first | rfl | trivial⟩
          case measure => simp [intOf]; omega
    · have hlt1 : ¬ (k : Int) < (l.length : Int) := by omega
      have hpT : parseI T [] = withT T .nil := by
        rw [HT.out]
        refine plain_parse _ (fun c hc => ?_) []
        have := (List.mem_filter.1 hc).2
        simp only [plaB, Bool.and_eq_true, Bool.not_eq_true', bne_iff_ne, ne_eq] at this
        exact ⟨this.2, this.1⟩
      have hpE : parseI E [] = withT U .nil := by
        rw [HE.out, HU.out]
        refine esc_parse _ (fun c hc => ?_) []
        have := (List.mem_filter.1 hc).2
        simpa using this
      have HQ1 : Hid (∀ u, Below w.heap.size w u → Calls Tryz.prog 11 #[strI T, .slice none 0 0] u fun e w' => ((T = [] ∧ ∃ a c, e = .returned (.slice a 0 c)) ∨ (T ≠ [] ∧ ∃ g c, e = .returned (.slice (some ⟨g, 0, none⟩) 1 c) ∧ w'.cell? ⟨g, 0, none⟩ = some (.int .i64 0) ∧ w'.cell? ⟨g, 1, none⟩ = some (strW T) ∧ g < w'.heap.size)) ∧ Below u.heap.size u w') := fun u hu => HP.out u T T hu (by omega) hpT
      have HQ2 : Hid (∀ u, Below w.heap.size w u → Calls Tryz.prog 11 #[strI E, .slice none 0 0] u fun e w' => ((U = [] ∧ ∃ a c, e = .returned (.slice a 0 c)) ∨ (U ≠ [] ∧ ∃ g c, e = .returned (.slice (some ⟨g, 0, none⟩) 1 c) ∧ w'.cell? ⟨g, 0, none⟩ = some (.int .i64 0) ∧ w'.cell? ⟨g, 1, none⟩ = some (strW U) ∧ g < w'.heap.size)) ∧ Below u.heap.size u w') := fun u hu => HP.out u E U hu (by omega) hpE
      have hTU : U = [] → T = [] := fun h => by
        rw [HU.out] at h
        rw [HT.out]
        unfold plaU at h
        unfold plaT
        rw [List.filter_eq_nil_iff] at h ⊢
        intro c hc hp
        refine h c hc ?_
        simp only [plaB, Bool.and_eq_true] at hp
        exact hp.2
      clear hpT hpE HP HT HU HE hlt
      by_cases hT0 : T = []
      · subst hT0
        have HR1 : Hid (∀ u, Below w.heap.size w u → Calls Tryz.prog 11 #[strI [], .slice none 0 0] u fun e w' => ∃ a c, e = .returned (.slice a 0 c) ∧ Below w.heap.size w w') := fun u hu => (HQ1.out u hu).mono fun e w' ⟨h, hb⟩ => by
          rcases h with ⟨_, a, c, h⟩ | ⟨h, _⟩
          · exact ⟨a, c, h, hu.trans (hb.mono hu.size)⟩
          · exact absurd rfl h
        by_cases hU0 : U = []
        · subst hU0
          have HR2 : Hid (∀ u, Below w.heap.size w u → Calls Tryz.prog 11 #[strI E, .slice none 0 0] u fun e w' => ∃ a c, e = .returned (.slice a 0 c) ∧ Below w.heap.size w w') := fun u hu => (HQ2.out u hu).mono fun e w' ⟨h, hb⟩ => by
            rcases h with ⟨_, a, c, h⟩ | ⟨h, _⟩
            · exact ⟨a, c, h, hu.trans (hb.mono hu.size)⟩
            · exact absurd rfl h
          clear HQ1 HQ2 hTU
          go_wp2_with (first | (go_at_call 11; refine Calls.mono (HR1.out _ HB1.out) ?_; rintro e u3 ⟨a3, c3, rfl, hb3⟩; have HB3 := (show Hid (Below _ _ _) from hb3); clear hb3 HR1) | (go_at_call 11; refine Calls.mono (HR2.out _ HB3.out) ?_; rintro e u4 ⟨a4, c4, rfl, hb4⟩; have HB4 := (show Hid (Below _ _ _) from hb4); clear hb4))
          go_ret
          exact ⟨rfl, HB4.out⟩
        · have hU1 : (U == []) = false := by simpa using hU0
          have hU2 : (U == U) = true := by simp
          have HR2 : Hid (∀ u, Below w.heap.size w u → Calls Tryz.prog 11 #[strI E, .slice none 0 0] u fun e w' => ∃ g c, e = .returned (.slice (some ⟨g, 0, none⟩) 1 c) ∧ (w'.cell? ⟨g, 0, none⟩ = some (.int .i64 0) ∧ w'.cell? ⟨g, 1, none⟩ = some (strW U)) ∧ Below w.heap.size w w') := fun u hu => (HQ2.out u hu).mono fun e w' ⟨h, hb⟩ => by
            rcases h with ⟨h, _⟩ | ⟨_, g, c, h, q0, q1, _⟩
            · exact absurd h hU0
            · exact ⟨g, c, h, ⟨q0, q1⟩, hu.trans (hb.mono hu.size)⟩
          clear HQ1 HQ2 hU0 hTU
          go_wp2_with (first | (go_at_call 11; refine Calls.mono (HR1.out _ HB1.out) ?_; rintro e u3 ⟨a3, c3, rfl, hb3⟩; have HB3 := (show Hid (Below _ _ _) from hb3); clear hb3 HR1) | (go_at_call 11; refine Calls.mono (HR2.out _ HB3.out) ?_; rintro e u4 ⟨g4, c4, rfl, ⟨q0, q1⟩, hb4⟩; have HB4 := (show Hid (Below _ _ _) from hb4); clear hb4))
          go_ret
          exact ⟨rfl, HB4.out⟩
      · have hU0 : U ≠ [] := fun h => hT0 (hTU h)
        have hU1 : (U == []) = false := by simpa using hU0
        have hT1 : (T == []) = false := by simpa using hT0
        have hU2 : (U == U) = true := by simp
        have hT2 : (T == T) = true := by simp
        have HR1 : Hid (∀ u, Below w.heap.size w u → Calls Tryz.prog 11 #[strI T, .slice none 0 0] u fun e w' => ∃ g c, e = .returned (.slice (some ⟨g, 0, none⟩) 1 c) ∧ (g < w'.heap.size ∧ w'.cell? ⟨g, 0, none⟩ = some (.int .i64 0) ∧ w'.cell? ⟨g, 1, none⟩ = some (strW T)) ∧ Below w.heap.size w w') := fun u hu => (HQ1.out u hu).mono fun e w' ⟨h, hb⟩ => by
          rcases h with ⟨h, _⟩ | ⟨_, g, c, h, q0, q1, q2⟩
          · exact absurd h hT0
          · exact ⟨g, c, h, ⟨q2, q0, q1⟩, hu.trans (hb.mono hu.size)⟩
        have HR2 : Hid (∀ u, Below w.heap.size w u → Calls Tryz.prog 11 #[strI E, .slice none 0 0] u fun e w' => ∃ g c, e = .returned (.slice (some ⟨g, 0, none⟩) 1 c) ∧ (w'.cell? ⟨g, 0, none⟩ = some (.int .i64 0) ∧ w'.cell? ⟨g, 1, none⟩ = some (strW U) ∧ Below u.heap.size u w') ∧ Below w.heap.size w w') := fun u hu => (HQ2.out u hu).mono fun e w' ⟨h, hb⟩ => by
          rcases h with ⟨h, _⟩ | ⟨_, g, c, h, q0, q1, _⟩
          · exact absurd h hU0
          · exact ⟨g, c, h, ⟨q0, q1, hb⟩, hu.trans (hb.mono hu.size)⟩
        clear HQ1 HQ2 hU0 hT0 hTU
        go_wp2_with (first | (go_at_call 11; refine Calls.mono (HR1.out _ HB1.out) ?_; rintro e u3 ⟨g3, c3, rfl, ⟨p2, p0, p1⟩, hb3⟩; have HB3 := (show Hid (Below _ _ _) from hb3); clear hb3 HR1) | (go_at_call 11; refine Calls.mono (HR2.out _ HB3.out) ?_; rintro e u4 ⟨g4, c4, rfl, ⟨q0, q1, hbb⟩, hb4⟩; have HB4 := (show Hid (Below _ _ _) from hb4); have r0 := (hbb.cell (p := ⟨g3, 0, none⟩) p2).trans p0; have r1 := (hbb.cell (p := ⟨g3, 1, none⟩) p2).trans p1; clear hb4 hbb p0 p1 p2))
        go_ret
        exact ⟨rfl, HB4.out⟩
end Go.Proofs.YtpjkfmpgmhpdoaaGreatDoor
