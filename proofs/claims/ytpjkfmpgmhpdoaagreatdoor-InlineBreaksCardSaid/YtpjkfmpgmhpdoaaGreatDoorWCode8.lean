/- InlineCode: what stands between grave accents is code; walked. -/
import Derived.Test.YtpjkfmpgmhpdoaaGreatDoorG48
import Derived.Test.YtpjkfmpgmhpdoaaGreatDoorG05
import Derived.Laws.Strings3
set_option linter.unusedVariables false
namespace Go.Proofs.YtpjkfmpgmhpdoaaGreatDoor
open Go.RowKit

theorem sadd8 (A B : Str8) (h : A.length + B.length ≤ 9223372036854775000) : ∀ w, (Op.stringOp .add (ByteArray.mk A.toArray) (ByteArray.mk B.toArray)).run Tryz.prog w = .ok (.string ⟨(A ++ B).toArray⟩) w := by
  intro w
  rw [← cat_eq]
  exact run_string_add_sum (w := w) _ _ (by rw [size_list, size_list]; omega)
theorem and_bits8 (m : Nat) (hm : m < 1000000) (z : Int) : ∃ n : Nat, n ≤ m ∧ bits .and .i64 z (m : Int) = (n : Int) := by
  have h0 : (BitVec.ofInt 64 (m : Int)).toNat = m := by
    rw [BitVec.toNat_ofInt]
    omega
  have h : (BitVec.ofInt 64 z &&& BitVec.ofInt 64 (m : Int)).toNat ≤ m := by
    rw [BitVec.toNat_and]
    exact Nat.le_trans Nat.and_le_right (by omega)
  refine ⟨(BitVec.ofInt 64 z &&& BitVec.ofInt 64 (m : Int)).toNat, h, ?_⟩
  show IntKind.i64.wrap (((BitVec.ofInt 64 z &&& BitVec.ofInt 64 (m : Int)).toNat : Nat) : Int) = _
  rw [IntKind.wrap_i64]
  omega
theorem defs_none (w : World) : DefsAt w (.slice none 0 0) [] := ⟨none, 0, rfl, fun i q hq => by cases hq⟩
/-- Parse without definitions. -/
theorem iparse_nil (l : Str8) (hl : l.length ≤ 1073741824) (w : World) (hg : Glob w) : Calls Tryz.prog 11 #[strI l, .slice none 0 0] w fun e w' => ∃ v', e = .returned v' ∧ (∃ ys, w'.ownsRow 0 32 5 v' (parseI l []).len ys ∧ KidI w' (fun _ => True) (parseI l []) ys) ∧ Below w.heap.size w w' :=
  iparse_any l hl [] (Nat.zero_le _) (fun d hd => by cases hd) _ w (defs_none w) hg

/-- The bytes of a text's front that are neither. -/
def codB (c : UInt8) : Bool := c != 96 && c != 10
def codT (l : Str8) (k : Nat) : Str8 := 97 :: (l.take k).filter codB
theorem cod_next {l : Str8} {k : Nat} {z : UInt8} (h : l[k]? = some z) : codT l (k + 1) = codT l k ++ (if codB z = true then [z] else []) := by
  unfold codT
  rw [List.take_add_one, h, List.filter_append]
  cases hz : codB z <;> simp [hz]
theorem cod_len (l : Str8) (k : Nat) : (codT l k).length ≤ k + 1 := by
  have h1 := List.length_filter_le codB (l.take k)
  rw [List.length_take] at h1
  unfold codT
  rw [List.length_cons]
  omega
theorem cod_ok (l : Str8) (k : Nat) : (∀ c ∈ codT l k ++ [122], c ≠ 96) ∧ (∀ c ∈ codT l k ++ [122], c ≠ 10) ∧ (codT l k ++ [122]).head? = some 97 := by
  have key : ∀ c ∈ codT l k, c ≠ 96 ∧ c ≠ 10 := fun c hc => by
    rcases List.mem_cons.1 hc with rfl | h
    · decide
    · have := (List.mem_filter.1 h).2
      simpa [codB] using this
  refine ⟨fun c hc => ?_, fun c hc => ?_, rfl⟩
  · rcases List.mem_append.1 hc with h | h
    · exact (key c h).1
    · rw [List.mem_singleton.1 h]; decide
  · rcases List.mem_append.1 hc with h | h
    · exact (key c h).2
    · rw [List.mem_singleton.1 h]; decide

set_option maxHeartbeats 8000000 in
set_option maxRecDepth 20000 in
theorem wcode8 (s0 : ByteArray) (w0 : s0.size ≤ 140737488351232) (a1 : Int) (w1 : -9223372036854775808 ≤ a1 ∧ a1 ≤ 9223372036854775807) (w : World) (hm : Glob w) :
    Calls Tryz.prog 7 #[.string s0, .int .i64 a1] w fun e w' => e = .returned (.bool true) ∧ Below w.heap.size w w' := by
  obtain ⟨l0, hl0⟩ : ∃ l0 : Str8, s0 = ⟨l0.toArray⟩ := ⟨s0.data.toList, by simp⟩
  subst hl0
  rw [size_list] at w0
  obtain ⟨K, hK⟩ : ∃ K, K = min l0.length 500 := ⟨_, rfl⟩
  obtain ⟨nn, hnn, hbits⟩ := and_bits8 7 (by omega) a1
  have HS : Hid (Calls Tryz.prog 9 #[] w fun e w' => e = .returned (.bool true) ∧ Below w.heap.size w w') := ishown_any w hm
  have HG := (show Hid (Glob w) from hm)
  have h3 := hm.2.2
  have HP : Hid (∀ (u : World) (L : Str8), Below w.heap.size w u → L.length ≤ 1073741824 → Calls Tryz.prog 11 #[strI L, .slice none 0 0] u fun e w' => ∃ v', e = .returned v' ∧ (∃ ys, w'.ownsRow 0 32 5 v' (parseI L []).len ys ∧ KidI w' (fun _ => True) (parseI L []) ys) ∧ Below u.heap.size u w') := fun u L hu hL => iparse_nil L hL u (HG.out.below h3 hu)
  have hbits' : bits .and .i64 a1 7 = (nn : Int) := hbits
  have hli : (l0.length : Int) ≤ 140737488351232 := by omega
  clear hm hbits
  go_enter Tryz.func7, Tryz.ntmps7
  go_wp2_with (go_at_call 9; refine Calls.mono HS.out ?_; rintro e u1 ⟨rfl, hb1⟩; have HB1 := (show Hid (Below _ _ _) from hb1); clear hb1)
  go_loopw [6, 7] (fun t i wr => ∃ k : Nat, i = .int .i64 (k : Int) ∧ k ≤ K ∧ t = strI (codT l0 k) ∧ wr = u1) (fun _ i _ => K - (intOf i).toNat)
  case atStart => exact ⟨0, rfl, Nat.zero_le _, rfl, rfl⟩
  case round =>
    obtain ⟨k, rfl, hk, rfl, hw⟩ := hrel
    subst hw
    by_cases hlt : k < K
    · have hlt1 : (k : Int) < (l0.length : Int) := by omega
      have hlt2 : (k : Int) < 500 := by omega
      have hkl : k < l0.length := by omega
      obtain ⟨z, hz⟩ : ∃ z, l0[k]? = some z := ⟨_, List.getElem?_eq_getElem hkl⟩
      have hsz : k < (ByteArray.mk l0.toArray).size := by rw [size_list]; exact hkl
      have hby : (ByteArray.mk l0.toArray)[k]'hsz = z := by
        rw [byte_at, list_data, List.getD_eq_getElem?_getD, hz]
        rfl
      have hx : (ByteArray.mk l0.toArray).extract k (k + 1) = ⟨#[z]⟩ := by
        rw [extract_eq, list_data]
        have hd : l0.drop k = z :: l0.drop (k + 1) := by rw [List.drop_eq_getElem_cons hkl]; rw [(List.getElem?_eq_some_iff.1 hz).2]
        rw [hd, show k + 1 - k = 1 by omega]
        rfl
      have HN := (show Hid _ from cod_next hz)
      have hwl := cod_len l0 k
      generalize codT l0 k = TT at *
      have ne : ∀ d : UInt8, z ≠ d → ¬ (z.toNat : Int) = (d.toNat : Int) := fun d q e => q (UInt8.toNat_inj.1 (by omega))
      by_cases h96 : z = 96
      · subst h96
        have hlo : ¬ codB 96 = true := by decide
        clear ne
        go_wp2
        go_roundw
        case rel => exact ⟨k + 1, by go_num, by omega, by rw [HN.out, if_neg hlo, List.append_nil], by first | rfl | trivial⟩
        case measure => simp [intOf]; omega
      · have i1 : ¬ (z.toNat : Int) = 96 := ne 96 h96
        by_cases h10 : z = 10
        · subst h10
          have hlo : ¬ codB 10 = true := by decide
          clear h96 ne i1
          go_wp2
          go_roundw
          case rel => exact ⟨k + 1, by go_num, by omega, by rw [HN.out, if_neg hlo, List.append_nil], by first | rfl | trivial⟩
          case measure => simp [intOf]; omega
        · have i2 : ¬ (z.toNat : Int) = 10 := ne 10 h10
          have i1b : ((z.toNat : Int) != 96) = true := by simpa using i1
          have i2b : ((z.toNat : Int) != 10) = true := by simpa using i2
          have hlo : codB z = true := by simp [codB, h96, h10]
          have d1 := sadd8 TT [z] (by simp only [List.length_cons, List.length_nil]; omega)
          clear h10 h96 ne
          go_wp2
          go_roundw
          case rel => exact ⟨k + 1, by go_num, by omega, by rw [HN.out, if_pos hlo], by first | rfl | trivial⟩
          case measure => simp [intOf]; omega
    · have hkK : k = K := by omega
      subst hkK
      have hex : (¬ (k : Int) < (l0.length : Int)) ∨ ((k : Int) < (l0.length : Int) ∧ ¬ (k : Int) < 500) := by omega
      obtain ⟨c1, c2, c3⟩ := cod_ok l0 k
      have hwl := cod_len l0 k
      obtain ⟨T, hT⟩ : ∃ T, T = codT l0 k ++ [122] := ⟨_, rfl⟩
      have hTl : T.length ≤ k + 2 := by rw [hT, List.length_append]; simp only [List.length_cons, List.length_nil]; omega
      have hcw := code_words nn T (by rw [hT]; exact c1) (by rw [hT]; exact c2) (by rw [hT]; exact c3) []
      have d0 := sadd8 (codT l0 k) [122] (by simp only [List.length_cons, List.length_nil]; omega)
      rw [← hT] at d0
      have hk5 : k ≤ 500 := by omega
      clear c1 c2 c3 hT hK hk hlt w0
      generalize codT l0 k = T0 at *
      obtain ⟨Q, hQ⟩ : ∃ Q, Q = List.replicate (nn + 1) (96 : UInt8) := ⟨_, rfl⟩
      have hQl : Q.length = nn + 1 := by rw [hQ, List.length_replicate]
      rw [← hQ] at hcw
      have e1 := sadd8 [120, 32] Q (by simp only [List.length_cons, List.length_nil]; omega)
      have e2 := sadd8 ([120, 32] ++ Q) T (by simp only [List.length_append, List.length_cons, List.length_nil]; omega)
      have e3 := sadd8 ([120, 32] ++ Q ++ T) Q (by simp only [List.length_append, List.length_cons, List.length_nil]; omega)
      have e4 := sadd8 ([120, 32] ++ Q ++ T ++ Q) [32, 121] (by simp only [List.length_append, List.length_cons, List.length_nil]; omega)
      have HPx : Hid (∀ u, Below w.heap.size w u → Calls Tryz.prog 11 #[strI ([120, 32] ++ Q ++ T ++ Q ++ [32, 121]), .slice none 0 0] u fun e w' => ∃ g c, e = .returned (.slice (some ⟨g, 0, none⟩) 3 c) ∧ (w'.cell? ⟨g, 1, none⟩ = some (strW [120, 32]) ∧ w'.cell? ⟨g, 5, none⟩ = some (.int .i64 3) ∧ w'.cell? ⟨g, 6, none⟩ = some (strW T) ∧ w'.cell? ⟨g, 11, none⟩ = some (strW [32, 121])) ∧ Below w.heap.size w w') := fun u hu => by
        refine (HP.out u _ hu (by simp only [List.length_append, List.length_cons, List.length_nil]; omega)).mono ?_
        rintro e w' ⟨v', rfl, ⟨ys, hr, hk⟩, hb⟩
        have ee : parseI ([120, 32] ++ Q ++ T ++ Q ++ [32, 121]) [] = .cons { text := [120, 32] } .nil (.cons { kind := 3, text := T } .nil (.cons { text := [32, 121] } .nil .nil)) := by rw [← hcw]; simp
        rw [ee] at hr hk
        obtain ⟨a, c, rfl⟩ := row_len hr
        obtain ⟨v0, _, _, hx0, _, _, _, v1, _, _, hx1, _, _, _, v2, _, _, hx2, _, _, _, hx3⟩ := hk
        subst hx3
        subst hx2
        subst hx1
        subst hx0
        obtain ⟨g, rfl, _, q1⟩ := row_cell hr (j := 1) rfl
        refine ⟨g, c, rfl, ⟨q1, ?_, ?_, ?_⟩, hu.trans (hb.mono hu.size)⟩
        · obtain ⟨g', e, _, q⟩ := row_cell hr (j := 5) rfl; cases e; exact q
        · obtain ⟨g', e, _, q⟩ := row_cell hr (j := 6) rfl; cases e; exact q
        · obtain ⟨g', e, _, q⟩ := row_cell hr (j := 11) rfl; cases e; exact q
      have HQ := (show Hid _ from hQ)
      have hTT : (T == T) = true := by simp
      clear hcw hQ HP
      rcases hex with hex | ⟨hex, hex2⟩
      all_goals
        go_wp2
        go_loopw [8, 9] (fun t i wr2 => ∃ (j : Nat) (X : Str8), i = .int .i64 (j : Int) ∧ j ≤ nn + 1 ∧ t = strI X ∧ Hid (X = List.replicate j 96) ∧ wr2 = wr) (fun _ i _ => nn + 1 - (intOf i).toNat)
        case atStart => exact ⟨0, [], rfl, Nat.zero_le _, rfl, rfl, rfl⟩
        case round =>
          obtain ⟨j, X, rfl, hj, rfl, HX, hw⟩ := hrel
          subst hw
          by_cases hjl : j ≤ nn
          · have hji : (j : Int) ≤ (nn : Int) := by omega
            have hni : (nn : Int) ≤ 7 := by omega
            have d2 := sadd8 X [96] (by rw [HX.out]; simp only [List.length_replicate, List.length_cons, List.length_nil]; omega)
            have HX2 : Hid (X ++ [96] = List.replicate (j + 1) 96) := by show _ = _; rw [HX.out, List.replicate_succ']
            go_wp2
            go_roundw
            case rel => exact ⟨j + 1, X ++ [96], by go_num, by omega, rfl, HX2, by first | rfl | trivial⟩
            case measure => simp [intOf]; omega
          · have hjn : j = nn + 1 := by omega
            have hji : ¬ (j : Int) ≤ (nn : Int) := by omega
            have hq : X = Q := by rw [HX.out, hjn]; exact HQ.out.symm
            subst hq
            clear hjn HX
            go_wp2_with (go_at_call 11; refine Calls.mono (HPx.out _ HB1.out) ?_; rintro e u3 ⟨g, c, rfl, ⟨q1, q5, q6, q11⟩, hb3⟩; have HB3 := (show Hid (Below _ _ _) from hb3); clear hb3)
            go_ret
            exact ⟨rfl, HB3.out⟩

end Go.Proofs.YtpjkfmpgmhpdoaaGreatDoor
