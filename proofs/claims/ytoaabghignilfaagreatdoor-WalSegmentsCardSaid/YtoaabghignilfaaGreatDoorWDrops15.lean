/- WalDrops, walked. -/
import Derived.Test.YtoaabghignilfaaGreatDoorVStr
import Derived.Test.YtoaabghignilfaaGreatDoorVShown
import Derived.Deep.CutRange
set_option linter.unusedVariables false
namespace Go.Proofs.YtoaabghignilfaaGreatDoor
open Go.RowKit

/-- A row of so many bytes 0. -/
abbrev zeros (K : Nat) : Array Value := Array.replicate K (.int .u8 0)
theorem made_zeros (K : Nat) : madeCells #[.int .u8 0] (K * 1) = zeros K := by
  rw [Nat.mul_one]
  apply Array.ext
  · rw [size_madeCells]; simp [zeros]
  · intro i h1 h2
    simp [madeCells, zeros, Nat.mod_one]
theorem make_at (K : Nat) (hK : K ≤ 1000000) (W : World) : (Instr.makeSlice 34 (.int .i64 (K : Int)) (.int .i64 (K : Int))).run Tryz.prog W = .ok (.slice (some ⟨W.heap.size, 0, none⟩) K K) (W.alloc (.cells (zeros K) 5)) := by
  obtain ⟨i0, hi, hz0, hz1, hz2⟩ := info_parts info5
  have h := run_makeSlice (P := Tryz.prog) W 34 5 i0 (.int .u8 0) Tryz.underlying34 hi hz0 .i64 .i64 (K : Int) (K : Int) (by omega) (by omega) (by rw [hz1]; omega) (by rw [hz2]; omega) (by omega)
  rw [hz1] at h
  have e : (Value.int .u8 0).cells = #[.int .u8 0] := rfl
  rw [Int.toNat_natCast, e, made_zeros] at h
  exact h
theorem own_made (K : Nat) (hK : K ≤ 1000000) (W : World) : OwnB (W.alloc (.cells (zeros K) 5)) W.heap.size (.slice (some ⟨W.heap.size, 0, none⟩) K K) (List.replicate K 0) := by
  refine ⟨by simp [Lib.byteCells], .inr ⟨W.heap.size, K, zeros K, by simp, Nat.le_refl _, heap_alloc_new _ _, by simp, by unfold maxLen; omega, by simp, ?_⟩⟩
  simp [Lib.byteCells]

/-- The record of a number. -/
def recD (K i : Nat) : Rec := List.replicate K 0 ++ [UInt8.ofNat i]
theorem recD_len (K i : Nat) : (recD K i).length = K + 1 := by simp [recD]
def allD (K n : Nat) : Recs := (List.range n).map fun j => recD K (j + 1)
theorem allD_succ (K n : Nat) : allD K (n + 1) = allD K n ++ [recD K (n + 1)] := by
  unfold allD
  rw [List.range_succ, List.map_append]
  rfl
theorem allD_len (K n : Nat) : (allD K n).length = n := by simp [allD]
theorem allD_at (K n j : Nat) (h : j < n) : (allD K n)[j]? = some (recD K (j + 1)) := by simp [allD, h]

/-- What stands behind n records. -/
structure DrS (w0 : World) (b m p K n : Nat) (w : World) : Prop where
  st : ∃ d G, LgS w0 b m p d (G.map gSg) NoG w ∧ Str d G ∧ d.room = 1099511627776 ∧ headN G = 1 ∧ allR G = allD K n ∧ G.length ≤ n + 1 ∧ bulks G = n * (K + 9)

theorem abs_int (a : Int) (h : -9223372036854775808 ≤ a ∧ a ≤ 9223372036854775807) (M : Nat) (hM : 0 < M) (hM2 : (M : Int) ≤ 1000) : ∃ k : Nat, k < M ∧ Int.tmod (if a < 0 then -(a + 1) else a) M = (k : Int) := by
  obtain ⟨x, hx0, hx⟩ : ∃ x : Int, 0 ≤ x ∧ (if a < 0 then -(a + 1) else a) = x := by
    by_cases ha : a < 0
    · exact ⟨-(a + 1), by omega, by rw [if_pos ha]⟩
    · exact ⟨a, by omega, by rw [if_neg ha]⟩
  rw [hx]
  refine ⟨(x % M).toNat, ?_, ?_⟩
  · have := Int.emod_lt_of_pos x (show (0 : Int) < M by omega)
    have := Int.emod_nonneg x (show (M : Int) ≠ 0 by omega)
    omega
  · rw [Int.tmod_eq_emod_of_nonneg hx0]
    have := Int.emod_nonneg x (show (M : Int) ≠ 0 by omega)
    omega

theorem chain_le : ∀ {G : Gs}, ChainG G → ∀ g ∈ G, g.1 + g.2.length ≤ headN G + (allR G).length
  | [], _, g, h => by cases h
  | [x], _, g, h => by rw [List.mem_singleton.1 h]; simp [headN, allR]
  | x :: y :: r, hc, g, h => by
    have h1 := hc.1
    rw [allR_cons, List.length_append]
    rcases List.mem_cons.1 h with rfl | h
    · show g.1 + g.2.length ≤ g.1 + _
      omega
    · have ih := chain_le hc.2.2 g h
      have e1 : headN (y :: r) = y.1 := rfl
      show _ ≤ x.1 + _
      omega
theorem bulks_cons (g : Nat × Recs) (r : Gs) : bulks (g :: r) = bulk g.2 + bulks r := by simp [bulks]
theorem dropGs_le : ∀ (G : Gs) (i : Int), bulks (dropGs G i) ≤ bulks G ∧ (dropGs G i).length ≤ G.length
  | [], _ => ⟨Nat.le_refl _, Nat.le_refl _⟩
  | [g], _ => ⟨Nat.le_refl _, Nat.le_refl _⟩
  | g :: h0 :: r, i => by
    rw [dropGs]
    split
    · have ih := dropGs_le (h0 :: r) i
      rw [bulks_cons g]
      simp only [List.length_cons] at ih ⊢
      omega
    · exact ⟨Nat.le_refl _, Nat.le_refl _⟩
theorem lastB {w0 : World} {b m p : Nat} {d : Dk} {L : List Sg} {s : Sg} {G : Nat → Prop} {w : World} (h : LgS w0 b m p d (L ++ [s]) G w) : Calls Tryz.prog 23 #[dptr p] w fun e w' => e = .returned (.int .i64 ((s.next : Int) - 1)) ∧ Below w.heap.size w w' := by
  obtain ⟨S, T, vs, q, h1, h2, h3⟩ := h
  obtain ⟨q', y, rfl, h4, rfl⟩ := snoc_of h2
  exact lastn_any h1.lg
/-- Two logs on one disk. -/
def TwoL (w0 : World) (b m p p2 : Nat) (d : Dk) (G : Gs) (w : World) : Prop := LgS w0 b m p d (G.map gSg) NoG w ∧ LgS w0 b m p2 d (G.map gSg) NoG w ∧ Str d G
theorem TwoL.below {w0 : World} {b m p p2 : Nat} {d : Dk} {G : Gs} {w w' : World} (h : TwoL w0 b m p p2 d G w) (hb : Below w.heap.size w w') : TwoL w0 b m p p2 d G w' := ⟨(h.1.same hb).1, (h.2.1.same hb).1, h.2.2⟩

theorem neg_one {a x : Int} (h : -9223372036854775808 ≤ a) (h2 : a < 0) (hx : x = -(a + 1)) : IntKind.i64.wrap (a + 1) = a + 1 ∧ IntKind.i64.wrap (-(a + 1)) = x ∧ 0 ≤ x ∧ x ≤ 9223372036854775807 := by
  refine ⟨by rw [IntKind.wrap_i64]; omega, by rw [IntKind.wrap_i64]; omega, by omega, by omega⟩
theorem mod_nat {x : Int} (h0 : 0 ≤ x) (M : Nat) (hM : 0 < M) : ∃ k : Nat, k < M ∧ x.tmod (M : Int) = (k : Int) := by
  refine ⟨(x % M).toNat, ?_, ?_⟩
  · have := Int.emod_lt_of_pos x (show (0 : Int) < M by omega)
    have := Int.emod_nonneg x (show (M : Int) ≠ 0 by omega)
    omega
  · rw [Int.tmod_eq_emod_of_nonneg h0]
    have := Int.emod_nonneg x (show (M : Int) ≠ 0 by omega)
    omega
theorem ofNat_small {k : Nat} (h : k < 256) : ((UInt8.ofNat k).toNat : Int) = (k : Int) := by
  have : k % 256 = k := by omega
  simp [UInt8.toNat_ofNat', this]

set_option maxHeartbeats 8000000 in
set_option maxRecDepth 40000 in
theorem wdrops (a0 : Int) (r0 : -9223372036854775808 ≤ a0 ∧ a0 ≤ 9223372036854775807) (a1 : Int) (r1 : -9223372036854775808 ≤ a1 ∧ a1 ≤ 9223372036854775807) (a2 : Int) (r2 : -9223372036854775808 ≤ a2 ∧ a2 ≤ 9223372036854775807) (w : World) (ht : Tabs w) :
    Calls Tryz.prog 8 #[.int .i64 a0, .int .i64 a1, .int .i64 a2] w fun e w' => e = .returned (.bool true) ∧ Below w.heap.size w w' := by
  have hSh := shown_any15 ht
  have HT : Hid (Tabs w) := ht
  have H0 : Hid (-9223372036854775808 ≤ a0 ∧ a0 ≤ 9223372036854775807) := r0
  have H1 : Hid (-9223372036854775808 ≤ a1 ∧ a1 ≤ 9223372036854775807) := r1
  have H2 : Hid (-9223372036854775808 ≤ a2 ∧ a2 ≤ 9223372036854775807) := r2
  clear ht r0 r1 r2
  go_enter Tryz.func8, Tryz.ntmps8
  go_wp2_with (fail)
  refine hSh.mono ?_
  rintro e w1 ⟨rfl, hb1⟩
  have HB1 : Hid (Below w.heap.size w w1) := hb1
  clear hSh hb1
  go_upto_if 21 with fail
  go_cut [0] from 20 to 24 (fun X wx => ∃ x : Int, X = .int .i64 x ∧ Hid (0 ≤ x ∧ x ≤ 9223372036854775807) ∧ Hid (wx = w1))
  case first =>
    by_cases hneg : a0 < 0
    · obtain ⟨x, hx⟩ : ∃ x, x = -(a0 + 1) := ⟨_, rfl⟩
      obtain ⟨e1, e2, e3, e4⟩ := neg_one H0.out.1 hneg hx
      have HX : Hid (0 ≤ x ∧ x ≤ 9223372036854775807) := ⟨e3, e4⟩
      clear hx e3 e4
      go_wp2_with (fail)
      go_meet
      case rel => exact ⟨x, by first | rfl | (rw [e2]) | (simp [e2]), HX, rfl⟩
    · have HX : Hid (0 ≤ a0 ∧ a0 ≤ 9223372036854775807) := ⟨by omega, H0.out.2⟩
      go_wp2_with (fail)
      go_meet
      case rel => exact ⟨a0, rfl, HX, rfl⟩
  case rest =>
    obtain ⟨x0, rfl, HX0, HWc⟩ := hcut
    have hwc := HWc.out
    subst hwc
    clear HWc
    obtain ⟨wA, hwA⟩ : ∃ wA, wA = wc := ⟨_, rfl⟩
    subst hwA
    go_upto_if 26 with fail
    go_cut [1] from 25 to 29 (fun X wx => ∃ x : Int, X = .int .i64 x ∧ Hid (0 ≤ x ∧ x ≤ 9223372036854775807) ∧ Hid (wx = wA))
    case first =>
      by_cases hneg : a1 < 0
      · obtain ⟨x, hx⟩ : ∃ x, x = -(a1 + 1) := ⟨_, rfl⟩
        obtain ⟨e1, e2, e3, e4⟩ := neg_one H1.out.1 hneg hx
        have HX : Hid (0 ≤ x ∧ x ≤ 9223372036854775807) := ⟨e3, e4⟩
        clear hx e3 e4
        go_wp2_with (fail)
        go_meet
        case rel => exact ⟨x, by first | rfl | (rw [e2]) | (simp [e2]), HX, rfl⟩
      · have HX : Hid (0 ≤ a1 ∧ a1 ≤ 9223372036854775807) := ⟨by omega, H1.out.2⟩
        go_wp2_with (fail)
        go_meet
        case rel => exact ⟨a1, rfl, HX, rfl⟩
    case rest =>
      obtain ⟨x1, rfl, HX1, HWc⟩ := hcut
      have hwc := HWc.out
      subst hwc
      clear HWc
      obtain ⟨w2, hw2⟩ : ∃ w2, w2 = wc := ⟨_, rfl⟩
      subst hw2
      obtain ⟨N, hN, eN⟩ := mod_nat HX0.out.1 60 (by omega)
      obtain ⟨K, hK, eK⟩ := mod_nat HX1.out.1 700 (by omega)
      have eN2 : x0.tmod 60 = (N : Int) := eN
      have eK2 : x1.tmod 700 = (K : Int) := eK
      have bN : (N : Int) ≤ 59 := by omega
      have bK : (K : Int) ≤ 699 := by omega
      have HNK : Hid (N < 60 ∧ K < 700) := ⟨hN, hK⟩
      have hMk := make_at K (by omega)
      clear eN eK hN hK
      go_wp2_with (fail)
      refine (newG (w0 := w) 1099511627776 (by omega) (G := NoG) HB1.out (fun k hk => hk.elim)).mono ?_
      rintro e w3 ⟨b, m, rfl, hD, _⟩
      have D3 : Hid (DkS w b m (newD 1099511627776) NoG w3) := hD
      clear hD eN2 eK2
      go_wp2_with (fail)
      refine (openG D3.out HT.out (fun x hx => by cases hx) (by show usedL [] ≤ _; rw [usedL_nil]; omega) (by show 0 + 1 ≤ _; omega) nd1_e).mono ?_
      rintro e w4 ⟨p, rfl, hL, _⟩
      have S4 : Hid (DrS w b m p K 0 w4) := ⟨nd1, [(1, [])], hL, nd1_s.1, nd1_s.2, rfl, rfl, by simp, by simp [bulks, bulk]⟩
      clear hL D3
      go_wp2_with (fail)
      go_loopw [11] (fun i wr => ∃ k : Nat, i = .int .i64 k ∧ Hid (1 ≤ k ∧ k ≤ N + 1) ∧ Hid (DrS w b m p K (k - 1) wr)) (fun i _ => N + 1 - (intOf i).toNat)
      case atStart => exact ⟨1, rfl, ⟨by omega, by omega⟩, S4⟩
      case round =>
        obtain ⟨k, rfl, HK, HS⟩ := hrel
        clear S4
        by_cases hkn : k ≤ N
        · have b1 : (k : Int) ≤ (N : Int) := by omega
          have bk : (k : Int) ≤ 59 := by omega
          obtain ⟨d, G, g1, g2, g3, g4, g5, g6, g7⟩ := HS.out.st
          obtain ⟨G', g, hG⟩ : ∃ G' g, G = G' ++ [g] := ⟨G.dropLast, G.getLast g2.ne, (List.dropLast_concat_getLast g2.ne).symm⟩
          subst hG
          have hnx := chain_next g2.chain
          rw [g4, g5, allD_len] at hnx
          have hown := own_made K (by have := HNK.out; omega) wr
          have HG : Hid (LgS w b m p d ((G' ++ [g]).map gSg) NoG wr ∧ Str d (G' ++ [g])) := ⟨g1, g2⟩
          have HF : Hid (d.room = 1099511627776 ∧ headN (G' ++ [g]) = 1 ∧ allR (G' ++ [g]) = allD K (k - 1) ∧ (G' ++ [g]).length ≤ k - 1 + 1 ∧ bulks (G' ++ [g]) = (k - 1) * (K + 9) ∧ g.1 + g.2.length = 1 + (k - 1)) := ⟨g3, g4, g5, g6, g7, hnx.symm⟩
          clear HS g1 g2 g3 g4 g5 g6 g7 hnx
          have hown2 := hown.alloc (.cells #[.int .u8 (k : Int)] 5)
          have HBa : Hid (Below wr.heap.size wr ((wr.alloc (.cells (zeros K) 5)).alloc (.cells #[.int .u8 (k : Int)] 5))) := ((Below.refl _ wr).alloc (Nat.le_refl _) _).alloc (by simp) _
          have hone : BRow ((wr.alloc (.cells (zeros K) 5)).alloc (.cells #[.int .u8 (k : Int)] 5)) (some ⟨wr.heap.size + 1, 0, none⟩) 1 1 [UInt8.ofNat k] := by
            have := brow_one (wr.alloc (.cells (zeros K) 5)) (k : Int) (UInt8.ofNat k) (ofNat_small (by omega)).symm 1
            rwa [show (wr.alloc (.cells (zeros K) 5)).heap.size = wr.heap.size + 1 by simp] at this
          go_wp2_with (at_builtin; refine wpList_copy (l := [UInt8.ofNat k]) hown2 hone ?c2 ?c3 rfl _ _ rfl rfl rfl ?_)
          case c2 => have := HNK.out; simp; omega
          case c3 => simp; omega
          intro vo w5 ho5 hb5
          obtain ⟨va, vc, hvo⟩ := own_slice ho5
          subst hvo
          have hl5 : (List.replicate K 0 ++ [UInt8.ofNat k]).length = K + 1 := recD_len K k
          rw [hl5] at ho5 ⊢
          have HO5 : Hid (OwnB w5 wr.heap.size (.slice va (K + 1) vc) (recD K k)) := ho5
          have HB5 : Hid (Below wr.heap.size wr w5) := HBa.out.trans hb5
          clear ho5 hb5 hown hown2 HBa hl5 hone
          have hA := strApp HG.out.1 HG.out.2 HB5.out HO5.out (recD_len K k) (by have := HNK.out; omega) (by have := HF.out; omega) (by have h1 := HF.out; have h2 := HNK.out; rw [h1.1, h1.2.2.2.2.1]; have : (k - 1) * (K + 9) ≤ 59 * 708 := Nat.mul_le_mul (by omega) (by omega); omega) (by have h1 := HF.out; have h2 := HNK.out; rw [h1.2.2.2.2.1]; have : (k - 1) * (K + 9) ≤ 59 * 708 := Nat.mul_le_mul (by omega) (by omega); omega) (by have h1 := HF.out; have h2 := HNK.out; omega)
          go_wp2_with (fail)
          refine hA.mono ?_
          rintro e w6 ⟨d', rfl, q1, q2, q3⟩
          have HS6 : Hid (DrS w b m p K (k + 1 - 1) w6) := by
            have h1 := HF.out
            have h2 := HK.out
            refine ⟨d', _, q1, q2, by rw [q3]; exact h1.1, by rw [headN_addG]; exact h1.2.1, ?_, ?_, ?_⟩
            · rw [allR_addG, h1.2.2.1]
              have := allD_succ K (k - 1)
              rw [show k - 1 + 1 = k by omega] at this
              rw [show k + 1 - 1 = k by omega, this]
            · have := addG_len G' g (recD K k)
              omega
            · rw [bulks_addG, h1.2.2.2.2.1, recD_len, show k + 1 - 1 = k - 1 + 1 by omega, Nat.add_mul (k - 1) 1]
              omega
          clear hA q1 q2 q3
          go_wp2_with (fail)
          go_roundw
          case rel => exact ⟨k + 1, by first | rfl | go_num, ⟨by omega, by omega⟩, HS6⟩
          case measure => have := HK.out; simp [intOf]; omega
        · have hk : k = N + 1 := by have := HK.out; omega
          have b1 : ¬ (k : Int) ≤ (N : Int) := by omega
          have HS7 : Hid (DrS w b m p K N wr) := by have := HS.out; rw [hk] at this; exact this
          clear HS hkn hk HK
          obtain ⟨d, G, g1, g2, g3, g4, g5, g6, g7⟩ := HS7.out.st
          have hDr := strDrop g1 g2 a2
          obtain ⟨f1, f2, f3, f4⟩ := dropGs_all G a2 g2.chain g2.ne
          have hsub := dropGs_sub G a2
          obtain ⟨G2, hG2⟩ : ∃ G2, dropGs G a2 = G2 := ⟨_, rfl⟩
          rw [hG2] at hDr f1 f2 f3 f4 hsub
          rw [g4] at f1 f2 f3 f4
          rw [g5] at f2 f3
          rw [allD_len] at f3
          obtain ⟨k1, k2⟩ := dropGs_le G a2
          rw [hG2] at k1 k2
          obtain ⟨F, hF⟩ : ∃ F, headN G2 = F := ⟨_, rfl⟩
          rw [hF] at f1 f2 f3 f4
          have HFf : Hid (1 ≤ F ∧ allR G2 = (allD K N).drop (F - 1) ∧ F + (allR G2).length = 1 + N ∧ ((F : Int) ≤ a2 ∨ F = 1) ∧ headN G2 = F) := ⟨f1, f2, f3, f4, hF⟩
          have HU : Hid (bulks G2 ≤ 1099511627776 ∧ G2.length + 1 ≤ 1048576) := by
            have h2 := HNK.out
            have : N * (K + 9) ≤ 59 * 708 := Nat.mul_le_mul (by omega) (by omega)
            exact ⟨by omega, by omega⟩
          clear g1 g2 g3 g4 g5 g6 g7 f1 f2 f3 f4 hsub k1 k2 hF HS7 hG2 hMk
          go_wp2_with (fail)
          refine hDr.mono ?_
          rintro e w7 ⟨d7, rfl, q1, q2, q3⟩
          have L7 : Hid (LgS w b m p d7 (G2.map gSg) NoG w7 ∧ Str d7 G2) := ⟨q1, q2⟩
          have hOp := strOpen2 q1 q2 (fun g hg => by have := chain_le q2.chain g hg; have h1 := HFf.out; have h2 := HNK.out; rw [h1.2.2.2.2] at this; omega) HU.out.1 HU.out.2
          clear hDr q1 q2 q3
          go_wp2_with (fail)
          refine hOp.mono ?_
          rintro e w8 ⟨p2, d8, rfl, l1, l2, s8, _⟩
          have T8 : Hid (TwoL w b m p p2 d8 G2 w8) := ⟨l1, l2, s8⟩
          obtain ⟨g0, G0, hG0⟩ : ∃ g0 G0, G2 = g0 :: G0 := by
            cases G2 with
            | nil => exact absurd rfl s8.ne
            | cons g0 G0 => exact ⟨g0, G0, rfl⟩
          obtain ⟨G3, gl, hG3⟩ : ∃ G3 gl, G2 = G3 ++ [gl] := ⟨G2.dropLast, G2.getLast s8.ne, (List.dropLast_concat_getLast s8.ne).symm⟩
          have hFi : ∀ pp u, LgS w b m pp d8 (G2.map gSg) NoG u → Calls Tryz.prog 22 #[dptr pp] u fun e w' => e = .returned (.int .i64 (F : Int)) ∧ w' = u := fun pp u hu => by
            have hF1 := HFf.out.2.2.2.2
            rw [hG0] at hu hF1
            have := firstG (s := gSg g0) (L := G0.map gSg) hu
            rw [show (gSg g0).num = g0.1 from rfl, show g0.1 = F from hF1] at this
            exact this
          have hLa : ∀ pp u, LgS w b m pp d8 (G2.map gSg) NoG u → Calls Tryz.prog 23 #[dptr pp] u fun e w' => e = .returned (.int .i64 (N : Int)) ∧ Below u.heap.size u w' := fun pp u hu => by
            have hch := s8.chain
            rw [hG3] at hch
            have hnx := chain_next hch
            rw [← hG3, HFf.out.2.2.2.2, HFf.out.2.2.1] at hnx
            rw [hG3, List.map_append] at hu
            refine (lastB (s := gSg gl) (L := G3.map gSg) hu).mono fun e w' r => ⟨?_, r.2⟩
            rw [r.1, gSg_next, ← hnx]
            congr 2
            omega
          have HFi : Hid (∀ pp u, LgS w b m pp d8 (G2.map gSg) NoG u → Calls Tryz.prog 22 #[dptr pp] u fun e w' => e = .returned (.int .i64 (F : Int)) ∧ w' = u) := hFi
          have HLa : Hid (∀ pp u, LgS w b m pp d8 (G2.map gSg) NoG u → Calls Tryz.prog 23 #[dptr pp] u fun e w' => e = .returned (.int .i64 (N : Int)) ∧ Below u.heap.size u w') := hLa
          clear hOp l1 l2 s8 hG0 hG3 hFi hLa L7
          go_wp2_with (fail)
          refine (HFi.out p2 w8 T8.out.2.1).mono ?_
          rintro e u1 ⟨rfl, hu1⟩
          subst hu1
          go_wp2_with (fail)
          refine (HFi.out p _ T8.out.1).mono ?_
          rintro e u2 ⟨rfl, hu2⟩
          subst hu2
          go_wp2_with (fail)
          refine (HLa.out p2 _ T8.out.2.1).mono ?_
          rintro e w9 ⟨rfl, hb9⟩
          have T9 := T8.out.below hb9
          have HT9 : Hid (TwoL w b m p p2 d8 G2 w9) := T9
          clear T8 T9 hb9
          go_wp2_with (fail)
          refine (HLa.out p _ HT9.out.1).mono ?_
          rintro e w10 ⟨rfl, hb10⟩
          have HT10 : Hid (TwoL w b m p p2 d8 G2 w10) := HT9.out.below hb10
          clear HT9 hb10
          go_wp2_with (fail)
          refine (HFi.out p _ HT10.out.1).mono ?_
          rintro e u3 ⟨rfl, hu3⟩
          subst hu3
          obtain ⟨M, hM⟩ : ∃ M : Nat, max a2 1 = (M : Int) := ⟨(max a2 1).toNat, by omega⟩
          have bM : (M : Int) ≤ 9223372036854775807 := by have := H2.out; omega
          have qF : ¬ (M : Int) < (F : Int) := by have := HFf.out; omega
          have qF2 : decide (M < F) = false := by simp; omega
          have qF3 : ¬ M < F := by omega
          have HM : Hid (1 ≤ M ∧ F ≤ M) := by have := HFf.out; exact ⟨by omega, by omega⟩
          go_wp2_with (fail)
          obtain ⟨wB, hwB⟩ : ∃ wB, wB = u3 := ⟨_, rfl⟩
          subst hwB
          clear hM
          go_loopw [14] (fun i wr => ∃ k : Nat, i = .int .i64 k ∧ Hid (1 ≤ k ∧ F ≤ k ∧ (k : Int) ≤ 9223372036854775807) ∧ Hid (TwoL w b m p p2 d8 G2 wr)) (fun i _ => N + 1 - (intOf i).toNat)
          case atStart => exact ⟨M, rfl, ⟨HM.out.1, HM.out.2, bM⟩, HT10⟩
          case round =>
            obtain ⟨k, rfl, HK, HTw⟩ := hrel
            clear HT10 qF qF2 qF3
            by_cases hkn : k ≤ N
            · have b2 : (k : Int) ≤ (N : Int) := by omega
              have bk : (k : Int) ≤ 59 := by omega
              have hrec : ∀ r, (allR G2)[k - headN G2]? = some r → r = recD K k := fun r hr => by
                have h1 := HFf.out
                have h2 := HK.out
                rw [h1.2.2.2.2, h1.2.1, List.getElem?_drop, show F - 1 + (k - F) = k - 1 by omega, allD_at K N (k - 1) (by omega)] at hr
                rw [← Option.some.inj hr, show k - 1 + 1 = k by omega]
              have hGt : ∀ pp u, LgS w b m pp d8 (G2.map gSg) NoG u → Str d8 G2 → Calls Tryz.prog 24 #[dptr pp, .int .i64 (k : Int)] u fun e w' => ∃ a c, e = .returned (.tuple #[.slice a (K + 1) c, .int .i64 0]) ∧ BRow w' a (K + 1) c (recD K k) ∧ Below u.heap.size u w' := fun pp u hu hs => by
                have h1 := HFf.out
                have h2 := HK.out
                refine (strGet hu hs k (by rw [h1.2.2.2.2]; exact h2.2.1) (by rw [h1.2.2.2.2, h1.2.2.1]; omega) HU.out.1).mono fun e w' r => ?_
                obtain ⟨a, c, r1, q1, q2, q3, q4⟩ := r
                have := hrec r1 q1
                subst this
                rw [recD_len] at q2 q3
                exact ⟨a, c, q2, q3, q4⟩
              have HGt : Hid (∀ pp u, LgS w b m pp d8 (G2.map gSg) NoG u → Str d8 G2 → Calls Tryz.prog 24 #[dptr pp, .int .i64 (k : Int)] u fun e w' => ∃ a c, e = .returned (.tuple #[.slice a (K + 1) c, .int .i64 0]) ∧ BRow w' a (K + 1) c (recD K k) ∧ Below u.heap.size u w') := hGt
              clear hrec hGt
              go_wp2_with (fail)
              refine (HGt.out p wr HTw.out.1 HTw.out.2.2).mono ?_
              rintro e v1 ⟨ra, rc, rfl, hr1, hb1⟩
              have HTw1 : Hid (TwoL w b m p p2 d8 G2 v1) := HTw.out.below hb1
              have HR1 : Hid (BRow v1 ra (K + 1) rc (recD K k)) := hr1
              clear hr1 hb1 HTw
              go_wp2_with (fail)
              refine (HGt.out p2 v1 HTw1.out.2.1 HTw1.out.2.2).mono ?_
              rintro e v2 ⟨sa, sc, rfl, hr2, hb2⟩
              have HTw2 : Hid (TwoL w b m p p2 d8 G2 v2) := HTw1.out.below hb2
              have hA := HR1.out.below hb2
              obtain ⟨X, hX⟩ : ∃ X : ByteArray, X = ⟨(recD K k).toArray⟩ := ⟨_, rfl⟩
              have z1 : (convert 34 9 (.slice ra (K + 1) rc)).run Tryz.prog v2 = .ok (.string X) v2 := by rw [hX]; exact hA.string
              have z2 : (convert 34 9 (.slice sa (K + 1) sc)).run Tryz.prog v2 = .ok (.string X) v2 := by rw [hX]; exact hr2.string
              obtain ⟨xa, hxa, hcell⟩ := hA.at K (by omega)
              subst hxa
              have hgd : ((recD K k).getD K 0).toNat = k := by
                have : (recD K k).getD K 0 = UInt8.ofNat k := by simp [recD]
                rw [this]
                have := ofNat_small (k := k) (by omega)
                omega
              rw [hgd] at hcell
              obtain ⟨K1, hK1⟩ : ∃ K1, K + 1 = K1 := ⟨_, rfl⟩
              rw [hK1] at z1 z2
              rw [hK1]
              have eK : (K : Int) + 1 = (K1 : Int) := by omega
              have bK1 : (K : Int) < (K1 : Int) := by omega
              have bK2 : (K1 : Int) ≤ 700 := by omega
              have nK : K < K1 := by omega
              clear hr2 hb2 hA hX hgd hK1 HTw1 HR1 HGt
              go_wp2_with (fail)
              go_roundw
              case rel => exact ⟨k + 1, by first | rfl | go_num, ⟨by omega, by have := HK.out; omega, by omega⟩, HTw2⟩
              case measure => simp [intOf]; omega
            · have b2 : ¬ (k : Int) ≤ (N : Int) := by omega
              clear hkn
              go_wp2_with (fail)
              go_ret
              exact ⟨rfl, HTw.out.1.bel⟩
end Go.Proofs.YtoaabghignilfaaGreatDoor
