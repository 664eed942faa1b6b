/- WalSegments, walked. -/
import Derived.Test.YtoaabghignilfaaGreatDoorV12
set_option linter.unusedVariables false
namespace Go.Proofs.YtoaabghignilfaaGreatDoor
open Go.RowKit

def PushedB (w : World) (v : Value) (acc l : List UInt8) (B : Nat) (vo : Value) (w2 : World) : Prop := OwnB w2 B vo (acc ++ l) ∧ w.grownBy w2 v.ownBlock ∧ ∀ g, vo.ownBlock = some g → v.ownBlock = some g ∨ w.heap.size ≤ g
theorem append_pushed {w : World} {B : Nat} {v : Value} {acc l : List UInt8} (hown : OwnB w B v acc) {x : Addr} {len cap : Nat} (h : BRow w (some x) len cap l) (hlen : acc.length + len ≤ 140737488355328) (hB : B ≤ w.heap.size) (ty : TypeId) :
    ∃ vo w2, (Builtin.append_ #[34, 34] ty #[v, .slice (some x) len cap]).run Tryz.prog w = .ok vo w2 ∧ PushedB w v acc l B vo w2 := append_bytes hown h hlen hB ty
theorem rframe_row {w : World} (i : Nat) (hi : i < 4294967296) {a : Option Addr} {n c : Nat} {l : List UInt8} (h : BRow w a n c l) (hn : n < 4294967296) :
    Calls Tryz.prog 32 #[.int .i64 (i : Int), .slice a n c] w fun e w' => ∃ x fc, e = .returned (.slice (some x) (8 + n) fc) ∧ BRow w' (some x) (8 + n) fc (frameL i l) ∧ Below w.heap.size w w' := by
  refine (rframe_any i hi h hn).mono fun e w' r => ?_
  obtain ⟨v, r1, r2, r3⟩ := r
  obtain ⟨a', c', rfl⟩ := own_slice r2
  have hr := own_brow r2
  have hl : (frameL i l).length = 8 + n := by rw [frameL_length, h.1]
  rw [hl] at hr r1
  obtain ⟨x, hx, _⟩ := hr.at 0 (by omega)
  subst hx
  exact ⟨x, c', r1, hr, r3⟩
theorem q_last {G : Gs} {g : Nat × Recs} {q : VLs} (h9 : q.map (·.2) = framesG (G ++ [g])) : ∃ qa v, q = qa ++ [(v, framesL g.1 g.2)] ∧ qa.length = G.length := by
  rw [framesG, List.map_append] at h9
  obtain ⟨qa, qb, rfl, e3, e4⟩ := List.map_eq_append_iff.1 h9
  rcases qb with _ | ⟨⟨v, l⟩, qb⟩
  · cases e4
  · simp at e4
    obtain ⟨e5, e6⟩ := e4
    subst e5 e6
    exact ⟨qa, v, rfl, by have := congrArg List.length e3; simpa using this⟩
/-- What stands behind Append, a row there for the frame. -/
theorem SgJ.same {w0 : World} {b m p K k ng : Nat} {d' : Dk} {G : Gs} {g : Nat × Recs} {nv av : Value} {q : VLs} {w : World} (hd : d'.room = 1099511627776) (h4 : headN (G ++ [g]) = 1) (h5 : allR (G ++ [g]) = allW K (k - 1)) (h6 : ng = (G ++ [g]).length) (h7 : ng ≤ k - 1 + 1) (h8 : bulks (G ++ [g]) = (k - 1) * (8 + K)) (h9 : q.map (·.2) = framesG (G ++ [g])) (hk : 1 ≤ k) (hnx : g.1 + g.2.length = k) (hb : ¬ 2048 ≤ bulk g.2)
    (q1 : SgS w0 b m p d' ((addG G g (recW K k)).map gSg) nv (namesG (G ++ [g])) av q w) (q2 : Str d' (addG G g (recW K k))) : SgJ w0 b m p K k ng nv av w := by
  have e1 : addG G g (recW K k) = G ++ [(g.1, g.2 ++ [recW K k])] := by unfold addG; rw [if_neg hb]
  have hal := allR_addG G g (recW K k)
  have hhd := headN_addG G g (recW K k)
  have hbu := bulks_addG G g (recW K k)
  rw [e1] at q1 q2 hal hhd hbu
  rw [framesG, List.map_append] at h9
  obtain ⟨qa, qb, rfl, e3, e4⟩ := List.map_eq_append_iff.1 h9
  rcases qb with _ | ⟨⟨v, l⟩, qb⟩
  · cases e4
  · simp at e4
    obtain ⟨e5, e6⟩ := e4
    subst e6
    have hnm : namesG (G ++ [g]) = namesG (G ++ [(g.1, g.2 ++ [recW K k])]) := by simp [namesG]
    rw [hnm] at q1
    have hlq : qa.length = G.length := by have := congrArg List.length e3; simpa using this
    refine ⟨d', _, qa, v, l, q1, q2, hd, by rw [hhd]; exact h4, ?_, by rw [h6]; simp, by omega, ?_, ?_, by rw [h6, hlq]; simp, ?_⟩
    · rw [hal, h5]
      have := allW_succ K (k - 1)
      rw [show k - 1 + 1 = k by omega] at this
      rw [this]
    · rw [hbu, h8, recW, recP_len]
      obtain ⟨j, rfl⟩ : ∃ j, k = j + 1 := ⟨k - 1, by omega⟩
      rw [Nat.add_mul]; simp
    · rw [e3, e5]
      simp [framesG, framesL_append, framesL, hnx]
    · rw [e5, framesL_length, hbu, bulks_append, bulks_one]
      omega
theorem SgJ.more {w0 : World} {b m p K k ng : Nat} {d' : Dk} {G : Gs} {g : Nat × Recs} {nv av : Value} {q : VLs} {w : World} (hd : d'.room = 1099511627776) (h4 : headN (G ++ [g]) = 1) (h5 : allR (G ++ [g]) = allW K (k - 1)) (h6 : ng = (G ++ [g]).length) (h7 : ng ≤ k - 1 + 1) (h8 : bulks (G ++ [g]) = (k - 1) * (8 + K)) (h9 : q.map (·.2) = framesG (G ++ [g])) (hk : 1 ≤ k) (hnx : g.1 + g.2.length = k) (hb : 2048 ≤ bulk g.2)
    (q1 : SgS w0 b m p d' ((addG G g (recW K k)).map gSg) nv (namesG (G ++ [g]) ++ [nameL k]) av (q ++ [(.slice none 0 0, [])]) w) (q2 : Str d' (addG G g (recW K k))) : SgJ w0 b m p K k (ng + 1) nv av w := by
  have e1 : addG G g (recW K k) = G ++ [g] ++ [(g.1 + g.2.length, [recW K k])] := by unfold addG; rw [if_pos hb]
  have hal := allR_addG G g (recW K k)
  have hhd := headN_addG G g (recW K k)
  have hbu := bulks_addG G g (recW K k)
  rw [e1, hnx] at q1 q2 hal hhd hbu
  have hnm : namesG (G ++ [g]) ++ [nameL k] = namesG (G ++ [g] ++ [(k, [recW K k])]) := by simp [namesG]
  rw [hnm] at q1
  have hlq : q.length = (G ++ [g]).length := by have := congrArg List.length h9; simpa [framesG] using this
  refine ⟨d', _, q, _, _, q1, q2, hd, by rw [hhd]; exact h4, ?_, by rw [h6]; simp, by omega, ?_, ?_, by rw [h6, hlq], Nat.zero_le _⟩
  · rw [hal, h5]
    have := allW_succ K (k - 1)
    rw [show k - 1 + 1 = k by omega] at this
    rw [this]
  · rw [hbu, h8, recW, recP_len]
    obtain ⟨j, rfl⟩ : ∃ j, k = j + 1 := ⟨k - 1, by omega⟩
    rw [Nat.add_mul]; simp
  · rw [h9]
    simp [framesG, framesL]
/-- The frame stands where it is to stand. -/
theorem SgI.of {w0 : World} {b m p K k ng n1 g n c : Nat} {d : Dk} {G : Gs} {nv v vo : Value} {q : VLs} {l : List UInt8} {w w1 w2 w3 : World} (h : SgS w0 b m p d (G.map gSg) nv (namesG G) (.slice (some ⟨g, 0, none⟩) n c) (q ++ [(v, l)]) w) (h2 : Str d G) (h3 : d.room = 1099511627776) (h4 : headN G = 1) (h5 : allR G = allW K k) (h6 : ng = G.length) (h7 : ng ≤ k + 1) (h8 : bulks G = k * (8 + K)) (h9 : q.map (·.2) ++ [l ++ frameL k (recW K k)] = framesG G) (h10 : q.length = n1)
    (hb : Below w.heap.size w w1) (hp : PushedB w1 v l (frameL k (recW K k)) w0.heap.size vo w2) (hw : w3 = w2.setCell ⟨g, n1, none⟩ vo) : SgI w0 b m p K k ng nv (.slice (some ⟨g, 0, none⟩) n c) w3 := by
  have hS := SgS.grow (q := q) (v := v) (l := l) (h.below hb) hp.1 hp.2.1 hp.2.2 (w3 := w3) (by rw [h10]; exact hw)
  obtain ⟨G', gl, hG⟩ : ∃ G' gl, G = G' ++ [gl] := ⟨G.dropLast, G.getLast h2.ne, (List.dropLast_concat_getLast h2.ne).symm⟩
  subst hG
  exact ⟨d, G', gl, q ++ [(vo, l ++ frameL k (recW K k))], hS, h2, h3, h4, h5, h6, h7, h8, by rw [List.map_append]; exact h9⟩

set_option maxHeartbeats 8000000 in
set_option maxRecDepth 40000 in
theorem wsegs (a0 : Int) (r0 : -9223372036854775808 ≤ a0 ∧ a0 ≤ 9223372036854775807) (a1 : Int) (r1 : -9223372036854775808 ≤ a1 ∧ a1 ≤ 9223372036854775807) (w : World) (ht : Tabs w) :
    Calls Tryz.prog 7 #[.int .i64 a0, .int .i64 a1] w fun e w' => e = .returned (.bool true) ∧ Below w.heap.size w w' := by
  have hSh := shown_any15 ht
  have HT : Hid (Tabs w) := ht
  have H0 : Hid (-9223372036854775808 ≤ a0 ∧ a0 ≤ 9223372036854775807) := r0
  have H1 : Hid (-9223372036854775808 ≤ a1 ∧ a1 ≤ 9223372036854775807) := r1
  clear ht r0 r1
  go_enter Tryz.func7, Tryz.ntmps7
  go_wp2_with (fail)
  refine hSh.mono ?_
  rintro e w1 ⟨rfl, hb1⟩
  have HB1 : Hid (Below w.heap.size w w1) := hb1
  clear hSh hb1
  go_upto_if 21 with fail
  go_cut [0] from 20 to 24 (fun X wx => ∃ x : Int, X = .int .i64 x ∧ Hid (0 ≤ x ∧ x ≤ 9223372036854775807) ∧ Hid (wx = w1))
  case first =>
    by_cases hneg : a0 < 0
    · obtain ⟨x, hx⟩ : ∃ x, x = -(a0 + 1) := ⟨_, rfl⟩
      obtain ⟨e1, e2, e3, e4⟩ := neg_one H0.out.1 hneg hx
      have HX : Hid (0 ≤ x ∧ x ≤ 9223372036854775807) := ⟨e3, e4⟩
      clear hx e3 e4
      go_wp2_with (fail)
      go_meet
      case rel => exact ⟨x, by first | rfl | (rw [e2]) | (simp [e2]), HX, rfl⟩
    · have HX : Hid (0 ≤ a0 ∧ a0 ≤ 9223372036854775807) := ⟨by omega, H0.out.2⟩
      go_wp2_with (fail)
      go_meet
      case rel => exact ⟨a0, rfl, HX, rfl⟩
  case rest =>
    obtain ⟨x0, rfl, HX0, HWc⟩ := hcut
    have hwc := HWc.out
    subst hwc
    clear HWc
    obtain ⟨wA, hwA⟩ : ∃ wA, wA = wc := ⟨_, rfl⟩
    subst hwA
    go_upto_if 26 with fail
    go_cut [1] from 25 to 29 (fun X wx => ∃ x : Int, X = .int .i64 x ∧ Hid (0 ≤ x ∧ x ≤ 9223372036854775807) ∧ Hid (wx = wA))
    case first =>
      by_cases hneg : a1 < 0
      · obtain ⟨x, hx⟩ : ∃ x, x = -(a1 + 1) := ⟨_, rfl⟩
        obtain ⟨e1, e2, e3, e4⟩ := neg_one H1.out.1 hneg hx
        have HX : Hid (0 ≤ x ∧ x ≤ 9223372036854775807) := ⟨e3, e4⟩
        clear hx e3 e4
        go_wp2_with (fail)
        go_meet
        case rel => exact ⟨x, by first | rfl | (rw [e2]) | (simp [e2]), HX, rfl⟩
      · have HX : Hid (0 ≤ a1 ∧ a1 ≤ 9223372036854775807) := ⟨by omega, H1.out.2⟩
        go_wp2_with (fail)
        go_meet
        case rel => exact ⟨a1, rfl, HX, rfl⟩
    case rest =>
      obtain ⟨x1, rfl, HX1, HWc⟩ := hcut
      have hwc := HWc.out
      subst hwc
      clear HWc
      obtain ⟨w2, hw2⟩ : ∃ w2, w2 = wc := ⟨_, rfl⟩
      subst hw2
      obtain ⟨N, hN, eN⟩ := mod_nat HX0.out.1 60 (by omega)
      obtain ⟨KB, hK, eK⟩ := mod_nat HX1.out.1 700 (by omega)
      have eN2 : x0.tmod 60 = (N : Int) := eN
      have eK2 : x1.tmod 700 = (KB : Int) := eK
      have bN : (N : Int) ≤ 59 := by omega
      have bK : (KB : Int) ≤ 699 := by omega
      have HNK : Hid (N < 60 ∧ KB < 700) := ⟨hN, hK⟩
      have hMk := make_at KB (by omega)
      clear eN eK hN hK
      go_wp2_with (fail)
      refine (newG (w0 := w) 1099511627776 (by omega) (G := NoG) HB1.out (fun k hk => hk.elim)).mono ?_
      rintro e w3 ⟨b, m, rfl, hD, _⟩
      have D3 : Hid (DkS w b m (newD 1099511627776) NoG w3) := hD
      clear hD eN2 eK2
      go_wp2_with (fail)
      refine (openG D3.out HT.out (fun x hx => by cases hx) (by show usedL [] ≤ _; rw [usedL_nil]; omega) (by show 0 + 1 ≤ _; omega) nd1_e).mono ?_
      rintro e w4 ⟨p, rfl, hL, _⟩
      have HL4 : Hid (LgS w b m p nd1 ([((1, []) : Nat × Recs)].map gSg) NoG w4) := hL
      have hNm := rname_any 1 (by omega) w4
      clear hL D3
      go_wp2_with (fail)
      refine hNm.mono ?_
      rintro e w5 ⟨rfl, hb5⟩
      have hS := sgStart HL4.out hb5 (nameL 1)
      have HS0 : Hid (SgI w b m p KB 0 1 (.slice (some ⟨w5.heap.size, 0, none⟩) 1 1) (.slice (some ⟨w5.heap.size + 1, 0, none⟩) 1 1) ((w5.alloc (.cells #[strN (nameL 1)] 9)).alloc (.cells #[.slice none 0 0] 34))) := ⟨nd1, [], (1, []), _, hS, nd1_s.1, nd1_s.2, rfl, rfl, rfl, by omega, by simp [bulks, bulk], rfl⟩
      clear hNm hb5 hS HL4
      go_wp2_with (fail)
      go_loopw [9, 10, 11] (fun nv av i wr => ∃ (k ng : Nat) (na : Option Addr) (nc ag ac : Nat), nv = .slice na ng nc ∧ av = .slice (some ⟨ag, 0, none⟩) ng ac ∧ i = .int .i64 k ∧ Hid (1 ≤ k ∧ k ≤ N + 1) ∧ Hid (SgI w b m p KB (k - 1) ng (.slice na ng nc) (.slice (some ⟨ag, 0, none⟩) ng ac) wr)) (fun _ _ i _ => N + 1 - (intOf i).toNat)
      case atStart => exact ⟨1, 1, some ⟨w5.heap.size, 0, none⟩, 1, w5.heap.size + 1, 1, rfl, rfl, rfl, ⟨by omega, by omega⟩, HS0⟩
      case round =>
        obtain ⟨k, ng, na, nc, ag, ac, rfl, rfl, rfl, HK, HS⟩ := hrel
        clear HS0
        by_cases hkn : k ≤ N
        · have b1 : (k : Int) ≤ (N : Int) := by omega
          have bk : (k : Int) ≤ 59 := by omega
          have bk0 : (0 : Int) ≤ (k : Int) := by omega
          obtain ⟨wo, hwo⟩ : ∃ wo, wo = wr := ⟨_, rfl⟩
          subst hwo
          obtain ⟨gb, hgb⟩ : ∃ gb, gb = wo.heap.size := ⟨_, rfl⟩
          obtain ⟨wz, hwz⟩ : ∃ wz, wz = wo.alloc (.cells (zeros KB) 5) := ⟨_, rfl⟩
          have hMk2 : (Instr.makeSlice 34 (.int .i64 (KB : Int)) (.int .i64 (KB : Int))).run Tryz.prog wo = .ok (.slice (some ⟨gb, 0, none⟩) KB KB) wz := by rw [hMk wo, hgb, hwz]
          have HBz : Hid (Below wo.heap.size wo wz) := by show Below _ _ _; rw [hwz]; exact (Below.refl _ wo).alloc (Nat.le_refl _) _
          have HOz : Hid (OwnB wz wo.heap.size (.slice (some ⟨gb, 0, none⟩) KB KB) (recP KB k 0)) := by
            have := own_made KB (by have := HNK.out; omega) wo
            rw [← hwz, ← recP_zero KB k] at this
            rw [hgb]; exact this
          have HGb : Hid (gb = wo.heap.size) := hgb
          have HKN : Hid (k ≤ N) := hkn
          clear hkn hwz hgb hMk
          go_wp2_with (fail)
          go_loopw [13] (fun j wr => ∃ jj : Nat, j = .int .i64 jj ∧ Hid (jj ≤ KB) ∧ Hid (Below wo.heap.size wo wr) ∧ Hid (OwnB wr wo.heap.size (.slice (some ⟨gb, 0, none⟩) KB KB) (recP KB k jj))) (fun j _ => KB - (intOf j).toNat)
          case atStart => exact ⟨0, rfl, Nat.zero_le _, HBz, HOz⟩
          case round =>
            obtain ⟨jj, rfl, HJ, HBj, HOj⟩ := hrel
            clear HBz HOz hMk2
            by_cases hj : jj < KB
            · have b2 : (jj : Int) < (KB : Int) := by omega
              obtain ⟨ij, hij⟩ : ∃ ij, k + jj = ij := ⟨_, rfl⟩
              have eij : (k : Int) + (jj : Int) = (ij : Int) := by omega
              have bij : (ij : Int) ≤ 760 := by omega
              obtain ⟨xv, hxv⟩ : ∃ xv, (UInt8.ofNat ij).toNat = xv := ⟨_, rfl⟩
              have ewr : IntKind.u8.wrap (ij : Int) = (xv : Int) := by
                rw [IntKind.wrap_u8, ← hxv]
                simp [UInt8.toNat_ofNat']
              have hcell : wr.cell? ⟨gb, jj, none⟩ = some (.int .u8 (((recP KB k jj).getD jj 0).toNat : Int)) := by
                have hl := recP_len KB k jj
                have := HOj.out.cells (g := gb) rfl jj (.int .u8 (((recP KB k jj).getD jj 0).toNat : Int)) (by
                  have h1 : jj < (recP KB k jj).length := by omega
                  simp [Lib.byteCells, h1])
                rwa [Addr.add_lit, Nat.zero_add] at this
              have hfree : wr.frozen? ⟨gb, jj, none⟩ = false := by
                obtain ⟨cur, hcu⟩ := ownB_block HOj.out (g := gb) rfl
                exact free_blk hcu jj
              obtain ⟨wn, hwn⟩ : ∃ wn, wn = wr.setCell ⟨gb, jj, none⟩ (.int .u8 (xv : Int)) := ⟨_, rfl⟩
              have HOn : Hid (OwnB wn wo.heap.size (.slice (some ⟨gb, 0, none⟩) KB KB) (recP KB k (jj + 1))) := by
                have h1 := own_setB HOj.out jj (by rw [recP_len]; exact hj) (UInt8.ofNat ij)
                rw [hxv, ← hwn, ← hij, recP_set KB k jj hj] at h1
                exact h1
              have HBn : Hid (Below wo.heap.size wo wn) := by
                show Below _ _ _
                rw [hwn]
                exact HBj.out.setCell (p := ⟨gb, jj, none⟩) (by have := HGb.out; show wo.heap.size ≤ gb; omega) _
              have HJ2 : Hid (jj < KB) := hj
              clear hj hij hxv HOj
              go_wp2_with (fail)
              (try rw [← hwn])
              clear hwn
              go_roundw
              case rel => exact ⟨jj + 1, by first | rfl | go_num, HJ2.out, HBn, HOn⟩
              case measure => have := HJ2.out; simp [intOf]; omega
            · have b2 : ¬ (jj : Int) < (KB : Int) := by omega
              have hjK : jj = KB := by have := HJ.out; omega
              have HOk : Hid (OwnB wr wo.heap.size (.slice (some ⟨gb, 0, none⟩) KB KB) (recW KB k)) := by have := HOj.out; rw [hjK] at this; exact this
              clear hj hjK HJ HOj
              obtain ⟨d, G, g, q, g1, g2, g3, g4, g5, g6, g7, g8, g9⟩ := HS.out
              have hnx := chain_next g2.chain
              rw [g4, g5, allW_len] at hnx
              have hkk := HK.out
              have hnk := HNK.out
              have hkN := HKN.out
              have hmul : (k - 1) * (8 + KB) ≤ 59 * 708 := Nat.mul_le_mul (by omega) (by omega)
              have hA := sgApp g1 g2 HBj.out HOk.out (by rw [recW, recP_len]) (by omega) (by omega) (by rw [g3, g8]; omega) (by rw [g8]; omega) (by omega)
              have HGs : Hid (Str d (G ++ [g]) ∧ d.room = 1099511627776 ∧ headN (G ++ [g]) = 1 ∧ allR (G ++ [g]) = allW KB (k - 1) ∧ ng = (G ++ [g]).length ∧ ng ≤ k - 1 + 1 ∧ bulks (G ++ [g]) = (k - 1) * (8 + KB) ∧ q.map (·.2) = framesG (G ++ [g]) ∧ 1 ≤ k ∧ g.1 + g.2.length = k) := ⟨g2, g3, g4, g5, g6, g7, g8, g9, by omega, by omega⟩
              clear g1 g2 g3 g4 g5 g6 g7 g8 g9 hnx hkk hnk hkN hmul HS
              go_wp2_with (fail)
              refine hA.mono ?_
              rintro e w6 ⟨d', rfl, q1, q2, q3, q4, q5⟩
              obtain ⟨g2, g3, g4, g5, g6, g7, g8, g9, g10, g11⟩ := HGs.out
              have hmul : (k - 1) * (8 + KB) ≤ 59 * 708 := Nat.mul_le_mul (by have := HKN.out; have := HNK.out; omega) (by have := HNK.out; omega)
              obtain ⟨qa, v, hqe, hqa⟩ := q_last g9
              obtain ⟨hcell, va, vc, hv, _⟩ := sgAt (i := qa.length) (v := v) (l := framesL g.1 g.2) q1 (by rw [hqe]; simp)
              subst hv
              rw [framesL_length] at hcell hqe
              obtain ⟨bl, hbl⟩ : ∃ bl, bulk g.2 = bl := ⟨_, rfl⟩
              rw [hbl] at hcell hqe
              obtain ⟨n1, hn1⟩ : ∃ n1, qa.length = n1 := ⟨_, rfl⟩
              rw [hn1] at hcell hqa
              have hng : ng = n1 + 1 := by rw [g6, hqa]; simp
              have en1 : (ng : Int) - 1 = (n1 : Int) := by omega
              have bn1 : (n1 : Int) < (ng : Int) := by omega
              have bn1n : n1 < ng := by omega
              have bng : (ng : Int) ≤ 60 := by have := HKN.out; have := HNK.out; omega
              have bbl : (bl : Int) ≤ 50000 := by
                have := bulks_append G [g]
                rw [bulks_one, g8, hbl] at this
                omega
              have hsame := fun (hb : ¬ 2048 ≤ bulk g.2) => SgJ.same (w := w6) (by rw [q3]; exact g3) g4 g5 g6 g7 g8 g9 g10 g11 hb q1 q2
              have hmore := fun (nv : Value) (av : Value) (u : World) (hb : 2048 ≤ bulk g.2) (h : SgS w b m p d' ((addG G g (recW KB k)).map gSg) nv (namesG (G ++ [g]) ++ [nameL k]) av (q ++ [(.slice none 0 0, [])]) u) => SgJ.more (nv := nv) (av := av) (w := u) (by rw [q3]; exact g3) g4 g5 g6 g7 g8 g9 g10 g11 hb h q2
              have HQ6 : Hid (SgS w b m p d' ((addG G g (recW KB k)).map gSg) (.slice na ng nc) (namesG (G ++ [g])) (.slice (some ⟨ag, 0, none⟩) ng ac) q w6) := q1
              have HOb : Hid (OwnB w6 wo.heap.size (.slice (some ⟨gb, 0, none⟩) KB KB) (recW KB k)) := q4
              have HSm : Hid (¬ 2048 ≤ bl → SgJ w b m p KB k ng (.slice na ng nc) (.slice (some ⟨ag, 0, none⟩) ng ac) w6) := fun hb => hsame (by rw [hbl]; exact hb)
              have HMr : Hid (2048 ≤ bl → ∀ nv av u, SgS w b m p d' ((addG G g (recW KB k)).map gSg) nv (namesG (G ++ [g]) ++ [nameL k]) av (q ++ [(.slice none 0 0, [])]) u → SgJ w b m p KB k (ng + 1) nv av u) := fun hb nv av u h => hmore nv av u (by rw [hbl]; exact hb) h
              have HNg : Hid (n1 + 1 = ng ∧ ng ≤ 60 ∧ (namesG (G ++ [g])).length = ng ∧ q.length = ng) := ⟨by omega, by have := HKN.out; have := HNK.out; omega, by rw [g6]; simp [namesG], by rw [hqe, hng, ← hn1]; simp⟩
              clear hA q1 q2 q3 q4 q5 g2 g3 g4 g5 g6 g7 g8 g9 g10 g11 hmul hqe hqa hbl hn1 hng hsame hmore HOk HGs
              obtain ⟨wp, hwp⟩ : ∃ wp, wp = w6 := ⟨_, rfl⟩
              subst hwp
              go_upto_if 86 with fail
              go_cut [9, 10, 14] from 81 to 96 (fun nv av kk wx => ∃ (ng' n1' : Nat) (na' : Option Addr) (nc' ag' ac' : Nat), nv = .slice na' ng' nc' ∧ av = .slice (some ⟨ag', 0, none⟩) ng' ac' ∧ kk = .int .i64 n1' ∧ Hid (n1' + 1 = ng' ∧ ng' ≤ 61) ∧ Hid (SgJ w b m p KB k ng' (.slice na' ng' nc') (.slice (some ⟨ag', 0, none⟩) ng' ac') wx) ∧ Hid (OwnB wx wo.heap.size (.slice (some ⟨gb, 0, none⟩) KB KB) (recW KB k)))
              case first =>
                by_cases h2 : 2048 ≤ bl
                · have q5 : (2048 : Int) ≤ (bl : Int) := by omega
                  have H2 : Hid (2048 ≤ bl) := h2
                  have hNm := rname_any k (by omega) wp
                  clear h2
                  go_wp2_with (fail)
                  refine hNm.mono ?_
                  rintro e w7 ⟨rfl, hb7⟩
                  have hS7 := (HQ6.out.below hb7).below ((Below.refl _ w7).alloc (Nat.le_refl _) (.cells #[strN (nameL k)] 9))
                  have hO7 := own_below2 (own_below2 HOb.out hb7) ((Below.refl _ w7).alloc (Nat.le_refl _) (.cells #[strN (nameL k)] 9))
                  have HS7 : Hid (SgS w b m p d' ((addG G g (recW KB k)).map gSg) (.slice na ng nc) (namesG (G ++ [g])) (.slice (some ⟨ag, 0, none⟩) ng ac) q (w7.alloc (.cells #[strN (nameL k)] 9))) := hS7
                  have HO7 : Hid (OwnB (w7.alloc (.cells #[strN (nameL k)] 9)) wo.heap.size (.slice (some ⟨gb, 0, none⟩) KB KB) (recW KB k)) := hO7
                  have hown := hS7.nm
                  have hsz : w.heap.size ≤ (w7.alloc (.cells #[strN (nameL k)] 9)).heap.size := hS7.bel.size
                  have hcx : (w7.alloc (.cells #[strN (nameL k)] 9)).cell? ⟨w7.heap.size, 0, none⟩ = some (strN (nameL k)) := cell_blk (heap_alloc_new w7 _) (i := 0) rfl
                  clear hNm hb7 hS7 hO7 HQ6 HOb hcell
                  go_wp2_with (at_builtin; refine wpList_push_name hown hsz (nameL k) ⟨w7.heap.size, 0, none⟩ 1 hcx ?c9 rfl _ _ rfl rfl rfl ?_)
                  case c9 => have := HNg.out; omega
                  intro vo w8 hp
                  have hS8 := HS7.out.name hp
                  obtain ⟨na2, nc2, hvo⟩ := hp.1.shape
                  subst hvo
                  have hl8 : (namesG (G ++ [g]) ++ [nameL k]).length = ng + 1 := by rw [List.length_append, HNg.out.2.2.1]; rfl
                  have hO8 : OwnB w8 wo.heap.size (.slice (some ⟨gb, 0, none⟩) KB KB) (recW KB k) := owns_keep HO7.out (fun k' hk' => hp.2.1.block k' (owns_lt HO7.out hk').2 (fun e => owns_apart HS7.out.nm HO7.out (by decide) e.symm hk'))
                  obtain ⟨n2, hn2⟩ : ∃ n2, ng + 1 = n2 := ⟨_, rfl⟩
                  rw [hl8, hn2] at hS8 ⊢
                  have HN2 : Hid (ng + 1 = n2) := hn2
                  have hS9 := hS8.below ((Below.refl _ w8).alloc (Nat.le_refl _) (.cells #[.slice none 0 0] 34))
                  have hO9 := own_below2 hO8 ((Below.refl _ w8).alloc (Nat.le_refl _) (.cells #[.slice none 0 0] 34))
                  have HS9 : Hid (SgS w b m p d' ((addG G g (recW KB k)).map gSg) (.slice na2 n2 nc2) (namesG (G ++ [g]) ++ [nameL k]) (.slice (some ⟨ag, 0, none⟩) ng ac) q (w8.alloc (.cells #[.slice none 0 0] 34))) := hS9
                  have HO9 : Hid (OwnB (w8.alloc (.cells #[.slice none 0 0] 34)) wo.heap.size (.slice (some ⟨gb, 0, none⟩) KB KB) (recW KB k)) := hO9
                  have hownA := hS9.al
                  have hszA : w.heap.size ≤ (w8.alloc (.cells #[.slice none 0 0] 34)).heap.size := hS9.bel.size
                  have hcA : (w8.alloc (.cells #[.slice none 0 0] 34)).cell? ⟨w8.heap.size, 0, none⟩ = some (.slice none 0 0) := cell_blk (heap_alloc_new w8 _) (i := 0) rfl
                  clear hp hown hsz hcx hS8 hl8 hO8 hn2 hS9 hO9 HS7 HO7
                  go_wp2_with (at_builtin; refine wpList_push_row hownA hszA (.slice none 0 0) rfl ⟨w8.heap.size, 0, none⟩ 1 hcA ?c10 rfl _ _ rfl rfl rfl ?_)
                  case c10 => have := HNg.out; simp; omega
                  intro vo w9 hp
                  have hS10 := HS9.out.row hp
                  have hO10 : OwnB w9 wo.heap.size (.slice (some ⟨gb, 0, none⟩) KB KB) (recW KB k) := owns_keep HO9.out (fun k' hk' => hp.2.1.block k' (owns_lt HO9.out hk').2 (fun e => owns_apart HS9.out.al HO9.out (by decide) e.symm hk'))
                  obtain ⟨ao2, ac2, hvo⟩ : ∃ a c, vo = .slice a (ng + 1) c := by
                    rcases hp.1.2 with ⟨_, h0⟩ | ⟨go, co, cur, ho, _⟩
                    · simp at h0
                    · exact ⟨some ⟨go, 0, none⟩, co, by rw [ho]; have := HNg.out; simp; omega⟩
                  subst hvo
                  obtain ⟨hlq, ag2, hao⟩ := sgLen hS10 (by simp)
                  subst hao
                  have HJ10 : Hid (SgJ w b m p KB k n2 (.slice na2 n2 nc2) (.slice (some ⟨ag2, 0, none⟩) n2 ac2) w9) := by
                    have := HMr.out H2.out _ _ _ hS10
                    rw [HN2.out] at this
                    exact this
                  have HO10 : Hid (OwnB w9 wo.heap.size (.slice (some ⟨gb, 0, none⟩) KB KB) (recW KB k)) := hO10
                  rw [HN2.out]
                  clear hp hownA hszA hcA hS10 hO10 hlq
                  go_wp2_with (fail)
                  go_meet
                  case rel => exact ⟨n2, n1 + 1, na2, nc2, ag2, ac2, rfl, rfl, by first | rfl | go_num, by have := HNg.out; have := HN2.out; exact ⟨by omega, by omega⟩, HJ10, HO10⟩
                · have q5 : ¬ (2048 : Int) ≤ (bl : Int) := by omega
                  have HJ6 : Hid (SgJ w b m p KB k ng (.slice na ng nc) (.slice (some ⟨ag, 0, none⟩) ng ac) wp) := HSm.out h2
                  clear h2
                  go_wp2_with (fail)
                  go_meet
                  case rel => exact ⟨ng, n1, na, nc, ag, ac, rfl, rfl, rfl, by have := HNg.out; exact ⟨by omega, by omega⟩, HJ6, HOb⟩
              case rest =>
                obtain ⟨ng2, n1b, na2, nc2, ag2, ac2, rfl, rfl, rfl, HNn, HJJ, HOc⟩ := hcut
                clear HQ6 HSm HMr HNg HOb hcell en1 bn1 bn1n bng bbl
                obtain ⟨wx, hwx⟩ : ∃ wx, wx = wc := ⟨_, rfl⟩
                subst hwx
                obtain ⟨d2, G2, q2, v2, l0, j1, j2, j3, j4, j5, j6, j7, j8, j9, j10, j11⟩ := HJJ.out
                obtain ⟨hcell2, va2, vc2, hv2, _⟩ := sgAt (i := q2.length) (v := v2) (l := l0) j1 (by simp)
                subst hv2
                obtain ⟨vl, hvl⟩ : ∃ vl, l0.length = vl := ⟨_, rfl⟩
                have hq2l : q2.length = n1b := by have := HNn.out; omega
                rw [hq2l, hvl] at hcell2
                obtain ⟨cur, hcur, _⟩ := owns_type j1.al (g := ag2) rfl
                obtain ⟨FL, hFL⟩ : ∃ FL, frameL k (recW KB k) = FL := ⟨_, rfl⟩
                obtain ⟨f8, hf8⟩ : ∃ f8, 8 + KB = f8 := ⟨_, rfl⟩
                have HPS : Hid (wx.heap[ag2]? = some (.cells cur 34 (0, 0))) := hcur
                have HJs : Hid (∀ u, Below wx.heap.size wx u → OwnB u w.heap.size (.slice va2 vl vc2) l0 ∧ w.heap.size ≤ u.heap.size) := fun u hu => by
                  have h1 := (j1.below hu).rs (.slice va2 l0.length vc2, l0) (by simp)
                  rw [hvl] at h1
                  exact ⟨h1, (j1.below hu).bel.size⟩
                have HJa : Hid (∀ u, Below wx.heap.size wx u → OwnA u w.heap.size (.slice (some ⟨ag2, 0, none⟩) ng2 ac2) (((q2 ++ [(.slice va2 l0.length vc2, l0)]) : VLs).map (·.1))) := fun u hu => (j1.below hu).al
                have HLl : Hid (l0.length + f8 ≤ 140737488355328) := by
                  have h1 := HNK.out
                  have h2 := HKN.out
                  have : k * (8 + KB) ≤ 59 * 708 := Nat.mul_le_mul (by omega) (by omega)
                  show _ ≤ _
                  omega
                have HFr : Hid (∀ u, Below wx.heap.size wx u → Calls Tryz.prog 32 #[.int .i64 (k : Int), .slice (some ⟨gb, 0, none⟩) KB KB] u fun e w' => ∃ x fc, e = .returned (.slice (some x) f8 fc) ∧ BRow w' (some x) f8 fc FL ∧ Below u.heap.size u w') := fun u hu => by
                  have h1 := own_below2 HOc.out hu
                  have h2 : BRow u (some ⟨gb, 0, none⟩) KB KB (recW KB k) := by
                    have := own_brow (w := u) (B := wo.heap.size) (a := some ⟨gb, 0, none⟩) (cap := KB) (l := recW KB k) (by rw [recW, recP_len]; exact h1)
                    rwa [recW, recP_len] at this
                  have := rframe_row k (by omega) h2 (by omega)
                  rw [hf8, hFL] at this
                  exact this
                have HDone : Hid (∀ u1 vo u2 u3, Below wx.heap.size wx u1 → PushedB u1 (.slice va2 vl vc2) l0 FL w.heap.size vo u2 → u3 = u2.setCell ⟨ag2, n1b, none⟩ vo → SgI w b m p KB k ng2 (.slice na2 ng2 nc2) (.slice (some ⟨ag2, 0, none⟩) ng2 ac2) u3) := fun u1 vo u2 u3 hb hp hw => by
                  rw [← hvl, ← hFL] at hp
                  exact SgI.of j1 j2 j3 j4 j5 j6 j7 j8 j9 hq2l hb hp hw
                have n0 : ∀ w' : World, w'.heap[ag2]? = some (.cells cur 34 (0, 0)) → w'.cell? ⟨ag2, n1b, none⟩ = some (.slice va2 vl vc2) := fun w' hw' => by
                  have e : w'.cell? ⟨ag2, n1b, none⟩ = wx.cell? ⟨ag2, n1b, none⟩ := by simp [World.cell?, hw', hcur]
                  rw [e, hcell2]
                have en2 : (n1b : Int) < (ng2 : Int) := by have := HNn.out; omega
                have en2n : n1b < ng2 := by have := HNn.out; omega
                have en3 : (ng2 : Int) ≤ 61 := by have := HNn.out; omega
                clear j1 j2 j3 j4 j5 j6 j7 j8 j9 j10 j11 hcell2 hvl hq2l hcur hFL hf8 HJJ HOc HNn
                go_wp2_with (fail)
                refine regionC (fun (w' : World) => w'.heap[ag2]? = some (.cells cur 34 (0, 0))) 11 (by kernel_rfl) ?_
                (try (change wpAnyC _ _ _ _ _ _ _ _ _ (World.drew _)))
                refine nameW (fun W0 hW0 => ?_)
                have hC : Hid (W0.heap[ag2]? = some (.cells cur 34 (0, 0))) := by show _ = _; rw [hW0]; exact HPS.out
                have hB : Hid (Below wx.heap.size wx W0) := by show Below _ _ _; rw [hW0]; exact ⟨rfl, rfl, rfl, Nat.le_refl _, fun _ _ => rfl⟩
                clear hW0
                refine takeC (i := 0) (v := ?_) rfl (by kernel_rfl) (by kernel_rfl) (by kernel_rfl) (by kernel_rfl) (by kernel_rfl) (fun _ _ _ h => h) hC.out (Or.inl ⟨by rfl, ?_⟩) ?_
                rotate_left 1
                · intro w' hw'
                  skip
                  go_simp
                  first | done | with_reducible rfl
                (try simp only [Act.put])
                (try simp only [List.setIfInBounds_toArray])
                (try simp only [List.set_cons_succ])
                (try simp only [List.set_cons_zero])
                refine takeC (i := 1) (v := ?_) rfl (by kernel_rfl) (by kernel_rfl) (by kernel_rfl) (by kernel_rfl) (by kernel_rfl) (fun _ _ _ h => h) hC.out (Or.inl ⟨by rfl, ?_⟩) ?_
                rotate_left 1
                · intro w' hw'
                  skip
                  go_simp
                  first | done | with_reducible rfl
                (try simp only [Act.put])
                (try simp only [List.setIfInBounds_toArray])
                (try simp only [List.set_cons_succ])
                (try simp only [List.set_cons_zero])
                refine takeC (i := 2) (v := ?_) rfl (by kernel_rfl) (by kernel_rfl) (by kernel_rfl) (by kernel_rfl) (by kernel_rfl) (fun _ _ _ h => h) hC.out (Or.inl ⟨by rfl, ?_⟩) ?_
                rotate_left 1
                · intro w' hw'
                  skip
                  go_simp
                  first | done | with_reducible rfl
                (try simp only [Act.put])
                (try simp only [List.setIfInBounds_toArray])
                (try simp only [List.set_cons_succ])
                (try simp only [List.set_cons_zero])
                refine takeC (i := 3) (v := ?_) rfl (by kernel_rfl) (by kernel_rfl) (by kernel_rfl) (by kernel_rfl) (by kernel_rfl) (fun _ _ _ h => h) hC.out (Or.inl ⟨by rfl, ?_⟩) ?_
                rotate_left 1
                · intro w' hw'
                  skip
                  go_simp
                  first | done | with_reducible rfl
                (try simp only [Act.put])
                (try simp only [List.setIfInBounds_toArray])
                (try simp only [List.set_cons_succ])
                (try simp only [List.set_cons_zero])
                refine takeC (i := 4) (v := ?_) rfl (by kernel_rfl) (by kernel_rfl) (by kernel_rfl) (by kernel_rfl) (by kernel_rfl) (fun _ _ _ h => h) hC.out (Or.inl ⟨by rfl, ?_⟩) ?_
                rotate_left 1
                · intro w' hw'
                  skip
                  go_simp
                  first | done | with_reducible rfl
                (try simp only [Act.put])
                (try simp only [List.setIfInBounds_toArray])
                (try simp only [List.set_cons_succ])
                (try simp only [List.set_cons_zero])
                refine takeC (i := 5) (v := ?_) rfl (by kernel_rfl) (by kernel_rfl) (by kernel_rfl) (by kernel_rfl) (by kernel_rfl) (fun _ _ _ h => h) hC.out (Or.inl ⟨by rfl, ?_⟩) ?_
                rotate_left 1
                · intro w' hw'
                  have z0 := n0 w' hw'
                  go_simp
                  first | done | with_reducible rfl
                (try simp only [Act.put])
                (try simp only [List.setIfInBounds_toArray])
                (try simp only [List.set_cons_succ])
                (try simp only [List.set_cons_zero])
                refine takeC (i := 6) (v := ?_) rfl (by kernel_rfl) (by kernel_rfl) (by kernel_rfl) (by kernel_rfl) (by kernel_rfl) (fun _ _ _ h => h) hC.out (Or.inl ⟨by rfl, ?_⟩) ?_
                rotate_left 1
                · intro w' hw'
                  skip
                  go_simp
                  first | done | with_reducible rfl
                (try simp only [Act.put])
                (try simp only [List.setIfInBounds_toArray])
                (try simp only [List.set_cons_succ])
                (try simp only [List.set_cons_zero])
                refine takeC (i := 7) (v := ?_) rfl (by kernel_rfl) (by kernel_rfl) (by kernel_rfl) (by kernel_rfl) (by kernel_rfl) (fun _ _ _ h => h) hC.out (Or.inl ⟨by rfl, ?_⟩) ?_
                rotate_left 1
                · intro w' hw'
                  skip
                  go_simp
                  first | done | with_reducible rfl
                (try simp only [Act.put])
                (try simp only [List.setIfInBounds_toArray])
                (try simp only [List.set_cons_succ])
                (try simp only [List.set_cons_zero])
                refine readyC (rs := [8]) (by kernel_rfl) (by simp) ?_
                refine ReadyC.cons rfl (fun K hK => ?_) ReadyC.nil
                refine stepV_call rfl 32 #[.int .i64 (k : Int), .slice (some ⟨gb, 0, none⟩) KB KB] (by kernel_rfl) (HFr.out W0 hB.out) (fun e w' h => by obtain ⟨_, _, h, _⟩ := h; exact ⟨_, h⟩) ?_
                intro v1 W1 hq
                obtain ⟨fx, fc, hv1, hoe, hq⟩ := hq
                have hv1' := Ending.returned.inj hv1
                subst hv1'
                have hq2 : Below wx.heap.size wx W1 := hB.out.trans (hq.mono hB.out.size)
                have hq3 : W1.heap[ag2]? = some (.cells cur 34 (0, 0)) := (hq2.block _ (lt_blk HPS.out)).trans HPS.out
                refine hK _ _ (fun _ => hq3) ?_
                clear hK K
                (try simp only [Act.put])
                (try simp only [List.setIfInBounds_toArray])
                (try simp only [List.set_cons_succ])
                (try simp only [List.set_cons_zero])
                have HFv : Hid (BRow W1 (some fx) f8 fc FL) := hoe
                replace hC : Hid (W1.heap[ag2]? = some (.cells cur 34 (0, 0))) := hq3
                replace hB : Hid (Below wx.heap.size wx W1) := hq2
                clear hv1 hoe hq hq2 hq3
                refine readyC (rs := [9]) (by kernel_rfl) (by simp) ?_
                refine ReadyC.cons rfl (fun K hK => ?_) ReadyC.nil
                refine stepC_runs rfl (.tmp 102) (.tmp 105) rfl (.slice va2 vl vc2) (.slice (some fx) f8 fc) (by kernel_rfl) (by kernel_rfl) _ (append_pushed (HJs.out W1 hB.out).1 (HFv.out) (by have := HLl.out; omega) (HJs.out W1 hB.out).2 _) ?_
                intro vo W2 hA
                obtain ⟨oa, ol, oc, hvo⟩ : ∃ a n c, vo = .slice a n c := by
                  obtain ⟨a, c, h⟩ := own_slice hA.1
                  exact ⟨a, _, c, h⟩
                subst hvo
                have hkk : W2.heap[ag2]? = some (.cells cur 34 (0, 0)) := (hA.2.1.block ag2 (lt_blk hC.out) (fun e => owns_apart (HJs.out W1 hB.out).1 (HJa.out W1 hB.out) (by decide) e.symm rfl)).trans hC.out
                refine hK _ _ (fun _ => hkk) ?_
                clear hK K
                (try simp only [Act.put])
                (try simp only [List.setIfInBounds_toArray])
                (try simp only [List.set_cons_succ])
                (try simp only [List.set_cons_zero])
                have HPu : Hid (PushedB W1 (.slice va2 vl vc2) l0 FL w.heap.size (.slice oa ol oc) W2) := hA
                have HB16 : Hid (Below wx.heap.size wx W1) := hB.out
                replace hC : Hid (W2.heap[ag2]? = some (.cells cur 34 (0, 0))) := hkk
                clear hA hkk hB HFv
                refine takeC (i := 10) (v := ?_) rfl (by kernel_rfl) (by kernel_rfl) (by kernel_rfl) (by kernel_rfl) (by kernel_rfl) (fun _ _ _ h => h) hC.out (Or.inl ⟨by rfl, ?_⟩) ?_
                rotate_left 1
                · intro w' hw'
                  skip
                  go_simp
                  first | done | with_reducible rfl
                (try simp only [Act.put])
                (try simp only [List.setIfInBounds_toArray])
                (try simp only [List.set_cons_succ])
                (try simp only [List.set_cons_zero])
                refine readyC (rs := [11]) (by kernel_rfl) (by simp) ?_
                refine ReadyC.cons rfl (fun K hK => ?_) ReadyC.nil
                have y1 := n0 W2 hC.out
                have y2 := free_blk hC.out n1b
                go_simp
                refine hK _ _ (fun h => absurd rfl h) ?_
                clear hK K
                (try simp only [Act.put])
                (try simp only [List.setIfInBounds_toArray])
                (try simp only [List.set_cons_succ])
                (try simp only [List.set_cons_zero])
                refine nameW (fun W3 hW => ?_)
                have HD16 : Hid (SgI w b m p KB k ng2 (.slice na2 ng2 nc2) (.slice (some ⟨ag2, 0, none⟩) ng2 ac2) W3) := HDone.out _ (.slice oa ol oc) _ _ HB16.out HPu.out hW
                clear hW y1 y2
                refine doneC (by kernel_rfl) ?_ _
                go_wp2_with (fail)
                go_roundw
                case rel => exact ⟨k + 1, ng2, na2, nc2, ag2, ac2, rfl, rfl, by first | rfl | go_num, ⟨by omega, by have := HK.out; omega⟩, HD16⟩
                case measure => have := HK.out; simp [intOf]; omega
        · have b1 : ¬ (k : Int) ≤ (N : Int) := by omega
          obtain ⟨d, G, g, q, g1, g2, g3, g4, g5, g6, g7, g8, g9⟩ := HS.out
          have hup : upNames d = namesG (G ++ [g]) := by
            show (if d.up = true then _ else _) = _
            rw [if_pos g2.up, g2.names]; rfl
          have hFi := dfilesG g1.lg.dk
          rw [hup] at hFi
          obtain ⟨NM, hNM⟩ : ∃ NM, namesG (G ++ [g]) = NM := ⟨_, rfl⟩
          rw [hNM] at hFi g1
          have hNl : NM.length = ng := by rw [← hNM, g6]; simp [namesG]
          have HG : Hid (SgS w b m p d ((G ++ [g]).map gSg) (.slice na ng nc) NM (.slice (some ⟨ag, 0, none⟩) ng ac) q wr ∧ Str d (G ++ [g]) ∧ q.map (·.2) = framesG (G ++ [g]) ∧ namesG (G ++ [g]) = NM ∧ NM.length = ng ∧ (G ++ [g]).length = ng ∧ bulks (G ++ [g]) ≤ 50000) := ⟨g1, g2, g9, hNM, hNl, g6.symm, by
            rw [g8]
            have h1 := HNK.out
            have h2 := HK.out
            have : (k - 1) * (8 + KB) ≤ 59 * 708 := Nat.mul_le_mul (by omega) (by omega)
            omega⟩
          have bng : (ng : Int) ≤ 61 := by have := HK.out; have := HNK.out; omega
          obtain ⟨wo, hwo⟩ : ∃ wo, wo = wr := ⟨_, rfl⟩
          subst hwo
          clear g1 g2 g3 g4 g5 g6 g7 g8 g9 hup hNM hNl hkn HS
          go_wp2_with (fail)
          refine hFi.mono ?_
          rintro e wf ⟨fv, rfl, hof, hbf⟩
          obtain ⟨fa, fc, hfv⟩ := hof.shape
          subst hfv
          rw [HG.out.2.2.2.2.1] at hof ⊢
          have HOf : Hid (OwnS wf wo.heap.size (.slice fa ng fc) NM) := hof
          have HBf : Hid (Below wo.heap.size wo wf) := hbf
          clear hFi hof hbf
          go_wp2_with (fail)
          go_loopw [16] (fun i wr => ∃ jj : Nat, i = .int .i64 jj ∧ Hid (jj ≤ ng) ∧ Hid (Below wf.heap.size wf wr)) (fun i _ => ng - (intOf i).toNat)
          case atStart => exact ⟨0, rfl, Nat.zero_le _, Below.refl _ _⟩
          case round =>
            obtain ⟨jj, rfl, HJ, HBq⟩ := hrel
            by_cases hj : jj < ng
            · have b2 : (jj : Int) < (ng : Int) := by omega
              have bjn : jj < ng := hj
              have HJn : Hid (jj < ng) := hj
              have hq := (HG.out.1.below HBf.out).below HBq.out
              obtain ⟨x, hx⟩ : ∃ x, (G ++ [g])[jj]? = some x := ⟨(G ++ [g])[jj]'(by rw [HG.out.2.2.2.2.2.1]; exact hj), List.getElem?_eq_getElem _⟩
              have hNx : NM[jj]? = some (nameL x.1) := by rw [← HG.out.2.2.2.1, namesG, List.getElem?_map, hx]; rfl
              obtain ⟨v, hv⟩ : ∃ v, q[jj]? = some (v, framesL x.1 x.2) := by
                have h1 : (q.map (·.2))[jj]? = some (framesL x.1 x.2) := by rw [HG.out.2.2.1, framesG, List.getElem?_map, hx]; rfl
                rw [List.getElem?_map] at h1
                cases hqj : q[jj]? with
                | none => rw [hqj] at h1; cases h1
                | some y =>
                  rw [hqj] at h1
                  have h2 : y.2 = framesL x.1 x.2 := Option.some.inj h1
                  exact ⟨y.1, by rw [← h2]⟩
              have hxm := List.mem_of_getElem? hx
              obtain ⟨f1, f2⟩ := HG.out.2.1.find hxm
              have hRd := dreadG hq.lg.dk (nameL x.1) (by rw [nameL_length]; omega)
              rw [f1, f2] at hRd
              obtain ⟨hc3, va, vc, hva, hr3⟩ := sgAt hq hv
              subst hva
              have hbx := bulk_mem hxm
              have hbl := HG.out.2.2.2.2.2.2
              obtain ⟨FB, hFB⟩ : ∃ FB, framesL x.1 x.2 = FB := ⟨_, rfl⟩
              have hFl : FB.length ≤ 50000 := by rw [← hFB, framesL_length]; omega
              obtain ⟨NX, hNX⟩ : ∃ NX, nameL x.1 = NX := ⟨_, rfl⟩
              rw [hFB] at hRd hr3 hc3
              rw [hNX] at hRd hNx
              obtain ⟨bl, hble⟩ : ∃ bl, FB.length = bl := ⟨_, rfl⟩
              rw [hble] at hRd hr3 hc3
              obtain ⟨fg, hfg, _, hc1, _⟩ := (HOf.out.below HBq.out).at hNx
              obtain ⟨nb, hnb, _, hc2, _⟩ := hq.nm.at hNx
              subst hfg hnb
              obtain ⟨XN, hXN⟩ : ∃ XN : ByteArray, XN = ⟨NX.toArray⟩ := ⟨_, rfl⟩
              have hs : strN NX = .string XN := by rw [hXN]
              obtain ⟨XB, hXB⟩ : ∃ XB : ByteArray, XB = ⟨FB.toArray⟩ := ⟨_, rfl⟩
              have HX : Hid (XB = ⟨FB.toArray⟩ ∧ FB.length = bl ∧ bl ≤ 50000) := ⟨hXB, hble, by omega⟩
              have HR3 : Hid (BRow wr va bl vc FB) := hr3
              rw [hs] at hc1 hc2 hRd
              have HC : Hid (wr.cell? ⟨fg, jj, none⟩ = some (.string XN) ∧ wr.cell? ⟨nb, jj, none⟩ = some (.string XN) ∧ wr.cell? ⟨ag, jj, none⟩ = some (.slice va bl vc)) := ⟨hc1, hc2, hc3⟩
              clear hj hq hx hNx hv hxm f1 f2 hbx hbl hFB hFl hNX hble hXN hs hXB hr3 hc2 hc3 HJ
              go_wp2_with (fail)
              refine hRd.mono ?_
              rintro e v2 ⟨sa, sc, rfl, hs2, hb2⟩
              have hr2 : BRow v2 sa bl sc FB := by
                have := own_brow (w := v2) (B := wr.heap.size) (a := sa) (cap := sc) (l := FB) (by rw [HX.out.2.1]; exact hs2)
                rwa [HX.out.2.1] at this
              have hr3 := HR3.out.below hb2
              have z1 : ∀ i, (convert 34 9 (.slice sa bl sc)).run Tryz.prog (v2.drewN i) = .ok (.string XB) (v2.drewN i) := fun i => by rw [HX.out.1]; exact (hr2.drewN i).string
              have z2 : ∀ i, (convert 34 9 (.slice va bl vc)).run Tryz.prog (v2.drewN i) = .ok (.string XB) (v2.drewN i) := fun i => by rw [HX.out.1]; exact (hr3.drewN i).string
              have y0 : ∀ {a : Nat} {u : Value}, wr.cell? ⟨a, jj, none⟩ = some u → ∀ i, (v2.drewN i).cell? ⟨a, jj, none⟩ = some u := fun {a u} h i => by
                have : v2.cell? ⟨a, jj, none⟩ = some u := by rw [hb2.cell (World.block_lt_of_cell? wr _ h)]; exact h
                exact this
              have y1 := y0 HC.out.1
              have y2 := y0 HC.out.2.1
              have y3 := y0 HC.out.2.2
              have HB2 : Hid (Below wf.heap.size wf v2) := HBq.out.trans (hb2.mono HBq.out.size)
              clear hRd hs2 hb2 hr2 hr3 y0 hc1
              go_wp2_with (fail)
              go_quiet (fail)
              go_wp2_with (fail)
              go_roundw
              case rel => exact ⟨jj + 1, by first | rfl | go_num, by have := HJn.out; show jj + 1 ≤ ng; omega, HB2.out.trans ⟨rfl, rfl, rfl, Nat.le_refl _, fun _ _ => rfl⟩⟩
              case measure => have := HJn.out; simp [intOf]; omega
            · have b2 : ¬ (jj : Int) < (ng : Int) := by omega
              have HBe : Hid (Below w.heap.size w wr) := by
                have h1 := HG.out.1.bel
                have h2 := h1.trans (HBf.out.mono h1.size)
                exact h2.trans (HBq.out.mono h2.size)
              clear hj
              go_wp2_with (fail)
              go_ret
              exact ⟨rfl, HBe.out⟩
end Go.Proofs.YtoaabghignilfaaGreatDoor
