/- RunesJoin: for every texts and every numbers, lines that are put together are these lines; no condition. -/
import Derived.Test.YtnpboadefhannaaShown
import Derived.Test.YtnpboadefhannaaPlainJoin
import Derived.ProofKit
import Derived.OpenShut
import Derived.ShutString
import Derived.ChangeOld
import Derived.Below
import Derived.SliceStrings
import Derived.Deep.QuietTactic
import Derived.BigQuiet
set_option linter.unusedVariables false
namespace Go.Proofs.Ytnpboadefhannaa.runesJoin
open Go.ChangeShapes Go.WideShapes Go.ChangeAt Go.RowKit
open Go.ChangeMaps (open_string shut_string)

theorem own : ownKnob Try.prog.godebug = none := by kernel_rfl
theorem laidOut : laidOutB Try.prog = true := by kernel_rfl

theorem own_addr {w : World} {B : Nat} {e : TypeId} {ao : Option Addr} {cap n k : Nat} {xs : List Value} (h : w.ownsRow B e 1 (.slice ao n cap) n xs) (hk : k < n) : ∃ g, ao = some ⟨g, 0, none⟩ ∧ B ≤ g ∧ g < w.heap.size := by
  rcases h.2 with ⟨_, h0⟩ | ⟨g, cap', cur, hv, hB, hgg, rest⟩
  · omega
  · simp only [Value.slice.injEq] at hv
    exact ⟨g, hv.1, hB, (Array.getElem?_eq_some_iff.1 hgg).1⟩

theorem own_keeps {w w' : World} {B : Nat} {e : TypeId} {v : Value} {n : Nat} {xs : List Value} (h : w.ownsRow B e 1 v n xs) (hb : Below w.heap.size w w') : w'.ownsRow B e 1 v n xs := by
  refine ⟨h.1, ?_⟩
  rcases h.2 with hn | ⟨g, cap, cur, hv, hB, hgg, rest⟩
  · exact .inl hn
  · exact .inr ⟨g, cap, cur, hv, hB, (hb.block g (Array.getElem?_eq_some_iff.1 hgg).1).trans hgg, rest⟩

theorem cat_list (a b : List UInt8) : ByteArray.mk a.toArray ++ ByteArray.mk b.toArray = ⟨(a ++ b).toArray⟩ := by
  apply ByteArray.ext
  simp

theorem one_byte (x : ByteArray) (k : Nat) (h : k < x.size) : x.extract k (k + 1) = ⟨[x.data.toList.getD k 0].toArray⟩ := by
  rw [extract_eq]
  have h' : k < x.data.toList.length := by rw [len_data]; exact h
  rw [drop_cons h', show k + 1 - k = 1 by omega]
  rfl

theorem ne_size (x : ByteArray) (h : x.toList.isEmpty = false) : 0 < x.size := by
  rw [ByteArray.toList_eq] at h
  cases hd : x.data.toList with
  | nil => rw [hd] at h; cases h
  | cons c t => rw [← len_data, hd]; simp

theorem one_str (s : ByteArray) : ∀ u ∈ [Value.string s], u.oneCell' = true := by
  intro u hu; simp at hu; subst hu; rfl
theorem base_alloc {B : Nat} {w : World} (h : B ≤ w.heap.size) (o : Obj) : B ≤ (w.alloc o).heap.size := by simp; omega

set_option maxHeartbeats 8000000 in
set_option maxRecDepth 100000 in
theorem walk (ta : Option Addr) (bt ot lt ct : Nat) (txt : Nat → ByteArray) (ea : Option Addr) (be oe le ce : Nat) (num : Nat → Int) (w : World)
    (hta : 0 < lt → ta = some ⟨bt, ot, none⟩) (hct : ∀ i, i < lt → w.cell? ⟨bt, ot + i, none⟩ = some (.string (txt i))) (hlt : lt ≤ maxLen) (hts : ∀ i, (txt i).size ≤ maxLen)
    (hea : 0 < le → ea = some ⟨be, oe, none⟩) (hce : ∀ i, i < le → w.cell? ⟨be, oe + i, none⟩ = some (.int .i64 (num i))) (hle : le ≤ maxLen) :
    Calls Try.prog 7 #[.slice ta lt ct, .slice ea le ce] w fun e w' => e = .returned (.bool true) ∧ Below w.heap.size w w' := by
  obtain ⟨i0, hi, hz0, hz1, hz2⟩ := info_parts info9
  unfold maxLen at hlt hle hts
  have hbt : 0 < lt → bt < w.heap.size := fun h => World.block_lt_of_cell? w ⟨bt, ot + 0, none⟩ (hct 0 h)
  have hbe : 0 < le → be < w.heap.size := fun h => World.block_lt_of_cell? w ⟨be, oe + 0, none⟩ (hce 0 h)
  go_enter Try.func7, Try.ntmps7
  go_wp2_with (go_at_call 9; refine (shown_any _).mono ?_)
  first | rintro e w1 rfl hb1 | rintro e w1 ⟨rfl, hb1⟩
  go_wp2
  go_loopw [6, 7, 8] (fun v s t wr => ∃ (i : Nat) (acc : List (List UInt8)) (A : List UInt8) (b : Bool), wr.ownsRow w.heap.size 9 1 v acc.length (strVs acc) ∧ s = .string ⟨A.toArray⟩ ∧ t = .int .i64 i ∧ i ≤ 50 ∧ acc.length ≤ i ∧ A.length ≤ 203 * i ∧ Below w.heap.size w wr ∧ Hid (Put A acc b) ∧ Hid (b = true → i < lt → 0 < (txt i).size ∧ notEnd ((txt i).data.toList.getD 0 0) = true)) (fun _ _ t _ => 50 - (intOf t).toNat)
  case atStart => exact ⟨0, [], [], false, World.ownsRow_nil _ _ _ _, rfl, rfl, by omega, by simp, by simp, hb1, put_nil, fun h => by cases h⟩
  case round =>
    obtain ⟨i, acc, A, b, hown, rfl, rfl, hi5, hac, hAl, hbw, HP, HB⟩ := hrel
    have hsz := hbw.size
    by_cases hgo : i < lt ∧ i < le ∧ i < 50
    · obtain ⟨g1, g2, g3⟩ := hgo
      have hta' := hta (by omega)
      have hea' := hea (by omega)
      clear hta hea
      subst hta'
      subst hea'
      have hcx : wr.cell? ⟨bt, ot + i, none⟩ = some (.string (txt i)) := (hbw.cell (p := ⟨bt, ot + i, none⟩) (hbt (by omega))).trans (hct i g1)
      have hxs := hts i
      have hxl := len_data (txt i)
      obtain ⟨x, hx⟩ : ∃ x, txt i = x := ⟨_, rfl⟩
      rw [hx] at hcx hxs hxl HB
      go_wp2
      go_loop [9, 10] (fun t k => ∃ k' : Nat, k' ≤ x.size ∧ k' ≤ 200 ∧ k = .int .i64 k' ∧ t = .string ⟨(bare x.data.toList k').toArray⟩) (fun _ k => 200 - (intOf k).toNat)
      case atStart => exact ⟨0, by omega, by omega, rfl, rfl⟩
      case round =>
        obtain ⟨k, hk1, hk2, rfl, rfl⟩ := hrel
        have hbl := bare_le x.data.toList k
        by_cases hkk : k < x.size ∧ k < 200
        · obtain ⟨k1, k2⟩ := hkk
          have hb := byte_at x k k1
          have hkl : k < x.data.toList.length := by rw [len_data]; exact k1
          cases hn : notEnd (x.data.toList.getD k 0) with
          | true =>
            have h2 := notEnd_of hn
            rw [← hb] at h2
            have q1 : ((x[k].toNat : Int) != 10) = true := by simp; omega
            have q2 : ((x[k].toNat : Int) != 13) = true := by simp; omega
            have HM : Hid (ByteArray.mk (bare x.data.toList k).toArray ++ x.extract k (k + 1) = ⟨(bare x.data.toList (k + 1)).toArray⟩) := by
              show _ = _
              rw [bare_more hkl hn, one_byte x k k1, cat_list]
            have hxe : (x.extract k (k + 1)).size = 1 := by rw [one_byte x k k1]; rfl
            clear hb h2 hn
            go_wp2
            go_round
            case rel => exact ⟨k + 1, by omega, by omega, by go_num, by rw [← HM.out]⟩
            case measure => simp [intOf]; omega
          | false =>
            have h2 := isEnd_of hn
            rw [← hb] at h2
            have HM : Hid (bare x.data.toList (k + 1) = bare x.data.toList k) := bare_skip hkl hn
            clear hb hn
            rcases h2 with h2 | h2
            · have q1 : ((x[k].toNat : Int) != 10) = false := by simp; omega
              clear h2
              go_wp2
              go_round
              case rel => exact ⟨k + 1, by omega, by omega, by go_num, by rw [HM.out]⟩
              case measure => simp [intOf]; omega
            · have q1 : ((x[k].toNat : Int) != 10) = true := by simp; omega
              have q2 : ((x[k].toNat : Int) != 13) = false := by simp; omega
              clear h2
              go_wp2
              go_round
              case rel => exact ⟨k + 1, by omega, by omega, by go_num, by rw [HM.out]⟩
              case measure => simp [intOf]; omega
        · have hT : bare x.data.toList k = bare x.data.toList 200 := bare_all (by rw [len_data]; omega)
          have hT2 := bare_le x.data.toList 200
          have hT3 := bare_ok x.data.toList 200
          have hT4 : Hid (0 < x.size → notEnd (x.data.toList.getD 0 0) = true → bare x.data.toList 200 ≠ []) := fun a c => bare_ne (by rw [len_data]; exact a) c
          have hdd : x.size ≤ k ∨ (k < x.size ∧ 200 ≤ k) := by omega
          rw [hT]
          generalize bare x.data.toList 200 = T at *
          have HT3 : Hid (∀ c ∈ T, notEnd c = true) := hT3
          clear hT hT3 hbl hkk
          have hmx : acc.length + 1 ≤ maxLen := by unfold maxLen; omega
          have hby : (acc.length + 1) * 16 ≤ 140737488355328 := by omega
          obtain ⟨y, hy⟩ : ∃ y, bits BinOp.and IntKind.i64 (num i) 3 = y := ⟨_, rfl⟩
          obtain ⟨x1, hx1⟩ : ∃ x1, txt (i + 1) = x1 := ⟨_, rfl⟩
          have hx1s := hts (i + 1)
          rw [hx1] at hx1s
          have HY : Hid (bits BinOp.and IntKind.i64 (num i) 3 = y) := hy
          have hcases : ((y == 1) = true ∧ (y == 2) = false) ∨ ((y == 1) = false ∧ (y == 2) = false) ∨ ((y == 1) = false ∧ (y == 2) = true) := by
            by_cases a1 : y = 1
            · left; subst a1; exact ⟨rfl, rfl⟩
            · by_cases a2 : y = 2
              · right; right; subst a2; exact ⟨rfl, rfl⟩
              · right; left; exact ⟨by simpa using a1, by simpa using a2⟩
          rcases hdd with hd | ⟨hd, hd2⟩
          all_goals
            first | have hd3 : decide ((k : Int) < 200) = false := by (simp; omega) | skip
            rcases hcases with ⟨y1, y2⟩ | ⟨y1, y2⟩ | ⟨y1, y2⟩
            · go_wp2_with (at_builtin; refine wpList_append_own _ rfl _ _ 28 rfl w.heap.size 9 i0 (.string ⟨#[]⟩) 1 16 Try.underlying28 hi hz0 hz1 hz2 rfl (by decide) _ _ _ rfl (hown.alloc _) ⟨wr.heap.size, 0, none⟩ 1 1 [.string ⟨T.toArray⟩] rfl rfl (lit_cells _ [.string ⟨T.toArray⟩] _) (one_str _) hmx hby (base_alloc hsz _) ?_; intro v2 w2 hown3 hgrow _; have hbw3 := below_grown hbw hsz hown hgrow; have hcz : w2.cell? ⟨be, oe + i, none⟩ = some (.int .i64 (num i)) := (hbw3.cell (p := ⟨be, oe + i, none⟩) (hbe (by omega))).trans (hce i g2))
              go_roundw
              case rel =>
                refine ⟨i + 1, acc ++ [T], A ++ T ++ [13, 10], false, ?_, ?_, by go_num, by omega, by simp; omega, by simp only [List.length_append, List.length_cons, List.length_nil]; omega, hbw3, ?_, ?_⟩
                · rw [strVs_push, List.length_append]; exact hown3
                · exact congrArg Value.string (by rw [cat_list]; exact cat_list (A ++ T) [13, 10])
                · exact put_step A acc b false T [13, 10] HP.out HT3.out (fun hb => hT4.out (HB.out hb g1).1 (HB.out hb g1).2) (.inr (.inl ⟨rfl, rfl⟩))
                · exact fun h => by cases h
              case measure => simp [intOf]; omega
            · go_wp2_with (at_builtin; refine wpList_append_own _ rfl _ _ 28 rfl w.heap.size 9 i0 (.string ⟨#[]⟩) 1 16 Try.underlying28 hi hz0 hz1 hz2 rfl (by decide) _ _ _ rfl (hown.alloc _) ⟨wr.heap.size, 0, none⟩ 1 1 [.string ⟨T.toArray⟩] rfl rfl (lit_cells _ [.string ⟨T.toArray⟩] _) (one_str _) hmx hby (base_alloc hsz _) ?_; intro v2 w2 hown3 hgrow _; have hbw3 := below_grown hbw hsz hown hgrow; have hcz : w2.cell? ⟨be, oe + i, none⟩ = some (.int .i64 (num i)) := (hbw3.cell (p := ⟨be, oe + i, none⟩) (hbe (by omega))).trans (hce i g2))
              go_roundw
              case rel =>
                refine ⟨i + 1, acc ++ [T], A ++ T ++ [10], false, ?_, ?_, by go_num, by omega, by simp; omega, by simp only [List.length_append, List.length_cons, List.length_nil]; omega, hbw3, ?_, ?_⟩
                · rw [strVs_push, List.length_append]; exact hown3
                · exact congrArg Value.string (by rw [cat_list]; exact cat_list (A ++ T) [10])
                · exact put_step A acc b false T [10] HP.out HT3.out (fun hb => hT4.out (HB.out hb g1).1 (HB.out hb g1).2) (.inl ⟨rfl, rfl⟩)
                · exact fun h => by cases h
              case measure => simp [intOf]; omega
            · by_cases p1 : i + 1 < lt
              · by_cases p2 : i + 1 < le
                · cases p4 : x1.toList.isEmpty with
                  | true =>
                    go_wp2_with (at_builtin; refine wpList_append_own _ rfl _ _ 28 rfl w.heap.size 9 i0 (.string ⟨#[]⟩) 1 16 Try.underlying28 hi hz0 hz1 hz2 rfl (by decide) _ _ _ rfl (hown.alloc _) ⟨wr.heap.size, 0, none⟩ 1 1 [.string ⟨T.toArray⟩] rfl rfl (lit_cells _ [.string ⟨T.toArray⟩] _) (one_str _) hmx hby (base_alloc hsz _) ?_; intro v2 w2 hown3 hgrow _; have hbw3 := below_grown hbw hsz hown hgrow; have hcz : w2.cell? ⟨be, oe + i, none⟩ = some (.int .i64 (num i)) := (hbw3.cell (p := ⟨be, oe + i, none⟩) (hbe (by omega))).trans (hce i g2); have hcx1 : w2.cell? ⟨bt, ot + (i + 1), none⟩ = some (.string x1) := ((hbw3.cell (p := ⟨bt, ot + (i + 1), none⟩) (hbt (by omega))).trans (hct (i + 1) p1)).trans (by rw [hx1]))
                    go_roundw
                    case rel =>
                      refine ⟨i + 1, acc ++ [T], A ++ T ++ [10], false, ?_, ?_, by go_num, by omega, by simp; omega, by simp only [List.length_append, List.length_cons, List.length_nil]; omega, hbw3, ?_, ?_⟩
                      · rw [strVs_push, List.length_append]; exact hown3
                      · exact congrArg Value.string (by rw [cat_list]; exact cat_list (A ++ T) [10])
                      · exact put_step A acc b false T [10] HP.out HT3.out (fun hb => hT4.out (HB.out hb g1).1 (HB.out hb g1).2) (.inl ⟨rfl, rfl⟩)
                      · exact fun h => by cases h
                    case measure => simp [intOf]; omega
                  | false =>
                    have p3 := ne_size x1 p4
                    have hb0 := byte_at x1 0 p3
                    cases hn : notEnd (x1.data.toList.getD 0 0) with
                    | true =>
                      have h2 := notEnd_of hn
                      rw [← hb0] at h2
                      have p5 : ((x1[0].toNat : Int) != 10) = true := by simp; omega
                      have p6 : ((x1[0].toNat : Int) != 13) = true := by simp; omega
                      have HN : Hid (0 < x1.size ∧ notEnd (x1.data.toList.getD 0 0) = true) := ⟨p3, hn⟩
                      clear hb0 h2 hn
                      go_wp2_with (at_builtin; refine wpList_append_own _ rfl _ _ 28 rfl w.heap.size 9 i0 (.string ⟨#[]⟩) 1 16 Try.underlying28 hi hz0 hz1 hz2 rfl (by decide) _ _ _ rfl (hown.alloc _) ⟨wr.heap.size, 0, none⟩ 1 1 [.string ⟨T.toArray⟩] rfl rfl (lit_cells _ [.string ⟨T.toArray⟩] _) (one_str _) hmx hby (base_alloc hsz _) ?_; intro v2 w2 hown3 hgrow _; have hbw3 := below_grown hbw hsz hown hgrow; have hcz : w2.cell? ⟨be, oe + i, none⟩ = some (.int .i64 (num i)) := (hbw3.cell (p := ⟨be, oe + i, none⟩) (hbe (by omega))).trans (hce i g2); have hcx1 : w2.cell? ⟨bt, ot + (i + 1), none⟩ = some (.string x1) := ((hbw3.cell (p := ⟨bt, ot + (i + 1), none⟩) (hbt (by omega))).trans (hct (i + 1) p1)).trans (by rw [hx1]))
                      go_roundw
                      case rel =>
                        refine ⟨i + 1, acc ++ [T], A ++ T ++ [13], true, ?_, ?_, by go_num, by omega, by simp; omega, by simp only [List.length_append, List.length_cons, List.length_nil]; omega, hbw3, ?_, ?_⟩
                        · rw [strVs_push, List.length_append]; exact hown3
                        · exact congrArg Value.string (by rw [cat_list]; exact cat_list (A ++ T) [13])
                        · exact put_step A acc b true T [13] HP.out HT3.out (fun hb => hT4.out (HB.out hb g1).1 (HB.out hb g1).2) (.inr (.inr ⟨rfl, rfl⟩))
                        · exact fun _ _ => by rw [hx1]; exact HN.out
                      case measure => simp [intOf]; omega
                    | false =>
                      have h2 := isEnd_of hn
                      rw [← hb0] at h2
                      clear hb0 hn
                      rcases h2 with h2 | h2
                      · have p5 : ((x1[0].toNat : Int) != 10) = false := by simp; omega
                        clear h2
                        go_wp2_with (at_builtin; refine wpList_append_own _ rfl _ _ 28 rfl w.heap.size 9 i0 (.string ⟨#[]⟩) 1 16 Try.underlying28 hi hz0 hz1 hz2 rfl (by decide) _ _ _ rfl (hown.alloc _) ⟨wr.heap.size, 0, none⟩ 1 1 [.string ⟨T.toArray⟩] rfl rfl (lit_cells _ [.string ⟨T.toArray⟩] _) (one_str _) hmx hby (base_alloc hsz _) ?_; intro v2 w2 hown3 hgrow _; have hbw3 := below_grown hbw hsz hown hgrow; have hcz : w2.cell? ⟨be, oe + i, none⟩ = some (.int .i64 (num i)) := (hbw3.cell (p := ⟨be, oe + i, none⟩) (hbe (by omega))).trans (hce i g2); have hcx1 : w2.cell? ⟨bt, ot + (i + 1), none⟩ = some (.string x1) := ((hbw3.cell (p := ⟨bt, ot + (i + 1), none⟩) (hbt (by omega))).trans (hct (i + 1) p1)).trans (by rw [hx1]))
                        go_roundw
                        case rel =>
                          refine ⟨i + 1, acc ++ [T], A ++ T ++ [10], false, ?_, ?_, by go_num, by omega, by simp; omega, by simp only [List.length_append, List.length_cons, List.length_nil]; omega, hbw3, ?_, ?_⟩
                          · rw [strVs_push, List.length_append]; exact hown3
                          · exact congrArg Value.string (by rw [cat_list]; exact cat_list (A ++ T) [10])
                          · exact put_step A acc b false T [10] HP.out HT3.out (fun hb => hT4.out (HB.out hb g1).1 (HB.out hb g1).2) (.inl ⟨rfl, rfl⟩)
                          · exact fun h => by cases h
                        case measure => simp [intOf]; omega
                      · have p5 : ((x1[0].toNat : Int) != 10) = true := by simp; omega
                        have p6 : ((x1[0].toNat : Int) != 13) = false := by simp; omega
                        clear h2
                        go_wp2_with (at_builtin; refine wpList_append_own _ rfl _ _ 28 rfl w.heap.size 9 i0 (.string ⟨#[]⟩) 1 16 Try.underlying28 hi hz0 hz1 hz2 rfl (by decide) _ _ _ rfl (hown.alloc _) ⟨wr.heap.size, 0, none⟩ 1 1 [.string ⟨T.toArray⟩] rfl rfl (lit_cells _ [.string ⟨T.toArray⟩] _) (one_str _) hmx hby (base_alloc hsz _) ?_; intro v2 w2 hown3 hgrow _; have hbw3 := below_grown hbw hsz hown hgrow; have hcz : w2.cell? ⟨be, oe + i, none⟩ = some (.int .i64 (num i)) := (hbw3.cell (p := ⟨be, oe + i, none⟩) (hbe (by omega))).trans (hce i g2); have hcx1 : w2.cell? ⟨bt, ot + (i + 1), none⟩ = some (.string x1) := ((hbw3.cell (p := ⟨bt, ot + (i + 1), none⟩) (hbt (by omega))).trans (hct (i + 1) p1)).trans (by rw [hx1]))
                        go_roundw
                        case rel =>
                          refine ⟨i + 1, acc ++ [T], A ++ T ++ [10], false, ?_, ?_, by go_num, by omega, by simp; omega, by simp only [List.length_append, List.length_cons, List.length_nil]; omega, hbw3, ?_, ?_⟩
                          · rw [strVs_push, List.length_append]; exact hown3
                          · exact congrArg Value.string (by rw [cat_list]; exact cat_list (A ++ T) [10])
                          · exact put_step A acc b false T [10] HP.out HT3.out (fun hb => hT4.out (HB.out hb g1).1 (HB.out hb g1).2) (.inl ⟨rfl, rfl⟩)
                          · exact fun h => by cases h
                        case measure => simp [intOf]; omega
                · have p3 : decide ((i : Int) + 1 < (le : Int)) = false := by simp; omega
                  go_wp2_with (at_builtin; refine wpList_append_own _ rfl _ _ 28 rfl w.heap.size 9 i0 (.string ⟨#[]⟩) 1 16 Try.underlying28 hi hz0 hz1 hz2 rfl (by decide) _ _ _ rfl (hown.alloc _) ⟨wr.heap.size, 0, none⟩ 1 1 [.string ⟨T.toArray⟩] rfl rfl (lit_cells _ [.string ⟨T.toArray⟩] _) (one_str _) hmx hby (base_alloc hsz _) ?_; intro v2 w2 hown3 hgrow _; have hbw3 := below_grown hbw hsz hown hgrow; have hcz : w2.cell? ⟨be, oe + i, none⟩ = some (.int .i64 (num i)) := (hbw3.cell (p := ⟨be, oe + i, none⟩) (hbe (by omega))).trans (hce i g2))
                  go_roundw
                  case rel =>
                    refine ⟨i + 1, acc ++ [T], A ++ T ++ [10], false, ?_, ?_, by go_num, by omega, by simp; omega, by simp only [List.length_append, List.length_cons, List.length_nil]; omega, hbw3, ?_, ?_⟩
                    · rw [strVs_push, List.length_append]; exact hown3
                    · exact congrArg Value.string (by rw [cat_list]; exact cat_list (A ++ T) [10])
                    · exact put_step A acc b false T [10] HP.out HT3.out (fun hb => hT4.out (HB.out hb g1).1 (HB.out hb g1).2) (.inl ⟨rfl, rfl⟩)
                    · exact fun h => by cases h
                  case measure => simp [intOf]; omega
              · have p3 : decide ((i : Int) + 1 < (lt : Int)) = false := by simp; omega
                go_wp2_with (at_builtin; refine wpList_append_own _ rfl _ _ 28 rfl w.heap.size 9 i0 (.string ⟨#[]⟩) 1 16 Try.underlying28 hi hz0 hz1 hz2 rfl (by decide) _ _ _ rfl (hown.alloc _) ⟨wr.heap.size, 0, none⟩ 1 1 [.string ⟨T.toArray⟩] rfl rfl (lit_cells _ [.string ⟨T.toArray⟩] _) (one_str _) hmx hby (base_alloc hsz _) ?_; intro v2 w2 hown3 hgrow _; have hbw3 := below_grown hbw hsz hown hgrow; have hcz : w2.cell? ⟨be, oe + i, none⟩ = some (.int .i64 (num i)) := (hbw3.cell (p := ⟨be, oe + i, none⟩) (hbe (by omega))).trans (hce i g2))
                go_roundw
                case rel =>
                  refine ⟨i + 1, acc ++ [T], A ++ T ++ [10], false, ?_, ?_, by go_num, by omega, by simp; omega, by simp only [List.length_append, List.length_cons, List.length_nil]; omega, hbw3, ?_, ?_⟩
                  · rw [strVs_push, List.length_append]; exact hown3
                  · exact congrArg Value.string (by rw [cat_list]; exact cat_list (A ++ T) [10])
                  · exact put_step A acc b false T [10] HP.out HT3.out (fun hb => hT4.out (HB.out hb g1).1 (HB.out hb g1).2) (.inl ⟨rfl, rfl⟩)
                  · exact fun h => by cases h
                case measure => simp [intOf]; omega
    · have hdn := put_done HP.out
      have hline := lines_any ⟨A.toArray⟩ wr (by rw [size_list]; omega)
      rw [list_data, hdn] at hline
      clear HB HP
      have hend : lt ≤ i ∨ (i < lt ∧ le ≤ i) ∨ (i < lt ∧ i < le ∧ 50 ≤ i) := by omega
      clear hgo
      obtain ⟨aw, cw, hv⟩ := own_slice hown
      subst hv
      have hq : (((acc.length : Nat) : Int) != ((acc.length : Nat) : Int)) = false := by simp
      rcases hend with hd | ⟨hd, hd2⟩ | ⟨hd, hd2, hd3⟩
      all_goals
        first | have hd4 : decide ((i : Int) < (le : Int)) = false := by (simp; omega) | have hd4 : decide ((i : Int) < 50) = false := by (simp; omega) | skip
        go_wp2_with (go_at_call 14; refine hline.mono ?_)
        first | rintro e w2 v rfl hownl hb2 | rintro e w2 ⟨v, rfl, hownl, hb2⟩
        obtain ⟨al, cl, hv⟩ := own_slice hownl
        subst hv
        have hown2 := own_keeps hown hb2
        have hbw2 : Below w.heap.size w w2 := hbw.trans (hb2.mono hsz)
        obtain ⟨B2, HB2⟩ : ∃ B2, Hid (wr.heap.size = B2) := ⟨_, rfl⟩
        rw [HB2.out] at hownl
        clear hown hbw hb2 hline hct hce hbt hbe
        go_wp2
        go_loopw [13] (fun t wx => ∃ k : Nat, k ≤ acc.length ∧ t = .int .i64 k ∧ wx.ownsRow w.heap.size 9 1 (.slice aw acc.length cw) acc.length (strVs acc) ∧ wx.ownsRow B2 9 1 (.slice al acc.length cl) acc.length (strVs acc) ∧ Below w.heap.size w wx) (fun t _ => acc.length - (intOf t).toNat)
        case atStart => exact ⟨0, by omega, rfl, hown2, hownl, hbw2⟩
        case round =>
          obtain ⟨k, hk, rfl, hw, hl, hbx⟩ := hrel
          clear hown2 hownl hbw2
          by_cases hkl : k < acc.length
          · obtain ⟨gw, rfl, hgw1, hgw2⟩ := own_addr hw hkl
            obtain ⟨gl, rfl, hgl1, hgl2⟩ := own_addr hl hkl
            have hsk : (strVs acc)[k]? = some (strV acc[k]) := by simp [strVs, hkl]
            have cw1 : wr.cell? ⟨gw, k, none⟩ = some (strV acc[k]) := (hw.cellAt k (by omega)).trans hsk
            have cl1 : wr.cell? ⟨gl, k, none⟩ = some (strV acc[k]) := (hl.cellAt k (by omega)).trans hsk
            generalize acc[k] = xx at *
            unfold strV at cw1 cl1
            clear hsk
            go_wp2
            go_quiet (fail)
            go_wp2
            go_roundw
            case rel => exact ⟨k + 1, by omega, by go_num, hw, hl, below_drewN hbx nq⟩
            case measure => simp [intOf]; omega
          · go_wp2
            go_ret
            exact ⟨rfl, hbx⟩

end Go.Proofs.Ytnpboadefhannaa.runesJoin
