/- InlineBreaks: lines are held apart by breaks; walked. -/
import Derived.Test.YtpjkfmpgmhpdoaaGreatDoorWCode8
import Derived.Test.YtpjkfmpgmhpdoaaGreatDoorBrkC
set_option linter.unusedVariables false
namespace Go.Proofs.YtpjkfmpgmhpdoaaGreatDoor
open Go.RowKit

theorem add_off8 (b off i : Nat) : (⟨b, off, none⟩ : Addr).add i = ⟨b, off + i, none⟩ := by unfold Addr.add; split <;> simp_all
theorem al8 {w : World} {a : Addr} {v : Value} (h : w.cell? a = some v) (o : Obj) : (w.alloc o).cell? a = some v := (((Below.refl w.heap.size w).alloc (Nat.le_refl _) o).cell (p := a) (World.block_lt_of_cell? w a h)).trans h
theorem drew8 {u w : World} (h : Below w.heap.size w u) (o p : Obj) : Below w.heap.size w ((u.alloc o).alloc p).drew := by
  have b1 := h.alloc h.size o
  have b2 := b1.alloc b1.size p
  exact b2.trans ⟨rfl, rfl, rfl, Nat.le_refl _, fun k hk => rfl⟩

/-- The two rows of words that are laid in each round. -/
abbrev lit8 : Array Value := #[.string ⟨#[]⟩, .string ⟨#[32]⟩, .string ⟨#[32, 32]⟩, .string ⟨#[32, 32, 32, 32, 32]⟩, .string ⟨#[92]⟩, .string ⟨#[32, 92]⟩, .string ⟨#[]⟩, .string ⟨#[32, 32]⟩]
abbrev lit2 : Array Value := #[.string ⟨#[]⟩, .string ⟨#[32, 32]⟩]
theorem lit8_at (m : Nat) (h : m ≤ 7) (wq : World) : (wq.alloc (.cells lit8 9)).cell? ⟨wq.heap.size, m, none⟩ = some (strI (brkE m)) := by
  have := lit_cells wq lit8.toList 9 m (strI (brkE m)) (by
    have : m = 0 ∨ m = 1 ∨ m = 2 ∨ m = 3 ∨ m = 4 ∨ m = 5 ∨ m = 6 ∨ m = 7 := by omega
    rcases this with rfl | rfl | rfl | rfl | rfl | rfl | rfl | rfl <;> rfl)
  rwa [add_off8, Nat.zero_add] at this
theorem lit2_at (m : Nat) (h : m ≤ 1) (wq : World) : (wq.alloc (.cells lit2 9)).cell? ⟨wq.heap.size, m, none⟩ = some (strI (brkB (m == 1))) := by
  have := lit_cells wq lit2.toList 9 m (strI (brkB (m == 1))) (by
    have : m = 0 ∨ m = 1 := by omega
    rcases this with rfl | rfl <;> rfl)
  rwa [add_off8, Nat.zero_add] at this

set_option maxHeartbeats 8000000 in
set_option maxRecDepth 20000 in
theorem wbreaks8 (a0 : Option Addr) (b0 o0 len0 cap0 : Nat) (num0 : Nat → Int) (w : World) (hm : Glob w) (e01 : 0 < len0 → a0 = some ⟨b0, o0, none⟩) (e02 : ∀ i, i < len0 → w.cell? ⟨b0, o0 + i, none⟩ = some (.int .i64 (num0 i))) (e03 : len0 ≤ maxLen) (e04 : ∀ i, -9223372036854775808 ≤ num0 i ∧ num0 i ≤ 9223372036854775807) :
    Calls Tryz.prog 8 #[.slice a0 len0 cap0] w fun e w' => e = .returned (.bool true) ∧ Below w.heap.size w w' := by
  unfold maxLen at e03
  have HS : Hid (Calls Tryz.prog 9 #[] w fun e w' => e = .returned (.bool true) ∧ Below w.heap.size w w') := ishown_any w hm
  have HG := (show Hid (Glob w) from hm)
  have h3 := hm.2.2
  have HBL : Hid (0 < len0 → b0 < w.heap.size) := fun h => World.block_lt_of_cell? w ⟨b0, o0 + 0, none⟩ (e02 0 h)
  have E1 := (show Hid (0 < len0 → a0 = some ⟨b0, o0, none⟩) from e01)
  have E2 := (show Hid (∀ i, i < len0 → w.cell? ⟨b0, o0 + i, none⟩ = some (.int .i64 (num0 i))) from e02)
  have E4 := (show Hid (∀ i, -9223372036854775808 ≤ num0 i ∧ num0 i ≤ 9223372036854775807) from e04)
  obtain ⟨n, hn⟩ : ∃ n, n = min len0 40 := ⟨_, rfl⟩
  have hmin : min (len0 : Int) 40 = (n : Int) := by omega
  have hn40 : n ≤ 40 := by omega
  have hnl : n ≤ len0 := by omega
  have HP : Hid (∀ (u : World) (L : Str8), Below w.heap.size w u → L.length ≤ 1073741824 → Calls Tryz.prog 11 #[strI L, .slice none 0 0] u fun e w' => ∃ v', e = .returned v' ∧ (∃ ys, w'.ownsRow 0 32 5 v' (parseI L []).len ys ∧ KidI w' (fun _ => True) (parseI L []) ys) ∧ Below u.heap.size u w') := fun u L hu hL => iparse_nil L hL u (HG.out.below h3 hu)
  have hlo : ∃ lo : Nat → Nat, ∀ i, lo i ≤ 7 ∧ bits .and .i64 (num0 i) 7 = (lo i : Int) := ⟨fun i => (and_bits8 7 (by omega) (num0 i)).choose, fun i => (and_bits8 7 (by omega) (num0 i)).choose_spec⟩
  have hhi : ∃ hi : Nat → Nat, ∀ i, hi i ≤ 1 ∧ bits .and .i64 (num0 i / 8) 1 = (hi i : Int) := ⟨fun i => (and_bits8 1 (by omega) (num0 i / 8)).choose, fun i => (and_bits8 1 (by omega) (num0 i / 8)).choose_spec⟩
  obtain ⟨lo, hlo⟩ := hlo
  obtain ⟨hi, hhi⟩ := hhi
  have HLO := (show Hid (∀ i, lo i ≤ 7 ∧ bits .and .i64 (num0 i) 7 = (lo i : Int)) from hlo)
  have HHI := (show Hid (∀ i, hi i ≤ 1 ∧ bits .and .i64 (num0 i / 8) 1 = (hi i : Int)) from hhi)
  clear hm e01 e02 e04 hn hlo hhi
  go_enter Tryz.func8, Tryz.ntmps8
  go_wp2_with (go_at_call 9; refine Calls.mono HS.out ?_; rintro e u1 ⟨rfl, hb1⟩; have HB1 := (show Hid (Below _ _ _) from hb1); clear hb1)
  go_loopw [4, 6] (fun s i wr => ∃ (k : Nat) (S : Str8), i = .int .i64 (k : Int) ∧ k ≤ n ∧ s = strI S ∧ Hid (S = (brkQ lo hi k).flatMap pieceI) ∧ Hid (Below w.heap.size w wr)) (fun _ i _ => n - (intOf i).toNat)
  case atStart => exact ⟨0, [], rfl, Nat.zero_le _, rfl, rfl, HB1⟩
  case round =>
    obtain ⟨k, S, rfl, hk, rfl, HSS, HBr⟩ := hrel
    have hSl : S.length ≤ 12 * k := by rw [HSS.out]; exact brkQ_size lo hi k
    by_cases hlt : k < n
    · have hlt1 : (k : Int) < (n : Int) := by omega
      have hlt2 : (k : Int) < (len0 : Int) := by omega
      have hao := E1.out (by omega)
      subst hao
      have hck : wr.cell? ⟨b0, o0 + k, none⟩ = some (.int .i64 (num0 k)) := (HBr.out.cell (p := ⟨b0, o0 + k, none⟩) (HBL.out (by omega))).trans (E2.out k (by omega))
      obtain ⟨hx7, hbx⟩ := HLO.out k
      obtain ⟨hy1, hby⟩ := HHI.out k
      obtain ⟨hr1, hr2⟩ := E4.out k
      have HSN : Hid (S ++ [119] ++ brkE (lo k) ++ [10] ++ brkB (hi k == 1) = (brkQ lo hi (k + 1)).flatMap pieceI) := by
        show _ = _
        rw [brkQ_next, ← HSS.out]
        simp [pieceI]
      have hpl := piece_len (lo k, hi k == 1)
      have c8 := lit8_at (lo k) hx7
      have c2 := lit2_at (hi k) hy1
      generalize num0 k = z at *
      generalize hi k = y at *
      generalize lo k = x at *
      have hEl : (brkE x).length + (brkB (y == 1)).length ≤ 10 := by
        unfold pieceI at hpl
        simp only [List.length_append, List.length_cons, List.length_nil] at hpl
        omega
      generalize brkE x = E at *
      generalize brkB (y == 1) = F at *
      have d1 := sadd8 S [119] (by simp only [List.length_cons, List.length_nil]; omega)
      have d2 := sadd8 (S ++ [119]) E (by simp only [List.length_append, List.length_cons, List.length_nil]; omega)
      have d3 := sadd8 (S ++ [119] ++ E) [10] (by simp only [List.length_append, List.length_cons, List.length_nil]; omega)
      have d4 := sadd8 (S ++ [119] ++ E ++ [10]) F (by simp only [List.length_append, List.length_cons, List.length_nil]; omega)
      generalize S ++ [119] ++ E ++ [10] ++ F = X4 at *
      generalize S ++ [119] ++ E ++ [10] = X3 at *
      generalize S ++ [119] ++ E = X2 at *
      generalize S ++ [119] = X1 at *
      have hx8 : (x : Int) < 8 := by omega
      have hy2 : (y : Int) < 2 := by omega
      have k1 := fun o => al8 hck o
      have k2 := fun o p => al8 (k1 o) p
      have c8a := fun wq o => al8 (c8 wq) o
      have c2a := fun wq o => al8 (c2 wq) o
      have sz : ∀ (wq : World) (o : Obj), (wq.alloc o).heap.size = wq.heap.size + 1 := fun wq o => by simp
      have c8b : ∀ (wq : World) (o : Obj), ((wq.alloc o).alloc (.cells lit8 9)).cell? ⟨wq.heap.size + 1, x, none⟩ = some (strI E) := fun wq o => by rw [← sz wq o]; exact c8 _
      have c2b : ∀ (wq : World) (o : Obj), ((wq.alloc o).alloc (.cells lit2 9)).cell? ⟨wq.heap.size + 1, y, none⟩ = some (strI F) := fun wq o => by rw [← sz wq o]; exact c2 _
      clear hpl hx7 hy1 HSS hEl E1 HP HS HG sz
      go_wp2
      go_region
      all_goals (go_wp2_with fail)
      all_goals exact ⟨⟨k + 1, X4, by go_num, by omega, rfl, HSN, drew8 HBr.out _ _⟩, by simp [intOf]; omega⟩
    · obtain rfl : k = n := by omega
      have hlt1 : ¬ (k : Int) < (k : Int) := by omega
      have hk40 : (k : Int) ≤ 40 := by omega
      have d1 := sadd8 S [122] (by simp only [List.length_cons, List.length_nil]; omega)
      have HPx : Hid (∀ u, Below w.heap.size w u → Calls Tryz.prog 11 #[strI (S ++ [122]), .slice none 0 0] u fun e w' => ∃ g c, e = .returned (.slice (some ⟨g, 0, none⟩) (2 * k + 1) c) ∧ ((∀ i, i < k → w'.cell? ⟨g, 10 * i, none⟩ = some (.int .i64 0) ∧ w'.cell? ⟨g, 10 * i + 1, none⟩ = some (strW (brkW (lo i))) ∧ w'.cell? ⟨g, 10 * i + 5, none⟩ = some (.int .i64 (brkK (lo i) : Nat))) ∧ w'.cell? ⟨g, 10 * k + 1, none⟩ = some (strW [122])) ∧ Below w.heap.size w w') := fun u hu => by
        refine (HP.out u _ hu (by simp only [List.length_append, List.length_cons, List.length_nil]; omega)).mono ?_
        rintro e w' ⟨v', rfl, ⟨ys, hr, hkd⟩, hb⟩
        have hq : ∀ q ∈ brkQ lo hi k, q.1 < 8 := fun q hq => by
          obtain ⟨i, _, rfl⟩ := List.mem_map.1 hq
          have := (HLO.out i).1
          show lo i < 8
          omega
        rw [HSS.out, breaks_parse _ hq] at hr hkd
        obtain ⟨c1, c2⟩ := brks_cells _ _ hkd
        rw [brks_len, brkQ_len] at hr
        rw [brkQ_len] at c2
        obtain ⟨a, c, rfl⟩ := row_len hr
        obtain ⟨g, rfl, _, q1⟩ := row_cell hr c2
        refine ⟨g, c, rfl, ⟨fun i hi => ?_, q1⟩, hu.trans (hb.mono hu.size)⟩
        obtain ⟨f1, f2, f3⟩ := c1 i _ (brkQ_at lo _ hi)
        refine ⟨?_, ?_, ?_⟩
        · obtain ⟨g', e, _, q⟩ := row_cell hr f1; cases e; exact q
        · obtain ⟨g', e, _, q⟩ := row_cell hr f2; cases e; exact q
        · obtain ⟨g', e, _, q⟩ := row_cell hr f3; cases e; exact q
      clear HP HSS HHI hlt hk HS HG hSl
      go_wp2_with (go_at_call 11; refine Calls.mono (HPx.out _ HBr.out) ?_; rintro e u3 ⟨g, c, rfl, hcs, hb3⟩; have HCS := (show Hid _ from hcs); have HB3 := (show Hid (Below _ _ _) from hb3); clear hb3 hcs)
      have HCK : Hid (∀ j, j < k → u3.cell? ⟨b0, o0 + j, none⟩ = some (.int .i64 (num0 j))) := fun j hj => (HB3.out.cell (p := ⟨b0, o0 + j, none⟩) (HBL.out (by omega))).trans (E2.out j (by omega))
      go_loopw [8] (fun i wr2 => ∃ j : Nat, i = .int .i64 (j : Int) ∧ j ≤ k ∧ wr2 = u3) (fun i _ => k - (intOf i).toNat)
      case atStart => exact ⟨0, rfl, Nat.zero_le _, rfl⟩
      case round =>
        obtain ⟨j, rfl, hj, hw⟩ := hrel
        subst hw
        by_cases hjk : j < k
        · have hj1 : (j : Int) < (k : Int) := by omega
          have hj2 : (j : Int) < (len0 : Int) := by omega
          have hao := E1.out (by omega)
          subst hao
          have hck := HCK.out j hjk
          obtain ⟨hx7, hbx⟩ := HLO.out j
          obtain ⟨hr1, hr2⟩ := E4.out j
          obtain ⟨f1, f2, f3⟩ := HCS.out.1 j hjk
          obtain ⟨J, hJ⟩ : ∃ J, J = 2 * j := ⟨_, rfl⟩
          have hJi : 2 * (j : Int) = (J : Int) := by omega
          have hJ1 : (J : Int) + 1 < 2 * (k : Int) + 1 := by omega
          have hJ2 : (J : Int) < 2 * (k : Int) + 1 := by omega
          rw [show 10 * j = J * 5 by omega] at f1 f2 f3
          rw [show J * 5 + 5 = (J + 1) * 5 by omega] at f3
          clear hJ
          generalize num0 j = z at *
          generalize lo j = x at *
          clear HCS HCK HLO E4 E2 HPx
          by_cases h5 : x = 5
          · subst h5
            have e1 : brkW 5 = [119, 32] := rfl
            have e2 : brkK 5 = 2 := rfl
            rw [e1] at f2
            rw [e2] at f3
            clear e1 e2
            go_wp2
            go_roundw
            case rel => exact ⟨j + 1, by go_num, by omega, by first | rfl | trivial⟩
            case measure => simp [intOf]; omega
          · have i5 : ¬ (x : Int) = 5 := by omega
            have e1 : brkW x = [119] := if_neg h5
            rw [e1] at f2
            clear e1
            by_cases h6 : x = 6
            · subst h6
              have e2 : brkK 6 = 1 := rfl
              rw [e2] at f3
              clear e2 i5 h5
              go_wp2
              go_roundw
              case rel => exact ⟨j + 1, by go_num, by omega, by first | rfl | trivial⟩
              case measure => simp [intOf]; omega
            · have i6 : ¬ (x : Int) = 6 := by omega
              have i6b : ((x : Int) != 6) = true := by simpa using i6
              have i5b : ((x : Int) == 5) = false := by simpa using i5
              by_cases h2 : 2 ≤ x
              · have i2 : (2 : Int) ≤ (x : Int) := by omega
                have e2 : brkK x = 2 := if_pos ⟨h2, h6⟩
                rw [e2] at f3
                clear e2 h2 h5 h6
                go_wp2
                go_roundw
                case rel => exact ⟨j + 1, by go_num, by omega, by first | rfl | trivial⟩
                case measure => simp [intOf]; omega
              · have i2 : ¬ (2 : Int) ≤ (x : Int) := by omega
                have e2 : brkK x = 1 := if_neg (fun h => h2 h.1)
                rw [e2] at f3
                clear e2 h2 h5 h6 i6 i6b
                go_wp2
                go_roundw
                case rel => exact ⟨j + 1, by go_num, by omega, by first | rfl | trivial⟩
                case measure => simp [intOf]; omega
        · have hjk2 : j = k := by omega
          subst hjk2
          have hlast := HCS.out.2
          obtain ⟨J, hJ⟩ : ∃ J, J = 2 * j := ⟨_, rfl⟩
          have hJi : 2 * (j : Int) = (J : Int) := by omega
          rw [show 10 * j = J * 5 by omega] at hlast
          have hJ2 : (J : Int) < (J : Int) + 1 := by omega
          clear hJ
          clear HCS HCK HLO E4 E2 HPx
          go_wp2
          go_ret
          exact ⟨rfl, HB3.out⟩
end Go.Proofs.YtpjkfmpgmhpdoaaGreatDoor
