/- The document's names of segments, walked. -/
import Derived.Test.YtoaabghignilfaaGreatDoorV01
import Derived.Test.YtoaabghignilfaaGreatDoorDShown
set_option linter.unusedVariables false
namespace Go.Proofs.YtoaabghignilfaaGreatDoor
open Go.RowKit

def nmA (N k : Nat) : List UInt8 := (List.range 10).map fun j => if j < 4 then ([108, 111, 103, 46] : List UInt8).getD j 0 else if j ≤ k then 48 else dig (N / 10 ^ (9 - j))
theorem nmA_nine (N : Nat) : nmA N 9 = [108, 111, 103, 46, 48, 48, 48, 48, 48, 48] := rfl
theorem nmA_three (N : Nat) : nmA N 3 = nameL N := by
  have : nmA N 3 = [108, 111, 103, 46, dig (N / 100000), dig (N / 10000), dig (N / 1000), dig (N / 100), dig (N / 10), dig (N / 1)] := rfl
  rw [this, Nat.div_one]
  rfl
theorem nmA_len (N k : Nat) : (nmA N k).length = 10 := by simp [nmA]
theorem nmA_step (N k : Nat) (h4 : 4 ≤ k) (h9 : k ≤ 9) : (nmA N k).set k (dig (N / 10 ^ (9 - k))) = nmA N (k - 1) := by
  have hk : k = 4 ∨ k = 5 ∨ k = 6 ∨ k = 7 ∨ k = 8 ∨ k = 9 := by omega
  rcases hk with rfl | rfl | rfl | rfl | rfl | rfl <;> rfl

theorem cell_mk {w : World} {b : Nat} {cs : Array Value} {t : TypeId} {mk : Nat × Nat} (h : w.heap[b]? = some (.cells cs t mk)) {i : Nat} {v : Value} (hi : cs[i]? = some v) : w.cell? ⟨b, i, none⟩ = some v := by
  simp [World.cell?, h, hi]
theorem free_mk {w : World} {b x y : Nat} {cs : Array Value} {t : TypeId} (h : w.heap[b]? = some (.cells cs t (x, y))) (i : Nat) (hi : i < x) : w.frozen? ⟨b, i, none⟩ = false := by
  simp [World.frozen?, h]
  omega
theorem set_mk {w : World} {b : Nat} {cs : Array Value} {t : TypeId} {mk : Nat × Nat} (h : w.heap[b]? = some (.cells cs t mk)) (i : Nat) (u : Value) : (w.setCell ⟨b, i, none⟩ u).heap[b]? = some (.cells (cs.setIfInBounds i u) t mk) := by
  have hlt := lt_blk h
  have h' : w.heap[b] = .cells cs t mk := by simpa [Array.getElem?_eq_getElem hlt] using h
  show (w.heap.modify b _)[b]? = _
  rw [Array.getElem?_eq_getElem (by simpa using hlt), Array.getElem_modify_self, h']
  rfl

set_option maxHeartbeats 2000000 in
set_option maxRecDepth 20000 in
theorem rname_any (N : Nat) (hN : N ≤ 1048576) (w : World) : Calls Tryz.prog 25 #[.int .i64 (N : Int)] w fun e w' => e = .returned (strN (nameL N)) ∧ Below w.heap.size w w' := by
  have cv := conv_mark w
  obtain ⟨B, hB⟩ : ∃ B, B = w.heap.size := ⟨_, rfl⟩
  have HN : Hid (N ≤ 1048576) := hN
  have HBs : Hid (B = w.heap.size) := hB
  clear hN
  go_enter Tryz.func25, Tryz.ntmps25
  go_wp2_with (fail)
  rw [← hB]
  clear hB
  go_loopw [0, 4] (fun x i wr => ∃ (v k : Nat), x = .int .i64 v ∧ i = .int .i64 k ∧ 3 ≤ k ∧ k ≤ 9 ∧ Hid (N / 10 ^ (9 - k) = v) ∧ Hid (wr.heap[B]? = some (.cells (Lib.byteCells (nmA N k)).toArray 5 (10, 11))) ∧ Hid (Below w.heap.size w wr)) (fun _ i _ => (intOf i).toNat)
  case atStart =>
    refine ⟨N, 9, rfl, rfl, by omega, by omega, ?_, ?_, ?_⟩
    · show N / 10 ^ 0 = N
      simp
    · show _ = _
      rw [HBs.out]
      exact heap_alloc_new _ _
    · show Below _ _ _
      exact (Below.refl _ w).alloc (Nat.le_refl _) _
  case round =>
    obtain ⟨v, k, rfl, rfl, h3, h9, HV, HK, HB⟩ := hrel
    by_cases h4 : 4 ≤ k
    · have b1 : (4 : Int) ≤ (k : Int) := by omega
      have b2 : (k : Int) ≤ 9 := by omega
      have bv : (v : Int) ≤ 1048576 := by have h1 := HV.out; have h2 := HN.out; have := Nat.div_le_self N (10 ^ (9 - k)); omega
      obtain ⟨D, hD⟩ : ∃ D, 48 + v % 10 = D := ⟨_, rfl⟩
      obtain ⟨M, hM⟩ : ∃ M, v % 10 = M := ⟨_, rfl⟩
      have e0 : (v : Int) % 10 = (M : Int) := by omega
      have e1 : (48 : Int) + (M : Int) = (D : Int) := by omega
      have bD : (D : Int) ≤ 57 := by omega
      have bM : (M : Int) ≤ 9 := by omega
      obtain ⟨V, hV⟩ : ∃ V, v / 10 = V := ⟨_, rfl⟩
      have e2 : (v : Int) / 10 = (V : Int) := by omega
      obtain ⟨K, hK⟩ : ∃ K, k - 1 = K := ⟨_, rfl⟩
      have e3 : (k : Int) - 1 = (K : Int) := by omega
      have hc : wr.cell? ⟨B, k, none⟩ = some (.int .u8 (((nmA N k).getD k 0).toNat : Int)) := by
        refine cell_mk HK.out ?_
        have hl := nmA_len N k
        simp [Lib.byteCells, List.getD_eq_getElem?_getD, show k < (nmA N k).length by omega]
      have hf : wr.frozen? ⟨B, k, none⟩ = false := free_mk HK.out k (by omega)
      generalize (((nmA N k).getD k 0).toNat : Int) = oo at hc
      have HD : Hid (D = (dig (N / 10 ^ (9 - k))).toNat) := by show _ = _; rw [dig_nat, HV.out]; omega
      have bV : (V : Int) ≤ 1048576 := by omega
      clear hD hM h3
      go_wp2_with (fail)
      go_roundw
      case rel =>
        refine ⟨V, K, rfl, rfl, by omega, by omega, ?_, ?_, ?_⟩
        · show _ = _
          rw [← hV, ← HV.out, Nat.div_div_eq_div_mul, ← Nat.pow_succ, show 9 - K = 9 - k + 1 by omega]
        · show _ = _
          rw [set_mk HK.out]
          congr 2
          rw [← hK, ← nmA_step N k h4 h9, HD.out]
          simp [Lib.byteCells, List.map_set]
        · show Below _ _ _
          have hb := HB.out
          refine ⟨hb.os, hb.tape, hb.output, by rw [set_size]; exact hb.size, fun j hj => ?_⟩
          rw [set_other _ (by have := HBs.out; omega)]
          exact hb.block j hj
      case measure => simp [intOf]; omega
    · have hk : k = 3 := by omega
      subst hk
      have e4 : (convert 34 9 (.slice (some ⟨B, 0, none⟩) 10 10)).run Tryz.prog wr = .ok (strN (nameL N)) wr := by
        have hr : BRow wr (some ⟨B, 0, none⟩) 10 10 (nameL N) := by
          refine ⟨rfl, .inr ⟨_, rfl, fun j hj => ?_⟩⟩
          rw [Addr.add_lit, Nat.zero_add]
          refine cell_mk HK.out ?_
          rw [nmA_three]
          simp [Lib.byteCells, hj]
        exact hr.string
      go_wp2_with (fail)
      go_ret
      exact ⟨rfl, HB.out⟩
end Go.Proofs.YtoaabghignilfaaGreatDoor
