/- A net: slices.Insert of one letter among others; walked. -/
import Derived.Test.YtblohegdlcpipaaUIns
import Derived.Shelf.RegionOpenPlain
set_option linter.unusedVariables false
set_option linter.unusedSimpArgs false
namespace Go.Proofs.Ytblohegdlcpipaa
open Go.RowKit

/-- The row when the letters are shifted, and when the new one is laid. -/
def shift3 (cur D : List Value) (i : Nat) : List Value := cur.take ((i + 1) * 3) ++ D ++ cur.drop ((i + 1) * 3 + D.length)
def lay3 (A X : List Value) (i : Nat) : List Value := A.take (i * 3) ++ X ++ A.drop (i * 3 + X.length)
theorem ins_cells {cur : List Value} {xs : List Lr} {i k : Nat} (x : Lr) (hk : xs.length = k) (hi : i < k) (ht : cur.take (xs.length * 3) = flatL xs) (hs : (k + 1) * 3 ≤ cur.length) :
    (lay3 (shift3 cur (flatL (xs.drop i)) i) x.cells i).take ((insA3 xs i x).length * 3) = flatL (insA3 xs i x) ∧ (lay3 (shift3 cur (flatL (xs.drop i)) i) x.cells i).length = cur.length ∧ (shift3 cur (flatL (xs.drop i)) i).length = cur.length := by
  have hD : (flatL (xs.drop i)).length = (k - i) * 3 := by rw [flatL_len, List.length_drop, hk]
  have hX : x.cells.length = 3 := rfl
  have hc0 : (cur.take ((i + 1) * 3)).length = (i + 1) * 3 := by rw [List.length_take]; omega
  have hl1 : (shift3 cur (flatL (xs.drop i)) i).length = cur.length := by
    unfold shift3
    rw [List.length_append, List.length_append, hc0, List.length_drop, hD]
    omega
  have ht1 : (shift3 cur (flatL (xs.drop i)) i).take (i * 3) = flatL (xs.take i) := by
    unfold shift3
    rw [List.append_assoc, List.take_append_of_le_length (by rw [hc0]; omega), List.take_take, Nat.min_eq_left (by omega), flatL_take, ← ht, List.take_take, Nat.min_eq_left (by omega)]
  have hd1 : (shift3 cur (flatL (xs.drop i)) i).drop (i * 3 + x.cells.length) = flatL (xs.drop i) ++ cur.drop ((i + 1) * 3 + (k - i) * 3) := by
    unfold shift3
    rw [List.append_assoc, hX, show i * 3 + 3 = (i + 1) * 3 by omega, List.drop_left' hc0, hD]
  have hlay : lay3 (shift3 cur (flatL (xs.drop i)) i) x.cells i = flatL (insA3 xs i x) ++ cur.drop ((i + 1) * 3 + (k - i) * 3) := by
    unfold lay3
    rw [ht1, hd1, insA3, flatL_append]
    simp [flatL]
  have hli : (insA3 xs i x).length = k + 1 := by
    unfold insA3
    rw [List.length_append, List.length_cons, List.length_take, List.length_drop, hk]
    omega
  have hfl : (flatL (insA3 xs i x)).length = (insA3 xs i x).length * 3 := flatL_len _
  refine ⟨?_, ?_, hl1⟩
  · rw [hlay, List.take_left' hfl]
  · rw [hlay, List.length_append, hfl, hli, List.length_drop]
    omega

set_option maxHeartbeats 4000000 in
set_option maxRecDepth 40000 in
theorem uins_mid {w : World} {g k c vb i : Nat} {xs : List Lr} (h : OwnL w (.slice (some ⟨g, 0, none⟩) k c) xs) (hi : i < k) (hc : k + 1 ≤ c) (hk : k ≤ 200) (x : Lr) (hv : w.heap[vb]? = some (.cells #[.int .i64 (x.f : Int), .int .i64 (x.t : Int), .slice x.a x.d.length x.c] 57 (0, 0))) (hne : vb ≠ g) :
    Calls Try.prog 29 #[.slice (some ⟨g, 0, none⟩) k c, .int .i64 (i : Int), .slice (some ⟨vb, 0, none⟩) 1 1] w fun e w' => e = .returned (.slice (some ⟨g, 0, none⟩) (k + 1) c) ∧ OwnL w' (.slice (some ⟨g, 0, none⟩) (k + 1) c) (insA3 xs i x) ∧ Fr (fun j => j = g) w w' := by
  obtain ⟨hl, hnc, cur, hblk, hsz, htk, hmx⟩ := h.cap
  have hcells := ins_cells (cur := cur.toList) (i := i) x hl.symm hi htk (by simp; omega)
  have r0 : restP g c (i + 1) = ⟨g, (i + 1) * 3, none⟩ := by unfold restP; rw [if_neg (by omega)]
  have r1 : restP g c i = ⟨g, i * 3, none⟩ := by unfold restP; rw [if_neg (by omega)]
  have q0 : ((k + 1 : Nat) : Int) = (k : Int) + 1 := by omega
  have q1 : ((i + 1 : Nat) : Int) = (i : Int) + 1 := by omega
  have z1 : (Instr.slice 50 (.slice (some ⟨g, 0, none⟩) k c) (some (.int .i64 (i : Int))) none none).run Try.prog w = .ok (.slice (some (restP g c i)) (k - i) (c - i)) w := slice_from g k c i (by omega) (by omega) w
  have z2 : (Instr.slice 50 (.slice (some ⟨g, 0, none⟩) k c) none (some (.int .i64 ((k : Int) + 1))) none).run Try.prog w = .ok (.slice (some ⟨g, 0, none⟩) (k + 1) c) w := by
    have := slice_to3 g k c (k + 1) (by omega) (by omega) w
    rwa [q0] at this
  have z3 : ∀ u, (Instr.slice 50 (.slice (some ⟨g, 0, none⟩) (k + 1) c) (some (.int .i64 ((i : Int) + 1))) none none).run Try.prog u = .ok (.slice (some ⟨g, (i + 1) * 3, none⟩) (k - i) (c - (i + 1))) u := fun u => by
    have := slice_from g (k + 1) c (i + 1) (by omega) (by omega) u
    rwa [q1, r0, show k + 1 - (i + 1) = k - i by omega] at this
  have z4 : ∀ u, (Instr.slice 50 (.slice (some ⟨g, 0, none⟩) (k + 1) c) (some (.int .i64 (i : Int))) none none).run Try.prog u = .ok (.slice (some ⟨g, i * 3, none⟩) (k + 1 - i) (c - i)) u := fun u => by
    have := slice_from g (k + 1) c i (by omega) (by omega) u
    rwa [r1] at this
  have hov := ov_letters w hblk hv hne (by omega) ((i + 1) * 3) (k - i) (c - (i + 1))
  have HPS : Hid (w.heap[g]? = some (.cells cur 57 (0, 0)) ∧ w.heap[vb]? = some (.cells #[.int .i64 (x.f : Int), .int .i64 (x.t : Int), .slice x.a x.d.length x.c] 57 (0, 0)) ∧ vb ≠ g) := ⟨hblk, hv, hne⟩
  have HK : Hid (k = xs.length ∧ k + 1 ≤ c ∧ i < k ∧ cur.size = c * 3 ∧ cur.toList.take (xs.length * 3) = flatL xs ∧ c ≤ maxLen) := ⟨hl, hc, hi, hsz, htk, hmx⟩
  have HX : Hid ((lay3 (shift3 cur.toList (flatL (xs.drop i)) i) x.cells i).take ((insA3 xs i x).length * 3) = flatL (insA3 xs i x) ∧ (lay3 (shift3 cur.toList (flatL (xs.drop i)) i) x.cells i).length = cur.toList.length ∧ (shift3 cur.toList (flatL (xs.drop i)) i).length = cur.toList.length) := hcells
  have bk : (k : Int) ≤ 200 := by omega
  have bi : (i : Int) < (k : Int) := by omega
  have bi0 : ¬ ((i : Int) = (k : Int)) := by omega
  have bc : ¬ ((c : Int) < (k : Int) + 1) := by omega
  have ej : IntKind.i64.wrap ((i : Int) + 1) = (i : Int) + 1 := by rw [IntKind.wrap_i64]; omega
  have hb1 : (0 : Int) ≤ (i : Int) + 1 := by omega
  have hb2 : (i : Int) + 1 ≤ (k : Int) + 1 := by omega
  have hb3 : ((i : Int) + 1).toNat = i + 1 := by omega
  have hb4 : ¬ (c = i + 1) := by omega
  have hb5 : ¬ (c = i) := by omega
  have hb6 : (i : Int) ≤ (k : Int) + 1 := by omega
  have hb7 : k + 1 - (i + 1) = k - i := by omega
  have HC1 : Hid (∀ u : World, u.heap[g]? = some (.cells cur 57 (0, 0)) → ∀ ty, (Builtin.copy_ #[50, 50] ty #[.slice (some ⟨g, (i + 1) * 3, none⟩) (k - i) (c - (i + 1)), .slice (some ⟨g, i * 3, none⟩) (k + 1 - i) (c - i)]).run Try.prog u = .ok (goInt (Nat.min (k + 1 - i) (k - i))) (u.setRow g (shift3 cur.toList (flatL (xs.drop i)) i).toArray)) := fun u hu ty => by
    have hD : (flatL (xs.drop i)).length = (k - i) * 3 := by rw [flatL_len, List.length_drop, ← hl]
    refine copy_letters u ty g ((i + 1) * 3) (k - i) (c - (i + 1)) ⟨g, i * 3, none⟩ (k + 1 - i) (c - i) cur (flatL (xs.drop i)) hu ?_ ?_ ?_ (fun v hv => flatL_one hv)
    · rw [hD, show Nat.min (k + 1 - i) (k - i) = k - i from Nat.min_eq_right (by omega)]
    · intro j z hj
      have hjl := (List.getElem?_eq_some_iff.1 hj).1
      rw [hD] at hjl
      rw [flatL_drop, List.getElem?_drop, ← htk, List.getElem?_take, if_pos (by omega), Array.getElem?_toList] at hj
      rw [Addr.add_lit]
      exact cell_blk hu hj
    · rw [hD]; omega
  have HC2 : Hid (∀ u : World, u.heap[g]? = some (.cells (shift3 cur.toList (flatL (xs.drop i)) i).toArray 57 (0, 0)) → u.heap[vb]? = some (.cells #[.int .i64 (x.f : Int), .int .i64 (x.t : Int), .slice x.a x.d.length x.c] 57 (0, 0)) → ∀ ty, (Builtin.copy_ #[50, 50] ty #[.slice (some ⟨g, i * 3, none⟩) (k + 1 - i) (c - i), .slice (some ⟨vb, 0, none⟩) 1 1]).run Try.prog u = .ok (goInt (Nat.min 1 (k + 1 - i))) (u.setRow g (lay3 (shift3 cur.toList (flatL (xs.drop i)) i) x.cells i).toArray)) := fun u hu hv ty => by
    have := copy_letters u ty g (i * 3) (k + 1 - i) (c - i) ⟨vb, 0, none⟩ 1 1 (shift3 cur.toList (flatL (xs.drop i)) i).toArray x.cells hu (by rw [show Nat.min 1 (k + 1 - i) = 1 from Nat.min_eq_left (by omega)]; rfl) (fun j z hj => by
      rw [Addr.add_lit, Nat.zero_add]
      exact cell_blk hv (by simpa [Lr.cells] using hj)) (by
      have e1 := hcells.2.2
      have e2 : x.cells.length = 3 := rfl
      simp only [List.size_toArray, e1, e2, Array.length_toList]
      omega) (fun z hz => flatL_one (xs := [x]) (by simp [flatL]; exact hz))
    exact this
  clear h hi hc hk hv hne hl hnc hblk hsz htk hmx hcells r0 r1 q0 q1
  go_enter Try.func29, Try.ntmps29
  go_wp2_with (simp only [hov])
  have hV : Hid (w.drew.heap[vb]? = some (.cells #[.int .i64 (x.f : Int), .int .i64 (x.t : Int), .slice x.a x.d.length x.c] 57 (0, 0))) := HPS.out.2.1
  have hG : Hid (w.drew.heap[g]? = some (.cells cur 57 (0, 0))) := HPS.out.1
  have hB : Hid (Below w.heap.size w w.drew) := (Below.refl _ w).drew
  obtain ⟨W0, hW0⟩ : ∃ W0, W0 = w.drew := ⟨_, rfl⟩
  rw [← hW0] at hV hG hB
  have hcp : ∀ ty, (Builtin.copy_ #[50, 50] ty #[.slice (some ⟨g, (i + 1) * 3, none⟩) (k - i) (c - (i + 1)), .slice (some ⟨g, i * 3, none⟩) (k + 1 - i) (c - i)]).run Try.prog w.drew = .ok (goInt (Nat.min (k + 1 - i) (k - i))) (w.drew.setRow g (shift3 cur.toList (flatL (xs.drop i)) i).toArray) := by
    rw [← hW0]
    exact HC1.out W0 hG.out
  have mixed : Try.prog.follows .mixedOrders = true := by kernel_rfl
  clear z1 z2 hov
  go_region_law_o (refine stepC_copies rfl _ _ rfl _ _ (by simp [Act.eval, Act.put]) (by simp [Act.eval, Act.put]) _ _ (hcp _) ?_)
  rw [← hW0]
  obtain ⟨W1, hW1⟩ : ∃ W1, W1 = W0.setRow g (shift3 cur.toList (flatL (xs.drop i)) i).toArray := ⟨_, rfl⟩
  have HG1 : Hid (W1.heap[g]? = some (.cells (shift3 cur.toList (flatL (xs.drop i)) i).toArray 57 (0, 0))) := by show _ = _; rw [hW1]; exact setRow_heap _ _ _ _ _ _ hG.out
  have HV1 : Hid (W1.heap[vb]? = some (.cells #[.int .i64 (x.f : Int), .int .i64 (x.t : Int), .slice x.a x.d.length x.c] 57 (0, 0))) := by show _ = _; rw [hW1, setRow_other _ _ _ _ HPS.out.2.2]; exact hV.out
  have HF1 : Hid (Fr (fun j => j = g) w W1) := by
    show Fr _ _ _
    rw [hW1]
    exact (Fr.of_below _ hB.out).tr ⟨rfl, rfl, rfl, by simp, fun q _ hq => setRow_other _ _ _ _ hq⟩
  rw [← hW1]
  clear hW1 hG hV hB z3 HC1 hcp hW0
  go_wp2_with (refine wpList_copies rfl (.tmp 80) (.tmp 81) rfl _ _ rfl rfl _ _ (HC2.out W1 HG1.out HV1.out _) ?_)
  go_ret
  have hcells := HX.out
  obtain ⟨hl, hc, hi, hsz, htk, hmx⟩ := HK.out
  have hG2 : (W1.setRow g (lay3 (shift3 cur.toList (flatL (xs.drop i)) i) x.cells i).toArray).heap[g]? = some (.cells (lay3 (shift3 cur.toList (flatL (xs.drop i)) i) x.cells i).toArray 57 (0, 0)) := setRow_heap _ _ _ _ _ _ HG1.out
  have hli : (insA3 xs i x).length = k + 1 := by
    unfold insA3
    rw [List.length_append, List.length_cons, List.length_take, List.length_drop, ← hl]
    omega
  refine ⟨rfl, ?_, HF1.out.tr ⟨rfl, rfl, rfl, by simp, fun q _ hq => setRow_other _ _ _ _ hq⟩⟩
  have := OwnL.mk' (xs := insA3 xs i x) hG2 (by omega) hmx (by rw [List.size_toArray, hcells.2.1]; simpa using hsz) (by simpa using hcells.1)
  rwa [hli] at this
end Go.Proofs.Ytblohegdlcpipaa
