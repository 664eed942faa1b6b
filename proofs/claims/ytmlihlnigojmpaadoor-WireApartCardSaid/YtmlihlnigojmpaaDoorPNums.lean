/- Numbers, one behind the other, and groups: how parts writes them. -/
import Derived.Test.YtmlihlnigojmpaaDoorZPut
set_option linter.unusedVariables false
namespace Go.Proofs.YtmlihlnigojmpaaDoor
open Go.RowKit

theorem pcell {w : World} {b : Nat} {cs : Array Value} {t : TypeId} (h : w.heap[b]? = some (.cells cs t (0, 0))) {i : Nat} {v : Value} (hi : cs[i]? = some v) : w.cell? ⟨b, i, none⟩ = some v := by
  simp [World.cell?, h, hi]

/-- Rows of numbers that may be read. -/
def IRow (w : World) (a : Option Addr) (zs : List Nat) : Prop := ∀ (j z : Nat), zs[j]? = some z → ∃ x, a = some x ∧ w.cell? (x.add j) = some (.int .i64 (z : Int))
theorem IRow.below {w w' : World} {a : Option Addr} {zs : List Nat} (h : IRow w a zs) (hb : Below w.heap.size w w') : IRow w' a zs := fun j z hj => by
  obtain ⟨x, h1, h2⟩ := h j z hj
  exact ⟨x, h1, by rw [hb.cell (World.block_lt_of_cell? w _ h2)]; exact h2⟩
def flatN (zs : List Nat) : List UInt8 := zs.flatMap putN
theorem flatN_cons (z : Nat) (zs : List Nat) : flatN (z :: zs) = putN z ++ flatN zs := by simp [flatN]
theorem flatN_append (a b : List Nat) : flatN (a ++ b) = flatN a ++ flatN b := by simp [flatN]
theorem putN_le10 {n : Nat} (h : n < 9223372036854775808) : (putN n).length ≤ 10 := putN_len n 10 (by omega) (by omega)
theorem flatN_len : ∀ zs : List Nat, (∀ z ∈ zs, z < 9223372036854775808) → (flatN zs).length ≤ 10 * zs.length
  | [], _ => by simp [flatN]
  | z :: zs, h => by
    rw [flatN_cons, List.length_append, List.length_cons]
    have h1 := putN_le10 (h z (by simp))
    have h2 := flatN_len zs (fun y hy => h y (by simp [hy]))
    omega

set_option maxHeartbeats 2000000 in
set_option maxRecDepth 20000 in
theorem putNums_any {w : World} {a na : Option Addr} {n c nc : Nat} {l : List UInt8} {zs : List Nat} (h : BRow w a n c l) (hz : IRow w na zs) (hzl : ∀ z ∈ zs, z < 9223372036854775808) (hlen : n + 10 * zs.length ≤ 140737488355328) (hn0 : zs ≠ []) :
    Calls Tryd.prog 45 #[.slice a n c, .slice na zs.length nc] w (Made w (l ++ flatN zs)) := by
  obtain ⟨T, hT⟩ : ∃ T, l ++ flatN zs = T := ⟨_, rfl⟩
  have hTl : T.length ≤ n + 10 * zs.length := by rw [← hT, List.length_append, h.1]; have := flatN_len zs hzl; omega
  obtain ⟨m, hm⟩ : ∃ m, zs.length = m := ⟨_, rfl⟩
  have hm0 : 1 ≤ m := by have := List.length_pos_iff.2 hn0; omega
  rw [hm] at hlen hTl
  unfold Made
  rw [hT, hm]
  have bm : (m : Int) ≤ 140737488355328 := by omega
  have HT0 : Hid (l ++ flatN zs = T) := hT
  have HZ : Hid (IRow w na zs ∧ (∀ z ∈ zs, z < 9223372036854775808) ∧ zs.length = m ∧ 1 ≤ m) := ⟨hz, hzl, hm, hm0⟩
  have HL : Hid (T.length ≤ n + 10 * m ∧ n + 10 * m ≤ 140737488355328) := ⟨hTl, hlen⟩
  have HR : Hid (BRow w a n c l) := h
  clear hT hm hm0 hn0 hz hzl hTl hlen h
  go_enter Tryd.func45, Tryd.ntmps45
  go_wp2
  go_loopw [0, 9] (fun u i wr => ∃ (a' : Option Addr) (n' c' : Nat) (acc : List UInt8) (j : Nat), u = .slice a' n' c' ∧ i = .int .i64 (j : Int) ∧ j ≤ m ∧ Hid (BRow wr a' n' c' acc ∧ (1 ≤ j → OwnB wr w.heap.size (.slice a' n' c') acc) ∧ Below w.heap.size w wr) ∧ Hid (acc ++ flatN (zs.drop j) = T)) (fun _ i _ => m - (intOf i).toNat)
  case atStart => exact ⟨a, n, c, l, 0, rfl, rfl, Nat.zero_le _, ⟨HR.out, fun h => by omega, Below.refl _ _⟩, HT0⟩
  case round =>
    obtain ⟨a', n', c', acc, j, rfl, rfl, hj, HU, HT⟩ := hrel
    by_cases hlt : j < m
    · obtain ⟨z, hz⟩ : ∃ z, zs[j]? = some z := ⟨zs[j]'(by have := HZ.out; omega), List.getElem?_eq_getElem _⟩
      obtain ⟨x, hx, hc⟩ := (HZ.out.1.below HU.out.2.2) j z hz
      subst hx
      have hzb := HZ.out.2.1 z (List.mem_of_getElem? hz)
      have hdr : zs.drop j = z :: zs.drop (j + 1) := by
        have hl := (List.getElem?_eq_some_iff.1 hz).1
        rw [List.drop_eq_getElem_cons hl]
        congr 1
        exact (List.getElem?_eq_some_iff.1 hz).2
      have HT2 := HT.out
      rw [hdr, flatN_cons, ← List.append_assoc] at HT2
      have hln := HU.out.1.1
      have hpl : n' + (putN z).length ≤ 140737488355328 := by
        have h1 := congrArg List.length HT2
        have := HL.out
        rw [List.length_append, List.length_append] at h1
        omega
      have hP := putNumber_any a' n' c' acc z wr HU.out.1 (by omega) hpl
      obtain ⟨Z, hZ⟩ : ∃ Z, acc ++ putN z = Z := ⟨_, rfl⟩
      unfold Made at hP
      rw [hZ] at hP HT2
      have HT3 : Hid (Z ++ flatN (zs.drop (j + 1)) = T) := HT2
      have HB := (show Hid (Below w.heap.size w wr) from HU.out.2.2)
      have q1 : IntKind.u64.wrap (z : Int) = (z : Int) := by rw [IntKind.wrap_u64]; omega
      have bz : (z : Int) < 9223372036854775808 := by omega
      have bz0 : (0 : Int) ≤ (z : Int) := by omega
      clear HT HT2 hdr hz hln hpl hZ HU
      go_wp2_with (fail)
      refine hP.mono ?_
      rintro e w2 ⟨v', rfl, hown, hb2⟩
      obtain ⟨a2, c2, hv2⟩ := own_slice hown
      subst hv2
      have hb3 := HB.out.trans (hb2.mono HB.out.size)
      have HU2 : Hid (BRow w2 a2 Z.length c2 Z ∧ OwnB w2 w.heap.size (.slice a2 Z.length c2) Z ∧ Below w.heap.size w w2) := ⟨own_brow hown, own_lower hown HB.out.size, hb3⟩
      clear hP hown hb2 hb3 q1
      go_wp2_with (fail)
      go_roundw
      case rel => exact ⟨a2, Z.length, c2, Z, j + 1, rfl, by first | rfl | go_num, by omega, ⟨HU2.out.1, fun _ => HU2.out.2.1, HU2.out.2.2⟩, HT3⟩
      case measure => simp [intOf]; omega
    · have hjk : j = m := by omega
      subst hjk
      have HT2 := HT.out
      rw [List.drop_of_length_le (by have := HZ.out; omega), show flatN [] = [] from rfl, List.append_nil] at HT2
      have HO := HU.out.2.1 HZ.out.2.2.2
      rw [HT2] at HO
      have HF : Hid (OwnB wr w.heap.size (.slice a' n' c') T ∧ Below w.heap.size w wr) := ⟨HO, HU.out.2.2⟩
      clear HT HT2 HO HU
      go_wp2
      go_ret
      exact ⟨_, rfl, HF.out.1, HF.out.2⟩
theorem irow_one (w : World) (x : Nat) : IRow (w.alloc (.cells #[.int .i64 (x : Int)] 3)) (some ⟨w.heap.size, 0, none⟩) [x] := by
  intro j z hj
  match j, hj with
  | 0, hj =>
    simp at hj
    subst hj
    exact ⟨_, rfl, by rw [Addr.add_zero']; exact pcell (heap_alloc_new w _) rfl⟩
theorem irow_two (w : World) (x y : Nat) : IRow (w.alloc (.cells #[.int .i64 (x : Int), .int .i64 (y : Int)] 3)) (some ⟨w.heap.size, 0, none⟩) [x, y] := by
  intro j z hj
  match j, hj with
  | 0, hj =>
    simp at hj
    subst hj
    exact ⟨_, rfl, by rw [Addr.add_zero']; exact pcell (heap_alloc_new w _) rfl⟩
  | 1, hj =>
    simp at hj
    subst hj
    refine ⟨_, rfl, ?_⟩
    rw [show (⟨w.heap.size, 0, none⟩ : Addr).add 1 = ⟨w.heap.size, 1, none⟩ from by unfold Addr.add; split <;> simp_all]
    exact pcell (heap_alloc_new w _) rfl
theorem brow_nil (w : World) : BRow w none 0 0 [] := ⟨rfl, .inl ⟨rfl, rfl, rfl⟩⟩

/-- A row that was made: its slice. -/
theorem Made.row {w : World} {l : List UInt8} {e : Ending} {w' : World} (h : Made w l e w') : ∃ a c, e = .returned (.slice a l.length c) ∧ OwnB w' w.heap.size (.slice a l.length c) l ∧ BRow w' a l.length c l ∧ Below w.heap.size w w' := by
  obtain ⟨v, rfl, h1, h2⟩ := h
  obtain ⟨a, c, rfl⟩ := own_slice h1
  exact ⟨a, c, rfl, h1, own_brow h1, h2⟩

set_option maxHeartbeats 2000000 in
theorem putGroup_any {w : World} {a na : Option Addr} {n c nc : Nat} {l : List UInt8} {zs : List Nat} (h : BRow w a n c l) (hz : IRow w na zs) (hzl : ∀ z ∈ zs, z < 9223372036854775808) (hlen : n + 10 * zs.length + 10 ≤ 140737488355328) (hn0 : zs ≠ []) :
    Calls Tryd.prog 68 #[.slice a n c, .slice na zs.length nc] w (Made w (l ++ flatN (zs.length :: zs))) := by
  obtain ⟨m, hm⟩ : ∃ m, zs.length = m := ⟨_, rfl⟩
  have hb0 : Below w.heap.size w (w.alloc (.cells #[.int .i64 (m : Int)] 3)) := (Below.refl _ w).alloc (Nat.le_refl _) _
  have hP := putNums_any (nc := 1) (h.below hb0) (irow_one w m) (by intro z hz; simp at hz; omega) (by simp; omega) (by simp)
  have HZ : Hid (IRow w na zs ∧ (∀ z ∈ zs, z < 9223372036854775808) ∧ zs ≠ [] ∧ zs.length = m ∧ n + 10 * m + 10 ≤ 140737488355328) := ⟨hz, hzl, hn0, hm, by omega⟩
  have hfl := flatN_len [m] (by intro z hz; simp at hz; omega)
  obtain ⟨F, hF⟩ : ∃ F, l ++ flatN [m] = F := ⟨_, rfl⟩
  have HF : Hid (F.length ≤ n + 10) := by show F.length ≤ _; rw [← hF, List.length_append, h.1]; simpa using hfl
  obtain ⟨T, hT⟩ : ∃ T, l ++ flatN (m :: zs) = T := ⟨_, rfl⟩
  have HT : Hid (F ++ flatN zs = T) := by show _ = T; rw [← hT, ← hF, List.append_assoc, ← flatN_append]; rfl
  rw [hm, hT]
  rw [hF] at hP
  have HB0 : Hid (Below w.heap.size w (w.alloc (.cells #[.int .i64 (m : Int)] 3))) := hb0
  clear hF hT hb0 hm hz hzl hn0 hlen hfl h
  go_enter Tryd.func68, Tryd.ntmps68
  go_wp2_with (fail)
  refine hP.mono ?_
  intro e w1 hm
  obtain ⟨a1, c1, rfl, hown, hrow, hb⟩ := hm.row
  have hb2 := HB0.out.trans (hb.mono HB0.out.size)
  have hP2 := putNums_any (nc := nc) hrow (HZ.out.1.below hb2) HZ.out.2.1 (by have h1 := HZ.out.2.2.2.2; have h2 := HZ.out.2.2.2.1; have h3 := HF.out; omega) HZ.out.2.2.1
  rw [HT.out, HZ.out.2.2.2.1] at hP2
  obtain ⟨fn, hfn⟩ : ∃ fn, F.length = fn := ⟨_, rfl⟩
  rw [hfn] at hP2 ⊢
  have HB : Hid (Below w.heap.size w w1) := hb2
  clear hP hm hown hrow hb hb2 hfn
  go_wp2_with (fail)
  refine hP2.mono ?_
  intro e w2 hm
  obtain ⟨v', rfl, hown, hb⟩ := hm
  have HF2 : Hid (OwnB w2 w.heap.size v' T ∧ Below w.heap.size w w2) := ⟨own_lower hown HB.out.size, HB.out.trans (hb.mono HB.out.size)⟩
  clear hP2 hown hb
  go_wp2
  go_ret
  exact ⟨_, rfl, HF2.out.1, HF2.out.2⟩
end Go.Proofs.YtmlihlnigojmpaaDoor
