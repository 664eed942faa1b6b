/- segmentNumbers, walked. -/
import Derived.Test.YtkbmblmnhhlicaaGreatDoorVName
import Derived.Test.YtkbmblmnhhlicaaGreatDoorDFiles
set_option linter.unusedVariables false
namespace Go.Proofs.YtkbmblmnhhlicaaGreatDoor
open Go.RowKit

theorem segNums_snoc (l : List Nm) (x : Nm) : segNums (l ++ [x]) = if 0 < segNum x then segNums l ++ [segNum x] else segNums l := by
  unfold segNums
  rw [List.map_append, List.filter_append]
  split
  · rename_i h; simp [h]
  · rename_i h; simp [h]
theorem segNums_len (l : List Nm) : (segNums l).length ≤ l.length := by
  unfold segNums
  exact Nat.le_trans (List.length_filter_le _ _) (by simp)

set_option maxHeartbeats 2000000 in
set_option maxRecDepth 20000 in
theorem segnums_any {w : World} {B : Nat} {v : Value} {l : List Nm} (h : OwnS w B v l) (hs : ∀ x ∈ l, x.length ≤ 140737488355328) (hl : l.length ≤ 1048576) :
    Calls Tryz.prog 128 #[v] w fun e w' => ∃ vo, e = .returned vo ∧ OwnI w' w.heap.size vo (segNums l) ∧ Below w.heap.size w w' := by
  obtain ⟨a, c, rfl⟩ := h.shape
  obtain ⟨n, hn⟩ : ∃ n, l.length = n := ⟨_, rfl⟩
  rw [hn] at h hl ⊢
  have HR : Hid (OwnS w B (.slice a n c) l) := h
  have HN : Hid (l.length = n) := hn
  have HS : Hid (∀ x ∈ l, x.length ≤ 140737488355328) := hs
  have bn : (n : Int) ≤ 1048576 := by omega
  obtain ⟨i0, hi, hz0, hz1, hz2⟩ := info_parts info3
  clear h hs hn hl
  go_enter Tryz.func128, Tryz.ntmps128
  go_wp2
  go_loopw [3, 9] (fun s i wr => ∃ (k : Nat) (vv : Value), vv = s ∧ i = .int .i64 k ∧ k ≤ n ∧ Hid (OwnI wr w.heap.size vv (segNums (l.take k))) ∧ Hid (Below w.heap.size w wr)) (fun _ i _ => n - (intOf i).toNat)
  case atStart => exact ⟨0, _, rfl, rfl, by omega, ⟨rfl, .inl ⟨rfl, rfl⟩⟩, Below.refl _ _⟩
  case round =>
    obtain ⟨k, s, rfl, rfl, hk, HO, HB⟩ := hrel
    by_cases hlt : k < n
    · have hget : l[k]? = some (l[k]'(by have := HN.out; omega)) := List.getElem?_eq_getElem _
      obtain ⟨x, hx⟩ : ∃ x, l[k]'(by have := HN.out; omega) = x := ⟨_, rfl⟩
      rw [hx] at hget
      obtain ⟨g, rfl, hBg, hc, _⟩ := HR.out.at hget
      have hgl := (HR.out.lt (g := g) rfl).2
      have hc2 : wr.cell? ⟨g, k, none⟩ = some (strN x) := by rw [HB.out.cell hgl]; exact hc
      have hxl : x.length ≤ 140737488355328 := HS.out x (by rw [← hx]; exact List.getElem_mem _)
      have hSg := segnum_any x hxl wr
      have htk : l.take (k + 1) = l.take k ++ [x] := by rw [List.take_add_one, hget]; rfl
      have hlen : (segNums (l.take k)).length ≤ k := Nat.le_trans (segNums_len _) (by rw [List.length_take]; omega)
      have b1 : (k : Int) < (n : Int) := by omega
      obtain ⟨Z, hZ⟩ : ∃ Z, segNum x = Z := ⟨_, rfl⟩
      have hZl : Z < 1000000 := by rw [← hZ]; exact segNum_lt x
      rw [hZ] at hSg
      have HT : Hid (segNums (l.take (k + 1)) = if 0 < Z then segNums (l.take k) ++ [Z] else segNums (l.take k)) := by show _ = _; rw [htk, segNums_snoc, hZ]
      have HL : Hid ((segNums (l.take k)).length ≤ k) := hlen
      have HZl : Hid (Z < 1000000) := hZl
      clear hget hx hBg hc hgl hxl htk hlen hZ hZl
      go_wp2_with (fail)
      refine hSg.mono ?_
      rintro e w2 ⟨rfl, hb2⟩
      have HB2 : Hid (Below w.heap.size w w2) := HB.out.trans (hb2.mono HB.out.size)
      have HO2 : Hid (OwnI w2 w.heap.size s (segNums (l.take k))) := ownI_below HO.out hb2
      clear hSg hb2 hc2 HO HB
      by_cases hz : 0 < Z
      · have q1 : (0 : Int) < (Z : Int) := by omega
        have HT2 : Hid (segNums (l.take (k + 1)) = segNums (l.take k) ++ [Z]) := by show _ = _; rw [HT.out, if_pos hz]
        have hal := (Below.refl _ w2).alloc (Nat.le_refl _) (.cells #[.int .i64 (Z : Int)] 3)
        have hown' : OwnI (w2.alloc (.cells #[.int .i64 (Z : Int)] 3)) w.heap.size s (segNums (l.take k)) := ownI_below HO2.out hal
        have HBA : Hid (Below w.heap.size w (w2.alloc (.cells #[.int .i64 (Z : Int)] 3))) := HB2.out.alloc HB2.out.size _
        have HOA : Hid (OwnI (w2.alloc (.cells #[.int .i64 (Z : Int)] 3)) w.heap.size s (segNums (l.take k))) := hown'
        clear HT hz hal
        go_wp2_with (at_builtin; refine wpList_append_own _ rfl _ _ 50 rfl w.heap.size 3 i0 (.int .i64 0) 1 8 Tryz.underlying50 hi hz0 hz1 hz2 rfl (by decide) _ _ _ rfl hown' ⟨w2.heap.size, 0, none⟩ 1 1 [placeV Z] rfl rfl ?c1 ?c2 ?c3 ?c4 ?c5 ?_)
        case c1 => exact lit_cells _ [placeV Z] _
        case c2 => intro u hu; simp at hu; subst hu; rfl
        case c3 => have := HL.out; unfold maxLen; omega
        case c4 => have := HL.out; omega
        case c5 => have := HB2.out.size; simp; omega
        intro v2 w3 hown3 hgrow _
        have hbw3 := below_grown HB2.out HB2.out.size HO2.out hgrow
        have HO3 : Hid (OwnI w3 w.heap.size v2 (segNums (l.take (k + 1)))) := by
          show World.ownsRow _ _ _ _ _ _ _
          rw [HT2.out, List.length_append, List.map_append]
          exact hown3
        clear hown3 hgrow hown'
        go_wp2
        go_roundw
        case rel => exact ⟨k + 1, _, rfl, by go_num, by omega, HO3, hbw3⟩
        case measure => simp [intOf]; omega
      · have q1 : ¬ (0 : Int) < (Z : Int) := by omega
        have HO3 : Hid (OwnI w2 w.heap.size s (segNums (l.take (k + 1)))) := by
          show World.ownsRow _ _ _ _ _ _ _
          rw [HT.out, if_neg hz]
          exact HO2.out
        clear HT hz
        go_wp2
        go_roundw
        case rel => exact ⟨k + 1, _, rfl, by go_num, by omega, HO3, HB2⟩
        case measure => simp [intOf]; omega
    · have hkn : k = n := by omega
      subst hkn
      go_wp2
      go_ret
      refine ⟨_, rfl, ?_, HB.out⟩
      have := HO.out
      rw [List.take_of_length_le (by have := HN.out; omega)] at this
      exact this
end Go.Proofs.YtkbmblmnhhlicaaGreatDoor
