/- Segments: their numbers and places, walked. -/
import Derived.Test.YtkbmblmnhhlicaaGreatDoorV02
import Derived.Test.YtkbmblmnhhlicaaGreatDoorDCls
import Derived.Laws.OwnMore
set_option linter.unusedVariables false
namespace Go.Proofs.YtkbmblmnhhlicaaGreatDoor
open Go.RowKit

/-- Places that a segment has. -/
abbrev placeV (n : Nat) : Value := .int .i64 (n : Int)
abbrev OwnI (w : World) (B : Nat) (v : Value) (pl : List Nat) : Prop := w.ownsRow B 3 1 v pl.length (pl.map placeV)
abbrev sgV (num : Nat) (v : Value) : Value := .agg #[.int .i64 (num : Int), v]

theorem info3 : (Tryz.prog.info? 3).map (fun i => (i.zero, i.size, i.bytes)) = some (some (.int .i64 0), 1, 8) := by kernel_rfl

theorem ownI_form {w : World} {B : Nat} {v : Value} {pl : List Nat} (h : OwnI w B v pl) (hp : pl ≠ []) : ∃ g c, v = .slice (some ⟨g, 0, none⟩) pl.length c ∧ pl.length ≤ c ∧ g < w.heap.size ∧ B ≤ g ∧ c ≤ maxLen := by
  rcases h.2 with ⟨_, h0⟩ | ⟨g, cap, cur, rfl, hB, hg, h1, h2, h3, h4⟩
  · exact absurd (List.eq_nil_of_length_eq_zero h0) hp
  · exact ⟨g, cap, rfl, h1, lt_blk hg, hB, h2⟩
theorem ownI_cell {w : World} {B : Nat} {g c n : Nat} {pl : List Nat} (h : OwnI w B (.slice (some ⟨g, 0, none⟩) n c) pl) (i : Nat) (hi : i < pl.length) : w.cell? ⟨g, i, none⟩ = some (placeV (pl.getD i 0)) := by
  have := h.cells (g := g) rfl i (placeV (pl.getD i 0)) (by simp [hi, List.getD_eq_getElem?_getD])
  rwa [Addr.add_lit, Nat.zero_add] at this
theorem ownI_keep {w w' : World} {B : Nat} {v : Value} {l : List Nat} (h : OwnI w B v l) (hk : ∀ g, v.ownBlock = some g → w'.heap[g]? = w.heap[g]?) : OwnI w' B v l := by
  refine ⟨h.1, ?_⟩
  rcases h.2 with hn | ⟨g, cap, cur, hv, hB, hgg, rest⟩
  · exact .inl hn
  · exact .inr ⟨g, cap, cur, hv, hB, (hk g (by rw [hv]; rfl)).trans hgg, rest⟩
theorem ownI_below {w w' : World} {B : Nat} {v : Value} {l : List Nat} (h : OwnI w B v l) (hb : Below w.heap.size w w') : OwnI w' B v l :=
  ownI_keep h (fun g hg => hb.block g (h.lt g hg).2)

set_option maxHeartbeats 1000000 in
set_option maxRecDepth 20000 in
theorem next_any (w : World) (N : Nat) (a : Option Addr) (n c : Nat) (h1 : 1 ≤ N + n) (h2 : N ≤ 140737488355328) (h3 : n ≤ 140737488355328) :
    Calls Tryz.prog 67 #[sgV N (.slice a n c)] w fun e w' => e = .returned (.int .i64 ((N + n - 1 : Nat) : Int)) ∧ Below w.heap.size w w' := by
  obtain ⟨X, hX⟩ : ∃ X, N + n - 1 = X := ⟨_, rfl⟩
  obtain ⟨Y, hY⟩ : ∃ Y, N + n = Y := ⟨_, rfl⟩
  have e1 : (N : Int) + (n : Int) = (Y : Int) := by omega
  have e2 : (Y : Int) - 1 = (X : Int) := by omega
  have b1 : (Y : Int) ≤ 281474976710656 := by omega
  have b2 : (X : Int) ≤ 281474976710656 := by omega
  have b3 : (1 : Int) ≤ (Y : Int) := by omega
  rw [hX]
  clear hX hY h1 h2 h3
  go_enter Tryz.func67, Tryz.ntmps67
  go_wp2
  go_ret
  exact ⟨rfl, (Below.refl _ w).alloc (Nat.le_refl _) _⟩

set_option maxHeartbeats 1000000 in
set_option maxRecDepth 20000 in
theorem place_any (w : World) (N K : Nat) (g n c P : Nat) (h1 : N ≤ K) (h2 : K < N + n) (h3 : K ≤ 140737488355328) (hc : w.cell? ⟨g, K - N, none⟩ = some (placeV P)) :
    Calls Tryz.prog 77 #[sgV N (.slice (some ⟨g, 0, none⟩) n c), .int .i64 (K : Int)] w fun e w' => e = .returned (.int .i64 (P : Int)) ∧ Below w.heap.size w w' := by
  obtain ⟨J, hJ⟩ : ∃ J, K - N = J := ⟨_, rfl⟩
  have e1 : (K : Int) - (N : Int) = (J : Int) := by omega
  have b1 : (J : Int) ≤ 140737488355328 := by omega
  have b2 : (J : Int) < (n : Int) := by omega
  have b3 : J < n := by omega
  rw [hJ] at hc
  have hc2 : ∀ o, (w.alloc o).cell? ⟨g, J, none⟩ = some (placeV P) := fun o => by rw [← hc]; exact ((Below.refl w.heap.size w).alloc (Nat.le_refl _) o).cell (World.block_lt_of_cell? w _ hc)
  clear hJ h1 h2 h3 hc
  go_enter Tryz.func77, Tryz.ntmps77
  go_wp2
  go_ret
  exact ⟨rfl, (Below.refl _ w).alloc (Nat.le_refl _) _⟩

set_option maxHeartbeats 1000000 in
set_option maxRecDepth 20000 in
theorem size_any {w : World} {B : Nat} {v : Value} {pl : List Nat} (N : Nat) (h : OwnI w B v pl) (hp : pl ≠ []) (h2 : N ≤ 1048576) (h3 : pl.length ≤ 35184372088832) :
    Calls Tryz.prog 65 #[sgV N v] w fun e w' => e = .returned (.int .i64 ((pl.getLastD 0 : Nat) : Int)) ∧ Below w.heap.size w w' := by
  obtain ⟨g, c, rfl, hc, hg, _⟩ := ownI_form h hp
  have hl : 1 ≤ pl.length := List.length_pos_iff.2 hp
  have hlast : pl.getD (pl.length - 1) 0 = pl.getLastD 0 := by
    rw [List.getLastD_eq_getLast?, List.getLast?_eq_getElem?, List.getD_eq_getElem?_getD]
  obtain ⟨P, hP⟩ : ∃ P, pl.getLastD 0 = P := ⟨_, rfl⟩
  have hcell := ownI_cell h (pl.length - 1) (by omega)
  rw [hlast, hP] at hcell
  rw [hP]
  obtain ⟨W, hW⟩ : ∃ W, W = w.alloc (.cells #[.int .i64 (N : Int), .slice (some ⟨g, 0, none⟩) pl.length c] 101) := ⟨_, rfl⟩
  have hbW : Below w.heap.size w W := by rw [hW]; exact (Below.refl _ w).alloc (Nat.le_refl _) _
  have hsz : w.heap.size < W.heap.size := by rw [hW]; simp
  have c0 : ∀ u : BwD W, u.wo.cell? ⟨w.heap.size, 0, none⟩ = some (.int .i64 (N : Int)) := fun u => by
    rw [u.is.cell hsz, hW]; exact lit_cells w [.int .i64 (N : Int), .slice (some ⟨g, 0, none⟩) pl.length c] 101 0 _ rfl
  have c1 : ∀ u : BwD W, u.wo.cell? ⟨w.heap.size, 1, none⟩ = some (.slice (some ⟨g, 0, none⟩) pl.length c) := fun u => by
    rw [u.is.cell hsz, hW]; exact lit_cells w [.int .i64 (N : Int), .slice (some ⟨g, 0, none⟩) pl.length c] 101 1 _ rfl
  have HN : Hid (∀ u : BwD W, Calls Tryz.prog 67 #[sgV N (.slice (some ⟨g, 0, none⟩) pl.length c)] u.wo fun e w' => e = .returned (.int .i64 ((N + pl.length - 1 : Nat) : Int)) ∧ ∃ u' : BwD W, w' = u'.wo) := fun u =>
    (next_any u.wo N _ _ _ (by omega) (by omega) (by omega)).mono fun e w' q => ⟨q.1, BwD.of (u.is.trans (q.2.mono u.is.size)), rfl⟩
  have HP : Hid (∀ u : BwD W, Calls Tryz.prog 77 #[sgV N (.slice (some ⟨g, 0, none⟩) pl.length c), .int .i64 ((N + pl.length - 1 : Nat) : Int)] u.wo fun e w' => e = .returned (.int .i64 (P : Int)) ∧ ∃ u' : BwD W, w' = u'.wo) := fun u =>
    (place_any u.wo N (N + pl.length - 1) g pl.length c P (by omega) (by omega) (by omega) (by rw [show N + pl.length - 1 - N = pl.length - 1 by omega, u.is.cell (by show g < _; omega), hbW.cell (by show g < _; omega)]; exact hcell)).mono fun e w' q => ⟨q.1, BwD.of (u.is.trans (q.2.mono u.is.size)), rfl⟩
  have HBW : Hid (Below w.heap.size w W) := hbW
  generalize N + pl.length - 1 = X at HN HP
  clear h hp h2 h3 hc hg hl hlast hP hcell hbW hsz
  go_enter Tryz.func65, Tryz.ntmps65
  go_wp2_with (fail)
  rw [← hW]
  clear hW
  refine region_classD (fun w' => ∃ u : BwD W, w' = u.wo) (by kernel_rfl) (by kernel_rfl) (BwD.first W) ?_
  haveI := BwD.some W
  repeat (go_big_quiet_step (first | (go_at_call 67; exact HN.out _) | (go_at_call 77; exact HP.out _) | exact rfl))
  refine wpQuiet_nil ?_
  intro w10 hw10
  obtain ⟨u, hu⟩ := hw10
  have hb : Hid (Below w.heap.size w w10) := by show Below _ _ _; rw [hu]; exact HBW.out.trans (u.is.mono HBW.out.size)
  clear hu
  go_wp2_with (fail)
  go_ret
  exact ⟨rfl, hb.out⟩
end Go.Proofs.YtkbmblmnhhlicaaGreatDoor
