/- A log and what a law keeps of it: the calls of WalNumbers. -/
import Derived.Test.YtkbmblmnhhlicaaGreatDoorV13
import Derived.Test.YtkbmblmnhhlicaaGreatDoorVReset
import Derived.Test.YtkbmblmnhhlicaaGreatDoorVCut
set_option linter.unusedVariables false
namespace Go.Proofs.YtkbmblmnhhlicaaGreatDoor
open Go.RowKit

/-- A log on a disk whose power does not fail, that begins at F and has the records R; beside it the row v of the texts xs; so many steps were done. -/
def NuS (E : Nat → Prop) (w0 : World) (b m p : Nat) (v : Value) (xs : List Nm) (R : Recs) (F k : Nat) (w : World) : Prop :=
  ∃ d G, AlO E w0 b m p d (G.map gSg) v xs w ∧ Str d G ∧ d.room = 1099511627776 ∧ headN G = F ∧ allR G = R ∧ bulks G ≤ k * 8200 ∧ G.length ≤ k + 1 ∧ ∀ g ∈ G, g.1 < 1000000
theorem NuS.bel {E : Nat → Prop} {w0 : World} {b m p F k : Nat} {v : Value} {xs : List Nm} {R : Recs} {w : World} (h : NuS E w0 b m p v xs R F k w) : Below w0.heap.size w0 w := by
  obtain ⟨d, G, g1, g2⟩ := h
  exact g1.lg.bel
theorem NuS.own {E : Nat → Prop} {w0 : World} {b m p F k : Nat} {v : Value} {xs : List Nm} {R : Recs} {w : World} (h : NuS E w0 b m p v xs R F k w) : OwnO w w0.heap.size v xs := by
  obtain ⟨d, G, g1, g2⟩ := h
  exact g1.own
theorem NuS.below {E : Nat → Prop} {w0 : World} {b m p F k : Nat} {v : Value} {xs : List Nm} {R : Recs} {w w' : World} (h : NuS E w0 b m p v xs R F k w) (hb : Below w.heap.size w w') : NuS E w0 b m p v xs R F k w' ∧ KE E w w' := by
  obtain ⟨d, G, g1, g2⟩ := h
  exact ⟨⟨d, G, (g1.below hb).1, g2⟩, (g1.below hb).2⟩
theorem NuS.push {E : Nat → Prop} {w0 : World} {b m p F k : Nat} {v vo : Value} {xs : List Nm} {x : Nm} {R : Recs} {w w2 : World} (h : NuS E w0 b m p v xs R F k w) (hp : PushedO w v xs x w0.heap.size vo w2) : NuS E w0 b m p vo (xs ++ [x]) R F k w2 ∧ KE E w w2 := by
  obtain ⟨d, G, g1, g2⟩ := h
  exact ⟨⟨d, G, (g1.push hp).1, g2⟩, (g1.push hp).2⟩
theorem NuS.cut {E : Nat → Prop} {w0 : World} {b m p F k : Nat} {v v' : Value} {xs ys : List Nm} {R : Recs} {w : World} (h : NuS E w0 b m p v xs R F k w) (hs : ∀ j, v'.ownBlock = some j → v.ownBlock = some j) (ho : OwnO w w0.heap.size v' ys) : NuS E w0 b m p v' ys R F k w := by
  obtain ⟨d, G, g1, g2⟩ := h
  exact ⟨d, G, g1.cut hs ho, g2⟩
theorem NuS.more {E : Nat → Prop} {w0 : World} {b m p F k : Nat} {v : Value} {xs : List Nm} {R : Recs} {w : World} (h : NuS E w0 b m p v xs R F k w) : NuS E w0 b m p v xs R F (k + 1) w := by
  obtain ⟨d, G, g1, g2, g3, g4, g5, g6, g7, g8⟩ := h
  exact ⟨d, G, g1, g2, g3, g4, g5, Nat.le_trans g6 (Nat.mul_le_mul_right _ (by omega)), by omega, g8⟩
theorem NuS.guest {w0 : World} {b m p F k : Nat} {v : Value} {xs : List Nm} {R : Recs} {w : World} (h : NuS NoG w0 b m p v xs R F k w) (o : Obj) : NuS (fun j => j = w.heap.size) w0 b m p v xs R F k (w.alloc o) := by
  obtain ⟨d, G, g1, g2⟩ := h
  exact ⟨d, G, g1.guest o, g2⟩
theorem NuS.alone {E : Nat → Prop} {w0 : World} {b m p F k : Nat} {v : Value} {xs : List Nm} {R : Recs} {w : World} (h : NuS E w0 b m p v xs R F k w) : NuS NoG w0 b m p v xs R F k w := by
  obtain ⟨d, G, g1, g2⟩ := h
  exact ⟨d, G, g1.alone, g2⟩
theorem gs_last {G : Gs} (h : G ≠ []) : ∃ G' g, G = G' ++ [g] := ⟨G.dropLast, G.getLast h, (List.dropLast_concat_getLast h).symm⟩
theorem gs_first {G : Gs} (h : G ≠ []) : ∃ g G', G = g :: G' ∧ headN G = g.1 := by
  cases G with
  | nil => exact absurd rfl h
  | cons g r => exact ⟨g, r, rfl, rfl⟩
theorem Str.nx {d : Dk} {G : Gs} {g : Nat × Recs} (h : Str d (G ++ [g])) : g.1 + g.2.length = headN (G ++ [g]) + (allR (G ++ [g])).length := (chain_next h.chain).symm

theorem nuFirst {E : Nat → Prop} {w0 : World} {b m p F k : Nat} {v : Value} {xs : List Nm} {R : Recs} {w : World} (h : NuS E w0 b m p v xs R F k w) : Calls Tryz.prog 21 #[dptr p] w fun e w' => e = .returned (.int .i64 (F : Int)) ∧ w' = w := by
  obtain ⟨d, G, g1, g2, g3, g4, g5, g6, g7, g8⟩ := h
  obtain ⟨x, r, hx, hn⟩ := gs_first g2.ne
  have hlg := g1.lg
  rw [hx] at hlg
  refine (firstG (s := gSg x) (L := r.map gSg) hlg).mono fun e w' q => ⟨?_, q.2⟩
  rw [q.1, show (gSg x).num = x.1 from rfl, ← hn, g4]
theorem nuLast {E : Nat → Prop} {w0 : World} {b m p F k : Nat} {v : Value} {xs : List Nm} {R : Recs} {w : World} (h : NuS E w0 b m p v xs R F k w) : Calls Tryz.prog 18 #[dptr p] w fun e w' => e = .returned (.int .i64 (((F + R.length : Nat) : Int) - 1)) ∧ NuS E w0 b m p v xs R F k w' ∧ KE E w w' := by
  obtain ⟨d, G, g1, g2, g3, g4, g5, g6, g7, g8⟩ := h
  obtain ⟨G', g, hG⟩ := gs_last g2.ne
  subst hG
  have hlg := g1.lg
  have hnx := g2.nx
  rw [List.map_append] at hlg
  refine (lastG (s := gSg g) (L := G'.map gSg) hlg).mono fun e w' q => ⟨?_, ⟨d, G' ++ [g], ?_, g2, g3, g4, g5, g6, g7, g8⟩, ke_kps q.2.2⟩
  · rw [q.1, gSg_next, hnx, g4, g5]
  · refine g1.kps ?_ q.2.2
    rw [List.map_append]; exact q.2.1
theorem nuApp {E : Nat → Prop} {w0 : World} {b m p F k : Nat} {v : Value} {xs : List Nm} {R : Recs} {w : World} (h : NuS E w0 b m p v xs R F k w) {a : Option Addr} {ln c : Nat} {l : Rec} (hrow : ∀ w', Below w0.heap.size w0 w' → BRow w' a ln c l) (hln : l.length = ln) (hl : ln ≤ 8192) (hk : k ≤ 100) :
    Calls Tryz.prog 17 #[dptr p, .slice a ln c] w fun e w' => (F + R.length ≤ 999999 ∧ e = .returned (.int .i64 0) ∧ NuS E w0 b m p v xs (R ++ [l]) F (k + 1) w' ∧ KE E w w') ∨ (F + R.length = 1000000 ∧ e = .returned (.int .i64 11) ∧ NuS E w0 b m p v xs R F k w' ∧ KE E w w') := by
  obtain ⟨d, G, g1, g2, g3, g4, g5, g6, g7, g8⟩ := h
  obtain ⟨G', g, hG⟩ := gs_last g2.ne
  subst hG
  have hnx := g2.nx
  have hnum := g2.num g (by simp)
  rw [g4, g5] at hnx
  have hus := g2.used
  have hct := g2.count
  have hb : k * 8200 ≤ 100 * 8200 := Nat.mul_le_mul_right _ hk
  have hA := appG g1.lg (by simp) (fun w' _ hb' => hrow w' hb') (by omega) (by rw [lastS_gs, gSg_next]; omega) (by rw [List.length_map]; omega) (by rw [hus]; omega) (by rw [hct]; omega)
  refine hA.mono fun e w' r => ?_
  by_cases hn : F + R.length ≤ 999999
  · left
    obtain ⟨d', e1, e2, e3⟩ := g2.app (l := l) (by omega) (by omega) (by rw [hus, g3]; omega) (by rw [hus]; omega) (by rw [hct]; omega)
    rw [e1] at r
    have hbu := bulks_addG G' g l
    have hal := allR_addG G' g l
    have hhd := headN_addG G' g l
    have hle := addG_len G' g l
    refine ⟨hn, r.1, ⟨d', addG G' g l, g1.kps r.2.1 r.2.2, e2, by rw [e3, g3], by rw [hhd, g4], by rw [hal, g5], by rw [hbu]; omega, by omega, ?_⟩, ke_kps r.2.2⟩
    intro x hx
    unfold addG at hx
    split at hx
    · rcases List.mem_append.1 hx with hx | hx
      · exact g8 x hx
      · rw [List.mem_singleton.1 hx]
        show g.1 + g.2.length < 1000000
        omega
    · rcases List.mem_append.1 hx with hx | hx
      · exact g8 x (by simp [hx])
      · rw [List.mem_singleton.1 hx]
        exact g8 g (by simp)
  · right
    have hE : wappP d ((G' ++ [g]).map gSg) l = (11, d, (G' ++ [g]).map gSg) := by
      unfold wappP
      rw [if_neg (by omega), if_pos (by rw [lastS_gs, gSg_next]; omega)]
    rw [hE] at r
    exact ⟨by omega, r.1, ⟨d, G' ++ [g], g1.kps r.2.1 r.2.2, g2, g3, g4, g5, g6, g7, g8⟩, ke_kps r.2.2⟩
theorem nuCut {E : Nat → Prop} {w0 : World} {b m p F k : Nat} {v : Value} {xs : List Nm} {R : Recs} {w : World} (h : NuS E w0 b m p v xs R F k w) (hk : k ≤ 100) (i : Int) (hi : -9223372036854775808 ≤ i ∧ i ≤ 9223372036854775807) :
    Calls Tryz.prog 19 #[dptr p, .int .i64 i] w fun e w' => (∃ N : Nat, i = (N : Int) ∧ F ≤ N ∧ N ≤ F + R.length ∧ e = .returned (.int .i64 0) ∧ NuS E w0 b m p v xs (R.take (N - F)) F k w' ∧ KE E w w') ∨ ((i < (F : Int) ∨ ((F + R.length : Nat) : Int) < i) ∧ e = .returned (.int .i64 17) ∧ NuS E w0 b m p v xs R F k w' ∧ KE E w w') := by
  obtain ⟨d, G, g1, g2, g3, g4, g5, g6, g7, g8⟩ := h
  have hb : k * 8200 ≤ 100 * 8200 := Nat.mul_le_mul_right _ hk
  obtain ⟨x, r, hx, hn⟩ := gs_first g2.ne
  have hC := cutG g1.lg (s := gSg x) (L := r.map gSg) (by rw [hx]; rfl) i hi ?_ ?_
  · rw [show (gSg x).num = headN G from hn.symm] at hC
    refine hC.mono fun e w' q => ?_
    by_cases hc : i < (F : Int) ∨ ((F + R.length : Nat) : Int) < i
    · right
      have := g2.wcutNo i (by rw [g4, g5]; exact hc)
      rw [this] at q
      exact ⟨hc, q.1, ⟨d, G, g1.kps q.2.1 q.2.2, g2, g3, g4, g5, g6, g7, g8⟩, ke_kps q.2.2⟩
    · left
      obtain ⟨N, hN⟩ : ∃ N : Nat, i = (N : Int) := ⟨i.toNat, by omega⟩
      subst hN
      obtain ⟨d', G', e1, e2, e3, e4, e5, e6, e7, e8⟩ := g2.wcut N (by omega) (by rw [g4, g5]; omega)
      rw [e1] at q
      refine ⟨N, rfl, by omega, by omega, q.1, ⟨d', G', g1.kps q.2.1 q.2.2, e2, by rw [e3, g3], by rw [e4, g4], by rw [e5, g5, g4], by omega, by omega, ?_⟩, ke_kps q.2.2⟩
      intro y hy
      obtain ⟨y0, hy0, he⟩ := e8 y hy
      rw [he]; exact g8 y0 hy0
  · intro s hs P hP
    obtain ⟨y, hy, rfl⟩ := List.mem_map.1 hs
    have h1 : bulk y.2 ≤ bulks G := by
      obtain ⟨A, B, hAB⟩ := List.append_of_mem hy
      rw [hAB, bulks_append, show y :: B = [y] ++ B from rfl, bulks_append, bulks_one]; omega
    have h2 : P ≤ bulk y.2 := by
      obtain ⟨j, hj, hje⟩ := List.getElem_of_mem (show P ∈ (0 : Nat) :: placesL 0 y.2 from hP)
      have hj2 : j ≤ y.2.length := by
        rw [List.length_cons, placesL_length] at hj; omega
      have := places_at 0 y.2 j hj2
      rw [List.getD_eq_getElem?_getD, List.getElem?_eq_getElem hj, hje] at this
      have h3 := bulk_take_le y.2 j
      simp at this
      omega
    omega
  · obtain ⟨G', g, hG⟩ := gs_last g2.ne
    rw [hG, lastS_gs, gSg_next]
    exact (g2.num g (by rw [hG]; simp)).2
theorem dropGs_bulks : ∀ (G : Gs) (i : Int), bulks (dropGs G i) ≤ bulks G
  | [], _ => Nat.le_refl _
  | [g], _ => Nat.le_refl _
  | g :: h0 :: r, i => by
    rw [dropGs]
    split
    · have := dropGs_bulks (h0 :: r) i
      refine Nat.le_trans this ?_
      unfold bulks
      rw [List.map_cons (l := h0 :: r), List.sum_cons]
      omega
    · exact Nat.le_refl _
theorem dropGs_len : ∀ (G : Gs) (i : Int), (dropGs G i).length ≤ G.length
  | [], _ => Nat.le_refl _
  | [g], _ => Nat.le_refl _
  | g :: h0 :: r, i => by
    rw [dropGs]
    split
    · have := dropGs_len (h0 :: r) i
      rw [List.length_cons]
      omega
    · exact Nat.le_refl _
theorem nuDrop {E : Nat → Prop} {w0 : World} {b m p F k : Nat} {v : Value} {xs : List Nm} {R : Recs} {w : World} (h : NuS E w0 b m p v xs R F k w) (hk : k ≤ 100) (i : Int) (hi : -9223372036854775808 ≤ i ∧ i ≤ 9223372036854775807) :
    Calls Tryz.prog 20 #[dptr p, .int .i64 i] w fun e w' => e = .returned (.int .i64 0) ∧ ∃ F', F ≤ F' ∧ ((F' : Int) ≤ i ∨ F' = F) ∧ F' ≤ F + R.length ∧ NuS E w0 b m p v xs (R.drop (F' - F)) F' k w' ∧ KE E w w' := by
  obtain ⟨d, G, g1, g2, g3, g4, g5, g6, g7, g8⟩ := h
  have hb : k * 8200 ≤ 100 * 8200 := Nat.mul_le_mul_right _ hk
  obtain ⟨d', e1, e2, e3⟩ := g2.drop i
  obtain ⟨a1, a2, a3, a4⟩ := dropGs_all G i g2.chain g2.ne
  have hsub := dropGs_sub G i
  refine (dropG g1.lg (by simp; exact g2.ne) i).mono fun e w' q => ?_
  rw [e1] at q
  refine ⟨q.1, headN (dropGs G i), by omega, ?_, by rw [← g4, ← g5]; omega, ⟨d', dropGs G i, g1.kps q.2.1 q.2.2, e2, by rw [e3, g3], rfl, by rw [a2, g5, g4], ?_, ?_, fun y hy => g8 y (hsub y hy)⟩, ke_kps q.2.2⟩
  · rcases a4 with a4 | a4
    · exact .inl a4
    · exact .inr (by rw [a4, g4])
  · refine Nat.le_trans (dropGs_bulks G i) g6
  · have := dropGs_len G i
    omega
theorem nuReset {E : Nat → Prop} {w0 : World} {b m p F k : Nat} {v : Value} {xs : List Nm} {R : Recs} {w : World} (h : NuS E w0 b m p v xs R F k w) (hk : k ≤ 100) (i : Int) (hi : -9223372036854775808 ≤ i ∧ i ≤ 9223372036854775807) :
    Calls Tryz.prog 22 #[dptr p, .int .i64 i] w fun e w' => (∃ N : Nat, i = (N : Int) ∧ 1 ≤ N ∧ N ≤ 999999 ∧ e = .returned (.int .i64 0) ∧ NuS E w0 b m p v xs [] N k w' ∧ KE E w w') ∨ ((i < 1 ∨ 999999 < i) ∧ e = .returned (.int .i64 1) ∧ NuS E w0 b m p v xs R F k w' ∧ KE E w w') := by
  obtain ⟨d, G, g1, g2, g3, g4, g5, g6, g7, g8⟩ := h
  have hb : k * 8200 ≤ 100 * 8200 := Nat.mul_le_mul_right _ hk
  have hus := g2.used
  have hct := g2.count
  refine (resetG g1.lg (by simp; exact g2.ne) i hi (by rw [hus]; omega) (by rw [hct]; omega)).mono fun e w' q => ?_
  by_cases hc : i < 1 ∨ 999999 < i
  · right
    rw [Str.resetNo i hc] at q
    exact ⟨hc, q.1, ⟨d, G, g1.kps q.2.1 q.2.2, g2, g3, g4, g5, g6, g7, g8⟩, ke_kps q.2.2⟩
  · left
    obtain ⟨N, hN⟩ : ∃ N : Nat, i = (N : Int) := ⟨i.toNat, by omega⟩
    subst hN
    obtain ⟨d', e1, e2, e3⟩ := g2.reset N (by omega) (by omega)
    rw [e1] at q
    refine ⟨N, rfl, by omega, by omega, q.1, ⟨d', [(N, [])], g1.kps q.2.1 q.2.2, e2, by rw [e3, g3], rfl, rfl, by simp [bulks, bulk], by simp, ?_⟩, ke_kps q.2.2⟩
    intro y hy
    rw [List.mem_singleton.1 hy]
    show N < 1000000
    omega
theorem nuOpen {E : Nat → Prop} {w0 : World} {b m p F k : Nat} {v : Value} {xs : List Nm} {R : Recs} {w : World} (ht : Tabs w0) (h : NuS E w0 b m p v xs R F k w) (hk : k ≤ 100) :
    Calls Tryz.prog 16 #[dptr b] w fun e w' => ∃ p2, e = .returned (.tuple #[dptr p2, .int .i64 0]) ∧ NuS E w0 b m p2 v xs R F k w' ∧ KE E w w' := by
  obtain ⟨d, G, g1, g2, g3, g4, g5, g6, g7, g8⟩ := h
  have hb : k * 8200 ≤ 100 * 8200 := Nat.mul_le_mul_right _ hk
  obtain ⟨d', e1, e2, e3⟩ := g2.open g8
  refine (openG g1.lg.dk ht g2.short (by rw [g2.used]; omega) (by rw [g2.count]; omega) e1).mono fun e w' r => ?_
  obtain ⟨p2, r1, r2, r3⟩ := r
  exact ⟨p2, r1, ⟨d', G, g1.kps r2 r3, e2, by rw [e3, g3], g4, g5, g6, g7, g8⟩, ke_kps r3⟩
theorem nuGet {E : Nat → Prop} {w0 : World} {b m p F k : Nat} {v : Value} {xs : List Nm} {R : Recs} {w : World} (h : NuS E w0 b m p v xs R F k w) (hk : k ≤ 100) (j : Nat) (hj : j < R.length) :
    Calls Tryz.prog 23 #[dptr p, .int .i64 ((F + j : Nat) : Int)] w fun e w' => ∃ a c r, R[j]? = some r ∧ e = .returned (.tuple #[.slice a r.length c, .int .i64 0]) ∧ BRow w' a r.length c r ∧ Below w.heap.size w w' := by
  obtain ⟨d, G, g1, g2, g3, g4, g5, g6, g7, g8⟩ := h
  have hb : k * 8200 ≤ 100 * 8200 := Nat.mul_le_mul_right _ hk
  have := strGet g1.lg.weak g2 (F + j) (by omega) (by rw [g4, g5]; omega) (by omega)
  rw [g4, g5, show F + j - F = j by omega] at this
  exact this
end Go.Proofs.YtkbmblmnhhlicaaGreatDoor
