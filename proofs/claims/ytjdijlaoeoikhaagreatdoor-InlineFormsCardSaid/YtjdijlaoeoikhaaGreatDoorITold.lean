/- Package inline: withText, told; walked. -/
import Derived.Test.YtjdijlaoeoikhaaGreatDoorIBld
import Derived.Test.YtjdijlaoeoikhaaGreatDoorG08
import Derived.Test.YtjdijlaoeoikhaaGreatDoorG09
import Derived.Maps.AppendAt
import Derived.Shelf.Strings.BuilderK
set_option linter.unusedVariables false
namespace Go.Proofs.YtjdijlaoeoikhaaGreatDoor
open Go.RowKit

/-- What told has gathered: a row of inlines, and a text. -/
structure TS (B : Nat) (w : World) (b : Nat) (va : Value) (A : Is) (t : Str8) : Prop where
  bld : Lib.IsBuilder 79 5 B b (Lib.byteCells t) w
  all : ∃ xs, w.ownsRow B 32 5 va A.len xs ∧ KidI w (· < B) A xs

theorem row_others {w w' : World} {b B : Nat} {p v : Value} {va : Value} {n : Nat} {xs : List Value} (h : w.ownsRow B 32 5 va n xs) (hb : w.heap[b]? = some (.cells #[p, v] 79 (0, 0))) (hk : Lib.OthersKept 5 (some b) w w') : w'.ownsRow B 32 5 va n xs := by
  refine ⟨h.1, ?_⟩
  rcases h.2 with hn | ⟨g, cap, cur, rfl, hB, hg, rest⟩
  · exact .inl hn
  · refine .inr ⟨g, cap, cur, rfl, hB, hk g _ hg ?_ ?_, rest⟩
    · intro e
      cases e
      rw [hb] at hg
      cases hg
    · intro c fz e
      cases e
theorem kid_below {B : Nat} {w w' : World} {k : Is} {xs : List Value} (h : KidI w (· < B) k xs) (hb : Below B w w') : KidI w' (· < B) k xs :=
  KidI.keeps (fun g hg => hg) (fun g _ hg => hb.block g hg) k xs h
theorem bld_blk {B b : Nat} {bs : List Value} {w : World} (h : Lib.IsBuilder 79 5 B b bs w) : B ≤ b ∧ ∃ p v, w.heap[b]? = some (.cells #[p, v] 79 (0, 0)) := by
  rcases h with ⟨h1, v, h2, _⟩ | ⟨h1, v, h2, _⟩
  · exact ⟨h1, _, _, h2⟩
  · exact ⟨h1, _, _, h2⟩

/-- All stays but b, a row's block, and bytes. -/
def KeptT (b : Nat) (va : Value) (w w' : World) : Prop := ∀ k o, w.heap[k]? = some o → k ≠ b → some k ≠ va.ownBlock → (∀ c fz, o ≠ .cells c 5 fz) → w'.heap[k]? = some o

theorem infoII : (Tryz.prog.info? 32).map (fun i => (i.zero, i.size, i.bytes)) = some (some (.agg #[.int .i64 0, .string ⟨#[]⟩, .string ⟨#[]⟩, .string ⟨#[]⟩, .slice none 0 0]), 5, 80) := by kernel_rfl

theorem bldF_blk {B b : Nat} {bs : List Value} {w : World} (h : Lib.IsBuilderF 79 5 B b bs w) : B ≤ b ∧ ∃ a a1 n c, w.heap[b]? = some (.cells #[.pointer a, .slice a1 n c] 79 (0, 0)) := by
  rcases h with ⟨h1, v, h2, h3, _⟩ | ⟨h1, v, h2, h3, _⟩
  · rcases h3.2 with ⟨hv, _⟩ | ⟨g, cap, cur, k, hv, _⟩
    · rw [hv] at h2; exact ⟨h1, _, _, _, _, h2⟩
    · rw [hv] at h2; exact ⟨h1, _, _, _, _, h2⟩
  · rcases h3.2 with ⟨hv, _⟩ | ⟨g, cap, cur, k, hv, _⟩
    · rw [hv] at h2; exact ⟨h1, _, _, _, _, h2⟩
    · rw [hv] at h2; exact ⟨h1, _, _, _, _, h2⟩
theorem row_neq {w : World} {b B : Nat} {cs : Array Value} {T e : TypeId} {va : Value} {s n : Nat} {xs : List Value} (h : w.ownsRow B e s va n xs) (hb : w.heap[b]? = some (.cells cs T (0, 0))) (hT : T ≠ e) : some b ≠ va.ownBlock := by
  intro e'
  rcases h.2 with ⟨hv, _⟩ | ⟨g, cap, cur, hv, _, hg, _⟩
  · rw [hv] at e'; cases e'
  · rw [hv] at e'
    cases e'
    rw [hb] at hg
    exact hT (by injection (Option.some.inj hg))

set_option maxHeartbeats 4000000 in
set_option maxRecDepth 20000 in
theorem iwt_some {B b : Nat} {w : World} {va : Value} {A : Is} {t : Str8} (h : TS B w b va A t) (ht : t ≠ []) (hn : A.len ≤ 1099511627775) (hBw : B ≤ w.heap.size) :
    Calls Tryz.prog 43 #[va, ptrB b] w fun e w' => ∃ v', e = .returned v' ∧ TS B w' b v' (A.addT t) [] ∧ Below B w w' ∧ KeptT b va w w' ∧ (∀ g, v'.ownBlock = some g → va.ownBlock = some g ∨ w.heap.size ≤ g) := by
  have HL : Hid (Calls Tryz.prog 66 #[ptrB b] w fun e w' => e = .returned (.int .i64 (t.length : Int)) ∧ w' = w) := by
    have := Tryz.Builder_Len B b _ w h.bld
    rw [Lib.byteCells_length] at this
    exact this
  have HS : Hid (Calls Tryz.prog 67 #[ptrB b] w fun e w' => e = .returned (.string ⟨t.toArray⟩) ∧ Lib.IsBuilderF 79 5 B b (Lib.byteCells t) w' ∧ Below B w w' ∧ Lib.OthersKept 5 (some b) w w') := Any.Builder_String_any_k Tryz.lays169 Tryz.Builder_Extra_169 B b t w (Lib.IsBuilderF.of h.bld) hBw
  have hl0 : ((t.length : Int) == 0) = false := by
    have : 0 < t.length := List.length_pos_iff.2 ht
    simp; omega
  obtain ⟨i0, hi, hz⟩ := Option.map_eq_some_iff.1 infoII
  have hz0 := congrArg (·.1) hz
  have hz1 := congrArg (·.2.1) hz
  have hz2 := congrArg (·.2.2) hz
  simp only at hz0 hz1 hz2
  obtain ⟨xs, hrow, hkid⟩ := h.all
  obtain ⟨hBb, p0, v0, hb0⟩ := bld_blk h.bld
  go_enter Tryz.func43, Tryz.ntmps43
  go_wp2_with (first
    | (go_at_call 66; refine HL.out.mono ?_; rintro e w1 ⟨rfl, hw⟩; subst w1)
    | (go_at_call 67; refine Calls.mono HS.out ?_; rintro e w1 ⟨rfl, hBF, hb1, hk1⟩; have hrow1 := row_others hrow hb0 hk1; have hkid1 := kid_below hkid hb1)
    | (at_builtin; refine wpList_append_own_at _ rfl _ _ 25 rfl B 32 i0 _ 5 80 Tryz.underlying25 hi hz0 hz1 hz2 rfl (by decide) _ _ _ rfl (World.ownsRow.alloc hrow1 _) ⟨w1.heap.size, 0, none⟩ 1 1 [.int .i64 0, strW t, .string ⟨#[]⟩, .string ⟨#[]⟩, .slice none 0 0] rfl rfl (lit_cells _ _ _) ?c2 ?c3 ?c4 ?c5 ?_))
  case c2 => intro u hu; simp only [List.mem_cons, List.not_mem_nil, or_false] at hu; rcases hu with rfl | rfl | rfl | rfl | rfl <;> rfl
  case c3 => unfold maxLen; omega
  case c4 => omega
  case c5 => have := hb1.size; simp; omega
  intro v' w2 hown' hgrow _ hblk
  obtain ⟨_, a, a1, n1, k1, hbb⟩ := bldF_blk hBF
  have hbb2 : w2.heap[b]? = some (.cells #[.pointer a, .slice a1 n1 k1] 79 (0, 0)) := by
    rw [hgrow.block b (by have := blk.lt_of_block hbb; simp; omega) (row_neq hrow1 hbb (by decide))]
    exact blk.blk_below hbb ((Below.refl _ _).alloc (Nat.le_refl _) _)
  have HR : Hid (Calls Tryz.prog 68 #[ptrB b] w2 fun e w' => e = .returned (.tuple #[]) ∧ w' = (w2.setCell ⟨b, 0, none⟩ (.pointer none)).setCell ⟨b, 1, none⟩ (.slice none 0 0)) := irs_any b _ _ w2 hbb2 ⟨_, rfl⟩ ⟨_, _, _, rfl⟩
  have HB2 : Hid (Below B w w2) := (hb1.alloc (by have := hb1.size; omega) _).grown hgrow (by have := hb1.size; simp; omega) (fun k hk => (hrow.lt k hk).1)
  go_wp2_with (go_at_call 68; refine Calls.mono HR.out ?_; rintro e w3 ⟨rfl, rfl⟩)
  go_ret
  have hbw3 := blk.below_set (i := 1) (u := .slice none 0 0) (blk.below_set (i := 0) (u := .pointer none) HB2.out hBb) hBb
  refine ⟨v', rfl, ⟨.inl ⟨hBb, .slice none 0 0, ?_, World.ownsRow_nil _ _ _ _, fun e => by cases e⟩, ?_⟩, hbw3, ?_, ?_⟩
  · exact blk.set_blk (blk.set_blk hbb2 0 (.pointer none)) 1 (.slice none 0 0)
  · rw [Is.addT_some A ht, Is.len_snoc]
    refine ⟨xs ++ iiCells { text := t } (.slice none 0 0), ?_, KidI.snoc (k := .nil) (ys := []) (World.ownsRow_nil _ _ _ _) (fun g hg => by cases hg) rfl A xs (kid_below hkid hbw3)⟩
    have hne := row_neq hown' hbb2 (by decide)
    refine irow_keeps hown' (fun g hg => ?_)
    rw [Below.heap_setCell _ _ _ _ (by intro e; exact hne (by rw [hg]; exact congrArg some e.symm)), Below.heap_setCell _ _ _ _ (by intro e; exact hne (by rw [hg]; exact congrArg some e.symm))]
  · intro k o hk hkb hkv hku
    have h1 := hk1 k o hk (fun e => hkb (Option.some.inj e)) hku
    have h2 := blk.blk_below h1 ((Below.refl _ _).alloc (Nat.le_refl _) (.cells #[.int .i64 0, strW t, .string ⟨#[]⟩, .string ⟨#[]⟩, .slice none 0 0] 32))
    have h3 := hgrow.block k (blk.lt_of_block h2) hkv
    rw [Below.heap_setCell _ _ _ _ (by simpa using hkb), Below.heap_setCell _ _ _ _ (by simpa using hkb)]
    exact h3.trans h2
  · intro g hg
    rcases hblk with q | q
    · exact .inl (q.symm.trans hg)
    · rw [q] at hg
      cases hg
      have := hb1.size
      exact .inr (by first | omega | (simp; omega))

set_option maxHeartbeats 4000000 in
theorem iwt_any {B b : Nat} {w : World} {va : Value} {A : Is} {t : Str8} (h : TS B w b va A t) (hn : A.len ≤ 1099511627775) (hBw : B ≤ w.heap.size) :
    Calls Tryz.prog 43 #[va, ptrB b] w fun e w' => ∃ v', e = .returned v' ∧ TS B w' b v' (A.addT t) [] ∧ Below B w w' ∧ KeptT b va w w' ∧ (∀ g, v'.ownBlock = some g → va.ownBlock = some g ∨ w.heap.size ≤ g) := by
  by_cases ht : t = []
  · subst ht
    have HL : Hid (Calls Tryz.prog 66 #[ptrB b] w fun e w' => e = .returned (.int .i64 0) ∧ w' = w) := Tryz.Builder_Len B b _ w h.bld
    go_enter Tryz.func43, Tryz.ntmps43
    go_wp2_with (first
      | (go_at_call 66; refine HL.out.mono ?_; rintro e w1 ⟨rfl, hw⟩; subst w1))
    go_ret
    exact ⟨va, rfl, h, Below.refl _ _, fun k o hk _ _ _ => hk, fun g hg => .inl hg⟩
  · exact iwt_some h ht hn hBw

end Go.Proofs.YtjdijlaoeoikhaaGreatDoor
