/- A net of one's own: each call. -/
import Derived.Test.YtblohegdlcpipaaUMove
set_option linter.unusedVariables false
set_option linter.unusedSimpArgs false
namespace Go.Proofs.Ytblohegdlcpipaa
open Go.RowKit

/-- What is no net's stays. -/
structure KT (w w' : World) : Prop where
  size : w.heap.size ≤ w'.heap.size
  keep : ∀ (q : Nat) (cur : Array Value) (t : TypeId) (m : Nat × Nat), w.heap[q]? = some (.cells cur t m) → t ≠ 52 → t ≠ 57 → w'.heap[q]? = w.heap[q]?
theorem KT.refl (w : World) : KT w w := ⟨Nat.le_refl _, fun _ _ _ _ _ _ _ => rfl⟩
theorem KT.trans {a b c : World} (h : KT a b) (k : KT b c) : KT a c := ⟨Nat.le_trans h.size k.size, fun q cur t m hq h1 h2 => by
  have e := h.keep q cur t m hq h1 h2
  exact (k.keep q cur t m (e.trans hq) h1 h2).trans e⟩
theorem KT.below {w w' : World} (hb : Below w.heap.size w w') : KT w w' := ⟨hb.size, fun q cur t m hq _ _ => hb.block q (lt_blk hq)⟩
theorem NetC.kt {w w' : World} {b : Nat} {v : Value} {sd : Nat} {ls : List L3} (h : NetC w b v sd ls) (hf : Fr (NetB b v) w w') : KT w w' := ⟨hf.size, fun q cur t m hq h1 h2 => hf.block q (lt_blk hq) (fun hk => by
  obtain ⟨xs, hx, _⟩ := h
  rcases hk with rfl | hk
  · exact type_ne hq hx.blk h1 rfl
  · obtain ⟨c2, hc⟩ := hx.row.block hk
    exact type_ne hq hc h2 rfl)⟩

/-- A net of a call's own. -/
def NetO (w0 : World) (B : Nat) (w : World) (b sd : Nat) (ls : List L3) : Prop := ∃ v, NetC w b v sd ls ∧ Below B w0 w ∧ B ≤ b ∧ (∀ g, v.ownBlock = some g → B ≤ g) ∧ B ≤ w.heap.size
theorem NetO.below {w0 w w' : World} {B b sd : Nat} {ls : List L3} (h : NetO w0 B w b sd ls) (hb : Below w.heap.size w w') : NetO w0 B w' b sd ls := by
  obtain ⟨v, h1, h2, h3, h4, h5⟩ := h
  exact ⟨v, h1.below hb, h2.trans (hb.mono h5), h3, h4, Nat.le_trans h5 hb.size⟩
theorem NetO.bel {w0 w : World} {B b sd : Nat} {ls : List L3} (h : NetO w0 B w b sd ls) : Below B w0 w := by
  obtain ⟨v, h1, h2, h3⟩ := h
  exact h2
theorem NetO.few {w0 w : World} {B b sd : Nat} {ls : List L3} (h : NetO w0 B w b sd ls) : ls.length ≤ 200 := by
  obtain ⟨v, h1, _⟩ := h
  exact h1.few
theorem NetO.go {w0 w w' : World} {B b sd sd' : Nat} {v : Value} {ls ls' : List L3} (hc : NetC w b v sd ls) (h2 : Below B w0 w) (h3 : B ≤ b) (h4 : ∀ g, v.ownBlock = some g → B ≤ g) (h5 : B ≤ w.heap.size) (hg : GoC w b v sd' ls' w') : NetO w0 B w' b sd' ls' ∧ KT w w' := by
  obtain ⟨v', g1, g2, g3⟩ := hg
  refine ⟨⟨v', g1, h2.trans (g2.below (fun k hk => ?_) h5), h3, fun g hg => ?_, Nat.le_trans h5 g2.size⟩, hc.kt g2⟩
  · rcases hk with rfl | hk
    · exact h3
    · exact h4 k hk
  · rcases g3 g hg with e | e
    · exact h4 g e
    · omega
/-- What a call on such a net leaves. -/
def OGo (w0 : World) (B : Nat) (w : World) (b sd : Nat) (ls : List L3) (w' : World) : Prop := NetO w0 B w' b sd ls ∧ KT w w'

theorem onew (w : World) : Calls Try.prog 8 #[] w fun e w' => ∃ b, e = .returned (nptr b) ∧ NetO w w.heap.size w' b 0 [] := by
  refine (unew_any w).mono ?_
  rintro e w' ⟨rfl, h, hb⟩
  exact ⟨w.heap.size, rfl, .slice none 0 0, ⟨[], h, rfl⟩, hb, Nat.le_refl _, fun g hg => (by cases hg), hb.size⟩
theorem onew2 {w0 w : World} {B : Nat} (hb0 : Below B w0 w) (hB : B ≤ w.heap.size) : Calls Try.prog 8 #[] w fun e w' => ∃ b, e = .returned (nptr b) ∧ NetO w0 B w' b 0 [] := by
  refine (unew_any w).mono ?_
  rintro e w' ⟨rfl, h, hb⟩
  exact ⟨w.heap.size, rfl, .slice none 0 0, ⟨[], h, rfl⟩, hb0.trans (hb.mono hB), hB, fun g hg => (by cases hg), Nat.le_trans hB hb.size⟩
theorem osend {w0 w : World} {B b sd : Nat} {ls : List L3} (h : NetO w0 B w b sd ls) (f t : Int) {a : Option Addr} {n c : Nat} {l : List UInt8} (hl : BRow w a n c l) (hn : n ≤ 1000) :
    Calls Try.prog 12 #[nptr b, .int .i64 f, .int .i64 t, .slice a n c] w fun e w' => e = .returned (.tuple #[]) ∧ OGo w0 B w b sd (sendA ls f t l) w' := by
  obtain ⟨v, h1, h2, h3, h4, h5⟩ := h
  refine (usend_any h1 f t hl hn).mono ?_
  rintro e w' ⟨he, hg⟩
  exact ⟨he, NetO.go h1 h2 h3 h4 h5 hg⟩
theorem omove {w0 w : World} {B b sd : Nat} {ls : List L3} (h : NetO w0 B w b sd ls) (i k : Int) :
    Calls Try.prog 14 #[nptr b, .int .i64 i, .int .i64 k] w fun e w' => e = .returned (.bool (hasB ls.length i && hasB ls.length k)) ∧ OGo w0 B w b sd (moveA ls i k) w' := by
  obtain ⟨v, h1, h2, h3, h4, h5⟩ := h
  cases hh : hasB ls.length i && hasB ls.length k with
  | false =>
    refine (umove_no h1 i k hh).mono ?_
    rintro e w' ⟨he, hg⟩
    exact ⟨he, NetO.go h1 h2 h3 h4 h5 hg⟩
  | true =>
    obtain ⟨q1, q2⟩ := (Bool.and_eq_true _ _).mp hh
    obtain ⟨i0, i1⟩ := hasB_iff.1 q1
    obtain ⟨k0, k1⟩ := hasB_iff.1 q2
    obtain ⟨I, rfl⟩ : ∃ I : Nat, i = (I : Int) := ⟨i.toNat, by omega⟩
    obtain ⟨K, rfl⟩ : ∃ K : Nat, k = (K : Int) := ⟨k.toNat, by omega⟩
    refine (umove_yes h1 (i := I) (k := K) (by omega) (by omega)).mono ?_
    rintro e w' ⟨he, hg⟩
    exact ⟨he, NetO.go h1 h2 h3 h4 h5 hg⟩
theorem osplit {w0 w : World} {B b sd : Nat} {ls : List L3} (h : NetO w0 B w b sd ls) (s : Nat) (hs : s < 18446744073709551616) :
    Calls Try.prog 16 #[nptr b, .int .u64 (s : Int)] w fun e w' => e = .returned (.tuple #[]) ∧ OGo w0 B w b s ls w' := by
  obtain ⟨v, h1, h2, h3, h4, h5⟩ := h
  obtain ⟨xs, hx, hm⟩ := h1
  refine (usplit_any hx s hs).mono ?_
  rintro e w' ⟨he, hg, hf⟩
  exact ⟨he, NetO.go ⟨xs, hx, hm⟩ h2 h3 h4 h5 ⟨v, ⟨xs, hg, hm⟩, hf.wide (fun k hk => Or.inl hk), fun g hg => .inl hg⟩⟩
theorem ocopy {w0 w : World} {B b sd : Nat} {ls : List L3} (h : NetO w0 B w b sd ls) (i : Int) :
    Calls Try.prog 13 #[nptr b, .int .i64 i] w fun e w' => e = .returned (.bool (hasB ls.length i && decide (ls.length < 200))) ∧ OGo w0 B w b sd (if hasB ls.length i = true then copyA ls i else ls) w' := by
  obtain ⟨v, h1, h2, h3, h4, h5⟩ := h
  refine (ucopy_any h1 i).mono ?_
  rintro e w' ⟨he, hg⟩
  exact ⟨he, NetO.go h1 h2 h3 h4 h5 hg⟩
theorem olen {w0 w : World} {B b sd : Nat} {ls : List L3} (h : NetO w0 B w b sd ls) : Calls Try.prog 10 #[nptr b] w fun e w' => e = .returned (.int .i64 (ls.length : Int)) ∧ w' = w := by
  obtain ⟨v, ⟨xs, hx, rfl⟩, _⟩ := h
  rw [List.length_map]
  exact ulen_any hx
theorem oreach {w0 w : World} {B b sd : Nat} {ls : List L3} (h : NetO w0 B w b sd ls) (f t : Int) : Calls Try.prog 17 #[nptr b, .int .i64 f, .int .i64 t] w fun e w' => e = .returned (.bool (reachB sd f t)) ∧ w' = w := by
  obtain ⟨v, ⟨xs, hx, rfl⟩, _⟩ := h
  exact ureach_any hx f t
theorem olook_no {w0 w : World} {B b sd : Nat} {ls : List L3} (h : NetO w0 B w b sd ls) (i : Int) (hi : hasB ls.length i = false) :
    Calls Try.prog 11 #[nptr b, .int .i64 i] w fun e w' => e = .returned zeroT ∧ w' = w := by
  obtain ⟨v, ⟨xs, hx, rfl⟩, _⟩ := h
  rw [List.length_map] at hi
  exact ulook_no hx i hi
theorem olook {w0 w : World} {B b sd : Nat} {ls : List L3} (h : NetO w0 B w b sd ls) {j : Nat} {y : L3} (hj : ls[j]? = some y) :
    Calls Try.prog 11 #[nptr b, .int .i64 (j : Int)] w fun e w' => ∃ a c, e = .returned (.tuple #[.int .i64 (y.1 : Int), .int .i64 (y.2.1 : Int), .slice a y.2.2.length c, .bool true]) ∧ OwnB w' w.heap.size (.slice a y.2.2.length c) y.2.2 ∧ OGo w0 B w b sd ls w' ∧ Below w.heap.size w w' := by
  have hh := h
  obtain ⟨v, ⟨xs, hx, rfl⟩, _⟩ := h
  rw [List.getElem?_map] at hj
  obtain ⟨x, hxj, rfl⟩ := Option.map_eq_some_iff.1 hj
  refine (ulook_yes hx hxj).mono ?_
  rintro e w' ⟨a, c, he, ho, hb⟩
  exact ⟨a, c, he, ho, ⟨hh.below hb, KT.below hb⟩, hb⟩
theorem otake_none {w0 w : World} {B b sd : Nat} {ls : List L3} (h : NetO w0 B w b sd ls) (i : Int) (hi : hasB ls.length i = false) :
    Calls Try.prog 15 #[nptr b, .int .i64 i] w fun e w' => e = .returned zeroT ∧ OGo w0 B w b sd ls w' := by
  obtain ⟨v, h1, h2, h3, h4, h5⟩ := h
  refine (utake_none h1 i hi).mono ?_
  rintro e w' ⟨he, hg⟩
  exact ⟨he, NetO.go h1 h2 h3 h4 h5 hg⟩
theorem otake {w0 w : World} {B b sd : Nat} {ls : List L3} (h : NetO w0 B w b sd ls) {j : Nat} {y : L3} (hj : ls[j]? = some y) (hr : reachB sd (y.1 : Int) (y.2.1 : Int) = true) :
    Calls Try.prog 15 #[nptr b, .int .i64 (j : Int)] w fun e w' => ∃ a c, e = .returned (.tuple #[.int .i64 (y.1 : Int), .int .i64 (y.2.1 : Int), .slice a y.2.2.length c, .bool true]) ∧ OwnB w' w.heap.size (.slice a y.2.2.length c) y.2.2 ∧ OGo w0 B w b sd (ls.eraseIdx j) w' := by
  obtain ⟨v, h1, h2, h3, h4, h5⟩ := h
  refine (utake_some h1 hj).mono ?_
  intro e w' hh
  rw [if_pos hr] at hh
  obtain ⟨a, c, he, ho, hg⟩ := hh
  exact ⟨a, c, he, ho, NetO.go h1 h2 h3 h4 h5 hg⟩
theorem otake_far {w0 w : World} {B b sd : Nat} {ls : List L3} (h : NetO w0 B w b sd ls) {j : Nat} {y : L3} (hj : ls[j]? = some y) (hr : reachB sd (y.1 : Int) (y.2.1 : Int) = false) :
    Calls Try.prog 15 #[nptr b, .int .i64 (j : Int)] w fun e w' => e = .returned zeroT ∧ OGo w0 B w b sd ls w' := by
  obtain ⟨v, h1, h2, h3, h4, h5⟩ := h
  refine (utake_some h1 hj).mono ?_
  intro e w' hh
  rw [if_neg (by rw [hr]; decide)] at hh
  obtain ⟨he, hg⟩ := hh
  exact ⟨he, NetO.go h1 h2 h3 h4 h5 hg⟩

/-- A row of bytes that is laid. -/
theorem brow_lay (w : World) (u : UInt8) : BRow (w.alloc (.cells #[.int .u8 (u.toNat : Int)] 5)) (some ⟨w.heap.size, 0, none⟩) 1 1 [u] := by
  refine ⟨rfl, .inr ⟨_, rfl, fun j hj => ?_⟩⟩
  have hj0 : j = 0 := by simpa using hj
  subst hj0
  exact cell_blk (heap_alloc_new w _) rfl
theorem osend1 {w0 w : World} {B b sd : Nat} {ls : List L3} (h : NetO w0 B w b sd ls) (f t : Int) (u : UInt8) :
    Calls Try.prog 12 #[nptr b, .int .i64 f, .int .i64 t, .slice (some ⟨w.heap.size, 0, none⟩) 1 1] (w.alloc (.cells #[.int .u8 (u.toNat : Int)] 5)) fun e w' => e = .returned (.tuple #[]) ∧ OGo w0 B w b sd (sendA ls f t [u]) w' := by
  have hb : Below w.heap.size w (w.alloc (.cells #[.int .u8 (u.toNat : Int)] 5)) := (Below.refl _ w).alloc (Nat.le_refl _) _
  refine (osend (h.below hb) f t (brow_lay w u) (by omega)).mono ?_
  rintro e w' ⟨he, hg⟩
  exact ⟨he, hg.1, (KT.below hb).trans hg.2⟩
end Go.Proofs.Ytblohegdlcpipaa
