/- LinkDefines: what the walk leans on. -/
import Derived.Test.YtadghfgjdfgopaaDoorPlainLink9
import Derived.Test.YtadghfgjdfgopaaDoorKSix
import Derived.Test.YtadghfgjdfgopaaDoorWPlaces
import Derived.Test.YtadghfgjdfgopaaDoorRunRef
set_option linter.unusedVariables false
namespace Go.Proofs.YtadghfgjdfgopaaDoor
open Go.RowKit

theorem rem_nat (N : Int) (h : 0 ≤ N) (k : Nat) (hk : 0 < k) : ∃ m : Nat, m < k ∧ N % (k : Int) = (m : Int) := by
  refine ⟨(N % (k : Int)).toNat, ?_, ?_⟩
  · have := Int.emod_lt_of_pos N (show (0 : Int) < (k : Int) by omega)
    have := Int.emod_nonneg N (show (k : Int) ≠ 0 by omega)
    omega
  · have := Int.emod_nonneg N (show (k : Int) ≠ 0 by omega)
    omega

abbrev Adds (a b x : ByteArray) : Prop := ∀ w, (Op.stringOp .add a b).run Tryd.prog w = .ok (.string x) w

theorem pick_ind (m : Nat) (hm : m < 3) : ∃ P : ByteArray, ([.string ⟨#[]⟩, .string ⟨#[32]⟩, .string ⟨#[32, 32, 32]⟩] : List Value)[m] = .string P ∧ IsInd P.data.toList := by
  have := ind_each m hm
  match m, hm with
  | 0, _ => exact ⟨_, rfl, this⟩
  | 1, _ => exact ⟨_, rfl, this⟩
  | 2, _ => exact ⟨_, rfl, this⟩
theorem pick_gap1 (m : Nat) (hm : m < 4) : ∃ P : ByteArray, ([.string ⟨#[]⟩, .string ⟨#[32]⟩, .string ⟨#[10]⟩, .string ⟨#[32, 9, 10, 32, 32]⟩] : List Value)[m] = .string P ∧ IsGap1 P.data.toList := by
  have := gap1_each m hm
  match m, hm with
  | 0, _ => exact ⟨_, rfl, this⟩
  | 1, _ => exact ⟨_, rfl, this⟩
  | 2, _ => exact ⟨_, rfl, this⟩
  | 3, _ => exact ⟨_, rfl, this⟩
theorem pick_gap2 (m : Nat) (hm : m < 3) : ∃ P : ByteArray, ([.string ⟨#[32]⟩, .string ⟨#[10]⟩, .string ⟨#[9, 32, 10, 32]⟩] : List Value)[m] = .string P ∧ IsGap2 P.data.toList := by
  have := gap2_is m hm
  match m, hm with
  | 0, _ => exact ⟨_, rfl, this⟩
  | 1, _ => exact ⟨_, rfl, this⟩
  | 2, _ => exact ⟨_, rfl, this⟩
theorem pick_end (m : Nat) (hm : m < 3) : ∃ P : ByteArray, (∀ wq : World, (wq.alloc (.cells #[.string ⟨#[]⟩, .string ⟨#[32]⟩, .string ⟨#[32, 9]⟩] 9)).cell? ⟨wq.heap.size, m, none⟩ = some (.string P)) ∧ IsEnd1 P.data.toList := by
  have := end1_each m hm
  match m, hm with
  | 0, _ => exact ⟨⟨#[]⟩, fun wq => (Blk3.new wq _ _ _ _).c0, this⟩
  | 1, _ => exact ⟨⟨#[32]⟩, fun wq => (Blk3.new wq _ _ _ _).c1, this⟩
  | 2, _ => exact ⟨⟨#[32, 9]⟩, fun wq => (Blk3.new wq _ _ _ _).c2, this⟩
theorem pick_q (Dx y2 : ByteArray) (m : Nat) (hm : m < 2) (hy : y2.data.toList = 60 :: (Dx.data.toList ++ [62])) : ∃ P : ByteArray, ([.string Dx, .string y2] : List Value)[m] = .string P ∧ IsQ Dx.data.toList P.data.toList := by
  match m, hm with
  | 0, _ => exact ⟨_, rfl, .inl rfl⟩
  | 1, _ => exact ⟨_, rfl, .inr hy⟩
theorem pick_t (Tx a b c : ByteArray) (m : Nat) (hm : m < 3) (ha : a.data.toList = 34 :: (Tx.data.toList ++ [34])) (hb : b.data.toList = 39 :: (Tx.data.toList ++ [39])) (hc : c.data.toList = 40 :: (Tx.data.toList ++ [41])) : ∃ P : ByteArray, ([.string a, .string b, .string c] : List Value)[m] = .string P ∧ IsT Tx.data.toList P.data.toList := by
  match m, hm with
  | 0, _ => exact ⟨_, rfl, 34, .inl rfl, by rw [ha]; rfl⟩
  | 1, _ => exact ⟨_, rfl, 39, .inr (.inl rfl), by rw [hb]; rfl⟩
  | 2, _ => exact ⟨_, rfl, 40, .inr (.inr rfl), by rw [hc]; rfl⟩

theorem adds_ex (a b : ByteArray) (h : a.size + b.size ≤ 9223372036854775000) : ∃ x : ByteArray, Adds a b x ∧ x.data.toList = a.data.toList ++ b.data.toList ∧ x.size = a.size + b.size := by
  obtain ⟨x, p, e⟩ := add_to a b a.data.toList b.data.toList (mk_data a).symm (mk_data b).symm (by rw [len_data, len_data]; exact h)
  have hl : x.data.toList = a.data.toList ++ b.data.toList := by rw [e, list_data]
  exact ⟨x, p, hl, by rw [← len_data, hl, List.length_append, len_data, len_data]⟩

/-- The first half of a definition. -/
theorem defs6 (Lx Dx : ByteArray) (hL : Lx.size ≤ 400) (hD : Dx.size ≤ 400) (m0 m1 m2 : Nat) (h0 : m0 < 3) (h1 : m1 < 4) (h2 : m2 < 2) :
    ∃ P0 P1 P2 y1 y2 z1 z2 z3 z4 z5 : ByteArray, ([.string ⟨#[]⟩, .string ⟨#[32]⟩, .string ⟨#[32, 32, 32]⟩] : List Value)[m0] = .string P0 ∧ ([.string ⟨#[]⟩, .string ⟨#[32]⟩, .string ⟨#[10]⟩, .string ⟨#[32, 9, 10, 32, 32]⟩] : List Value)[m1] = .string P1 ∧ Adds (ByteArray.mk #[60]) Dx y1 ∧ Adds y1 (ByteArray.mk #[62]) y2 ∧ ([.string Dx, .string y2] : List Value)[m2] = .string P2 ∧
      Adds P0 (ByteArray.mk #[91]) z1 ∧ Adds z1 Lx z2 ∧ Adds z2 (ByteArray.mk #[93, 58]) z3 ∧ Adds z3 P1 z4 ∧ Adds z4 P2 z5 ∧ z5.size ≤ 1000 ∧
      Hid (∀ y, z5.data.toList ++ y = headD P0.data.toList Lx.data.toList P1.data.toList P2.data.toList y) ∧ Hid (IsInd P0.data.toList ∧ IsGap1 P1.data.toList ∧ IsQ Dx.data.toList P2.data.toList) := by
  obtain ⟨P0, c0, i0⟩ := pick_ind m0 h0
  obtain ⟨P1, c1, i1⟩ := pick_gap1 m1 h1
  obtain ⟨y1, a1, l1, s1⟩ := adds_ex (ByteArray.mk #[60]) Dx (by show 1 + _ ≤ _; omega)
  have s1' : y1.size = 1 + Dx.size := s1
  obtain ⟨y2, a2, l2, s2⟩ := adds_ex y1 (ByteArray.mk #[62]) (by show _ + 1 ≤ _; omega)
  obtain ⟨P2, c2, i2⟩ := pick_q Dx y2 m2 h2 (by rw [l2, l1]; rfl)
  have p0 := i0.2
  have p1 := i1.2
  have p2 := q_len i2
  rw [len_data] at p0 p1
  rw [len_data, len_data] at p2
  obtain ⟨z1, b1, k1, t1⟩ := adds_ex P0 (ByteArray.mk #[91]) (by show _ + 1 ≤ _; omega)
  have t1' : z1.size = P0.size + 1 := t1
  obtain ⟨z2, b2, k2, t2⟩ := adds_ex z1 Lx (by omega)
  obtain ⟨z3, b3, k3, t3⟩ := adds_ex z2 (ByteArray.mk #[93, 58]) (by show _ + 2 ≤ _; omega)
  have t3' : z3.size = z2.size + 2 := t3
  obtain ⟨z4, b4, k4, t4⟩ := adds_ex z3 P1 (by omega)
  obtain ⟨z5, b5, k5, t5⟩ := adds_ex z4 P2 (by omega)
  refine ⟨P0, P1, P2, y1, y2, z1, z2, z3, z4, z5, c0, c1, a1, a2, c2, b1, b2, b3, b4, b5, by omega, fun y => ?_, ⟨i0, i1, i2⟩⟩
  rw [k5, k4, k3, k2, k1]
  unfold headD
  simp

/-- A title between its signs, and what stands ahead of it. -/
theorem defs8 (S Tx : ByteArray) (hS : S.size ≤ 1000) (hT : Tx.size ≤ 400) (m3 m4 : Nat) (h3 : m3 < 3) (h4 : m4 < 3) :
    ∃ P3 P4 a1 a2 b1 b2 c1 c2 d1 d2 : ByteArray, ([.string ⟨#[32]⟩, .string ⟨#[10]⟩, .string ⟨#[9, 32, 10, 32]⟩] : List Value)[m3] = .string P3 ∧ Adds (ByteArray.mk #[34]) Tx a1 ∧ Adds a1 (ByteArray.mk #[34]) a2 ∧ Adds (ByteArray.mk #[39]) Tx b1 ∧ Adds b1 (ByteArray.mk #[39]) b2 ∧ Adds (ByteArray.mk #[40]) Tx c1 ∧ Adds c1 (ByteArray.mk #[41]) c2 ∧ ([.string a2, .string b2, .string c2] : List Value)[m4] = .string P4 ∧
      Adds S P3 d1 ∧ Adds d1 P4 d2 ∧ d2.size ≤ 2000 ∧ Hid (d2.data.toList = S.data.toList ++ (P3.data.toList ++ P4.data.toList)) ∧ Hid (IsGap2 P3.data.toList ∧ IsT Tx.data.toList P4.data.toList) := by
  obtain ⟨P3, c3, i3⟩ := pick_gap2 m3 h3
  obtain ⟨a1, x1, l1, s1⟩ := adds_ex (ByteArray.mk #[34]) Tx (by show 1 + _ ≤ _; omega)
  have s1' : a1.size = 1 + Tx.size := s1
  obtain ⟨a2, x2, l2, s2⟩ := adds_ex a1 (ByteArray.mk #[34]) (by show _ + 1 ≤ _; omega)
  obtain ⟨b1, x3, l3, s3⟩ := adds_ex (ByteArray.mk #[39]) Tx (by show 1 + _ ≤ _; omega)
  have s3' : b1.size = 1 + Tx.size := s3
  obtain ⟨b2, x4, l4, s4⟩ := adds_ex b1 (ByteArray.mk #[39]) (by show _ + 1 ≤ _; omega)
  obtain ⟨c1, x5, l5, s5⟩ := adds_ex (ByteArray.mk #[40]) Tx (by show 1 + _ ≤ _; omega)
  have s5' : c1.size = 1 + Tx.size := s5
  obtain ⟨c2, x6, l6, s6⟩ := adds_ex c1 (ByteArray.mk #[41]) (by show _ + 1 ≤ _; omega)
  obtain ⟨P4, c4, i4⟩ := pick_t Tx a2 b2 c2 m4 h4 (by rw [l2, l1]; rfl) (by rw [l4, l3]; rfl) (by rw [l6, l5]; rfl)
  have p3 := i3.2.2.2
  rw [len_data] at p3
  have p4 : P4.size ≤ Tx.size + 2 := by
    obtain ⟨a, _, e⟩ := i4
    have := congrArg List.length e
    rw [len_data] at this
    simp at this
    omega
  obtain ⟨d1, y1, k1, t1⟩ := adds_ex S P3 (by omega)
  obtain ⟨d2, y2, k2, t2⟩ := adds_ex d1 P4 (by omega)
  exact ⟨P3, P4, a1, a2, b1, b2, c1, c2, d1, d2, c3, x1, x2, x3, x4, x5, x6, c4, y1, y2, by omega, (by show _ = _; rw [k2, k1, List.append_assoc]), ⟨i3, i4⟩⟩

end Go.Proofs.YtadghfgjdfgopaaDoor
