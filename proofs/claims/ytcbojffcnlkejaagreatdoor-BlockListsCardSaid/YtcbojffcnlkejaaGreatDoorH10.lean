
/- Several texts in one. -/
import Derived.Test.YtcbojffcnlkejaaGreatDoorG50
import Derived.Test.YtcbojffcnlkejaaGreatDoorH07
import Derived.Laws.Strings3
import Derived.Test.YtcbojffcnlkejaaGreatDoorH09
set_option linter.unusedVariables false
/- What the laws' texts are put together of. -/
namespace Go.Proofs.YtcbojffcnlkejaaGreatDoor
open Go.RowKit

theorem sadd (A B : Str) (h : A.length + B.length ≤ 9223372036854775000) : ∀ w, (Op.stringOp .add (ByteArray.mk A.toArray) (ByteArray.mk B.toArray)).run Tryz.prog w = .ok (.string ⟨(A ++ B).toArray⟩) w := by
  intro w
  rw [← cat_eq]
  exact run_string_add_sum (w := w) _ _ (by rw [size_list, size_list]; omega)

abbrev indT (ls : List Str) : Str := ls.flatMap (fun x => [32, 32, 32, 32] ++ x ++ [10])
abbrev catT (ls : List Str) : Str := ls.flatMap (fun x => x ++ [10])
def fenceL1 (c : UInt8) : Bool := c == 96 || c == 126
def closeT (ls : List Str) : Bool := ls.any (fun x => x.any fenceL1)

end Go.Proofs.YtcbojffcnlkejaaGreatDoor

/- Functions of this stage's laws: one, name; walked. -/
namespace Go.Proofs.YtcbojffcnlkejaaGreatDoor
open Go.RowKit

set_option maxRecDepth 20000 in
theorem bname_any (i : Nat) (hi : i < 40) (w : World) : Calls Tryz.prog 15 #[.int .i64 (i : Int)] w fun e w' => e = .returned (strV (nmL i)) ∧ Below w.heap.size w w' := by
  obtain ⟨d, hd⟩ : ∃ d : Nat, d = i / 26 := ⟨_, rfl⟩
  obtain ⟨a, ha⟩ : ∃ a : Nat, a = d % 26 := ⟨_, rfl⟩
  obtain ⟨b, hb⟩ : ∃ b : Nat, b = i % 26 := ⟨_, rfl⟩
  have h1 : (i : Int).tdiv 26 = (d : Int) := by rw [Int.tdiv_eq_ediv_of_nonneg (by omega)]; omega
  have h2 : (d : Int).tmod 26 = (a : Int) := by rw [Int.tmod_eq_emod_of_nonneg (by omega)]; omega
  have h3 : (i : Int).tmod 26 = (b : Int) := by rw [Int.tmod_eq_emod_of_nonneg (by omega)]; omega
  have ha2 : (a : Int) < 26 := by omega
  have hd2 : (d : Int) < 26 := by omega
  have hb2 : (b : Int) < 26 := by omega
  have hn : nmL i = [110] ++ [UInt8.ofNat (97 + a), UInt8.ofNat (97 + b)] := by unfold nmL; rw [ha, hd, hb]; rfl
  rw [hn]
  have hlt : ∀ k : Nat, k < 26 → ((UInt8.ofNat (97 + k)).toNat : Int) = 97 + (k : Int) := fun k hk => by rw [UInt8.toNat_ofNat']; omega
  have hcl := conv_lit w [UInt8.ofNat (97 + a), UInt8.ofNat (97 + b)] #[.int .u8 (97 + (a : Int)), .int .u8 (97 + (b : Int))] 2 rfl (by
    show _ = #[Value.int .u8 ((UInt8.ofNat (97 + a)).toNat : Int), Value.int .u8 ((UInt8.ofNat (97 + b)).toNat : Int)]
    rw [hlt a (by omega), hlt b (by omega)])
  have hi2 : (i : Int) < 40 := by omega
  clear hd ha hb hn hlt
  obtain ⟨L, hL⟩ : ∃ L, L = [UInt8.ofNat (97 + a), UInt8.ofNat (97 + b)] := ⟨_, rfl⟩
  rw [← hL] at hcl ⊢
  have hs := sadd [110] L (by rw [hL]; show 1 + 2 ≤ _; omega)
  clear hL
  generalize [110] ++ L = T at *
  go_enter Tryz.func15, Tryz.ntmps15
  go_wp2
  go_ret
  exact ⟨rfl, (Below.refl _ _).alloc (Nat.le_refl _) _⟩

end Go.Proofs.YtcbojffcnlkejaaGreatDoor

/- BlockLists: lines with one marker are one list; walked. -/
namespace Go.Proofs.YtcbojffcnlkejaaGreatDoor
open Go.RowKit
open cur (cell_blk)

theorem and_bits7 (m : Nat) (hm : m < 1000000) (z : Int) : ∃ n : Nat, n ≤ m ∧ bits .and .i64 z (m : Int) = (n : Int) := by
  have h0 : (BitVec.ofInt 64 (m : Int)).toNat = m := by
    rw [BitVec.toNat_ofInt]
    omega
  have h : (BitVec.ofInt 64 z &&& BitVec.ofInt 64 (m : Int)).toNat ≤ m := by
    rw [BitVec.toNat_and]
    exact Nat.le_trans Nat.and_le_right (by omega)
  refine ⟨(BitVec.ofInt 64 z &&& BitVec.ofInt 64 (m : Int)).toNat, h, ?_⟩
  show IntKind.i64.wrap (((BitVec.ofInt 64 z &&& BitVec.ofInt 64 (m : Int)).toNat : Nat) : Int) = _
  rw [IntKind.wrap_i64]
  omega
def Fold7 (a x : Int) (m : Int) : Prop := (¬ a < 0 ∧ a.tmod m = x) ∨ (a < 0 ∧ -9223372036854775808 ≤ a ∧ (-(a + 1)).tmod m = x)
theorem fold7 (a : Int) (h0 : -9223372036854775808 ≤ a) (m : Int) (hm : 0 < m) : ∃ x : Int, 0 ≤ x ∧ x < m ∧ Fold7 a x m := by
  by_cases h : 0 ≤ a
  · exact ⟨a.tmod m, Int.tmod_nonneg _ h, by rw [Int.tmod_eq_emod_of_nonneg h]; exact Int.emod_lt_of_pos _ hm, .inl ⟨by omega, rfl⟩⟩
  · exact ⟨(-(a + 1)).tmod m, Int.tmod_nonneg _ (by omega), by rw [Int.tmod_eq_emod_of_nonneg (by omega)]; exact Int.emod_lt_of_pos _ hm, .inr ⟨by omega, h0, rfl⟩⟩

section
variable (fl : Nat → Bool)
/-- The first k items. -/
def prL (k : Nat) : List (Str × Bool) := (List.range k).map (fun i => (nmL i, fl i))
theorem listLs_app (j : Nat) : ∀ (xs ys : List (Str × Bool)), listLs j (xs ++ ys) = listLs j xs ++ listLs j ys
  | [], ys => rfl
  | (x, g) :: r, ys => by
    show (listT j ++ x) :: ((if g then [[]] else []) ++ listLs j (r ++ ys)) = _
    rw [listLs_app j r ys]
    simp [listLs]
theorem text_next (j k : Nat) : catT (listLs j (prL fl (k + 1))) = catT (listLs j (prL fl k)) ++ listT j ++ nmL k ++ [10] ++ (if fl k then [10] else []) := by
  unfold prL
  rw [List.range_succ, List.map_append, listLs_app]
  cases hf : fl k <;> simp [catT, listLs, hf]
theorem text_len (j k : Nat) : (catT (listLs j (prL fl k))).length ≤ 10 * k := by
  induction k with
  | zero => exact Nat.le_refl _
  | succ k ih =>
    have hj : (listT j).length ≤ 3 := by unfold listT; split <;> decide
    have hn : (nmL k).length = 3 := rfl
    have he : (if fl k then [10] else [] : Str).length ≤ 1 := by split <;> decide
    rw [text_next, List.length_append, List.length_append, List.length_append, List.length_append, hn]
    simp only [List.length_cons, List.length_nil]
    omega
/-- Is an empty line between two of the first k? -/
def looK (n k : Nat) : Bool := (List.range k).any (fun i => fl i && decide (i + 1 < n))
theorem loo_next (n k : Nat) : looK fl n (k + 1) = (looK fl n k || (fl k && decide (k + 1 < n))) := by
  unfold looK
  rw [List.range_succ, List.any_append]
  simp
theorem loose_is : ∀ (m a : Nat) (G : Bool), looseL G (fl a) ((List.range' (a + 1) m).map (fun i => (nmL i, fl i))) = (G || (List.range' a m).any fl)
  | 0, a, G => by simp [looseL]
  | m + 1, a, G => by
    rw [List.range'_succ, List.map_cons, looseL, loose_is m (a + 1) (G || fl a), List.range'_succ (s := a), List.any_cons, Bool.or_assoc]
theorem loo_all (n : Nat) : looK fl (n + 1) (n + 1) = looseL false (fl 0) ((List.range' 1 n).map (fun i => (nmL i, fl i))) := by
  rw [loose_is fl n 0 false, Bool.false_or, loo_next]
  simp only [Nat.lt_irrefl, decide_false, Bool.and_false, Bool.or_false]
  unfold looK
  rw [List.range_eq_range']
  have : ∀ (l : List Nat), (∀ i ∈ l, i < n) → l.any (fun i => fl i && decide (i + 1 < n + 1)) = l.any fl := by
    intro l hl
    induction l with
    | nil => rfl
    | cons a r ih =>
      rw [List.any_cons, List.any_cons, ih (fun i hi => hl i (List.mem_cons_of_mem _ hi))]
      have : a + 1 < n + 1 := by have := hl a (List.mem_cons_self ..); omega
      simp [this]
  exact this _ (fun i hi => by have := (List.mem_range'_1.1 hi).2; omega)
theorem name_is (i : Nat) : Named (nmL i) := by
  refine ⟨_, _, rfl, ?_, ?_⟩
  · exact name_letter i _ (by simp [nmL])
  · exact name_letter i _ (by simp [nmL])
theorem list_ends (j : Nat) : ∀ (xs : List (Str × Bool)), (∀ y ∈ xs, Named y.1) → ∀ l ∈ listLs j xs, ∀ c ∈ l, notEnd c = true
  | [], _, l, hl => by cases hl
  | (x, g) :: r, h, l, hl => by
    have hx := h (x, g) (List.mem_cons_self ..)
    have hj : ∀ c ∈ listT j, notEnd c = true := by unfold listT; split <;> decide
    rcases List.mem_cons.1 hl with rfl | hl
    · intro c hc
      rcases List.mem_append.1 hc with q | q
      · exact hj c q
      · obtain ⟨a, b, rfl, ha, hb⟩ := hx
        simp only [List.mem_cons, List.not_mem_nil, or_false] at q
        unfold notEnd
        simp only [Bool.not_eq_true', Bool.or_eq_false_iff, beq_eq_false_iff_ne, ne_eq]
        rcases q with rfl | rfl | rfl
        · exact ⟨by decide, by decide⟩
        · omega
        · omega
    · rcases List.mem_append.1 hl with q | q
      · split at q
        · rw [List.mem_singleton.1 q]; intro c hc; cases hc
        · cases q
      · exact list_ends j r (fun y hy => h y (List.mem_cons_of_mem _ hy)) l q
theorem text_parse {j : Nat} (hj : j < 5) (n : Nat) : parseL (catT (listLs j (prL fl (n + 1)))) = (.cons { kind := 2, ordered := ordB (signT j), start := startT j, tight := !looK fl (n + 1) (n + 1) } (itemsB .nil ((List.range (n + 1)).map nmL)) .nil, []) := by
  have hp : prL fl (n + 1) = (nmL 0, fl 0) :: (List.range' 1 n).map (fun i => (nmL i, fl i)) := by
    unfold prL
    rw [List.range_eq_range', List.range'_succ, List.map_cons]
  have hall : ∀ y ∈ (List.range' 1 n).map (fun i => (nmL i, fl i)), Named y.1 := fun y hy => by
    obtain ⟨i, _, rfl⟩ := List.mem_map.1 hy
    exact name_is i
  have hl : lines (catT (listLs j (prL fl (n + 1)))) = listLs j (prL fl (n + 1)) := by
    have := lines_cat [] (by simp) [] (listLs j (prL fl (n + 1))) (list_ends j _ (fun y hy => by
      obtain ⟨i, _, rfl⟩ := List.mem_map.1 hy
      exact name_is i))
    rw [List.append_nil, show lines ([] : Str) = [] from rfl, List.append_nil] at this
    simpa using this
  unfold parseL
  rw [hl, hp, lists_parse hj (nmL 0) (fl 0) _ (name_is 0) hall, loo_all]
  congr 3
  rw [List.map_map, List.range_eq_range', List.range'_succ, List.map_cons]
  rfl
end

theorem nth_snoc : ∀ (K : Bs) (b : BI) (k : Bs), (K.snoc b k).nth K.len = some (b, k)
  | .nil, b, k => rfl
  | .cons a q r, b, k => nth_snoc r b k
theorem nth_snoc_lt : ∀ (K : Bs) (b : BI) (k : Bs) (i : Nat), i < K.len → (K.snoc b k).nth i = K.nth i
  | .nil, b, k, i, h => by simp [Bs.len] at h
  | .cons a q r, b, k, 0, h => rfl
  | .cons a q r, b, k, i + 1, h => nth_snoc_lt r b k i (by simp only [Bs.len] at h; omega)
theorem items_len : ∀ (xs : List Str) (K : Bs), (itemsB K xs).len = K.len + xs.length
  | [], K => rfl
  | x :: r, K => by rw [itemsB, items_len r, Bs.len_snoc, List.length_cons]; omega
theorem items_lt : ∀ (xs : List Str) (K : Bs) (i : Nat), i < K.len → (itemsB K xs).nth i = K.nth i
  | [], K, i, h => rfl
  | x :: r, K, i, h => by rw [itemsB, items_lt r _ i (by rw [Bs.len_snoc]; omega), nth_snoc_lt K _ _ i h]
theorem items_nth : ∀ (xs : List Str) (K : Bs) (i : Nat) (x : Str), xs[i]? = some x → (itemsB K xs).nth (K.len + i) = some ({ kind := 3 }, .cons { kind := 5, text := x } .nil .nil)
  | [], K, i, x, h => by cases h
  | y :: r, K, 0, x, h => by
    have : y = x := by simpa using h
    subst this
    rw [itemsB, Nat.add_zero, items_lt r _ K.len (by rw [Bs.len_snoc]; omega), nth_snoc]
  | y :: r, K, i + 1, x, h => by
    have := items_nth r (K.snoc { kind := 3 } (.cons { kind := 5, text := y } .nil .nil)) i x (by simpa using h)
    rw [Bs.len_snoc] at this
    rw [itemsB, show K.len + (i + 1) = K.len + 1 + i by omega]
    exact this

/-- One list, as it lies in memory. -/
theorem list_cells {w : World} {v1 : Value} {b : BI} {k : Bs} {A S : Nat → Prop} (hk : KidsV w A S v1 (.cons b k .nil)) :
    ∃ g c a2 c2 ys, v1 = .slice (some ⟨g, 0, none⟩) 1 c ∧ (∀ j u, (biCells b (.slice a2 k.len c2))[j]? = some u → w.cell? ⟨g, j, none⟩ = some u) ∧ w.ownsRow 0 34 8 (.slice a2 k.len c2) k.len ys ∧ KidC w S k ys := by
  obtain ⟨xs, hrow, _, y1, y2, y3, rfl, r1, _, r3, e⟩ := hk
  have e : y3 = [] := e
  subst e
  rw [List.append_nil] at hrow
  obtain ⟨g, c, rfl, _, q⟩ := row_at hrow (Nat.succ_pos _)
  obtain ⟨a2, c2, rfl, _⟩ := row_slice r1
  exact ⟨g, c, a2, c2, y2, rfl, fun j u hu => q j u hu, r1, r3⟩
/-- An item of it. -/
theorem item_cells {w : World} {g2 n c2 : Nat} {k : Bs} {ys : List Value} {S : Nat → Prop} {i : Nat} {b d : BI} (hr : w.ownsRow 0 34 8 (.slice (some ⟨g2, 0, none⟩) n c2) n ys) (hk : KidC w S k ys) (hi : k.nth i = some (b, .cons d .nil .nil)) :
    ∃ g3 c3, (∀ j u, (biCells b (.slice (some ⟨g3, 0, none⟩) 1 c3))[j]? = some u → w.cell? ⟨g2, i * 8 + j, none⟩ = some u) ∧ w.cell? ⟨g3, 0, none⟩ = some (.int .i64 d.kind) ∧ w.cell? ⟨g3, 2, none⟩ = some (strV d.text) := by
  obtain ⟨v, zs, h1, h2, h3, h4⟩ := KidC.nth k ys i b _ hk hi
  obtain ⟨y1, y2, y3, rfl, _⟩ := h4
  obtain ⟨g3, c3, rfl, _, q⟩ := row_at h2 (Nat.succ_pos _)
  have hn : 0 < n := by
    rcases Nat.eq_zero_or_pos n with e | e
    · subst e
      have hl := hr.1
      have := (List.getElem?_eq_some_iff.1 (h1 0 _ rfl)).1
      omega
    · exact e
  obtain ⟨g, cap, he, _, q2⟩ := row_at hr hn
  cases he
  exact ⟨g3, c3, fun j u hu => q2 _ u (h1 j u hu), q 0 _ rfl, q 2 _ rfl⟩

theorem region_class8 {P : Program} {id : Nat} {Q : Exit → Act → World → Prop} {a : Act} {w : World} {l : List Oper} (C : World → Prop) (hm : P.follows .mixedOrders = true) (hB : Region.lexB .any l.toArray = true) (hC : C w.drew)
    (h : wpQuiet P l.toArray C (fun a' => ∀ w', C w' → Q .normal a' w') l a) : (Code.region id l.toArray true).wp P Q a w :=
  wp_region_quiet (C := C) hm hB hC (by simpa using h)

namespace blockLists

set_option maxHeartbeats 8000000 in
set_option maxRecDepth 60000 in
theorem walk (a0 : Option Addr) (b0 o0 len0 cap0 : Nat) (num0 : Nat → Int) (a1 : Int) (w1 : -9223372036854775808 ≤ a1 ∧ a1 ≤ 9223372036854775807) (w : World) (hm : MLen w) (e01 : 0 < len0 → a0 = some ⟨b0, o0, none⟩) (e02 : ∀ i, i < len0 → w.cell? ⟨b0, o0 + i, none⟩ = some (.int .i64 (num0 i))) (e03 : len0 ≤ maxLen) (e04 : ∀ i, -9223372036854775808 ≤ num0 i ∧ num0 i ≤ 9223372036854775807) :
    Calls Tryz.prog 4 #[.slice a0 len0 cap0, .int .i64 a1] w fun e w' => e = .returned (.bool true) ∧ Below w.heap.size w w' := by
  unfold maxLen at e03
  have hblt : 0 < len0 → b0 < w.heap.size := fun h => World.block_lt_of_cell? w ⟨b0, o0 + 0, none⟩ (e02 0 h)
  have E01 := (show Hid _ from e01)
  have E02 := (show Hid _ from e02)
  have HBL := (show Hid _ from hblt)
  clear e01 e02 hblt e04
  obtain ⟨pf, hpf⟩ : ∃ pf : Nat → Nat, ∀ i, pf i ≤ 3 ∧ bits .and .i64 (num0 i) 3 = (pf i : Int) := ⟨fun i => Classical.choose (and_bits7 3 (by omega) (num0 i)), fun i => Classical.choose_spec (and_bits7 3 (by omega) (num0 i))⟩
  have HPf := (show Hid _ from hpf)
  clear hpf
  obtain ⟨fl, hfl⟩ : ∃ fl : Nat → Bool, ∀ i, fl i = decide (pf i = 0) := ⟨_, fun _ => rfl⟩
  have HFl := (show Hid _ from hfl)
  clear hfl
  obtain ⟨n, hn⟩ : ∃ n : Nat, n = min len0 40 := ⟨_, rfl⟩
  have hn40 : n ≤ 40 := by omega
  have hnl : n ≤ len0 := by omega
  have hni : min (len0 : Int) 40 = (n : Int) := by omega
  have HSh : Hid (Calls Tryz.prog 7 #[] w fun e w' => e = .returned (.bool true) ∧ Below w.heap.size w w') := bshown_any w hm
  have HNm : Hid (∀ i : Nat, i < 40 → ∀ u, Calls Tryz.prog 15 #[.int .i64 (i : Int)] u fun e w' => e = .returned (strV (nmL i)) ∧ Below u.heap.size u w') := fun i hi u => bname_any i hi u
  obtain ⟨x1, hx10, hx11, F1⟩ := fold7 a1 w1.1 5 (by decide)
  obtain ⟨R, hR⟩ : ∃ R : Nat, x1 = (R : Int) := ⟨x1.toNat, by omega⟩
  subst hR
  have hR5 : R < 5 := by omega
  have hRi : (R : Int) < 5 := by omega
  have hR0 : (R : Int) ≥ 0 := by omega
  have HMk : Hid (∀ h, ([.string ⟨#[45, 32]⟩, .string ⟨#[43, 32]⟩, .string ⟨#[42, 32]⟩, .string ⟨#[53, 46, 32]⟩, .string ⟨#[48, 41, 32]⟩] : List Value)[R]'h = strV (listT R)) := fun h => by
    have hR' : R = 0 ∨ R = 1 ∨ R = 2 ∨ R = 3 ∨ R = 4 := by omega
    rcases hR' with rfl | rfl | rfl | rfl | rfl <;> rfl
  clear hn hx10 hx11
  rcases F1 with ⟨p1, ht1⟩ | ⟨p1, p1', ht1⟩
  all_goals
    obtain ⟨w11, w12⟩ := w1
    go_enter Tryz.func4, Tryz.ntmps4
    go_wp2_with (go_at_call 7; refine Calls.mono HSh.out ?_; rintro e u1 ⟨rfl, hb1⟩; have HB1 := (show Hid _ from hb1); clear hb1)
    rw [HMk.out]
    have HBW : Hid (Below w.heap.size w (u1.alloc (.cells #[.string ⟨#[45, 32]⟩, .string ⟨#[43, 32]⟩, .string ⟨#[42, 32]⟩, .string ⟨#[53, 46, 32]⟩, .string ⟨#[48, 41, 32]⟩] 9))) := HB1.out.alloc HB1.out.size _
    clear HMk HSh
    have hTl := fun k => text_len fl R k
    have HTl := (show Hid _ from hTl)
    have HTn := (show Hid _ from fun k => text_next fl R k)
    have HLn := (show Hid _ from fun k => loo_next fl n k)
    have hml : (listT R).length ≤ 3 := by unfold listT; split <;> decide
    clear hTl
    go_loopw [7, 9, 10] (fun s lo i wr => ∃ k : Nat, i = .int .i64 (k : Int) ∧ k ≤ n ∧ s = strV (catT (listLs R (prL fl k))) ∧ lo = .bool (looK fl n k) ∧ Hid (Below w.heap.size w wr)) (fun _ _ i _ => n - (intOf i).toNat)
    case atStart => exact ⟨0, rfl, Nat.zero_le _, rfl, rfl, HBW⟩
    case round =>
      obtain ⟨k, rfl, hk, rfl, rfl, HWr⟩ := hrel
      by_cases hlt : k < n
      · have hlt' : (k : Int) < (n : Int) := by omega
        have hlt2 : (k : Int) < (len0 : Int) := by omega
        have hao' := E01.out (by omega)
        subst hao'
        have hck : ∀ u, Below w.heap.size w u → u.cell? ⟨b0, o0 + k, none⟩ = some (.int .i64 (num0 k)) := fun u hu => (hu.cell (p := ⟨b0, o0 + k, none⟩) (HBL.out (by omega))).trans (E02.out k (by omega))
        have HCk := (show Hid _ from hck)
        obtain ⟨hp3, hp⟩ := HPf.out k
        have hfk := HFl.out k
        have HN := (show Hid _ from HNm.out k (by omega))
        have hL := HTl.out k
        have HT' := (show Hid _ from HTn.out k)
        have HL' := (show Hid _ from HLn.out k)
        generalize catT (listLs R (prL fl k)) = TT at *
        generalize looK fl n k = LO at *
        have hnl3 : (nmL k).length = 3 := rfl
        generalize nmL k = NK at *
        generalize listT R = MK at *
        have d1 := sadd TT MK (by omega)
        have d2 := sadd (TT ++ MK) NK (by rw [List.length_append]; omega)
        have d3 := sadd (TT ++ MK ++ NK) [10] (by simp only [List.length_append, List.length_cons, List.length_nil]; omega)
        have d4 := sadd (TT ++ MK ++ NK ++ [10]) [10] (by simp only [List.length_append, List.length_cons, List.length_nil]; omega)
        generalize hT2 : TT ++ MK = T2 at *
        generalize hT3 : T2 ++ NK = T3 at *
        generalize hT4 : T3 ++ [10] = T4 at *
        generalize hT5 : T4 ++ [10] = T5 at *
        have HT5 := (show Hid _ from hT5)
        clear hT2 hT3 hT4 hT5 hck
        by_cases hz : pf k = 0
        · have hft : fl k = true := by rw [hfk]; simp [hz]
          have hp0 : bits .and .i64 (num0 k) 3 = 0 := by rw [hp, hz]; rfl
          rw [hft, if_pos rfl] at HT'
          rw [hft, Bool.true_and] at HL'
          clear hp hfk hz hp3 hft
          by_cases hkn : k + 1 < n
          · have hki : (k : Int) < (n : Int) - 1 := by omega
            rw [decide_eq_true hkn, Bool.or_true] at HL'
            cases LO
            all_goals
              go_wp2_with (go_at_call 15; refine Calls.mono (HN.out _) ?_; rintro e u2 ⟨rfl, hb2⟩; have HB2 : Hid (Below w.heap.size w u2) := HWr.out.trans (hb2.mono HWr.out.size); have hc2 := HCk.out u2 HB2.out; clear hb2)
              go_roundw
              case rel => exact ⟨k + 1, by go_num, by omega, by rw [HT'.out, HT5.out], by rw [HL'.out] <;> first | rfl | rw [decide_eq_false (by omega)], HB2⟩
              case measure => simp [intOf]; omega
          · have hki : ¬ (k : Int) < (n : Int) - 1 := by omega
            rw [decide_eq_false hkn, Bool.or_false] at HL'
            cases LO
            all_goals
              go_wp2_with (go_at_call 15; refine Calls.mono (HN.out _) ?_; rintro e u2 ⟨rfl, hb2⟩; have HB2 : Hid (Below w.heap.size w u2) := HWr.out.trans (hb2.mono HWr.out.size); have hc2 := HCk.out u2 HB2.out; clear hb2)
              go_roundw
              case rel => exact ⟨k + 1, by go_num, by omega, by rw [HT'.out, HT5.out], by rw [HL'.out] <;> first | rfl | rw [decide_eq_false (by omega)], HB2⟩
              case measure => simp [intOf]; omega
        · have hft : fl k = false := by rw [hfk]; simp [hz]
          have hp0 : ¬ (pf k : Int) = 0 := by omega
          have hpb : ((pf k : Int) == 0) = false := by simpa using hp0
          rw [hft] at HT' HL'
          simp only [Bool.false_eq_true, if_false, List.append_nil, Bool.false_and, Bool.or_false] at HT' HL'
          clear hfk hz hp3 hft
          go_wp2_with (go_at_call 15; refine Calls.mono (HN.out _) ?_; rintro e u2 ⟨rfl, hb2⟩; have HB2 : Hid (Below w.heap.size w u2) := HWr.out.trans (hb2.mono HWr.out.size); have hc2 := HCk.out u2 HB2.out; clear hb2)
          go_roundw
          case rel => exact ⟨k + 1, by go_num, by omega, by rw [HT'.out], by rw [HL'.out], HB2⟩
          case measure => simp [intOf]; omega
      · have hge : ¬ (k : Int) < (n : Int) := by omega
        have hkn : k = n := by omega
        subst hkn
        have hle := HTl.out k
        have HPa : Hid (∀ u, MLen u → Calls Tryz.prog 11 #[strV (catT (listLs R (prL fl k)))] u fun e w' => ∃ v1 v2, e = .returned (.tuple #[v1, v2]) ∧ KidsV w' (fun g => u.heap.size ≤ g) (fun g => u.heap.size ≤ g) v1 (parseL (catT (listLs R (prL fl k)))).1 ∧ w'.ownsRow 0 41 3 v2 (parseL (catT (listLs R (prL fl k)))).2.length (defCs (parseL (catT (listLs R (prL fl k)))).2) ∧ Below u.heap.size u w') := fun u hM => (bparse_any _ (by omega) u hM).mono fun e w' ⟨v1, v2, q1, q2, q3, _, q5⟩ => ⟨v1, v2, q1, q2, q3, q5⟩
        have HP := (show Hid _ from HPa.out wr (hm.below HWr.out))
        clear HTl HTn HLn HPf HFl HPa E01 E02 HBL hge hle hlt
        rcases Nat.eq_zero_or_pos k with hk0 | hk0
        · subst hk0
          have hp0 : parseL (catT (listLs R (prL fl 0))) = (.nil, []) := rfl
          rw [hp0] at HP
          generalize catT (listLs R (prL fl 0)) = TT at *
          go_wp2_with (go_at_call 11; refine Calls.mono HP.out ?_; rintro e u2 ⟨v1, v2, rfl, k1, k2, hb2⟩; obtain ⟨xs, r1, _, _⟩ := k1; obtain ⟨va, vc, rfl, _⟩ := row_slice r1; simp only [Bs.len]; have HB2 : Hid (Below w.heap.size w u2) := HWr.out.trans (hb2.mono HWr.out.size); clear r1 k2 hb2)
          go_ret
          exact ⟨rfl, HB2.out⟩
        · obtain ⟨N, hN⟩ : ∃ N, k = N + 1 := ⟨k - 1, by omega⟩
          have hpp : parseL (catT (listLs R (prL fl k))) = (.cons { kind := 2, ordered := ordB (signT R), start := startT R, tight := !looK fl k k } (itemsB .nil ((List.range k).map nmL)) .nil, []) := by rw [hN]; exact text_parse fl hR5 N
          rw [hpp] at HP
          have hnz : ¬ (k : Int) = 0 := by omega
          have hnb : ((k : Int) == 0) = false := by simpa using hnz
          generalize catT (listLs R (prL fl k)) = TT at *
          generalize looK fl k k = LO at *
          have HNt := (show Hid _ from fun (i : Nat) (hi : i < k) => items_nth ((List.range k).map nmL) .nil i (nmL i) (by rw [List.getElem?_map, List.getElem?_range hi]; rfl))
          have hil : (itemsB .nil ((List.range k).map nmL)).len = k := by rw [items_len]; simp [Bs.len]
          generalize itemsB .nil ((List.range k).map nmL) = KK at *
          clear hpp hN hni hnl
          have HK40 := (show Hid _ from hn40)
          clear hn40
          go_wp2_with (go_at_call 11; refine Calls.mono HP.out ?_; rintro e u2 ⟨v1, v2, rfl, k1, k2, hb2⟩; have HB2 : Hid (Below w.heap.size w u2) := HWr.out.trans (hb2.mono HWr.out.size); obtain ⟨g, c, a2, c2, ys, rfl, hcl, hrow, hkc⟩ := list_cells k1; obtain ⟨da, dc, rfl, _⟩ := row_slice k2; rw [hil] at hcl hrow; obtain ⟨g2, cp2, hge2, _, hcell⟩ := row_at hrow hk0; cases hge2; have HRow := (show Hid _ from hrow); have HKc := (show Hid _ from hkc); have y0 := hcl 0 (.int .i64 2) rfl; have y4 := hcl 4 (.bool (ordB (signT R))) rfl; have y5 := hcl 5 (.bool (!LO)) rfl; have y6 := hcl 6 (.int .i64 (startT R)) rfl; have HG := (show Hid (g < u2.heap.size) from World.block_lt_of_cell? u2 ⟨g, 0, none⟩ y0); have y7 := hcl 7 (.slice (some ⟨g2, 0, none⟩) k c2) rfl; clear hb2 k1 k2 hcl hrow hkc hcell)
          have Z : ∀ (j : Nat) (x : Value), u2.cell? ⟨g, j, none⟩ = some x → u2.drew.cell? ⟨g, j, none⟩ = some x := fun j x h => h
          have ZA : ∀ (o : Obj) (j : Nat) (x : Value), u2.cell? ⟨g, j, none⟩ = some x → (u2.alloc o).drew.cell? ⟨g, j, none⟩ = some x := fun o j x h => (Below.cell (cur.below_drewN ((Below.refl u2.heap.size u2).alloc (Nat.le_refl _) o) 1) (p := ⟨g, j, none⟩) HG.out).trans h
          have z0 := Z 0 _ y0
          have z4 := Z 4 _ y4
          have z5 := Z 5 _ y5
          have z6 := Z 6 _ y6
          have z7 := Z 7 _ y7
          have za6 := fun o => ZA o 6 _ y6
          clear Z ZA y0 y4 y5 y6 y7
          have hor : ordB (signT R) = decide (2 < (R : Int)) := by
            have hR' : R = 0 ∨ R = 1 ∨ R = 2 ∨ R = 3 ∨ R = 4 := by omega
            rcases hR' with rfl | rfl | rfl | rfl | rfl <;> rfl
          have hst : ∀ h, ([.int .i64 0, .int .i64 0, .int .i64 0, .int .i64 5, .int .i64 0] : List Value)[R]'h = .int .i64 (startT R) := fun h => by
            have hR' : R = 0 ∨ R = 1 ∨ R = 2 ∨ R = 3 ∨ R = 4 := by omega
            rcases hR' with rfl | rfl | rfl | rfl | rfl <;> rfl
          rw [hor] at z4
          clear hor
          go_big_region
          have HV : Hid (Below u2.heap.size u2 (u2.alloc (.cells #[.int .i64 0, .int .i64 0, .int .i64 0, .int .i64 5, .int .i64 0] 3)).drew) := cur.below_drewN ((Below.refl u2.heap.size u2).alloc (Nat.le_refl _) _) 1
          clear z0 z4 z5 z6 za6 hst
          generalize (u2.alloc (.cells #[.int .i64 0, .int .i64 0, .int .i64 0, .int .i64 5, .int .i64 0] 3)).drew = V at *
          have hG := HG.out
          go_wp2
          go_loopw [13] (fun i wr2 => ∃ j : Nat, i = .int .i64 (j : Int) ∧ j ≤ k ∧ Hid (Below u2.heap.size u2 wr2)) (fun i _ => k - (intOf i).toNat)
          case atStart => exact ⟨0, rfl, Nat.zero_le _, HV⟩
          case round =>
            obtain ⟨j, rfl, hj, HJ⟩ := hrel
            by_cases hjl : j < k
            · have hjl' : (j : Int) < (k : Int) := by omega
              have HJL := (show Hid _ from hjl)
              have hj4 : (j : Int) < 40 := by have := HK40.out; omega
              obtain ⟨g3, c3, hc8, hc0, hc2⟩ := item_cells HRow.out HKc.out (by have := HNt.out j hjl; rwa [show Bs.nil.len = 0 from rfl, Nat.zero_add] at this)
              have HKp : Hid (∀ (b : Nat) (t : Nat) (x : Value), u2.cell? ⟨b, t, none⟩ = some x → wr.cell? ⟨b, t, none⟩ = some x) := fun b t x h => (HJ.out.cell (p := ⟨b, t, none⟩) (World.block_lt_of_cell? u2 ⟨b, t, none⟩ h)).trans h
              have y7 : wr.cell? ⟨g, 7, none⟩ = some (.slice (some ⟨g2, 0, none⟩) k c2) := HKp.out g 7 _ z7
              have x0 : wr.cell? ⟨g2, j * 8, none⟩ = some (.int .i64 3) := HKp.out _ _ _ (hc8 0 _ rfl)
              have x1 : wr.cell? ⟨g2, j * 8 + 1, none⟩ = some (.int .i64 0) := HKp.out _ _ _ (hc8 1 _ rfl)
              have x2 : wr.cell? ⟨g2, j * 8 + 2, none⟩ = some (.string ⟨#[]⟩) := HKp.out _ _ _ (hc8 2 _ rfl)
              have x3 : wr.cell? ⟨g2, j * 8 + 3, none⟩ = some (.string ⟨#[]⟩) := HKp.out _ _ _ (hc8 3 _ rfl)
              have x4 : wr.cell? ⟨g2, j * 8 + 4, none⟩ = some (.bool false) := HKp.out _ _ _ (hc8 4 _ rfl)
              have x5 : wr.cell? ⟨g2, j * 8 + 5, none⟩ = some (.bool false) := HKp.out _ _ _ (hc8 5 _ rfl)
              have x6 : wr.cell? ⟨g2, j * 8 + 6, none⟩ = some (.int .i64 0) := HKp.out _ _ _ (hc8 6 _ rfl)
              have x7 : wr.cell? ⟨g2, j * 8 + 7, none⟩ = some (.slice (some ⟨g3, 0, none⟩) 1 c3) := HKp.out _ _ _ (hc8 7 _ rfl)
              have y30 := HKp.out g3 0 _ hc0
              have y32 := HKp.out g3 2 _ hc2
              have hg3 := World.block_lt_of_cell? wr ⟨g3, 0, none⟩ y30
              have HN := (show Hid _ from HNm.out j (by have := HK40.out; omega))
              generalize nmL j = NK at *
              have HCB : Hid (∀ o, Below wr.heap.size wr (wr.alloc o)) := fun o => (Below.refl _ _).alloc (Nat.le_refl _) o
              have HNB := (show Hid _ from new_blk wr #[.int .i64 3, .int .i64 0, .string ⟨#[]⟩, .string ⟨#[]⟩, .bool false, .bool false, .int .i64 0, .slice (some ⟨g3, 0, none⟩) 1 c3] 34)
              have HY : Hid (wr.cell? ⟨g3, 0, none⟩ = some (.int .i64 5) ∧ wr.cell? ⟨g3, 2, none⟩ = some (strV NK)) := ⟨y30, y32⟩
              clear hc8 hc0 hc2 y30 y32 HKp
              go_wp2
              generalize hV1 : wr.alloc (.cells #[.int .i64 3, .int .i64 0, .string ⟨#[]⟩, .string ⟨#[]⟩, .bool false, .bool false, .int .i64 0, .slice (some ⟨g3, 0, none⟩) 1 c3] 34) = V1 at *
              have HB1 : Hid (Below wr.heap.size wr V1) := by show Below _ _ _; rw [← hV1]; exact HCB.out _
              have hlt1 : wr.heap.size < V1.heap.size := by rw [← hV1]; simp
              have w0 := fun u : BwW V1 => cell_blk (u.blk HNB.out) (i := 0) rfl
              have w7 := fun u : BwW V1 => cell_blk (u.blk HNB.out) (i := 7) rfl
              have w30 := fun u : BwW V1 => (((HB1.out.trans (u.is.mono HB1.out.size)).cell (p := ⟨g3, 0, none⟩) hg3).trans HY.out.1)
              have w32 := fun u : BwW V1 => (((HB1.out.trans (u.is.mono HB1.out.size)).cell (p := ⟨g3, 2, none⟩) hg3).trans HY.out.2)
              simp only [List.getElem_toArray, List.getElem_cons_zero, List.getElem_cons_succ] at w0 w7
              have QN : Hid (∀ u : BwW V1, Calls Tryz.prog 15 #[.int .i64 (j : Int)] u.wo fun e w' => e = .returned (strV NK) ∧ ∃ u' : BwW V1, w' = u'.wo) := fun u => (HN.out u.wo).mono fun e w' q => ⟨q.1, BwW.of (u.is.trans (q.2.mono u.is.size)), rfl⟩
              clear x0 x1 x2 x3 x4 x5 x6 x7 hV1 HNB HY hg3
              refine region_class8 (fun w' => ∃ u : BwW V1, w' = u.wo) (by kernel_rfl) (by kernel_rfl) (BwW.first V1) ?_
              haveI := BwW.some V1
              repeat (go_big_quiet_step ((go_at_call 15; exact QN.out _)))
              refine wpQuiet_nil ?_
              intro _ hw'
              obtain ⟨u, hu⟩ := hw'
              subst hu
              have HU := (show Hid (Below u2.heap.size u2 u.wo) from HJ.out.trans ((HB1.out.trans (u.is.mono HB1.out.size)).mono HJ.out.size))
              clear w0 w7 w30 w32 QN
              go_wp2
              go_roundw
              case rel => exact ⟨j + 1, by go_num, HJL.out, HU⟩
              case measure => have := HJL.out; simp [intOf]; omega
            · have hjl' : ¬ (j : Int) < (k : Int) := by omega
              go_wp2
              go_ret
              exact ⟨rfl, HB2.out.trans (HJ.out.mono HB2.out.size)⟩

end blockLists
end Go.Proofs.YtcbojffcnlkejaaGreatDoor
