/- Several texts in one. -/
import Derived.Test.YtcbojffcnlkejaaGreatDoorG50
import Derived.Test.YtcbojffcnlkejaaGreatDoorH07
import Derived.Laws.Strings3
set_option linter.unusedVariables false
/- What the laws' texts are put together of. -/
namespace Go.Proofs.YtcbojffcnlkejaaGreatDoor
open Go.RowKit

theorem sadd (A B : Str) (h : A.length + B.length ≤ 9223372036854775000) : ∀ w, (Op.stringOp .add (ByteArray.mk A.toArray) (ByteArray.mk B.toArray)).run Tryz.prog w = .ok (.string ⟨(A ++ B).toArray⟩) w := by
  intro w
  rw [← cat_eq]
  exact run_string_add_sum (w := w) _ _ (by rw [size_list, size_list]; omega)

/-- What the lines of a text are like. -/
theorem lines_ok (l : Str) : (∀ x ∈ lines l, ∀ c ∈ x, notEnd c = true) ∧ (∀ x ∈ lines l, x.length ≤ l.length) ∧ (lines l).length ≤ l.length := by
  have key : ∀ (f i : Nat), ∀ x ∈ linesF l f i, (∀ c ∈ x, notEnd c = true) ∧ x.length ≤ l.length := by
    intro f
    induction f with
    | zero => intro i x hx; cases hx
    | succ f ih =>
      intro i x hx
      simp only [linesF] at hx
      split at hx
      · rcases List.mem_cons.1 hx with q | q
        · subst q
          constructor
          · intro c hc
            exact List.all_eq_true.1 (List.all_takeWhile (p := notEnd) (l := l.drop i)) c hc
          · have h1 := (List.takeWhile_prefix (p := notEnd) (l := l.drop i)).length_le
            rw [List.length_drop] at h1
            omega
        · exact ih _ x q
      · cases hx
  exact ⟨fun x hx => (key _ _ x hx).1, fun x hx => (key _ _ x hx).2, linesF_le l _ _⟩

theorem beh_of_spaces : ∀ (x : Str), (∀ c ∈ x, c ≠ 9) → spacesL x = false → beh x ≠ []
  | [], _, h => by cases h
  | a :: t, h9, h => by
    unfold beh
    split
    · rename_i hb
      have ha : a = 32 := by
        rcases (isB_iff a).1 hb with q | q
        · exact q
        · exact absurd q (h9 a (List.mem_cons_self ..))
      subst ha
      exact beh_of_spaces t (fun c hc => h9 c (List.mem_cons_of_mem _ hc)) (by simpa [spacesL] using h)
    · simp

theorem quoted_ok {ls : List Str} (h : quotedL ls = true) : ∀ x ∈ ls, ∀ c ∈ x, c ≠ 9 := by
  intro x hx c hc
  unfold quotedL at h
  have := List.all_eq_true.1 (List.all_eq_true.1 h x hx) c hc
  simpa using this

abbrev indT (ls : List Str) : Str := ls.flatMap (fun x => [32, 32, 32, 32] ++ x ++ [10])
abbrev catT (ls : List Str) : Str := ls.flatMap (fun x => x ++ [10])
def fenceL1 (c : UInt8) : Bool := c == 96 || c == 126
def closeT (ls : List Str) : Bool := ls.any (fun x => x.any fenceL1)

theorem catT_len : ∀ (ls : List Str) (m : Nat), (∀ x ∈ ls, x.length ≤ m) → (catT ls).length ≤ ls.length * (m + 1) ∧ (indT ls).length ≤ ls.length * (m + 5)
  | [], m, _ => by simp
  | x :: r, m, h => by
    obtain ⟨h1, h2⟩ := catT_len r m (fun y hy => h y (List.mem_cons_of_mem _ hy))
    have h3 := h x (List.mem_cons_self ..)
    have e1 : (catT (x :: r)).length = x.length + 1 + (catT r).length := by simp [catT]; omega
    have e2 : (indT (x :: r)).length = x.length + 5 + (indT r).length := by simp [indT]; omega
    rw [e1, e2, List.length_cons, Nat.succ_mul, Nat.succ_mul]
    omega

theorem cat_next {ls : List Str} {k : Nat} {z : Str} (h : ls[k]? = some z) : catT (ls.take (k + 1)) = catT (ls.take k) ++ z ++ [10] := by
  rw [List.take_add_one, h]
  simp [catT]

end Go.Proofs.YtcbojffcnlkejaaGreatDoor

/- Functions of this stage's laws: one, name; walked. -/
namespace Go.Proofs.YtcbojffcnlkejaaGreatDoor
open Go.RowKit

theorem bone_any (c : Bool) (w : World) : Calls Tryz.prog 17 #[.bool c] w fun e w' => e = .returned (.int .i64 (if c then 1 else 0)) ∧ w' = w := by
  cases c
  · go_enter Tryz.func17, Tryz.ntmps17
    go_wp2
    go_ret
    exact ⟨rfl, rfl⟩
  · go_enter Tryz.func17, Tryz.ntmps17
    go_wp2
    go_ret
    exact ⟨rfl, rfl⟩

set_option maxRecDepth 20000 in
theorem bname_any (i : Nat) (hi : i < 40) (w : World) : Calls Tryz.prog 15 #[.int .i64 (i : Int)] w fun e w' => e = .returned (strV (nmL i)) ∧ Below w.heap.size w w' := by
  obtain ⟨d, hd⟩ : ∃ d : Nat, d = i / 26 := ⟨_, rfl⟩
  obtain ⟨a, ha⟩ : ∃ a : Nat, a = d % 26 := ⟨_, rfl⟩
  obtain ⟨b, hb⟩ : ∃ b : Nat, b = i % 26 := ⟨_, rfl⟩
  have h1 : (i : Int).tdiv 26 = (d : Int) := by rw [Int.tdiv_eq_ediv_of_nonneg (by omega)]; omega
  have h2 : (d : Int).tmod 26 = (a : Int) := by rw [Int.tmod_eq_emod_of_nonneg (by omega)]; omega
  have h3 : (i : Int).tmod 26 = (b : Int) := by rw [Int.tmod_eq_emod_of_nonneg (by omega)]; omega
  have ha2 : (a : Int) < 26 := by omega
  have hd2 : (d : Int) < 26 := by omega
  have hb2 : (b : Int) < 26 := by omega
  have hn : nmL i = [110] ++ [UInt8.ofNat (97 + a), UInt8.ofNat (97 + b)] := by unfold nmL; rw [ha, hd, hb]; rfl
  rw [hn]
  have hlt : ∀ k : Nat, k < 26 → ((UInt8.ofNat (97 + k)).toNat : Int) = 97 + (k : Int) := fun k hk => by rw [UInt8.toNat_ofNat']; omega
  have hcl := conv_lit w [UInt8.ofNat (97 + a), UInt8.ofNat (97 + b)] #[.int .u8 (97 + (a : Int)), .int .u8 (97 + (b : Int))] 2 rfl (by
    show _ = #[Value.int .u8 ((UInt8.ofNat (97 + a)).toNat : Int), Value.int .u8 ((UInt8.ofNat (97 + b)).toNat : Int)]
    rw [hlt a (by omega), hlt b (by omega)])
  have hi2 : (i : Int) < 40 := by omega
  clear hd ha hb hn hlt
  obtain ⟨L, hL⟩ : ∃ L, L = [UInt8.ofNat (97 + a), UInt8.ofNat (97 + b)] := ⟨_, rfl⟩
  rw [← hL] at hcl ⊢
  have hs := sadd [110] L (by rw [hL]; show 1 + 2 ≤ _; omega)
  clear hL
  generalize [110] ++ L = T at *
  go_enter Tryz.func15, Tryz.ntmps15
  go_wp2
  go_ret
  exact ⟨rfl, (Below.refl _ _).alloc (Nat.le_refl _) _⟩

end Go.Proofs.YtcbojffcnlkejaaGreatDoor

/- BlockHeads: a heading is written in two ways; walked. -/
namespace Go.Proofs.YtcbojffcnlkejaaGreatDoor
open Go.RowKit
open cur (cell_blk)

theorem and_bits7 (m : Nat) (hm : m < 1000000) (z : Int) : ∃ n : Nat, n ≤ m ∧ bits .and .i64 z (m : Int) = (n : Int) := by
  have h0 : (BitVec.ofInt 64 (m : Int)).toNat = m := by
    rw [BitVec.toNat_ofInt]
    omega
  have h : (BitVec.ofInt 64 z &&& BitVec.ofInt 64 (m : Int)).toNat ≤ m := by
    rw [BitVec.toNat_and]
    exact Nat.le_trans Nat.and_le_right (by omega)
  refine ⟨(BitVec.ofInt 64 z &&& BitVec.ofInt 64 (m : Int)).toNat, h, ?_⟩
  show IntKind.i64.wrap (((BitVec.ofInt 64 z &&& BitVec.ofInt 64 (m : Int)).toNat : Nat) : Int) = _
  rw [IntKind.wrap_i64]
  omega

theorem cell_keeps {B : Nat} {u u' : World} (hb : Below B u u') {g : Nat} (hg : g < B) (i : Nat) : u'.cell? ⟨g, i, none⟩ = u.cell? ⟨g, i, none⟩ := by
  simp [World.cell?, hb.block g hg]

/-- The small letters of a text's front. -/
def lowB (c : UInt8) : Bool := decide (97 ≤ c.toNat) && decide (c.toNat ≤ 122)
def wordL (l : Str) (k : Nat) : Str := 119 :: (l.take k).filter lowB
theorem word_is (l : Str) (k : Nat) : Word (wordL l k) := ⟨⟨_, rfl⟩, fun c hc => by
  rcases List.mem_cons.1 hc with rfl | h
  · decide
  · have := (List.mem_filter.1 h).2
    simpa [lowB] using this⟩
theorem word_next {l : Str} {k : Nat} {z : UInt8} (h : l[k]? = some z) : wordL l (k + 1) = wordL l k ++ (if lowB z = true then [z] else []) := by
  unfold wordL
  rw [List.take_add_one, h, List.filter_append]
  cases hz : lowB z <;> simp [hz]
theorem word_len (l : Str) (k : Nat) : (wordL l k).length ≤ k + 1 := by
  have h1 := List.length_filter_le lowB (l.take k)
  rw [List.length_take] at h1
  unfold wordL
  rw [List.length_cons]
  omega
theorem word_ends {t : Str} (h : Word t) : ∀ c ∈ t, notEnd c = true := fun c hc => by
  have := h.letters c hc
  unfold notEnd
  simp only [Bool.not_eq_true', Bool.or_eq_false_iff, beq_eq_false_iff_ne, ne_eq]
  omega

theorem heads_one {t : Str} (ht : Word t) (c : UInt8) (lv : Nat) (hc : (c = 61 ∧ lv = 0) ∨ (c = 45 ∧ lv = 1)) (k : Nat) : parseL (t ++ [10] ++ List.replicate (k + 1) c) = (.cons { kind := 4, level := lv + 1, text := t } .nil .nil, []) := by
  unfold parseL
  rw [lines_part t [10] _ (word_ends ht) (.inl rfl), lines_last _ (fun x hx => by
    rw [List.eq_of_mem_replicate hx]
    rcases hc with ⟨rfl, _⟩ | ⟨rfl, _⟩ <;> decide) (by simp)]
  exact heads_under ht c lv hc k
theorem hash_ends {t : Str} (ht : Word t) (lv : Nat) : ∀ c ∈ hashT lv t, notEnd c = true := fun c hc => by
  rcases List.mem_append.1 hc with h | h
  · rw [List.eq_of_mem_replicate h]; decide
  · rcases List.mem_cons.1 h with rfl | h
    · decide
    · exact word_ends ht c h
theorem heads_two {t : Str} (ht : Word t) {lv : Nat} (hlv : lv = 0 ∨ lv = 1) : parseL (hashT lv t) = (.cons { kind := 4, level := lv + 1, text := t } .nil .nil, []) := by
  unfold parseL
  rw [lines_last _ (hash_ends ht lv) (by simp)]
  exact heads_hash ht hlv
theorem heads_three {t : Str} (ht : Word t) {lv : Nat} (hlv : lv = 0 ∨ lv = 1) : parseL ([112, 97, 114, 97, 10] ++ hashT lv t ++ [10, 112, 97, 114, 97]) = (.cons { kind := 5, text := [112, 97, 114, 97] } .nil (.cons { kind := 4, level := lv + 1, text := t } .nil (.cons { kind := 5, text := [112, 97, 114, 97] } .nil .nil)), []) := by
  have e : [112, 97, 114, 97, 10] ++ hashT lv t ++ [10, 112, 97, 114, 97] = [112, 97, 114, 97] ++ [10] ++ (hashT lv t ++ [10] ++ [112, 97, 114, 97]) := by simp
  unfold parseL
  rw [e, lines_part [112, 97, 114, 97] [10] _ (by decide) (.inl rfl), lines_part (hashT lv t) [10] _ (hash_ends ht lv) (.inl rfl), lines_last [112, 97, 114, 97] (by decide) (by simp)]
  exact heads_between ht hlv

theorem one_cells {w : World} {v1 : Value} {b : BI} {A S : Nat → Prop} (hk : KidsV w A S v1 (.cons b .nil .nil)) :
    ∃ g c ka kc, v1 = .slice (some ⟨g, 0, none⟩) 1 c ∧ g < w.heap.size ∧ ∀ j u, (biCells b (.slice ka 0 kc))[j]? = some u → w.cell? ⟨g, j, none⟩ = some u := by
  obtain ⟨xs, hrow, _, y1, y2, y3, rfl, r1, _, _, e⟩ := hk
  obtain ⟨ka, kc, rfl, _⟩ := row_slice r1
  have e : y3 = [] := e
  subst e
  rw [List.append_nil] at hrow
  obtain ⟨g, c, rfl, _, q⟩ := row_at hrow (Nat.succ_pos _)
  exact ⟨g, c, ka, kc, rfl, (World.ownsRow.lt hrow g rfl).2, fun j u hu => q j u hu⟩
theorem three_cells {w : World} {v1 : Value} {a b d : BI} {A S : Nat → Prop} (hk : KidsV w A S v1 (.cons a .nil (.cons b .nil (.cons d .nil .nil)))) :
    ∃ g c, v1 = .slice (some ⟨g, 0, none⟩) 3 c ∧ g < w.heap.size ∧ w.cell? ⟨g, 8, none⟩ = some (.int .i64 b.kind) ∧ w.cell? ⟨g, 10, none⟩ = some (strV b.text) ∧ w.cell? ⟨g, 18, none⟩ = some (strV d.text) := by
  obtain ⟨xs, hrow, _, y1, y2, y3, rfl, _, _, _, z1, z2, z3, rfl, _, _, _, x1, x2, x3, rfl, _⟩ := hk
  obtain ⟨g, c, rfl, _, q⟩ := row_at hrow (Nat.succ_pos _)
  exact ⟨g, c, rfl, (World.ownsRow.lt hrow g rfl).2, q 8 _ rfl, q 10 _ rfl, q 18 _ rfl⟩

namespace blockHeads

set_option maxHeartbeats 8000000 in
set_option maxRecDepth 60000 in
theorem walk (s0 : ByteArray) (w0 : s0.size ≤ 140737488351232) (a1 : Int) (w1 : -9223372036854775808 ≤ a1 ∧ a1 ≤ 9223372036854775807) (c2 : Bool) (w : World) (hm : MLen w) :
    Calls Tryz.prog 6 #[.string s0, .int .i64 a1, .bool c2] w fun e w' => e = .returned (.bool true) ∧ Below w.heap.size w w' := by
  have hs0 : Value.string s0 = strV s0.data.toList := by show _ = Value.string ⟨s0.data⟩; rfl
  rw [hs0]
  have hl0 : s0.data.toList.length ≤ 140737488351232 := by rw [len_data]; exact w0
  generalize s0.data.toList = l0 at *
  clear hs0
  obtain ⟨m, hm31, hmv⟩ := and_bits7 31 (by omega) a1
  have hmv : bits .and .i64 a1 31 = (m : Int) := hmv
  have HSh : Hid (Calls Tryz.prog 7 #[] w fun e w' => e = .returned (.bool true) ∧ Below w.heap.size w w') := bshown_any w hm
  obtain ⟨K, hK⟩ : ∃ K, K = min l0.length 200 := ⟨_, rfl⟩
  have HT := (show Hid _ from word_is l0 K)
  have hTl := word_len l0 K
  have hK2 : K ≤ 200 := by omega
  have HP : Hid (∀ (T : Str) (p : Bs × List Df) (u : World), T.length ≤ 1000 → parseL T = p → MLen u → Calls Tryz.prog 11 #[strV T] u fun e w' => ∃ v1 v2, e = .returned (.tuple #[v1, v2]) ∧ KidsV w' (fun g => u.heap.size ≤ g) (fun g => u.heap.size ≤ g) v1 p.1 ∧ Below u.heap.size u w') := fun T p u hT hp hM => (bparse_any T (by omega) u hM).mono fun e w' ⟨v1, v2, q1, q2, q3, _, q5⟩ => ⟨v1, v2, q1, hp ▸ q2, q5⟩
  obtain ⟨C, lv, hC, hlv, hcl⟩ : ∃ (C : UInt8) (lv : Nat), ((C = 61 ∧ lv = 0) ∨ (C = 45 ∧ lv = 1)) ∧ (lv = 0 ∨ lv = 1) ∧ (c2 = false ∧ C = 61 ∧ lv = 0 ∨ c2 = true ∧ C = 45 ∧ lv = 1) := by
    cases c2
    · exact ⟨61, 0, .inl ⟨rfl, rfl⟩, .inl rfl, .inl ⟨rfl, rfl, rfl⟩⟩
    · exact ⟨45, 1, .inr ⟨rfl, rfl⟩, .inr rfl, .inr ⟨rfl, rfl, rfl⟩⟩
  obtain ⟨hs, hhs, hhl⟩ : ∃ hs : Str, (∀ t, hashT lv t = hs ++ t) ∧ (lv = 0 ∧ hs = [35, 32] ∨ lv = 1 ∧ hs = [35, 35, 32]) := by
    rcases hlv with rfl | rfl
    · exact ⟨[35, 32], fun t => rfl, .inl ⟨rfl, rfl⟩⟩
    · exact ⟨[35, 35, 32], fun t => rfl, .inr ⟨rfl, rfl⟩⟩
  have e2 := heads_two HT.out hlv
  rw [hhs] at e2
  have e3 := heads_three HT.out hlv
  rw [hhs, ← List.append_assoc] at e3
  have HA : Hid (∀ u, MLen u → Calls Tryz.prog 11 #[strV (wordL l0 K ++ [10] ++ List.replicate (m + 1) C)] u fun e w' => ∃ g c ka kc v2, e = .returned (.tuple #[.slice (some ⟨g, 0, none⟩) 1 c, v2]) ∧ g < w'.heap.size ∧ Hid (∀ j x, (biCells { kind := 4, level := lv + 1, text := wordL l0 K } (.slice ka 0 kc))[j]? = some x → w'.cell? ⟨g, j, none⟩ = some x) ∧ Below u.heap.size u w') := fun u hM =>
    (HP.out _ _ u (by simp only [List.length_append, List.length_cons, List.length_nil, List.length_replicate]; omega) (heads_one HT.out C lv hC m) hM).mono fun e w' ⟨v1, v2, q1, q2, q3⟩ => by
      obtain ⟨g, c, ka, kc, rfl, hg, hcell⟩ := one_cells q2
      exact ⟨g, c, ka, kc, v2, q1, hg, hcell, q3⟩
  have HB : Hid (∀ u, MLen u → Calls Tryz.prog 11 #[strV (hs ++ wordL l0 K)] u fun e w' => ∃ g c ka kc v2, e = .returned (.tuple #[.slice (some ⟨g, 0, none⟩) 1 c, v2]) ∧ g < w'.heap.size ∧ Hid (∀ j x, (biCells { kind := 4, level := lv + 1, text := wordL l0 K } (.slice ka 0 kc))[j]? = some x → w'.cell? ⟨g, j, none⟩ = some x) ∧ Below u.heap.size u w') := fun u hM =>
    (HP.out _ _ u (by rw [List.length_append]; rcases hhl with ⟨_, rfl⟩ | ⟨_, rfl⟩ <;> (simp only [List.length_cons, List.length_nil]; omega)) e2 hM).mono fun e w' ⟨v1, v2, q1, q2, q3⟩ => by
      obtain ⟨g, c, ka, kc, rfl, hg, hcell⟩ := one_cells q2
      exact ⟨g, c, ka, kc, v2, q1, hg, hcell, q3⟩
  have HC : Hid (∀ u, MLen u → Calls Tryz.prog 11 #[strV ([112, 97, 114, 97, 10] ++ hs ++ wordL l0 K ++ [10, 112, 97, 114, 97])] u fun e w' => ∃ g c v2, e = .returned (.tuple #[.slice (some ⟨g, 0, none⟩) 3 c, v2]) ∧ g < w'.heap.size ∧ Hid (w'.cell? ⟨g, 8, none⟩ = some (.int .i64 4) ∧ w'.cell? ⟨g, 10, none⟩ = some (strV (wordL l0 K)) ∧ w'.cell? ⟨g, 18, none⟩ = some (.string ⟨#[112, 97, 114, 97]⟩)) ∧ Below u.heap.size u w') := fun u hM =>
    (HP.out _ _ u (by rcases hhl with ⟨_, rfl⟩ | ⟨_, rfl⟩ <;> (simp only [List.length_append, List.length_cons, List.length_nil]; omega)) e3 hM).mono fun e w' ⟨v1, v2, q1, q2, q3⟩ => by
      obtain ⟨g, c, rfl, hg, e1, e2, e3⟩ := three_cells q2
      exact ⟨g, c, v2, q1, hg, ⟨e1, e2, e3⟩, q3⟩
  clear HP hC hlv hhs e2 e3
  have HOne : Hid (∀ u, Calls Tryz.prog 17 #[.bool c2] u fun e w' => e = .returned (.int .i64 (if c2 then 1 else 0)) ∧ w' = u) := fun u => bone_any c2 u
  have HOq : Hid (∀ (U : World) (k : Nat), Calls Tryz.prog 17 #[.bool c2] (U.drewN k) fun e w' => e = .returned (.int .i64 (if c2 then 1 else 0)) ∧ ∃ m, w' = U.drewN m) := fun U k => (HOne.out _).mono fun e w' q => ⟨q.1, k, q.2⟩
  obtain ⟨CC, hCC⟩ : ∃ CC, CC = C := ⟨_, rfl⟩
  rw [← hCC] at HA
  rcases hcl with ⟨rfl, rfl, rfl⟩ | ⟨rfl, rfl, rfl⟩ <;> rcases hhl with ⟨hh, hh2⟩ | ⟨hh, hh2⟩ <;> first | (cases hh; done) | skip
  all_goals
    clear hh
    have hhl : hs.length ≤ 3 := by rw [hh2]; decide
    have HH2 := (show Hid _ from hh2)
    clear hh2
    have HCC := (show Hid _ from hCC)
    clear hCC
    simp only [if_true, if_false, Bool.false_eq_true] at HOne HOq
    go_enter Tryz.func6, Tryz.ntmps6
    go_wp2_with (go_at_call 7; refine Calls.mono HSh.out ?_; rintro e u1 ⟨rfl, hb1⟩; have HB1 := (show Hid _ from hb1); clear hb1)
    go_loopw [8, 9] (fun t i wr => ∃ k : Nat, i = .int .i64 (k : Int) ∧ k ≤ K ∧ t = strV (wordL l0 k) ∧ wr = u1) (fun _ i _ => K - (intOf i).toNat)
    case atStart => exact ⟨0, rfl, Nat.zero_le _, rfl, rfl⟩
    case round =>
      obtain ⟨k, rfl, hk, rfl, hw⟩ := hrel
      subst hw
      by_cases hlt : k < K
      · have hlt1 : (k : Int) < (l0.length : Int) := by omega
        have hlt2 : (k : Int) < 200 := by omega
        have hkl : k < l0.length := by omega
        obtain ⟨z, hz⟩ : ∃ z, l0[k]? = some z := ⟨_, List.getElem?_eq_getElem hkl⟩
        have hsz : k < (ByteArray.mk l0.toArray).size := by rw [size_list]; exact hkl
        have hby : (ByteArray.mk l0.toArray)[k]'hsz = z := by
          rw [byte_at, list_data, List.getD_eq_getElem?_getD, hz]
          rfl
        have hx : (ByteArray.mk l0.toArray).extract k (k + 1) = ⟨#[z]⟩ := by
          rw [extract_eq, list_data]
          have hd : l0.drop k = z :: l0.drop (k + 1) := by rw [List.drop_eq_getElem_cons hkl]; rw [(List.getElem?_eq_some_iff.1 hz).2]
          rw [hd, show k + 1 - k = 1 by omega]
          rfl
        have HN := (show Hid _ from word_next hz)
        have hwl := word_len l0 k
        generalize wordL l0 k = TT at *
        by_cases h1 : 97 ≤ z.toNat
        · have i1 : (97 : Int) ≤ (z.toNat : Int) := by omega
          by_cases h2 : z.toNat ≤ 122
          · have i2 : (z.toNat : Int) ≤ 122 := by omega
            have hlo : lowB z = true := by simp [lowB, h1, h2]
            have d1 := sadd TT [z] (by simp only [List.length_cons, List.length_nil]; omega)
            go_wp2
            go_roundw
            case rel => exact ⟨k + 1, by go_num, by omega, by rw [HN.out, if_pos hlo], by first | rfl | trivial⟩
            case measure => simp [intOf]; omega
          · have i2 : ¬ (z.toNat : Int) ≤ 122 := by omega
            have hlo : ¬ lowB z = true := by simp [lowB, h1, h2]
            go_wp2
            go_roundw
            case rel => exact ⟨k + 1, by go_num, by omega, by rw [HN.out, if_neg hlo, List.append_nil], by first | rfl | trivial⟩
            case measure => simp [intOf]; omega
        · have i1 : ¬ (97 : Int) ≤ (z.toNat : Int) := by omega
          have hlo : ¬ lowB z = true := by simp [lowB, h1]
          go_wp2
          go_roundw
          case rel => exact ⟨k + 1, by go_num, by omega, by rw [HN.out, if_neg hlo, List.append_nil], by first | rfl | trivial⟩
          case measure => simp [intOf]; omega
      · have hkK : k = K := by omega
        subst hkK
        have hex : (¬ (k : Int) < (l0.length : Int)) ∨ ((k : Int) < (l0.length : Int) ∧ ¬ (k : Int) < 200) := by omega
        clear hK hk hlt w0 hl0
        generalize wordL l0 k = T at *
        have d1 := sadd T [10] (by simp only [List.length_cons, List.length_nil]; omega)
        rcases hex with hex | ⟨hex, hex2⟩
        all_goals
          go_wp2
          go_loopw [10, 11] (fun t i wr2 => ∃ j : Nat, i = .int .i64 (j : Int) ∧ j ≤ m + 1 ∧ t = strV (List.replicate j CC) ∧ Hid (Below w.heap.size w wr2)) (fun _ i _ => m + 1 - (intOf i).toNat)
          case atStart => exact ⟨0, rfl, Nat.zero_le _, rfl, HB1⟩
          case round =>
            obtain ⟨j, rfl, hj, rfl, HBj⟩ := hrel
            by_cases hjm : j ≤ m
            · have hji : (j : Int) ≤ (m : Int) := by omega
              have HR : Hid (List.replicate (j + 1) CC = List.replicate j CC ++ [CC]) := List.replicate_succ'
              have hRl : (List.replicate j CC).length ≤ 40 := by rw [List.length_replicate]; omega
              generalize List.replicate j CC = LL at *
              have d2 := sadd LL [61] (by simp only [List.length_cons, List.length_nil]; omega)
              have d3 := sadd LL [45] (by simp only [List.length_cons, List.length_nil]; omega)
              go_wp2_with (go_at_call 17; refine (HOne.out _).mono ?_; rintro e u2 ⟨rfl, hw⟩; subst u2)
              go_roundw
              case rel => exact ⟨j + 1, by go_num, by omega, by rw [HR.out, HCC.out], HBj.out.alloc HBj.out.size _⟩
              case measure => simp [intOf]; omega
            · have hji : ¬ (j : Int) ≤ (m : Int) := by omega
              have hjj : j = m + 1 := by omega
              subst hjj
              have hRl : (List.replicate (m + 1) CC).length ≤ 40 := by rw [List.length_replicate]; omega
              generalize List.replicate (m + 1) CC = LL at *
              have d2 := sadd (T ++ [10]) LL (by simp only [List.length_append, List.length_cons, List.length_nil]; omega)
              have d3 := sadd hs T (by omega)
              have d4 := sadd [112, 97, 114, 97, 10] hs (by simp only [List.length_cons, List.length_nil]; omega)
              have d5 := sadd ([112, 97, 114, 97, 10] ++ hs) T (by simp only [List.length_append, List.length_cons, List.length_nil]; omega)
              have d6 := sadd ([112, 97, 114, 97, 10] ++ hs ++ T) [10, 112, 97, 114, 97] (by simp only [List.length_append, List.length_cons, List.length_nil]; omega)
              generalize T ++ [10] = T1a at *
              generalize T1a ++ LL = TT1 at *
              generalize hs ++ T = TT2 at *
              generalize [112, 97, 114, 97, 10] ++ hs = P1 at *
              generalize P1 ++ T = P2 at *
              generalize P2 ++ [10, 112, 97, 114, 97] = TT3 at *
              rw [HH2.out] at d3 d4
              go_wp2_with (first
                | (go_at_call 17; refine (HOne.out _).mono ?_; rintro e u2 ⟨rfl, hw⟩; subst u2)
                | (go_at_call_of 11 (Value.string (ByteArray.mk TT1.toArray)); refine Calls.mono (HA.out _ (hm.below HBj.out)) ?_; rintro e u5 ⟨ga, ca, kaa, kca, v2a, rfl, hga, HCa, hb5⟩; have HB5 : Hid (Below w.heap.size w u5) := HBj.out.trans (hb5.mono HBj.out.size); clear hb5)
                | (go_at_call_of 11 (Value.string (ByteArray.mk TT2.toArray)); refine Calls.mono (HB.out _ (hm.below (HB5.out.alloc HB5.out.size _))) ?_; rintro e u6 ⟨gb, cb, kab, kcb, v2b, rfl, hgb, HCb, hb6⟩; have HB6 : Hid (Below w.heap.size w u6) := (HB5.out.alloc HB5.out.size _).trans (hb6.mono (HB5.out.alloc HB5.out.size _).size); have HX6 : Hid (Below u5.heap.size u5 u6) := ((Below.refl _ u5).alloc (Nat.le_refl _) _).trans (hb6.mono ((Below.refl _ u5).alloc (Nat.le_refl _) _).size); clear hb6)
                | (go_at_call_of 11 (Value.string (ByteArray.mk TT3.toArray)); refine Calls.mono (HC.out _ (hm.below (HB6.out.alloc HB6.out.size _))) ?_; rintro e u7 ⟨gc, cc, v2c, rfl, hgc, HCc, hb7⟩; have HB7 : Hid (Below w.heap.size w u7) := (HB6.out.alloc HB6.out.size _).trans (hb7.mono (HB6.out.alloc HB6.out.size _).size); have hX7 : Below u6.heap.size u6 u7 := ((Below.refl _ u6).alloc (Nat.le_refl _) _).trans (hb7.mono ((Below.refl _ u6).alloc (Nat.le_refl _) _).size); have hXa : Below u5.heap.size u5 u7 := HX6.out.trans (hX7.mono HX6.out.size); clear hb7; have ya := (fun (j : Nat) (x : Value) hx => (cell_keeps hXa hga j).trans (HCa.out j x hx)); have yb := (fun (j : Nat) (x : Value) hx => (cell_keeps hX7 hgb j).trans (HCb.out j x hx)); have ya0 := ya 0 (.int .i64 4) rfl; (first | have ya1 := ya 1 (.int .i64 1) rfl | have ya1 := ya 1 (.int .i64 2) rfl); have ya2 := ya 2 (strV T) rfl; have ya3 := ya 3 (.string ⟨#[]⟩) rfl; have ya4 := ya 4 (.bool false) rfl; have ya5 := ya 5 (.bool false) rfl; have ya6 := ya 6 (.int .i64 0) rfl; have ya7 := ya 7 (.slice kaa 0 kca) rfl; have yb0 := yb 0 (.int .i64 4) rfl; (first | have yb1 := yb 1 (.int .i64 1) rfl | have yb1 := yb 1 (.int .i64 2) rfl); have yb2 := yb 2 (strV T) rfl; obtain ⟨yc8, yc10, yc18⟩ := HCc.out; have hnew := (fun (o : Obj) (n : Nat) => cur.below_drewN ((Below.refl u7.heap.size u7).alloc (Nat.le_refl _) o) n); have hgb7 : gb < u7.heap.size := Nat.lt_of_lt_of_le hgb hX7.size; have zb0 := (fun o n => (cell_keeps (hnew o n) hgb7 0).trans yb0); have zb1 := (fun o n => (cell_keeps (hnew o n) hgb7 1).trans yb1); have zb2 := (fun o n => (cell_keeps (hnew o n) hgb7 2).trans yb2); have zc8 := (fun o n => (cell_keeps (hnew o n) hgc 8).trans yc8); have zc10 := (fun o n => (cell_keeps (hnew o n) hgc 10).trans yc10); have zc18 := (fun o n => (cell_keeps (hnew o n) hgc 18).trans yc18); clear ya yb HCc hX7 hXa hnew yb0 yb1 yb2 yc8 yc10 yc18))
              go_quiet ((go_at_call 17; exact HOq.out _ _))
              go_wp2
              go_ret
              exact ⟨rfl, cur.below_drewN (HB7.out.alloc HB7.out.size _) _⟩

end blockHeads
end Go.Proofs.YtcbojffcnlkejaaGreatDoor
