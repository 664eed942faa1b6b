/- What escape's HTML and URL answer, of any text. -/
import Derived.Test.YtebnobhalffalaaEEntity
import Derived.Deep.RegionLaw
import Derived.Laws.BitsAllLaws
set_option linter.unusedVariables false
namespace Go.Proofs.Ytebnobhalffalaa
open Go.RowKit

/-- Bytes that a call owns. -/
abbrev OwnB (w : World) (B : Nat) (v : Value) (acc : List UInt8) : Prop := w.ownsRow B 5 1 v acc.length (Lib.byteCells acc)

theorem own_push {w : World} {B : Nat} {v : Value} {acc l : List UInt8} {n : Nat} {xs : List Value} (h : w.ownsRow B 5 1 v (acc.length + n) (Lib.byteCells acc ++ xs)) (hn : l.length = n) (hx : Lib.byteCells l = xs) : OwnB w B v (acc ++ l) := by
  subst hn hx
  show w.ownsRow _ _ _ _ (acc ++ l).length _
  rw [List.length_append, Lib.byteCells_append]
  exact h

/-- What is told of a function that writes bytes behind those that it is handed. -/
abbrev Wrote (B : Nat) (w : World) (acc l : List UInt8) (e : Ending) (w' : World) : Prop := ∃ v', e = .returned v' ∧ OwnB w' B v' (acc ++ l) ∧ Below B w w'

theorem below_drew {B : Nat} {w0 w : World} (h : Below B w0 w) : Below B w0 w.drew := h.trans ⟨rfl, rfl, rfl, Nat.le_refl _, fun k hk => rfl⟩

theorem byteCells_one (c : UInt8) : Lib.byteCells [c] = [.int .u8 (c.toNat : Int)] := by simp [Lib.byteCells]

set_option maxHeartbeats 1000000 in
set_option maxRecDepth 100000 in
theorem appendHTML_any (B : Nat) (v : Value) (acc : List UInt8) (c : UInt8) (w : World) (hown : OwnB w B v acc) (hlen : acc.length + 6 ≤ 140737488355328) (hB : B ≤ w.heap.size) :
    Calls Try.prog 19 #[v, .int .u8 (c.toNat : Int)] w (Wrote B w acc (htmlB c)) := by
  obtain ⟨i0, hi, hz0, hz1, hz2⟩ := info_parts info5
  have hb0 : Below B w w := Below.refl _ _
  unfold htmlB
  by_cases h1 : c.toNat = 38
  · have q1 : ((c.toNat : Int) == 38) = true := by rw [h1]; rfl
    rw [if_pos h1]
    clear h1
    go_enter Try.func19, Try.ntmps19
    go_wp2_with (at_builtin; refine Lib.wpList_append_own_string _ rfl _ _ 28 9 rfl B 5 i0 Try.underlying28 Try.underlying9 hi hz0 hz1 hz2 _ _ _ rfl hown ⟨#[38, 97, 109, 112, 59]⟩ rfl ?c1 ?c2 hB ?_)
    case c1 => unfold maxLen; show _ + 5 ≤ _; omega
    case c2 => show _ + 5 ≤ _; omega
    intro v' w2 hown' hgrow _
    go_wp2
    go_ret
    exact ⟨_, rfl, own_push (l := [38, 97, 109, 112, 59]) hown' rfl rfl, below_grown0 hb0 hB hown hgrow⟩
  have q1 : ((c.toNat : Int) == 38) = false := by simp; omega
  rw [if_neg h1]
  by_cases h2 : c.toNat = 60
  · have q2 : ((c.toNat : Int) == 60) = true := by rw [h2]; rfl
    rw [if_pos h2]
    clear h1 h2
    go_enter Try.func19, Try.ntmps19
    go_wp2_with (at_builtin; refine Lib.wpList_append_own_string _ rfl _ _ 28 9 rfl B 5 i0 Try.underlying28 Try.underlying9 hi hz0 hz1 hz2 _ _ _ rfl hown ⟨#[38, 108, 116, 59]⟩ rfl ?c1 ?c2 hB ?_)
    case c1 => unfold maxLen; show _ + 4 ≤ _; omega
    case c2 => show _ + 4 ≤ _; omega
    intro v' w2 hown' hgrow _
    go_wp2
    go_ret
    exact ⟨_, rfl, own_push (l := [38, 108, 116, 59]) hown' rfl rfl, below_grown0 hb0 hB hown hgrow⟩
  have q2 : ((c.toNat : Int) == 60) = false := by simp; omega
  rw [if_neg h2]
  by_cases h3 : c.toNat = 62
  · have q3 : ((c.toNat : Int) == 62) = true := by rw [h3]; rfl
    rw [if_pos h3]
    clear h1 h2 h3
    go_enter Try.func19, Try.ntmps19
    go_wp2_with (at_builtin; refine Lib.wpList_append_own_string _ rfl _ _ 28 9 rfl B 5 i0 Try.underlying28 Try.underlying9 hi hz0 hz1 hz2 _ _ _ rfl hown ⟨#[38, 103, 116, 59]⟩ rfl ?c1 ?c2 hB ?_)
    case c1 => unfold maxLen; show _ + 4 ≤ _; omega
    case c2 => show _ + 4 ≤ _; omega
    intro v' w2 hown' hgrow _
    go_wp2
    go_ret
    exact ⟨_, rfl, own_push (l := [38, 103, 116, 59]) hown' rfl rfl, below_grown0 hb0 hB hown hgrow⟩
  have q3 : ((c.toNat : Int) == 62) = false := by simp; omega
  rw [if_neg h3]
  by_cases h4 : c.toNat = 34
  · have q4 : ((c.toNat : Int) == 34) = true := by rw [h4]; rfl
    rw [if_pos h4]
    clear h1 h2 h3 h4
    go_enter Try.func19, Try.ntmps19
    go_wp2_with (at_builtin; refine Lib.wpList_append_own_string _ rfl _ _ 28 9 rfl B 5 i0 Try.underlying28 Try.underlying9 hi hz0 hz1 hz2 _ _ _ rfl hown ⟨#[38, 113, 117, 111, 116, 59]⟩ rfl ?c1 ?c2 hB ?_)
    case c1 => unfold maxLen; show _ + 6 ≤ _; omega
    case c2 => show _ + 6 ≤ _; omega
    intro v' w2 hown' hgrow _
    go_wp2
    go_ret
    exact ⟨_, rfl, own_push (l := [38, 113, 117, 111, 116, 59]) hown' rfl rfl, below_grown0 hb0 hB hown hgrow⟩
  have q4 : ((c.toNat : Int) == 34) = false := by simp; omega
  rw [if_neg h4]
  clear h1 h2 h3 h4
  go_enter Try.func19, Try.ntmps19
  go_wp2_with (at_builtin; refine wpList_append_own _ rfl _ _ 28 rfl B 5 i0 (.int .u8 0) 1 1 Try.underlying28 hi hz0 hz1 hz2 rfl (by decide) _ _ _ rfl (hown.alloc _) ⟨w.heap.size, 0, none⟩ 1 1 [.int .u8 (c.toNat : Int)] rfl rfl ?c1 ?c2 ?c3 ?c4 ?c5 ?_)
  case c1 => exact lit_cells w [.int .u8 (c.toNat : Int)] _
  case c2 => intro u hu; simp at hu; subst hu; rfl
  case c3 => unfold maxLen; omega
  case c4 => omega
  case c5 => simp; omega
  intro v' w2 hown' hgrow _
  go_wp2
  go_ret
  exact ⟨_, rfl, own_push (l := [c]) hown' rfl (byteCells_one c), below_grown hb0 hB hown hgrow⟩

/-- append onto a row that the call owns, as one step of a region that draws its order. -/
theorem step_append_own {P : Program} {ops : Array Oper} {o : Oper} {a : Act} {w : World} {K : Act → World → Prop} {Q : Exit → Act → World → Prop} {E : Prop}
    (hg : o.guard = none) (s x : Operand) (t : TypeId) (hop : o.op = Op.call { callee := Callee.builtin Builtin.append, args := #[s, x], argTypes := #[t, t] })
    (base : Nat) (e : TypeId) (i : TypeInfo) (z : Value) (size bytes : Nat) (h1 : P.underlying t = some (.slice e)) (h2 : P.info? e = some i) (h3 : i.zero = some z) (h4 : i.size = size) (h5 : i.bytes = bytes) (h6 : z.cells.size = size) (h7 : 0 < size)
    (v : Value) (n : Nat) (xs : List Value) (hs : a.eval s = v) (hown : w.ownsRow base e size v n xs)
    (ad : Addr) (m c : Nat) (news : List Value) (hx : a.eval x = .slice (some ad) m c) (hn : news.length = m * size) (hc : ∀ j u, news[j]? = some u → w.cell? (ad.add j) = some u) (h1c : ∀ u ∈ news, u.oneCell' = true)
    (b1 : n + m ≤ maxLen) (b2 : (n + m) * bytes ≤ 140737488355328) (hbase : base ≤ w.heap.size)
    (hK : ∀ v' w', w'.ownsRow base e size v' (n + m) (xs ++ news) → w.grownBy w' v.ownBlock → K (a.put o.dst v') w') :
    if Region.wanted o (yielded ops a.tmps) = true then Oper.wp P o a w K Q else E := by
  have hw : Region.wanted o (yielded ops a.tmps) = true := by simp [Region.wanted, hg]
  rw [if_pos hw]
  obtain ⟨v', w', hrun, r1, r2, _⟩ := run_append_own (P := P) w base t o.type e i z size bytes h1 h2 h3 h4 h5 h6 h7 v n xs hown ad m c news hn hc h1c b1 b2 hbase
  unfold Oper.wp
  simp [execOp, hop, resolve, invoke, builtin, hs, hx, hrun, Result.andThen]
  exact hK v' w' r1 r2

theorem hex_at (k : Nat) (h : k < 16) (h' : k < (ByteArray.mk #[48, 49, 50, 51, 52, 53, 54, 55, 56, 57, 65, 66, 67, 68, 69, 70]).size) : (ByteArray.mk #[48, 49, 50, 51, 52, 53, 54, 55, 56, 57, 65, 66, 67, 68, 69, 70])[k] = hexs.getD k 0 := byte_at _ _ h'

set_option maxHeartbeats 1000000 in
set_option maxRecDepth 100000 in
theorem appendURL_hex (B : Nat) (v : Value) (acc : List UInt8) (c : UInt8) (w : World) (hown : OwnB w B v acc) (hlen : acc.length + 6 ≤ 140737488355328) (hB : B ≤ w.heap.size)
    (hl : letterN c.toNat = false) (hd : digitN c.toNat = false) (hi : Lib.indexByte plainMarks c < 0) (hu : urlB c = [37, hexs.getD (c.toNat / 16) 0, hexs.getD (c.toNat % 16) 0]) (h38 : ((c.toNat : Int) == 38) = false) :
    Calls Try.prog 20 #[v, .int .u8 (c.toNat : Int)] w (Wrote B w acc (urlB c)) := by
  obtain ⟨i0, hi0, hz0, hz1, hz2⟩ := info_parts info5
  have cl := letter_any c.toNat
  have cd := digit_any c.toNat
  have ci := indexByte_any ⟨#[45, 95, 46, 33, 126, 42, 39, 40, 41, 59, 47, 63, 58, 64, 61, 43, 36, 44, 35, 37]⟩ (c.toNat : Int)
  rw [hl] at cl
  rw [hd] at cd
  have hic : Lib.indexByte (ByteArray.mk #[45, 95, 46, 33, 126, 42, 39, 40, 41, 59, 47, 63, 58, 64, 61, 43, 36, 44, 35, 37]).data.toList (c.toNat : Int).toNat.toUInt8 = Lib.indexByte plainMarks c := by simp [plainMarks]
  rw [hic] at ci
  rw [hu]
  generalize Lib.indexByte plainMarks c = ix at *
  have hge : decide ((0 : Int) ≤ ix) = false := by simp; omega
  clear hl hd hic hu
  have hc255 := c.toNat_lt
  have x0 : 0 ≤ (c.toNat : Int) / 16 := by omega
  have x1 : (c.toNat : Int) / 16 < 16 := by omega
  have hy : bits BinOp.and IntKind.u8 (c.toNat : Int) 15 = (c.toNat : Int) % 16 := by
    rw [u8_and _ _ (by omega) (by omega) (by omega) (by omega)]
    show ((c.toNat &&& (2 ^ 4 - 1) : Nat) : Int) = _
    rw [Nat.and_two_pow_sub_one_eq_mod]
    omega
  have y0 : 0 ≤ (c.toNat : Int) % 16 := by omega
  have y1 : (c.toNat : Int) % 16 < 16 := by omega
  go_enter Try.func20, Try.ntmps20
  go_wp2_with (first | (go_at_call 27; refine (cl _).mono ?_; rintro e w' ⟨rfl, rfl⟩) | (go_at_call 28; refine (cd _).mono ?_; rintro e w' ⟨rfl, rfl⟩) | (go_at_call 29; refine (ci _).mono ?_; rintro e w' ⟨rfl, rfl⟩))
  go_region_law (refine step_append_own rfl (.tmp 22) (.tmp 29) 28 rfl B 5 i0 (.int .u8 0) 1 1 Try.underlying28 hi0 hz0 hz1 hz2 rfl (by decide) v acc.length (Lib.byteCells acc) (by simp [Act.eval]) (World.ownsRow.alloc (w := w'.drew) hown _) ⟨w'.heap.size, 0, none⟩ 3 3 _ (by simp [Act.eval]) rfl (lit_cells w'.drew _ _) (by intro u hu; simp at hu; rcases hu with rfl | rfl | rfl <;> rfl) (by unfold maxLen; omega) (by omega) (by simp; omega) ?_; intro v' w2 hown' hgrow)
  all_goals
    go_wp2
    go_ret
    refine ⟨v', rfl, own_push (l := [37, hexs.getD (c.toNat / 16) 0, hexs.getD (c.toNat % 16) 0]) hown' rfl ?_, ?_⟩
    · rw [hex_at _ (by omega), hex_at _ (by omega)]
      simp only [Lib.byteCells, List.map_cons, List.map_nil, show ((c.toNat : Int) / 16).toNat = c.toNat / 16 by omega, show ((c.toNat : Int) % 16).toNat = c.toNat % 16 by omega]
      rfl
    · exact (below_drew ((Below.refl B w').alloc hB _)).grown hgrow (by simp; omega) (fun k hk => (hown.lt k hk).1)

theorem index_contains (c : UInt8) : ∀ l : List UInt8, (Lib.indexByte l c < 0) = (l.contains c = false)
  | [] => by simp [Lib.indexByte]
  | b :: l => by
    have ih := index_contains c l
    have hge := Lib.indexByte_ge l c
    unfold Lib.indexByte
    by_cases h : b = c
    · subst h; simp
    · have h' : ¬ c = b := fun e => h e.symm
      simp only [beq_iff_eq, h, if_false, List.contains_cons, beq_eq_false_iff_ne.2 h', Bool.false_or]
      rw [← ih]
      split
      · rename_i e; rw [e]
      · simp only [eq_iff_iff]; omega

set_option maxHeartbeats 1000000 in
set_option maxRecDepth 100000 in
theorem appendURL_amp (B : Nat) (v : Value) (acc : List UInt8) (c : UInt8) (w : World) (hown : OwnB w B v acc) (hlen : acc.length + 6 ≤ 140737488355328) (hB : B ≤ w.heap.size)
    (hl : letterN c.toNat = false) (hd : digitN c.toNat = false) (hi : Lib.indexByte plainMarks c < 0) (hu : urlB c = [38, 97, 109, 112, 59]) (h38 : ((c.toNat : Int) == 38) = true) :
    Calls Try.prog 20 #[v, .int .u8 (c.toNat : Int)] w (Wrote B w acc (urlB c)) := by
  obtain ⟨i0, hi0, hz0, hz1, hz2⟩ := info_parts info5
  have cl := letter_any c.toNat
  have cd := digit_any c.toNat
  have ci := indexByte_any ⟨#[45, 95, 46, 33, 126, 42, 39, 40, 41, 59, 47, 63, 58, 64, 61, 43, 36, 44, 35, 37]⟩ (c.toNat : Int)
  rw [hl] at cl
  rw [hd] at cd
  have hic : Lib.indexByte (ByteArray.mk #[45, 95, 46, 33, 126, 42, 39, 40, 41, 59, 47, 63, 58, 64, 61, 43, 36, 44, 35, 37]).data.toList (c.toNat : Int).toNat.toUInt8 = Lib.indexByte plainMarks c := by simp [plainMarks]
  rw [hic] at ci
  rw [hu]
  generalize Lib.indexByte plainMarks c = ix at *
  have hge : decide ((0 : Int) ≤ ix) = false := by simp; omega
  clear hl hd hic hu
  go_enter Try.func20, Try.ntmps20
  go_wp2_with (first | (go_at_call 27; refine (cl _).mono ?_; rintro e w' ⟨rfl, rfl⟩) | (go_at_call 28; refine (cd _).mono ?_; rintro e w' ⟨rfl, rfl⟩) | (go_at_call 29; refine (ci _).mono ?_; rintro e w' ⟨rfl, rfl⟩) | (at_builtin; refine Lib.wpList_append_own_string _ rfl _ _ 28 9 rfl B 5 i0 Try.underlying28 Try.underlying9 hi0 hz0 hz1 hz2 _ _ _ rfl hown ⟨#[38, 97, 109, 112, 59]⟩ rfl ?c1 ?c2 hB ?_))
  case c1 => unfold maxLen; show _ + 5 ≤ _; omega
  case c2 => show _ + 5 ≤ _; omega
  intro v' w2 hown' hgrow _
  go_wp2
  go_ret
  exact ⟨_, rfl, own_push (l := [38, 97, 109, 112, 59]) hown' rfl rfl, below_grown0 (Below.refl _ _) hB hown hgrow⟩

set_option maxHeartbeats 1000000 in
set_option maxRecDepth 100000 in
theorem appendURL_plain (B : Nat) (v : Value) (acc : List UInt8) (c : UInt8) (w : World) (hown : OwnB w B v acc) (hlen : acc.length + 6 ≤ 140737488355328) (hB : B ≤ w.heap.size)
    (hp : letterN c.toNat = true ∨ (letterN c.toNat = false ∧ digitN c.toNat = true) ∨ (letterN c.toNat = false ∧ digitN c.toNat = false ∧ 0 ≤ Lib.indexByte plainMarks c)) (hu : urlB c = [c]) :
    Calls Try.prog 20 #[v, .int .u8 (c.toNat : Int)] w (Wrote B w acc (urlB c)) := by
  obtain ⟨i0, hi0, hz0, hz1, hz2⟩ := info_parts info5
  have cl := letter_any c.toNat
  have cd := digit_any c.toNat
  have ci := indexByte_any ⟨#[45, 95, 46, 33, 126, 42, 39, 40, 41, 59, 47, 63, 58, 64, 61, 43, 36, 44, 35, 37]⟩ (c.toNat : Int)
  have hic : Lib.indexByte (ByteArray.mk #[45, 95, 46, 33, 126, 42, 39, 40, 41, 59, 47, 63, 58, 64, 61, 43, 36, 44, 35, 37]).data.toList (c.toNat : Int).toNat.toUInt8 = Lib.indexByte plainMarks c := by simp [plainMarks]
  rw [hic] at ci
  rw [hu]
  generalize Lib.indexByte plainMarks c = ix at *
  generalize letterN c.toNat = bl at *
  generalize digitN c.toNat = bd at *
  clear hic hu
  have news := lit_cells w [.int .u8 (c.toNat : Int)] 5
  rcases hp with rfl | ⟨rfl, rfl⟩ | ⟨rfl, rfl, hge⟩
  all_goals
    go_enter Try.func20, Try.ntmps20
    go_wp2_with (first | (go_at_call 27; refine (cl _).mono ?_; rintro e w' ⟨rfl, rfl⟩) | (go_at_call 28; refine (cd _).mono ?_; rintro e w' ⟨rfl, rfl⟩) | (go_at_call 29; refine (ci _).mono ?_; rintro e w' ⟨rfl, rfl⟩) | (at_builtin; refine wpList_append_own _ rfl _ _ 28 rfl B 5 i0 (.int .u8 0) 1 1 Try.underlying28 hi0 hz0 hz1 hz2 rfl (by decide) _ _ _ rfl (hown.alloc _) ⟨_, 0, none⟩ 1 1 [.int .u8 (c.toNat : Int)] rfl rfl (lit_cells _ _ _) ?c2 ?c3 ?c4 ?c5 ?_))
    case c2 => intro u hu; simp at hu; subst hu; rfl
    case c3 => unfold maxLen; omega
    case c4 => omega
    case c5 => simp; omega
    intro v' w2 hown' hgrow _
    go_wp2
    go_ret
    exact ⟨_, rfl, own_push (l := [c]) hown' rfl (byteCells_one c), below_grown (Below.refl _ _) hB hown hgrow⟩

theorem appendURL_any (B : Nat) (v : Value) (acc : List UInt8) (c : UInt8) (w : World) (hown : OwnB w B v acc) (hlen : acc.length + 6 ≤ 140737488355328) (hB : B ≤ w.heap.size) :
    Calls Try.prog 20 #[v, .int .u8 (c.toNat : Int)] w (Wrote B w acc (urlB c)) := by
  have hpl : plainB c = (letterN c.toNat || digitN c.toNat || plainMarks.contains c) := rfl
  have hix := index_contains c plainMarks
  cases h1 : letterN c.toNat with
  | true => exact appendURL_plain B v acc c w hown hlen hB (.inl h1) (by unfold urlB; rw [hpl, h1]; rfl)
  | false =>
    cases h2 : digitN c.toNat with
    | true => exact appendURL_plain B v acc c w hown hlen hB (.inr (.inl ⟨h1, h2⟩)) (by unfold urlB; rw [hpl, h1, h2]; rfl)
    | false =>
      cases h3 : plainMarks.contains c with
      | true => exact appendURL_plain B v acc c w hown hlen hB (.inr (.inr ⟨h1, h2, by rw [h3] at hix; simp at hix; exact hix⟩)) (by unfold urlB; rw [hpl, h1, h2, h3]; rfl)
      | false =>
        have hlt : Lib.indexByte plainMarks c < 0 := by rw [hix]; exact h3
        by_cases h4 : c.toNat = 38
        · exact appendURL_amp B v acc c w hown hlen hB h1 h2 hlt (by unfold urlB; rw [hpl, h1, h2, h3, if_neg (by simp), if_pos h4]) (by rw [h4]; rfl)
        · exact appendURL_hex B v acc c w hown hlen hB h1 h2 hlt (by unfold urlB; rw [hpl, h1, h2, h3, if_neg (by simp), if_neg h4]) (by simp; omega)

theorem flat_step (g : UInt8 → List UInt8) (s : ByteArray) (p : Nat) (h : p < s.size) : (s.data.toList.drop p).flatMap g = g s[p] ++ (s.data.toList.drop (p + 1)).flatMap g := by
  rw [drop_byte s p h, List.flatMap_cons]

set_option maxHeartbeats 2000000 in
set_option maxRecDepth 100000 in
theorem html_any (s : ByteArray) (w : World) (hs : s.size ≤ 1073741824) :
    Calls Try.prog 10 #[.string s] w fun e w' => e = .returned (.string ⟨(html s.data.toList).toArray⟩) ∧ Below w.heap.size w w' := by
  obtain ⟨i0, hi, hz0, hz1, hz2⟩ := info_parts info5
  have hm : s.size ≤ maxLen := by unfold maxLen; omega
  go_enter Try.func10, Try.ntmps10
  go_wp2_with (at_make; refine wpList_make_own _ rfl _ _ 28 rfl w.heap.size 5 i0 (.int .u8 0) 1 Try.underlying28 hi hz0 hz1 _ _ _ s.size rfl rfl rfl ?b1 hm (Nat.le_refl _) ?_)
  case b1 => rw [hz2]; omega
  intro w1 hown0 hgr0
  have hb1 : Below w.heap.size w w1 := (Below.refl _ _).grown hgr0 (Nat.le_refl _) (fun k hk => by cases hk)
  clear hgr0
  go_wp2
  go_loopw [3, 4] (fun v t wr => ∃ (p : Nat) (acc : List UInt8), OwnB wr w.heap.size v acc ∧ t = .int .i64 (p : Int) ∧ p ≤ s.size ∧ Below w.heap.size w wr ∧ Hid (acc ++ (s.data.toList.drop p).flatMap htmlB = html s.data.toList) ∧ acc.length ≤ 6 * p) (fun _ t _ => s.size - (intOf t).toNat)
  case atStart => exact ⟨0, [], hown0, rfl, by omega, hb1, rfl, by simp⟩
  case round =>
    obtain ⟨p, acc, hown, rfl, hp, hbw, HA, hal⟩ := hrel
    have hsz := hbw.size
    clear hown0 hb1
    by_cases hlt : p < s.size
    · have HA' : Hid ((acc ++ htmlB s[p]) ++ (s.data.toList.drop (p + 1)).flatMap htmlB = html s.data.toList) := by
        show _ = _
        rw [List.append_assoc, ← flat_step htmlB s p hlt]
        exact HA.out
      have hln := (htmlB_len s[p]).2
      have hca := appendHTML_any w.heap.size _ acc s[p] wr hown (by omega) hsz
      clear HA
      go_wp2_with (go_at_call 19; refine hca.mono ?_)
      rintro e w2 ⟨v2, rfl, hown2, hb2⟩
      go_wp2
      go_roundw
      case rel => exact ⟨p + 1, acc ++ htmlB s[p], hown2, by go_num, by omega, hbw.trans hb2, HA', by rw [List.length_append]; omega⟩
      case measure => simp [intOf]; omega
    · have hcv := own_string hown
      have hfin := HA.out
      rw [drop_past s p (by omega), List.flatMap_nil, List.append_nil] at hfin
      have HF : Hid (Ending.returned (.string ⟨acc.toArray⟩) = .returned (.string ⟨(html s.data.toList).toArray⟩)) := by show _ = _; rw [hfin]
      clear hfin HA hown
      go_wp2
      go_ret
      exact ⟨HF.out, hbw⟩

set_option maxHeartbeats 2000000 in
set_option maxRecDepth 100000 in
theorem url_any (s : ByteArray) (w : World) (hs : s.size ≤ 1073741824) :
    Calls Try.prog 12 #[.string s] w fun e w' => e = .returned (.string ⟨(url s.data.toList).toArray⟩) ∧ Below w.heap.size w w' := by
  obtain ⟨i0, hi, hz0, hz1, hz2⟩ := info_parts info5
  have hm : s.size ≤ maxLen := by unfold maxLen; omega
  go_enter Try.func12, Try.ntmps12
  go_wp2_with (at_make; refine wpList_make_own _ rfl _ _ 28 rfl w.heap.size 5 i0 (.int .u8 0) 1 Try.underlying28 hi hz0 hz1 _ _ _ s.size rfl rfl rfl ?b1 hm (Nat.le_refl _) ?_)
  case b1 => rw [hz2]; omega
  intro w1 hown0 hgr0
  have hb1 : Below w.heap.size w w1 := (Below.refl _ _).grown hgr0 (Nat.le_refl _) (fun k hk => by cases hk)
  clear hgr0
  go_wp2
  go_loopw [3, 4] (fun v t wr => ∃ (p : Nat) (acc : List UInt8), OwnB wr w.heap.size v acc ∧ t = .int .i64 (p : Int) ∧ p ≤ s.size ∧ Below w.heap.size w wr ∧ Hid (acc ++ (s.data.toList.drop p).flatMap urlB = url s.data.toList) ∧ acc.length ≤ 6 * p) (fun _ t _ => s.size - (intOf t).toNat)
  case atStart => exact ⟨0, [], hown0, rfl, by omega, hb1, rfl, by simp⟩
  case round =>
    obtain ⟨p, acc, hown, rfl, hp, hbw, HA, hal⟩ := hrel
    have hsz := hbw.size
    clear hown0 hb1
    by_cases hlt : p < s.size
    · have HA' : Hid ((acc ++ urlB s[p]) ++ (s.data.toList.drop (p + 1)).flatMap urlB = url s.data.toList) := by
        show _ = _
        rw [List.append_assoc, ← flat_step urlB s p hlt]
        exact HA.out
      have hln := (urlB_len s[p]).2
      have hca := appendURL_any w.heap.size _ acc s[p] wr hown (by omega) hsz
      clear HA
      go_wp2_with (go_at_call 20; refine hca.mono ?_)
      rintro e w2 ⟨v2, rfl, hown2, hb2⟩
      go_wp2
      go_roundw
      case rel => exact ⟨p + 1, acc ++ urlB s[p], hown2, by go_num, by omega, hbw.trans hb2, HA', by rw [List.length_append]; omega⟩
      case measure => simp [intOf]; omega
    · have hcv := own_string hown
      have hfin := HA.out
      rw [drop_past s p (by omega), List.flatMap_nil, List.append_nil] at hfin
      have HF : Hid (Ending.returned (.string ⟨acc.toArray⟩) = .returned (.string ⟨(url s.data.toList).toArray⟩)) := by show _ = _; rw [hfin]
      clear hfin HA hown
      go_wp2
      go_ret
      exact ⟨HF.out, hbw⟩


end Go.Proofs.Ytebnobhalffalaa
