/- Several texts in one. -/
import Derived.Test.YtjdijlaoeoikhaaGreatDoorG49
import Derived.Test.YtjdijlaoeoikhaaGreatDoorG05
import Derived.Laws.Strings3
import Derived.Test.YtjdijlaoeoikhaaGreatDoorG08
set_option linter.unusedVariables false
/- InlineCode: what stands between grave accents is code; walked. -/
namespace Go.Proofs.YtjdijlaoeoikhaaGreatDoor
open Go.RowKit

theorem sadd8 (A B : Str8) (h : A.length + B.length ≤ 9223372036854775000) : ∀ w, (Op.stringOp .add (ByteArray.mk A.toArray) (ByteArray.mk B.toArray)).run Tryz.prog w = .ok (.string ⟨(A ++ B).toArray⟩) w := by
  intro w
  rw [← cat_eq]
  exact run_string_add_sum (w := w) _ _ (by rw [size_list, size_list]; omega)
theorem and_bits8 (m : Nat) (hm : m < 1000000) (z : Int) : ∃ n : Nat, n ≤ m ∧ bits .and .i64 z (m : Int) = (n : Int) := by
  have h0 : (BitVec.ofInt 64 (m : Int)).toNat = m := by
    rw [BitVec.toNat_ofInt]
    omega
  have h : (BitVec.ofInt 64 z &&& BitVec.ofInt 64 (m : Int)).toNat ≤ m := by
    rw [BitVec.toNat_and]
    exact Nat.le_trans Nat.and_le_right (by omega)
  refine ⟨(BitVec.ofInt 64 z &&& BitVec.ofInt 64 (m : Int)).toNat, h, ?_⟩
  show IntKind.i64.wrap (((BitVec.ofInt 64 z &&& BitVec.ofInt 64 (m : Int)).toNat : Nat) : Int) = _
  rw [IntKind.wrap_i64]
  omega
theorem defs_none (w : World) : DefsAt w (.slice none 0 0) [] := ⟨none, 0, rfl, fun i q hq => by cases hq⟩
/-- Parse without definitions. -/
theorem iparse_nil (l : Str8) (hl : l.length ≤ 1073741824) (w : World) (hg : Glob w) : Calls Tryz.prog 9 #[strI l, .slice none 0 0] w fun e w' => ∃ v', e = .returned v' ∧ (∃ ys, w'.ownsRow 0 32 5 v' (parseI l []).len ys ∧ KidI w' (fun _ => True) (parseI l []) ys) ∧ Below w.heap.size w w' :=
  iparse_any l hl [] (Nat.zero_le _) (fun d hd => by cases hd) _ w (defs_none w) hg

/-- A row of inlines in memory. -/
def InRow (w : World) (I : Is) (v : Value) : Prop := ∃ ys, w.ownsRow 0 32 5 v I.len ys ∧ KidI w (fun _ => True) I ys
theorem inrow_one {w : World} {b : II} {k : Is} {v : Value} (h : InRow w (.cons b k .nil) v) : ∃ g c v', v = .slice (some ⟨g, 0, none⟩) 1 c ∧ w.cell? ⟨g, 0, none⟩ = some (.int .i64 (b.kind : Int)) ∧ w.cell? ⟨g, 1, none⟩ = some (strW b.text) ∧ w.cell? ⟨g, 4, none⟩ = some v' ∧ InRow w k v' := by
  obtain ⟨ys, hr, hk⟩ := h
  obtain ⟨v', ys', zs, e, h1, h2, h3, h4⟩ := hk
  have h4 : zs = [] := h4
  subst h4
  subst e
  obtain ⟨a, c, rfl⟩ := row_len hr
  obtain ⟨g, rfl, _, q0⟩ := row_cell hr (j := 0) rfl
  refine ⟨g, c, v', rfl, q0, ?_, ?_, ys', h1, h3⟩
  · obtain ⟨g', e, _, q⟩ := row_cell hr (j := 1) rfl; cases e; exact q
  · obtain ⟨g', e, _, q⟩ := row_cell hr (j := 4) rfl; cases e; exact q

def Fold8 (a x : Int) (m : Int) : Prop := (¬ a < 0 ∧ a.tmod m = x) ∨ (a < 0 ∧ -9223372036854775808 ≤ a ∧ (-(a + 1)).tmod m = x)
theorem fold8_ex (a m : Int) (h0 : -9223372036854775808 ≤ a) (hm : 0 < m) : ∃ x : Int, 0 ≤ x ∧ x < m ∧ Fold8 a x m := by
  by_cases h : 0 ≤ a
  · exact ⟨a.tmod m, Int.tmod_nonneg _ h, by rw [Int.tmod_eq_emod_of_nonneg h]; exact Int.emod_lt_of_pos _ hm, .inl ⟨by omega, rfl⟩⟩
  · exact ⟨(-(a + 1)).tmod m, Int.tmod_nonneg _ (by omega), by rw [Int.tmod_eq_emod_of_nonneg (by omega)]; exact Int.emod_lt_of_pos _ hm, .inr ⟨by omega, h0, rfl⟩⟩

/-- The bytes of a text's front that are neither. -/
def codB (c : UInt8) : Bool := c != 96 && c != 10
def codT (l : Str8) (k : Nat) : Str8 := 97 :: (l.take k).filter codB
theorem cod_next {l : Str8} {k : Nat} {z : UInt8} (h : l[k]? = some z) : codT l (k + 1) = codT l k ++ (if codB z = true then [z] else []) := by
  unfold codT
  rw [List.take_add_one, h, List.filter_append]
  cases hz : codB z <;> simp [hz]
theorem cod_len (l : Str8) (k : Nat) : (codT l k).length ≤ k + 1 := by
  have h1 := List.length_filter_le codB (l.take k)
  rw [List.length_take] at h1
  unfold codT
  rw [List.length_cons]
  omega
theorem cod_ok (l : Str8) (k : Nat) : (∀ c ∈ codT l k ++ [122], c ≠ 96) ∧ (∀ c ∈ codT l k ++ [122], c ≠ 10) ∧ (codT l k ++ [122]).head? = some 97 := by
  have key : ∀ c ∈ codT l k, c ≠ 96 ∧ c ≠ 10 := fun c hc => by
    rcases List.mem_cons.1 hc with rfl | h
    · decide
    · have := (List.mem_filter.1 h).2
      simpa [codB] using this
  refine ⟨fun c hc => ?_, fun c hc => ?_, rfl⟩
  · rcases List.mem_append.1 hc with h | h
    · exact (key c h).1
    · rw [List.mem_singleton.1 h]; decide
  · rcases List.mem_append.1 hc with h | h
    · exact (key c h).2
    · rw [List.mem_singleton.1 h]; decide

end Go.Proofs.YtjdijlaoeoikhaaGreatDoor

/- Plain mathematics: each part has just what a part of its kind has: emphasis. -/
namespace Go.Proofs.YtjdijlaoeoikhaaGreatDoor

abbrev mailT : Str8 := [109, 97, 105, 108, 116, 111, 58]
/-- A link that Auto tells. -/
def autoP (b : II) (k : Is) : Prop := b.title = [] ∧ ∃ x, k = .cons { text := x } .nil .nil ∧ (b.dest = x ∨ b.dest = mailT ++ x) ∧ x.length ≤ 1073741824
/-- What an inline of its kind has, but for what is in it. -/
structure El (link : Bool) (b : II) (k : Is) : Prop where
  kd : b.kind ≤ 8
  tx : b.kind ≠ 0 → b.kind ≠ 3 → b.kind ≠ 8 → b.text = []
  ks : (b.kind < 4 ∨ 7 < b.kind) → k = .nil
  ld : b.kind ≠ 6 → b.kind ≠ 7 → b.dest = [] ∧ b.title = []
  ne : (b.kind = 0 ∨ b.kind = 8) → b.text ≠ []
  au : link = true → b.kind = 6 → autoP b k
  em : (b.kind = 4 ∨ b.kind = 5) → k ≠ .nil
/-- Inlines in a link or not, behind a text or not. -/
def Fm : Bool → Bool → Is → Prop
  | _, _, .nil => True
  | link, pt, .cons b k r => El link b k ∧ (pt = true → b.kind ≠ 0) ∧ Fm (b.kind != 7 && (link || b.kind == 6)) false k ∧ Fm link (b.kind == 0) r

/-- A part as it may be. -/
def PE (link : Bool) (p : Pt) : Prop := (p.i.kind = 0 ∧ p.kids = .nil ∧ p.i.dest = [] ∧ p.i.title = []) ∨ (p.i.kind ≠ 0 ∧ El link p.i p.kids ∧ Fm (p.i.kind != 7 && (link || p.i.kind == 6)) false p.kids)
def Sol (p : Pt) : Prop := p.i.kind ≠ 0 ∨ p.i.text ≠ []

theorem El.text (link : Bool) {t : Str8} (h : t ≠ []) : El link { text := t } .nil :=
  ⟨Nat.zero_le _, fun e => absurd rfl e, fun _ => rfl, fun _ _ => ⟨rfl, rfl⟩, fun _ => h, fun _ e => (by cases e), fun e => (by rcases e with e | e <;> cases e)⟩
theorem fm_any {link : Bool} {b : II} {k r : Is} (h0 : b.kind ≠ 0) (h1 : El link b k) (h2 : Fm (b.kind != 7 && (link || b.kind == 6)) false k) (h3 : Fm link false r) (pt : Bool) : Fm link pt (.cons b k r) :=
  ⟨h1, fun _ => h0, h2, by rw [show (b.kind == 0) = false by simpa using h0]; exact h3⟩
theorem fm_with {link : Bool} {t : Str8} {r : Is} (h : ∀ pt, Fm link pt r) : Fm link false (withT t r) := by
  unfold withT
  split
  · exact h false
  · rename_i ht
    exact ⟨El.text link ht, fun e => (by cases e), trivial, h true⟩
theorem fm_told {link : Bool} : ∀ (ps : List Pt) (t : Str8), (∀ p ∈ ps, PE link p) → Fm link false (toldI t ps)
  | [], t, _ => by
    unfold toldI
    exact fm_with (fun pt => trivial)
  | p :: r, t, h => by
    have ih := fun t => fm_told r t (fun q hq => h q (List.mem_cons_of_mem _ hq))
    unfold toldI
    split
    · exact ih _
    · rename_i h0
      rcases h p (List.mem_cons_self ..) with ⟨e, _⟩ | ⟨_, h1, h2⟩
      · exact absurd e h0
      · exact fm_with (fun pt => fm_any h0 h1 h2 (ih []) pt)
theorem with_ne {t : Str8} {r : Is} (h : t ≠ [] ∨ r ≠ .nil) : withT t r ≠ .nil := by
  unfold withT
  split
  · rename_i ht
    rcases h with h | h
    · exact absurd ht h
    · exact h
  · exact fun e => by cases e
theorem told_ne : ∀ (ps : List Pt) (t : Str8), (t ≠ [] ∨ ∃ p ∈ ps, Sol p) → toldI t ps ≠ .nil
  | [], t, h => by
    unfold toldI
    rcases h with h | ⟨p, hp, _⟩
    · exact with_ne (.inl h)
    · cases hp
  | p :: r, t, h => by
    unfold toldI
    split
    · rename_i h0
      refine told_ne r _ ?_
      rcases h with h | ⟨q, hq, hs⟩
      · left
        intro e
        exact h (List.append_eq_nil_iff.1 e).1
      · rcases List.mem_cons.1 hq with rfl | hq
        · rcases hs with hs | hs
          · exact absurd h0 hs
          · left
            intro e
            exact hs (List.append_eq_nil_iff.1 e).2
        · exact .inr ⟨q, hq, hs⟩
    · exact with_ne (.inr (fun e => by cases e))

/-! ### Closing -/

/-- Something stands behind a part. -/
def Beh (s : Sn) (k : Nat) : Prop := ∃ p ∈ s.parts.drop (k + 1), Sol p
structure Sn.Fo (link : Bool) (s : Sn) : Prop where
  pe : ∀ p ∈ s.parts, PE link p
  op : ∀ k ∈ s.openers, ∀ p, s.parts[k]? = some p → p.i.kind = 0
theorem PE.cut {link : Bool} {p : Pt} (h : PE link p) (h0 : p.i.kind = 0) (u : Nat) : PE link (p.cut u) := by
  rcases h with ⟨h1, h2, h3, h4⟩ | ⟨h1, _⟩
  · exact .inl ⟨h1, h2, h3, h4⟩
  · exact absurd h0 h1
theorem whole_pe {link : Bool} {s : Sn} (h : s.Fo link) {k : Nat} (hb : Beh s k) (u : Nat) : PE link (s.whole k u) ∧ (s.whole k u).i.kind ≠ 0 := by
  have hk : (s.whole k u).i.kind = 4 ∨ (s.whole k u).i.kind = 5 := by
    unfold Sn.whole
    simp only
    split
    · exact .inr rfl
    · exact .inl rfl
  have hf : Fm link false (toldI [] (s.parts.drop (k + 1))) := fm_told _ _ (fun p hp => h.pe p (List.mem_of_mem_drop hp))
  have hn : toldI [] (s.parts.drop (k + 1)) ≠ .nil := told_ne _ _ (.inr hb)
  have hk0 : (s.whole k u).i.kind ≠ 0 := by omega
  refine ⟨.inr ⟨hk0, ⟨by omega, fun _ _ _ => rfl, fun e => absurd e (by omega), fun _ _ => ⟨rfl, rfl⟩, fun e => absurd e (by omega), fun _ e => absurd e (by omega), fun _ => hn⟩, ?_⟩, hk0⟩
  have e : ((s.whole k u).i.kind != 7 && (link || (s.whole k u).i.kind == 6)) = link := by
    rcases hk with e | e <;> rw [e] <;> cases link <;> rfl
  rw [e]
  exact hf
theorem Sn.Fo.close {N M : Nat} {link : Bool} {s : Sn} (hok : s.Ok N M) (h : s.Fo link) {i k : Nat} {p : Pt} (hi : s.openers[i]? = some k) (hp : s.parts[k]? = some p) (left : Nat) (hb : Beh s k) :
    (s.close i left).Fo link ∧ ∀ a ∈ (s.close i left).openers, Beh (s.close i left) a := by
  obtain ⟨w1, w2⟩ := whole_pe h hb (s.used i left)
  have hkm : k ∈ s.openers := List.mem_of_getElem? hi
  have hk0 := h.op k hkm p hp
  have hkl := hok.lt hkm
  have hlt : ∀ a ∈ s.openers.take i, a < k := take_last hok.ord hi
  have hpe := (h.pe p (List.mem_of_getElem? hp)).cut hk0 (s.used i left)
  have hcut0 : (p.cut (s.used i left)).i.kind = 0 := hk0
  rw [s.close_is hi hp left]
  have htl : (s.parts.take k).length = k := by rw [List.length_take]; omega
  generalize s.whole k (s.used i left) = W at *
  generalize p.cut (s.used i left) = C at *
  have hbeh : ∀ (X : List Pt) (os : List Nat) (a : Nat), a < (s.parts.take k ++ X).length → Beh { parts := s.parts.take k ++ X ++ [W], openers := os } a := fun X os a ha => by
    refine ⟨W, ?_, .inl w2⟩
    show W ∈ (s.parts.take k ++ X ++ [W]).drop (a + 1)
    rw [List.drop_append_of_le_length (by omega)]
    exact List.mem_append_right _ (List.mem_singleton.2 rfl)
  refine ⟨⟨?_, ?_⟩, ?_⟩
  · intro q hq
    rcases List.mem_append.1 hq with hq | hq
    · rcases List.mem_append.1 hq with hq | hq
      · exact h.pe q (List.mem_of_mem_take hq)
      · split at hq
        · cases hq
        · rw [List.mem_singleton.1 hq]; exact hpe
    · rw [List.mem_singleton.1 hq]; exact w1
  · intro a ha q hq
    rcases List.mem_append.1 ha with ha | ha
    · have hak := hlt a ha
      simp only at hq
      rw [List.append_assoc, List.getElem?_append_left (by omega), List.getElem?_take_of_lt hak] at hq
      exact h.op a (List.mem_of_mem_take ha) q hq
    · split at ha
      · cases ha
      · rename_i hne
        obtain rfl := List.mem_singleton.1 ha
        simp only [if_neg hne] at hq
        rw [List.append_assoc, List.getElem?_append_right (by omega), htl, Nat.sub_self] at hq
        simp only [List.cons_append, List.getElem?_cons_zero, Option.some.injEq] at hq
        rw [← hq]
        exact hcut0
  · intro a ha
    rcases List.mem_append.1 ha with ha | ha
    · have := hlt a ha
      exact hbeh _ _ a (by rw [List.length_append]; omega)
    · split at ha
      · cases ha
      · rename_i hne
        obtain rfl := List.mem_singleton.1 ha
        exact hbeh _ _ a (by rw [List.length_append, htl, if_neg hne]; simp)

/-- An opener that has nothing behind it is of another sign. -/
def Fit (s : Sn) (d : Dl) : Prop := ∀ k ∈ s.openers, Beh s k ∨ ∀ p, s.parts[k]? = some p → fitI p.d d = false
theorem openerF_fit (s : Sn) (c : Dl) : ∀ (n i : Nat), s.openerF c n = some i → fitI ((s.parts.getD (s.openers.getD i 0) ⟨{}, .nil, {}⟩).d) c = true
  | 0, i, h => by cases h
  | n + 1, i, h => by
    unfold Sn.openerF at h
    split at h
    · rename_i hf
      cases h
      exact hf
    · exact openerF_fit s c n i h
theorem Sn.Fo.closeF {N M : Nat} {link : Bool} : ∀ (f : Nat) {s : Sn} (p : Pt), s.Ok N M → s.Fo link → Fit s p.d → PE link p → (p.d.closes = true → p.i.kind = 0) →
    (Sn.closeF f s p).1.Fo link ∧ PE link (Sn.closeF f s p).2 ∧ (Sn.closeF f s p).2.i.kind = p.i.kind ∧ (Sn.closeF f s p = (s, p) ∨ ∀ a ∈ (Sn.closeF f s p).1.openers, Beh (Sn.closeF f s p).1 a)
  | 0, s, p, hok, h, hf, hp, hk => ⟨h, hp, rfl, .inl rfl⟩
  | f + 1, s, p, hok, h, hf, hp, hk => by
    unfold Sn.closeF
    split
    · rename_i hc
      split
      · exact ⟨h, hp, rfl, .inl rfl⟩
      · rename_i i hi
        have hlt := Sn.openerF_lt s p.d _ i hi
        have hfit := openerF_fit s p.d _ i hi
        have hko : s.openers[i]? = some s.openers[i] := List.getElem?_eq_getElem hlt
        have hkm := List.mem_of_getElem? hko
        obtain ⟨q, hq, _⟩ := hok.ops _ hkm
        have hl : 1 ≤ p.i.text.length := List.length_pos_iff.2 hc.2
        have hb : Beh s s.openers[i] := by
          rcases hf _ hkm with hb | hb
          · exact hb
          · have := hb q hq
            have e1 : s.openers.getD i 0 = s.openers[i] := by rw [List.getD_eq_getElem?_getD, hko]; rfl
            rw [e1, List.getD_eq_getElem?_getD, hq] at hfit
            rw [show ((some q).getD ⟨{}, .nil, {}⟩ : Pt) = q from rfl, this] at hfit
            cases hfit
        obtain ⟨c1, c2⟩ := h.close hok hko hq p.i.text.length hb
        have hp' : PE link { p with i := { p.i with text := p.i.text.drop (s.used i p.i.text.length) } } := hp.cut (hk hc.1) _
        obtain ⟨r1, r2, r3, r4⟩ := Sn.Fo.closeF f { p with i := { p.i with text := p.i.text.drop (s.used i p.i.text.length) } } (hok.close hko hq hl) c1 (fun a ha => .inl (c2 a ha)) hp' hk
        refine ⟨r1, r2, r3, .inr ?_⟩
        rcases r4 with r4 | r4
        · rw [r4]; exact c2
        · exact r4
    · exact ⟨h, hp, rfl, .inl rfl⟩

/-! ### All parts -/
def ApartP (p q : Pt) : Prop := p.d.opens = true → q.d.closes = true → p.d.sign ≠ q.d.sign
/-- Only the part that was taken last may have nothing behind it. -/
def Fresh (s : Sn) (q : Pt) : Prop := ∀ k ∈ s.openers, Beh s k ∨ (q.d.opens = true ∧ ∀ p, s.parts[k]? = some p → p.d = q.d)
theorem Fresh.fit {s : Sn} {q p : Pt} (h : Fresh s q) (ha : ApartP q p) (hc : p.d.closes = true) : Fit s p.d := by
  intro k hk
  rcases h k hk with hb | ⟨ho, hd⟩
  · exact .inl hb
  · refine .inr (fun x hx => ?_)
    rw [hd x hx]
    unfold fitI
    rw [show (q.d.sign == p.d.sign) = false by simpa using ha ho hc]
    rfl
theorem Sn.Fo.take {N M : Nat} {link : Bool} {s : Sn} (hok : s.Ok N M) (h : s.Fo link) (p : Pt) (hp : PE link p) (hs : Sol p) (hk : p.d.closes = true ∨ p.d.opens = true → p.i.kind = 0) (hf : p.d.closes = true → Fit s p.d) (hb0 : p.d.closes = false → True) :
    (s.take p).Fo link ∧ Fresh (s.take p) p := by
  have hcf : (Sn.closeF (p.i.text.length + 1) s p).1.Fo link ∧ PE link (Sn.closeF (p.i.text.length + 1) s p).2 ∧ (Sn.closeF (p.i.text.length + 1) s p).2.i.kind = p.i.kind ∧ (Sn.closeF (p.i.text.length + 1) s p = (s, p) ∨ ∀ a ∈ (Sn.closeF (p.i.text.length + 1) s p).1.openers, Beh (Sn.closeF (p.i.text.length + 1) s p).1 a) := by
    by_cases hc : p.d.closes = true
    · exact Sn.Fo.closeF _ p hok h (hf hc) hp (fun e => hk (.inl e))
    · have e : Sn.closeF (p.i.text.length + 1) s p = (s, p) := by
        unfold Sn.closeF
        rw [if_neg (fun x => hc x.1)]
      rw [e]
      exact ⟨h, hp, rfl, .inl rfl⟩
  obtain ⟨ok1, _, hd⟩ := hok.closeF (p.i.text.length + 1) p
  obtain ⟨c1, c2, c3, c4⟩ := hcf
  have hsol : Sol (Sn.closeF (p.i.text.length + 1) s p).2 ∨ ∀ a ∈ (Sn.closeF (p.i.text.length + 1) s p).1.openers, Beh (Sn.closeF (p.i.text.length + 1) s p).1 a := by
    rcases c4 with e | e
    · left; rw [e]; exact hs
    · exact .inr e
  unfold Sn.take
  simp only
  generalize Sn.closeF (p.i.text.length + 1) s p = R at *
  obtain ⟨S, P⟩ := R
  simp only at *
  have hgrow : ∀ (os : List Nat) (a : Nat), Beh S a → Beh { parts := S.parts ++ [P], openers := os } a := fun os a ⟨x, hx, hsx⟩ => by
    refine ⟨x, ?_, hsx⟩
    show x ∈ (S.parts ++ [P]).drop (a + 1)
    by_cases hle : a + 1 ≤ S.parts.length
    · rw [List.drop_append_of_le_length hle]
      exact List.mem_append_left _ hx
    · rw [List.drop_of_length_le (by omega)] at hx
      cases hx
  refine ⟨⟨?_, ?_⟩, ?_⟩
  · intro q hq
    rcases List.mem_append.1 hq with hq | hq
    · exact c1.pe q hq
    · rw [List.mem_singleton.1 hq]; exact c2
  · intro a ha q hq
    rcases List.mem_append.1 ha with ha | ha
    · simp only at hq
      rw [List.getElem?_append_left (ok1.lt ha)] at hq
      exact c1.op a ha q hq
    · split at ha
      · rename_i ho
        obtain rfl := List.mem_singleton.1 ha
        simp only at hq
        rw [List.getElem?_append_right (Nat.le_refl _), Nat.sub_self] at hq
        simp only [List.getElem?_cons_zero, Option.some.injEq] at hq
        rw [← hq, c3]
        exact hk (.inr (by rw [← hd]; exact ho.1))
      · cases ha
  · intro a ha
    rcases List.mem_append.1 ha with ha | ha
    · left
      rcases hsol with hsol | hsol
      · refine ⟨P, ?_, hsol⟩
        show P ∈ (S.parts ++ [P]).drop (a + 1)
        have := ok1.lt ha
        rw [List.drop_append_of_le_length (by omega)]
        exact List.mem_append_right _ (List.mem_singleton.2 rfl)
      · exact hgrow _ a (hsol a ha)
    · split at ha
      · rename_i ho
        obtain rfl := List.mem_singleton.1 ha
        refine .inr ⟨by rw [← hd]; exact ho.1, fun q hq => ?_⟩
        simp only at hq
        rw [List.getElem?_append_right (Nat.le_refl _), Nat.sub_self] at hq
        simp only [List.getElem?_cons_zero, Option.some.injEq] at hq
        rw [← hq]
        exact hd
      · cases ha

/-- Parts, one behind the other, as they may be read. -/
structure PtsOk (link : Bool) (ps : List Pt) : Prop where
  pe : ∀ p ∈ ps, PE link p
  sol : ∀ p ∈ ps, Sol p
  kd : ∀ p ∈ ps, (p.d.closes = true ∨ p.d.opens = true → p.i.kind = 0)
  adj : ∀ i p q, ps[i]? = some p → ps[i + 1]? = some q → ApartP p q
theorem fold_fm {link : Bool} : ∀ (ps : List Pt) (N M : Nat) (s : Sn) (q : Pt), s.Ok N M → (∀ p ∈ ps, p.d.number ≤ M) → s.Fo link → Fresh s q → PtsOk link (q :: ps) → (ps.foldl Sn.take s).Fo link
  | [], N, M, s, q, _, _, h, _, _ => h
  | p :: r, N, M, s, q, hok, hn, h, hf, hp => by
    have hpm : p ∈ q :: p :: r := List.mem_cons_of_mem _ (List.mem_cons_self ..)
    have ha : ApartP q p := hp.adj 0 q p rfl rfl
    obtain ⟨t1, t2⟩ := h.take hok p (hp.pe p hpm) (hp.sol p hpm) (hp.kd p hpm) (fun hc => hf.fit ha hc) (fun _ => trivial)
    rw [List.foldl_cons]
    exact fold_fm r _ M (s.take p) p (hok.take p (hn p (List.mem_cons_self ..))) (fun x hx => hn x (List.mem_cons_of_mem _ hx)) t1 t2
      ⟨fun x hx => hp.pe x (List.mem_cons_of_mem _ hx), fun x hx => hp.sol x (List.mem_cons_of_mem _ hx), fun x hx => hp.kd x (List.mem_cons_of_mem _ hx), fun i x y hx hy => hp.adj (i + 1) x y hx hy⟩
theorem emph_fm {link : Bool} (ps : List Pt) (h : PtsOk link ps) : Fm link false (emphI ps) := by
  unfold emphI
  have key : (ps.foldl Sn.take {}).Fo link := by
    cases ps with
    | nil => exact ⟨fun p hp => (by cases hp), fun k hk => (by cases hk)⟩
    | cons p r =>
      obtain ⟨M, hM⟩ : ∃ M, ∀ x ∈ p :: r, x.d.number ≤ M := by
        clear h
        induction (p :: r) with
        | nil => exact ⟨0, fun x hx => (by cases hx)⟩
        | cons a b ih =>
          obtain ⟨M, hM⟩ := ih
          refine ⟨max M a.d.number, fun x hx => ?_⟩
          rcases List.mem_cons.1 hx with rfl | hx
          · exact Nat.le_max_right _ _
          · exact Nat.le_trans (hM x hx) (Nat.le_max_left _ _)
      have h0 : Sn.Fo link {} := ⟨fun p hp => (by cases hp), fun k hk => (by cases hk)⟩
      have hpm : p ∈ p :: r := List.mem_cons_self ..
      obtain ⟨t1, t2⟩ := h0.take (Sn.Ok.first M) p (h.pe p hpm) (h.sol p hpm) (h.kd p hpm) (fun hc k hk => (by cases hk)) (fun _ => trivial)
      rw [List.foldl_cons]
      exact fold_fm r _ M _ p ((Sn.Ok.first M).take p (hM p hpm)) (fun x hx => hM x (List.mem_cons_of_mem _ hx)) t1 t2 h
  exact fm_told _ _ key.pe

theorem PtsOk.drop {link : Bool} {ps : List Pt} (h : PtsOk link ps) (n : Nat) : PtsOk link (ps.drop n) :=
  ⟨fun p hp => h.pe p (List.mem_of_mem_drop hp), fun p hp => h.sol p (List.mem_of_mem_drop hp), fun p hp => h.kd p (List.mem_of_mem_drop hp), fun i p q hp hq => by
    rw [List.getElem?_drop] at hp hq
    exact h.adj (n + i) p q hp (by rw [show n + i + 1 = n + (i + 1) by omega]; exact hq)⟩
theorem PtsOk.take {link : Bool} {ps : List Pt} (h : PtsOk link ps) (n : Nat) : PtsOk link (ps.take n) :=
  ⟨fun p hp => h.pe p (List.mem_of_mem_take hp), fun p hp => h.sol p (List.mem_of_mem_take hp), fun p hp => h.kd p (List.mem_of_mem_take hp), fun i p q hp hq => by
    have h1 := (List.getElem?_eq_some_iff.1 hq).1
    rw [List.length_take] at h1
    rw [List.getElem?_take_of_lt (by omega)] at hp hq
    exact h.adj i p q hp hq⟩
theorem PtsOk.snoc {link : Bool} {ps : List Pt} (h : PtsOk link ps) (p : Pt) (h1 : PE link p) (h2 : Sol p) (h3 : p.d.closes = true ∨ p.d.opens = true → p.i.kind = 0) (h4 : ∀ q, ps.getLast? = some q → ApartP q p) : PtsOk link (ps ++ [p]) := by
  refine ⟨fun q hq => ?_, fun q hq => ?_, fun q hq => ?_, fun i x y hx hy => ?_⟩
  · rcases List.mem_append.1 hq with hq | hq
    · exact h.pe q hq
    · rw [List.mem_singleton.1 hq]; exact h1
  · rcases List.mem_append.1 hq with hq | hq
    · exact h.sol q hq
    · rw [List.mem_singleton.1 hq]; exact h2
  · rcases List.mem_append.1 hq with hq | hq
    · exact h.kd q hq
    · rw [List.mem_singleton.1 hq]; exact h3
  · have hl := (List.getElem?_eq_some_iff.1 hy).1
    rw [List.length_append, List.length_singleton] at hl
    by_cases hi : i + 1 < ps.length
    · rw [List.getElem?_append_left (by omega)] at hx
      rw [List.getElem?_append_left hi] at hy
      exact h.adj i x y hx hy
    · have hi' : i + 1 = ps.length := by omega
      rw [List.getElem?_append_left (by omega)] at hx
      rw [List.getElem?_append_right (by omega), hi', Nat.sub_self] at hy
      simp only [List.getElem?_cons_zero, Option.some.injEq] at hy
      rw [← hy]
      refine h4 x ?_
      rw [List.getLast?_eq_getElem?, ← hi', Nat.add_sub_cancel]
      exact hx
end Go.Proofs.YtjdijlaoeoikhaaGreatDoor

/- Plain mathematics: each part has just what a part of its kind has: what is read. -/
namespace Go.Proofs.YtjdijlaoeoikhaaGreatDoor

theorem auto_told {s d x : Str8} {n : Nat} (h : autoL s = some (d, x, n)) : x ≠ [] ∧ (d = x ∨ d = mailT ++ x) ∧ x.length ≤ s.length := by
  have htw : ∀ (t : Str8), (t.takeWhile linkC).length ≤ t.length := fun t => (List.takeWhile_sublist _).length_le
  unfold autoL at h
  split at h
  · cases h
  · split at h
    · split at h
      · cases h
      · split at h
        · split at h
          · rename_i hs
            cases h
            refine ⟨fun e => ?_, .inl rfl, Nat.le_succ_of_le (htw _)⟩
            rw [e] at hs
            exact absurd hs (by decide)
          · split at h
            · rename_i hs
              cases h
              refine ⟨fun e => ?_, .inr rfl, Nat.le_succ_of_le (htw _)⟩
              rw [e] at hs
              exact absurd hs (by decide)
            · cases h
        · cases h
    · cases h
theorem entity_ne (l : Str8) (h : (entity l).2 ≠ 0) : (entity l).1 ≠ [] := by
  have hnum : ∀ a b m, (numE l a b m).2 ≠ 0 → (numE l a b m).1 ≠ [] := fun a b m hn => by
    unfold numE at hn ⊢
    split at hn
    · rename_i hc
      rw [if_pos hc]
      intro e
      have := enc_len (charN (readN b m (l.drop a) 0).2)
      have e : enc (charN (readN b m (l.drop a) 0).2) = [] := e
      rw [e] at this
      simp at this
    · exact absurd rfl hn
  have hname : (nameE l).2 ≠ 0 → (nameE l).1 ≠ [] := fun hn => by
    unfold nameE at hn ⊢
    split at hn
    · rename_i hc
      rw [if_pos hc]
      exact hc.2
    · exact absurd rfl hn
  unfold entity at h ⊢
  split at h
  · rename_i h0
    rw [if_pos h0]
    split at h
    · rename_i h1
      rw [if_pos h1]
      split at h
      · rename_i h2
        rw [if_pos h2]
        exact hnum _ _ _ h
      · rename_i h2
        rw [if_neg h2]
        exact hnum _ _ _ h
    · rename_i h1
      rw [if_neg h1]
      exact hname h
  · exact absurd rfl h

/-- As it may be, in a link or not. -/
def PB (p : Pt) : Prop := PE true p ∧ PE false p
theorem PB.text (t : Str8) (d : Dl) : PB { i := { text := t }, d := d } := ⟨.inl ⟨rfl, rfl, rfl, rfl⟩, .inl ⟨rfl, rfl, rfl, rfl⟩⟩
theorem PB.brk (k : Nat) (hk : k = 1 ∨ k = 2) : PB { i := { kind := k } } := by
  have key : ∀ link, PE link { i := { kind := k } } := fun link => by
    refine .inr ⟨by show k ≠ 0; omega, ⟨by show k ≤ 8; omega, fun _ _ _ => rfl, fun _ => rfl, fun _ _ => ⟨rfl, rfl⟩, fun e => ?_, fun _ e => ?_, fun e => ?_⟩, trivial⟩
    · have e : k = 0 ∨ k = 8 := e; omega
    · have e : k = 6 := e; omega
    · have e : k = 4 ∨ k = 5 := e; omega
  exact ⟨key true, key false⟩
theorem PB.code (t : Str8) : PB { i := { kind := 3, text := t } } := by
  have key : ∀ link, PE link { i := { kind := 3, text := t } } := fun link =>
    .inr ⟨(show (3 : Nat) ≠ 0 by decide), ⟨(show (3 : Nat) ≤ 8 by decide), fun _ e _ => absurd rfl e, fun _ => rfl, fun _ _ => ⟨rfl, rfl⟩, fun e => (by rcases e with e | e <;> cases e), fun _ e => (by cases e), fun e => (by rcases e with e | e <;> cases e)⟩, trivial⟩
  exact ⟨key true, key false⟩
theorem PB.raw (t : Str8) (h : t ≠ []) : PB { i := { kind := 8, text := t } } := by
  have key : ∀ link, PE link { i := { kind := 8, text := t } } := fun link =>
    .inr ⟨(show (8 : Nat) ≠ 0 by decide), ⟨(show (8 : Nat) ≤ 8 by decide), fun _ _ e => absurd rfl e, fun _ => rfl, fun _ _ => ⟨rfl, rfl⟩, fun _ => h, fun _ e => (by cases e), fun e => (by rcases e with e | e <;> cases e)⟩, trivial⟩
  exact ⟨key true, key false⟩
theorem PB.auto (d x : Str8) (h : x ≠ []) (hd : d = x ∨ d = mailT ++ x) (hx : x.length ≤ 1073741824) : PB { i := { kind := 6, dest := d }, kids := .cons { text := x } .nil .nil } := by
  have key : ∀ link, PE link { i := { kind := 6, dest := d }, kids := .cons { text := x } .nil .nil } := fun link =>
    .inr ⟨(show (6 : Nat) ≠ 0 by decide), ⟨(show (6 : Nat) ≤ 8 by decide), fun _ _ _ => rfl, fun e => absurd (show (6 : Nat) < 4 ∨ 7 < 6 from e) (by decide), fun e => absurd rfl e, fun e => (by rcases e with e | e <;> cases e), fun _ _ => ⟨rfl, x, rfl, hd, hx⟩, fun e => (by rcases e with e | e <;> cases e)⟩, ⟨El.text _ h, fun e => (by cases e), trivial, trivial⟩⟩
  exact ⟨key true, key false⟩
theorem PE.link {k : Nat} (hk : k = 6 ∨ k = 7) (d t : Str8) (kids : Is) (h : Fm (k != 7) false kids) : PE false { i := { kind := k, dest := d, title := t }, kids := kids } := by
  refine .inr ⟨by show k ≠ 0; omega, ⟨by show k ≤ 8; omega, fun _ _ _ => rfl, fun e => ?_, fun e1 e2 => ?_, fun e => ?_, fun e => (by cases e), fun e => ?_⟩, ?_⟩
  · have e : k < 4 ∨ 7 < k := e; omega
  · have e1 : k ≠ 6 := e1
    have e2 : k ≠ 7 := e2
    omega
  · have e : k = 0 ∨ k = 8 := e; omega
  · have e : k = 4 ∨ k = 5 := e; omega
  · show Fm (k != 7 && (false || k == 6)) false kids
    rcases hk with rfl | rfl <;> exact h
theorem PB.image (d t : Str8) (kids : Is) (h : Fm false false kids) : PB { i := { kind := 7, dest := d, title := t }, kids := kids } := by
  have key : ∀ link, PE link { i := { kind := 7, dest := d, title := t }, kids := kids } := fun link =>
    .inr ⟨(show (7 : Nat) ≠ 0 by decide), ⟨(show (7 : Nat) ≤ 8 by decide), fun _ _ _ => rfl, fun e => absurd (show (7 : Nat) < 4 ∨ 7 < 7 from e) (by decide), fun _ e => absurd rfl e, fun e => (by rcases e with e | e <;> cases e), fun _ e => (by cases e), fun e => (by rcases e with e | e <;> cases e)⟩, h⟩
  exact ⟨key true, key false⟩

/-- What stays so while a text is read. -/
structure Rd.Fo (l : Str8) (r : Rd) : Prop where
  pts : PtsOk false r.parts
  pl : ∀ idx o, r.openers[idx]? = some o → o.kind ≠ 7 → r.inactive ≤ idx → ∀ p ∈ r.parts.drop (o.part + 1), PE true p
  last : ∀ p, r.parts.getLast? = some p → p.d.opens = true → r.frm = r.at0 → l[r.at0]? ≠ some p.d.sign
theorem Rd.Fo.first (l : Str8) : Rd.Fo l {} := ⟨⟨fun p hp => (by cases hp), fun p hp => (by cases hp), fun p hp => (by cases hp), fun i p q hp => (by cases hp)⟩, fun i o h => (by cases h), fun p h => (by cases h)⟩
theorem Rd.Fo.pass {l : Str8} {r : Rd} (hok : r.Ok l) (h : r.Fo l) {n : Nat} (hn : 0 < n) : (r.pass n).Fo l :=
  ⟨h.pts, h.pl, fun p _ _ e => by
    have e : r.frm = r.at0 + n := e
    have := hok.frm
    omega⟩
/-- A part more. -/
theorem Rd.Fo.push {l : Str8} {r : Rd} (hok : r.Ok l) (h : r.Fo l) (p : Pt) (hp : PB p) (hs : Sol p) (hk : p.d.closes = true ∨ p.d.opens = true → p.i.kind = 0) (ha : ∀ q, r.parts.getLast? = some q → ApartP q p) (a f : Nat) (hl : p.d.opens = true → f = a → l[a]? ≠ some p.d.sign) :
    Rd.Fo l { r with parts := r.parts ++ [p], at0 := a, frm := f } := by
  refine ⟨h.pts.snoc p hp.2 hs hk ha, fun idx o ho hk7 hi q hq => ?_, fun q hq ho e => ?_⟩
  · have hlt := (hok.ops o (List.mem_of_getElem? ho)).1
    simp only at hq
    rw [List.drop_append_of_le_length (by omega)] at hq
    rcases List.mem_append.1 hq with hq | hq
    · exact h.pl idx o ho hk7 hi q hq
    · rw [List.mem_singleton.1 hq]; exact hp.1
  · simp only [List.getLast?_append, List.getLast?_singleton, Option.some_or, Option.some.injEq] at hq
    subst hq
    exact hl ho e
theorem ApartP.plain {q p : Pt} (h : p.d.closes = false) : ApartP q p := fun _ e => by rw [h] at e; cases e
theorem Rd.Fo.endText {l : Str8} {r : Rd} (hok : r.Ok l) (h : r.Fo l) : (r.endText l).Fo l := by
  by_cases hlt : r.frm < r.at0
  · have e : r.endText l = { r with parts := r.parts ++ [{ i := { text := (l.take r.at0).drop r.frm } }], at0 := r.at0, frm := r.at0 } := by unfold Rd.endText; rw [if_pos hlt]
    rw [e]
    refine h.push hok { i := { text := (l.take r.at0).drop r.frm } } (PB.text _ {}) (.inr ?_) (fun e => by rcases e with e | e <;> cases e) (fun q _ => ApartP.plain rfl) _ _ (fun e => by cases e)
    show (l.take r.at0).drop r.frm ≠ []
    intro e
    have h1 := congrArg List.length e
    rw [List.length_drop, List.length_take, List.length_nil] at h1
    have h2 := hok.at0
    omega
  · have e : r.endText l = { r with frm := r.at0 } := by unfold Rd.endText; rw [if_neg hlt, List.append_nil]
    have hf : r.frm = r.at0 := by have := hok.frm; omega
    rw [e]
    exact ⟨h.pts, h.pl, fun p hp ho _ => h.last p hp ho hf⟩
/-- What stands last behind the end of a text has another sign than what is ahead. -/
theorem Rd.Fo.add {l : Str8} {r : Rd} (hok : r.Ok l) (h : r.Fo l) (p : Pt) (n : Nat) (hp : PB p) (hs : Sol p) (hk : p.d.closes = true ∨ p.d.opens = true → p.i.kind = 0) (ha : p.d.closes = true → l[r.at0]? = some p.d.sign) (hl : p.d.opens = true → l[r.at0 + n]? ≠ some p.d.sign) : (r.add l p n).Fo l := by
  have he := h.endText hok
  rw [Rd.add_is]
  refine he.push hok.endText p hp hs hk (fun q hq ho hc => ?_) (r.at0 + n) (r.at0 + n) (fun ho _ => hl ho)
  have := he.last q hq ho rfl
  intro e
  apply this
  rw [e]
  exact ha hc
theorem Rd.Fo.plain {l : Str8} {r : Rd} (hok : r.Ok l) (h : r.Fo l) (p : Pt) (n : Nat) (hp : PB p) (hs : Sol p) (h1 : p.d.closes = false) (h2 : p.d.opens = false) : (r.add l p n).Fo l :=
  h.add hok p n hp hs (fun e => by rw [h1, h2] at e; rcases e with e | e <;> cases e) (fun e => by rw [h1] at e; cases e) (fun e => by rw [h2] at e; cases e)
theorem Rd.Fo.opener {l : Str8} {r : Rd} (hok : r.Ok l) (h : r.Fo l) {t : Str8} (ht : t ≠ []) (k : Nat) : Rd.Fo l { r.add l { i := { text := t } } t.length with openers := (r.add l { i := { text := t } } t.length).openers ++ [{ kind := k, part := (r.add l { i := { text := t } } t.length).parts.length - 1, start := (r.add l { i := { text := t } } t.length).at0 - 1 }] } := by
  have ha := h.plain hok { i := { text := t } } t.length (PB.text t {}) (.inr ht) rfl rfl
  refine ⟨ha.pts, fun idx o ho hk7 hi q hq => ?_, ha.last⟩
  simp only at ho hq hi
  by_cases hlt : idx < (r.add l { i := { text := t } } t.length).openers.length
  · rw [List.getElem?_append_left hlt] at ho
    exact ha.pl idx o ho hk7 hi q hq
  · rw [List.getElem?_append_right (by omega)] at ho
    have := (List.getElem?_eq_some_iff.1 ho).1
    rw [List.length_singleton] at this
    rw [show idx - (r.add l { i := { text := t } } t.length).openers.length = 0 by omega] at ho
    simp only [List.getElem?_cons_zero, Option.some.injEq] at ho
    subst ho
    simp only at hq
    rw [List.drop_of_length_le (by omega)] at hq
    cases hq
theorem Rd.Fo.closer {l : Str8} {df : List Df8} {r : Rd} (hok : r.Ok l) (hkd : Knd r) (h : r.Fo l) (hat : r.at0 < l.length) : (r.closer l df).Fo l := by
  rcases List.eq_nil_or_concat r.openers with he | ⟨os, o, he⟩
  · rw [closer_none l df r he]
    exact h.pass hok (by omega)
  · rw [List.concat_eq_append] at he
    have hold : ∀ idx x, os[idx]? = some x → r.openers[idx]? = some x ∧ idx < os.length := fun idx x hx => by
      have := (List.getElem?_eq_some_iff.1 hx).1
      rw [he, List.getElem?_append_left this]
      exact ⟨hx, this⟩
    have h1 : Rd.Fo l { r with openers := os, inactive := min r.inactive os.length } := ⟨h.pts, fun idx x hx hk7 hi => by
      obtain ⟨g1, g2⟩ := hold idx x hx
      exact h.pl idx x g1 hk7 (by have hi : min r.inactive os.length ≤ idx := hi; omega), h.last⟩
    have hok1 : Rd.Ok l { r with openers := os, inactive := min r.inactive os.length } := hok.drop he _ (by have := hok.ina; omega)
    have hko : o.kind = 6 ∨ o.kind = 7 := hkd o (by rw [he]; simp)
    have hoi : r.openers[os.length]? = some o := by rw [he, List.getElem?_append_right (Nat.le_refl _), Nat.sub_self]; rfl
    rw [closer_some l df r he]
    simp only
    split
    · exact h1.pass hok1 (by omega)
    · rename_i hact
      split
      · exact h1.pass hok1 (by omega)
      · rename_i d n ht
        -- the parts as they are when the text ahead has ended
        have hE : (r.endText l).Fo l := h.endText hok
        have hEok := hok.endText
        have ep : (Rd.endText l { r with openers := os, inactive := min r.inactive os.length }).parts = (r.endText l).parts := rfl
        have hord : ∀ x ∈ os, x.part < o.part := fun x hx => by
          have := hok.ord
          rw [he, List.map_append] at this
          exact (List.pairwise_append.1 this).2.2 _ (List.mem_map_of_mem hx) _ (by simp)
        have hkids : Fm (o.kind != 7) false (emphI ((r.endText l).parts.drop (o.part + 1))) := by
          rcases hko with h6 | h7
          · rw [h6]
            have hin : r.inactive ≤ os.length := by
              rw [h6] at hact
              simpa using hact
            refine emph_fm _ ⟨?_, (hE.pts.drop _).sol, (hE.pts.drop _).kd, (hE.pts.drop _).adj⟩
            exact hE.pl os.length o hoi (by rw [h6]; decide) hin
          · rw [h7]
            exact emph_fm _ (hE.pts.drop _)
        obtain ⟨ps, hps⟩ : ∃ ps, ps = (r.endText l).parts := ⟨_, rfl⟩
        have hpts := hE.pts
        have hpl := hE.pl
        rw [← hps] at hpts hpl hkids
        rw [ep, ← hps]
        obtain ⟨K, hK⟩ : ∃ K : Pt, K = { i := { kind := o.kind, dest := d.1, title := d.2 }, kids := emphI (ps.drop (o.part + 1)) } := ⟨_, rfl⟩
        have hadd : Rd.add l { Rd.endText l { r with openers := os, inactive := min r.inactive os.length } with parts := ps.take o.part } K n = { at0 := r.at0 + n, frm := r.at0 + n, parts := ps.take o.part ++ [K], openers := os, inactive := min r.inactive os.length } := by
          unfold Rd.add Rd.endText
          simp only
          rw [if_neg (Nat.lt_irrefl _), List.append_nil]
        have hKp : PE false K := by rw [hK]; exact PE.link hko _ _ _ hkids
        have hKk : K.i.kind = o.kind := by rw [hK]
        have hKd : K.d = {} := by rw [hK]
        have hKs : Sol K := .inl (by rw [hKk]; omega)
        have hp2 : PtsOk false (ps.take o.part ++ [K]) := (hpts.take o.part).snoc K hKp hKs (fun e => by rw [hKd] at e; rcases e with e | e <;> cases e) (fun q _ => ApartP.plain (by rw [hKd]))
        have hlast : ∀ p, (ps.take o.part ++ [K]).getLast? = some p → p.d.opens = true → False := fun p hp ho => by
          simp only [List.getLast?_append, List.getLast?_singleton, Option.some_or, Option.some.injEq] at hp
          rw [← hp, hKd] at ho
          cases ho
        rw [← hK, hadd]
        split
        · refine ⟨hp2, fun idx x hx _ hi => ?_, fun p hp ho _ => (hlast p hp ho).elim⟩
          have := (hold idx x hx).2
          have hi : os.length ≤ idx := hi
          omega
        · rename_i h6
          have h7 : o.kind = 7 := by rcases hko with e | e; exact absurd e h6; exact e
          have hKb : PE true K := by
            rw [hK, h7]
            rw [h7] at hkids
            exact (PB.image _ _ _ hkids).1
          refine ⟨hp2, fun idx x hx hk7 hi q hq => ?_, fun p hp ho _ => (hlast p hp ho).elim⟩
          obtain ⟨g1, g2⟩ := hold idx x hx
          have hi : min r.inactive os.length ≤ idx := hi
          have hxp := hord x (List.mem_of_getElem? hx)
          have hol : o.part < ps.length := by rw [hps]; exact (hEok.ops o (by show o ∈ r.openers; rw [he]; simp)).1
          have hq : q ∈ (ps.take o.part ++ [K]).drop (x.part + 1) := hq
          rw [List.drop_append_of_le_length (by rw [List.length_take]; omega)] at hq
          rcases List.mem_append.1 hq with hq | hq
          · rw [List.drop_take] at hq
            exact hpl idx x g1 hk7 (by show r.inactive ≤ idx; omega) q (List.mem_of_mem_take hq)
          · rw [List.mem_singleton.1 hq]; exact hKb

theorem row_ends (c : UInt8) : ∀ l : Str8, l[rowI (· == c) l]? ≠ some c
  | [] => fun e => by cases e
  | d :: t => by
    unfold rowI
    rw [List.takeWhile_cons]
    split
    · rw [List.length_cons, List.getElem?_cons_succ]
      exact row_ends c t
    · rename_i hd
      intro e
      have e : some d = some c := e
      cases e
      exact hd (by simp)
theorem Rd.Fo.brk {l : Str8} {r : Rd} (hok : r.Ok l) (h : r.Fo l) {kind ahead : Nat} (hk : kind = 1 ∨ kind = 2) : (r.addBreak l kind ahead).Fo l :=
  h.plain hok { i := { kind := kind } } _ (PB.brk kind hk) (.inl (by show kind ≠ 0; omega)) rfl rfl
theorem Rd.Fo.step {l : Str8} {df : List Df8} {r : Rd} (hL : l.length ≤ 1073741824) (hok : r.Ok l) (hk : Knd r) (h : r.Fo l) (hat : r.at0 < l.length) : (r.step l df).Fo l := by
  obtain ⟨c, T, hd⟩ : ∃ c T, l.drop r.at0 = c :: T := ⟨_, _, List.drop_eq_getElem_cons hat⟩
  by_cases h92 : c = 92
  · subst h92
    cases T with
    | nil => rw [bsl_nil l r df hd]; exact h.pass hok (by omega)
    | cons b T0 =>
      rw [bsl_cons l r df b T0 hd]
      split
      · exact h.brk hok (.inr rfl)
      · split
        · have he := h.endText hok
          refine ⟨he.pts, he.pl, fun p _ _ e => ?_⟩
          have e : r.at0 + 1 = r.at0 + 2 := e
          omega
        · exact h.pass hok (by omega)
  · by_cases h32 : c = 32 ∨ c = 10
    · rw [blanks_step l r df hd h32]
      split
      · rename_i h10
        have h0 : 0 < rowI (· == 32) (c :: T) := by
          rcases h32 with rfl | rfl
          · exact rowI_head rfl
          · exact absurd rfl h10
        exact h.pass hok h0
      · split
        · exact h.brk hok (.inl rfl)
        · exact h.brk hok (.inr rfl)
    · by_cases h96 : c = 96
      · subst h96
        rw [code_step l r df hd]
        cases hc : codeL (96 :: T) with
        | some q =>
          obtain ⟨x, z⟩ := q
          exact h.plain hok _ z (PB.code x) (.inl (show (3 : Nat) ≠ 0 by decide)) rfl rfl
        | none => exact h.pass hok (rowI_head rfl)
      · by_cases h60 : c = 60
        · subst h60
          rw [angle_step l r df hd]
          cases hc : autoL (60 :: T) with
          | some q =>
            obtain ⟨d, x, z⟩ := q
            obtain ⟨q1, q2, q3⟩ := auto_told hc
            have q4 : (60 :: T).length ≤ l.length := by rw [← hd, List.length_drop]; omega
            exact h.plain hok _ z (PB.auto d x q1 q2 (by omega)) (.inl (show (6 : Nat) ≠ 0 by decide)) rfl rfl
          | none =>
            show Rd.Fo l (if 0 < rawN (60 :: T) then _ else _)
            split
            · rename_i h0
              refine h.plain hok _ _ (PB.raw ((60 :: T).take (rawN (60 :: T))) ?_) (.inl (show (8 : Nat) ≠ 0 by decide)) rfl rfl
              obtain ⟨m, hm⟩ : ∃ m, rawN (60 :: T) = m + 1 := ⟨rawN (60 :: T) - 1, by omega⟩
              rw [hm, List.take_succ_cons]
              exact fun e => by cases e
            · exact h.pass hok (by omega)
        · by_cases h38 : c = 38
          · subst h38
            rw [ref_step l r df hd]
            split
            · exact h.pass hok (by omega)
            · rename_i h0
              exact h.plain hok _ _ (PB.text (entity (38 :: T)).1 {}) (.inr (entity_ne _ h0)) rfl rfl
          · by_cases h42 : c = 42 ∨ c = 95
            · rw [del_step l r df hd h42]
              have hsg : (delimI l r.at0 (r.at0 + rowI (· == c) (c :: T))).sign = c := by
                have e : l.getD r.at0 0 = c := by
                  rw [List.getD_eq_getElem?_getD, ← Nat.add_zero r.at0, ← List.getElem?_drop, hd]
                  rfl
                unfold delimI
                simp only
                split <;> exact e
              refine h.add hok _ _ (PB.text _ _) (.inr ?_) (fun _ => rfl) (fun _ => ?_) (fun _ => ?_)
              · show (c :: T).take (rowI (· == c) (c :: T)) ≠ []
                have h0 : 0 < rowI (· == c) (c :: T) := rowI_head (by simp)
                obtain ⟨m, hm⟩ : ∃ m, rowI (· == c) (c :: T) = m + 1 := ⟨rowI (· == c) (c :: T) - 1, by omega⟩
                rw [hm, List.take_succ_cons]
                exact fun e => by cases e
              · show l[r.at0]? = some (delimI l r.at0 (r.at0 + rowI (· == c) (c :: T))).sign
                rw [hsg, ← Nat.add_zero r.at0, ← List.getElem?_drop, hd]
                rfl
              · show l[r.at0 + rowI (· == c) (c :: T)]? ≠ some (delimI l r.at0 (r.at0 + rowI (· == c) (c :: T))).sign
                rw [hsg, ← List.getElem?_drop, hd]
                exact row_ends c (c :: T)
            · by_cases h33 : c = 33
              · subst h33
                rw [bang_step l r df hd]
                split
                · exact h.opener hok (t := [33, 91]) (by simp) 7
                · exact h.pass hok (by omega)
              · by_cases h91 : c = 91
                · subst h91
                  rw [open_step l r df hd]
                  exact h.opener hok (t := [91]) (by simp) 6
                · have e : r.step l df = if c = 93 then r.closer l df else r.pass 1 := by
                    unfold Rd.step
                    rw [hd]
                    simp only
                    rw [if_neg h92, if_neg h32, if_neg h96, if_neg h60, if_neg h38, if_neg h42, if_neg h33, if_neg h91]
                  rw [e]
                  split
                  · exact h.closer hok hk hat
                  · exact h.pass hok (by omega)
theorem run_fm (l : Str8) (df : List Df8) (hL : l.length ≤ 1073741824) : ∀ (f : Nat) (r : Rd), r.Ok l → Knd r → r.Fo l → (Rd.runF l df f r).Ok l ∧ (Rd.runF l df f r).Fo l
  | 0, r, hok, _, h => ⟨hok, h⟩
  | f + 1, r, hok, hk, h => by
    unfold Rd.runF
    split
    · rename_i hat
      have hn := Nxt.step (df := df) hok hk hat
      exact run_fm l df hL f _ hn.1 hn.2.1 (h.step hL hok hk hat)
    · exact ⟨hok, h⟩
/-- Whatever is parsed is formed. -/
theorem parse_fm (l : Str8) (df : List Df8) (hL : l.length ≤ 1073741824) : Fm false false (parseI l df) := by
  obtain ⟨hok, h⟩ := run_fm l df hL l.length {} (Rd.Ok.first l) (fun o ho => by cases ho) (Rd.Fo.first l)
  unfold parseI
  exact emph_fm _ (h.endText hok).pts
end Go.Proofs.YtjdijlaoeoikhaaGreatDoor

/- formed, of the laws of layer 8: what it reads, over memory. -/
namespace Go.Proofs.YtjdijlaoeoikhaaGreatDoor
open Go.RowKit

namespace Is
def nth : Is → Nat → Option (II × Is)
  | .nil, _ => none
  | .cons b k _, 0 => some (b, k)
  | .cons _ _ r, i + 1 => nth r i
def size : Is → Nat
  | .nil => 0
  | .cons _ k r => size k + size r + 1
theorem nth_size : ∀ (I : Is) (i : Nat) (b : II) (k : Is), I.nth i = some (b, k) → k.size < I.size
  | .nil, _, _, _, h => by cases h
  | .cons c q r, 0, b, k, h => by
    cases h
    show q.size < q.size + r.size + 1
    omega
  | .cons c q r, i + 1, b, k, h => by
    have := nth_size r i b k h
    show k.size < q.size + r.size + 1
    omega
theorem nth_lt : ∀ (I : Is) (i : Nat), i < I.len → ∃ b k, I.nth i = some (b, k)
  | .nil, i, h => absurd h (Nat.not_lt_zero _)
  | .cons b k r, 0, _ => ⟨b, k, rfl⟩
  | .cons b k r, i + 1, h => nth_lt r i (by have h : i + 1 < r.len + 1 := h; omega)
end Is
theorem kid_nth {w : World} {S : Nat → Prop} : ∀ (I : Is) (xs : List Value) (i : Nat) (b : II) (k : Is), KidI w S I xs → I.nth i = some (b, k) →
    ∃ v ys, (∀ j u, (iiCells b v)[j]? = some u → xs[i * 5 + j]? = some u) ∧ w.ownsRow 0 32 5 v k.len ys ∧ KidI w S k ys
  | .nil, _, _, _, _, _, h => by cases h
  | .cons c q r, xs, 0, b, k, ⟨v, ys, zs, h1, h2, h3, h4, h5⟩, h => by
    cases h
    refine ⟨v, ys, fun j u hu => ?_, h2, h4⟩
    rw [h1, Nat.zero_mul, Nat.zero_add, List.getElem?_append_left (List.getElem?_eq_some_iff.1 hu).1]
    exact hu
  | .cons c q r, xs, i + 1, b, k, ⟨v, ys, zs, h1, h2, h3, h4, h5⟩, h => by
    obtain ⟨v', ys', a1, a2, a3⟩ := kid_nth r zs i b k h5 h
    refine ⟨v', ys', fun j u hu => ?_, a2, a3⟩
    have hl : (iiCells c v).length = 5 := rfl
    rw [h1, List.getElem?_append_right (by omega), ← a1 j u hu]
    congr 1
    omega
theorem fm_nth {link : Bool} : ∀ (I : Is) (pt : Bool) (i : Nat) (b : II) (k : Is), Fm link pt I → I.nth i = some (b, k) →
    El link b k ∧ Fm (b.kind != 7 && (link || b.kind == 6)) false k ∧ ∀ c q, 0 < i → I.nth (i - 1) = some (c, q) → c.kind = 0 → b.kind ≠ 0
  | .nil, _, _, _, _, _, h => by cases h
  | .cons c q r, pt, 0, b, k, ⟨h1, h2, h3, h4⟩, h => by
    cases h
    exact ⟨h1, h3, fun _ _ e => absurd e (Nat.lt_irrefl _)⟩
  | .cons c q r, pt, i + 1, b, k, ⟨h1, h2, h3, h4⟩, h => by
    obtain ⟨a1, a2, a3⟩ := fm_nth r (c.kind == 0) i b k h4 h
    refine ⟨a1, a2, fun c' q' _ hn hc => ?_⟩
    cases i with
    | zero =>
      have e : some (c, q) = some (c', q') := hn
      cases e
      cases r with
      | nil => cases h
      | cons d m s =>
        have e : some (d, m) = some (b, k) := h
        cases e
        have := h4.2.1
        rw [hc] at this
        exact this rfl
    | succ i => exact a3 c' q' (by omega) hn hc
theorem InRow.keep {w w' : World} {I : Is} {v : Value} (h : InRow w I v) (hb : Below w.heap.size w w') : InRow w' I v := by
  obtain ⟨ys, h1, h2⟩ := h
  exact ⟨ys, irow_keeps h1 (fun g hg => hb.block g (World.ownsRow.lt h1 g hg).2), KidI.keeps (fun g h => h) (fun g hg _ => hb.block g hg) I ys h2⟩
/-- An inline of a row: its cells, and what is in it. -/
theorem inrow_nth {w : World} {I : Is} {v : Value} (h : InRow w I v) : ∃ a c, v = .slice a I.len c ∧ ∀ i b k, I.nth i = some (b, k) → ∃ g v', a = some ⟨g, 0, none⟩ ∧ w.cell? ⟨g, i * 5, none⟩ = some (.int .i64 (b.kind : Int)) ∧ w.cell? ⟨g, i * 5 + 1, none⟩ = some (strW b.text) ∧ w.cell? ⟨g, i * 5 + 2, none⟩ = some (strW b.dest) ∧ w.cell? ⟨g, i * 5 + 3, none⟩ = some (strW b.title) ∧ w.cell? ⟨g, i * 5 + 4, none⟩ = some v' ∧ InRow w k v' := by
  obtain ⟨ys, hr, hk⟩ := h
  obtain ⟨a, c, rfl⟩ := row_len hr
  refine ⟨a, c, rfl, fun i b k hn => ?_⟩
  obtain ⟨v', zs, h1, h2, h3⟩ := kid_nth I ys i b k hk hn
  obtain ⟨g, rfl, _, q0⟩ := row_cell hr (h1 0 _ rfl)
  refine ⟨g, v', rfl, q0, ?_, ?_, ?_, ?_, zs, h2, h3⟩
  · obtain ⟨g', e, _, q⟩ := row_cell hr (h1 1 _ rfl); cases e; exact q
  · obtain ⟨g', e, _, q⟩ := row_cell hr (h1 2 _ rfl); cases e; exact q
  · obtain ⟨g', e, _, q⟩ := row_cell hr (h1 3 _ rfl); cases e; exact q
  · obtain ⟨g', e, _, q⟩ := row_cell hr (h1 4 _ rfl); cases e; exact q

theorem al8f {w : World} {a : Addr} {v : Value} (h : w.cell? a = some v) (o : Obj) : (w.alloc o).cell? a = some v := (((Below.refl w.heap.size w).alloc (Nat.le_refl _) o).cell (p := a) (World.block_lt_of_cell? w a h)).trans h

set_option maxHeartbeats 8000000 in
set_option maxRecDepth 20000 in
theorem iauto_any (b : II) (k : Is) (v : Value) (w : World) (ha : autoP b k) (hr : InRow w k v) :
    Calls Tryz.prog 13 #[.agg #[.int .i64 (b.kind : Int), strI b.text, strI b.dest, strI b.title, v]] w fun e w' => e = .returned (.bool true) ∧ Below w.heap.size w w' := by
  obtain ⟨ht, x, hk, hd, hxl⟩ := ha
  subst hk
  obtain ⟨g, c, v', rfl, k0, k1, k4, _⟩ := inrow_one hr
  obtain ⟨kd, tx, ds, tt⟩ := b
  simp only at ht hd
  subst ht
  have e1 := sadd8 [109, 97, 105, 108, 116, 111, 58] x (by simp only [List.length_cons, List.length_nil]; omega)
  have k0a := fun o => al8f k0 o
  have k1a := fun o => al8f k1 o
  have HB : Hid (∀ o, Below w.heap.size w (w.alloc o).drew) := fun o => ((Below.refl _ _).alloc (Nat.le_refl _) o).trans ⟨rfl, rfl, rfl, Nat.le_refl _, fun k hk => rfl⟩
  clear hr k0 k1 k4
  rcases hd with rfl | hd
  · have h1 := (show (ds == ds) = true by simp)
    go_enter Tryz.func13, Tryz.ntmps13
    go_wp2
    go_region
    all_goals (go_wp2_with fail)
    all_goals go_ret
    all_goals exact ⟨rfl, HB.out _⟩
  · have h1 := (show (ds == ds) = true by simp)
    have h2 : (ds == x) = false := by
      rw [beq_eq_false_iff_ne]
      intro e
      have := congrArg List.length (hd.symm.trans e)
      simp at this
      omega
    rw [show ([109, 97, 105, 108, 116, 111, 58] : Str8) ++ x = ds from hd.symm] at e1
    clear hd
    go_enter Tryz.func13, Tryz.ntmps13
    go_wp2
    go_region
    all_goals (go_wp2_with fail)
    all_goals go_ret
    all_goals exact ⟨rfl, HB.out _⟩

def FormIH (n : Nat) : Prop := ∀ (I : Is) (link : Bool) (v : Value) (w : World), I.size < n → Fm link false I → InRow w I v → Calls Tryz.prog 8 #[v, .bool link] w fun e w' => e = .returned (.bool true) ∧ Below w.heap.size w w'
theorem form_start {w : World} {I : Is} {v : Value} (h : InRow w I v) : ∃ a cp, v = .slice a I.len cp ∧ I.len ≤ 9223372036854775807 := by
  obtain ⟨ys, h1, _⟩ := h
  obtain ⟨a, c, rfl⟩ := row_len h1
  have := row_cap h1
  exact ⟨a, c, rfl, by omega⟩
theorem len_pos {k : Is} (h : k ≠ .nil) : 0 < k.len := by
  cases k with
  | nil => exact absurd rfl h
  | cons a b c => exact Nat.succ_pos _
/-- What is known of an inline of a row. -/
structure FormAt (n : Nat) (link : Bool) (u : World) (g j kd : Nat) (tx ds tt : Str8) (k : Is) (ak : Option Addr) (ck : Nat) : Prop where
  q0 : u.cell? ⟨g, j * 5, none⟩ = some (.int .i64 (kd : Int))
  q1 : u.cell? ⟨g, j * 5 + 1, none⟩ = some (strI tx)
  q2 : u.cell? ⟨g, j * 5 + 2, none⟩ = some (strI ds)
  q3 : u.cell? ⟨g, j * 5 + 3, none⟩ = some (strI tt)
  q4 : u.cell? ⟨g, j * 5 + 4, none⟩ = some (.slice ak k.len ck)
  row : InRow u k (.slice ak k.len ck)
  sz : k.size < n
  el : El link { kind := kd, text := tx, dest := ds, title := tt } k
  fm : Fm (kd != 7 && (link || kd == 6)) false k
theorem form_at {n : Nat} {link : Bool} {u : World} {I : Is} {a : Option Addr} {cp : Nat} (hn : I.size = n) (hf : Fm link false I) (hr : InRow u I (.slice a I.len cp)) (j : Nat) (hj : j < I.len) :
    ∃ kd tx ds tt k ak ck g, a = some ⟨g, 0, none⟩ ∧ FormAt n link u g j kd tx ds tt k ak ck ∧ (0 < j → kd = 0 → ∃ pk : Nat, pk ≠ 0 ∧ pk ≤ 8 ∧ u.cell? ⟨g, (j - 1) * 5, none⟩ = some (.int .i64 (pk : Int))) := by
  obtain ⟨b, k, hnt⟩ := Is.nth_lt I j hj
  obtain ⟨a', c', ev, hcell⟩ := inrow_nth hr
  cases ev
  obtain ⟨g, v', hga, q0, q1, q2, q3, q4, hrk⟩ := hcell j b k hnt
  subst hga
  obtain ⟨hel, hfk, hpr⟩ := fm_nth I false j b k hf hnt
  have hsz := Is.nth_size I j b k hnt
  rw [hn] at hsz
  obtain ⟨ak, ck, hvk, _⟩ := form_start hrk
  subst hvk
  refine ⟨b.kind, b.text, b.dest, b.title, k, ak, ck, g, rfl, ⟨q0, q1, q2, q3, q4, hrk, hsz, hel, hfk⟩, fun hj0 hk0 => ?_⟩
  obtain ⟨c, q, hnp⟩ := Is.nth_lt I (j - 1) (by omega)
  obtain ⟨g', v'', hga', p0, _⟩ := hcell (j - 1) c q hnp
  cases hga'
  exact ⟨c.kind, fun e => hpr c q hj0 hnp e hk0, (fm_nth I false (j - 1) c q hf hnp).1.kd, p0⟩
end Go.Proofs.YtjdijlaoeoikhaaGreatDoor
