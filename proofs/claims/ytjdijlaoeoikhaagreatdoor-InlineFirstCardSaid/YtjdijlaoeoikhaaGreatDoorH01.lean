/- Several texts in one. -/
import Derived.Test.YtjdijlaoeoikhaaGreatDoorG05
import Derived.Test.YtjdijlaoeoikhaaGreatDoorG04
set_option linter.unusedVariables false
/- Plain mathematics: stars around a word: what closes what. -/
namespace Go.Proofs.YtjdijlaoeoikhaaGreatDoor

/-- A part within as many Strongs as there are two of the number, the whole within an Emph if one is over. -/
def nestP : Nat → Pt → Pt
  | 0, X => X
  | 1, X => { i := { kind := 4 }, kids := toldI [] [X] }
  | m + 2, X => nestP m { i := { kind := 5 }, kids := toldI [] [X] }

def starP (m : Nat) (c : UInt8) (d : Dl) : Pt := { i := { text := List.replicate m c }, d := d }

theorem star_close (c : UInt8) (a b : Dl) (X : Pt) (m : Nat) (hm : 0 < m) :
    Sn.close { parts := [starP m c a, X], openers := [0] } 0 m =
      if m = 1 then { parts := [nestP 1 X], openers := [] } else if m = 2 then { parts := [nestP 2 X], openers := [] } else { parts := [starP (m - 2) c a, { i := { kind := 5 }, kids := toldI [] [X] }], openers := [0] } := by
  unfold Sn.close Sn.used
  simp only [starP, List.getD_cons_zero, List.length_replicate, List.drop_replicate]
  by_cases h1 : m = 1
  · subst h1
    rfl
  · by_cases h2 : m = 2
    · subst h2
      rfl
    · obtain ⟨k, rfl⟩ : ∃ k, m = k + 3 := ⟨m - 3, by omega⟩
      rw [if_pos (⟨by omega, by omega⟩ : 2 ≤ k + 3 ∧ 2 ≤ k + 3)]
      simp [List.replicate_succ]

theorem star_opener (c : UInt8) (a b : Dl) (X : Pt) (m : Nat) (h1 : a.sign = b.sign) (h2 : a.closes = false) (h3 : b.opens = false) :
    Sn.openerF { parts := [starP m c a, X], openers := [0] } b 1 = some 0 := by
  unfold Sn.openerF
  rw [if_pos]
  simp [fitI, starP, h1, h2, h3]

theorem star_closes (c : UInt8) (a b : Dl) (h1 : a.sign = b.sign) (h2 : a.closes = false) (h3 : b.opens = false) (h4 : b.closes = true) : ∀ (m f : Nat) (X : Pt), 0 < m → m ≤ f →
    Sn.closeF (f + 1) { parts := [starP m c a, X], openers := [0] } (starP m c b) = ({ parts := [nestP m X], openers := [] }, starP 0 c b) := by
  intro m
  induction m using Nat.strongRecOn with
  | ind m ih =>
    intro f X hm hf
    have hne : List.replicate m c ≠ [] := by
      obtain ⟨k, rfl⟩ : ∃ k, m = k + 1 := ⟨m - 1, by omega⟩
      simp [List.replicate_succ]
    unfold Sn.closeF
    rw [if_pos (⟨h4, hne⟩ : (starP m c b).d.closes = true ∧ (starP m c b).i.text ≠ [])]
    have ho := star_opener c a b X m h1 h2 h3
    show (match Sn.openerF { parts := [starP m c a, X], openers := [0] } b 1 with
      | none => _
      | some i => _) = _
    rw [ho]
    have hl : (starP m c b).i.text.length = m := List.length_replicate ..
    simp only [hl]
    rw [star_close c a b X m hm]
    have hu : Sn.used { parts := [starP m c a, X], openers := [0] } 0 m = if m = 1 then 1 else 2 := by
      unfold Sn.used
      simp only [starP, List.getD_cons_zero, List.length_replicate]
      by_cases h : m = 1
      · subst h; rfl
      · rw [if_pos (⟨by omega, by omega⟩ : 2 ≤ m ∧ 2 ≤ m), if_neg h]
    rw [hu]
    have hend : ∀ (g : Nat) (s : Sn), Sn.closeF g s (starP 0 c b) = (s, starP 0 c b) := fun g s => by
      cases g with
      | zero => rfl
      | succ g =>
        unfold Sn.closeF
        rw [if_neg (fun h => h.2 rfl)]
    by_cases hm1 : m = 1
    · subst hm1
      exact hend f _
    · rw [if_neg hm1, if_neg hm1]
      by_cases hm2 : m = 2
      · subst hm2
        exact hend f _
      · rw [if_neg hm2]
        obtain ⟨g, rfl⟩ : ∃ g, f = g + 1 := ⟨f - 1, by omega⟩
        have hd : ({ starP m c b with i := { (starP m c b).i with text := (starP m c b).i.text.drop 2 } } : Pt) = starP (m - 2) c b := by
          simp [starP, List.drop_replicate]
        rw [hd]
        have := ih (m - 2) (by omega) g { i := { kind := 5 }, kids := toldI [] [X] } (by omega) (by omega)
        rw [this]
        obtain ⟨k, rfl⟩ : ∃ k, m = k + 2 := ⟨m - 2, by omega⟩
        rfl
end Go.Proofs.YtjdijlaoeoikhaaGreatDoor

/- Plain mathematics: stars around a word: what the reader reads of them. -/
namespace Go.Proofs.YtjdijlaoeoikhaaGreatDoor

theorem dull_run (l : Str8) (defs : List Df8) : ∀ (x : Str8) (r : Rd) (t : Str8), (∀ c ∈ x, dullB c = true) → l.drop r.at0 = x ++ t → ∀ f, Rd.runF l defs (f + x.length) r = Rd.runF l defs f (r.pass x.length)
  | [], r, t, _, _, f => rfl
  | c :: y, r, t, hx, hd, f => by
    have hpos : r.at0 < l.length := by
      have : 0 < (l.drop r.at0).length := by rw [hd]; simp
      rw [List.length_drop] at this
      omega
    rw [List.length_cons, show f + (y.length + 1) = (f + y.length) + 1 by omega, run_step l defs _ r hpos, step_dull l defs r c (y ++ t) (by rw [hd]; rfl) (hx c (List.mem_cons_self ..))]
    rw [dull_run l defs y (r.pass 1) t (fun d hd => hx d (List.mem_cons_of_mem _ hd)) (by show l.drop (r.at0 + 1) = _; rw [← List.drop_drop, hd]; rfl) f]
    unfold Rd.pass
    simp only
    rw [Nat.add_assoc, Nat.add_comm 1]

theorem star_row (c : UInt8) (k : Nat) (t : Str8) (ht : t.head? ≠ some c) : rowI (· == c) (List.replicate k c ++ t) = k := by
  unfold rowI
  induction k with
  | zero =>
    rw [List.replicate_zero, List.nil_append]
    cases t with
    | nil => rfl
    | cons d u => rw [List.takeWhile_cons, if_neg (by simpa using ht)]; rfl
  | succ k ih => rw [List.replicate_succ, List.cons_append, List.takeWhile_cons, if_pos (by simp), List.length_cons, ih]

theorem step_stars (l : Str8) (defs : List Df8) (r : Rd) (c : UInt8) (hc : c = 42 ∨ c = 95) (k : Nat) (t : Str8) (h : l.drop r.at0 = List.replicate (k + 1) c ++ t) (ht : t.head? ≠ some c) :
    r.step l defs = r.add l { i := { text := List.replicate (k + 1) c }, d := delimI l r.at0 (r.at0 + (k + 1)) } (k + 1) := by
  have hrow := star_row c (k + 1) t ht
  have htk : (List.replicate (k + 1) c ++ t).take (k + 1) = List.replicate (k + 1) c := by
    have := List.take_left (l₁ := List.replicate (k + 1) c) (l₂ := t)
    rwa [List.length_replicate] at this
  have h' : l.drop r.at0 = c :: (List.replicate k c ++ t) := by rw [h]; rfl
  have e : c :: (List.replicate k c ++ t) = List.replicate (k + 1) c ++ t := rfl
  unfold Rd.step
  simp only
  rw [h']
  simp only
  rw [e, hrow, htk]
  rcases hc with rfl | rfl
  · rw [if_neg (by decide), if_neg (by rintro (e | e) <;> exact absurd e (by decide)), if_neg (by decide), if_neg (by decide), if_neg (by decide), if_pos (.inl rfl)]
  · rw [if_neg (by decide), if_neg (by rintro (e | e) <;> exact absurd e (by decide)), if_neg (by decide), if_neg (by decide), if_neg (by decide), if_pos (.inr rfl)]

theorem dc_low (b : UInt8) (t : Str8) (h : b.toNat < 128) : (dc (b :: t)).1 = b.toNat := by
  rw [dc_def]
  simp [h]
theorem last_low (t : Str8) (b : UInt8) (h : b.toNat < 128) : (Lib.decodeLastL (t ++ [b])).1 = b.toNat := by
  have hg : (t ++ [b]).getD ((t ++ [b]).length - 1) 0 = b := by simp [List.getD]
  unfold Lib.decodeLastL
  rw [if_neg (by simp), hg, if_pos h]

/-- Small letters and digits. -/
def lowB (c : UInt8) : Bool := decide ((97 ≤ c.toNat ∧ c.toNat ≤ 122) ∨ (48 ≤ c.toNat ∧ c.toNat ≤ 57))
theorem low_is {c : UInt8} (h : lowB c = true) : (97 ≤ c.toNat ∧ c.toNat ≤ 122) ∨ (48 ≤ c.toNat ∧ c.toNat ≤ 57) := by simpa [lowB] using h
theorem low_dull {c : UInt8} (h : lowB c = true) : dullB c = true := by
  have h1 := low_is h
  have ne : ∀ d : UInt8, (d.toNat = 10 ∨ d.toNat = 32) → c ≠ d := fun d hd e => by rw [e] at h1; omega
  have h2 : markN c.toNat = false := by unfold markN; rw [decide_eq_false_iff_not]; omega
  unfold dullB
  rw [h2]
  simp [ne 10 (.inl rfl), ne 32 (.inr rfl)]
theorem low_space {c : UInt8} (h : lowB c = true) : spaceN c.toNat = false := by
  have h1 := low_is h
  unfold spaceN
  rw [decide_eq_false_iff_not]
  omega
theorem low_punct {c : UInt8} (h : lowB c = true) : punctN c.toNat = false := by
  have h1 := low_is h
  unfold punctN markN
  rw [Bool.or_eq_false_iff, decide_eq_false_iff_not, decide_eq_false_iff_not]
  omega

/-- Stars with a word behind them, ahead of which nothing stands. -/
theorem delim_front (c : UInt8) (hc : c = 42 ∨ c = 95) (n : Nat) (hn : 0 < n) (z : UInt8) (t : Str8) (hz : lowB z = true) :
    delimI (List.replicate n c ++ z :: t) 0 n = { sign := c, number := n, opens := true, closes := false } := by
  have h1 : lastI ((List.replicate n c ++ z :: t).take 0) = 10 := rfl
  have h2 : firstI ((List.replicate n c ++ z :: t).drop n) = z.toNat := by
    have := List.drop_left (l₁ := List.replicate n c) (l₂ := z :: t)
    rw [List.length_replicate] at this
    rw [this]
    unfold firstI
    rw [if_neg (by simp), dc_low z t (by have := low_is hz; omega)]
  have h3 : (List.replicate n c ++ z :: t).getD 0 0 = c := by
    obtain ⟨k, rfl⟩ : ∃ k, n = k + 1 := ⟨n - 1, by omega⟩
    rfl
  have l1 : flanksI 10 z.toNat = true := by unfold flanksI; rw [low_space hz, low_punct hz]; rfl
  have l2 : flanksI z.toNat 10 = false := by unfold flanksI; rfl
  unfold delimI
  simp only [h1, h2, h3, l1, l2]
  rcases hc with rfl | rfl
  · rw [if_neg (by decide)]; rfl
  · rw [if_pos rfl]; rfl
/-- Stars with a word ahead of them, and nothing behind. -/
theorem delim_back (c : UInt8) (hc : c = 42 ∨ c = 95) (n : Nat) (hn : 0 < n) (z : UInt8) (t : Str8) (hz : lowB z = true) (m : Nat) (hm : m = (t ++ [z]).length) :
    delimI (t ++ [z] ++ List.replicate n c) m (m + n) = { sign := c, number := n, opens := false, closes := true } := by
  have h1 : lastI ((t ++ [z] ++ List.replicate n c).take m) = z.toNat := by
    rw [hm, List.take_left]
    unfold lastI
    rw [if_neg (by simp), last_low t z (by have := low_is hz; omega)]
  have h2 : firstI ((t ++ [z] ++ List.replicate n c).drop (m + n)) = 10 := by
    rw [List.drop_of_length_le (by rw [List.length_append, List.length_replicate, hm]; omega)]
    rfl
  have h3 : (t ++ [z] ++ List.replicate n c).getD m 0 = c := by
    obtain ⟨k, rfl⟩ : ∃ k, n = k + 1 := ⟨n - 1, by omega⟩
    rw [List.getD_eq_getElem?_getD, List.getElem?_append_right (by omega), hm, Nat.sub_self]
    rfl
  have l1 : flanksI z.toNat 10 = false := by unfold flanksI; rfl
  have l2 : flanksI 10 z.toNat = true := by unfold flanksI; rw [low_space hz, low_punct hz]; rfl
  unfold delimI
  simp only [h1, h2, h3, l1, l2]
  rcases hc with rfl | rfl
  · rw [if_neg (by decide)]; simp
  · rw [if_pos rfl]; simp

theorem stars_parse (c : UInt8) (hc : c = 42 ∨ c = 95) (k : Nat) (x : Str8) (hx : ∀ b ∈ x, lowB b = true) (defs : List Df8) :
    parseI (List.replicate (k + 1) c ++ (119 :: x) ++ List.replicate (k + 1) c) defs = toldI [] [nestP (k + 1) { i := { text := 119 :: x } }] := by
  obtain ⟨n, hn⟩ : ∃ n, n = k + 1 := ⟨_, rfl⟩
  obtain ⟨X, hX⟩ : ∃ X : Str8, X = 119 :: x := ⟨_, rfl⟩
  have hXl : ∀ b ∈ X, lowB b = true := fun b hb => by
    rw [hX] at hb
    rcases List.mem_cons.1 hb with rfl | h
    · decide
    · exact hx b h
  obtain ⟨L, hL⟩ : ∃ L, L = List.replicate n c ++ X ++ List.replicate n c := ⟨_, rfl⟩
  have hcl : ∀ b, lowB b = true → b ≠ c := fun b hb e => by
    subst e
    rcases hc with h | h <;> rw [h] at hb <;> exact absurd hb (by decide)
  have hX1 : 1 ≤ X.length := by rw [hX]; simp
  have hLl : L.length = n + X.length + n := by rw [hL]; simp only [List.length_append, List.length_replicate]
  have d0 : L.drop 0 = List.replicate (k + 1) c ++ (X ++ List.replicate n c) := by rw [hL, ← hn, List.append_assoc]; rfl
  have d1 : L.drop n = X ++ List.replicate n c := by
    rw [hL, List.append_assoc]
    have := List.drop_left (l₁ := List.replicate n c) (l₂ := X ++ List.replicate n c)
    rwa [List.length_replicate] at this
  have d2 : L.drop (n + X.length) = List.replicate (k + 1) c ++ [] := by rw [← List.drop_drop, d1, List.drop_left, hn, List.append_nil]
  have e1 : delimI L 0 n = { sign := c, number := n, opens := true, closes := false } := by
    have := delim_front c hc n (by omega) 119 (x ++ List.replicate n c) (by decide)
    rw [hL, hX, List.append_assoc]
    exact this
  obtain ⟨t, z, hz⟩ : ∃ t z, X = t ++ [z] := by
    rcases List.eq_nil_or_concat X with h | ⟨t, z, h⟩
    · rw [h] at hX; cases hX
    · exact ⟨t, z, by rw [h, List.concat_eq_append]⟩
  have e2 : delimI L (n + X.length) (n + X.length + n) = { sign := c, number := n, opens := false, closes := true } := by
    have := delim_back c hc n (by omega) z (List.replicate n c ++ t) (hXl z (by rw [hz]; simp)) (n + X.length) (by rw [hz]; simp)
    rw [hL]
    rw [show List.replicate n c ++ t ++ [z] = List.replicate n c ++ X by rw [hz, List.append_assoc]] at this
    exact this
  have s0 : ({} : Rd).step L defs = { at0 := n, frm := n, parts := [starP n c { sign := c, number := n, opens := true, closes := false }] } := by
    rw [step_stars L defs {} c hc k _ d0 (by
      rw [hX]
      simp only [List.cons_append, List.head?_cons, ne_eq, Option.some.injEq]
      exact hcl 119 (by decide))]
    show Rd.add L {} _ (k + 1) = _
    have e1' : delimI L ({} : Rd).at0 (({} : Rd).at0 + (k + 1)) = { sign := c, number := n, opens := true, closes := false } := by
      rw [← hn]
      show delimI L 0 (0 + n) = _
      rw [Nat.zero_add]
      exact e1
    rw [e1', ← hn]
    unfold Rd.add Rd.endText
    simp only
    rw [if_neg (by decide), Nat.zero_add]
    rfl
  have hp : ∀ r : Rd, r.at0 = L.length → ∀ f, Rd.runF L defs f r = r := fun r h f => by
    cases f with
    | zero => rfl
    | succ f => unfold Rd.runF; rw [if_neg (by omega)]
  have htx : (L.take (n + X.length)).drop n = X := by
    have := take_more (l := L) (a := n) (f := n) (n := X.length) (x := X) (y := List.replicate n c) d1 rfl (Nat.le_refl _) (by omega)
    rw [this, List.drop_of_length_le (by rw [List.length_take]; omega), List.nil_append]
  have s2 : ({ at0 := n + X.length, frm := n, parts := [starP n c { sign := c, number := n, opens := true, closes := false }] } : Rd).step L defs = { at0 := n + X.length + n, frm := n + X.length + n, parts := [starP n c { sign := c, number := n, opens := true, closes := false }, { i := { text := X } }, starP n c { sign := c, number := n, opens := false, closes := true }] } := by
    rw [step_stars L defs { at0 := n + X.length, frm := n, parts := [starP n c { sign := c, number := n, opens := true, closes := false }] } c hc k [] d2 (by simp)]
    have e2' : delimI L (n + X.length) (n + X.length + (k + 1)) = { sign := c, number := n, opens := false, closes := true } := by
      rw [← hn]
      exact e2
    show Rd.add L _ { i := { text := List.replicate (k + 1) c }, d := delimI L (n + X.length) (n + X.length + (k + 1)) } (k + 1) = _
    rw [e2', ← hn]
    unfold Rd.add Rd.endText
    simp only
    rw [if_pos (by omega), htx]
    rfl
  have hrun : Rd.runF L defs L.length {} = { at0 := n + X.length + n, frm := n + X.length + n, parts := [starP n c { sign := c, number := n, opens := true, closes := false }, { i := { text := X } }, starP n c { sign := c, number := n, opens := false, closes := true }] } := by
    obtain ⟨F, hF⟩ : ∃ F, L.length = (F + 1 + X.length) + 1 := ⟨2 * n - 2, by omega⟩
    conv => lhs; rw [hF]
    rw [run_step L defs _ _ (by show 0 < _; omega), s0]
    rw [dull_run L defs X { at0 := n, frm := n, parts := [starP n c { sign := c, number := n, opens := true, closes := false }] } (List.replicate n c) (fun b hb => low_dull (hXl b hb)) d1]
    rw [run_step L defs _ _ (by show n + X.length < _; omega)]
    show Rd.runF L defs F (Rd.step L defs { at0 := n + X.length, frm := n, parts := [starP n c { sign := c, number := n, opens := true, closes := false }] }) = _
    rw [s2]
    exact hp _ (by show n + X.length + n = _; omega) F
  rw [← hX, ← hn, ← hL]
  unfold parseI
  rw [hrun]
  unfold Rd.endText
  simp only
  rw [if_neg (by omega), List.append_nil]
  obtain ⟨a, ha⟩ : ∃ a : Dl, a = { sign := c, number := n, opens := true, closes := false } := ⟨_, rfl⟩
  obtain ⟨b, hb⟩ : ∃ b : Dl, b = { sign := c, number := n, opens := false, closes := true } := ⟨_, rfl⟩
  rw [← ha, ← hb]
  have hne : List.replicate n c ≠ [] := by rw [hn, List.replicate_succ]; simp
  have t1 : Sn.take {} (starP n c a) = { parts := [starP n c a], openers := [0] } := by
    have hcf : Sn.closeF ((starP n c a).i.text.length + 1) {} (starP n c a) = ({}, starP n c a) := by
      unfold Sn.closeF
      rw [if_neg (by rw [show (starP n c a).d.closes = false by rw [ha]; rfl]; simp)]
    unfold Sn.take
    simp only
    rw [hcf]
    simp only
    rw [if_pos ⟨by rw [ha]; rfl, hne⟩]
    rfl
  have t2 : Sn.take { parts := [starP n c a], openers := [0] } { i := { text := X } } = { parts := [starP n c a, { i := { text := X } }], openers := [0] } := take_text _ _ rfl rfl
  have t3 : Sn.take { parts := [starP n c a, { i := { text := X } }], openers := [0] } (starP n c b) = { parts := [nestP n { i := { text := X } }, starP 0 c b], openers := [] } := by
    have hcf : Sn.closeF ((starP n c b).i.text.length + 1) { parts := [starP n c a, { i := { text := X } }], openers := [0] } (starP n c b) = ({ parts := [nestP n { i := { text := X } }], openers := [] }, starP 0 c b) :=
      star_closes c a b (by rw [ha, hb]) (by rw [ha]) (by rw [hb]) (by rw [hb]) n _ _ (by omega) (by show n ≤ (List.replicate n c).length; rw [List.length_replicate]; exact Nat.le_refl n)
    unfold Sn.take
    simp only
    rw [hcf]
    simp only
    rw [if_neg (fun h => h.2 rfl)]
    rfl
  unfold emphI
  simp only [List.foldl_cons, List.foldl_nil]
  rw [t1, t2, t3]
  have hk : (starP 0 c b).i.kind = 0 := rfl
  have ht : (starP 0 c b).i.text = [] := rfl
  show toldI [] [nestP n { i := { text := X } }, starP 0 c b] = toldI [] [nestP n { i := { text := X } }]
  generalize nestP n { i := { text := X } } = P
  by_cases h : P.i.kind = 0
  · simp [toldI, h, hk, ht]
  · simp [toldI, h, hk, ht]
end Go.Proofs.YtjdijlaoeoikhaaGreatDoor

/- Plain mathematics: a link between two words leads where it says. -/
namespace Go.Proofs.YtjdijlaoeoikhaaGreatDoor

theorem low_pl {c : UInt8} (h : lowB c = true) : lnk.plC c := by
  have := low_is h
  unfold lnk.plC
  omega
theorem enc_low (c : UInt8) (h : c.toNat < 128) : enc c.toNat = [c] := by
  have e : enc c.toNat = [((c.toNat : Int)).toNat.toUInt8] := by simp [enc, Lib.encodeRune, Lib.encodeRuneZ_one (r := (c.toNat : Int)) (by omega) (by omega)]
  rw [e]
  simp
theorem runes_low : ∀ w : Str8, (∀ c ∈ w, c.toNat < 128) → runes w = w.map UInt8.toNat
  | [], _ => rfl
  | c :: t, h => by
    rw [runes_one c t (h c (List.mem_cons_self ..)), runes_low t (fun d hd => h d (List.mem_cons_of_mem _ hd))]
    rfl
theorem fold_low (w : Str8) (h : ∀ c ∈ w, lowB c = true) : fold w = w := by
  have h1 : ∀ c ∈ w, c.toNat < 128 := fun c hc => by have := low_is (h c hc); omega
  unfold fold
  rw [runes_low w h1]
  have := foldS_fix (w.map UInt8.toNat) [] [] (fun y hy => by
    obtain ⟨c, hc, rfl⟩ := List.mem_map.1 hy
    refine ⟨low_space (h c hc), ?_⟩
    have := low_is (h c hc)
    unfold smallR
    rw [if_neg (by omega)]
    unfold lower
    rw [if_neg (by omega), if_neg (by omega)])
  rw [List.append_nil, List.nil_append] at this
  rw [this]
  show encAll (w.map UInt8.toNat) = w
  clear this h
  induction w with
  | nil => rfl
  | cons c t ih =>
    rw [List.map_cons, encAll_cons, enc_low c (h1 c (List.mem_cons_self ..)), ih (fun d hd => h1 d (List.mem_cons_of_mem _ hd))]
    rfl

theorem label_low {x : Str8} (h : ∀ c ∈ x, lowB c = true) (hl : x.length ≤ 900) (v : Str8) : lnk.labelL ((91 :: (119 :: x) ++ [93]) ++ v) = some (119 :: x, (119 :: x).length + 2) := by
  have hw : ∀ c ∈ (119 :: x : Str8), lowB c = true := fun c hc => by
    rcases List.mem_cons.1 hc with rfl | q
    · decide
    · exact h c q
  have hs : lnk.scanU 93 (· == 91) ((119 :: x) ++ 93 :: v) = some v := by
    have := lnk.scan_esc lnk.bars_label (119 :: x) (93 :: v) (fun c hc => lnk.pl_10 (low_pl (hw c hc))) (.inr ⟨v, rfl⟩)
    rw [lnk.pl_marks _ (fun c hc => low_pl (hw c hc))] at this
    rw [this]
    exact lnk.scan_one v
  have hcat : ((91 :: (119 :: x) ++ [93]) ++ v) = 91 :: ((119 :: x) ++ 93 :: v) := by simp
  rw [hcat]
  simp only [lnk.labelL, if_true]
  rw [hs]
  simp only
  have hl2 : ((119 :: x) ++ 93 :: v).length - (v.length + 1) = x.length + 1 := by simp <;> omega
  have ht : ((119 :: x) ++ 93 :: v).take (((119 :: x) ++ 93 :: v).length - (v.length + 1)) = 119 :: x := by
    rw [hl2]
    exact List.take_left' (by simp)
  rw [ht, hl2, if_pos ⟨by omega, by omega, lnk.fold_letter (by decide) (by decide) _⟩]
  congr 2
  simp <;> omega

/-! ### In round brackets -/

theorem gap_at0 (c : UInt8) (t : Str8) (h : c ≠ 32 ∧ c ≠ 9 ∧ c ≠ 10) : gapI (c :: t) = 0 := by
  have hk : rowI (fun b => b == 32 || b == 9) (c :: t) = 0 := by
    unfold rowI
    rw [List.takeWhile_cons, if_neg (by simp [h.1, h.2.1])]
    rfl
  unfold gapI
  simp only [hk]
  rw [if_neg (by simpa using h.2.2)]
theorem gap_at1 (b c : UInt8) (t : Str8) (hb : b = 32 ∨ b = 9) (h : c ≠ 32 ∧ c ≠ 9 ∧ c ≠ 10) : gapI (b :: c :: t) = 1 := by
  have hk : rowI (fun b => b == 32 || b == 9) (b :: c :: t) = 1 := by
    unfold rowI
    rw [List.takeWhile_cons, if_pos (by rcases hb with rfl | rfl <;> rfl), List.takeWhile_cons, if_neg (by simp [h.1, h.2.1])]
    rfl
  unfold gapI
  simp only [hk]
  rw [if_neg (by simpa using h.2.2)]
theorem gap_at10 (c : UInt8) (t : Str8) (h : c ≠ 32 ∧ c ≠ 9 ∧ c ≠ 10) : gapI (10 :: c :: t) = 1 := by
  have hk : rowI (fun b => b == 32 || b == 9) (10 :: c :: t) = 0 := by
    unfold rowI
    rw [List.takeWhile_cons, if_neg (by decide)]
    rfl
  have hk2 : rowI (fun b => b == 32 || b == 9) (c :: t) = 0 := by
    unfold rowI
    rw [List.takeWhile_cons, if_neg (by simp [h.1, h.2.1])]
    rfl
  unfold gapI
  simp only [hk]
  rw [if_pos (by rfl)]
  show 0 + 1 + rowI _ (c :: t) = 1
  rw [hk2]

theorem inplace_of (g1 q g2 Q g3 z : Str8) (D T : Str8)
    (h1 : gapI (g1 ++ (q ++ (g2 ++ (Q ++ (g3 ++ 41 :: z))))) = g1.length)
    (h2 : lnk.destL (q ++ (g2 ++ (Q ++ (g3 ++ 41 :: z)))) = some (D, q.length)) (h3 : 0 < q.length)
    (h4 : gapI (g2 ++ (Q ++ (g3 ++ 41 :: z))) = g2.length) (h5 : g2.length ≠ 0)
    (h6 : lnk.titleL (Q ++ (g3 ++ 41 :: z)) = some (T, Q.length)) (h7 : Q.length ≠ 0)
    (h8 : gapI (g3 ++ 41 :: z) = g3.length) :
    inPlace (40 :: (g1 ++ (q ++ (g2 ++ (Q ++ (g3 ++ 41 :: z)))))) = some ((D, T), 1 + g1.length + q.length + (g2.length + Q.length) + g3.length + 1) := by
  have d1 : (40 :: (g1 ++ (q ++ (g2 ++ (Q ++ (g3 ++ 41 :: z)))))).drop (1 + g1.length) = q ++ (g2 ++ (Q ++ (g3 ++ 41 :: z))) := by
    rw [Nat.add_comm, List.drop_succ_cons, List.drop_left]
  have d2 : (40 :: (g1 ++ (q ++ (g2 ++ (Q ++ (g3 ++ 41 :: z)))))).drop (1 + g1.length + q.length) = g2 ++ (Q ++ (g3 ++ 41 :: z)) := by
    rw [← List.drop_drop, d1, List.drop_left]
  have d3 : (40 :: (g1 ++ (q ++ (g2 ++ (Q ++ (g3 ++ 41 :: z)))))).drop (1 + g1.length + q.length + (g2.length + Q.length)) = g3 ++ 41 :: z := by
    rw [← List.drop_drop, d2, ← List.drop_drop, List.drop_left, List.drop_left]
  have d4 : (40 :: (g1 ++ (q ++ (g2 ++ (Q ++ (g3 ++ 41 :: z)))))).drop (1 + g1.length + q.length + (g2.length + Q.length) + g3.length) = 41 :: z := by
    rw [← List.drop_drop, d3, List.drop_left]
  have ht : gapTitle (g2 ++ (Q ++ (g3 ++ 41 :: z))) = (T, g2.length + Q.length) := by
    unfold gapTitle
    rw [h4, List.drop_left, h6]
    simp only
    rw [if_neg (by rintro (e | e); exact h5 e; exact h7 e)]
  unfold inPlace
  simp only
  rw [h1, d1, h2]
  simp only [Option.getD_some]
  rw [if_pos h3, d2, ht]
  simp only
  rw [d3, h8, d4]
  simp only [List.head?_cons, if_true]

/-! ### The reader -/

theorem step_open (l : Str8) (defs : List Df8) (r : Rd) (t : Str8) (h : l.drop r.at0 = 91 :: t) :
    r.step l defs = { r.add l { i := { text := [91] } } 1 with openers := (r.add l { i := { text := [91] } } 1).openers ++ [{ kind := 6, part := (r.add l { i := { text := [91] } } 1).parts.length - 1, start := (r.add l { i := { text := [91] } } 1).at0 - 1 }] } := by
  unfold Rd.step
  simp only
  rw [h]
  simp only
  rw [if_neg (by decide), if_neg (by rintro (e | e) <;> exact absurd e (by decide)), if_neg (by decide), if_neg (by decide), if_neg (by decide), if_neg (by rintro (e | e) <;> exact absurd e (by decide)), if_neg (by decide), if_pos trivial]
theorem step_image (l : Str8) (defs : List Df8) (r : Rd) (t : Str8) (h : l.drop r.at0 = 33 :: 91 :: t) :
    r.step l defs = { r.add l { i := { text := [33, 91] } } 2 with openers := (r.add l { i := { text := [33, 91] } } 2).openers ++ [{ kind := 7, part := (r.add l { i := { text := [33, 91] } } 2).parts.length - 1, start := (r.add l { i := { text := [33, 91] } } 2).at0 - 1 }] } := by
  unfold Rd.step
  simp only
  rw [h]
  simp only
  rw [if_neg (by decide), if_neg (by rintro (e | e) <;> exact absurd e (by decide)), if_neg (by decide), if_neg (by decide), if_neg (by decide), if_neg (by rintro (e | e) <;> exact absurd e (by decide)), if_pos trivial, if_pos (by rfl)]
theorem step_closer (l : Str8) (defs : List Df8) (r : Rd) (t : Str8) (h : l.drop r.at0 = 93 :: t) : r.step l defs = r.closer l defs := by
  unfold Rd.step
  simp only
  rw [h]
  simp only
  rw [if_neg (by decide), if_neg (by rintro (e | e) <;> exact absurd e (by decide)), if_neg (by decide), if_neg (by decide), if_neg (by decide), if_neg (by rintro (e | e) <;> exact absurd e (by decide)), if_neg (by decide), if_neg (by decide), if_pos trivial]

def opI (im : Bool) : Str8 := if im then [33, 91] else [91]
def knI (im : Bool) : Nat := if im then 7 else 6

theorem link_words (im : Bool) (X tail D T : Str8) (defs : List Df8) (hX : X ≠ []) (hXl : ∀ b ∈ X, lowB b = true)
    (ht : ∀ (r : Rd) (o : Op), r.at0 = 2 + (opI im).length + X.length → o.start = 2 + (opI im).length - 1 → r.target ([120, 32] ++ opI im ++ X ++ 93 :: (tail ++ [32, 121])) defs o = some ((D, T), 1 + tail.length)) :
    parseI ([120, 32] ++ opI im ++ X ++ 93 :: (tail ++ [32, 121])) defs = .cons { text := [120, 32] } .nil (.cons { kind := knI im, dest := D, title := T } (.cons { text := X } .nil .nil) (.cons { text := [32, 121] } .nil .nil)) := by
  obtain ⟨L, hL⟩ : ∃ L, L = [120, 32] ++ opI im ++ X ++ 93 :: (tail ++ [32, 121]) := ⟨_, rfl⟩
  obtain ⟨k, hk⟩ : ∃ k, k = (opI im).length := ⟨_, rfl⟩
  rw [← hL, ← hk] at ht
  rw [← hL]
  have hk12 : 1 ≤ k ∧ k ≤ 2 := by rw [hk]; unfold opI; split <;> simp
  have hLl : L.length = 2 + k + X.length + 1 + tail.length + 2 := by
    rw [hL, hk]
    simp only [List.length_append, List.length_cons, List.length_nil]
    omega
  have d0 : ∃ t, L.drop 0 = 120 :: t := ⟨_, by rw [hL]; rfl⟩
  have d1 : ∃ c t, L.drop 1 = 32 :: c :: t ∧ c ≠ 32 ∧ c ≠ 10 := by
    rw [hL]
    unfold opI
    cases im
    · exact ⟨91, _, rfl, by decide, by decide⟩
    · exact ⟨33, _, rfl, by decide, by decide⟩
  have d2 : L.drop 2 = opI im ++ (X ++ 93 :: (tail ++ [32, 121])) := by rw [hL]; simp
  have d3 : L.drop (2 + k) = X ++ 93 :: (tail ++ [32, 121]) := by rw [← List.drop_drop, d2, hk, List.drop_left]
  have d4 : L.drop (2 + k + X.length) = 93 :: (tail ++ [32, 121]) := by rw [← List.drop_drop, d3, List.drop_left]
  have d5 : L.drop (2 + k + X.length + (1 + tail.length)) = [32, 121] := by
    rw [← List.drop_drop, d4, Nat.add_comm, List.drop_succ_cons, List.drop_left]
  have d6 : L.drop (2 + k + X.length + (1 + tail.length) + 1) = [121] := by rw [← List.drop_drop, d5]; rfl
  have s0 : (({} : Rd).step L defs) = { at0 := 1 } := by
    obtain ⟨t, d0⟩ := d0
    exact step_dull L defs {} 120 t d0 (by decide)
  have s1 : (Rd.step L defs { at0 := 1 }) = { at0 := 2 } := by
    obtain ⟨c, t, d1, n1, n2⟩ := d1
    rw [step_blank1 L defs { at0 := 1 } c t d1 n1 n2]
    rfl
  have ht2 : (L.take 2).drop 0 = [120, 32] := by rw [hL]; rfl
  obtain ⟨P, hP⟩ : ∃ P : Pt, P = { i := { text := [120, 32] } } := ⟨_, rfl⟩
  obtain ⟨O, hO⟩ : ∃ O : Pt, O = { i := { text := opI im } } := ⟨_, rfl⟩
  have s2 : (Rd.step L defs { at0 := 2 }) = { at0 := 2 + k, frm := 2 + k, parts := [P, O], openers := [{ kind := knI im, part := 1, start := 2 + k - 1 }] } := by
    have hk2 := hk
    unfold opI at d2 hk2
    cases im
    · rw [step_open L defs { at0 := 2 } _ d2]
      have hk1 : k = 1 := hk2
      unfold Rd.add Rd.endText
      simp only
      rw [if_pos (by decide), ht2, hk1, hP, hO]
      rfl
    · rw [step_image L defs { at0 := 2 } _ d2]
      have hk1 : k = 2 := hk2
      unfold Rd.add Rd.endText
      simp only
      rw [if_pos (by decide), ht2, hk1, hP, hO]
      rfl
  have hX1 : 1 ≤ X.length := by cases X with
    | nil => exact absurd rfl hX
    | cons a b => simp
  have htx : (L.take (2 + k + X.length)).drop (2 + k) = X := by
    have := take_more (l := L) (a := 2 + k) (f := 2 + k) (n := X.length) (x := X) (y := 93 :: (tail ++ [32, 121])) d3 rfl (Nat.le_refl _) (by omega)
    rw [this, List.drop_of_length_le (by rw [List.length_take]; omega), List.nil_append]
  obtain ⟨E, hE⟩ : ∃ E, E = 2 + k + X.length + (1 + tail.length) := ⟨_, rfl⟩
  obtain ⟨K, hK⟩ : ∃ K : Pt, K = { i := { kind := knI im, dest := D, title := T }, kids := .cons { text := X } .nil .nil } := ⟨_, rfl⟩
  have hemp : emphI [({ i := { text := X } } : Pt)] = .cons { text := X } .nil .nil := by
    rw [emph_plain _ (fun p hp => by rw [List.mem_singleton.1 hp]; exact ⟨rfl, rfl⟩)]
    simp [toldI, withT, hX]
  have s4 : ∃ inn, Rd.step L defs { at0 := 2 + k + X.length, frm := 2 + k, parts := [P, O], openers := [{ kind := knI im, part := 1, start := 2 + k - 1 }] } = { at0 := E, frm := E, parts := [P, K], inactive := inn } := by
    rw [step_closer L defs { at0 := 2 + k + X.length, frm := 2 + k, parts := [P, O], openers := [{ kind := knI im, part := 1, start := 2 + k - 1 }] } _ d4]
    unfold Rd.closer
    simp only [List.getLast?_singleton, List.length_singleton, Nat.sub_self, List.dropLast_singleton, Nat.min_zero, Nat.zero_le, decide_true, Bool.or_true]
    rw [if_neg (by decide)]
    rw [ht { at0 := 2 + k + X.length, frm := 2 + k, parts := [P, O], openers := [], inactive := 0 } { kind := knI im, part := 1, start := 2 + k - 1 } rfl rfl]
    simp only
    have he : Rd.endText L { at0 := 2 + k + X.length, frm := 2 + k, parts := [P, O], openers := [], inactive := 0 } = { at0 := 2 + k + X.length, frm := 2 + k + X.length, parts := [P, O, { i := { text := X } }], openers := [], inactive := 0 } := by
      unfold Rd.endText
      simp only
      rw [if_pos (by omega), htx]
      rfl
    rw [he]
    simp only [List.take_succ_cons, List.take_zero, List.drop_succ_cons, List.drop_zero]
    rw [hemp]
    have ha : Rd.add L { at0 := 2 + k + X.length, frm := 2 + k + X.length, parts := [P], openers := [], inactive := 0 } { i := { kind := knI im, dest := D, title := T }, kids := .cons { text := X } .nil .nil } (1 + tail.length) = { at0 := E, frm := E, parts := [P, K] } := by
      unfold Rd.add Rd.endText
      simp only
      rw [if_neg (by omega), ← hE, hK]
      rfl
    rw [ha]
    split
    · exact ⟨_, rfl⟩
    · exact ⟨_, rfl⟩
  obtain ⟨inn, s4⟩ := s4
  rw [← hE] at d5 d6
  have s5 : Rd.step L defs { at0 := E, frm := E, parts := [P, K], inactive := inn } = { at0 := E + 1, frm := E, parts := [P, K], inactive := inn } := by
    rw [step_blank1 L defs { at0 := E, frm := E, parts := [P, K], inactive := inn } 121 [] d5 (by decide) (by decide)]
    rfl
  have s6 : Rd.step L defs { at0 := E + 1, frm := E, parts := [P, K], inactive := inn } = { at0 := E + 1 + 1, frm := E, parts := [P, K], inactive := inn } := step_dull L defs { at0 := E + 1, frm := E, parts := [P, K], inactive := inn } 121 [] d6 (by decide)
  have hp : ∀ r : Rd, r.at0 = L.length → ∀ f, Rd.runF L defs f r = r := fun r h f => by
    cases f with
    | zero => rfl
    | succ f => unfold Rd.runF; rw [if_neg (by omega)]
  have hrun : Rd.runF L defs L.length {} = { at0 := E + 1 + 1, frm := E, parts := [P, K], inactive := inn } := by
    obtain ⟨F, hF⟩ : ∃ F, L.length = ((F + 1 + 1 + 1) + X.length) + 1 + 1 + 1 := ⟨k + tail.length - 1, by omega⟩
    conv => lhs; rw [hF]
    rw [run_step L defs _ _ (by show 0 < _; omega), s0, run_step L defs _ _ (by show 1 < _; omega), s1, run_step L defs _ _ (by show 2 < _; omega), s2]
    rw [dull_run L defs X { at0 := 2 + k, frm := 2 + k, parts := [P, O], openers := [{ kind := knI im, part := 1, start := 2 + k - 1 }] } (93 :: (tail ++ [32, 121])) (fun b hb => low_dull (hXl b hb)) d3]
    rw [run_step L defs _ _ (by show 2 + k + X.length < _; omega)]
    show Rd.runF L defs (F + 1 + 1) (Rd.step L defs { at0 := 2 + k + X.length, frm := 2 + k, parts := [P, O], openers := [{ kind := knI im, part := 1, start := 2 + k - 1 }] }) = _
    rw [s4, run_step L defs _ _ (by show E < _; omega), s5, run_step L defs _ _ (by show E + 1 < _; omega), s6]
    exact hp _ (by show E + 1 + 1 = _; omega) F
  have hend : (L.take (E + 1 + 1)).drop E = [32, 121] := by rw [List.take_of_length_le (by omega), d5]
  unfold parseI
  rw [hrun]
  unfold Rd.endText
  simp only
  rw [if_pos (by omega), hend, emph_plain _ (fun p hp => by
    simp only [List.cons_append, List.nil_append, List.mem_cons, List.not_mem_nil, or_false] at hp
    rcases hp with rfl | rfl | rfl
    · rw [hP]; exact ⟨rfl, rfl⟩
    · rw [hK]; exact ⟨rfl, rfl⟩
    · exact ⟨rfl, rfl⟩), hP, hK]
  have hkn : knI im ≠ 0 := by unfold knI; split <;> decide
  simp [toldI, withT, hkn]
end Go.Proofs.YtjdijlaoeoikhaaGreatDoor

/- Plain mathematics: the six ways to write a link. -/
namespace Go.Proofs.YtjdijlaoeoikhaaGreatDoor

def tailI (way : Nat) (D T : Str8) : Str8 :=
  if way = 0 then [40] ++ D ++ [32, 39] ++ T ++ [39, 41] else if way = 1 then [40, 60] ++ D ++ [62, 10, 40] ++ T ++ [41, 41] else if way = 2 then [91, 82, 69, 70, 93] else
  if way = 3 then [91, 93] else if way = 4 then [] else [40, 32] ++ D ++ [9, 34] ++ T ++ [34, 32, 41]

theorem tail_place (way : Nat) (hw : way = 0 ∨ way = 1 ∨ way = 5) (D T : Str8) (hD : D.head? = some 100) (hT : T.head? = some 116) (hDl : ∀ c ∈ D, lowB c = true) (hTl : ∀ c ∈ T, lowB c = true) (z : Str8) :
    inPlace (tailI way D T ++ z) = some ((D, T), (tailI way D T).length) := by
  obtain ⟨d, rfl⟩ : ∃ d, D = 100 :: d := by
    cases D with
    | nil => cases hD
    | cons a b => simp only [List.head?_cons, Option.some.injEq] at hD; exact ⟨b, by rw [hD]⟩
  have hDp : ∀ c ∈ (100 :: d : Str8), lnk.plC c := fun c hc => low_pl (hDl c hc)
  have hTp : ∀ c ∈ T, lnk.plC c := fun c hc => low_pl (hTl c hc)
  rcases hw with rfl | rfl | rfl
  · have e : tailI 0 (100 :: d) T ++ z = 40 :: ([] ++ ((100 :: d) ++ ([32] ++ ((39 :: (T ++ [39])) ++ ([] ++ 41 :: z))))) := by simp [tailI]
    have hn : (tailI 0 (100 :: d) T).length = 1 + ([] : Str8).length + (100 :: d : Str8).length + (([32] : Str8).length + (39 :: (T ++ [39])).length) + ([] : Str8).length + 1 := by
      simp [tailI]
      omega
    rw [e, hn]
    exact inplace_of [] (100 :: d) [32] (39 :: (T ++ [39])) [] z (100 :: d) T (gap_at0 100 _ (by decide)) (lnk.dest_plain hDp (.inr ⟨32, _, rfl, by decide⟩)) (by simp) (gap_at1 32 39 _ (.inl rfl) (by decide)) (by simp)
      (lnk.title_plain (a := 39) (.inr (.inl rfl)) hTp _) (by simp) (gap_at0 41 _ (by decide))
  · have e : tailI 1 (100 :: d) T ++ z = 40 :: ([] ++ ((60 :: ((100 :: d) ++ [62])) ++ ([10] ++ ((40 :: (T ++ [41])) ++ ([] ++ 41 :: z))))) := by simp [tailI]
    have hn : (tailI 1 (100 :: d) T).length = 1 + ([] : Str8).length + (60 :: ((100 :: d) ++ [62]) : Str8).length + (([10] : Str8).length + (40 :: (T ++ [41])).length) + ([] : Str8).length + 1 := by
      simp [tailI]
      omega
    rw [e, hn]
    exact inplace_of [] (60 :: ((100 :: d) ++ [62])) [10] (40 :: (T ++ [41])) [] z (100 :: d) T (gap_at0 60 _ (by decide)) (lnk.dest_plain2 hDp _) (by simp) (gap_at10 40 _ (by decide)) (by simp)
      (lnk.title_plain (a := 40) (.inr (.inr rfl)) hTp _) (by simp) (gap_at0 41 _ (by decide))
  · have e : tailI 5 (100 :: d) T ++ z = 40 :: ([32] ++ ((100 :: d) ++ ([9] ++ ((34 :: (T ++ [34])) ++ ([32] ++ 41 :: z))))) := by simp [tailI]
    have hn : (tailI 5 (100 :: d) T).length = 1 + ([32] : Str8).length + (100 :: d : Str8).length + (([9] : Str8).length + (34 :: (T ++ [34])).length) + ([32] : Str8).length + 1 := by
      simp [tailI]
      omega
    rw [e, hn]
    exact inplace_of [32] (100 :: d) [9] (34 :: (T ++ [34])) [32] z (100 :: d) T (gap_at1 32 100 _ (.inl rfl) (by decide)) (lnk.dest_plain hDp (.inr ⟨9, _, rfl, by decide⟩)) (by simp) (gap_at1 9 34 _ (.inr rfl) (by decide)) (by simp)
      (lnk.title_plain (a := 34) (.inl rfl) hTp _) (by simp) (gap_at1 32 41 _ (.inl rfl) (by decide))

theorem fold_ref : fold [82, 69, 70] = [114, 101, 102] := by decide +kernel

theorem link_ways (im : Bool) (way : Nat) (hw : way < 6) (x D T : Str8) (hx : ∀ c ∈ x, lowB c = true) (hxl : x.length ≤ 50) (hD : D.head? = some 100) (hT : T.head? = some 116) (hDl : ∀ c ∈ D, lowB c = true) (hTl : ∀ c ∈ T, lowB c = true) :
    parseI ([120, 32] ++ opI im ++ (119 :: x) ++ 93 :: (tailI way D T ++ [32, 121])) [([114, 101, 102], D, T), (119 :: x, D, T)] = .cons { text := [120, 32] } .nil (.cons { kind := knI im, dest := D, title := T } (.cons { text := 119 :: x } .nil .nil) (.cons { text := [32, 121] } .nil .nil)) := by
  have hXl : ∀ c ∈ (119 :: x : Str8), lowB c = true := fun c hc => by
    rcases List.mem_cons.1 hc with rfl | q
    · decide
    · exact hx c q
  refine link_words im (119 :: x) (tailI way D T) D T _ (by simp) hXl ?_
  intro r o hr ho
  obtain ⟨L, hL⟩ : ∃ L, L = [120, 32] ++ opI im ++ (119 :: x) ++ 93 :: (tailI way D T ++ [32, 121]) := ⟨_, rfl⟩
  rw [← hL]
  have hbe : L.drop (r.at0 + 1) = tailI way D T ++ [32, 121] := by
    have e : L = ([120, 32] ++ opI im ++ (119 :: x) ++ [93]) ++ (tailI way D T ++ [32, 121]) := by rw [hL]; simp
    have hl : r.at0 + 1 = ([120, 32] ++ opI im ++ (119 :: x) ++ [93]).length := by rw [hr]; simp; omega
    rw [e, hl, List.drop_left]
  have how : (L.take (r.at0 + 1)).drop o.start = 91 :: (119 :: x) ++ [93] := by
    have e : L = ([120, 32] ++ opI im ++ (119 :: x) ++ [93]) ++ (tailI way D T ++ [32, 121]) := by rw [hL]; simp
    have hl : r.at0 + 1 = ([120, 32] ++ opI im ++ (119 :: x) ++ [93]).length := by rw [hr]; simp; omega
    rw [e, hl, List.take_left, ho]
    unfold opI
    cases im <;> rfl
  have hlab := label_low hx (by omega : x.length ≤ 900) []
  rw [List.append_nil] at hlab
  have hfw := fold_low (119 :: x) hXl
  have hdef : ∀ n, definedI [([114, 101, 102], D, T), (119 :: x, D, T)] (119 :: x) n = some ((D, T), n) := fun n => by
    unfold definedI
    rw [hfw]
    simp
  have hdr : ∀ n, definedI [([114, 101, 102], D, T), (119 :: x, D, T)] [82, 69, 70] n = some ((D, T), n) := fun n => by
    unfold definedI
    rw [fold_ref]
    simp
  unfold Rd.target
  simp only
  rw [hbe, how]
  have hc : (way = 0 ∨ way = 1 ∨ way = 5) ∨ way = 2 ∨ way = 3 ∨ way = 4 := by omega
  rcases hc with h | rfl | rfl | rfl
  · rw [tail_place way h D T hD hT hDl hTl [32, 121]]
  · have e1 : inPlace (tailI 2 D T ++ [32, 121]) = none := rfl
    have e2 : lnk.labelL (tailI 2 D T ++ [32, 121]) = some ([82, 69, 70], 5) := by
      show lnk.labelL [91, 82, 69, 70, 93, 32, 121] = _
      decide +kernel
    rw [e1, e2]
    exact hdr _
  · have e1 : inPlace (tailI 3 D T ++ [32, 121]) = none := rfl
    have e2 : lnk.labelL (tailI 3 D T ++ [32, 121]) = none := by
      show lnk.labelL [91, 93, 32, 121] = _
      decide +kernel
    rw [e1, e2]
    simp only
    rw [hlab]
    simp only
    rw [if_neg (by simp), hdef]
    rfl
  · have e1 : inPlace (tailI 4 D T ++ [32, 121]) = none := rfl
    have e2 : lnk.labelL (tailI 4 D T ++ [32, 121]) = none := rfl
    rw [e1, e2]
    simp only
    rw [hlab]
    simp only
    rw [if_neg (by simp), hdef]
    rfl
end Go.Proofs.YtjdijlaoeoikhaaGreatDoor

/- Plain mathematics: of several definitions of one label the first one counts. -/
namespace Go.Proofs.YtjdijlaoeoikhaaGreatDoor

abbrev oneT : Str8 := [91, 84, 104, 101, 32, 32, 32, 79, 78, 69, 93]
abbrev oneW : Str8 := [84, 104, 101, 32, 32, 32, 79, 78, 69]
abbrev oneL : Str8 := [116, 104, 101, 32, 111, 110, 101]
theorem fold_one : fold oneW = oneL := by decide +kernel
theorem label_one : lnk.labelL oneT = some (oneW, 11) := by decide +kernel

def oneA (defs : List Df8) : Is := match defs.find? (fun d => d.1 == oneL) with
  | none => .cons { text := oneT } .nil .nil
  | some d => .cons { kind := 6, dest := d.2.1, title := d.2.2 } (.cons { text := oneW } .nil .nil) .nil

theorem one_parse (defs : List Df8) : parseI oneT defs = oneA defs := by
  obtain ⟨P, hP⟩ : ∃ P : Pt, P = { i := { text := [91] } } := ⟨_, rfl⟩
  obtain ⟨o, ho⟩ : ∃ o : Op, o = { kind := 6, part := 0, start := 0 } := ⟨_, rfl⟩
  have s0 : ({} : Rd).step oneT defs = { at0 := 1, frm := 1, parts := [P], openers := [o] } := by
    rw [step_open oneT defs {} [84, 104, 101, 32, 32, 32, 79, 78, 69, 93] rfl, hP, ho]
    rfl
  have s4 : Rd.step oneT defs { at0 := 4, frm := 1, parts := [P], openers := [o] } = { at0 := 7, frm := 1, parts := [P], openers := [o] } := by
    rw [step_blanks oneT defs { at0 := 4, frm := 1, parts := [P], openers := [o] } [32, 32, 79, 78, 69, 93] rfl (by decide)]
    rfl
  have r1 : ∀ f, Rd.runF oneT defs (f + 3) { at0 := 1, frm := 1, parts := [P], openers := [o] } = Rd.runF oneT defs f { at0 := 4, frm := 1, parts := [P], openers := [o] } := fun f =>
    dull_run oneT defs [84, 104, 101] { at0 := 1, frm := 1, parts := [P], openers := [o] } [32, 32, 32, 79, 78, 69, 93] (by decide) rfl f
  have r2 : ∀ f, Rd.runF oneT defs (f + 3) { at0 := 7, frm := 1, parts := [P], openers := [o] } = Rd.runF oneT defs f { at0 := 10, frm := 1, parts := [P], openers := [o] } := fun f =>
    dull_run oneT defs [79, 78, 69] { at0 := 7, frm := 1, parts := [P], openers := [o] } [93] (by decide) rfl f
  have htg : Rd.target oneT defs { at0 := 10, frm := 1, parts := [P], openers := [], inactive := 0 } o = definedI defs oneW 1 := by
    unfold Rd.target
    simp only
    have e1 : oneT.drop (10 + 1) = [] := rfl
    have e2 : (oneT.take (10 + 1)).drop o.start = oneT := by rw [ho]; rfl
    have e3 : inPlace [] = none := rfl
    have e4 : lnk.labelL [] = none := rfl
    rw [e1, e2, e3, e4, label_one]
    rfl
  have hend : ∀ r : Rd, r.at0 = 11 → ∀ f, Rd.runF oneT defs f r = r := fun r h f => by
    cases f with
    | zero => rfl
    | succ f => unfold Rd.runF; rw [if_neg (by rw [h]; decide)]
  have hdf : definedI defs oneW 1 = (defs.find? (fun d => d.1 == oneL)).map (fun d => (d.2, 1)) := by
    unfold definedI
    rw [fold_one]
    cases defs.find? (fun d => d.1 == oneL) <;> rfl
  have hrun : ∃ r, Rd.runF oneT defs oneT.length {} = r ∧ r.at0 = 11 ∧ (match defs.find? (fun d => d.1 == oneL) with
      | none => r.frm = 1 ∧ r.parts = [P]
      | some d => r.frm = 11 ∧ r.parts = [{ i := { kind := 6, dest := d.2.1, title := d.2.2 }, kids := emphI [{ i := { text := oneW } }] }]) := by
    show ∃ r, Rd.runF oneT defs (((2 + 1 + 3) + 1 + 3) + 1) {} = r ∧ _
    rw [run_step oneT defs _ _ (by decide), s0, r1, run_step oneT defs _ _ (by show 4 < 11; decide), s4, r2, run_step oneT defs _ _ (by show 10 < 11; decide), step_closer oneT defs { at0 := 10, frm := 1, parts := [P], openers := [o] } [] rfl]
    unfold Rd.closer
    simp only [List.getLast?_singleton, List.length_singleton, Nat.sub_self, List.dropLast_singleton, Nat.min_zero, Nat.zero_le, decide_true, Bool.or_true]
    rw [if_neg (by decide), htg, hdf]
    cases defs.find? (fun d => d.1 == oneL) with
    | none => exact ⟨_, hend _ rfl 2, rfl, rfl, rfl⟩
    | some d =>
      rw [ho]
      exact ⟨_, hend _ rfl 2, rfl, rfl, rfl⟩
  obtain ⟨r, e, h11, hm⟩ := hrun
  unfold parseI
  rw [e]
  unfold oneA
  cases hf : defs.find? (fun d => d.1 == oneL) with
  | none =>
    rw [hf] at hm
    obtain ⟨m1, m2⟩ := hm
    have : (r.endText oneT).parts = [P, { i := { text := [84, 104, 101, 32, 32, 32, 79, 78, 69, 93] } }] := by
      unfold Rd.endText
      rw [h11, m1, m2]
      rfl
    rw [this, hP, emph_plain _ (by intro p hp; simp only [List.mem_cons, List.not_mem_nil, or_false] at hp; rcases hp with rfl | rfl <;> exact ⟨rfl, rfl⟩)]
    rfl
  | some d =>
    rw [hf] at hm
    obtain ⟨m1, m2⟩ := hm
    have : (r.endText oneT).parts = [{ i := { kind := 6, dest := d.2.1, title := d.2.2 }, kids := emphI [{ i := { text := oneW } }] }] := by
      unfold Rd.endText
      rw [h11, m1, m2]
      rfl
    rw [this, emph_plain _ (by intro p hp; rw [List.mem_singleton.1 hp]; exact ⟨rfl, rfl⟩)]
    rfl

/-- Definitions of other labels, and of the one. -/
def dfsI (os ps : List Str8) : List Df8 := os.map (fun o => (120 :: o, [47, 110, 111], [])) ++ ps.map (fun p => (oneL, 47 :: p, []))
theorem dfs_find (os ps : List Str8) : (dfsI os ps).find? (fun d => d.1 == oneL) = ps.head?.map (fun p => (oneL, 47 :: p, [])) := by
  unfold dfsI
  rw [List.find?_append]
  have h1 : (os.map (fun o => ((120 :: o, [47, 110, 111], []) : Df8))).find? (fun d => d.1 == oneL) = none := by
    rw [List.find?_eq_none]
    intro d hd
    obtain ⟨o, _, rfl⟩ := List.mem_map.1 hd
    simp
  rw [h1]
  cases ps with
  | nil => rfl
  | cons p r => simp
theorem first_parse (os ps : List Str8) : parseI oneT (dfsI os ps) = match ps.head? with
    | none => .cons { text := oneT } .nil .nil
    | some p => .cons { kind := 6, dest := 47 :: p } (.cons { text := oneW } .nil .nil) .nil := by
  rw [one_parse]
  unfold oneA
  rw [dfs_find]
  cases ps <;> rfl
end Go.Proofs.YtjdijlaoeoikhaaGreatDoor
