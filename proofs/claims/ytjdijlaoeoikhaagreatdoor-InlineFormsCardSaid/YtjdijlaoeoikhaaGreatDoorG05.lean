/- Several texts in one. -/
import Derived.Test.YtjdijlaoeoikhaaGreatDoorG01
import Derived.Test.YtjdijlaoeoikhaaGreatDoorG03
import Derived.Lib.SpaceU
set_option linter.unusedVariables false
/- Plain mathematics: a text as inlines, part by part. -/
namespace Go.Proofs.YtjdijlaoeoikhaaGreatDoor

abbrev Str8 := List UInt8

/-- What an inline has, but for its kids. -/
structure II where
  kind : Nat := 0
  text : Str8 := []
  dest : Str8 := []
  title : Str8 := []
  deriving DecidableEq

/-- Inlines, one behind the other: the first one, its kids, those behind it. -/
inductive Is where
  | nil
  | cons (b : II) (kids rest : Is)
  deriving DecidableEq

/-- What a run of delimiters is good for. -/
structure Dl where
  sign : UInt8 := 0
  number : Nat := 0
  opens : Bool := false
  closes : Bool := false

structure Pt where
  i : II
  kids : Is := .nil
  d : Dl := {}

/-- A text that was gathered, and what follows. -/
def withT (t : Str8) (r : Is) : Is := if t = [] then r else .cons { text := t } .nil r
/-- Parts as inlines: neighbouring texts as one, and no empty one. -/
def toldI : Str8 → List Pt → Is
  | t, [] => withT t .nil
  | t, p :: r => if p.i.kind = 0 then toldI (t ++ p.i.text) r else withT t (.cons p.i p.kids (toldI [] r))

/-! ### Emphasis -/

structure Sn where
  parts : List Pt := []
  openers : List Nat := []

def fitI (o c : Dl) : Bool := (o.sign == c.sign) && ((!o.closes && !c.opens) || (o.number + c.number) % 3 != 0 || c.number % 3 == 0)

/-- The nearest of the first n openers that a closer may close. -/
def Sn.openerF (s : Sn) (c : Dl) : Nat → Option Nat
  | 0 => none
  | n + 1 => if fitI ((s.parts.getD (s.openers.getD n 0) ⟨{}, .nil, {}⟩).d) c then some n else s.openerF c n

/-- How many delimiters a closer uses of an opener, and they both. -/
def Sn.used (s : Sn) (i left : Nat) : Nat := if 2 ≤ (s.parts.getD (s.openers.getD i 0) ⟨{}, .nil, {}⟩).i.text.length ∧ 2 ≤ left then 2 else 1
def Sn.close (s : Sn) (i left : Nat) : Sn :=
  let at0 := s.openers.getD i 0
  let o := s.parts.getD at0 ⟨{}, .nil, {}⟩
  let u := s.used i left
  let whole : Pt := { i := { kind := if u = 2 then 5 else 4 }, kids := toldI [] (s.parts.drop (at0 + 1)) }
  let o' : Pt := { o with i := { o.i with text := o.i.text.drop u } }
  { parts := s.parts.take at0 ++ (if o'.i.text = [] then [] else [o']) ++ [whole], openers := s.openers.take i ++ (if o'.i.text = [] then [] else [at0]) }

/-- Delimiters close what they can. -/
def Sn.closeF : Nat → Sn → Pt → Sn × Pt
  | 0, s, p => (s, p)
  | f + 1, s, p => if p.d.closes = true ∧ p.i.text ≠ [] then
      match s.openerF p.d s.openers.length with
      | none => (s, p)
      | some i => Sn.closeF f (s.close i p.i.text.length) { p with i := { p.i with text := p.i.text.drop (s.used i p.i.text.length) } }
    else (s, p)
def Sn.take (s : Sn) (p : Pt) : Sn :=
  let r := Sn.closeF (p.i.text.length + 1) s p
  { parts := r.1.parts ++ [r.2], openers := r.1.openers ++ (if r.2.d.opens = true ∧ r.2.i.text ≠ [] then [r.1.parts.length] else []) }
def emphI (ps : List Pt) : Is := toldI [] (ps.foldl Sn.take {}).parts

/-! ### Parts -/

def rowI (p : UInt8 → Bool) (l : Str8) : Nat := (l.takeWhile p).length
def punctN (r : Nat) : Bool := markN r || decide ((161 ≤ r ∧ r ≤ 169) ∨ (171 ≤ r ∧ r ≤ 177) ∨ (182 ≤ r ∧ r ≤ 184) ∨ (8208 ≤ r ∧ r ≤ 8231) ∨ (8240 ≤ r ∧ r ≤ 8286) ∨ (8352 ≤ r ∧ r ≤ 8384) ∨ (8592 ≤ r ∧ r ≤ 8703) ∨ (12289 ≤ r ∧ r ≤ 12291) ∨ (12296 ≤ r ∧ r ≤ 12305) ∨ r = 180 ∨ r = 187 ∨ r = 191 ∨ r = 215 ∨ r = 247)

/-- A text's first character; of none a line feed. -/
def firstI (l : Str8) : Nat := if l = [] then 10 else (dc l).1
/-- A text's last character; of none a line feed. -/
def lastI (l : Str8) : Nat := if l = [] then 10 else (Lib.decodeLastL l).1
def flanksI (far near : Nat) : Bool := !spaceN near && (!punctN near || spaceN far || punctN far)
def delimI (l : Str8) (start stop : Nat) : Dl :=
  let ahead := lastI (l.take start)
  let behind := firstI (l.drop stop)
  let left := flanksI ahead behind
  let right := flanksI behind ahead
  let sign := l.getD start 0
  if sign = 95 then { sign := sign, number := stop - start, opens := left && (!right || punctN ahead), closes := right && (!left || punctN behind) }
  else { sign := sign, number := stop - start, opens := left, closes := right }

structure Op where
  kind : Nat
  part : Nat
  start : Nat

structure Rd where
  at0 : Nat := 0
  frm : Nat := 0
  parts : List Pt := []
  openers : List Op := []
  inactive : Nat := 0

abbrev Df8 := Str8 × Str8 × Str8

/-- How many bytes the gap has with which a text begins. -/
def gapI (s : Str8) : Nat :=
  let k := rowI (fun b => b == 32 || b == 9) s
  if (s.drop k).head? = some 10 then k + 1 + rowI (fun b => b == 32 || b == 9) (s.drop (k + 1)) else k
/-- A title with a gap ahead of it, and how many bytes both have. -/
def gapTitle (s : Str8) : Str8 × Nat := match lnk.titleL (s.drop (gapI s)) with
  | none => ([], 0)
  | some (t, n) => if gapI s = 0 ∨ n = 0 then ([], 0) else (t, gapI s + n)
/-- Where a link leads, and its title, in round brackets. -/
def inPlace (s : Str8) : Option ((Str8 × Str8) × Nat) := match s with
  | 40 :: t =>
    let at1 := 1 + gapI t
    let d := (lnk.destL (s.drop at1)).getD ([], 0)
    let tt := if 0 < d.2 then gapTitle (s.drop (at1 + d.2)) else ([], 0)
    let at2 := at1 + d.2 + tt.2
    let at3 := at2 + gapI (s.drop at2)
    if (s.drop at3).head? = some 41 then some ((d.1, tt.1), at3 + 1) else none
  | _ => none

section
variable (l : Str8) (defs : List Df8)

def Rd.endText (r : Rd) : Rd := { r with parts := r.parts ++ (if r.frm < r.at0 then [{ i := { text := (l.take r.at0).drop r.frm } }] else []), frm := r.at0 }
def Rd.add (r : Rd) (p : Pt) (n : Nat) : Rd := let e := r.endText l; { e with parts := e.parts ++ [p], at0 := e.at0 + n, frm := e.at0 + n }
def Rd.pass (r : Rd) (n : Nat) : Rd := { r with at0 := r.at0 + n }
def Rd.addBreak (r : Rd) (kind ahead : Nat) : Rd := r.add l { i := { kind := kind } } (ahead + 1 + rowI (· == 32) (l.drop (r.at0 + ahead + 1)))

def definedI (label : Str8) (n : Nat) : Option ((Str8 × Str8) × Nat) := match defs.find? (fun d => d.1 == fold label) with
  | none => none
  | some d => some (d.2, n)
/-- Where leads what begins with an opener and ends with the closer at the place. -/
def Rd.target (r : Rd) (o : Op) : Option ((Str8 × Str8) × Nat) :=
  let behind := l.drop (r.at0 + 1)
  match inPlace behind with
  | some (d, n) => some (d, 1 + n)
  | none => match lnk.labelL behind with
    | some (u, n) => definedI defs u (1 + n)
    | none =>
      let own := (l.take (r.at0 + 1)).drop o.start
      match lnk.labelL own with
      | none => none
      | some (u, n) => if n ≠ own.length then none else definedI defs u (if [91, 93].isPrefixOf behind then 3 else 1)

def Rd.closer (r : Rd) : Rd := match r.openers.getLast? with
  | none => r.pass 1
  | some o =>
    let last := r.openers.length - 1
    let active := o.kind == 7 || decide (r.inactive ≤ last)
    let r1 := { r with openers := r.openers.dropLast, inactive := min r.inactive last }
    if active = false then r1.pass 1 else
    match r1.target l defs o with
    | none => r1.pass 1
    | some (d, n) =>
      let r2 := r1.endText l
      let r3 := Rd.add l { r2 with parts := r2.parts.take o.part } { i := { kind := o.kind, dest := d.1, title := d.2 }, kids := emphI (r2.parts.drop (o.part + 1)) } n
      if o.kind = 6 then { r3 with inactive := last } else r3

def Rd.step (r : Rd) : Rd :=
  let rest := l.drop r.at0
  match rest with
  | [] => r
  | c :: t =>
    if c = 92 then match t with
      | [] => r.pass 1
      | b :: _ => if b = 10 then r.addBreak l 2 1 else if markN b.toNat = true then { r.endText l with frm := r.at0 + 1, at0 := r.at0 + 2 } else r.pass 1
    else if c = 32 ∨ c = 10 then
      let k := rowI (· == 32) rest
      if (rest.drop k).head? ≠ some 10 then r.pass k else if k < 2 then r.addBreak l 1 k else r.addBreak l 2 k
    else if c = 96 then match codeL rest with
      | some (x, n) => r.add l { i := { kind := 3, text := x } } n
      | none => r.pass (rowI (· == 96) rest)
    else if c = 60 then match autoL rest with
      | some (d, x, n) => r.add l { i := { kind := 6, dest := d }, kids := .cons { text := x } .nil .nil } n
      | none => if 0 < rawN rest then r.add l { i := { kind := 8, text := rest.take (rawN rest) } } (rawN rest) else r.pass 1
    else if c = 38 then if (entity rest).2 = 0 then r.pass 1 else r.add l { i := { text := (entity rest).1 } } (entity rest).2
    else if c = 42 ∨ c = 95 then
      let k := rowI (· == c) rest
      r.add l { i := { text := rest.take k }, d := delimI l r.at0 (r.at0 + k) } k
    else if c = 33 then if t.head? = some 91 then
        let r1 := r.add l { i := { text := [33, 91] } } 2
        { r1 with openers := r1.openers ++ [{ kind := 7, part := r1.parts.length - 1, start := r1.at0 - 1 }] }
      else r.pass 1
    else if c = 91 then
        let r1 := r.add l { i := { text := [91] } } 1
        { r1 with openers := r1.openers ++ [{ kind := 6, part := r1.parts.length - 1, start := r1.at0 - 1 }] }
    else if c = 93 then r.closer l defs
    else r.pass 1

def Rd.runF : Nat → Rd → Rd
  | 0, r => r
  | f + 1, r => if r.at0 < l.length then Rd.runF f (r.step l defs) else r
def parseI : Is := emphI ((Rd.runF l defs l.length {}).endText l).parts
end
end Go.Proofs.YtjdijlaoeoikhaaGreatDoor

/- Plain mathematics: what means nothing is text; code. -/
namespace Go.Proofs.YtjdijlaoeoikhaaGreatDoor

/-- Parts that are texts alone. -/
def Texts (ps : List Pt) : Prop := ∀ p ∈ ps, p.i.kind = 0 ∧ p.d.opens = false ∧ p.d.closes = false
def catI (ps : List Pt) : Str8 := ps.flatMap (fun p => p.i.text)

theorem take_text (s : Sn) (p : Pt) (h1 : p.d.opens = false) (h2 : p.d.closes = false) : s.take p = { parts := s.parts ++ [p], openers := s.openers } := by
  have hc : Sn.closeF (p.i.text.length + 1) s p = (s, p) := by
    unfold Sn.closeF
    rw [if_neg (by rw [h2]; simp)]
  unfold Sn.take
  simp only
  rw [hc]
  simp only
  rw [if_neg (by rw [h1]; simp), List.append_nil]
theorem fold_plain : ∀ (ps : List Pt) (s : Sn), (∀ p ∈ ps, p.d.opens = false ∧ p.d.closes = false) → ps.foldl Sn.take s = { parts := s.parts ++ ps, openers := s.openers }
  | [], s, _ => by simp
  | p :: r, s, h => by
    obtain ⟨h1, h2⟩ := h p (List.mem_cons_self ..)
    rw [List.foldl_cons, take_text s p h1 h2, fold_plain r _ (fun q hq => h q (List.mem_cons_of_mem _ hq))]
    simp
/-- Without delimiters parts are told as they are. -/
theorem emph_plain (ps : List Pt) (h : ∀ p ∈ ps, p.d.opens = false ∧ p.d.closes = false) : emphI ps = toldI [] ps := by
  unfold emphI
  rw [fold_plain ps {} h]
  simp
theorem told_texts : ∀ (ps qs : List Pt) (t : Str8), Texts ps → toldI t (ps ++ qs) = toldI (t ++ catI ps) qs
  | [], qs, t, _ => by simp [catI]
  | p :: r, qs, t, h => by
    obtain ⟨h1, h2, h3⟩ := h p (List.mem_cons_self ..)
    rw [List.cons_append, toldI, if_pos h1, told_texts r qs _ (fun q hq => h q (List.mem_cons_of_mem _ hq))]
    simp [catI]

/-- Bytes with which no part begins. -/
def dullB (c : UInt8) : Bool := !markN c.toNat && c != 10 && c != 32
theorem step_dull (l : Str8) (defs : List Df8) (r : Rd) (c : UInt8) (t : Str8) (h : l.drop r.at0 = c :: t) (hc : dullB c = true) : r.step l defs = r.pass 1 := by
  have ne : ∀ d : UInt8, dullB d = false → c ≠ d := fun d hd e => by rw [e, hd] at hc; cases hc
  unfold Rd.step
  simp only
  rw [h]
  simp only
  rw [if_neg (ne 92 (by decide)), if_neg (by rintro (e | e); exact ne 32 (by decide) e; exact ne 10 (by decide) e), if_neg (ne 96 (by decide)), if_neg (ne 60 (by decide)), if_neg (ne 38 (by decide)), if_neg (by rintro (e | e); exact ne 42 (by decide) e; exact ne 95 (by decide) e), if_neg (ne 33 (by decide)), if_neg (ne 91 (by decide)), if_neg (ne 93 (by decide))]
theorem step_blanks (l : Str8) (defs : List Df8) (r : Rd) (t : Str8) (h : l.drop r.at0 = 32 :: t) (hn : ∀ b ∈ t, b ≠ 10) : r.step l defs = r.pass (rowI (· == 32) (32 :: t)) := by
  unfold Rd.step
  simp only
  rw [h]
  simp only
  rw [if_neg (by decide), if_pos (.inl trivial), if_pos]
  intro e
  have hm : (10 : UInt8) ∈ (32 :: t).drop (rowI (· == 32) (32 :: t)) := List.mem_of_head? e
  rcases List.mem_cons.1 (List.mem_of_mem_drop hm) with q | q
  · cases q
  · exact hn 10 q rfl
theorem step_mark (l : Str8) (defs : List Df8) (r : Rd) (c : UInt8) (t : Str8) (h : l.drop r.at0 = 92 :: c :: t) (hc : markN c.toNat = true) : r.step l defs = { r.endText l with frm := r.at0 + 1, at0 := r.at0 + 2 } := by
  have h10 : c ≠ 10 := fun e => by rw [e] at hc; cases hc
  unfold Rd.step
  simp only
  rw [h]
  simp only
  rw [if_pos trivial, if_neg h10, if_pos hc]

theorem run_step (l : Str8) (defs : List Df8) (f : Nat) (r : Rd) (h : r.at0 < l.length) : Rd.runF l defs (f + 1) r = Rd.runF l defs f (r.step l defs) := by
  unfold Rd.runF
  rw [if_pos h]
  cases f <;> rfl

/-- What was read so far, as text. -/
structure Rest (l : Str8) (r : Rd) (u : Str8) : Prop where
  le : r.frm ≤ r.at0
  cat : catI r.parts ++ (l.take r.at0).drop r.frm = u
  texts : Texts r.parts
theorem take_more {l : Str8} {a f n : Nat} {x y : Str8} (h : l.drop a = x ++ y) (hx : x.length = n) (hf : f ≤ a) (ha : a ≤ l.length) : (l.take (a + n)).drop f = (l.take a).drop f ++ x := by
  have hl : l = l.take a ++ (x ++ y) := by rw [← h]; exact (List.take_append_drop a l).symm
  have hla : (l.take a).length = a := by rw [List.length_take]; omega
  have h1 : l.take (a + n) = l.take a ++ x := by
    conv => lhs; rw [hl]
    rw [List.take_append, hla, show a + n - a = n by omega, ← hx, List.take_of_length_le (by omega), List.take_left]
  rw [h1, List.drop_append_of_le_length (by omega)]

theorem blank_row : ∀ u2 : Str8, ∃ (k : Nat) (v : Str8), u2 = List.replicate k 32 ++ v ∧ rowI (· == 32) (32 :: u2.flatMap markB') = k + 1
  | [] => ⟨0, [], rfl, rfl⟩
  | d :: w => by
    by_cases hd32 : d = 32
    · subst hd32
      obtain ⟨k, v, e1, e2⟩ := blank_row w
      refine ⟨k + 1, v, by rw [e1]; rfl, ?_⟩
      have : (32 :: w).flatMap markB' = 32 :: w.flatMap markB' := rfl
      rw [this]
      unfold rowI at e2 ⊢
      rw [List.takeWhile_cons, if_pos (by decide), List.length_cons, e2]
    · refine ⟨0, d :: w, rfl, ?_⟩
      have hne : ∃ b x, (d :: w).flatMap markB' = b :: x ∧ (b == 32) = false := by
        rw [List.flatMap_cons]
        unfold markB'
        split
        · exact ⟨92, _, rfl, by decide⟩
        · exact ⟨d, _, rfl, by simpa using hd32⟩
      obtain ⟨b, x, e, hb⟩ := hne
      rw [e]
      unfold rowI
      rw [List.takeWhile_cons, if_pos (by decide), List.takeWhile_cons, if_neg (by rw [hb]; simp)]
      rfl

theorem esc_run (defs : List Df8) (l : Str8) : ∀ (n : Nat) (u2 u1 : Str8) (r : Rd) (f : Nat), u2.length ≤ n → (∀ c ∈ u2, c ≠ 10) → l.drop r.at0 = u2.flatMap markB' → r.at0 ≤ l.length → l.length - r.at0 ≤ f → Rest l r u1 →
    ∃ r', Rd.runF l defs f r = r' ∧ r'.at0 = l.length ∧ Rest l r' (u1 ++ u2)
  | n, [], u1, r, f, _, _, hd, ha, hf, hR => by
    have he : r.at0 = l.length := by
      have : (l.drop r.at0).length = 0 := by rw [hd]; rfl
      rw [List.length_drop] at this
      omega
    refine ⟨r, ?_, he, by rw [List.append_nil]; exact hR⟩
    cases f with
    | zero => rfl
    | succ f => unfold Rd.runF; rw [if_neg (by omega)]
  | 0, c :: u2, u1, r, f, hn, _, _, _, _, _ => by simp at hn
  | n + 1, c :: u2, u1, r, f, hn, h10, hd, ha, hf, hR => by
    have hn2 : u2.length ≤ n := by simpa using hn
    clear hn
    have hc10 := h10 c (List.mem_cons_self ..)
    have hu10 : ∀ d ∈ u2, d ≠ 10 := fun d hd => h10 d (List.mem_cons_of_mem _ hd)
    rw [List.flatMap_cons] at hd
    have hpos : r.at0 < l.length := by
      have : 0 < (l.drop r.at0).length := by rw [hd, List.length_append]; unfold markB'; split <;> simp <;> omega
      rw [List.length_drop] at this
      omega
    obtain ⟨f, rfl⟩ : ∃ g, f = g + 1 := ⟨f - 1, by omega⟩
    rw [run_step l defs f r hpos]
    by_cases hm : markN c.toNat = true
    · have hd' : l.drop r.at0 = 92 :: c :: u2.flatMap markB' := by rw [hd]; simp [markB', hm]
      rw [step_mark l defs r c _ hd' hm]
      have hl2 : r.at0 + 2 ≤ l.length := by
        have : (l.drop r.at0).length = (92 :: c :: u2.flatMap markB').length := by rw [hd']
        rw [List.length_drop] at this
        simp only [List.length_cons] at this
        omega
      have hdr : l.drop (r.at0 + 2) = u2.flatMap markB' := by rw [← List.drop_drop, hd']; rfl
      obtain ⟨r', e1, e2, e3⟩ := esc_run defs l n u2 (u1 ++ [c]) { r.endText l with frm := r.at0 + 1, at0 := r.at0 + 2 } f hn2 hu10 hdr hl2 (by show l.length - (r.at0 + 2) ≤ f; omega) ⟨by show r.at0 + 1 ≤ r.at0 + 2; omega, by
        show catI (r.parts ++ _) ++ (l.take (r.at0 + 2)).drop (r.at0 + 1) = u1 ++ [c]
        have h1 : (l.take (r.at0 + 2)).drop (r.at0 + 1) = [c] := by
          have := take_more (l := l) (a := r.at0 + 1) (f := r.at0 + 1) (n := 1) (x := [c]) (y := u2.flatMap markB') (by rw [← List.drop_drop, hd']; rfl) rfl (Nat.le_refl _) (by omega)
          rw [this, List.drop_of_length_le (by rw [List.length_take]; omega)]
          rfl
        rw [h1, ← hR.cat]
        congr 1
        by_cases hlt : r.frm < r.at0
        · rw [if_pos hlt]
          simp [catI]
        · rw [if_neg hlt, List.append_nil, List.drop_of_length_le (by rw [List.length_take]; omega), List.append_nil], by
        intro p hp
        rcases List.mem_append.1 hp with q | q
        · exact hR.texts p q
        · split at q
          · rw [List.mem_singleton.1 q]; exact ⟨rfl, rfl, rfl⟩
          · cases q⟩
      exact ⟨r', e1, e2, by rw [List.append_assoc] at e3; exact e3⟩
    · have hmf : markN c.toNat = false := by simpa using hm
      have hd' : l.drop r.at0 = c :: u2.flatMap markB' := by rw [hd]; simp [markB', hmf]
      by_cases h32 : c = 32
      · subst h32
        -- all blanks at once
        have hno : ∀ b ∈ u2.flatMap markB', b ≠ 10 := fun b hb => by
          obtain ⟨d, hd1, hd2⟩ := List.mem_flatMap.1 hb
          unfold markB' at hd2
          split at hd2
          · rcases List.mem_cons.1 hd2 with q | q
            · rw [q]; decide
            · rw [List.mem_singleton.1 q]; exact hu10 d hd1
          · rw [List.mem_singleton.1 hd2]; exact hu10 d hd1
        rw [step_blanks l defs r _ hd' hno]
        obtain ⟨k, v, hu, hk⟩ := blank_row u2
        rw [hk]
        have hrep : (List.replicate k (32 : UInt8)).flatMap markB' = List.replicate k 32 := by
          clear hk hu
          induction k with
          | zero => rfl
          | succ k ih => rw [List.replicate_succ, List.flatMap_cons, ih]; rfl
        have hd2 : l.drop r.at0 = List.replicate (k + 1) 32 ++ v.flatMap markB' := by
          rw [hd', hu, List.flatMap_append, hrep]
          rfl
        have hl2 : r.at0 + (k + 1) ≤ l.length := by
          have : (l.drop r.at0).length = (List.replicate (k + 1) (32 : UInt8) ++ v.flatMap markB').length := by rw [hd2]
          rw [List.length_drop, List.length_append, List.length_replicate] at this
          omega
        have hdr : l.drop (r.at0 + (k + 1)) = v.flatMap markB' := by rw [← List.drop_drop, hd2, List.drop_left' (by simp)]
        obtain ⟨r', e1, e2, e3⟩ := esc_run defs l n v (u1 ++ List.replicate (k + 1) 32) (r.pass (k + 1)) f (by rw [hu, List.length_append] at hn2; omega) (fun d hd => hu10 d (by rw [hu]; exact List.mem_append_right _ hd)) hdr hl2 (by show l.length - (r.at0 + (k + 1)) ≤ f; omega) ⟨by show r.frm ≤ r.at0 + (k + 1); have := hR.le; omega, by
          show catI r.parts ++ (l.take (r.at0 + (k + 1))).drop r.frm = _
          rw [take_more hd2 (by simp) hR.le ha, ← List.append_assoc, hR.cat], hR.texts⟩
        refine ⟨r', e1, e2, ?_⟩
        rw [hu, List.append_assoc] at *
        exact e3
      · have hdu : dullB c = true := by
          unfold dullB
          simp [hmf, hc10, h32]
        rw [step_dull l defs r c _ hd' hdu]
        have hdr : l.drop (r.at0 + 1) = u2.flatMap markB' := by rw [← List.drop_drop, hd']; rfl
        obtain ⟨r', e1, e2, e3⟩ := esc_run defs l n u2 (u1 ++ [c]) (r.pass 1) f hn2 hu10 hdr (by show r.at0 + 1 ≤ _; omega) (by show l.length - (r.at0 + 1) ≤ f; omega) ⟨by show r.frm ≤ r.at0 + 1; have := hR.le; omega, by
          show catI r.parts ++ (l.take (r.at0 + 1)).drop r.frm = _
          rw [take_more (n := 1) (x := [c]) (y := u2.flatMap markB') hd' rfl hR.le ha, ← List.append_assoc, hR.cat], hR.texts⟩
        exact ⟨r', e1, e2, by rw [List.append_assoc] at e3; exact e3⟩

/-- A text with a backslash ahead of each mark is itself. -/
theorem esc_parse (u : Str8) (h : ∀ c ∈ u, c ≠ 10) (defs : List Df8) : parseI (u.flatMap markB') defs = withT u .nil := by
  obtain ⟨r', e1, e2, e3⟩ := esc_run defs (u.flatMap markB') u.length u [] {} (u.flatMap markB').length (Nat.le_refl _) h rfl (Nat.zero_le _) (Nat.le_refl _) ⟨Nat.le_refl _, rfl, fun p hp => by cases hp⟩
  have ht : Texts (r'.endText (u.flatMap markB')).parts := by
    intro p hp
    rcases List.mem_append.1 hp with q | q
    · exact e3.texts p q
    · split at q
      · rw [List.mem_singleton.1 q]; exact ⟨rfl, rfl, rfl⟩
      · cases q
  have hc : catI (r'.endText (u.flatMap markB')).parts = u := by
    have := e3.cat
    rw [List.nil_append] at this
    refine Eq.trans ?_ this
    show catI (r'.parts ++ _) = _
    by_cases hlt : r'.frm < r'.at0
    · rw [if_pos hlt]
      simp [catI]
    · rw [if_neg hlt, List.append_nil, List.drop_of_length_le (by rw [List.length_take]; have := e3.le; omega), List.append_nil]
  unfold parseI
  rw [e1, emph_plain _ (fun p hp => (ht p hp).2)]
  have := told_texts (r'.endText (u.flatMap markB')).parts [] [] ht
  rw [List.append_nil, List.nil_append, hc] at this
  rw [this]
  rfl
theorem plain_parse (u : Str8) (h : ∀ c ∈ u, c ≠ 10 ∧ markN c.toNat = false) (defs : List Df8) : parseI u defs = withT u .nil := by
  have e : u.flatMap markB' = u := by
    induction u with
    | nil => rfl
    | cons c r ih =>
      rw [List.flatMap_cons, ih (fun d hd => h d (List.mem_cons_of_mem _ hd))]
      unfold markB'
      rw [if_neg (by rw [(h c (List.mem_cons_self ..)).2]; simp)]
      rfl
  have := esc_parse u (fun c hc => (h c hc).1) defs
  rwa [e] at this

end Go.Proofs.YtjdijlaoeoikhaaGreatDoor

/- Plain mathematics: code between words. -/
namespace Go.Proofs.YtjdijlaoeoikhaaGreatDoor

theorem step_code (l : Str8) (defs : List Df8) (r : Rd) (t x : Str8) (n : Nat) (h : l.drop r.at0 = 96 :: t) (hc : codeL (96 :: t) = some (x, n)) : r.step l defs = r.add l { i := { kind := 3, text := x } } n := by
  unfold Rd.step
  simp only
  rw [h]
  simp only
  rw [if_neg (by decide), if_neg (by rintro (e | e) <;> exact absurd e (by decide)), if_pos trivial, hc]

theorem scan_end (k : Nat) (y : Str8) : ∀ (j r : Nat), r + j = k → scanC k r (List.replicate j 96 ++ 32 :: y) = some j
  | 0, r, h => by
    have h : r = k := by omega
    show scanC k r (32 :: y) = some 0
    simp only [scanC]
    rw [if_neg (by decide), if_pos (by omega)]
  | j + 1, r, h => by
    rw [List.replicate_succ, List.cons_append]
    simp only [scanC, if_true]
    rw [scan_end k y j (r + 1) (by omega)]
    rfl
theorem scan_words (k : Nat) (hk : 0 < k) (y : Str8) : ∀ t : Str8, (∀ c ∈ t, c ≠ 96) → scanC k 0 (t ++ (List.replicate k 96 ++ 32 :: y)) = some (t.length + k)
  | [], _ => by
    rw [List.nil_append, scan_end k y k 0 (by omega)]
    simp
  | b :: t, h => by
    have hb := h b (List.mem_cons_self ..)
    rw [List.cons_append]
    simp only [scanC, if_neg hb]
    rw [if_neg (by omega), scan_words k hk y t (fun c hc => h c (List.mem_cons_of_mem _ hc))]
    simp only [Option.map_some, List.length_cons]
    congr 1; omega
theorem code_behind (k : Nat) (hk : 0 < k) (t y : Str8) (ht : ∀ c ∈ t, c ≠ 96) (h0 : t ≠ []) : codeL (List.replicate k 96 ++ (t ++ List.replicate k 96) ++ 32 :: y) = some (innerL t, t.length + 2 * k) := by
  have hh : (t ++ (List.replicate k 96 ++ 32 :: y)).head? ≠ some 96 := by
    cases t with
    | nil => exact absurd rfl h0
    | cons b u =>
      rw [List.cons_append]
      simp only [List.head?_cons, ne_eq, Option.some.injEq]
      exact ht b (List.mem_cons_self ..)
  rw [List.append_assoc, List.append_assoc, code_of hk hh (scan_words k hk y t ht)]
  have : (t ++ (List.replicate k 96 ++ 32 :: y)).take (t.length + k - k) = t := by rw [Nat.add_sub_cancel]; simp
  rw [this]
  simp only [Option.some.injEq, Prod.mk.injEq, true_and]
  omega

/-- A code span between two words. -/
theorem code_words (k : Nat) (t : Str8) (h96 : ∀ c ∈ t, c ≠ 96) (h10 : ∀ c ∈ t, c ≠ 10) (h0 : t.head? = some 97) (defs : List Df8) :
    parseI ([120, 32] ++ (List.replicate (k + 1) 96 ++ (t ++ List.replicate (k + 1) 96)) ++ [32, 121]) defs = .cons { text := [120, 32] } .nil (.cons { kind := 3, text := t } .nil (.cons { text := [32, 121] } .nil .nil)) := by
  obtain ⟨L, hL⟩ : ∃ L, L = [120, 32] ++ (List.replicate (k + 1) 96 ++ (t ++ List.replicate (k + 1) 96)) ++ [32, 121] := ⟨_, rfl⟩
  obtain ⟨C, hC⟩ : ∃ C, C = List.replicate (k + 1) (96 : UInt8) ++ (t ++ List.replicate (k + 1) 96) := ⟨_, rfl⟩
  have hne : t ≠ [] := fun e => by rw [e] at h0; cases h0
  have hcl : C.length = t.length + 2 * (k + 1) := by rw [hC]; simp; omega
  have hcode2 : codeL (C ++ [32, 121]) = some (t, C.length) := by
    have h1 := code_behind (k + 1) (Nat.succ_pos _) t [121] h96 hne
    rw [inner_plain t h10, if_neg (by rintro ⟨_, _, e, _⟩; rw [h0] at e; cases e)] at h1
    rw [← hC] at h1
    rw [h1, hcl]
  obtain ⟨C', hC'⟩ : ∃ C', C = 96 :: C' := ⟨List.replicate k 96 ++ (t ++ List.replicate (k + 1) 96), by rw [hC]; rfl⟩
  have hC10 : ∀ b ∈ C, b ≠ 10 := fun b hb => by
    rw [hC] at hb
    rcases List.mem_append.1 hb with q | q
    · rw [List.eq_of_mem_replicate q]; decide
    · rcases List.mem_append.1 q with q | q
      · exact h10 b q
      · rw [List.eq_of_mem_replicate q]; decide
  rw [← hC] at hL
  rw [← hC, ← hL]
  have hLl : L.length = C.length + 4 := by rw [hL]; simp
  have d0 : L.drop 0 = 120 :: (32 :: (C ++ [32, 121])) := by rw [hL]; rfl
  have d1 : L.drop 1 = 32 :: (C ++ [32, 121]) := by rw [hL]; rfl
  have d2 : L.drop 2 = 96 :: (C' ++ [32, 121]) := by rw [hL, hC']; rfl
  have d3 : L.drop (2 + C.length) = [32, 121] := by
    rw [hL, List.append_assoc]
    show ([120, 32] ++ (C ++ [32, 121])).drop (2 + C.length) = _
    rw [← List.drop_drop]
    show (C ++ [32, 121]).drop C.length = _
    exact List.drop_left
  have d4 : L.drop (2 + C.length + 1) = [121] := by rw [← List.drop_drop, d3]; rfl
  have hrow : rowI (· == 32) (32 :: (C ++ [32, 121])) = 1 := by rw [hC']; rfl
  have s0 : (({} : Rd).step L defs) = { at0 := 1 } := step_dull L defs {} 120 _ d0 (by decide)
  have s1 : (Rd.step L defs { at0 := 1 }) = { at0 := 2 } := by
    rw [step_blanks L defs { at0 := 1 } _ d1 (fun b hb => by
      rcases List.mem_append.1 hb with q | q
      · exact hC10 b q
      · simp only [List.mem_cons, List.not_mem_nil, or_false] at q
        rcases q with rfl | rfl <;> decide), hrow]
    rfl
  have s2 : (Rd.step L defs { at0 := 2 }) = { at0 := 2 + C.length, frm := 2 + C.length, parts := [{ i := { text := [120, 32] } }, { i := { kind := 3, text := t } }] } := by
    rw [step_code L defs { at0 := 2 } _ t C.length d2 (by rw [← List.cons_append, ← hC']; exact hcode2)]
    have ht2 : (L.take 2).drop 0 = [120, 32] := by rw [hL]; rfl
    unfold Rd.add Rd.endText
    simp only
    rw [if_pos (by decide), ht2]
    rfl
  have s3 : (Rd.step L defs { at0 := 2 + C.length, frm := 2 + C.length, parts := [{ i := { text := [120, 32] } }, { i := { kind := 3, text := t } }] }) = { at0 := 2 + C.length + 1, frm := 2 + C.length, parts := [{ i := { text := [120, 32] } }, { i := { kind := 3, text := t } }] } := by
    rw [step_blanks L defs _ [121] d3 (by decide)]
    rfl
  have s4 : (Rd.step L defs { at0 := 2 + C.length + 1, frm := 2 + C.length, parts := [{ i := { text := [120, 32] } }, { i := { kind := 3, text := t } }] }) = { at0 := 2 + C.length + 1 + 1, frm := 2 + C.length, parts := [{ i := { text := [120, 32] } }, { i := { kind := 3, text := t } }] } := step_dull L defs _ 121 [] d4 (by decide)
  have hstop : ∀ f r, r.at0 = L.length → Rd.runF L defs f r = r := fun f r h => by
    cases f with
    | zero => rfl
    | succ f => unfold Rd.runF; rw [if_neg (by omega)]
  have hC1 : 1 ≤ C.length := by rw [hC']; simp
  obtain ⟨F, hF⟩ : ∃ F, L.length = F + 1 + 1 + 1 + 1 + 1 := ⟨C.length - 1, by omega⟩
  have hrun : Rd.runF L defs L.length {} = { at0 := 2 + C.length + 1 + 1, frm := 2 + C.length, parts := [{ i := { text := [120, 32] } }, { i := { kind := 3, text := t } }] } := by
    conv => lhs; rw [hF]
    rw [run_step L defs _ _ (by show 0 < _; omega), s0, run_step L defs _ _ (by show 1 < _; omega), s1, run_step L defs _ _ (by show 2 < _; omega), s2, run_step L defs _ _ (by show 2 + C.length < _; omega), s3, run_step L defs _ _ (by show 2 + C.length + 1 < _; omega), s4]
    exact hstop _ _ (by show 2 + C.length + 1 + 1 = _; omega)
  have hend : (L.take (2 + C.length + 1 + 1)).drop (2 + C.length) = [32, 121] := by
    rw [List.take_of_length_le (by omega), d3]
  unfold parseI
  rw [hrun]
  unfold Rd.endText
  simp only
  rw [if_pos (by omega), hend, emph_plain _ (fun p hp => by
    simp only [List.cons_append, List.nil_append, List.mem_cons, List.not_mem_nil, or_false] at hp
    rcases hp with rfl | rfl | rfl <;> exact ⟨rfl, rfl⟩)]
  rfl

end Go.Proofs.YtjdijlaoeoikhaaGreatDoor

/- Plain mathematics: lines are held apart by breaks. -/
namespace Go.Proofs.YtjdijlaoeoikhaaGreatDoor

theorem row_rep (j : Nat) (c : UInt8) (t : Str8) (hc : c ≠ 32) : rowI (· == 32) (List.replicate j 32 ++ c :: t) = j := by
  unfold rowI
  induction j with
  | zero => rw [List.replicate_zero, List.nil_append, List.takeWhile_cons, if_neg (by simpa using hc)]; rfl
  | succ j ih => rw [List.replicate_succ, List.cons_append, List.takeWhile_cons, if_pos (by decide), List.length_cons, ih]
theorem drop_rep (j : Nat) (t : Str8) : (List.replicate j (32 : UInt8) ++ t).drop j = t := by
  have := List.drop_left (l₁ := List.replicate j (32 : UInt8)) (l₂ := t)
  rwa [List.length_replicate] at this
theorem brk_step (l : Str8) (defs : List Df8) (r : Rd) (j m : Nat) (c : UInt8) (t : Str8) (hd : l.drop r.at0 = List.replicate j 32 ++ 10 :: (List.replicate m 32 ++ c :: t)) (hc : c ≠ 32) :
    r.step l defs = r.add l { i := { kind := if j < 2 then 1 else 2 } } (j + 1 + m) := by
  have hr := row_rep j 10 (List.replicate m 32 ++ c :: t) (by decide)
  have hdj : (l.drop r.at0).drop j = 10 :: (List.replicate m 32 ++ c :: t) := by rw [hd, drop_rep]
  have hd2 : l.drop (r.at0 + j + 1) = List.replicate m 32 ++ c :: t := by
    rw [← List.drop_drop, ← List.drop_drop, hdj]
    rfl
  have hb : ∀ k, r.addBreak l k j = r.add l { i := { kind := k } } (j + 1 + m) := fun k => by
    unfold Rd.addBreak
    rw [hd2, row_rep m c t hc]
  have hhead : ∃ d x, l.drop r.at0 = d :: x ∧ (d = 32 ∨ d = 10) := by
    rw [hd]
    cases j with
    | zero => exact ⟨10, _, rfl, .inr rfl⟩
    | succ j => exact ⟨32, _, rfl, .inl rfl⟩
  obtain ⟨d, x, e, h⟩ := hhead
  unfold Rd.step
  simp only
  rw [e]
  simp only
  rw [if_neg (by rcases h with h | h <;> rw [h] <;> decide), if_pos h, ← e, hd, hr, drop_rep]
  rw [if_neg (by simp)]
  split
  · exact hb 1
  · exact hb 2
theorem slash_step (l : Str8) (defs : List Df8) (r : Rd) (m : Nat) (c : UInt8) (t : Str8) (hd : l.drop r.at0 = 92 :: 10 :: (List.replicate m 32 ++ c :: t)) (hc : c ≠ 32) :
    r.step l defs = r.add l { i := { kind := 2 } } (1 + 1 + m) := by
  have hd2 : l.drop (r.at0 + 1 + 1) = List.replicate m 32 ++ c :: t := by
    rw [← List.drop_drop, ← List.drop_drop, hd]
    rfl
  unfold Rd.step
  simp only
  rw [hd]
  simp only
  rw [if_pos trivial, if_pos trivial]
  unfold Rd.addBreak
  rw [hd2, row_rep m c t hc]
theorem step_blank1 (l : Str8) (defs : List Df8) (r : Rd) (d : UInt8) (t : Str8) (h : l.drop r.at0 = 32 :: d :: t) (h1 : d ≠ 32) (h2 : d ≠ 10) : r.step l defs = r.pass 1 := by
  have hr := row_rep 1 d t h1
  unfold Rd.step
  simp only
  rw [h]
  simp only
  rw [if_neg (by decide), if_pos (.inl trivial)]
  have hr : rowI (fun x => x == 32) (32 :: d :: t) = 1 := hr
  rw [hr, if_pos (by simpa using h2)]

/-- What stands behind a word, ahead of its line feed: so many blanks, and perhaps a backslash; the kind of its break, its text. -/
def brkN : Nat → Nat × Bool
  | 0 => (0, false)
  | 1 => (1, false)
  | 2 => (2, false)
  | 3 => (5, false)
  | 4 => (0, true)
  | 5 => (1, true)
  | 6 => (0, false)
  | _ => (2, false)
def brkE (k : Nat) : Str8 := List.replicate (brkN k).1 32 ++ (if (brkN k).2 then [92] else [])
def brkB (b : Bool) : Str8 := if b then [32, 32] else []
def brkK (k : Nat) : Nat := if 2 ≤ k ∧ k ≠ 6 then 2 else 1
def brkW (k : Nat) : Str8 := if k = 5 then [119, 32] else [119]
def pieceI (q : Nat × Bool) : Str8 := [119] ++ brkE q.1 ++ [10] ++ brkB q.2

theorem add_at (l : Str8) (r : Rd) (p : Pt) (n f : Nat) (x y : Str8) (hf : r.frm = f) (hlt : f < r.at0) (hx : (l.take r.at0).drop f = x) : r.add l p n = { r with at0 := r.at0 + n, frm := r.at0 + n, parts := r.parts ++ [{ i := { text := x } }] ++ [p] } := by
  subst hf
  unfold Rd.add Rd.endText
  simp only
  rw [if_pos hlt, hx]

theorem piece_run (l : Str8) (defs : List Df8) (q : Nat × Bool) (hq : q.1 < 8) (c : UInt8) (t : Str8) (hc : c ≠ 32) (r : Rd) (hd : l.drop r.at0 = pieceI q ++ c :: t) (hf : r.frm = r.at0) (ha : r.at0 ≤ l.length) :
    ∃ j, j ≤ (pieceI q).length ∧ ∀ f, Rd.runF l defs (f + j) r = Rd.runF l defs f { r with at0 := r.at0 + (pieceI q).length, frm := r.at0 + (pieceI q).length, parts := r.parts ++ [{ i := { text := brkW q.1 } }] ++ [{ i := { kind := brkK q.1 } }] } := by
  obtain ⟨k, b⟩ := q
  have hlen : (l.drop r.at0).length = (pieceI (k, b) ++ c :: t).length := by rw [hd]
  rw [List.length_drop, List.length_append] at hlen
  have hpl : 2 ≤ (pieceI (k, b)).length := by simp [pieceI]; omega
  have hlt0 : r.at0 < l.length := by omega
  obtain ⟨m, hm⟩ : ∃ m, brkB b = List.replicate m 32 := by cases b; exact ⟨0, rfl⟩; exact ⟨2, rfl⟩
  have hd0 : l.drop r.at0 = 119 :: (brkE k ++ 10 :: (List.replicate m 32 ++ c :: t)) := by rw [hd, ← hm]; simp [pieceI]
  have hd1 : l.drop (r.at0 + 1) = brkE k ++ 10 :: (List.replicate m 32 ++ c :: t) := by rw [← List.drop_drop, hd0]; rfl
  have hpc : (pieceI (k, b)).length = 1 + (brkE k).length + 1 + m := by
    have : (brkB b).length = m := by rw [hm]; simp
    simp [pieceI, this]
    omega
  have hs0 : r.step l defs = r.pass 1 := step_dull l defs r 119 _ hd0 (by decide)
  have htk : ∀ x y, l.drop r.at0 = x ++ y → (l.take (r.at0 + x.length)).drop r.at0 = x := fun x y h => by
    rw [take_more h rfl (Nat.le_refl _) ha, List.drop_of_length_le (by rw [List.length_take]; omega), List.nil_append]
  have hrun1 : ∀ f, Rd.runF l defs (f + 1) r = Rd.runF l defs f (r.pass 1) := fun f => by rw [run_step l defs f r hlt0, hs0]
  have hp1 : (r.pass 1).frm = r.at0 ∧ (r.pass 1).at0 = r.at0 + 1 ∧ (r.pass 1).parts = r.parts := ⟨hf, rfl, rfl⟩
  -- without a backslash
  have plain : (brkN k).2 = false → brkW k = [119] → (if (brkN k).1 < 2 then 1 else 2) = brkK k → ∃ j, j ≤ (pieceI (k, b)).length ∧ ∀ f, Rd.runF l defs (f + j) r = Rd.runF l defs f { r with at0 := r.at0 + (pieceI (k, b)).length, frm := r.at0 + (pieceI (k, b)).length, parts := r.parts ++ [{ i := { text := brkW k } }] ++ [{ i := { kind := brkK k } }] } := fun h1 h2 h3 => by
    have hE : brkE k = List.replicate (brkN k).1 32 := by unfold brkE; rw [h1]; simp
    have hst := brk_step l defs (r.pass 1) (brkN k).1 m c t (by show l.drop (r.at0 + 1) = _; rw [hd1, hE]) hc
    rw [add_at l (r.pass 1) _ _ r.at0 [119] [] hf (Nat.lt_succ_self _) (htk [119] _ hd0), h3] at hst
    refine ⟨2, by omega, fun f => ?_⟩
    rw [show f + 2 = (f + 1) + 1 by omega, hrun1, run_step l defs f (r.pass 1) (by show r.at0 + 1 < _; omega), hst, h2]
    have hE2 : (brkE k).length = (brkN k).1 := by rw [hE]; simp
    congr 1
    show Rd.mk (r.at0 + 1 + ((brkN k).1 + 1 + m)) (r.at0 + 1 + ((brkN k).1 + 1 + m)) _ _ _ = Rd.mk (r.at0 + (pieceI (k, b)).length) (r.at0 + (pieceI (k, b)).length) _ _ _
    rw [hpc, hE2, show r.at0 + 1 + ((brkN k).1 + 1 + m) = r.at0 + (1 + (brkN k).1 + 1 + m) by omega]
    rfl
  have hk' : k = 0 ∨ k = 1 ∨ k = 2 ∨ k = 3 ∨ k = 4 ∨ k = 5 ∨ k = 6 ∨ k = 7 := by simp only at hq; omega
  rcases hk' with rfl | rfl | rfl | rfl | rfl | rfl | rfl | rfl
  · exact plain rfl rfl rfl
  · exact plain rfl rfl rfl
  · exact plain rfl rfl rfl
  · exact plain rfl rfl rfl
  · have hst := slash_step l defs (r.pass 1) m c t (by show l.drop (r.at0 + 1) = _; rw [hd1]; rfl) hc
    rw [add_at l (r.pass 1) _ _ r.at0 [119] [] hf (Nat.lt_succ_self _) (htk [119] _ hd0)] at hst
    refine ⟨2, by omega, fun f => ?_⟩
    rw [show f + 2 = (f + 1) + 1 by omega, hrun1, run_step l defs f (r.pass 1) (by show r.at0 + 1 < _; omega), hst]
    congr 1
    show Rd.mk (r.at0 + 1 + (1 + 1 + m)) (r.at0 + 1 + (1 + 1 + m)) _ _ _ = Rd.mk (r.at0 + (pieceI (4, b)).length) (r.at0 + (pieceI (4, b)).length) _ _ _
    rw [hpc, show r.at0 + 1 + (1 + 1 + m) = r.at0 + (1 + (brkE 4).length + 1 + m) by show _ = r.at0 + (1 + 1 + 1 + m); omega]
    rfl
  · have hs1 : (r.pass 1).step l defs = (r.pass 1).pass 1 := step_blank1 l defs (r.pass 1) 92 _ (by show l.drop (r.at0 + 1) = _; rw [hd1]; rfl) (by decide) (by decide)
    have hst := slash_step l defs ((r.pass 1).pass 1) m c t (by show l.drop (r.at0 + 1 + 1) = _; rw [← List.drop_drop, hd1]; rfl) hc
    rw [add_at l ((r.pass 1).pass 1) _ _ r.at0 [119, 32] [] hf (by show r.at0 < r.at0 + 1 + 1; omega) (htk [119, 32] _ hd0)] at hst
    have h5 : (pieceI (5, b)).length = 4 + m := by rw [hpc]; show 1 + 2 + 1 + m = _; omega
    refine ⟨3, by omega, fun f => ?_⟩
    rw [show f + 3 = (f + 1 + 1) + 1 by omega, hrun1, run_step l defs (f + 1) (r.pass 1) (by show r.at0 + 1 < _; omega), hs1, run_step l defs f _ (by show r.at0 + 1 + 1 < _; omega), hst]
    congr 1
    show Rd.mk (r.at0 + 1 + 1 + (1 + 1 + m)) (r.at0 + 1 + 1 + (1 + 1 + m)) _ _ _ = Rd.mk (r.at0 + (pieceI (5, b)).length) (r.at0 + (pieceI (5, b)).length) _ _ _
    rw [h5, show r.at0 + 1 + 1 + (1 + 1 + m) = r.at0 + (4 + m) by omega]
    rfl
  · exact plain rfl rfl rfl
  · exact plain rfl rfl rfl

end Go.Proofs.YtjdijlaoeoikhaaGreatDoor
