/- Code, tags, HTML and links at the beginning of a text, over plain lists of bytes. -/
set_option linter.unusedVariables false
namespace Go.Proofs.YtadghfgjdfgopaaDoor

def letterB (c : UInt8) : Bool := (decide (97 ≤ c.toNat) && decide (c.toNat ≤ 122)) || (decide (65 ≤ c.toNat) && decide (c.toNat ≤ 90))
def digitB (c : UInt8) : Bool := decide (48 ≤ c.toNat) && decide (c.toNat ≤ 57)

/-! ### Code -/

/-- How many grave accents a text begins with. -/
def runL : List UInt8 → Nat
  | [] => 0
  | b :: t => if b = 96 then runL t + 1 else 0

/-- Behind r grave accents: how many bytes there are up to the end of the first run of just k. -/
def scanC (k : Nat) : Nat → List UInt8 → Option Nat
  | r, [] => if r = k then some 0 else none
  | r, b :: t => if b = 96 then (scanC k (r + 1) t).map (· + 1) else if r = k then some 0 else (scanC k 0 t).map (· + 1)

/-- What stands between, as it is told. -/
def innerL (l : List UInt8) : List UInt8 :=
  let m := l.map fun b => if b = 10 then 32 else b
  if 1 < m.length ∧ m.all (· == 32) = false ∧ m.head? = some 32 ∧ m.getLast? = some 32 then (m.drop 1).dropLast else m

def codeL (s : List UInt8) : Option (List UInt8 × Nat) :=
  if runL s = 0 then none else
    match scanC (runL s) 0 (s.drop (runL s)) with
    | none => none
    | some m => some (innerL ((s.drop (runL s)).take (m - runL s)), runL s + m)

/-! ### Tags -/

def nameC (c : UInt8) : Bool := letterB c || digitB c || c == 45
def attrF (c : UInt8) : Bool := letterB c || c == 95 || c == 58
def attrC (c : UInt8) : Bool := letterB c || digitB c || c == 95 || c == 46 || c == 58 || c == 45
def unqC (c : UInt8) : Bool := !(c == 9 || c == 10 || c == 32 || c == 34 || c == 39 || c == 61 || c == 60 || c == 62 || c == 96)

/-- Behind a gap of which so many line feeds have been met. -/
def gapL : Nat → List UInt8 → List UInt8
  | _, [] => []
  | n, b :: t => if b = 32 ∨ b = 9 then gapL n t else if b = 10 ∧ n = 0 then gapL 1 t else b :: t

theorem gapL_le : ∀ (n : Nat) (l : List UInt8), (gapL n l).length ≤ l.length
  | _, [] => by simp [gapL]
  | n, b :: t => by
    simp only [gapL]
    split
    · exact Nat.le_trans (gapL_le n t) (by simp)
    · split
      · exact Nat.le_trans (gapL_le 1 t) (by simp)
      · exact Nat.le_refl _

def nameL : List UInt8 → Option (List UInt8)
  | [] => none
  | c :: t => if letterB c = true then some (t.dropWhile nameC) else none

/-- A value behind its sign and gap. -/
def val2 : List UInt8 → Option (List UInt8)
  | [] => none
  | q :: u => if q = 39 ∨ q = 34 then
      match u.dropWhile (· != q) with
      | [] => none
      | _ :: v => some v
    else if unqC q = true then some (u.dropWhile unqC) else none

/-- Behind a value, if there is one; none: it is wrong. -/
def valL (l : List UInt8) : Option (List UInt8) :=
  match gapL 0 l with
  | [] => some l
  | b :: t => if b = 61 then val2 (gapL 0 t) else some l

theorem dropWhile_le (p : UInt8 → Bool) : ∀ l : List UInt8, (l.dropWhile p).length ≤ l.length
  | [] => by simp
  | b :: t => by
    rw [List.dropWhile_cons]
    split
    · exact Nat.le_trans (dropWhile_le p t) (by simp)
    · exact Nat.le_refl _

theorem val2_le {l r : List UInt8} (h : val2 l = some r) : r.length ≤ l.length := by
  cases l with
  | nil => cases h
  | cons q u =>
    simp only [val2] at h
    split at h
    · have := dropWhile_le (· != q) u
      split at h
      · cases h
      · rename_i v hv
        cases h
        rw [hv] at this
        simp at this ⊢
        omega
    · split at h
      · cases h
        have := dropWhile_le unqC u
        simp; omega
      · cases h

theorem valL_le {l r : List UInt8} (h : valL l = some r) : r.length ≤ l.length := by
  unfold valL at h
  have hg := gapL_le 0 l
  split at h
  · cases h; exact Nat.le_refl _
  · rename_i b t hb
    split at h
    · have := val2_le h
      have := gapL_le 0 t
      rw [hb] at hg
      simp at hg
      omega
    · cases h; exact Nat.le_refl _

/-- The end of an opening tag. -/
def endL : List UInt8 → Option (List UInt8)
  | [] => none
  | b :: t => if b = 62 then some t else if b = 47 then
      match t with
      | [] => none
      | c :: u => if c = 62 then some u else none
    else none

/-- Attributes, and the end, in so many rounds. -/
def finF : Nat → List UInt8 → Option (List UInt8)
  | 0, _ => none
  | n + 1, l => match gapL 0 l with
    | [] => none
    | b :: t => if (b :: t).length < l.length ∧ attrF b = true then
        match valL (t.dropWhile attrC) with
        | none => none
        | some r => finF n r
      else endL (b :: t)

theorem fin_same : ∀ (n m : Nat) (l : List UInt8), l.length < n → l.length < m → finF n l = finF m l
  | 0, m, l, h, _ => by omega
  | n + 1, 0, l, _, h => by omega
  | n + 1, m + 1, l, h1, h2 => by
    simp only [finF]
    cases hg : gapL 0 l with
    | nil => rfl
    | cons b t =>
      simp only
      by_cases hc : (b :: t).length < l.length ∧ attrF b = true
      · rw [if_pos hc, if_pos hc]
        cases hv : valL (t.dropWhile attrC) with
        | none => rfl
        | some r =>
          have h3 := valL_le hv
          have h4 := dropWhile_le attrC t
          have h5 := hc.1
          simp only [List.length_cons] at h5
          exact fin_same n m r (by omega) (by omega)
      · rw [if_neg hc, if_neg hc]

/-- Attributes, and the end. -/
def finL (l : List UInt8) : Option (List UInt8) := finF (l.length + 1) l

theorem fin_none {l : List UInt8} (h : gapL 0 l = []) : finL l = none := by
  unfold finL
  simp only [finF, h]

theorem fin_cons {l : List UInt8} {b : UInt8} {t : List UInt8} (h : gapL 0 l = b :: t) : finL l = if (b :: t).length < l.length ∧ attrF b = true then (match valL (t.dropWhile attrC) with | none => none | some r => finL r) else endL (b :: t) := by
  unfold finL
  simp only [finF, h]
  by_cases hc : (b :: t).length < l.length ∧ attrF b = true
  · rw [if_pos hc, if_pos hc]
    cases hv : valL (t.dropWhile attrC) with
    | none => rfl
    | some r =>
      have h3 := valL_le hv
      have h4 := dropWhile_le attrC t
      have h5 := hc.1
      simp only [List.length_cons] at h5
      exact fin_same l.length (r.length + 1) r (by omega) (by omega)
  · rw [if_neg hc, if_neg hc]

def closeL : List UInt8 → Option (List UInt8)
  | [] => none
  | b :: t => if b = 62 then some t else none

/-- Behind a tag. -/
def tagL : List UInt8 → Option (List UInt8)
  | a :: b :: t => if a = 60 then
      if b = 47 then
        match nameL t with
        | none => none
        | some r => closeL (gapL 0 r)
      else
        match nameL (b :: t) with
        | none => none
        | some r => finL r
    else none
  | _ => none

def tagN (s : List UInt8) : Nat := match tagL s with
  | none => 0
  | some r => s.length - r.length

/-! ### HTML -/

/-- How many bytes there are up to the end of the first e. -/
def upL (e : List UInt8) : List UInt8 → Option Nat
  | [] => none
  | b :: t => if e.isPrefixOf (b :: t) = true then some e.length else (upL e t).map (· + 1)

def declL : List UInt8 → Option Nat
  | a :: b :: c :: t => if a = 60 ∧ b = 33 ∧ letterB c = true then (upL [62] t).map (· + 3) else none
  | _ => none

/-- What is no tag. -/
def raw2 (s : List UInt8) : Option Nat :=
  if [60, 33, 45, 45, 62].isPrefixOf s = true then some 5
  else if [60, 33, 45, 45, 45, 62].isPrefixOf s = true then some 6
  else if [60, 33, 45, 45].isPrefixOf s = true then (upL [45, 45, 62] (s.drop 4)).map (· + 4)
  else if [60, 63].isPrefixOf s = true then (upL [63, 62] (s.drop 2)).map (· + 2)
  else if [60, 33, 91, 67, 68, 65, 84, 65, 91].isPrefixOf s = true then (upL [93, 93, 62] (s.drop 9)).map (· + 9)
  else declL s

def rawN (s : List UInt8) : Nat := if 0 < tagN s then tagN s else (raw2 s).getD 0

/-! ### Links -/

def linkC (c : UInt8) : Bool := decide (32 < c.toNat) && c != 127 && c != 60 && c != 62
def schC (c : UInt8) : Bool := letterB c || digitB c || c == 43 || c == 46 || c == 45
def mailC (c : UInt8) : Bool := letterB c || digitB c || [46, 33, 35, 36, 37, 38, 39, 42, 43, 47, 61, 63, 94, 95, 123, 124, 125, 126, 45, 96].elem c

/-- How many bytes of a scheme a text begins with. -/
def schK : List UInt8 → Nat
  | [] => 0
  | c :: t => if letterB c = true then 1 + (t.takeWhile schC).length else 0

def schOk (u : List UInt8) : Bool := decide (2 ≤ schK u) && decide (schK u ≤ 32) && (u.drop (schK u)).head? == some 58

def partOk (p : List UInt8) : Bool := !p.isEmpty && decide (p.length ≤ 63) && p.head? != some 45 && p.getLast? != some 45

/-- Parts with points between, of the first of which so much has been met. -/
def partsL : List UInt8 → List UInt8 → Bool
  | acc, [] => partOk acc
  | acc, b :: t => if b = 46 then partOk acc && partsL [] t else (letterB b || digitB b || b == 45) && partsL (acc ++ [b]) t

def mailL (u : List UInt8) : Bool :=
  match u.dropWhile mailC with
  | [] => false
  | b :: v => !(u.takeWhile mailC).isEmpty && b == 64 && partsL [] v

def autoL : List UInt8 → Option (List UInt8 × List UInt8 × Nat)
  | [] => none
  | a :: t => if a = 60 then
      match t.dropWhile linkC with
      | [] => none
      | b :: _ => if b = 62 then
          if schOk (t.takeWhile linkC) = true then some (t.takeWhile linkC, t.takeWhile linkC, (t.takeWhile linkC).length + 2)
          else if mailL (t.takeWhile linkC) = true then some ([109, 97, 105, 108, 116, 111, 58] ++ t.takeWhile linkC, t.takeWhile linkC, (t.takeWhile linkC).length + 2)
          else none
        else none
    else none

end Go.Proofs.YtadghfgjdfgopaaDoor
