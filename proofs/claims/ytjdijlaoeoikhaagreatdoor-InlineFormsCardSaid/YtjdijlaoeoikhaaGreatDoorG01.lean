/- Several texts in one. -/

set_option linter.unusedVariables false
/- Code, tags, HTML and links at the beginning of a text, over plain lists of bytes. -/
namespace Go.Proofs.YtjdijlaoeoikhaaGreatDoor

def letterB (c : UInt8) : Bool := (decide (97 ≤ c.toNat) && decide (c.toNat ≤ 122)) || (decide (65 ≤ c.toNat) && decide (c.toNat ≤ 90))
def digitB (c : UInt8) : Bool := decide (48 ≤ c.toNat) && decide (c.toNat ≤ 57)

/-! ### Code -/

/-- How many grave accents a text begins with. -/
def runL : List UInt8 → Nat
  | [] => 0
  | b :: t => if b = 96 then runL t + 1 else 0

/-- Behind r grave accents: how many bytes there are up to the end of the first run of just k. -/
def scanC (k : Nat) : Nat → List UInt8 → Option Nat
  | r, [] => if r = k then some 0 else none
  | r, b :: t => if b = 96 then (scanC k (r + 1) t).map (· + 1) else if r = k then some 0 else (scanC k 0 t).map (· + 1)

/-- What stands between, as it is told. -/
def innerL (l : List UInt8) : List UInt8 :=
  let m := l.map fun b => if b = 10 then 32 else b
  if 1 < m.length ∧ m.all (· == 32) = false ∧ m.head? = some 32 ∧ m.getLast? = some 32 then (m.drop 1).dropLast else m

def codeL (s : List UInt8) : Option (List UInt8 × Nat) :=
  if runL s = 0 then none else
    match scanC (runL s) 0 (s.drop (runL s)) with
    | none => none
    | some m => some (innerL ((s.drop (runL s)).take (m - runL s)), runL s + m)

/-! ### Tags -/

def nameC (c : UInt8) : Bool := letterB c || digitB c || c == 45
def attrF (c : UInt8) : Bool := letterB c || c == 95 || c == 58
def attrC (c : UInt8) : Bool := letterB c || digitB c || c == 95 || c == 46 || c == 58 || c == 45
def unqC (c : UInt8) : Bool := !(c == 9 || c == 10 || c == 32 || c == 34 || c == 39 || c == 61 || c == 60 || c == 62 || c == 96)

/-- Behind a gap of which so many line feeds have been met. -/
def gapL : Nat → List UInt8 → List UInt8
  | _, [] => []
  | n, b :: t => if b = 32 ∨ b = 9 then gapL n t else if b = 10 ∧ n = 0 then gapL 1 t else b :: t

theorem gapL_le : ∀ (n : Nat) (l : List UInt8), (gapL n l).length ≤ l.length
  | _, [] => by simp [gapL]
  | n, b :: t => by
    simp only [gapL]
    split
    · exact Nat.le_trans (gapL_le n t) (by simp)
    · split
      · exact Nat.le_trans (gapL_le 1 t) (by simp)
      · exact Nat.le_refl _

def nameL : List UInt8 → Option (List UInt8)
  | [] => none
  | c :: t => if letterB c = true then some (t.dropWhile nameC) else none

/-- A value behind its sign and gap. -/
def val2 : List UInt8 → Option (List UInt8)
  | [] => none
  | q :: u => if q = 39 ∨ q = 34 then
      match u.dropWhile (· != q) with
      | [] => none
      | _ :: v => some v
    else if unqC q = true then some (u.dropWhile unqC) else none

/-- Behind a value, if there is one; none: it is wrong. -/
def valL (l : List UInt8) : Option (List UInt8) :=
  match gapL 0 l with
  | [] => some l
  | b :: t => if b = 61 then val2 (gapL 0 t) else some l

theorem dropWhile_le (p : UInt8 → Bool) : ∀ l : List UInt8, (l.dropWhile p).length ≤ l.length
  | [] => by simp
  | b :: t => by
    rw [List.dropWhile_cons]
    split
    · exact Nat.le_trans (dropWhile_le p t) (by simp)
    · exact Nat.le_refl _

theorem val2_le {l r : List UInt8} (h : val2 l = some r) : r.length ≤ l.length := by
  cases l with
  | nil => cases h
  | cons q u =>
    simp only [val2] at h
    split at h
    · have := dropWhile_le (· != q) u
      split at h
      · cases h
      · rename_i v hv
        cases h
        rw [hv] at this
        simp at this ⊢
        omega
    · split at h
      · cases h
        have := dropWhile_le unqC u
        simp; omega
      · cases h

theorem valL_le {l r : List UInt8} (h : valL l = some r) : r.length ≤ l.length := by
  unfold valL at h
  have hg := gapL_le 0 l
  split at h
  · cases h; exact Nat.le_refl _
  · rename_i b t hb
    split at h
    · have := val2_le h
      have := gapL_le 0 t
      rw [hb] at hg
      simp at hg
      omega
    · cases h; exact Nat.le_refl _

/-- The end of an opening tag. -/
def endL : List UInt8 → Option (List UInt8)
  | [] => none
  | b :: t => if b = 62 then some t else if b = 47 then
      match t with
      | [] => none
      | c :: u => if c = 62 then some u else none
    else none

/-- Attributes, and the end, in so many rounds. -/
def finF : Nat → List UInt8 → Option (List UInt8)
  | 0, _ => none
  | n + 1, l => match gapL 0 l with
    | [] => none
    | b :: t => if (b :: t).length < l.length ∧ attrF b = true then
        match valL (t.dropWhile attrC) with
        | none => none
        | some r => finF n r
      else endL (b :: t)

theorem fin_same : ∀ (n m : Nat) (l : List UInt8), l.length < n → l.length < m → finF n l = finF m l
  | 0, m, l, h, _ => by omega
  | n + 1, 0, l, _, h => by omega
  | n + 1, m + 1, l, h1, h2 => by
    simp only [finF]
    cases hg : gapL 0 l with
    | nil => rfl
    | cons b t =>
      simp only
      by_cases hc : (b :: t).length < l.length ∧ attrF b = true
      · rw [if_pos hc, if_pos hc]
        cases hv : valL (t.dropWhile attrC) with
        | none => rfl
        | some r =>
          have h3 := valL_le hv
          have h4 := dropWhile_le attrC t
          have h5 := hc.1
          simp only [List.length_cons] at h5
          exact fin_same n m r (by omega) (by omega)
      · rw [if_neg hc, if_neg hc]

/-- Attributes, and the end. -/
def finL (l : List UInt8) : Option (List UInt8) := finF (l.length + 1) l

theorem fin_none {l : List UInt8} (h : gapL 0 l = []) : finL l = none := by
  unfold finL
  simp only [finF, h]

theorem fin_cons {l : List UInt8} {b : UInt8} {t : List UInt8} (h : gapL 0 l = b :: t) : finL l = if (b :: t).length < l.length ∧ attrF b = true then (match valL (t.dropWhile attrC) with | none => none | some r => finL r) else endL (b :: t) := by
  unfold finL
  simp only [finF, h]
  by_cases hc : (b :: t).length < l.length ∧ attrF b = true
  · rw [if_pos hc, if_pos hc]
    cases hv : valL (t.dropWhile attrC) with
    | none => rfl
    | some r =>
      have h3 := valL_le hv
      have h4 := dropWhile_le attrC t
      have h5 := hc.1
      simp only [List.length_cons] at h5
      exact fin_same l.length (r.length + 1) r (by omega) (by omega)
  · rw [if_neg hc, if_neg hc]

def closeL : List UInt8 → Option (List UInt8)
  | [] => none
  | b :: t => if b = 62 then some t else none

/-- Behind a tag. -/
def tagL : List UInt8 → Option (List UInt8)
  | a :: b :: t => if a = 60 then
      if b = 47 then
        match nameL t with
        | none => none
        | some r => closeL (gapL 0 r)
      else
        match nameL (b :: t) with
        | none => none
        | some r => finL r
    else none
  | _ => none

def tagN (s : List UInt8) : Nat := match tagL s with
  | none => 0
  | some r => s.length - r.length

/-! ### HTML -/

/-- How many bytes there are up to the end of the first e. -/
def upL (e : List UInt8) : List UInt8 → Option Nat
  | [] => none
  | b :: t => if e.isPrefixOf (b :: t) = true then some e.length else (upL e t).map (· + 1)

def declL : List UInt8 → Option Nat
  | a :: b :: c :: t => if a = 60 ∧ b = 33 ∧ letterB c = true then (upL [62] t).map (· + 3) else none
  | _ => none

/-- What is no tag. -/
def raw2 (s : List UInt8) : Option Nat :=
  if [60, 33, 45, 45, 62].isPrefixOf s = true then some 5
  else if [60, 33, 45, 45, 45, 62].isPrefixOf s = true then some 6
  else if [60, 33, 45, 45].isPrefixOf s = true then (upL [45, 45, 62] (s.drop 4)).map (· + 4)
  else if [60, 63].isPrefixOf s = true then (upL [63, 62] (s.drop 2)).map (· + 2)
  else if [60, 33, 91, 67, 68, 65, 84, 65, 91].isPrefixOf s = true then (upL [93, 93, 62] (s.drop 9)).map (· + 9)
  else declL s

def rawN (s : List UInt8) : Nat := if 0 < tagN s then tagN s else (raw2 s).getD 0

/-! ### Links -/

def linkC (c : UInt8) : Bool := decide (32 < c.toNat) && c != 127 && c != 60 && c != 62
def schC (c : UInt8) : Bool := letterB c || digitB c || c == 43 || c == 46 || c == 45
def mailC (c : UInt8) : Bool := letterB c || digitB c || [46, 33, 35, 36, 37, 38, 39, 42, 43, 47, 61, 63, 94, 95, 123, 124, 125, 126, 45, 96].elem c

/-- How many bytes of a scheme a text begins with. -/
def schK : List UInt8 → Nat
  | [] => 0
  | c :: t => if letterB c = true then 1 + (t.takeWhile schC).length else 0

def schOk (u : List UInt8) : Bool := decide (2 ≤ schK u) && decide (schK u ≤ 32) && (u.drop (schK u)).head? == some 58

def partOk (p : List UInt8) : Bool := !p.isEmpty && decide (p.length ≤ 63) && p.head? != some 45 && p.getLast? != some 45

/-- Parts with points between, of the first of which so much has been met. -/
def partsL : List UInt8 → List UInt8 → Bool
  | acc, [] => partOk acc
  | acc, b :: t => if b = 46 then partOk acc && partsL [] t else (letterB b || digitB b || b == 45) && partsL (acc ++ [b]) t

def mailL (u : List UInt8) : Bool :=
  match u.dropWhile mailC with
  | [] => false
  | b :: v => !(u.takeWhile mailC).isEmpty && b == 64 && partsL [] v

def autoL : List UInt8 → Option (List UInt8 × List UInt8 × Nat)
  | [] => none
  | a :: t => if a = 60 then
      match t.dropWhile linkC with
      | [] => none
      | b :: _ => if b = 62 then
          if schOk (t.takeWhile linkC) = true then some (t.takeWhile linkC, t.takeWhile linkC, (t.takeWhile linkC).length + 2)
          else if mailL (t.takeWhile linkC) = true then some ([109, 97, 105, 108, 116, 111, 58] ++ t.takeWhile linkC, t.takeWhile linkC, (t.takeWhile linkC).length + 2)
          else none
        else none
    else none

end Go.Proofs.YtjdijlaoeoikhaaGreatDoor

/- What stands behind a tag, HTML, code or a link does not matter, over plain lists of bytes. -/
namespace Go.Proofs.YtjdijlaoeoikhaaGreatDoor

/-! ### Pieces: something more behind -/

theorem gap_app : ∀ (n : Nat) (l x : List UInt8), gapL n l ≠ [] → gapL n (l ++ x) = gapL n l ++ x
  | _, [], x, h => absurd rfl h
  | n, b :: t, x, h => by
    rw [List.cons_append]
    simp only [gapL] at h ⊢
    split
    · rename_i hb
      rw [if_pos hb] at h
      exact gap_app n t x h
    · rename_i hb
      rw [if_neg hb] at h
      split
      · rename_i hc
        rw [if_pos hc] at h
        exact gap_app 1 t x h
      · rfl

theorem dw_app (p : UInt8 → Bool) : ∀ (l x : List UInt8), l.dropWhile p ≠ [] → (l ++ x).dropWhile p = l.dropWhile p ++ x
  | [], x, h => absurd rfl h
  | b :: t, x, h => by
    rw [List.cons_append, List.dropWhile_cons, List.dropWhile_cons]
    rw [List.dropWhile_cons] at h
    split
    · rename_i hb
      rw [if_pos hb] at h
      exact dw_app p t x h
    · rfl

theorem val2_app {l r : List UInt8} (h : val2 l = some r) (hr : r ≠ []) (x : List UInt8) : val2 (l ++ x) = some (r ++ x) := by
  cases l with
  | nil => cases h
  | cons q u =>
    rw [List.cons_append]
    simp only [val2] at h ⊢
    split at h
    · rename_i hq
      rw [if_pos hq]
      split at h
      · cases h
      · rename_i c v hv
        cases h
        rw [dw_app _ u x (by rw [hv]; simp), hv]
        rfl
    · rename_i hq
      rw [if_neg hq]
      split at h
      · rename_i hu
        cases h
        rw [if_pos hu, dw_app _ u x hr]
      · cases h

theorem valL_app {l r : List UInt8} (h : valL l = some r) (hr : r ≠ []) (hg : gapL 0 l ≠ []) (x : List UInt8) : valL (l ++ x) = some (r ++ x) := by
  unfold valL at h ⊢
  rw [gap_app 0 l x hg]
  cases hc : gapL 0 l with
  | nil => exact absurd hc hg
  | cons b t =>
    rw [hc] at h
    simp only [List.cons_append] at h ⊢
    split at h
    · rename_i hb
      rw [if_pos hb]
      have ht : gapL 0 t ≠ [] := by
        intro e; rw [e] at h; cases h
      rw [gap_app 0 t x ht]
      exact val2_app h hr x
    · rename_i hb
      rw [if_neg hb]
      cases h; rfl

theorem endL_app {l r : List UInt8} (h : endL l = some r) (x : List UInt8) : endL (l ++ x) = some (r ++ x) := by
  cases l with
  | nil => cases h
  | cons b t =>
    rw [List.cons_append]
    simp only [endL] at h ⊢
    split at h
    · rename_i hb
      rw [if_pos hb]
      cases h; rfl
    · rename_i hb
      rw [if_neg hb]
      split at h
      · rename_i hs
        rw [if_pos hs]
        cases t with
        | nil => cases h
        | cons c u =>
          simp only [List.cons_append] at h ⊢
          split at h
          · rename_i hc
            rw [if_pos hc]
            cases h; rfl
          · cases h
      · cases h

theorem fin_app : ∀ (n : Nat) (l r x : List UInt8), l.length ≤ n → finL l = some r → finL (l ++ x) = some (r ++ x)
  | n, l, r, x, hn, h => by
    cases hg : gapL 0 l with
    | nil => rw [fin_none hg] at h; cases h
    | cons b t =>
      have hg2 := gap_app 0 l x (by rw [hg]; simp)
      rw [hg, List.cons_append] at hg2
      rw [fin_cons hg] at h
      rw [fin_cons hg2]
      have hlen : ((b :: (t ++ x)).length < (l ++ x).length ∧ attrF b = true) ↔ ((b :: t).length < l.length ∧ attrF b = true) := by
        simp only [List.length_cons, List.length_append]
        constructor <;> (intro ⟨h1, h2⟩; exact ⟨by omega, h2⟩)
      by_cases hc : (b :: t).length < l.length ∧ attrF b = true
      · rw [if_pos hc] at h
        rw [if_pos (hlen.2 hc)]
        cases hv : valL (t.dropWhile attrC) with
        | none => rw [hv] at h; cases h
        | some r' =>
          rw [hv] at h
          replace h : finL r' = some r := h
          have hr' : r' ≠ [] := by
            rintro rfl
            rw [fin_none (show gapL 0 [] = [] from rfl)] at h; cases h
          have hd : gapL 0 (t.dropWhile attrC) ≠ [] := by
            intro e
            have : valL (t.dropWhile attrC) = some (t.dropWhile attrC) := by unfold valL; rw [e]
            rw [this] at hv
            cases hv
            rw [fin_none e] at h; cases h
          have hd2 : t.dropWhile attrC ≠ [] := by
            intro e; rw [e] at hd; exact hd rfl
          have h1 := valL_le hv
          have h2 := dropWhile_le attrC t
          have h3 := hc.1
          simp only [List.length_cons] at h3
          rw [dw_app _ t x hd2, valL_app hv hr' hd x]
          match n with
          | 0 => omega
          | m + 1 => exact fin_app m r' r x (by omega) h
      · rw [if_neg hc] at h
        rw [if_neg (fun e => hc (hlen.1 e))]
        have := endL_app h x
        rwa [List.cons_append] at this

theorem name_app {l r : List UInt8} (h : nameL l = some r) (hr : r ≠ []) (x : List UInt8) : nameL (l ++ x) = some (r ++ x) := by
  cases l with
  | nil => cases h
  | cons c t =>
    rw [List.cons_append]
    simp only [nameL] at h ⊢
    split at h
    · rename_i hc
      rw [if_pos hc]
      cases h
      rw [dw_app _ t x hr]
    · cases h

theorem close_app {l r : List UInt8} (h : closeL l = some r) (x : List UInt8) : closeL (l ++ x) = some (r ++ x) := by
  cases l with
  | nil => cases h
  | cons b t =>
    rw [List.cons_append]
    simp only [closeL] at h ⊢
    split at h
    · rename_i hb
      rw [if_pos hb]
      cases h; rfl
    · cases h

theorem tag_app {s r : List UInt8} (h : tagL s = some r) (x : List UInt8) : tagL (s ++ x) = some (r ++ x) := by
  match s with
  | [] => cases h
  | [_] => cases h
  | a :: b :: t =>
    rw [List.cons_append, List.cons_append]
    simp only [tagL] at h ⊢
    split at h
    · rename_i ha
      rw [if_pos ha]
      split at h
      · rename_i hb
        rw [if_pos hb]
        cases hn : nameL t with
        | none => rw [hn] at h; cases h
        | some q =>
          rw [hn] at h
          have hg : gapL 0 q ≠ [] := by
            intro e
            simp only [e] at h
            cases h
          have hq : q ≠ [] := by rintro rfl; exact hg rfl
          rw [name_app hn hq x]
          simp only [gap_app 0 q x hg]
          exact close_app h x
      · rename_i hb
        rw [if_neg hb]
        cases hn : nameL (b :: t) with
        | none => rw [hn] at h; cases h
        | some q =>
          rw [hn] at h
          have hq : q ≠ [] := by
            rintro rfl
            simp only [fin_none (show gapL 0 [] = [] from rfl)] at h
            cases h
          have := name_app hn hq x
          rw [List.cons_append] at this
          rw [this]
          exact fin_app _ q r x (Nat.le_refl _) h
    · cases h

/-! ### Pieces: cut off -/

/-- A gap is a front of the text, and stops at what follows it. -/
theorem gap_cut : ∀ (n : Nat) (l : List UInt8), ∃ g, l = g ++ gapL n l ∧ ∀ b z, (gapL n l).head? = some b → gapL n (g ++ b :: z) = b :: z
  | _, [] => ⟨[], rfl, fun b z h => by cases h⟩
  | n, b :: t => by
    simp only [gapL]
    split
    · rename_i hb
      obtain ⟨g, e, h⟩ := gap_cut n t
      refine ⟨b :: g, by rw [List.cons_append, ← e], fun c z hc => ?_⟩
      rw [List.cons_append]
      simp only [gapL, if_pos hb]
      exact h c z hc
    · rename_i hb
      split
      · rename_i hc
        obtain ⟨g, e, h⟩ := gap_cut 1 t
        refine ⟨b :: g, by rw [List.cons_append, ← e], fun c z hz => ?_⟩
        rw [List.cons_append]
        simp only [gapL, if_neg hb, if_pos hc]
        exact h c z hz
      · rename_i hc
        refine ⟨[], rfl, fun c z hz => ?_⟩
        simp only [List.head?_cons, Option.some.injEq] at hz
        subst hz
        simp only [List.nil_append, gapL, if_neg hb, if_neg hc]

/-- So is what a kind of bytes takes. -/
theorem dw_cut (p : UInt8 → Bool) : ∀ (l : List UInt8), ∃ g, l = g ++ l.dropWhile p ∧ ∀ b z, (l.dropWhile p).head? = some b → (g ++ b :: z).dropWhile p = b :: z
  | [] => ⟨[], rfl, fun b z h => by cases h⟩
  | b :: t => by
    rw [List.dropWhile_cons]
    split
    · rename_i hb
      obtain ⟨g, e, h⟩ := dw_cut p t
      refine ⟨b :: g, by rw [List.cons_append, ← e], fun c z hc => ?_⟩
      rw [List.cons_append, List.dropWhile_cons, if_pos hb]
      exact h c z hc
    · rename_i hb
      refine ⟨[], rfl, fun c z hz => ?_⟩
      simp only [List.head?_cons, Option.some.injEq] at hz
      subst hz
      rw [List.nil_append, List.dropWhile_cons, if_neg hb]

theorem val2_cut {y p r : List UInt8} (h : val2 y = some (p ++ r)) (hp : p ≠ []) : ∃ y', y = y' ++ r ∧ val2 y' = some p ∧ y' ≠ [] ∧ y'.head? = y.head? := by
  cases y with
  | nil => cases h
  | cons q u =>
    simp only [val2] at h
    split at h
    · rename_i hq
      obtain ⟨g, e, hg⟩ := dw_cut (· != q) u
      split at h
      · cases h
      · rename_i c v hv
        simp only [Option.some.injEq] at h
        subst h
        rw [hv] at e
        refine ⟨q :: (g ++ c :: p), ?_, ?_, by simp, rfl⟩
        · rw [e]; simp
        · simp only [val2]
          rw [if_pos hq, hg c p (by rw [hv]; rfl)]
    · rename_i hq
      split at h
      · rename_i hu
        obtain ⟨g, e, hg⟩ := dw_cut unqC u
        simp only [Option.some.injEq] at h
        rw [h] at e
        obtain ⟨c, p', rfl⟩ : ∃ c p', p = c :: p' := by
          cases p with
          | nil => exact absurd rfl hp
          | cons c p' => exact ⟨c, p', rfl⟩
        refine ⟨q :: (g ++ c :: p'), ?_, ?_, by simp, rfl⟩
        · rw [e]; simp
        · simp only [val2]
          rw [if_neg hq, if_pos hu, hg c p' (by rw [h]; rfl)]
      · cases h

theorem valL_cut {d p r : List UInt8} (h : valL d = some (p ++ r)) (hp : gapL 0 p ≠ []) : ∃ d', d = d' ++ r ∧ valL d' = some p ∧ d' ≠ [] ∧ d'.head? = d.head? := by
  have hp' : p ≠ [] := by rintro rfl; exact hp rfl
  unfold valL at h
  obtain ⟨g, e, hg⟩ := gap_cut 0 d
  have same : d = p ++ r → (∀ t, gapL 0 d ≠ 61 :: t) → ∃ d', d = d' ++ r ∧ valL d' = some p ∧ d' ≠ [] ∧ d'.head? = d.head? := by
    intro hd hne
    refine ⟨p, hd, ?_, hp', ?_⟩
    · unfold valL
      have h1 := gap_app 0 p r hp
      rw [← hd] at h1
      cases hc : gapL 0 p with
      | nil => exact absurd hc hp
      | cons b t =>
        rw [hc] at h1
        simp only
        rw [if_neg]
        rintro rfl
        exact hne (t ++ r) (by rw [h1]; rfl)
    · rw [hd]
      cases p with
      | nil => exact absurd rfl hp'
      | cons c p' => rfl
  cases hc : gapL 0 d with
  | nil =>
    rw [hc] at h
    simp only [Option.some.injEq] at h
    exact same h (fun t => by rw [hc]; simp)
  | cons b t =>
    rw [hc] at h e
    simp only at h
    split at h
    · rename_i hb
      subst hb
      obtain ⟨y', ey, hv, hy, hh⟩ := val2_cut h hp'
      obtain ⟨g2, e2, hg2⟩ := gap_cut 0 t
      refine ⟨g ++ 61 :: (g2 ++ y'), ?_, ?_, by simp, ?_⟩
      · rw [e, e2, ey]; simp
      · unfold valL
        rw [hg 61 (g2 ++ y') (by rw [hc]; rfl)]
        simp only [if_true]
        obtain ⟨c, y2, rfl⟩ : ∃ c y2, y' = c :: y2 := by
          cases y' with
          | nil => exact absurd rfl hy
          | cons c y2 => exact ⟨c, y2, rfl⟩
        rw [hg2 c y2 (by rw [← hh]; rfl)]
        exact hv
      · rw [e]
        cases g <;> rfl
    · rename_i hb
      simp only [Option.some.injEq] at h
      exact same h (fun t' => by rw [hc]; intro e'; cases e'; exact hb rfl)

theorem endL_cut {l r : List UInt8} (h : endL l = some r) : ∃ p, l = p ++ r ∧ endL p = some [] ∧ p ≠ [] ∧ p.head? = l.head? := by
  cases l with
  | nil => cases h
  | cons b t =>
    simp only [endL] at h
    split at h
    · rename_i hb
      cases h
      exact ⟨[b], rfl, by simp [endL, hb], by simp, rfl⟩
    · rename_i hb
      split at h
      · rename_i hs
        cases t with
        | nil => cases h
        | cons c u =>
          simp only at h
          split at h
          · rename_i hc
            cases h
            exact ⟨[b, c], rfl, by simp [endL, hs, hc], by simp, rfl⟩
          · cases h
      · cases h

theorem fin_cut : ∀ (n : Nat) (l r : List UInt8), l.length ≤ n → finL l = some r → ∃ p, l = p ++ r ∧ finL p = some []
  | n, l, r, hn, h => by
    obtain ⟨g, e, hgc⟩ := gap_cut 0 l
    cases hg : gapL 0 l with
    | nil => rw [fin_none hg] at h; cases h
    | cons b t =>
      rw [fin_cons hg] at h
      rw [hg] at e
      have hgc' := fun z => hgc b z (by rw [hg]; rfl)
      by_cases hc : (b :: t).length < l.length ∧ attrF b = true
      · rw [if_pos hc] at h
        have hgl : 0 < g.length := by
          have := hc.1
          rw [e] at this
          simp at this
          omega
        cases hv : valL (t.dropWhile attrC) with
        | none => rw [hv] at h; cases h
        | some r' =>
          rw [hv] at h
          replace h : finL r' = some r := h
          have h1 := valL_le hv
          have h2 := dropWhile_le attrC t
          have h3 := hc.1
          simp only [List.length_cons] at h3
          obtain ⟨p', e', hf⟩ : ∃ p, r' = p ++ r ∧ finL p = some [] := by
            match n with
            | 0 => omega
            | m + 1 => exact fin_cut m r' r (by omega) h
          have hgp : gapL 0 p' ≠ [] := by
            intro e2; rw [fin_none e2] at hf; cases hf
          rw [e'] at hv
          obtain ⟨d', ed, hvd, hd', hh⟩ := valL_cut hv hgp
          obtain ⟨g2, e2, hg2⟩ := dw_cut attrC t
          obtain ⟨c, d2, rfl⟩ : ∃ c d2, d' = c :: d2 := by
            cases d' with
            | nil => exact absurd rfl hd'
            | cons c d2 => exact ⟨c, d2, rfl⟩
          refine ⟨g ++ b :: (g2 ++ c :: d2), ?_, ?_⟩
          · rw [e, e2, ed]; simp
          · rw [fin_cons (hgc' _), if_pos ⟨by simp; omega, hc.2⟩, hg2 c d2 (by rw [← hh]; rfl), hvd]
            exact hf
      · rw [if_neg hc] at h
        obtain ⟨p, ep, he, hp, hh⟩ := endL_cut h
        obtain ⟨p2, rfl⟩ : ∃ p2, p = b :: p2 := by
          cases p with
          | nil => exact absurd rfl hp
          | cons c p2 =>
            simp only [List.head?_cons, Option.some.injEq] at hh
            exact ⟨p2, by rw [hh]⟩
        refine ⟨g ++ b :: p2, ?_, ?_⟩
        · rw [e, ep]; simp
        · rw [fin_cons (hgc' _), if_neg]
          · exact he
          · rintro ⟨h1, h2⟩
            refine hc ⟨?_, h2⟩
            rw [e]
            simp at h1 ⊢
            omega

theorem tag_cut {s r : List UInt8} (h : tagL s = some r) : ∃ p, s = p ++ r ∧ tagL p = some [] := by
  match s with
  | [] => cases h
  | [_] => cases h
  | a :: b :: t =>
    simp only [tagL] at h
    split at h
    · rename_i ha
      split at h
      · rename_i hb
        cases hn : nameL t with
        | none => rw [hn] at h; cases h
        | some q =>
          rw [hn] at h
          replace h : closeL (gapL 0 q) = some r := h
          cases t with
          | nil => cases hn
          | cons c u =>
            simp only [nameL] at hn
            split at hn
            · rename_i hl
              simp only [Option.some.injEq] at hn
              obtain ⟨g, e, hg⟩ := dw_cut nameC u
              obtain ⟨g2, e2, hg2⟩ := gap_cut 0 q
              cases hq : gapL 0 q with
              | nil => rw [hq] at h; cases h
              | cons x y =>
                rw [hq] at h e2 hg2
                simp only [closeL] at h
                split at h
                · rename_i hx
                  simp only [Option.some.injEq] at h
                  subst h
                  have hg2' := hg2 x [] rfl
                  have hqq : ∃ c2 z2, g2 ++ [x] = c2 :: z2 ∧ q.head? = some c2 := by
                    rw [e2]
                    cases g2 with
                    | nil => exact ⟨x, [], rfl, rfl⟩
                    | cons c2 z2 => exact ⟨c2, z2 ++ [x], rfl, rfl⟩
                  obtain ⟨c2, z2, ez, hqh⟩ := hqq
                  refine ⟨a :: b :: c :: (g ++ (g2 ++ [x])), ?_, ?_⟩
                  · rw [hn, e2] at e
                    rw [e]; simp
                  · simp only [tagL, if_pos ha, if_pos hb, nameL, if_pos hl]
                    rw [ez, hg c2 z2 (by rw [hn]; exact hqh), ← ez, hg2']
                    simp [closeL, hx]
                · cases h
            · cases hn
      · rename_i hb
        cases hn : nameL (b :: t) with
        | none => rw [hn] at h; cases h
        | some q =>
          rw [hn] at h
          replace h : finL q = some r := h
          simp only [nameL] at hn
          split at hn
          · rename_i hl
            simp only [Option.some.injEq] at hn
            obtain ⟨g, e, hg⟩ := dw_cut nameC t
            obtain ⟨p, ep, hf⟩ := fin_cut _ q r (Nat.le_refl _) h
            obtain ⟨c2, z2, rfl⟩ : ∃ c2 z2, p = c2 :: z2 := by
              cases p with
              | nil => rw [fin_none (show gapL 0 [] = [] from rfl)] at hf; cases hf
              | cons c2 z2 => exact ⟨c2, z2, rfl⟩
            refine ⟨a :: b :: (g ++ c2 :: z2), ?_, ?_⟩
            · rw [hn, ep] at e
              rw [e]; simp
            · simp only [tagL, if_pos ha, if_neg hb, nameL, if_pos hl]
              rw [hg c2 z2 (by rw [hn, ep]; rfl)]
              exact hf
          · cases hn
    · cases h

/-- A tag, with anything behind it. -/
theorem tag_front {s r : List UInt8} (h : tagL s = some r) : ∃ p, s = p ++ r ∧ ∀ x, tagL (p ++ x) = some x := by
  obtain ⟨p, e, hp⟩ := tag_cut h
  exact ⟨p, e, fun x => by have := tag_app hp x; rwa [List.nil_append] at this⟩

end Go.Proofs.YtjdijlaoeoikhaaGreatDoor

/- What stands behind code, HTML or a link does not matter, and where they begin and end, over plain lists of bytes. -/
namespace Go.Proofs.YtjdijlaoeoikhaaGreatDoor

/-! ### Code -/

theorem run_rep : ∀ (k : Nat) (t : List UInt8), t.head? ≠ some 96 → runL (List.replicate k 96 ++ t) = k
  | 0, t, h => by
    cases t with
    | nil => rfl
    | cons b u =>
      have hb : b ≠ 96 := fun e => h (by rw [e]; rfl)
      simp [runL, hb]
  | k + 1, t, h => by
    rw [List.replicate_succ, List.cons_append]
    simp only [runL, if_true]
    rw [run_rep k t h]

theorem run_split : ∀ s : List UInt8, s = List.replicate (runL s) 96 ++ s.drop (runL s) ∧ (s.drop (runL s)).head? ≠ some 96
  | [] => ⟨rfl, by simp [runL]⟩
  | b :: t => by
    simp only [runL]
    split
    · rename_i hb
      obtain ⟨h1, h2⟩ := run_split t
      rw [List.replicate_succ, List.cons_append, List.drop_succ_cons]
      exact ⟨by rw [← h1, hb], h2⟩
    · rename_i hb
      refine ⟨rfl, ?_⟩
      simp only [List.drop_zero, List.head?_cons, ne_eq, Option.some.injEq]
      exact hb

theorem scan_front (k : Nat) : ∀ (l : List UInt8) (r m : Nat), scanC k r l = some m → m ≤ l.length ∧ k ≤ r + m ∧ scanC k r (l.take m) = some m ∧ ∀ y, scanC k r (l.take m ++ 120 :: y) = some m
  | [], r, m, h => by
    simp only [scanC] at h
    split at h
    · rename_i hr
      cases h
      refine ⟨Nat.le_refl _, by omega, by simp [scanC, hr], fun y => ?_⟩
      simp [scanC, hr]
    · cases h
  | b :: t, r, m, h => by
    simp only [scanC] at h
    split at h
    · rename_i hb
      cases hm : scanC k (r + 1) t with
      | none => rw [hm] at h; cases h
      | some m' =>
        rw [hm] at h
        simp only [Option.map_some, Option.some.injEq] at h
        subst h
        obtain ⟨h1, h2, h3, h4⟩ := scan_front k t (r + 1) m' hm
        refine ⟨by simp <;> omega, by omega, ?_, fun y => ?_⟩
        · rw [List.take_succ_cons]
          simp only [scanC, if_pos hb, h3, Option.map_some]
        · rw [List.take_succ_cons, List.cons_append]
          simp only [scanC, if_pos hb, h4, Option.map_some]
    · rename_i hb
      split at h
      · rename_i hr
        cases h
        refine ⟨Nat.zero_le _, by omega, by simp [scanC, hr], fun y => ?_⟩
        simp [scanC, hr]
      · rename_i hr
        cases hm : scanC k 0 t with
        | none => rw [hm] at h; cases h
        | some m' =>
          rw [hm] at h
          simp only [Option.map_some, Option.some.injEq] at h
          subst h
          obtain ⟨h1, h2, h3, h4⟩ := scan_front k t 0 m' hm
          refine ⟨by simp <;> omega, by omega, ?_, fun y => ?_⟩
          · rw [List.take_succ_cons]
            simp only [scanC, if_neg hb, if_neg hr, h3, Option.map_some]
          · rw [List.take_succ_cons, List.cons_append]
            simp only [scanC, if_neg hb, if_neg hr, h4, Option.map_some]

/-- Code, put together of its parts. -/
theorem code_of {k m : Nat} {t : List UInt8} (hk : 0 < k) (ht : t.head? ≠ some 96) (h : scanC k 0 t = some m) : codeL (List.replicate k 96 ++ t) = some (innerL (t.take (m - k)), k + m) := by
  unfold codeL
  rw [run_rep k t ht, if_neg (by omega)]
  have hd : (List.replicate k (96 : UInt8) ++ t).drop k = t := by
    have := List.drop_left (l₁ := List.replicate k (96 : UInt8)) (l₂ := t)
    rwa [List.length_replicate] at this
  rw [hd, h]

theorem code_front {s a : List UInt8} {n : Nat} (h : codeL s = some (a, n)) : n ≤ s.length ∧ 0 < n ∧ codeL (s.take n) = some (a, n) ∧ ∀ y, codeL (s.take n ++ 120 :: y) = some (a, n) := by
  unfold codeL at h
  split at h
  · cases h
  · rename_i hk
    obtain ⟨e, hh⟩ := run_split s
    cases hm : scanC (runL s) 0 (s.drop (runL s)) with
    | none => rw [hm] at h; cases h
    | some m =>
      rw [hm] at h
      simp only [Option.some.injEq, Prod.mk.injEq] at h
      obtain ⟨ha, hn⟩ := h
      generalize runL s = k at *
      generalize s.drop k = t at *
      obtain ⟨h1, h2, h3, h4⟩ := scan_front k t 0 m hm
      subst e hn
      have htk : (List.replicate k 96 ++ t).take (k + m) = List.replicate k 96 ++ t.take m := by
        have := List.take_length_add_append (l₁ := List.replicate k (96 : UInt8)) (l₂ := t) m
        rwa [List.length_replicate] at this
      have hth : ∀ y, (t.take m ++ y).head? ≠ some 96 := by
        intro y
        cases t with
        | nil => simp at h1; omega
        | cons b u =>
          obtain ⟨m', rfl⟩ : ∃ m', m = m' + 1 := ⟨m - 1, by omega⟩
          exact hh
      have hin : ∀ y, (t.take m ++ y).take (m - k) = t.take (m - k) := by
        intro y
        rw [List.take_append_of_le_length (by rw [List.length_take]; omega), List.take_take, Nat.min_eq_left (by omega)]
      refine ⟨by simp <;> omega, by omega, ?_, fun y => ?_⟩
      · rw [htk, code_of (by omega) (by simpa using hth []) h3, ← ha]
        have := hin []
        rw [List.append_nil] at this
        rw [this]
      · rw [htk, List.append_assoc, code_of (by omega) (hth _) (h4 y), ← ha, hin]

/-! ### Links -/

theorem tw_mem (p : UInt8 → Bool) : ∀ (l : List UInt8), ∀ c ∈ l.takeWhile p, p c = true
  | [], c, h => by cases h
  | b :: t, c, h => by
    rw [List.takeWhile_cons] at h
    split at h
    · rename_i hb
      rcases List.mem_cons.1 h with rfl | h
      · exact hb
      · exact tw_mem p t c h
    · cases h

theorem tw_all (p : UInt8 → Bool) : ∀ (u : List UInt8) (b : UInt8) (y : List UInt8), (∀ c ∈ u, p c = true) → p b = false → (u ++ b :: y).takeWhile p = u ∧ (u ++ b :: y).dropWhile p = b :: y
  | [], b, y, _, hb => by simp [hb]
  | c :: u, b, y, h, hb => by
    have hc := h c (List.mem_cons_self)
    obtain ⟨h1, h2⟩ := tw_all p u b y (fun x hx => h x (List.mem_cons_of_mem _ hx)) hb
    rw [List.cons_append, List.takeWhile_cons, List.dropWhile_cons, if_pos hc, if_pos hc, h1, h2]
    exact ⟨rfl, rfl⟩

/-- A link, put together of its parts. -/
theorem auto_of (u y : List UInt8) (hu : ∀ c ∈ u, linkC c = true) : autoL (60 :: (u ++ 62 :: y)) = if schOk u = true then some (u, u, u.length + 2) else if mailL u = true then some ([109, 97, 105, 108, 116, 111, 58] ++ u, u, u.length + 2) else none := by
  obtain ⟨h1, h2⟩ := tw_all linkC u 62 y hu rfl
  simp only [autoL, h1, h2, if_true]

theorem auto_front {s d u : List UInt8} {n : Nat} (h : autoL s = some (d, u, n)) : n ≤ s.length ∧ n = u.length + 2 ∧ (s.drop 1).take u.length = u ∧ ∀ y, autoL (s.take n ++ y) = some (d, u, n) := by
  cases s with
  | nil => cases h
  | cons a t =>
    have hsp := List.takeWhile_append_dropWhile (p := linkC) (l := t)
    have hall : ∀ c ∈ t.takeWhile linkC, linkC c = true := tw_mem linkC t
    simp only [autoL] at h
    split at h
    · rename_i ha
      subst ha
      cases hd : t.dropWhile linkC with
      | nil => rw [hd] at h; cases h
      | cons b y0 =>
        rw [hd] at h hsp
        simp only at h
        split at h
        · rename_i hb
          subst hb
          generalize t.takeWhile linkC = v at *
          subst hsp
          have hvn : u = v ∧ n = v.length + 2 := by
            split at h
            · simp only [Option.some.injEq, Prod.mk.injEq] at h
              exact ⟨h.2.1.symm, h.2.2.symm⟩
            · split at h
              · simp only [Option.some.injEq, Prod.mk.injEq] at h
                exact ⟨h.2.1.symm, h.2.2.symm⟩
              · cases h
          obtain ⟨rfl, rfl⟩ := hvn
          refine ⟨by simp <;> omega, rfl, by simp, fun y => ?_⟩
          have e : (60 :: (u ++ 62 :: y0)).take (u.length + 2) ++ y = 60 :: (u ++ 62 :: y) := by
            rw [show u.length + 2 = (u.length + 1) + 1 from rfl, List.take_succ_cons, List.take_length_add_append]
            simp
          rw [e, auto_of u y hall]
          exact h
        · cases h
    · cases h

/-! ### HTML -/

theorem pre_take {e t : List UInt8} {m : Nat} (he : e.length ≤ m) (hm : m ≤ t.length) (y : List UInt8) : e.isPrefixOf (t.take m ++ y) = e.isPrefixOf t := by
  rw [Bool.eq_iff_iff, List.isPrefixOf_iff_prefix, List.isPrefixOf_iff_prefix, List.prefix_iff_eq_take, List.prefix_iff_eq_take, List.take_append_of_le_length (by rw [List.length_take]; omega), List.take_take, Nat.min_eq_left he]

theorem up_front (e : List UInt8) (he : 0 < e.length) : ∀ (l : List UInt8) (n : Nat), upL e l = some n → n ≤ l.length ∧ e.length ≤ n ∧ (l.take n).getLast? = e.getLast? ∧ ∀ y, upL e (l.take n ++ y) = some n
  | [], n, h => by cases h
  | b :: t, n, h => by
    simp only [upL] at h
    split at h
    · rename_i hp
      simp only [Option.some.injEq] at h
      subst h
      have hp' := List.isPrefixOf_iff_prefix.1 hp
      have htk : (b :: t).take e.length = e := (List.prefix_iff_eq_take.1 hp').symm
      refine ⟨hp'.length_le, Nat.le_refl _, by rw [htk], fun y => ?_⟩
      rw [htk]
      obtain ⟨c, e', rfl⟩ : ∃ c e', e = c :: e' := by
        cases e with
        | nil => simp at he
        | cons c e' => exact ⟨c, e', rfl⟩
      rw [List.cons_append]
      simp only [upL]
      rw [if_pos]
      rw [List.isPrefixOf_iff_prefix]
      exact ⟨y, rfl⟩
    · rename_i hp
      cases hm : upL e t with
      | none => rw [hm] at h; cases h
      | some n' =>
        rw [hm] at h
        simp only [Option.map_some, Option.some.injEq] at h
        subst h
        obtain ⟨h1, h2, h3, h4⟩ := up_front e he t n' hm
        refine ⟨by simp <;> omega, by omega, ?_, fun y => ?_⟩
        · rw [List.take_succ_cons, List.getLast?_cons, h3]
          cases hg : e.getLast? with
          | none => simp only [List.getLast?_eq_none_iff] at hg; rw [hg] at he; simp at he
          | some c => rfl
        · rw [List.take_succ_cons, List.cons_append]
          simp only [upL]
          rw [if_neg, h4]
          · rfl
          · intro hq
            apply hp
            have := pre_take (e := e) (t := b :: t) (m := n' + 1) (by omega) (by simp <;> omega) y
            rw [List.take_succ_cons, List.cons_append] at this
            rw [← this]
            exact hq

theorem tag_no (c : UInt8) (t : List UInt8) (h1 : c ≠ 47) (h2 : letterB c = false) : tagL (60 :: c :: t) = none := by
  simp [tagL, h1, nameL, h2]

theorem pre_split {e s : List UInt8} (h : e.isPrefixOf s = true) : ∃ t, s = e ++ t := by
  obtain ⟨t, ht⟩ := List.isPrefixOf_iff_prefix.1 h
  exact ⟨t, ht.symm⟩

theorem last_cons {b : UInt8} {l : List UInt8} (h : l.getLast? = some 62) : (b :: l).getLast? = some 62 := by
  rw [List.getLast?_cons, h]; rfl

theorem raw2_front {s : List UInt8} {n : Nat} (h : raw2 s = some n) : n ≤ s.length ∧ 0 < n ∧ s.head? = some 60 ∧ (s.take n).getLast? = some 62 ∧ (∀ y, raw2 (s.take n ++ y) = some n) ∧ ∀ y, tagL (s.take n ++ y) = none := by
  unfold raw2 at h
  split at h
  · rename_i hp
    cases h
    obtain ⟨t, rfl⟩ := pre_split hp
    exact ⟨by simp <;> omega, by omega, rfl, rfl, fun y => by simp [raw2, List.isPrefixOf], fun y => tag_no 33 _ (by decide) rfl⟩
  · rename_i hp1
    split at h
    · rename_i hp
      cases h
      obtain ⟨t, rfl⟩ := pre_split hp
      exact ⟨by simp <;> omega, by omega, rfl, rfl, fun y => by simp [raw2, List.isPrefixOf], fun y => tag_no 33 _ (by decide) rfl⟩
    · rename_i hp2
      split at h
      · rename_i hp
        obtain ⟨t, rfl⟩ := pre_split hp
        cases hm : upL [45, 45, 62] t with
        | none => simp [hm] at h
        | some m =>
          simp [hm] at h
          subst h
          obtain ⟨h1, h2, h3, h4⟩ := up_front _ (by decide) t m hm
          have hq1 : ∀ y, [62].isPrefixOf (t.take m ++ y) = false := fun y => by
            rw [pre_take (by simp at h2 ⊢; omega) h1]
            refine Bool.eq_false_iff.2 ?_
            rw [ne_eq, List.isPrefixOf_iff_prefix]
            simpa [List.isPrefixOf] using hp1
          have hq2 : ∀ y, [45, 62].isPrefixOf (t.take m ++ y) = false := fun y => by
            rw [pre_take (by simp at h2 ⊢; omega) h1]
            refine Bool.eq_false_iff.2 ?_
            rw [ne_eq, List.isPrefixOf_iff_prefix]
            simpa [List.isPrefixOf] using hp2
          have etk : ∀ y, ([60, 33, 45, 45] ++ t).take (m + 4) ++ y = 60 :: 33 :: 45 :: 45 :: (t.take m ++ y) := fun y => by simp [List.take_succ_cons]
          refine ⟨by simp <;> omega, by omega, rfl, ?_, fun y => ?_, fun y => ?_⟩
          · have := etk []
            simp only [List.append_nil] at this
            rw [this]
            exact last_cons (last_cons (last_cons (last_cons h3)))
          · rw [etk]
            have a1 := hq1 y
            have a2 := hq2 y
            simp only [raw2, List.isPrefixOf] at a1 a2 ⊢
            simp [a1, a2, h4 y]
          · rw [etk]; exact tag_no 33 _ (by decide) rfl
      · rename_i hp3
        split at h
        · rename_i hp
          obtain ⟨t, rfl⟩ := pre_split hp
          cases hm : upL [63, 62] t with
          | none => simp [hm] at h
          | some m =>
            simp [hm] at h
            subst h
            obtain ⟨h1, h2, h3, h4⟩ := up_front _ (by decide) t m hm
            have etk : ∀ y, ([60, 63] ++ t).take (m + 2) ++ y = 60 :: 63 :: (t.take m ++ y) := fun y => by simp [List.take_succ_cons]
            refine ⟨by simp <;> omega, by omega, rfl, ?_, fun y => ?_, fun y => ?_⟩
            · have := etk []
              simp only [List.append_nil] at this
              rw [this]
              exact last_cons (last_cons h3)
            · rw [etk]
              simp [raw2, List.isPrefixOf, h4 y]
            · rw [etk]; exact tag_no 63 _ (by decide) rfl
        · rename_i hp4
          split at h
          · rename_i hp
            obtain ⟨t, rfl⟩ := pre_split hp
            cases hm : upL [93, 93, 62] t with
            | none => simp [hm] at h
            | some m =>
              simp [hm] at h
              subst h
              obtain ⟨h1, h2, h3, h4⟩ := up_front _ (by decide) t m hm
              have etk : ∀ y, ([60, 33, 91, 67, 68, 65, 84, 65, 91] ++ t).take (m + 9) ++ y = 60 :: 33 :: 91 :: 67 :: 68 :: 65 :: 84 :: 65 :: 91 :: (t.take m ++ y) := fun y => by simp [List.take_succ_cons]
              refine ⟨by simp <;> omega, by omega, rfl, ?_, fun y => ?_, fun y => ?_⟩
              · have := etk []
                simp only [List.append_nil] at this
                rw [this]
                exact last_cons (last_cons (last_cons (last_cons (last_cons (last_cons (last_cons (last_cons (last_cons h3))))))))
              · rw [etk]
                simp [raw2, List.isPrefixOf, h4 y]
              · rw [etk]; exact tag_no 33 _ (by decide) rfl
          · match s with
            | [] => cases h
            | [_] => cases h
            | [_, _] => cases h
            | a :: b :: c :: t =>
              simp only [declL] at h
              split at h
              · rename_i hd
                obtain ⟨rfl, rfl, hl⟩ := hd
                cases hm : upL [62] t with
                | none => simp [hm] at h
                | some m =>
                  simp [hm] at h
                  subst h
                  obtain ⟨h1, h2, h3, h4⟩ := up_front _ (by decide) t m hm
                  have hc1 : c ≠ 45 := by rintro rfl; cases hl
                  have hc2 : c ≠ 91 := by rintro rfl; cases hl
                  have etk : ∀ y, (60 :: 33 :: c :: t).take (m + 3) ++ y = 60 :: 33 :: c :: (t.take m ++ y) := fun y => by simp [List.take_succ_cons]
                  refine ⟨by simp <;> omega, by omega, rfl, ?_, fun y => ?_, fun y => ?_⟩
                  · have := etk []
                    simp only [List.append_nil] at this
                    rw [this]
                    exact last_cons (last_cons (last_cons h3))
                  · rw [etk]
                    have e1 : ((45 : UInt8) == c) = false := by simpa using Ne.symm hc1
                    have e2 : ((91 : UInt8) == c) = false := by simpa using Ne.symm hc2
                    simp [raw2, List.isPrefixOf, e1, e2, declL, hl, h4 y]
                  · rw [etk]; exact tag_no 33 _ (by decide) rfl
              · cases h

end Go.Proofs.YtjdijlaoeoikhaaGreatDoor

/- Tags and HTML as a whole: where they begin and end, and that what stands behind does not matter; code between runs; comments; links, over plain lists of bytes. -/
namespace Go.Proofs.YtjdijlaoeoikhaaGreatDoor

/-! ### A tag ends with its sign -/

theorem val2_suf {l r : List UInt8} (h : val2 l = some r) : ∃ p, l = p ++ r := by
  cases l with
  | nil => cases h
  | cons q u =>
    simp only [val2] at h
    split at h
    · obtain ⟨g, e, _⟩ := dw_cut (· != q) u
      split at h
      · cases h
      · rename_i c v hv
        cases h
        rw [hv] at e
        exact ⟨q :: (g ++ [c]), by rw [e]; simp⟩
    · split at h
      · obtain ⟨g, e, _⟩ := dw_cut unqC u
        cases h
        exact ⟨q :: g, by rw [List.cons_append, ← e]⟩
      · cases h

theorem valL_suf {l r : List UInt8} (h : valL l = some r) : ∃ p, l = p ++ r := by
  obtain ⟨g, e, _⟩ := gap_cut 0 l
  unfold valL at h
  split at h
  · cases h; exact ⟨[], rfl⟩
  · rename_i b t hb
    split at h
    · obtain ⟨g2, e2, _⟩ := gap_cut 0 t
      obtain ⟨p, ep⟩ := val2_suf h
      rw [hb] at e
      exact ⟨g ++ b :: (g2 ++ p), by rw [e, e2, ep]; simp⟩
    · cases h; exact ⟨[], rfl⟩

theorem endL_last {l r : List UInt8} (h : endL l = some r) : ∃ p, l = p ++ 62 :: r := by
  cases l with
  | nil => cases h
  | cons b t =>
    simp only [endL] at h
    split at h
    · rename_i hb; cases h; exact ⟨[], by rw [hb]; rfl⟩
    · split at h
      · cases t with
        | nil => cases h
        | cons c u =>
          simp only at h
          split at h
          · rename_i hc; cases h; exact ⟨[b], by rw [hc]; rfl⟩
          · cases h
      · cases h

theorem fin_last : ∀ (n : Nat) (l r : List UInt8), l.length ≤ n → finL l = some r → ∃ p, l = p ++ 62 :: r
  | n, l, r, hn, h => by
    obtain ⟨g, e, _⟩ := gap_cut 0 l
    cases hg : gapL 0 l with
    | nil => rw [fin_none hg] at h; cases h
    | cons b t =>
      rw [fin_cons hg] at h
      rw [hg] at e
      split at h
      · rename_i hc
        cases hv : valL (t.dropWhile attrC) with
        | none => rw [hv] at h; cases h
        | some r' =>
          rw [hv] at h
          replace h : finL r' = some r := h
          have h1 := valL_le hv
          have h2 := dropWhile_le attrC t
          have h3 := hc.1
          simp only [List.length_cons] at h3
          obtain ⟨p, ep⟩ : ∃ p, r' = p ++ 62 :: r := by
            match n with
            | 0 => omega
            | m + 1 => exact fin_last m r' r (by omega) h
          obtain ⟨g2, e2, _⟩ := dw_cut attrC t
          obtain ⟨p2, ep2⟩ := valL_suf hv
          exact ⟨g ++ b :: (g2 ++ (p2 ++ p)), by rw [e, e2, ep2, ep]; simp⟩
      · obtain ⟨p, ep⟩ := endL_last h
        exact ⟨g ++ p, by rw [e, ep]; simp⟩

theorem name_suf {l r : List UInt8} (h : nameL l = some r) : ∃ p, l = p ++ r := by
  cases l with
  | nil => cases h
  | cons c t =>
    simp only [nameL] at h
    split at h
    · obtain ⟨g, e, _⟩ := dw_cut nameC t
      cases h
      exact ⟨c :: g, by rw [List.cons_append, ← e]⟩
    · cases h

theorem tag_last {s r : List UInt8} (h : tagL s = some r) : ∃ p, s = 60 :: (p ++ 62 :: r) := by
  match s with
  | [] => cases h
  | [_] => cases h
  | a :: b :: t =>
    simp only [tagL] at h
    split at h
    · rename_i ha
      subst ha
      split at h
      · cases hn : nameL t with
        | none => rw [hn] at h; cases h
        | some q =>
          rw [hn] at h
          replace h : closeL (gapL 0 q) = some r := h
          obtain ⟨p, ep⟩ := name_suf hn
          obtain ⟨g, e, _⟩ := gap_cut 0 q
          cases hq : gapL 0 q with
          | nil => rw [hq] at h; cases h
          | cons x y =>
            rw [hq] at h e
            simp only [closeL] at h
            split at h
            · rename_i hx
              cases h
              exact ⟨b :: (p ++ g), by rw [ep, e, hx]; simp⟩
            · cases h
      · cases hn : nameL (b :: t) with
        | none => rw [hn] at h; cases h
        | some q =>
          rw [hn] at h
          replace h : finL q = some r := h
          obtain ⟨p, ep⟩ := name_suf hn
          obtain ⟨p2, ep2⟩ := fin_last _ q r (Nat.le_refl _) h
          exact ⟨p ++ p2, by rw [ep, ep2]; simp⟩
    · cases h

/-! ### As a whole -/

theorem tagN_le (s : List UInt8) : tagN s ≤ s.length := by
  unfold tagN; split <;> omega

theorem tagN_front {s : List UInt8} (h : 0 < tagN s) : s.head? = some 60 ∧ (s.take (tagN s)).getLast? = some 62 ∧ ∀ y, tagN (s.take (tagN s) ++ y) = tagN s := by
  cases ht : tagL s with
  | none => simp [tagN, ht] at h
  | some r =>
    obtain ⟨p, e, hp⟩ := tag_front ht
    obtain ⟨p2, e2⟩ := tag_last ht
    have hn : tagN s = p.length := by
      simp only [tagN, ht]
      rw [e]; simp
    have hpe : p = 60 :: (p2 ++ [62]) := by
      have : p ++ r = (60 :: (p2 ++ [62])) ++ r := by rw [← e, e2]; simp
      exact List.append_cancel_right this
    have htk : s.take p.length = p := by rw [e]; simp
    rw [hn, htk]
    refine ⟨by rw [e, hpe]; rfl, by rw [hpe, List.getLast?_cons, List.getLast?_append]; rfl, fun y => ?_⟩
    simp only [tagN, hp]
    simp

theorem rawN_front {s : List UInt8} (h : 0 < rawN s) : rawN s ≤ s.length ∧ s.head? = some 60 ∧ (s.take (rawN s)).getLast? = some 62 ∧ ∀ y, rawN (s.take (rawN s) ++ y) = rawN s := by
  by_cases ht : 0 < tagN s
  · have e : rawN s = tagN s := by unfold rawN; rw [if_pos ht]
    obtain ⟨h1, h2, h3⟩ := tagN_front ht
    rw [e]
    refine ⟨tagN_le s, h1, h2, fun y => ?_⟩
    unfold rawN
    rw [h3 y, if_pos ht]
  · have e : rawN s = (raw2 s).getD 0 := by unfold rawN; rw [if_neg ht]
    rw [e] at h ⊢
    cases hr : raw2 s with
    | none => rw [hr] at h; simp at h
    | some n =>
      obtain ⟨h1, h2, h3, h4, h5, h6⟩ := raw2_front hr
      refine ⟨h1, h3, h4, fun y => ?_⟩
      show rawN (s.take n ++ y) = n
      unfold rawN
      have : tagN (s.take n ++ y) = 0 := by simp only [tagN, h6 y]
      rw [this, if_neg (by omega), h5 y]
      rfl

theorem rawN_le (s : List UInt8) : rawN s ≤ s.length := by
  by_cases h : 0 < rawN s
  · exact (rawN_front h).1
  · omega

theorem rawN_tag {s : List UInt8} (h : 0 < tagN s) : rawN s = tagN s := by unfold rawN; rw [if_pos h]

/-! ### Code between two runs -/

theorem scan_reps (k : Nat) : ∀ (j r : Nat), r + j = k → scanC k r (List.replicate j 96) = some j
  | 0, r, h => by simp [scanC]; omega
  | j + 1, r, h => by
    rw [List.replicate_succ]
    simp only [scanC, if_true]
    rw [scan_reps k j (r + 1) (by omega)]
    rfl

theorem scan_text (k : Nat) (hk : 0 < k) : ∀ t : List UInt8, (∀ c ∈ t, c ≠ 96) → scanC k 0 (t ++ List.replicate k 96) = some (t.length + k)
  | [], _ => by rw [List.nil_append, scan_reps k k 0 (by omega)]; simp
  | b :: t, h => by
    have hb := h b (List.mem_cons_self)
    rw [List.cons_append]
    simp only [scanC, if_neg hb]
    rw [if_neg (by omega), scan_text k hk t (fun c hc => h c (List.mem_cons_of_mem _ hc))]
    simp only [Option.map_some, List.length_cons]
    congr 1; omega

theorem code_between (k : Nat) (hk : 0 < k) (t : List UInt8) (ht : ∀ c ∈ t, c ≠ 96) (h0 : t ≠ []) : codeL (List.replicate k 96 ++ (t ++ List.replicate k 96)) = some (innerL t, t.length + 2 * k) := by
  have hh : (t ++ List.replicate k 96).head? ≠ some 96 := by
    cases t with
    | nil => exact absurd rfl h0
    | cons b u =>
      rw [List.cons_append]
      simp only [List.head?_cons, ne_eq, Option.some.injEq]
      exact ht b (List.mem_cons_self)
  rw [code_of hk hh (scan_text k hk t ht)]
  have : (t ++ List.replicate k 96).take (t.length + k - k) = t := by rw [Nat.add_sub_cancel]; simp
  rw [this]
  simp only [Option.some.injEq, Prod.mk.injEq, true_and]
  omega

theorem inner_plain (l : List UInt8) (h : ∀ c ∈ l, c ≠ 10) : innerL l = if 1 < l.length ∧ l.all (· == 32) = false ∧ l.head? = some 32 ∧ l.getLast? = some 32 then (l.drop 1).dropLast else l := by
  have e : (l.map fun b => if b = 10 then 32 else b) = l := by
    have : (l.map fun b => if b = 10 then (32 : UInt8) else b) = l.map id := List.map_congr_left fun c hc => by rw [if_neg (h c hc)]; rfl
    rw [this, List.map_id]
  unfold innerL
  simp only [e]

theorem inner_blanks (l : List UInt8) (h : ∀ c ∈ l, c ≠ 10) : innerL (32 :: (l ++ [32])) = if l.all (· == 32) = true then 32 :: (l ++ [32]) else l := by
  rw [inner_plain _ (by
    intro c hc
    rcases List.mem_cons.1 hc with rfl | hc
    · decide
    · rcases List.mem_append.1 hc with hc | hc
      · exact h c hc
      · simp only [List.mem_cons, List.not_mem_nil, or_false] at hc
        rw [hc]; decide)]
  have ha : (32 :: (l ++ [32])).all (· == 32) = l.all (· == 32) := by simp
  rw [ha]
  by_cases hl : l.all (· == 32) = true
  · rw [if_pos hl, if_neg]
    rintro ⟨_, h2, _⟩
    rw [hl] at h2; cases h2
  · rw [if_neg hl, if_pos]
    · simp
    · refine ⟨by simp, by simpa using hl, rfl, ?_⟩
      rw [List.getLast?_cons, List.getLast?_append]; rfl

end Go.Proofs.YtjdijlaoeoikhaaGreatDoor

/- Tags, comments and links that were written down, over plain lists of bytes. -/
namespace Go.Proofs.YtjdijlaoeoikhaaGreatDoor

/-- A small letter or a digit. -/
def wordC (c : UInt8) : Bool := (decide (97 ≤ c.toNat) && decide (c.toNat ≤ 122)) || (decide (48 ≤ c.toNat) && decide (c.toNat ≤ 57))
def AllW (l : List UInt8) : Prop := ∀ c ∈ l, wordC c = true

theorem word_name {c : UInt8} (h : wordC c = true) : nameC c = true ∧ attrC c = true ∧ schC c = true ∧ mailC c = true ∧ linkC c = true ∧ (letterB c || digitB c || c == 45) = true := by
  have hl : letterB c = true ∨ digitB c = true := by
    simp only [wordC, letterB, digitB, Bool.or_eq_true, Bool.and_eq_true, decide_eq_true_eq] at h ⊢
    omega
  have hk : linkC c = true := by
    simp only [wordC, Bool.or_eq_true, Bool.and_eq_true, decide_eq_true_eq] at h
    have h1 : c ≠ 127 := by rintro rfl; revert h; decide
    have h2 : c ≠ 60 := by rintro rfl; revert h; decide
    have h3 : c ≠ 62 := by rintro rfl; revert h; decide
    simp only [linkC, Bool.and_eq_true, decide_eq_true_eq, bne_iff_ne, ne_eq]
    exact ⟨⟨⟨by omega, h1⟩, h2⟩, h3⟩
  rcases hl with hl | hl <;> simp [nameC, attrC, schC, mailC, hl, hk]

theorem dw_all (p : UInt8 → Bool) (u : List UInt8) (b : UInt8) (y : List UInt8) (h : ∀ c ∈ u, p c = true) (hb : p b = false) : (u ++ b :: y).dropWhile p = b :: y := (tw_all p u b y h hb).2

/-! ### Tags -/

theorem gap_stop {b : UInt8} (h1 : b ≠ 32) (h2 : b ≠ 9) (h3 : b ≠ 10) (n : Nat) (t : List UInt8) : gapL n (b :: t) = b :: t := by
  simp [gapL, h1, h2, h3]
theorem gap_blank (n : Nat) (t : List UInt8) : gapL n (32 :: t) = gapL n t := by simp [gapL]
theorem gap_tab (n : Nat) (t : List UInt8) : gapL n (9 :: t) = gapL n t := by simp [gapL]
theorem gap_feed (t : List UInt8) : gapL 0 (10 :: t) = gapL 1 t := by simp [gapL]

/-- The ends of an opening tag. -/
def IsEnd (e : List UInt8) : Prop := e = [62] ∨ e = [32, 62] ∨ e = [47, 62] ∨ e = [32, 47, 62]

theorem end_fin {e : List UInt8} (h : IsEnd e) (y : List UInt8) : finL (e ++ y) = some y := by
  rcases h with rfl | rfl | rfl | rfl
  · have hg : gapL 0 ([62] ++ y) = 62 :: y := gap_stop (by decide) (by decide) (by decide) 0 y
    rw [fin_cons hg, if_neg (by simp)]
    simp [endL]
  · have hg : gapL 0 ([32, 62] ++ y) = 62 :: y := by
      show gapL 0 (32 :: 62 :: y) = _
      rw [gap_blank]; exact gap_stop (by decide) (by decide) (by decide) 0 y
    rw [fin_cons hg, if_neg (by rintro ⟨_, h⟩; cases h)]
    simp [endL]
  · have hg : gapL 0 ([47, 62] ++ y) = 47 :: 62 :: y := gap_stop (by decide) (by decide) (by decide) 0 _
    rw [fin_cons hg, if_neg (by simp)]
    simp [endL]
  · have hg : gapL 0 ([32, 47, 62] ++ y) = 47 :: 62 :: y := by
      show gapL 0 (32 :: 47 :: 62 :: y) = _
      rw [gap_blank]; exact gap_stop (by decide) (by decide) (by decide) 0 _
    rw [fin_cons hg, if_neg (by rintro ⟨_, h⟩; cases h)]
    simp [endL]

/-- The values of an attribute. -/
def IsVal (v e : List UInt8) : Prop :=
  v = [] ∨ (∃ q, v = 61 :: 39 :: (q ++ [39]) ∧ ∀ c ∈ q, c ≠ 39) ∨ (∃ q, v = 32 :: 61 :: 9 :: 34 :: (q ++ [34]) ∧ ∀ c ∈ q, c ≠ 34) ∨ (v = [61, 118] ∧ e ≠ [47, 62])

theorem val_end {e : List UInt8} (h : IsEnd e) (y : List UInt8) : valL (e ++ y) = some (e ++ y) := by
  unfold valL
  rcases h with rfl | rfl | rfl | rfl
  · rw [show ([62] ++ y) = 62 :: y from rfl, gap_stop (by decide) (by decide) (by decide)]; rfl
  · rw [show ([32, 62] ++ y) = 32 :: 62 :: y from rfl, gap_blank, gap_stop (by decide) (by decide) (by decide)]; rfl
  · rw [show ([47, 62] ++ y) = 47 :: 62 :: y from rfl, gap_stop (by decide) (by decide) (by decide)]; rfl
  · rw [show ([32, 47, 62] ++ y) = 32 :: 47 :: 62 :: y from rfl, gap_blank, gap_stop (by decide) (by decide) (by decide)]; rfl

theorem val_val {v e : List UInt8} (hv : IsVal v e) (h : IsEnd e) (y : List UInt8) : valL (v ++ (e ++ y)) = some (e ++ y) := by
  rcases hv with rfl | ⟨q, rfl, hq⟩ | ⟨q, rfl, hq⟩ | ⟨rfl, he⟩
  · exact val_end h y
  · have e1 : (61 :: 39 :: (q ++ [39])) ++ (e ++ y) = 61 :: 39 :: (q ++ 39 :: (e ++ y)) := by simp
    unfold valL
    rw [e1, gap_stop (by decide) (by decide) (by decide)]
    simp only [if_true]
    rw [gap_stop (by decide) (by decide) (by decide)]
    simp only [val2]
    rw [if_pos (by simp), dw_all _ q 39 (e ++ y) (fun c hc => by simpa using hq c hc) (by decide)]
  · have e1 : (32 :: 61 :: 9 :: 34 :: (q ++ [34])) ++ (e ++ y) = 32 :: 61 :: 9 :: 34 :: (q ++ 34 :: (e ++ y)) := by simp
    unfold valL
    rw [e1, gap_blank, gap_stop (by decide) (by decide) (by decide)]
    simp only [if_true]
    rw [gap_tab, gap_stop (by decide) (by decide) (by decide)]
    simp only [val2]
    rw [if_pos (by simp), dw_all _ q 34 (e ++ y) (fun c hc => by simpa using hq c hc) (by decide)]
  · unfold valL
    rw [show ([61, 118] ++ (e ++ y)) = 61 :: 118 :: (e ++ y) from rfl, gap_stop (by decide) (by decide) (by decide)]
    simp only [if_true]
    rw [gap_stop (by decide) (by decide) (by decide)]
    simp only [val2]
    rw [if_neg (by decide), if_pos (by rfl)]
    rcases h with rfl | rfl | rfl | rfl
    · rw [show ([62] ++ y) = 62 :: y from rfl, List.dropWhile_cons, if_neg (by decide)]
    · rw [show ([32, 62] ++ y) = 32 :: 62 :: y from rfl, List.dropWhile_cons, if_neg (by decide)]
    · exact absurd rfl he
    · rw [show ([32, 47, 62] ++ y) = 32 :: 47 :: 62 :: y from rfl, List.dropWhile_cons, if_neg (by decide)]

/-- The gaps ahead of an attribute. -/
def IsGap (g : List UInt8) : Prop := g = [32] ∨ g = [10] ∨ g = [32, 9, 32]

theorem gap_gap {g : List UInt8} (hg : IsGap g) {b : UInt8} (h1 : b ≠ 32) (h2 : b ≠ 9) (h3 : b ≠ 10) (t : List UInt8) : gapL 0 (g ++ b :: t) = b :: t := by
  rcases hg with rfl | rfl | rfl
  · rw [show ([32] ++ b :: t) = 32 :: b :: t from rfl, gap_blank, gap_stop h1 h2 h3]
  · rw [show ([10] ++ b :: t) = 10 :: b :: t from rfl, gap_feed, gap_stop h1 h2 h3]
  · rw [show ([32, 9, 32] ++ b :: t) = 32 :: 9 :: 32 :: b :: t from rfl, gap_blank, gap_tab, gap_blank, gap_stop h1 h2 h3]

theorem name_of {n : List UInt8} (hn : AllW n) {b : UInt8} (hb : nameC b = false) (t : List UInt8) : nameL (97 :: (n ++ b :: t)) = some (b :: t) := by
  simp only [nameL]
  rw [if_pos (by rfl), dw_all _ n b t (fun c hc => (word_name (hn c hc)).1) hb]

theorem head_of {v e : List UInt8} (hv : IsVal v e) (h : IsEnd e) (y : List UInt8) : ∃ b t, v ++ (e ++ y) = b :: t ∧ attrC b = false := by
  rcases hv with rfl | ⟨q, rfl, hq⟩ | ⟨q, rfl, hq⟩ | ⟨rfl, he⟩
  · rcases h with rfl | rfl | rfl | rfl
    · exact ⟨62, y, rfl, rfl⟩
    · exact ⟨32, 62 :: y, rfl, rfl⟩
    · exact ⟨47, 62 :: y, rfl, rfl⟩
    · exact ⟨32, 47 :: 62 :: y, rfl, rfl⟩
  · exact ⟨61, _, rfl, rfl⟩
  · exact ⟨32, _, rfl, rfl⟩
  · exact ⟨61, _, rfl, rfl⟩

/-- An opening tag with an attribute. -/
theorem tag_open {n g a v e : List UInt8} (hn : AllW n) (hg : IsGap g) (ha : AllW a) (hv : IsVal v e) (he : IsEnd e) (y : List UInt8) : tagL (60 :: 97 :: (n ++ (g ++ (98 :: (a ++ (v ++ (e ++ y))))))) = some y := by
  obtain ⟨b, t, hbt, hb⟩ := head_of hv he y
  have hgh : ∃ gb gt, g ++ (98 :: (a ++ (v ++ (e ++ y)))) = gb :: gt ∧ nameC gb = false := by
    rcases hg with rfl | rfl | rfl
    · exact ⟨32, _, rfl, rfl⟩
    · exact ⟨10, _, rfl, rfl⟩
    · exact ⟨32, _, rfl, rfl⟩
  obtain ⟨gb, gt, hgt, hgb⟩ := hgh
  have hgap : gapL 0 (g ++ (98 :: (a ++ (v ++ (e ++ y))))) = 98 :: (a ++ (v ++ (e ++ y))) := gap_gap hg (by decide) (by decide) (by decide) _
  have hfin : finL (g ++ (98 :: (a ++ (v ++ (e ++ y))))) = some y := by
    rw [fin_cons hgap, if_pos]
    · rw [hbt, dw_all _ a b t (fun c hc => (word_name (ha c hc)).2.1) hb, ← hbt, val_val hv he y]
      exact end_fin he y
    · refine ⟨?_, rfl⟩
      rcases hg with rfl | rfl | rfl <;> simp
  simp only [tagL, if_true]
  rw [if_neg (by decide), hgt, name_of hn hgb gt, ← hgt]
  exact hfin

/-- An opening tag without one. -/
theorem tag_bare {n : List UInt8} (hn : AllW n) (y : List UInt8) : tagL (60 :: 97 :: (n ++ 62 :: y)) = some y := by
  simp only [tagL, if_true]
  rw [if_neg (by decide), name_of hn (by rfl) y]
  exact end_fin (.inl rfl) y

/-- A closing tag. -/
theorem tag_close {n g : List UInt8} (hn : AllW n) (hg : g = [62] ∨ g = [32, 62] ∨ g = [10, 62]) (y : List UInt8) : tagL (60 :: 47 :: 97 :: (n ++ (g ++ y))) = some y := by
  simp only [tagL, if_true]
  rcases hg with rfl | rfl | rfl
  · rw [show n ++ ([62] ++ y) = n ++ 62 :: y from rfl, name_of hn (by rfl) y]
    simp only [gap_stop (b := 62) (by decide) (by decide) (by decide), closeL, if_true]
  · rw [show n ++ ([32, 62] ++ y) = n ++ 32 :: 62 :: y from rfl, name_of hn (by rfl)]
    simp only [gap_blank, gap_stop (b := 62) (by decide) (by decide) (by decide), closeL, if_true]
  · rw [show n ++ ([10, 62] ++ y) = n ++ 10 :: 62 :: y from rfl, name_of hn (by rfl)]
    simp only [gap_feed, gap_stop (b := 62) (by decide) (by decide) (by decide), closeL, if_true]

theorem tag_len {p y : List UInt8} (h : tagL (p ++ y) = some y) (h0 : 0 < p.length) : tagN (p ++ y) = p.length ∧ rawN (p ++ y) = p.length := by
  have h1 : tagN (p ++ y) = p.length := by simp only [tagN, h]; simp
  exact ⟨h1, by rw [rawN_tag (by omega), h1]⟩

/-! ### Comments and the like -/

theorem up_find (c : UInt8) (e' : List UInt8) : ∀ (t y : List UInt8), (∀ b ∈ t, b ≠ c) → upL (c :: e') (t ++ (c :: e' ++ y)) = some (t.length + (c :: e').length)
  | [], y, _ => by
    rw [List.nil_append, List.cons_append]
    simp only [upL]
    rw [if_pos]
    · simp
    · rw [List.isPrefixOf_iff_prefix]
      exact ⟨y, rfl⟩
  | b :: t, y, h => by
    have hb := h b (List.mem_cons_self)
    rw [List.cons_append]
    simp only [upL]
    rw [if_neg, up_find c e' t y (fun x hx => h x (List.mem_cons_of_mem _ hx))]
    · simp only [Option.map_some, List.length_cons]
      congr 1; omega
    · rw [List.isPrefixOf_iff_prefix]
      rintro ⟨z, hz⟩
      rw [List.cons_append] at hz
      exact hb (List.cons.inj hz).1.symm

theorem up_lacks {e : List UInt8} {c : UInt8} (he : c ∈ e) : ∀ t : List UInt8, (∀ b ∈ t, b ≠ c) → upL e t = none
  | [], _ => rfl
  | b :: t, h => by
    simp only [upL]
    rw [if_neg, up_lacks he t (fun x hx => h x (List.mem_cons_of_mem _ hx))]
    · rfl
    · rw [List.isPrefixOf_iff_prefix]
      rintro ⟨z, hz⟩
      exact h c (by rw [← hz]; exact List.mem_append_left _ he) rfl

/-- Without the signs of the ends. -/
def Calm (t : List UInt8) : Prop := ∀ c ∈ t, c ≠ 45 ∧ c ≠ 62 ∧ c ≠ 63 ∧ c ≠ 93

theorem com_whole {t : List UInt8} (ht : Calm t) (y : List UInt8) :
    rawN ([60, 33, 45, 45] ++ (32 :: t) ++ ([45, 45, 62] ++ y)) = t.length + 8 ∧
    rawN ([60, 63] ++ (32 :: t) ++ ([63, 62] ++ y)) = t.length + 5 ∧
    rawN ([60, 33, 65] ++ (32 :: t) ++ ([62] ++ y)) = t.length + 5 ∧
    rawN ([60, 33, 91, 67, 68, 65, 84, 65, 91] ++ (32 :: t) ++ ([93, 93, 62] ++ y)) = t.length + 13 := by
  have u1 := up_find 45 [45, 62] (32 :: t) y (by
    intro b hb
    rcases List.mem_cons.1 hb with rfl | hb
    · decide
    · exact (ht b hb).1)
  have u2 := up_find 63 [62] (32 :: t) y (by
    intro b hb
    rcases List.mem_cons.1 hb with rfl | hb
    · decide
    · exact (ht b hb).2.2.1)
  have u3 := up_find 62 [] (32 :: t) y (by
    intro b hb
    rcases List.mem_cons.1 hb with rfl | hb
    · decide
    · exact (ht b hb).2.1)
  have u4 := up_find 93 [93, 62] (32 :: t) y (by
    intro b hb
    rcases List.mem_cons.1 hb with rfl | hb
    · decide
    · exact (ht b hb).2.2.2)
  simp only [List.cons_append, List.nil_append, List.length_cons, List.length_nil] at u1 u2 u3 u4
  have hl : letterB 65 = true := rfl
  refine ⟨?_, ?_, ?_, ?_⟩
  · have h1 : tagL ([60, 33, 45, 45] ++ (32 :: t) ++ ([45, 45, 62] ++ y)) = none := tag_no 33 _ (by decide) rfl
    unfold rawN
    rw [show tagN ([60, 33, 45, 45] ++ (32 :: t) ++ ([45, 45, 62] ++ y)) = 0 by simp only [tagN, h1], if_neg (by omega)]
    simp [raw2, List.isPrefixOf, u1]
  · have h1 : tagL ([60, 63] ++ (32 :: t) ++ ([63, 62] ++ y)) = none := tag_no 63 _ (by decide) rfl
    unfold rawN
    rw [show tagN ([60, 63] ++ (32 :: t) ++ ([63, 62] ++ y)) = 0 by simp only [tagN, h1], if_neg (by omega)]
    simp [raw2, List.isPrefixOf, u2]
  · have h1 : tagL ([60, 33, 65] ++ (32 :: t) ++ ([62] ++ y)) = none := tag_no 33 _ (by decide) rfl
    unfold rawN
    rw [show tagN ([60, 33, 65] ++ (32 :: t) ++ ([62] ++ y)) = 0 by simp only [tagN, h1], if_neg (by omega)]
    simp [raw2, List.isPrefixOf, declL, hl, u3]
  · have h1 : tagL ([60, 33, 91, 67, 68, 65, 84, 65, 91] ++ (32 :: t) ++ ([93, 93, 62] ++ y)) = none := tag_no 33 _ (by decide) rfl
    unfold rawN
    rw [show tagN ([60, 33, 91, 67, 68, 65, 84, 65, 91] ++ (32 :: t) ++ ([93, 93, 62] ++ y)) = 0 by simp only [tagN, h1], if_neg (by omega)]
    simp [raw2, List.isPrefixOf, u4]

theorem com_cut {t : List UInt8} (ht : Calm t) :
    rawN ([60, 33, 45, 45] ++ (32 :: t) ++ [45, 45]) = 0 ∧
    rawN ([60, 63] ++ (32 :: t) ++ [63]) = 0 ∧
    rawN ([60, 33, 65] ++ (32 :: t)) = 0 ∧
    rawN ([60, 33, 91, 67, 68, 65, 84, 65, 91] ++ (32 :: t) ++ [93, 93]) = 0 := by
  have lack : ∀ e z : List UInt8, (62 : UInt8) ∈ e → (∀ b ∈ z, b ≠ 62) → upL e (32 :: (t ++ z)) = none := fun e z he hz => up_lacks he _ (by
    intro b hb
    rcases List.mem_cons.1 hb with rfl | hb
    · decide
    · rcases List.mem_append.1 hb with hb | hb
      · exact (ht b hb).2.1
      · exact hz b hb)
  have u1 := lack [45, 45, 62] [45, 45] (by simp) (by simp)
  have u2 := lack [63, 62] [63] (by simp) (by simp)
  have u3 := lack [62] [] (by simp) (by simp)
  have u4 := lack [93, 93, 62] [93, 93] (by simp) (by simp)
  rw [List.append_nil] at u3
  have hl : letterB 65 = true := rfl
  refine ⟨?_, ?_, ?_, ?_⟩
  · have h1 : tagL ([60, 33, 45, 45] ++ (32 :: t) ++ [45, 45]) = none := tag_no 33 _ (by decide) rfl
    unfold rawN
    rw [show tagN ([60, 33, 45, 45] ++ (32 :: t) ++ [45, 45]) = 0 by simp only [tagN, h1], if_neg (by omega)]
    simp [raw2, List.isPrefixOf, u1]
  · have h1 : tagL ([60, 63] ++ (32 :: t) ++ [63]) = none := tag_no 63 _ (by decide) rfl
    unfold rawN
    rw [show tagN ([60, 63] ++ (32 :: t) ++ [63]) = 0 by simp only [tagN, h1], if_neg (by omega)]
    simp [raw2, List.isPrefixOf, u2]
  · have h1 : tagL ([60, 33, 65] ++ (32 :: t)) = none := tag_no 33 _ (by decide) rfl
    unfold rawN
    rw [show tagN ([60, 33, 65] ++ (32 :: t)) = 0 by simp only [tagN, h1], if_neg (by omega)]
    simp [raw2, List.isPrefixOf, declL, hl, u3]
  · have h1 : tagL ([60, 33, 91, 67, 68, 65, 84, 65, 91] ++ (32 :: t) ++ [93, 93]) = none := tag_no 33 _ (by decide) rfl
    unfold rawN
    rw [show tagN ([60, 33, 91, 67, 68, 65, 84, 65, 91] ++ (32 :: t) ++ [93, 93]) = 0 by simp only [tagN, h1], if_neg (by omega)]
    simp [raw2, List.isPrefixOf, u4]

/-! ### Links -/

theorem tw_end (p : UInt8 → Bool) : ∀ (u : List UInt8), (∀ c ∈ u, p c = true) → u.takeWhile p = u
  | [], _ => rfl
  | c :: u, h => by
    rw [List.takeWhile_cons, if_pos (h c (List.mem_cons_self)), tw_end p u (fun x hx => h x (List.mem_cons_of_mem _ hx))]

/-- A scheme, its sign, and what may stand behind it. -/
theorem auto_scheme {a r : List UInt8} (ha : AllW a) (hl : a.length ≤ 30) (hr : ∀ c ∈ r, linkC c = true) (y : List UInt8) : autoL (60 :: ((97 :: 98 :: (a ++ 58 :: r)) ++ 62 :: y)) = some (97 :: 98 :: (a ++ 58 :: r), 97 :: 98 :: (a ++ 58 :: r), a.length + r.length + 5) := by
  have hu : ∀ c ∈ (97 :: 98 :: (a ++ 58 :: r) : List UInt8), linkC c = true := by
    intro c hc
    rcases List.mem_cons.1 hc with rfl | hc
    · rfl
    · rcases List.mem_cons.1 hc with rfl | hc
      · rfl
      · rcases List.mem_append.1 hc with hc | hc
        · exact (word_name (ha c hc)).2.2.2.2.1
        · rcases List.mem_cons.1 hc with rfl | hc
          · rfl
          · exact hr c hc
  rw [auto_of _ y hu]
  have hk : schK (97 :: 98 :: (a ++ 58 :: r)) = a.length + 2 := by
    simp only [schK]
    rw [if_pos (by rfl), List.takeWhile_cons, if_pos (by rfl), (tw_all schC a 58 r (fun c hc => (word_name (ha c hc)).2.2.1) rfl).1]
    simp; omega
  have hok : schOk (97 :: 98 :: (a ++ 58 :: r)) = true := by
    unfold schOk
    rw [hk]
    have : (97 :: 98 :: (a ++ 58 :: r) : List UInt8).drop (a.length + 2) = 58 :: r := by simp
    rw [this]
    simp; omega
  rw [if_pos hok]
  simp only [Option.some.injEq, Prod.mk.injEq, true_and, List.length_cons, List.length_append]
  omega

theorem part_word (acc : List UInt8) (h0 : acc ≠ []) (hl : acc.length ≤ 63) (ha : AllW acc) : partOk acc = true := by
  have h45 : ∀ c ∈ acc, c ≠ 45 := by
    rintro c hc rfl
    have := ha 45 hc
    revert this; decide
  unfold partOk
  simp only [Bool.and_eq_true, Bool.not_eq_true', List.isEmpty_eq_false_iff, decide_eq_true_eq, bne_iff_ne, ne_eq]
  refine ⟨⟨⟨h0, hl⟩, fun e => ?_⟩, fun e => ?_⟩
  · exact h45 45 (List.mem_of_mem_head? e) rfl
  · exact h45 45 (List.mem_of_getLast? e) rfl

theorem parts_word : ∀ (p acc y : List UInt8), AllW p → partsL acc (p ++ 46 :: y) = (partOk (acc ++ p) && partsL [] y)
  | [], acc, y, _ => by simp [partsL]
  | b :: p, acc, y, h => by
    have hb := h b (List.mem_cons_self)
    have h46 : b ≠ 46 := by rintro rfl; revert hb; decide
    rw [List.cons_append]
    simp only [partsL, if_neg h46]
    rw [(word_name hb).2.2.2.2.2, Bool.true_and, parts_word p (acc ++ [b]) y (fun c hc => h c (List.mem_cons_of_mem _ hc))]
    simp

/-- An address. -/
theorem auto_mail {n h : List UInt8} (hn : AllW n) (hh : AllW h) (hl : h.length ≤ 62) (y : List UInt8) : autoL (60 :: ((109 :: (n ++ 64 :: 104 :: (h ++ [46, 120]))) ++ 62 :: y)) = some ([109, 97, 105, 108, 116, 111, 58] ++ (109 :: (n ++ 64 :: 104 :: (h ++ [46, 120]))), 109 :: (n ++ 64 :: 104 :: (h ++ [46, 120])), n.length + h.length + 7) := by
  have hu : ∀ c ∈ (109 :: (n ++ 64 :: 104 :: (h ++ [46, 120])) : List UInt8), linkC c = true := by
    intro c hc
    rcases List.mem_cons.1 hc with rfl | hc
    · rfl
    · rcases List.mem_append.1 hc with hc | hc
      · exact (word_name (hn c hc)).2.2.2.2.1
      · rcases List.mem_cons.1 hc with rfl | hc
        · rfl
        · rcases List.mem_cons.1 hc with rfl | hc
          · rfl
          · rcases List.mem_append.1 hc with hc | hc
            · exact (word_name (hh c hc)).2.2.2.2.1
            · simp only [List.mem_cons, List.not_mem_nil, or_false] at hc
              rcases hc with rfl | rfl <;> rfl
  rw [auto_of _ y hu]
  have hk : schK (109 :: (n ++ 64 :: 104 :: (h ++ [46, 120]))) = n.length + 1 := by
    simp only [schK]
    rw [if_pos (by rfl), (tw_all schC n 64 _ (fun c hc => (word_name (hn c hc)).2.2.1) rfl).1]
    omega
  have hok : schOk (109 :: (n ++ 64 :: 104 :: (h ++ [46, 120]))) = false := by
    unfold schOk
    rw [hk]
    have : (109 :: (n ++ 64 :: 104 :: (h ++ [46, 120])) : List UInt8).drop (n.length + 1) = 64 :: 104 :: (h ++ [46, 120]) := by simp
    rw [this]
    simp
  have hm : mailL (109 :: (n ++ 64 :: 104 :: (h ++ [46, 120]))) = true := by
    have hall : ∀ c ∈ (109 :: n : List UInt8), mailC c = true := by
      intro c hc
      rcases List.mem_cons.1 hc with rfl | hc
      · rfl
      · exact (word_name (hn c hc)).2.2.2.1
    obtain ⟨h1, h2⟩ := tw_all mailC (109 :: n) 64 (104 :: (h ++ [46, 120])) hall rfl
    rw [List.cons_append] at h1 h2
    unfold mailL
    rw [h1, h2]
    have hp : partsL [] (104 :: (h ++ [46, 120])) = true := by
      have := parts_word (104 :: h) [] [120] (by
        intro c hc
        rcases List.mem_cons.1 hc with rfl | hc
        · rfl
        · exact hh c hc)
      rw [List.cons_append] at this
      rw [this, List.nil_append, part_word (104 :: h) (by simp) (by simp; omega) (by
        intro c hc
        rcases List.mem_cons.1 hc with rfl | hc
        · rfl
        · exact hh c hc)]
      rfl
    simp [hp]
  rw [if_neg (by rw [hok]; simp), if_pos hm]
  simp only [Option.some.injEq, Prod.mk.injEq, true_and, List.length_cons, List.length_append, List.length_nil]
  omega

end Go.Proofs.YtjdijlaoeoikhaaGreatDoor
