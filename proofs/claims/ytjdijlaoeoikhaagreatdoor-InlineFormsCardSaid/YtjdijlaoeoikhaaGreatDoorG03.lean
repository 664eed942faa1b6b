/- Several texts in one. -/
import Derived.Test.YtjdijlaoeoikhaaGreatDoorG02
import Derived.KernelRfl
import Derived.Test.YtjdijlaoeoikhaaGreatDoorG01
set_option linter.unusedVariables false
/- Plain mathematics: what is written for HTML and for a link; references and escapes. -/
namespace Go.Proofs.YtjdijlaoeoikhaaGreatDoor

def markN (c : Nat) : Bool := decide ((33 ≤ c ∧ c ≤ 47) ∨ (58 ≤ c ∧ c ≤ 64) ∨ (91 ≤ c ∧ c ≤ 96) ∨ (123 ≤ c ∧ c ≤ 126))
def letterN (c : Nat) : Bool := decide ((97 ≤ c ∧ c ≤ 122) ∨ (65 ≤ c ∧ c ≤ 90))
def digitN (c : Nat) : Bool := decide (48 ≤ c ∧ c ≤ 57)

/-- B1. -/
def htmlB (c : UInt8) : List UInt8 :=
  if c.toNat = 38 then [38, 97, 109, 112, 59] else if c.toNat = 60 then [38, 108, 116, 59] else if c.toNat = 62 then [38, 103, 116, 59] else if c.toNat = 34 then [38, 113, 117, 111, 116, 59] else [c]
def html (l : List UInt8) : List UInt8 := l.flatMap htmlB

def plainMarks : List UInt8 := [45, 95, 46, 33, 126, 42, 39, 40, 41, 59, 47, 63, 58, 64, 61, 43, 36, 44, 35, 37]
def plainB (c : UInt8) : Bool := letterN c.toNat || digitN c.toNat || plainMarks.contains c
def hexs : List UInt8 := [48, 49, 50, 51, 52, 53, 54, 55, 56, 57, 65, 66, 67, 68, 69, 70]
def urlB (c : UInt8) : List UInt8 :=
  if plainB c = true then [c] else if c.toNat = 38 then [38, 97, 109, 112, 59] else [37, hexs.getD (c.toNat / 16) 0, hexs.getD (c.toNat % 16) 0]
def url (l : List UInt8) : List UInt8 := l.flatMap urlB

/-- B2: a digit of base sixteen; 16: it is none. -/
def digV (c : UInt8) : Nat :=
  if 48 ≤ c.toNat ∧ c.toNat ≤ 57 then c.toNat - 48 else if 97 ≤ c.toNat ∧ c.toNat ≤ 102 then c.toNat - 87 else if 65 ≤ c.toNat ∧ c.toNat ≤ 70 then c.toNat - 55 else 16
/-- How many digits stand at the beginning (so many at most), and the number that they make behind one that was read. -/
def readN (base : Nat) : Nat → List UInt8 → Nat → Nat × Nat
  | 0, _, n => (0, n)
  | _ + 1, [], n => (0, n)
  | m + 1, c :: l, n => if digV c < base then ((readN base m l (n * base + digV c)).1 + 1, (readN base m l (n * base + digV c)).2) else (0, n)
def charN (n : Nat) : Nat := if n = 0 ∨ (55296 ≤ n ∧ n ≤ 57343) ∨ 1114111 < n then 65533 else n
def numE (l : List UInt8) (start base most : Nat) : List UInt8 × Nat :=
  if (readN base most (l.drop start) 0).1 ≠ 0 ∧ l[start + (readN base most (l.drop start) 0).1]? = some 59 then (enc (charN (readN base most (l.drop start) 0).2), start + (readN base most (l.drop start) 0).1 + 1) else ([], 0)

def tSign : List (List UInt8 × List UInt8) := [
  ([97, 109, 112], [38]),
  ([108, 116], [60]),
  ([103, 116], [62]),
  ([113, 117, 111, 116], [34]),
  ([97, 112, 111, 115], [39]),
  ([110, 98, 115, 112], [194, 160]),
  ([99, 111, 112, 121], [194, 169]),
  ([114, 101, 103], [194, 174]),
  ([115, 101, 99, 116], [194, 167]),
  ([112, 97, 114, 97], [194, 182]),
  ([109, 105, 100, 100, 111, 116], [194, 183]),
  ([102, 114, 97, 99, 49, 50], [194, 189]),
  ([102, 114, 97, 99, 51, 52], [194, 190]),
  ([116, 105, 109, 101, 115], [195, 151]),
  ([100, 105, 118, 105, 100, 101], [195, 183])]
def tLetter : List (List UInt8 × List UInt8) := [
  ([97, 117, 109, 108], [195, 164]),
  ([65, 117, 109, 108], [195, 132]),
  ([111, 117, 109, 108], [195, 182]),
  ([79, 117, 109, 108], [195, 150]),
  ([117, 117, 109, 108], [195, 188]),
  ([85, 117, 109, 108], [195, 156]),
  ([115, 122, 108, 105, 103], [195, 159]),
  ([101, 97, 99, 117, 116, 101], [195, 169]),
  ([101, 103, 114, 97, 118, 101], [195, 168]),
  ([97, 103, 114, 97, 118, 101], [195, 160]),
  ([99, 99, 101, 100, 105, 108], [195, 167]),
  ([110, 116, 105, 108, 100, 101], [195, 177]),
  ([65, 69, 108, 105, 103], [195, 134]),
  ([97, 101, 108, 105, 103], [195, 166]),
  ([68, 99, 97, 114, 111, 110], [196, 142])]
def tFar : List (List UInt8 × List UInt8) := [
  ([104, 101, 108, 108, 105, 112], [226, 128, 166]),
  ([110, 100, 97, 115, 104], [226, 128, 147]),
  ([109, 100, 97, 115, 104], [226, 128, 148]),
  ([108, 115, 113, 117, 111], [226, 128, 152]),
  ([114, 115, 113, 117, 111], [226, 128, 153]),
  ([108, 100, 113, 117, 111], [226, 128, 156]),
  ([114, 100, 113, 117, 111], [226, 128, 157]),
  ([98, 117, 108, 108], [226, 128, 162]),
  ([101, 117, 114, 111], [226, 130, 172]),
  ([116, 114, 97, 100, 101], [226, 132, 162]),
  ([108, 97, 114, 114], [226, 134, 144]),
  ([114, 97, 114, 114], [226, 134, 146]),
  ([72, 105, 108, 98, 101, 114, 116, 83, 112, 97, 99, 101], [226, 132, 139]),
  ([68, 105, 102, 102, 101, 114, 101, 110, 116, 105, 97, 108, 68], [226, 133, 134])]
def tPair : List (List UInt8 × List UInt8) := [
  ([110, 103, 69], [226, 137, 167, 204, 184]),
  ([110, 118, 108, 116], [60, 226, 131, 146])]
def table : List (List UInt8 × List UInt8) := tSign ++ (tLetter ++ (tFar ++ tPair))
def nameT (x : List UInt8) : List UInt8 := (table.lookup x).getD []
def alnum (c : UInt8) : Bool := letterN c.toNat || digitN c.toNat
def nameE (l : List UInt8) : List UInt8 × Nat :=
  if l[1 + ((l.drop 1).takeWhile alnum).length]? = some 59 ∧ nameT ((l.drop 1).takeWhile alnum) ≠ [] then (nameT ((l.drop 1).takeWhile alnum), 1 + ((l.drop 1).takeWhile alnum).length + 1) else ([], 0)
def entity (l : List UInt8) : List UInt8 × Nat :=
  if l[0]? = some 38 then
    (if l[1]? = some 35 then (if l[2]? = some 120 ∨ l[2]? = some 88 then numE l 3 16 6 else numE l 2 10 7) else nameE l)
  else ([], 0)

/-- B3. -/
def unescF : Nat → List UInt8 → List UInt8
  | 0, _ => []
  | _ + 1, [] => []
  | f + 1, c :: l =>
    if c.toNat = 92 ∧ l ≠ [] ∧ markN (l.getD 0 0).toNat = true then l.getD 0 0 :: unescF f (l.drop 1)
    else if 0 < (entity (c :: l)).2 then (entity (c :: l)).1 ++ unescF f ((c :: l).drop (entity (c :: l)).2)
    else c :: unescF f l
def unesc (l : List UInt8) : List UInt8 := unescF l.length l

theorem lookup_ne : ∀ (t : List (List UInt8 × List UInt8)), (∀ q ∈ t, q.2 ≠ []) → ∀ x v, t.lookup x = some v → v ≠ []
  | [], _, x, v, h => by simp at h
  | (a, b) :: t, ht, x, v, h => by
    rw [List.lookup_cons] at h
    split at h
    · simp only [Option.some.injEq] at h
      subst h
      exact ht (a, b) (by simp)
    · exact lookup_ne t (fun q hq => ht q (by simp [hq])) x v h

theorem nameT_parts (x : List UInt8) : nameT x =
    (if (tSign.lookup x).getD [] ≠ [] then (tSign.lookup x).getD [] else if (tLetter.lookup x).getD [] ≠ [] then (tLetter.lookup x).getD [] else if (tFar.lookup x).getD [] ≠ [] then (tFar.lookup x).getD [] else (tPair.lookup x).getD []) := by
  have n1 := lookup_ne tSign (by decide) x
  have n2 := lookup_ne tLetter (by decide) x
  have n3 := lookup_ne tFar (by decide) x
  unfold nameT table
  rw [List.lookup_append, List.lookup_append, List.lookup_append]
  cases h1 : tSign.lookup x with
  | some v => have := n1 v h1; simp [this]
  | none =>
    cases h2 : tLetter.lookup x with
    | some v => have := n2 v h2; simp [this]
    | none =>
      cases h3 : tFar.lookup x with
      | some v => have := n3 v h3; simp [this]
      | none => simp

theorem unescF_fuel : ∀ (f g : Nat) (l : List UInt8), l.length ≤ f → l.length ≤ g → unescF f l = unescF g l
  | f, g, [], _, _ => by cases f <;> cases g <;> rfl
  | 0, _, c :: l, h, _ => by simp at h
  | _, 0, c :: l, _, h => by simp at h
  | f + 1, g + 1, c :: l, hf, hg => by
    simp only [List.length_cons] at hf hg
    have e1 := unescF_fuel f g (l.drop 1) (by simp; omega) (by simp; omega)
    have e3 := unescF_fuel f g l (by omega) (by omega)
    unfold unescF
    rw [e1, e3]
    by_cases h : 0 < (entity (c :: l)).2
    · have e2 := unescF_fuel f g ((c :: l).drop (entity (c :: l)).2) (by simp; omega) (by simp; omega)
      rw [e2]
    · rw [if_neg h, if_neg h]

theorem unesc_nil : unesc [] = [] := rfl

theorem unesc_cons (c : UInt8) (l : List UInt8) : unesc (c :: l) =
    (if c.toNat = 92 ∧ l ≠ [] ∧ markN (l.getD 0 0).toNat = true then l.getD 0 0 :: unesc (l.drop 1)
    else if 0 < (entity (c :: l)).2 then (entity (c :: l)).1 ++ unesc ((c :: l).drop (entity (c :: l)).2)
    else c :: unesc l) := by
  have hu : unesc (c :: l) = unescF (l.length + 1) (c :: l) := rfl
  rw [hu]
  unfold unescF unesc
  rw [unescF_fuel l.length (l.drop 1).length (l.drop 1) (by simp) (Nat.le_refl _)]
  by_cases h : 0 < (entity (c :: l)).2
  · rw [unescF_fuel l.length ((c :: l).drop (entity (c :: l)).2).length _ (by simp; omega) (Nat.le_refl _)]
  · rw [if_neg h, if_neg h]

theorem entity_other (c : UInt8) (l : List UInt8) (h : c.toNat ≠ 38) : entity (c :: l) = ([], 0) := by
  unfold entity
  rw [if_neg]
  simp only [List.getElem?_cons_zero, Option.some.injEq]
  intro e; subst e; exact h rfl

/-- A byte that begins nothing stays. -/
theorem unesc_other (c : UInt8) (l : List UInt8) (h : c.toNat ≠ 38) (h2 : c.toNat ≠ 92) : unesc (c :: l) = c :: unesc l := by
  rw [unesc_cons, if_neg (fun h => h2 h.1), entity_other c l h, if_neg (by simp)]

theorem unesc_mark (c : UInt8) (l : List UInt8) (h : markN c.toNat = true) : unesc (92 :: c :: l) = c :: unesc l := by
  rw [unesc_cons, if_pos ⟨rfl, by simp, by simpa using h⟩]
  rfl

theorem unesc_plain : ∀ l : List UInt8, (∀ c ∈ l, c.toNat ≠ 38 ∧ c.toNat ≠ 92) → unesc l = l
  | [], _ => rfl
  | c :: l, h => by
    have hc := h c (by simp)
    rw [unesc_other c l hc.1 hc.2, unesc_plain l fun d hd => h d (by simp [hd])]

def markB' (c : UInt8) : List UInt8 := if markN c.toNat = true then [92, c] else [c]
theorem unesc_marks : ∀ l : List UInt8, unesc (l.flatMap markB') = l
  | [] => rfl
  | c :: l => by
    have ih := unesc_marks l
    rw [List.flatMap_cons]
    unfold markB'
    cases h : markN c.toNat with
    | true =>
      simp only [if_true]
      show unesc (92 :: c :: (l.flatMap markB')) = _
      rw [unesc_mark c _ h, ih]
    | false =>
      simp only [Bool.false_eq_true, if_false]
      show unesc (c :: (l.flatMap markB')) = _
      have h1 : c.toNat ≠ 38 := by intro e; rw [e] at h; exact absurd h (by decide)
      have h2 : c.toNat ≠ 92 := by intro e; rw [e] at h; exact absurd h (by decide)
      rw [unesc_other c _ h1 h2, ih]

theorem unesc_amp (l : List UInt8) : unesc (38 :: 97 :: 109 :: 112 :: 59 :: l) = 38 :: unesc l := by
  have e : entity (38 :: 97 :: 109 :: 112 :: 59 :: l) = ([38], 5) := by kernel_rfl
  rw [unesc_cons, e]; rfl
theorem unesc_lt (l : List UInt8) : unesc (38 :: 108 :: 116 :: 59 :: l) = 60 :: unesc l := by
  have e : entity (38 :: 108 :: 116 :: 59 :: l) = ([60], 4) := by kernel_rfl
  rw [unesc_cons, e]; rfl
theorem unesc_gt (l : List UInt8) : unesc (38 :: 103 :: 116 :: 59 :: l) = 62 :: unesc l := by
  have e : entity (38 :: 103 :: 116 :: 59 :: l) = ([62], 4) := by kernel_rfl
  rw [unesc_cons, e]; rfl
theorem unesc_quot (l : List UInt8) : unesc (38 :: 113 :: 117 :: 111 :: 116 :: 59 :: l) = 34 :: unesc l := by
  have e : entity (38 :: 113 :: 117 :: 111 :: 116 :: 59 :: l) = ([34], 6) := by kernel_rfl
  rw [unesc_cons, e]; rfl

theorem u8_eq {c : UInt8} {n : Nat} (h : c.toNat = n) : c = UInt8.ofNat n := by
  subst h; simp

theorem unesc_html : ∀ l : List UInt8, (∀ c ∈ l, c.toNat ≠ 92) → unesc (html l) = l
  | [], _ => rfl
  | c :: l, h => by
    have ih := unesc_html l fun d hd => h d (by simp [hd])
    have hc := h c (by simp)
    unfold html at ih ⊢
    rw [List.flatMap_cons]
    unfold htmlB
    split
    · next e => rw [u8_eq e]; show unesc (38 :: 97 :: 109 :: 112 :: 59 :: (l.flatMap htmlB)) = _; rw [unesc_amp, ih]; rfl
    · split
      · next e => rw [u8_eq e]; show unesc (38 :: 108 :: 116 :: 59 :: (l.flatMap htmlB)) = _; rw [unesc_lt, ih]; rfl
      · split
        · next e => rw [u8_eq e]; show unesc (38 :: 103 :: 116 :: 59 :: (l.flatMap htmlB)) = _; rw [unesc_gt, ih]; rfl
        · split
          · next e => rw [u8_eq e]; show unesc (38 :: 113 :: 117 :: 111 :: 116 :: 59 :: (l.flatMap htmlB)) = _; rw [unesc_quot, ih]; rfl
          · next e1 e2 e3 e4 => show unesc (c :: (l.flatMap htmlB)) = _; rw [unesc_other c _ e1 hc, ih]

theorem htmlB_len (c : UInt8) : 1 ≤ (htmlB c).length ∧ (htmlB c).length ≤ 6 := by
  unfold htmlB; split; · simp
  split; · simp
  split; · simp
  split <;> simp
theorem urlB_len (c : UInt8) : 1 ≤ (urlB c).length ∧ (urlB c).length ≤ 5 := by
  unfold urlB; split; · simp
  split <;> simp
theorem flat_len {g : UInt8 → List UInt8} {k : Nat} (h : ∀ c, (g c).length ≤ k) : ∀ l : List UInt8, (l.flatMap g).length ≤ k * l.length
  | [] => by simp
  | c :: l => by
    have := flat_len h l
    have := h c
    rw [List.flatMap_cons, List.length_append, List.length_cons, Nat.mul_add]
    omega

theorem html_safe : ∀ (l : List UInt8), ∀ x ∈ html l, x.toNat ≠ 60 ∧ x.toNat ≠ 62 ∧ x.toNat ≠ 34 := by
  intro l x hx
  obtain ⟨c, _, hc⟩ := List.mem_flatMap.1 hx
  unfold htmlB at hc
  split at hc
  · simp at hc; rcases hc with rfl | rfl | rfl | rfl | rfl <;> decide
  split at hc
  · simp at hc; rcases hc with rfl | rfl | rfl | rfl <;> decide
  split at hc
  · simp at hc; rcases hc with rfl | rfl | rfl | rfl <;> decide
  split at hc
  · simp at hc; rcases hc with rfl | rfl | rfl | rfl | rfl | rfl <;> decide
  · simp at hc; subst hc; exact ⟨by assumption, by assumption, by assumption⟩

theorem hex_plain : ∀ k : Fin 16, plainB (hexs.getD k.val 0) = true := by decide
theorem url_safe : ∀ (l : List UInt8), ∀ x ∈ url l, plainB x = true ∨ x.toNat = 38 := by
  intro l x hx
  obtain ⟨c, _, hc⟩ := List.mem_flatMap.1 hx
  have hlt : c.toNat < 256 := c.toNat_lt
  unfold urlB at hc
  split at hc
  · simp at hc; subst hc; left; assumption
  split at hc
  · simp at hc; rcases hc with rfl | rfl | rfl | rfl | rfl <;> first | (right; rfl) | (left; decide)
  · simp only [List.mem_cons, List.not_mem_nil, or_false] at hc
    rcases hc with rfl | rfl | rfl
    · left; decide
    · left; exact hex_plain ⟨c.toNat / 16, by omega⟩
    · left; exact hex_plain ⟨c.toNat % 16, by omega⟩

end Go.Proofs.YtjdijlaoeoikhaaGreatDoor

/- Labels, where a link leads, titles and definitions, over plain lists of bytes. -/
namespace Go.Proofs.YtjdijlaoeoikhaaGreatDoor.lnk

/-- Behind the first byte that ends it; a backslash and the mark behind it are passed together; none where a byte stands that may not, or no end. -/
def scanU (stop : UInt8) (bad : UInt8 → Bool) : List UInt8 → Option (List UInt8)
  | [] => none
  | [b] => if b = stop then some [] else none
  | b :: c :: t => if b = stop then some (c :: t) else if bad b = true then none else
      if b = 92 ∧ markN c.toNat = true then scanU stop bad t else scanU stop bad (c :: t)

def labelL : List UInt8 → Option (List UInt8 × Nat)
  | [] => none
  | a :: t => if a = 91 then
      match scanU 93 (· == 91) t with
      | none => none
      | some r => if 1 ≤ t.length - (r.length + 1) ∧ t.length - (r.length + 1) ≤ 999 ∧ fold (t.take (t.length - (r.length + 1))) ≠ [] then some (t.take (t.length - (r.length + 1)), t.length - r.length + 1) else none
    else none

def bareC (b : UInt8) : Bool := decide (32 < b.toNat) && b != 127

/-- Where a bare place ends, and how many brackets are open there; none: too many. -/
def bareS : Nat → List UInt8 → Option (List UInt8 × Nat)
  | o, [] => some ([], o)
  | o, [b] => if bareC b = false then some ([b], o) else if b = 40 then (if 32 < o + 1 then none else some ([], o + 1)) else if b = 41 then (if o = 0 then some ([b], 0) else some ([], o - 1)) else some ([], o)
  | o, b :: c :: t => if bareC b = false then some (b :: c :: t, o) else if b = 92 ∧ markN c.toNat = true then bareS o t else
      if b = 40 then (if 32 < o + 1 then none else bareS (o + 1) (c :: t)) else if b = 41 then (if o = 0 then some (b :: c :: t, 0) else bareS (o - 1) (c :: t)) else bareS o (c :: t)

def destL : List UInt8 → Option (List UInt8 × Nat)
  | [] => none
  | a :: t => if a = 60 then
      match scanU 62 (fun b => b == 60 || b == 10) t with
      | none => none
      | some r => some (unesc (t.take (t.length - (r.length + 1))), t.length - r.length + 1)
    else
      match bareS 0 (a :: t) with
      | none => none
      | some (r, o) => if r.length = (a :: t).length ∨ 0 < o then none else some (unesc ((a :: t).take ((a :: t).length - r.length)), (a :: t).length - r.length)

/-- Behind a title's end; e: is the line so far empty, behind a line feed? -/
def titleS (stop : UInt8) : Bool → List UInt8 → Option (List UInt8)
  | _, [] => none
  | _, [b] => if b = stop then some [] else none
  | e, b :: c :: t => if b = stop then some (c :: t) else if (b = 40 ∧ stop = 41) ∨ (b = 10 ∧ e = true) then none else
      if b = 92 ∧ markN c.toNat = true then titleS stop false t
      else titleS stop (if b = 10 then true else if b = 32 ∨ b = 9 then e else false) (c :: t)

def titleL : List UInt8 → Option (List UInt8 × Nat)
  | [] => none
  | a :: t => if a = 34 ∨ a = 39 ∨ a = 40 then
      match titleS (if a = 40 then 41 else a) false t with
      | none => none
      | some r => some (unesc (t.take (t.length - (r.length + 1))), t.length - r.length + 1)
    else none

/-- Behind a line's end, if blanks and tabs alone stand up to it. -/
def lineL : List UInt8 → Option (List UInt8)
  | [] => some []
  | b :: t => if b = 32 ∨ b = 9 then lineL t else if b = 10 then some t else none

/-- Behind three blanks at most. -/
def threeL : Nat → List UInt8 → List UInt8
  | 0, l => l
  | _ + 1, [] => []
  | n + 1, b :: t => if b = 32 then threeL n t else b :: t

/-- Label, place, title, and what stands behind. -/
def defineL (s : List UInt8) : Option ((List UInt8 × List UInt8 × List UInt8) × List UInt8) :=
  match labelL (threeL 3 s) with
  | none => none
  | some (u, n) =>
    match (threeL 3 s).drop n with
    | [] => none
    | b :: t => if b = 58 then
        match destL (gapL 0 t) with
        | none => none
        | some (d, k) =>
          match titleL (gapL 0 ((gapL 0 t).drop k)) with
          | some (x, m) => if (gapL 0 ((gapL 0 t).drop k)).length < ((gapL 0 t).drop k).length then
              match lineL ((gapL 0 ((gapL 0 t).drop k)).drop m) with
              | some r => some ((fold u, d, x), r)
              | none => (lineL ((gapL 0 t).drop k)).map fun r => ((fold u, d, []), r)
            else (lineL ((gapL 0 t).drop k)).map fun r => ((fold u, d, []), r)
          | none => (lineL ((gapL 0 t).drop k)).map fun r => ((fold u, d, []), r)
      else none

end Go.Proofs.YtjdijlaoeoikhaaGreatDoor.lnk
