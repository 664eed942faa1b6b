/- Several texts in one. -/
import Derived.Test.YtkbmblmnhhlicaaGreatDoorDBeg
import Derived.Test.YtkbmblmnhhlicaaGreatDoorV01
set_option linter.unusedVariables false
/- A log's calls over lists: a disk and its segments. -/
namespace Go.Proofs.YtkbmblmnhhlicaaGreatDoor

def lastS (L : List Sg) : Sg := L.getLastD ⟨1, [0]⟩
theorem lastS_snoc (L : List Sg) (s : Sg) : lastS (L ++ [s]) = s := by simp [lastS]
/-- What Append answers, the disk and the segments behind it. -/
def wappP (d : Dk) (L : List Sg) (l : Rec) : Nat × Dk × List Sg :=
  if 8192 < l.length then (2, d, L)
  else if (lastS L).next = 1000000 then (11, d, L)
  else if 2048 ≤ (lastS L).size then
    (if (syncP d (nameL (lastS L).num)).1 ≠ 0 then ((syncP d (nameL (lastS L).num)).1, (syncP d (nameL (lastS L).num)).2, L)
    else if (appendP (syncP d (nameL (lastS L).num)).2 (nameL (lastS L).next) (frameL (lastS L).next l)).1 ≠ 0 then ((appendP (syncP d (nameL (lastS L).num)).2 (nameL (lastS L).next) (frameL (lastS L).next l)).1, (appendP (syncP d (nameL (lastS L).num)).2 (nameL (lastS L).next) (frameL (lastS L).next l)).2, L)
    else (0, (appendP (syncP d (nameL (lastS L).num)).2 (nameL (lastS L).next) (frameL (lastS L).next l)).2, L ++ [⟨(lastS L).next, [0, 8 + l.length]⟩]))
  else if (appendP d (nameL (lastS L).num) (frameL (lastS L).next l)).1 ≠ 0 then ((appendP d (nameL (lastS L).num) (frameL (lastS L).next l)).1, (appendP d (nameL (lastS L).num) (frameL (lastS L).next l)).2, L)
  else (0, (appendP d (nameL (lastS L).num) (frameL (lastS L).next l)).2, L.dropLast ++ [⟨(lastS L).num, (lastS L).pl ++ [(lastS L).size + (8 + l.length)]⟩])

/-- The segments of some numbers are read. -/
def loadP (d : Dk) : List Nat → Bool → List Sg → Nat × Bool × List Sg
  | [], t, L => (0, t, L)
  | n :: r, t, L =>
    if (t || (!L.isEmpty && !((lastS L).next == n))) = true then (16, t, L)
    else if findV d (nameL n) ≠ 0 then (findV d (nameL n), t, L)
    else if 1000000 < (readSg n (theF d (nameL n)).bs).next then (16, t, L)
    else loadP d r (decide ((readSg n (theF d (nameL n)).bs).size < (theF d (nameL n)).bs.length)) (L ++ [readSg n (theF d (nameL n)).bs])
def numsOf (d : Dk) : List Nat := if d.up = true then segNums (d.files.map (·.1)) else []
/-- What Open answers, the disk and the segments behind it. -/
def openP (d : Dk) : Nat × Dk × List Sg :=
  if numsOf d = [] then ((appendP d (nameL 1) []).1, (appendP d (nameL 1) []).2, [⟨1, [0]⟩])
  else if (loadP d (numsOf d) false []).1 ≠ 0 then ((loadP d (numsOf d) false []).1, d, (loadP d (numsOf d) false []).2.2)
  else
    let L := (loadP d (numsOf d) false []).2.2
    let t := (loadP d (numsOf d) false []).2.1
    if t = true then
      (if (cutP d (nameL (lastS L).num) ((lastS L).size : Int)).1 ≠ 0 then ((cutP d (nameL (lastS L).num) ((lastS L).size : Int)).1, (cutP d (nameL (lastS L).num) ((lastS L).size : Int)).2, L)
      else ((syncP (cutP d (nameL (lastS L).num) ((lastS L).size : Int)).2 (nameL (lastS L).num)).1, (syncP (cutP d (nameL (lastS L).num) ((lastS L).size : Int)).2 (nameL (lastS L).num)).2, L))
    else ((syncP d (nameL (lastS L).num)).1, (syncP d (nameL (lastS L).num)).2, L)

/-- The segment with the record of a number. -/
def holdS (L : List Sg) (i : Nat) : Sg := lastS (L.filter fun s => decide (s.num ≤ i))
def getP (d : Dk) (L : List Sg) (i : Int) : Nat × List UInt8 :=
  if i < ((L.headD ⟨1, [0]⟩).num : Int) ∨ ((lastS L).next : Int) ≤ i then (17, [])
  else if findV d (nameL (holdS L i.toNat).num) ≠ 0 then (findV d (nameL (holdS L i.toNat).num), [])
  else if (theF d (nameL (holdS L i.toNat).num)).bs.length < (holdS L i.toNat).pl.getD (i.toNat + 1 - (holdS L i.toNat).num) 0 then (16, [])
  else (0, (((theF d (nameL (holdS L i.toNat).num)).bs.drop ((holdS L i.toNat).pl.getD (i.toNat - (holdS L i.toNat).num) 0 + 8)).take ((holdS L i.toNat).pl.getD (i.toNat + 1 - (holdS L i.toNat).num) 0 - ((holdS L i.toNat).pl.getD (i.toNat - (holdS L i.toNat).num) 0 + 8))))
end Go.Proofs.YtkbmblmnhhlicaaGreatDoor

/- A log on a disk whose power does not fail, over lists: what Append and Open make of it. -/
namespace Go.Proofs.YtkbmblmnhhlicaaGreatDoor

abbrev Gs := List (Nat × Recs)
def gSg (g : Nat × Recs) : Sg := sgOf g.1 g.2
def gFile (g : Nat × Recs) : Nm × List UInt8 := (nameL g.1, framesL g.1 g.2)
def fnB (fs : Fls) : List (Nm × List UInt8) := fs.map fun p => (p.1, p.2.bs)
def ChainG : Gs → Prop
  | [] => True
  | [_] => True
  | g :: h :: r => h.1 = g.1 + g.2.length ∧ g.2 ≠ [] ∧ ChainG (h :: r)
structure Str (d : Dk) (G : Gs) : Prop where
  ok : DkOk d
  up : d.up = true
  idle : d.ahead < 0
  files : fnB d.files = G.map gFile
  chain : ChainG G
  ne : G ≠ []
  small : ∀ g ∈ G, Small g.2
  num : ∀ g ∈ G, 1 ≤ g.1 ∧ g.1 + g.2.length ≤ 1000000

theorem ChainG.tail {g : Nat × Recs} {r : Gs} (h : ChainG (g :: r)) : ChainG r := by
  cases r with
  | nil => trivial
  | cons x r => exact h.2.2
theorem ChainG.lt : ∀ {g : Nat × Recs} {r : Gs}, ChainG (g :: r) → ∀ x ∈ r, g.1 < x.1
  | g, [], _, x, hx => by cases hx
  | g, y :: r, h, x, hx => by
    have hl : 1 ≤ g.2.length := List.length_pos_iff.2 h.2.1
    have h1 := h.1
    rcases List.mem_cons.1 hx with rfl | hx
    · omega
    · have := ChainG.lt h.2.2 x hx
      omega
theorem ChainG.rise : ∀ {r : Gs}, ChainG r → r.Pairwise (fun x y => x.1 < y.1)
  | [], _ => List.Pairwise.nil
  | g :: r, h => List.pairwise_cons.2 ⟨h.lt, h.tail.rise⟩
theorem ChainG.last : ∀ {a : Gs} {g h : Nat × Recs} {r : Gs}, ChainG (a ++ g :: h :: r) → h.1 = g.1 + g.2.length ∧ g.2 ≠ []
  | [], g, h, r, hc => ⟨hc.1, hc.2.1⟩
  | x :: a, g, h, r, hc => ChainG.last (a := a) (ChainG.tail (g := x) (r := a ++ g :: h :: r) hc)
theorem ChainG.snoc : ∀ {a : Gs} {g h : Nat × Recs}, ChainG (a ++ [g]) → g.2 ≠ [] → h.1 = g.1 + g.2.length → ChainG (a ++ [g] ++ [h])
  | [], g, h, _, h1, h2 => ⟨h2, h1, trivial⟩
  | [x], g, h, hc, h1, h2 => ⟨hc.1, hc.2.1, h2, h1, trivial⟩
  | x :: y :: a, g, h, hc, h1, h2 => ⟨hc.1, hc.2.1, ChainG.snoc (a := y :: a) hc.2.2 h1 h2⟩
theorem ChainG.more : ∀ {a : Gs} {g h : Nat × Recs}, ChainG (a ++ [g]) → h.1 = g.1 → ChainG (a ++ [h])
  | [], g, h, _, _ => trivial
  | [x], g, h, hc, h1 => ⟨by rw [h1]; exact hc.1, hc.2.1, trivial⟩
  | x :: y :: a, g, h, hc, h1 => ⟨hc.1, hc.2.1, ChainG.more (a := y :: a) hc.2.2 h1⟩

theorem Str.riseL {d : Dk} {G : Gs} (h : Str d G) : (G.map gSg).Pairwise (fun x y => x.num < y.num) := List.pairwise_map.2 h.chain.rise
theorem Str.get {d : Dk} {G : Gs} (h : Str d G) {g : Nat × Recs} (hg : g ∈ G) : ∃ f, getA (nameL g.1) d.files = some f ∧ f.bs = framesL g.1 g.2 := by
  have h1 : gFile g ∈ fnB d.files := by rw [h.files]; exact List.mem_map_of_mem hg
  obtain ⟨p, hp, he⟩ := List.mem_map.1 h1
  have e1 : p.1 = nameL g.1 := congrArg (·.1) he
  have e2 : p.2.bs = framesL g.1 g.2 := congrArg (·.2) he
  refine ⟨p.2, ?_, e2⟩
  rw [← e1]
  exact getA_of_mem h.ok.rises hp
theorem Str.find {d : Dk} {G : Gs} (h : Str d G) {g : Nat × Recs} (hg : g ∈ G) : findV d (nameL g.1) = 0 ∧ (theF d (nameL g.1)).bs = framesL g.1 g.2 := by
  obtain ⟨f, h1, h2⟩ := h.get hg
  have hf : findV d (nameL g.1) = 0 := by unfold findV; rw [if_pos h.up, h1]; rfl
  refine ⟨hf, ?_⟩
  unfold theF
  rw [if_pos hf, h1]
  exact h2
theorem fnB_len (fs : Fls) : (fnB fs).length = fs.length := List.length_map _
theorem Str.count {d : Dk} {G : Gs} (h : Str d G) : d.files.length = G.length := by
  have := congrArg List.length h.files
  rwa [fnB_len, List.length_map] at this
def bulks (G : Gs) : Nat := (G.map fun g => bulk g.2).sum
theorem Str.used {d : Dk} {G : Gs} (h : Str d G) : usedL d.files = bulks G := by
  have e1 : usedL d.files = ((fnB d.files).map fun p => p.2.length).sum := by unfold usedL fnB; rw [List.map_map]; rfl
  rw [e1, h.files, List.map_map]
  unfold bulks
  congr 1
  apply List.map_congr_left
  intro g _
  simp [gFile, framesL_length]
theorem Str.names {d : Dk} {G : Gs} (h : Str d G) : d.files.map (·.1) = G.map fun g => nameL g.1 := by
  have := congrArg (List.map (·.1)) h.files
  simpa [fnB, List.map_map, gFile, Function.comp_def] using this
theorem Str.short {d : Dk} {G : Gs} (h : Str d G) : ∀ x ∈ d.files, x.1.length ≤ 140737488355328 := by
  intro x hx
  have : x.1 ∈ d.files.map (·.1) := List.mem_map_of_mem hx
  rw [h.names] at this
  obtain ⟨g, _, hg⟩ := List.mem_map.1 this
  rw [← hg, nameL_length]; omega

/-- Files but the last one, and the last one. -/
theorem Str.split {d : Dk} {G : Gs} {g : Nat × Recs} (h : Str d (G ++ [g])) : ∃ fs f, d.files = fs ++ [(nameL g.1, f)] ∧ fnB fs = G.map gFile ∧ f.bs = framesL g.1 g.2 := by
  have hf := h.files
  rw [List.map_append] at hf
  obtain ⟨a1, a2, e0, e1, e2⟩ := List.map_eq_append_iff.1 hf
  rcases a2 with _ | ⟨p, a2⟩
  · cases e2
  · simp at e2
    obtain ⟨e3, e4⟩ := e2
    subst e4
    have h1 : p.1 = nameL g.1 := congrArg (·.1) e3
    have h2 : p.2.bs = framesL g.1 g.2 := congrArg (·.2) e3
    exact ⟨a1, p.2, by rw [e0, ← h1], e1, h2⟩
theorem putA_end {α : Type} {n : Nm} {v : α} : ∀ {l : List (Nm × α)}, (∀ p ∈ l, bytesBefore p.1 n = true) → putA n v l = l ++ [(n, v)] := by
  intro l h
  have hd : delA n l = l := delA_none (fun p hp e => by have := h p hp; rw [e, bb_irrefl] at this; cases this)
  unfold putA
  rw [hd]
  clear hd
  induction l with
  | nil => rfl
  | cons y r ih =>
    have hy := h y List.mem_cons_self
    have : bytesBefore n y.1 = false := by
      cases hc : bytesBefore n y.1
      · rfl
      · have := bb_trans _ _ _ hy hc
        rw [bb_irrefl] at this; cases this
    unfold insA
    rw [if_neg (by rw [this]; decide), ih (fun p hp => h p (List.mem_cons_of_mem _ hp))]
    rfl
theorem mayN_name (n : Nat) : mayN (nameL n) = true := by
  unfold mayN
  rw [nameL_length]
  decide

/-- A sync of the last segment. -/
theorem Str.sync {d : Dk} {G : Gs} {g : Nat × Recs} (h : Str d (G ++ [g])) (hok : DkOk (syncP d (nameL g.1)).2) : (syncP d (nameL g.1)).1 = 0 ∧ Str (syncP d (nameL g.1)).2 (G ++ [g]) ∧ (syncP d (nameL g.1)).2.room = d.room := by
  obtain ⟨hfv, hbs⟩ := h.find (g := g) (by simp)
  have hs := sync_idle hfv h.idle
  obtain ⟨fs, f, e1, e2, e3⟩ := h.split
  have hp : putA (nameL g.1) (⟨(theF d (nameL g.1)).bs, (theF d (nameL g.1)).bs.length⟩ : Fl) d.files = fs ++ [(nameL g.1, ⟨(theF d (nameL g.1)).bs, (theF d (nameL g.1)).bs.length⟩)] := by
    have hr := h.ok.rises
    rw [e1] at hr ⊢
    exact putA_at fs [] hr
  rw [hs] at hok ⊢
  refine ⟨rfl, { ok := hok, up := h.up, idle := h.idle, files := ?_, chain := h.chain, ne := h.ne, small := h.small, num := h.num }, rfl⟩
  show fnB (putA _ _ _) = _
  rw [hp, List.map_append, ← e2]
  unfold fnB
  rw [List.map_append]
  simp [gFile, hbs]
end Go.Proofs.YtkbmblmnhhlicaaGreatDoor
