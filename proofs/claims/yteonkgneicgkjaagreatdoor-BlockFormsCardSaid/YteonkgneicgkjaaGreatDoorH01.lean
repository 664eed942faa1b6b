
/- Several texts in one. -/
import Derived.Test.YteonkgneicgkjaaGreatDoorG50
import Derived.Test.YteonkgneicgkjaaGreatDoorG01
set_option linter.unusedVariables false
/- Plain mathematics: lines with four blanks ahead are Code, and lines between fences. -/
namespace Go.Proofs.YteonkgneicgkjaaGreatDoor

abbrev four (x : Str) : Str := 32 :: 32 :: 32 :: 32 :: x
abbrev docS (d : Box) (on : Nat) (df : List Df) : St := ⟨[.doc d], on, df⟩
abbrev docP (d : Box) (p : Part) (on : Nat) (df : List Df) : St := ⟨[.doc d, p], on, df⟩

/-! ### Between fences -/

abbrev infoT : Str := [105, 110, 102, 111]
abbrev fenceB (c : UInt8) : Str := [c, c, c, 32, 105, 110, 102, 111]

end Go.Proofs.YteonkgneicgkjaaGreatDoor

/- Plain mathematics: the lines' numbers do not matter, only how far apart they are. -/
namespace Go.Proofs.YteonkgneicgkjaaGreatDoor

def Box.sh (k : Nat) (b : Box) : Box := { b with first := b.first + k, last := b.last + k }
def Body.sh (k : Nat) (b : Body) : Body := { b with first := b.first + k, last := b.last + k }
/-- A part so many lines further down; of the document only what is in it. -/
def Part.sh (k : Nat) : Part → Part
  | .doc b => .doc { first := 0, last := 0, kids := b.kids }
  | .quote b => .quote (b.sh k)
  | .list b m => .list (b.sh k) m
  | .item b w => .item (b.sh k) w
  | .para b l => .para (b.sh k) l
  | .fenced b c z i t => .fenced (b.sh k) c z i t
  | .indented b => .indented (b.sh k)
  | .html b z => .html (b.sh k) z
  | .whole f l b => .whole (f + k) (l + k) b

theorem sh_zero {p : Part} (h : p.isDoc = false) : p.sh 0 = p := by cases p <;> first | rfl | cases h
theorem sh_told (k : Nat) (p : Part) : (p.sh k).told = p.told := by
  cases p with
  | para b l => cases l <;> rfl
  | indented b =>
    show some (({ kind := 6, text := endedL (b.rows.take (b.last + k - (b.first + k) + 1)) } : BI), Bs.nil) = _
    rw [show b.last + k - (b.first + k) = b.last - b.first by omega]
    rfl
  | _ => rfl
theorem sh_is (k : Nat) (p : Part) : (p.sh k).isC = p.isC ∧ (p.sh k).isList = p.isList ∧ (p.sh k).isPara = p.isPara ∧ (p.sh k).isDeep = p.isDeep ∧ (p.sh k).isDoc = p.isDoc ∧ St.listSign (p.sh k) = St.listSign p ∧ itemGap (p.sh k) = itemGap p := by
  cases p <;> exact ⟨rfl, rfl, rfl, rfl, rfl, rfl, rfl⟩
theorem sh_ext {k : Nat} {p : Part} (h : p.isDoc = false) : (p.sh k).ext = (p.ext.1 + k, p.ext.2 + k) := by
  cases p <;> first | rfl | cases h

/-- The same part, but for where it stands. -/
def PR (k : Nat) (p p' : Part) : Prop := p'.sh 0 = p.sh k

theorem PR.of {k : Nat} {p p' : Part} (h : PR k p p') (hd : p.isDoc = false) : p' = p.sh k := by
  have h1 : (p'.sh 0).isDoc = (p.sh k).isDoc := by rw [h]
  rw [(sh_is 0 p').2.2.2.2.1, (sh_is k p).2.2.2.2.1, hd] at h1
  rw [← sh_zero h1]
  exact h
theorem PR.sh (k : Nat) {p : Part} (hd : p.isDoc = false) : PR k p (p.sh k) := sh_zero (by rw [(sh_is k p).2.2.2.2.1]; exact hd)
theorem PR.is {k : Nat} {p p' : Part} (h : PR k p p') : p'.isC = p.isC ∧ p'.isList = p.isList ∧ p'.isPara = p.isPara ∧ p'.isDeep = p.isDeep ∧ p'.isDoc = p.isDoc ∧ St.listSign p' = St.listSign p ∧ p'.told = p.told := by
  have a := sh_is 0 p'
  have b := sh_is k p
  have h : p'.sh 0 = p.sh k := h
  rw [h] at a
  exact ⟨a.1.symm.trans b.1, a.2.1.symm.trans b.2.1, a.2.2.1.symm.trans b.2.2.1, a.2.2.2.1.symm.trans b.2.2.2.1, a.2.2.2.2.1.symm.trans b.2.2.2.2.1, a.2.2.2.2.2.1.symm.trans b.2.2.2.2.2.1, by rw [← sh_told 0 p', h, sh_told]⟩

theorem box_hold (k : Nat) (b : Box) (p : Part) (hd : p.isDoc = false) : (b.sh k).hold (p.sh k) = (b.hold p).sh k := by
  unfold Box.hold Box.sh
  simp only [sh_ext hd, sh_told]
  have h1 : max (b.last + k) (p.ext.2 + k) = max b.last p.ext.2 + k := by omega
  have h2 : decide (b.last + k + 1 < p.ext.1 + k) = decide (b.last + 1 < p.ext.1) := by
    rw [Bool.eq_iff_iff, decide_eq_true_eq, decide_eq_true_eq]; omega
  rw [h1, h2]
theorem PR.hold {k : Nat} {c c' p p' : Part} (hc : PR k c c') (hp : PR k p p') (hd : p.isDoc = false) : PR k (c.hold p) (c'.hold p') := by
  have e := hp.of hd
  subst e
  cases hcd : c.isDoc
  · have e := hc.of hcd
    subst e
    have key : (c.sh k).hold (p.sh k) = (c.hold p).sh k := by
      cases c with
      | doc b => cases hcd
      | quote b => exact congrArg Part.quote (box_hold k b p hd)
      | item b w => exact congrArg (fun q => Part.item q w) (box_hold k b p hd)
      | list b m =>
        show Part.list { (b.sh k).hold (p.sh k) with gap := ((b.sh k).hold (p.sh k)).gap || itemGap (p.sh k) } m = _
        rw [box_hold k b p hd, (sh_is k p).2.2.2.2.2.2]
        rfl
      | _ => rfl
    rw [key]
    exact PR.sh k (by cases c <;> first | rfl | (cases hcd; done))
  · have hcd' := hc.is.2.2.2.2.1
    rw [hcd] at hcd'
    cases c with
    | doc b =>
      cases c' with
      | doc b' =>
        have hk : b'.kids = b.kids := by
          have h : (Part.doc { first := 0, last := 0, kids := b'.kids }) = .doc { first := 0, last := 0, kids := b.kids } := hc
          simpa using h
        show Part.doc { first := 0, last := 0, kids := (b'.hold (p.sh k)).kids } = Part.doc { first := 0, last := 0, kids := (b.hold p).kids }
        have : (b'.hold (p.sh k)).kids = (b.hold p).kids := by
          unfold Box.hold
          simp only [sh_told, hk]
        rw [this]
      | _ => cases hcd'
    | _ => cases hcd

/-- Rows of parts. -/
def LR (k : Nat) (l l' : List Part) : Prop := l'.map (Part.sh 0) = l.map (Part.sh k) ∧ ∀ p ∈ l.tail, p.isDoc = false

theorem LR.len {k : Nat} {l l' : List Part} (h : LR k l l') : l'.length = l.length := by
  have := congrArg List.length h.1
  simpa using this
theorem LR.at {k : Nat} {l l' : List Part} (h : LR k l l') {i : Nat} {p : Part} (hp : l[i]? = some p) : ∃ p', l'[i]? = some p' ∧ PR k p p' := by
  have h1 : (l'.map (Part.sh 0))[i]? = some (p.sh k) := by rw [h.1, List.getElem?_map, hp]; rfl
  rw [List.getElem?_map] at h1
  cases hq : l'[i]? with
  | none => rw [hq] at h1; cases h1
  | some p' => rw [hq] at h1; exact ⟨p', rfl, by show p'.sh 0 = p.sh k; simpa using h1⟩
theorem LR.nd {k : Nat} {l l' : List Part} (h : LR k l l') {i : Nat} {p : Part} (hp : l[i + 1]? = some p) : p.isDoc = false := by
  refine h.2 p ?_
  cases l with
  | nil => simp at hp
  | cons a t => exact List.mem_of_getElem? (by simpa using hp)
theorem LR.last {k : Nat} {l l' : List Part} (h : LR k l l') {p : Part} (hp : l.getLast? = some p) : ∃ p', l'.getLast? = some p' ∧ PR k p p' := by
  rw [List.getLast?_eq_getElem?] at hp
  obtain ⟨p', h1, h2⟩ := h.at hp
  exact ⟨p', by rw [List.getLast?_eq_getElem?, h.len]; exact h1, h2⟩
theorem LR.lastNone {k : Nat} {l l' : List Part} (h : LR k l l') (hp : l.getLast? = none) : l'.getLast? = none := by
  rw [List.getLast?_eq_none_iff] at hp ⊢
  have := h.len
  rw [hp] at this
  exact List.length_eq_zero_iff.1 this
theorem LR.dropLast {k : Nat} {l l' : List Part} (h : LR k l l') : LR k l.dropLast l'.dropLast := by
  refine ⟨by rw [List.map_dropLast, List.map_dropLast, h.1], fun p hp => h.2 p ?_⟩
  rw [List.tail_dropLast] at hp
  exact List.dropLast_subset _ hp
theorem LR.take {k : Nat} {l l' : List Part} (h : LR k l l') (n : Nat) : LR k (l.take n) (l'.take n) := by
  refine ⟨by rw [List.map_take, List.map_take, h.1], fun p hp => h.2 p ?_⟩
  cases l with
  | nil => simp at hp
  | cons a t =>
    cases n with
    | zero => simp at hp
    | succ n => simp at hp; exact List.mem_of_mem_take hp
theorem LR.snoc {k : Nat} {l l' : List Part} {p p' : Part} (h : LR k l l') (hp : PR k p p') (hd : l = [] ∨ p.isDoc = false) : LR k (l ++ [p]) (l' ++ [p']) := by
  refine ⟨by rw [List.map_append, List.map_append, h.1]; simp only [List.map_cons, List.map_nil]; rw [show p'.sh 0 = p.sh k from hp], fun q hq => ?_⟩
  cases l with
  | nil => simp at hq
  | cons a t =>
    simp at hq
    rcases hq with q1 | q1
    · exact h.2 q q1
    · subst q1
      rcases hd with hd | hd
      · cases hd
      · exact hd
theorem LR.count {k : Nat} {l l' : List Part} (h : LR k l l') : l'.countP Part.isDeep = l.countP Part.isDeep := by
  have h1 : ∀ (m : List Part) (j : Nat), (m.map (Part.sh j)).countP Part.isDeep = m.countP Part.isDeep := fun m j => by
    rw [List.countP_map]
    congr 1
    funext p
    exact (sh_is j p).2.2.2.1
  rw [← h1 l' 0, h.1, h1]

/-- Readers that are the same but for the lines' numbers. -/
structure SR (k : Nat) (s s' : St) : Prop where
  opens : LR k s.opens s'.opens
  on : s'.on = s.on
  defs : s'.defs = s.defs

theorem SR.hasPara {k : Nat} {s s' : St} (h : SR k s s') : s'.hasPara = s.hasPara := by
  unfold St.hasPara
  cases hq : s.opens.getLast? with
  | none => rw [h.opens.lastNone hq]
  | some p => obtain ⟨p', h1, h2⟩ := h.opens.last hq; rw [h1]; exact h2.is.2.2.1
theorem SR.inList {k : Nat} {s s' : St} (h : SR k s s') : s'.inList = s.inList := by
  unfold St.inList
  cases hq : s.opens.getLast? with
  | none => rw [h.opens.lastNone hq]
  | some p => obtain ⟨p', h1, h2⟩ := h.opens.last hq; rw [h1]; exact h2.is.2.1
theorem SR.sign {k : Nat} {s s' : St} (h : SR k s s') : s'.opens.getLast?.bind St.listSign = s.opens.getLast?.bind St.listSign := by
  cases hq : s.opens.getLast? with
  | none => rw [h.opens.lastNone hq]
  | some p => obtain ⟨p', h1, h2⟩ := h.opens.last hq; rw [h1]; exact h2.is.2.2.2.2.2.1
theorem SR.room {k : Nat} {s s' : St} (h : SR k s s') : s'.room = s.room := by
  unfold St.room
  rw [h.on, (h.opens.take s.on).count]

theorem takeOff_sh (k : Nat) (p : Part) (d : List Df) : St.takeOff (p.sh k) d = ((St.takeOff p d).1.sh k, (St.takeOff p d).2) := by cases p <;> rfl
theorem SR.close {k : Nat} {s s' : St} (h : SR k s s') (h2 : 2 ≤ s.opens.length) : SR k s.close s'.close := by
  obtain ⟨n, hn⟩ : ∃ n, s.opens.length = n + 2 := ⟨s.opens.length - 2, by omega⟩
  obtain ⟨p, hp⟩ : ∃ p, s.opens[n + 1]? = some p := ⟨_, List.getElem?_eq_getElem (by omega)⟩
  have hl : s.opens.getLast? = some p := by rw [List.getLast?_eq_getElem?, hn]; exact hp
  have hd := h.opens.nd hp
  obtain ⟨p', hl', hpp⟩ := h.opens.last hl
  have e := hpp.of hd
  subst e
  unfold St.close
  rw [hl, hl']
  simp only
  rw [takeOff_sh, h.defs, h.on, h.opens.len]
  have hdt : (St.takeOff p s.defs).1.isDoc = false := by cases p <;> first | rfl | (cases hd; done)
  refine ⟨?_, rfl, rfl⟩
  unfold St.holdLast
  obtain ⟨c, hc⟩ : ∃ c, s.opens.dropLast.getLast? = some c := by
    cases hq : s.opens.dropLast.getLast? with
    | none => rw [List.getLast?_eq_none_iff] at hq; have := congrArg List.length hq; rw [List.length_dropLast, hn] at this; simp at this
    | some c => exact ⟨c, rfl⟩
  obtain ⟨c', hc', hcc⟩ := h.opens.dropLast.last hc
  simp only
  rw [hc, hc']
  refine h.opens.dropLast.dropLast.snoc (hcc.hold (PR.sh k hdt) hdt) ?_
  rcases Nat.eq_zero_or_pos n with e | e
  · left
    refine List.length_eq_zero_iff.1 ?_
    rw [List.length_dropLast, List.length_dropLast, hn, e]
  · right
    have hcn : s.opens[n]? = some c := by
      rw [List.getLast?_eq_getElem?, List.length_dropLast, hn, List.getElem?_dropLast, hn, show n + 2 - 1 - 1 = n by omega, if_pos (by omega)] at hc
      exact hc
    obtain ⟨j, hj⟩ : ∃ j, n = j + 1 := ⟨n - 1, by omega⟩
    rw [hj] at hcn
    have hcd := h.opens.nd hcn
    cases c <;> first | rfl | (cases hcd; done)

end Go.Proofs.YteonkgneicgkjaaGreatDoor

/- Plain mathematics: the lines' numbers do not matter: what a line does. -/
namespace Go.Proofs.YteonkgneicgkjaaGreatDoor

theorem close_len' {s : St} (h2 : 2 ≤ s.opens.length) : s.close.opens.length = s.opens.length - 1 ∧ s.close.on = min s.on (s.opens.length - 1) := by
  obtain ⟨n, hn⟩ : ∃ n, s.opens.length = n + 2 := ⟨s.opens.length - 2, by omega⟩
  obtain ⟨p, hp⟩ : ∃ p, s.opens[n + 1]? = some p := ⟨_, List.getElem?_eq_getElem (by omega)⟩
  obtain ⟨c, hc⟩ : ∃ c, s.opens[n]? = some c := ⟨_, List.getElem?_eq_getElem (by omega)⟩
  rw [close_eq hn hp hc, hn]
  exact ⟨by show (List.set _ _ _).length = _; rw [List.length_set, List.length_take, List.length_set, hn]; omega, rfl⟩
theorem SR.leaveF {k : Nat} : ∀ (f : Nat) {s s' : St}, SR k s s' → 1 ≤ s.on → SR k (St.leaveF f s) (St.leaveF f s') ∧ 1 ≤ (St.leaveF f s).on
  | 0, s, s', h, h1 => ⟨h, h1⟩
  | f + 1, s, s', h, h1 => by
    simp only [St.leaveF]
    rw [h.on, h.opens.len]
    split
    · rename_i hlt
      have h2 : 2 ≤ s.opens.length := by omega
      exact SR.leaveF f (h.close h2) (by rw [(close_len' h2).2]; omega)
    · exact ⟨h, h1⟩
theorem SR.leave {k : Nat} {s s' : St} (h : SR k s s') (h1 : 1 ≤ s.on) : SR k s.leave s'.leave ∧ 1 ≤ s.leave.on := by
  unfold St.leave
  rw [h.opens.len]
  exact h.leaveF _ h1
/-- The first part is the document. -/
def Doc1 (s : St) : Prop := ∃ b, s.opens[0]? = some (.doc b)
theorem para_len {s : St} (hd : Doc1 s) (hp : s.hasPara = true ∨ s.inList = true) : 2 ≤ s.opens.length := by
  obtain ⟨b, hb⟩ := hd
  rcases Nat.lt_or_ge s.opens.length 2 with q | q
  · have hl := (List.getElem?_eq_some_iff.1 hb).1
    have : s.opens.getLast? = some (.doc b) := by rw [List.getLast?_eq_getElem?, show s.opens.length - 1 = 0 by omega]; exact hb
    unfold St.hasPara St.inList at hp
    rw [this] at hp
    simp [Part.isPara, Part.isList] at hp
  · exact q
theorem Doc1.close {s : St} (h : Doc1 s) (h2 : 2 ≤ s.opens.length) : Doc1 s.close := by
  obtain ⟨b, hb⟩ := h
  obtain ⟨n, hn⟩ : ∃ n, s.opens.length = n + 2 := ⟨s.opens.length - 2, by omega⟩
  obtain ⟨p, hp⟩ : ∃ p, s.opens[n + 1]? = some p := ⟨_, List.getElem?_eq_getElem (by omega)⟩
  obtain ⟨c, hc⟩ : ∃ c, s.opens[n]? = some c := ⟨_, List.getElem?_eq_getElem (by omega)⟩
  rw [close_eq hn hp hc]
  unfold Doc1
  simp only
  rcases Nat.eq_zero_or_pos n with e | e
  · subst e
    rw [hb] at hc
    cases hc
    exact ⟨_, List.getElem?_set_self (by rw [List.length_take, List.length_set, hn]; omega)⟩
  · exact ⟨b, by rw [List.getElem?_set_ne (by omega), List.getElem?_take_of_lt (by omega), List.getElem?_set_ne (by omega)]; exact hb⟩
theorem Doc1.leaveF : ∀ (f : Nat) {s : St}, Doc1 s → 1 ≤ s.on → Doc1 (St.leaveF f s)
  | 0, s, h, _ => h
  | f + 1, s, h, h1 => by
    simp only [St.leaveF]
    split
    · have h2 : 2 ≤ s.opens.length := by omega
      exact Doc1.leaveF f (h.close h2) (by rw [(close_len' h2).2]; omega)
    · exact h

/-- Readers alike, while a line is read. -/
structure TR (k : Nat) (s s' : St) : Prop where
  sr : SR k s s'
  doc : Doc1 s
  on : 1 ≤ s.on

theorem TR.close {k : Nat} {s s' : St} (h : TR k s s') (h2 : 2 ≤ s.opens.length) : TR k s.close s'.close := ⟨h.sr.close h2, h.doc.close h2, by rw [(close_len' h2).2]; have := h.on; omega⟩
theorem TR.leave {k : Nat} {s s' : St} (h : TR k s s') : TR k s.leave s'.leave := ⟨(h.sr.leave h.on).1, Doc1.leaveF _ h.doc h.on, (h.sr.leave h.on).2⟩
theorem TR.clear {k : Nat} {s s' : St} (h : TR k s s') : TR k s.clear s'.clear := by
  unfold St.clear
  rw [h.leave.sr.hasPara]
  split
  · rename_i hp
    exact h.leave.close (para_len h.leave.doc (.inl hp))
  · exact h.leave
theorem TR.push {k : Nat} {s s' : St} (h : TR k s s') {p p' : Part} (hp : PR k p p') (hd : p.isDoc = false) : TR k (s.push p) (s'.push p') := by
  refine ⟨⟨h.sr.opens.snoc hp (.inr hd), by show s'.opens.length + 1 = s.opens.length + 1; rw [h.sr.opens.len], h.sr.defs⟩, ?_, Nat.succ_le_succ (Nat.zero_le _)⟩
  obtain ⟨b, hb⟩ := h.doc
  exact ⟨b, by show (s.opens ++ [p])[0]? = _; rw [List.getElem?_append_left (List.getElem?_eq_some_iff.1 hb).1]; exact hb⟩
theorem TR.stand {k : Nat} {s s' : St} (h : TR k s s') {p p' : Part} (hp : PR k p p') (hd : p.isDoc = false) : TR k (s.stand p) (s'.stand p') := by
  unfold St.stand
  rw [h.clear.sr.inList]
  split
  · rename_i hi
    exact (h.clear.close (para_len h.clear.doc (.inr hi))).push hp hd
  · exact h.clear.push hp hd
theorem push_len (s : St) (p : Part) : (s.push p).opens.length = s.opens.length + 1 := by
  show (s.opens ++ [p]).length = _
  simp
theorem TR.two {k : Nat} {s s' : St} (h : TR k s s') (p : Part) : 2 ≤ (s.stand p).opens.length := by
  have pos : ∀ t : St, Doc1 t → 1 ≤ t.opens.length := fun t ⟨b, hb⟩ => (List.getElem?_eq_some_iff.1 hb).1
  unfold St.stand
  split
  · rename_i hi
    rw [push_len]
    have := pos _ (h.clear.close (para_len h.clear.doc (.inr hi))).doc
    omega
  · rw [push_len]
    have := pos _ h.clear.doc
    omega

end Go.Proofs.YteonkgneicgkjaaGreatDoor

/- Plain mathematics: the lines' numbers do not matter: a line, and all lines. -/
namespace Go.Proofs.YteonkgneicgkjaaGreatDoor

/-- Readers alike between two lines. -/
structure QR (k : Nat) (s s' : St) : Prop where
  opens : LR k s.opens s'.opens
  defs : s'.defs = s.defs
  doc : Doc1 s

theorem TR.q {k : Nat} {s s' : St} (h : TR k s s') : QR k s s' := ⟨h.sr.opens, h.sr.defs, h.doc⟩

/-- What is told when all is read. -/
def toldS (s : St) : Bs × List Df := ((match (St.leave { s with on := 1 }).opens with | .doc b :: _ => b.kids | _ => .nil), (St.leave { s with on := 1 }).defs)
theorem parse_told (ls : List Str) : St.parse htmlL endsX ls = toldS (St.readAll htmlL endsX 0 St.start ls) := rfl
end Go.Proofs.YteonkgneicgkjaaGreatDoor

/- Two rows of blocks are held against one another; walked. -/
namespace Go.Proofs.YteonkgneicgkjaaGreatDoor
open Go.RowKit
open cur (cell_blk free_blk set_blk blk_below)

namespace Bs
def nth : Bs → Nat → Option (BI × Bs)
  | nil, _ => none
  | cons b k _, 0 => some (b, k)
  | cons _ _ r, i + 1 => nth r i
def size : Bs → Nat
  | nil => 0
  | cons _ k r => size k + size r + 1
theorem nth_some : ∀ (k : Bs) (i : Nat), i < k.len → ∃ b q, k.nth i = some (b, q)
  | nil, i, h => by simp [len] at h
  | cons b q r, 0, _ => ⟨b, q, rfl⟩
  | cons b q r, i + 1, h => nth_some r i (by simp only [len] at h; omega)
theorem nth_size : ∀ (k : Bs) (i : Nat) (b : BI) (q : Bs), k.nth i = some (b, q) → q.size < k.size
  | nil, i, b, q, h => by cases h
  | cons b q r, 0, _, _, h => by
    simp only [nth, Option.some.injEq, Prod.mk.injEq] at h
    obtain ⟨_, rfl⟩ := h
    simp only [size]; omega
  | cons b q r, i + 1, b', q', h => by
    have := nth_size r i b' q' h
    simp only [size]; omega
end Bs

theorem KidC.nth {w : World} {S : Nat → Prop} : ∀ (k : Bs) (xs : List Value) (i : Nat) (b : BI) (q : Bs), KidC w S k xs → k.nth i = some (b, q) → ∃ v ys, (∀ j u, (biCells b v)[j]? = some u → xs[i * 8 + j]? = some u) ∧ w.ownsRow 0 36 8 v q.len ys ∧ (∀ g, v.ownBlock = some g → S g) ∧ KidC w S q ys
  | .nil, xs, i, b, q, _, h => by cases h
  | .cons c k r, xs, 0, b, q, ⟨v, ys, zs, h1, h2, h3, h4, h5⟩, h => by
    simp only [Bs.nth, Option.some.injEq, Prod.mk.injEq] at h
    obtain ⟨rfl, rfl⟩ := h
    refine ⟨v, ys, fun j u hu => ?_, h2, h3, h4⟩
    rw [h1, Nat.zero_mul, Nat.zero_add, List.getElem?_append_left (List.getElem?_eq_some_iff.1 hu).1]
    exact hu
  | .cons c k r, xs, i + 1, b, q, ⟨v, ys, zs, h1, h2, h3, h4, h5⟩, h => by
    obtain ⟨v', ys', a1, a2, a3, a4⟩ := KidC.nth r zs i b q h5 h
    refine ⟨v', ys', fun j u hu => ?_, a2, a3, a4⟩
    rw [h1, List.getElem?_append_right (by simp; omega)]
    rw [← a1 j u hu]
    congr 1
    simp
    omega

end Go.Proofs.YteonkgneicgkjaaGreatDoor

/- Two rows of definitions are held against one another; walked. -/
namespace Go.Proofs.YteonkgneicgkjaaGreatDoor
open Go.RowKit

theorem defCs_at : ∀ (d : List Df) (i : Nat) (q : Df), d[i]? = some q → (defCs d)[i * 3]? = some (strV q.1) ∧ (defCs d)[i * 3 + 1]? = some (strV q.2.1) ∧ (defCs d)[i * 3 + 2]? = some (strV q.2.2)
  | [], i, q, h => by simp at h
  | a :: r, 0, q, h => by
    have e : a = q := by simpa using h
    subst e
    exact ⟨rfl, rfl, rfl⟩
  | a :: r, i + 1, q, h => by
    have := defCs_at r i q (by simpa using h)
    rw [show (i + 1) * 3 = i * 3 + 3 by omega]
    exact this

end Go.Proofs.YteonkgneicgkjaaGreatDoor
