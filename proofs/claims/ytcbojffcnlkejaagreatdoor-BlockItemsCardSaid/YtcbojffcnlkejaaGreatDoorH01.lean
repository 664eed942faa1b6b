
/- Several texts in one. -/
import Derived.Test.YtcbojffcnlkejaaGreatDoorG50
import Derived.Test.YtcbojffcnlkejaaGreatDoorG01
set_option linter.unusedVariables false
/- Plain mathematics: lines with four blanks ahead are Code, and lines between fences. -/
namespace Go.Proofs.YtcbojffcnlkejaaGreatDoor

theorem lines_cat (pre : Str) (hp : ∀ c ∈ pre, notEnd c = true) (rest : Str) : ∀ ls : List Str, (∀ x ∈ ls, ∀ c ∈ x, notEnd c = true) → lines (ls.flatMap (fun x => pre ++ x ++ [10]) ++ rest) = ls.map (pre ++ ·) ++ lines rest
  | [], _ => rfl
  | x :: r, h => by
    rw [List.flatMap_cons, List.append_assoc, lines_part (pre ++ x) [10] _ (fun c hc => by
      rcases List.mem_append.1 hc with q | q
      · exact hp c q
      · exact h x (List.mem_cons_self ..) c q) (.inl rfl), lines_cat pre hp rest r (fun y hy => h y (List.mem_cons_of_mem _ hy))]
    rfl
abbrev four (x : Str) : Str := 32 :: 32 :: 32 :: 32 :: x
abbrev docS (d : Box) (on : Nat) (df : List Df) : St := ⟨[.doc d], on, df⟩
abbrev docP (d : Box) (p : Part) (on : Nat) (df : List Df) : St := ⟨[.doc d, p], on, df⟩

theorem go_doc (n : Nat) (d : Box) (on : Nat) (df : List Df) (σ : Pl) : (docS d on df).goOn endsX n σ = (0, docS d 1 df, σ) := rfl
/-! ### Between fences -/

abbrev infoT : Str := [105, 110, 102, 111]
abbrev fenceB (c : UInt8) : Str := [c, c, c, 32, 105, 110, 102, 111]

theorem beh_sub : ∀ (l : Str) (b : UInt8), b ∈ beh l → b ∈ l
  | [], b, h => h
  | a :: t, b, h => by
    unfold beh at h
    split at h
    · exact List.mem_cons_of_mem _ (beh_sub t b h)
    · exact h
end Go.Proofs.YtcbojffcnlkejaaGreatDoor

/- Plain mathematics: the lines' numbers do not matter, only how far apart they are. -/
namespace Go.Proofs.YtcbojffcnlkejaaGreatDoor

def Box.sh (k : Nat) (b : Box) : Box := { b with first := b.first + k, last := b.last + k }
def Body.sh (k : Nat) (b : Body) : Body := { b with first := b.first + k, last := b.last + k }
/-- A part so many lines further down; of the document only what is in it. -/
def Part.sh (k : Nat) : Part → Part
  | .doc b => .doc { first := 0, last := 0, kids := b.kids }
  | .quote b => .quote (b.sh k)
  | .list b m => .list (b.sh k) m
  | .item b w => .item (b.sh k) w
  | .para b l => .para (b.sh k) l
  | .fenced b c z i t => .fenced (b.sh k) c z i t
  | .indented b => .indented (b.sh k)
  | .html b z => .html (b.sh k) z
  | .whole f l b => .whole (f + k) (l + k) b

theorem sh_zero {p : Part} (h : p.isDoc = false) : p.sh 0 = p := by cases p <;> first | rfl | cases h
theorem sh_told (k : Nat) (p : Part) : (p.sh k).told = p.told := by
  cases p with
  | para b l => cases l <;> rfl
  | indented b =>
    show some (({ kind := 6, text := endedL (b.rows.take (b.last + k - (b.first + k) + 1)) } : BI), Bs.nil) = _
    rw [show b.last + k - (b.first + k) = b.last - b.first by omega]
    rfl
  | _ => rfl
theorem sh_is (k : Nat) (p : Part) : (p.sh k).isC = p.isC ∧ (p.sh k).isList = p.isList ∧ (p.sh k).isPara = p.isPara ∧ (p.sh k).isDeep = p.isDeep ∧ (p.sh k).isDoc = p.isDoc ∧ St.listSign (p.sh k) = St.listSign p ∧ itemGap (p.sh k) = itemGap p := by
  cases p <;> exact ⟨rfl, rfl, rfl, rfl, rfl, rfl, rfl⟩
theorem sh_ext {k : Nat} {p : Part} (h : p.isDoc = false) : (p.sh k).ext = (p.ext.1 + k, p.ext.2 + k) := by
  cases p <;> first | rfl | cases h

/-- The same part, but for where it stands. -/
def PR (k : Nat) (p p' : Part) : Prop := p'.sh 0 = p.sh k

theorem PR.of {k : Nat} {p p' : Part} (h : PR k p p') (hd : p.isDoc = false) : p' = p.sh k := by
  have h1 : (p'.sh 0).isDoc = (p.sh k).isDoc := by rw [h]
  rw [(sh_is 0 p').2.2.2.2.1, (sh_is k p).2.2.2.2.1, hd] at h1
  rw [← sh_zero h1]
  exact h
theorem PR.sh (k : Nat) {p : Part} (hd : p.isDoc = false) : PR k p (p.sh k) := sh_zero (by rw [(sh_is k p).2.2.2.2.1]; exact hd)
theorem PR.is {k : Nat} {p p' : Part} (h : PR k p p') : p'.isC = p.isC ∧ p'.isList = p.isList ∧ p'.isPara = p.isPara ∧ p'.isDeep = p.isDeep ∧ p'.isDoc = p.isDoc ∧ St.listSign p' = St.listSign p ∧ p'.told = p.told := by
  have a := sh_is 0 p'
  have b := sh_is k p
  have h : p'.sh 0 = p.sh k := h
  rw [h] at a
  exact ⟨a.1.symm.trans b.1, a.2.1.symm.trans b.2.1, a.2.2.1.symm.trans b.2.2.1, a.2.2.2.1.symm.trans b.2.2.2.1, a.2.2.2.2.1.symm.trans b.2.2.2.2.1, a.2.2.2.2.2.1.symm.trans b.2.2.2.2.2.1, by rw [← sh_told 0 p', h, sh_told]⟩

theorem box_hold (k : Nat) (b : Box) (p : Part) (hd : p.isDoc = false) : (b.sh k).hold (p.sh k) = (b.hold p).sh k := by
  unfold Box.hold Box.sh
  simp only [sh_ext hd, sh_told]
  have h1 : max (b.last + k) (p.ext.2 + k) = max b.last p.ext.2 + k := by omega
  have h2 : decide (b.last + k + 1 < p.ext.1 + k) = decide (b.last + 1 < p.ext.1) := by
    rw [Bool.eq_iff_iff, decide_eq_true_eq, decide_eq_true_eq]; omega
  rw [h1, h2]
theorem PR.hold {k : Nat} {c c' p p' : Part} (hc : PR k c c') (hp : PR k p p') (hd : p.isDoc = false) : PR k (c.hold p) (c'.hold p') := by
  have e := hp.of hd
  subst e
  cases hcd : c.isDoc
  · have e := hc.of hcd
    subst e
    have key : (c.sh k).hold (p.sh k) = (c.hold p).sh k := by
      cases c with
      | doc b => cases hcd
      | quote b => exact congrArg Part.quote (box_hold k b p hd)
      | item b w => exact congrArg (fun q => Part.item q w) (box_hold k b p hd)
      | list b m =>
        show Part.list { (b.sh k).hold (p.sh k) with gap := ((b.sh k).hold (p.sh k)).gap || itemGap (p.sh k) } m = _
        rw [box_hold k b p hd, (sh_is k p).2.2.2.2.2.2]
        rfl
      | _ => rfl
    rw [key]
    exact PR.sh k (by cases c <;> first | rfl | (cases hcd; done))
  · have hcd' := hc.is.2.2.2.2.1
    rw [hcd] at hcd'
    cases c with
    | doc b =>
      cases c' with
      | doc b' =>
        have hk : b'.kids = b.kids := by
          have h : (Part.doc { first := 0, last := 0, kids := b'.kids }) = .doc { first := 0, last := 0, kids := b.kids } := hc
          simpa using h
        show Part.doc { first := 0, last := 0, kids := (b'.hold (p.sh k)).kids } = Part.doc { first := 0, last := 0, kids := (b.hold p).kids }
        have : (b'.hold (p.sh k)).kids = (b.hold p).kids := by
          unfold Box.hold
          simp only [sh_told, hk]
        rw [this]
      | _ => cases hcd'
    | _ => cases hcd

/-- Rows of parts. -/
def LR (k : Nat) (l l' : List Part) : Prop := l'.map (Part.sh 0) = l.map (Part.sh k) ∧ ∀ p ∈ l.tail, p.isDoc = false

theorem LR.len {k : Nat} {l l' : List Part} (h : LR k l l') : l'.length = l.length := by
  have := congrArg List.length h.1
  simpa using this
theorem LR.at {k : Nat} {l l' : List Part} (h : LR k l l') {i : Nat} {p : Part} (hp : l[i]? = some p) : ∃ p', l'[i]? = some p' ∧ PR k p p' := by
  have h1 : (l'.map (Part.sh 0))[i]? = some (p.sh k) := by rw [h.1, List.getElem?_map, hp]; rfl
  rw [List.getElem?_map] at h1
  cases hq : l'[i]? with
  | none => rw [hq] at h1; cases h1
  | some p' => rw [hq] at h1; exact ⟨p', rfl, by show p'.sh 0 = p.sh k; simpa using h1⟩
theorem LR.nd {k : Nat} {l l' : List Part} (h : LR k l l') {i : Nat} {p : Part} (hp : l[i + 1]? = some p) : p.isDoc = false := by
  refine h.2 p ?_
  cases l with
  | nil => simp at hp
  | cons a t => exact List.mem_of_getElem? (by simpa using hp)
theorem LR.last {k : Nat} {l l' : List Part} (h : LR k l l') {p : Part} (hp : l.getLast? = some p) : ∃ p', l'.getLast? = some p' ∧ PR k p p' := by
  rw [List.getLast?_eq_getElem?] at hp
  obtain ⟨p', h1, h2⟩ := h.at hp
  exact ⟨p', by rw [List.getLast?_eq_getElem?, h.len]; exact h1, h2⟩
theorem LR.lastNone {k : Nat} {l l' : List Part} (h : LR k l l') (hp : l.getLast? = none) : l'.getLast? = none := by
  rw [List.getLast?_eq_none_iff] at hp ⊢
  have := h.len
  rw [hp] at this
  exact List.length_eq_zero_iff.1 this
theorem LR.dropLast {k : Nat} {l l' : List Part} (h : LR k l l') : LR k l.dropLast l'.dropLast := by
  refine ⟨by rw [List.map_dropLast, List.map_dropLast, h.1], fun p hp => h.2 p ?_⟩
  rw [List.tail_dropLast] at hp
  exact List.dropLast_subset _ hp
theorem LR.take {k : Nat} {l l' : List Part} (h : LR k l l') (n : Nat) : LR k (l.take n) (l'.take n) := by
  refine ⟨by rw [List.map_take, List.map_take, h.1], fun p hp => h.2 p ?_⟩
  cases l with
  | nil => simp at hp
  | cons a t =>
    cases n with
    | zero => simp at hp
    | succ n => simp at hp; exact List.mem_of_mem_take hp
theorem LR.snoc {k : Nat} {l l' : List Part} {p p' : Part} (h : LR k l l') (hp : PR k p p') (hd : l = [] ∨ p.isDoc = false) : LR k (l ++ [p]) (l' ++ [p']) := by
  refine ⟨by rw [List.map_append, List.map_append, h.1]; simp only [List.map_cons, List.map_nil]; rw [show p'.sh 0 = p.sh k from hp], fun q hq => ?_⟩
  cases l with
  | nil => simp at hq
  | cons a t =>
    simp at hq
    rcases hq with q1 | q1
    · exact h.2 q q1
    · subst q1
      rcases hd with hd | hd
      · cases hd
      · exact hd
theorem LR.count {k : Nat} {l l' : List Part} (h : LR k l l') : l'.countP Part.isDeep = l.countP Part.isDeep := by
  have h1 : ∀ (m : List Part) (j : Nat), (m.map (Part.sh j)).countP Part.isDeep = m.countP Part.isDeep := fun m j => by
    rw [List.countP_map]
    congr 1
    funext p
    exact (sh_is j p).2.2.2.1
  rw [← h1 l' 0, h.1, h1]

/-- Readers that are the same but for the lines' numbers. -/
structure SR (k : Nat) (s s' : St) : Prop where
  opens : LR k s.opens s'.opens
  on : s'.on = s.on
  defs : s'.defs = s.defs

theorem SR.hasPara {k : Nat} {s s' : St} (h : SR k s s') : s'.hasPara = s.hasPara := by
  unfold St.hasPara
  cases hq : s.opens.getLast? with
  | none => rw [h.opens.lastNone hq]
  | some p => obtain ⟨p', h1, h2⟩ := h.opens.last hq; rw [h1]; exact h2.is.2.2.1
theorem SR.inList {k : Nat} {s s' : St} (h : SR k s s') : s'.inList = s.inList := by
  unfold St.inList
  cases hq : s.opens.getLast? with
  | none => rw [h.opens.lastNone hq]
  | some p => obtain ⟨p', h1, h2⟩ := h.opens.last hq; rw [h1]; exact h2.is.2.1
theorem SR.sign {k : Nat} {s s' : St} (h : SR k s s') : s'.opens.getLast?.bind St.listSign = s.opens.getLast?.bind St.listSign := by
  cases hq : s.opens.getLast? with
  | none => rw [h.opens.lastNone hq]
  | some p => obtain ⟨p', h1, h2⟩ := h.opens.last hq; rw [h1]; exact h2.is.2.2.2.2.2.1
theorem SR.isClose {k : Nat} {s s' : St} (h : SR k s s') : s'.isClose = s.isClose := by
  unfold St.isClose
  rw [h.hasPara, h.on, h.opens.len]
theorem SR.room {k : Nat} {s s' : St} (h : SR k s s') : s'.room = s.room := by
  unfold St.room
  rw [h.on, (h.opens.take s.on).count]

theorem takeOff_sh (k : Nat) (p : Part) (d : List Df) : St.takeOff (p.sh k) d = ((St.takeOff p d).1.sh k, (St.takeOff p d).2) := by cases p <;> rfl
theorem SR.close {k : Nat} {s s' : St} (h : SR k s s') (h2 : 2 ≤ s.opens.length) : SR k s.close s'.close := by
  obtain ⟨n, hn⟩ : ∃ n, s.opens.length = n + 2 := ⟨s.opens.length - 2, by omega⟩
  obtain ⟨p, hp⟩ : ∃ p, s.opens[n + 1]? = some p := ⟨_, List.getElem?_eq_getElem (by omega)⟩
  have hl : s.opens.getLast? = some p := by rw [List.getLast?_eq_getElem?, hn]; exact hp
  have hd := h.opens.nd hp
  obtain ⟨p', hl', hpp⟩ := h.opens.last hl
  have e := hpp.of hd
  subst e
  unfold St.close
  rw [hl, hl']
  simp only
  rw [takeOff_sh, h.defs, h.on, h.opens.len]
  have hdt : (St.takeOff p s.defs).1.isDoc = false := by cases p <;> first | rfl | (cases hd; done)
  refine ⟨?_, rfl, rfl⟩
  unfold St.holdLast
  obtain ⟨c, hc⟩ : ∃ c, s.opens.dropLast.getLast? = some c := by
    cases hq : s.opens.dropLast.getLast? with
    | none => rw [List.getLast?_eq_none_iff] at hq; have := congrArg List.length hq; rw [List.length_dropLast, hn] at this; simp at this
    | some c => exact ⟨c, rfl⟩
  obtain ⟨c', hc', hcc⟩ := h.opens.dropLast.last hc
  simp only
  rw [hc, hc']
  refine h.opens.dropLast.dropLast.snoc (hcc.hold (PR.sh k hdt) hdt) ?_
  rcases Nat.eq_zero_or_pos n with e | e
  · left
    refine List.length_eq_zero_iff.1 ?_
    rw [List.length_dropLast, List.length_dropLast, hn, e]
  · right
    have hcn : s.opens[n]? = some c := by
      rw [List.getLast?_eq_getElem?, List.length_dropLast, hn, List.getElem?_dropLast, hn, show n + 2 - 1 - 1 = n by omega, if_pos (by omega)] at hc
      exact hc
    obtain ⟨j, hj⟩ : ∃ j, n = j + 1 := ⟨n - 1, by omega⟩
    rw [hj] at hcn
    have hcd := h.opens.nd hcn
    cases c <;> first | rfl | (cases hcd; done)

end Go.Proofs.YtcbojffcnlkejaaGreatDoor

/- Plain mathematics: the lines' numbers do not matter: what a line does. -/
namespace Go.Proofs.YtcbojffcnlkejaaGreatDoor

theorem close_len' {s : St} (h2 : 2 ≤ s.opens.length) : s.close.opens.length = s.opens.length - 1 ∧ s.close.on = min s.on (s.opens.length - 1) := by
  obtain ⟨n, hn⟩ : ∃ n, s.opens.length = n + 2 := ⟨s.opens.length - 2, by omega⟩
  obtain ⟨p, hp⟩ : ∃ p, s.opens[n + 1]? = some p := ⟨_, List.getElem?_eq_getElem (by omega)⟩
  obtain ⟨c, hc⟩ : ∃ c, s.opens[n]? = some c := ⟨_, List.getElem?_eq_getElem (by omega)⟩
  rw [close_eq hn hp hc, hn]
  exact ⟨by show (List.set _ _ _).length = _; rw [List.length_set, List.length_take, List.length_set, hn]; omega, rfl⟩
theorem SR.leaveF {k : Nat} : ∀ (f : Nat) {s s' : St}, SR k s s' → 1 ≤ s.on → SR k (St.leaveF f s) (St.leaveF f s') ∧ 1 ≤ (St.leaveF f s).on
  | 0, s, s', h, h1 => ⟨h, h1⟩
  | f + 1, s, s', h, h1 => by
    simp only [St.leaveF]
    rw [h.on, h.opens.len]
    split
    · rename_i hlt
      have h2 : 2 ≤ s.opens.length := by omega
      exact SR.leaveF f (h.close h2) (by rw [(close_len' h2).2]; omega)
    · exact ⟨h, h1⟩
theorem SR.leave {k : Nat} {s s' : St} (h : SR k s s') (h1 : 1 ≤ s.on) : SR k s.leave s'.leave ∧ 1 ≤ s.leave.on := by
  unfold St.leave
  rw [h.opens.len]
  exact h.leaveF _ h1
/-- The first part is the document. -/
def Doc1 (s : St) : Prop := ∃ b, s.opens[0]? = some (.doc b)
theorem para_len {s : St} (hd : Doc1 s) (hp : s.hasPara = true ∨ s.inList = true) : 2 ≤ s.opens.length := by
  obtain ⟨b, hb⟩ := hd
  rcases Nat.lt_or_ge s.opens.length 2 with q | q
  · have hl := (List.getElem?_eq_some_iff.1 hb).1
    have : s.opens.getLast? = some (.doc b) := by rw [List.getLast?_eq_getElem?, show s.opens.length - 1 = 0 by omega]; exact hb
    unfold St.hasPara St.inList at hp
    rw [this] at hp
    simp [Part.isPara, Part.isList] at hp
  · exact q
theorem Doc1.close {s : St} (h : Doc1 s) (h2 : 2 ≤ s.opens.length) : Doc1 s.close := by
  obtain ⟨b, hb⟩ := h
  obtain ⟨n, hn⟩ : ∃ n, s.opens.length = n + 2 := ⟨s.opens.length - 2, by omega⟩
  obtain ⟨p, hp⟩ : ∃ p, s.opens[n + 1]? = some p := ⟨_, List.getElem?_eq_getElem (by omega)⟩
  obtain ⟨c, hc⟩ : ∃ c, s.opens[n]? = some c := ⟨_, List.getElem?_eq_getElem (by omega)⟩
  rw [close_eq hn hp hc]
  unfold Doc1
  simp only
  rcases Nat.eq_zero_or_pos n with e | e
  · subst e
    rw [hb] at hc
    cases hc
    exact ⟨_, List.getElem?_set_self (by rw [List.length_take, List.length_set, hn]; omega)⟩
  · exact ⟨b, by rw [List.getElem?_set_ne (by omega), List.getElem?_take_of_lt (by omega), List.getElem?_set_ne (by omega)]; exact hb⟩
theorem Doc1.leaveF : ∀ (f : Nat) {s : St}, Doc1 s → 1 ≤ s.on → Doc1 (St.leaveF f s)
  | 0, s, h, _ => h
  | f + 1, s, h, h1 => by
    simp only [St.leaveF]
    split
    · have h2 : 2 ≤ s.opens.length := by omega
      exact Doc1.leaveF f (h.close h2) (by rw [(close_len' h2).2]; omega)
    · exact h

/-- Readers alike, while a line is read. -/
structure TR (k : Nat) (s s' : St) : Prop where
  sr : SR k s s'
  doc : Doc1 s
  on : 1 ≤ s.on

theorem TR.close {k : Nat} {s s' : St} (h : TR k s s') (h2 : 2 ≤ s.opens.length) : TR k s.close s'.close := ⟨h.sr.close h2, h.doc.close h2, by rw [(close_len' h2).2]; have := h.on; omega⟩
theorem TR.leave {k : Nat} {s s' : St} (h : TR k s s') : TR k s.leave s'.leave := ⟨(h.sr.leave h.on).1, Doc1.leaveF _ h.doc h.on, (h.sr.leave h.on).2⟩
theorem TR.clear {k : Nat} {s s' : St} (h : TR k s s') : TR k s.clear s'.clear := by
  unfold St.clear
  rw [h.leave.sr.hasPara]
  split
  · rename_i hp
    exact h.leave.close (para_len h.leave.doc (.inl hp))
  · exact h.leave
theorem TR.push {k : Nat} {s s' : St} (h : TR k s s') {p p' : Part} (hp : PR k p p') (hd : p.isDoc = false) : TR k (s.push p) (s'.push p') := by
  refine ⟨⟨h.sr.opens.snoc hp (.inr hd), by show s'.opens.length + 1 = s.opens.length + 1; rw [h.sr.opens.len], h.sr.defs⟩, ?_, Nat.succ_le_succ (Nat.zero_le _)⟩
  obtain ⟨b, hb⟩ := h.doc
  exact ⟨b, by show (s.opens ++ [p])[0]? = _; rw [List.getElem?_append_left (List.getElem?_eq_some_iff.1 hb).1]; exact hb⟩
theorem TR.stand {k : Nat} {s s' : St} (h : TR k s s') {p p' : Part} (hp : PR k p p') (hd : p.isDoc = false) : TR k (s.stand p) (s'.stand p') := by
  unfold St.stand
  rw [h.clear.sr.inList]
  split
  · rename_i hi
    exact (h.clear.close (para_len h.clear.doc (.inr hi))).push hp hd
  · exact h.clear.push hp hd
theorem push_len (s : St) (p : Part) : (s.push p).opens.length = s.opens.length + 1 := by
  show (s.opens ++ [p]).length = _
  simp
theorem TR.two {k : Nat} {s s' : St} (h : TR k s s') (p : Part) : 2 ≤ (s.stand p).opens.length := by
  have pos : ∀ t : St, Doc1 t → 1 ≤ t.opens.length := fun t ⟨b, hb⟩ => (List.getElem?_eq_some_iff.1 hb).1
  unfold St.stand
  split
  · rename_i hi
    rw [push_len]
    have := pos _ (h.clear.close (para_len h.clear.doc (.inr hi))).doc
    omega
  · rw [push_len]
    have := pos _ h.clear.doc
    omega

end Go.Proofs.YtcbojffcnlkejaaGreatDoor

/- Plain mathematics: the lines' numbers do not matter: a line, and all lines. -/
namespace Go.Proofs.YtcbojffcnlkejaaGreatDoor

/-- Readers alike between two lines. -/
structure QR (k : Nat) (s s' : St) : Prop where
  opens : LR k s.opens s'.opens
  defs : s'.defs = s.defs
  doc : Doc1 s

theorem TR.q {k : Nat} {s s' : St} (h : TR k s s') : QR k s s' := ⟨h.sr.opens, h.sr.defs, h.doc⟩

/-- What is told when all is read. -/
def toldS (s : St) : Bs × List Df := ((match (St.leave { s with on := 1 }).opens with | .doc b :: _ => b.kids | _ => .nil), (St.leave { s with on := 1 }).defs)
theorem parse_told (ls : List Str) : St.parse htmlL endsX ls = toldS (St.readAll htmlL endsX 0 St.start ls) := rfl
end Go.Proofs.YtcbojffcnlkejaaGreatDoor

/- Two rows of blocks are held against one another; walked. -/
namespace Go.Proofs.YtcbojffcnlkejaaGreatDoor
open Go.RowKit
open cur (cell_blk free_blk set_blk blk_below)

namespace Bs
def nth : Bs → Nat → Option (BI × Bs)
  | nil, _ => none
  | cons b k _, 0 => some (b, k)
  | cons _ _ r, i + 1 => nth r i
def size : Bs → Nat
  | nil => 0
  | cons _ k r => size k + size r + 1
theorem nth_some : ∀ (k : Bs) (i : Nat), i < k.len → ∃ b q, k.nth i = some (b, q)
  | nil, i, h => by simp [len] at h
  | cons b q r, 0, _ => ⟨b, q, rfl⟩
  | cons b q r, i + 1, h => nth_some r i (by simp only [len] at h; omega)
theorem nth_size : ∀ (k : Bs) (i : Nat) (b : BI) (q : Bs), k.nth i = some (b, q) → q.size < k.size
  | nil, i, b, q, h => by cases h
  | cons b q r, 0, _, _, h => by
    simp only [nth, Option.some.injEq, Prod.mk.injEq] at h
    obtain ⟨_, rfl⟩ := h
    simp only [size]; omega
  | cons b q r, i + 1, b', q', h => by
    have := nth_size r i b' q' h
    simp only [size]; omega
end Bs

theorem KidC.nth {w : World} {S : Nat → Prop} : ∀ (k : Bs) (xs : List Value) (i : Nat) (b : BI) (q : Bs), KidC w S k xs → k.nth i = some (b, q) → ∃ v ys, (∀ j u, (biCells b v)[j]? = some u → xs[i * 8 + j]? = some u) ∧ w.ownsRow 0 34 8 v q.len ys ∧ (∀ g, v.ownBlock = some g → S g) ∧ KidC w S q ys
  | .nil, xs, i, b, q, _, h => by cases h
  | .cons c k r, xs, 0, b, q, ⟨v, ys, zs, h1, h2, h3, h4, h5⟩, h => by
    simp only [Bs.nth, Option.some.injEq, Prod.mk.injEq] at h
    obtain ⟨rfl, rfl⟩ := h
    refine ⟨v, ys, fun j u hu => ?_, h2, h3, h4⟩
    rw [h1, Nat.zero_mul, Nat.zero_add, List.getElem?_append_left (List.getElem?_eq_some_iff.1 hu).1]
    exact hu
  | .cons c k r, xs, i + 1, b, q, ⟨v, ys, zs, h1, h2, h3, h4, h5⟩, h => by
    obtain ⟨v', ys', a1, a2, a3, a4⟩ := KidC.nth r zs i b q h5 h
    refine ⟨v', ys', fun j u hu => ?_, a2, a3, a4⟩
    rw [h1, List.getElem?_append_right (by simp; omega)]
    rw [← a1 j u hu]
    congr 1
    simp
    omega

set_option maxHeartbeats 4000000 in
set_option maxRecDepth 40000 in
theorem bsame_any : ∀ (m : Nat) (k : Bs), k.size ≤ m → ∀ (w : World) (v1 v2 : Value) (A1 S1 A2 S2 : Nat → Prop), KidsV w A1 S1 v1 k → KidsV w A2 S2 v2 k →
    Calls Tryz.prog 14 #[v1, v2] w fun e w' => e = .returned (.bool true) ∧ Below w.heap.size w w' := by
  intro m
  induction m with
  | zero =>
    intro k hk w v1 v2 A1 S1 A2 S2 h1 h2
    have hk0 : k = .nil := by cases k with | nil => rfl | cons b q r => simp only [Bs.size] at hk; omega
    subst hk0
    obtain ⟨xs1, row1, _, _⟩ := h1
    obtain ⟨xs2, row2, _, _⟩ := h2
    obtain ⟨a1, c1, rfl, _⟩ := row_slice row1
    obtain ⟨a2, c2, rfl, _⟩ := row_slice row2
    clear row1 row2
    simp only [Bs.len]
    go_enter Tryz.func14, Tryz.ntmps14
    go_wp2
    go_loopw [5] (fun t wr => t = .int .i64 0 ∧ wr = w) (fun t _ => 0)
    case atStart => exact ⟨rfl, rfl⟩
    case round =>
      obtain ⟨rfl, hw⟩ := hrel
      subst hw
      go_wp2
      go_ret
      exact ⟨rfl, Below.refl _ _⟩
  | succ m ih =>
    intro k hk w v1 v2 A1 S1 A2 S2 h1 h2
    obtain ⟨xs1, row1, _, kc1⟩ := h1
    obtain ⟨xs2, row2, _, kc2⟩ := h2
    have hmx : k.len ≤ maxLen := by
      rcases row1.2 with ⟨_, q⟩ | ⟨_, _, _, _, _, _, q1, q2, _⟩
      · omega
      · omega
    unfold maxLen at hmx
    obtain ⟨a1, c1, rfl, _⟩ := row_slice row1
    obtain ⟨a2, c2, rfl, _⟩ := row_slice row2
    have HIh := (show Hid _ from ih)
    clear ih
    go_enter Tryz.func14, Tryz.ntmps14
    go_wp2
    go_loopw [5] (fun t wr => ∃ i : Nat, t = .int .i64 (i : Int) ∧ i ≤ k.len ∧ Hid (Below w.heap.size w wr)) (fun t _ => k.len - (intOf t).toNat)
    case atStart => exact ⟨0, rfl, Nat.zero_le _, Below.refl _ _⟩
    case round =>
      obtain ⟨i, rfl, hi, HB⟩ := hrel
      by_cases hlt : i < k.len
      · have hlt' : (i : Int) < (k.len : Int) := by omega
        obtain ⟨b, q, hn⟩ := k.nth_some i hlt
        obtain ⟨y1, z1, e1, r1, _, q1⟩ := kc1.nth k xs1 i b q hn
        obtain ⟨y2, z2, e2, r2, _, q2⟩ := kc2.nth k xs2 i b q hn
        obtain ⟨g1, p1, he1, _, f1⟩ := row_at (row_keeps row1 (fun g hg => HB.out.block g (World.ownsRow.lt row1 g hg).2)) (by omega)
        obtain ⟨g2, p2, he2, _, f2⟩ := row_at (row_keeps row2 (fun g hg => HB.out.block g (World.ownsRow.lt row2 g hg).2)) (by omega)
        cases he1
        cases he2
        have HR1 : Hid (∀ u, Below w.heap.size w u → KidsV u S1 S1 y1 q) := fun u hu => ⟨z1, row_keeps r1 (fun g hg => hu.block g (World.ownsRow.lt r1 g hg).2), ‹_›, KidC.keeps (fun _ z => z) (fun g hg _ => hu.block g hg) q z1 q1⟩
        have HR2 : Hid (∀ u, Below w.heap.size w u → KidsV u S2 S2 y2 q) := fun u hu => ⟨z2, row_keeps r2 (fun g hg => hu.block g (World.ownsRow.lt r2 g hg).2), ‹_›, KidC.keeps (fun _ z => z) (fun g hg _ => hu.block g hg) q z2 q2⟩
        have hqs : q.size ≤ m := by have := k.nth_size i b q hn; omega
        obtain ⟨ka1, kc1', rfl, _⟩ := row_slice r1
        obtain ⟨ka2, kc2', rfl, _⟩ := row_slice r2
        obtain ⟨kd, lv, tx, inf, od, tg, st⟩ := b
        have x0 := f1 _ _ (e1 0 _ rfl)
        have x1 := f1 _ _ (e1 1 _ rfl)
        have x2 := f1 _ _ (e1 2 _ rfl)
        have x3 := f1 _ _ (e1 3 _ rfl)
        have x4 := f1 _ _ (e1 4 _ rfl)
        have x5 := f1 _ _ (e1 5 _ rfl)
        have x6 := f1 _ _ (e1 6 _ rfl)
        have x7 := f1 _ _ (e1 7 _ rfl)
        simp only [strV, Nat.add_zero] at x0 x2 x3
        generalize hX1 : Obj.cells #[.int .i64 (kd : Int), .int .i64 (lv : Int), .string ⟨tx.toArray⟩, .string ⟨inf.toArray⟩, .bool od, .bool tg, .int .i64 (st : Int), .slice ka1 q.len kc1'] 34 = X1
        have hrow2 : (wr.alloc X1).ownsRow 0 34 8 (.slice (some ⟨g2, 0, none⟩) k.len c2) k.len xs2 := row_keeps row2 (fun g hg => ((HB.out).alloc HB.out.size X1).block g (World.ownsRow.lt row2 g hg).2)
        obtain ⟨g3, p3, he3, _, f3⟩ := row_at hrow2 (by omega)
        cases he3
        have t0 := f3 _ _ (e2 0 _ rfl)
        have t1 := f3 _ _ (e2 1 _ rfl)
        have t2 := f3 _ _ (e2 2 _ rfl)
        have t3 := f3 _ _ (e2 3 _ rfl)
        have t4 := f3 _ _ (e2 4 _ rfl)
        have t5 := f3 _ _ (e2 5 _ rfl)
        have t6 := f3 _ _ (e2 6 _ rfl)
        have t7 := f3 _ _ (e2 7 _ rfl)
        simp only [strV, Nat.add_zero] at t0 t2 t3
        subst hX1
        have hbA := new_blk wr #[.int .i64 (kd : Int), .int .i64 (lv : Int), .string ⟨tx.toArray⟩, .string ⟨inf.toArray⟩, .bool od, .bool tg, .int .i64 (st : Int), .slice ka1 q.len kc1'] 34
        have HB1 : Hid (Below w.heap.size w (wr.alloc (.cells #[.int .i64 (kd : Int), .int .i64 (lv : Int), .string ⟨tx.toArray⟩, .string ⟨inf.toArray⟩, .bool od, .bool tg, .int .i64 (st : Int), .slice ka1 q.len kc1'] 34))) := HB.out.alloc HB.out.size _
        clear f1 e1 f2 e2 f3 hrow2 row1 row2 kc1 kc2 r1 r2 q1 q2 hn
        generalize ByteArray.mk tx.toArray = TX at *
        generalize ByteArray.mk inf.toArray = IN at *
        have hszA : (wr.alloc (.cells #[.int .i64 (kd : Int), .int .i64 (lv : Int), .string TX, .string IN, .bool od, .bool tg, .int .i64 (st : Int), .slice ka1 q.len kc1'] 34)).heap.size = wr.heap.size + 1 := by simp
        generalize hWA : wr.alloc (.cells #[.int .i64 (kd : Int), .int .i64 (lv : Int), .string TX, .string IN, .bool od, .bool tg, .int .i64 (st : Int), .slice ka1 q.len kc1'] 34) = WA at *
        have hbB := new_blk WA #[.int .i64 (kd : Int), .int .i64 (lv : Int), .string TX, .string IN, .bool od, .bool tg, .int .i64 (st : Int), .slice ka2 q.len kc2'] 34
        rw [hszA] at hbB
        have hbA2 := blk_below hbA ((Below.refl WA.heap.size WA).alloc (Nat.le_refl _) (.cells #[.int .i64 (kd : Int), .int .i64 (lv : Int), .string TX, .string IN, .bool od, .bool tg, .int .i64 (st : Int), .slice ka2 q.len kc2'] 34))
        have HB2 : Hid (Below w.heap.size w (WA.alloc (.cells #[.int .i64 (kd : Int), .int .i64 (lv : Int), .string TX, .string IN, .bool od, .bool tg, .int .i64 (st : Int), .slice ka2 q.len kc2'] 34))) := HB1.out.alloc HB1.out.size _
        generalize hWB : WA.alloc (.cells #[.int .i64 (kd : Int), .int .i64 (lv : Int), .string TX, .string IN, .bool od, .bool tg, .int .i64 (st : Int), .slice ka2 q.len kc2'] 34) = WB at *
        have n7 := cell_blk hbA2 (i := 7) rfl
        have o7 := cell_blk hbB (i := 7) rfl
        simp only [List.getElem_toArray, List.getElem_cons_zero, List.getElem_cons_succ] at n7 o7
        have HBA := (show Hid _ from hbA2)
        have HBB := (show Hid _ from hbB)
        have HS : Hid (Calls Tryz.prog 14 #[.slice ka1 q.len kc1', .slice ka2 q.len kc2'] WB fun e w' => e = .returned (.bool true) ∧ Below WB.heap.size WB w') := HIh.out q hqs WB _ _ S1 S1 S2 S2 (HR1.out WB HB2.out) (HR2.out WB HB2.out)
        clear hbA hbA2 hbB HR1 HR2 HIh hqs
        go_wp2_with (go_at_call 14; refine Calls.mono HS.out ?_; rintro e u ⟨rfl, hu⟩; have hA3 := blk_below HBA.out hu; have hB3 := blk_below HBB.out hu; have l0 := cell_blk hA3 (i := 0) rfl; have l1 := cell_blk hA3 (i := 1) rfl; have l2 := cell_blk hA3 (i := 2) rfl; have l3 := cell_blk hA3 (i := 3) rfl; have l4 := cell_blk hA3 (i := 4) rfl; have l5 := cell_blk hA3 (i := 5) rfl; have l6 := cell_blk hA3 (i := 6) rfl; have m0 := cell_blk hB3 (i := 0) rfl; have m1 := cell_blk hB3 (i := 1) rfl; have m2 := cell_blk hB3 (i := 2) rfl; have m3 := cell_blk hB3 (i := 3) rfl; have m4 := cell_blk hB3 (i := 4) rfl; have m5 := cell_blk hB3 (i := 5) rfl; have m6 := cell_blk hB3 (i := 6) rfl; simp only [List.getElem_toArray, List.getElem_cons_zero, List.getElem_cons_succ] at l0 l1 l2 l3 l4 l5 l6 m0 m1 m2 m3 m4 m5 m6; have HU := (show Hid _ from hu); clear hu hA3 hB3 x0 x1 x2 x3 x4 x5 x6 x7 t0 t1 t2 t3 t4 t5 t6 t7 n7 o7)
        go_roundw
        case rel => exact ⟨i + 1, by go_num, by omega, HB2.out.trans (HU.out.mono HB2.out.size)⟩
        case measure => simp [intOf]; omega
      · have hge : ¬ (i : Int) < (k.len : Int) := by omega
        go_wp2
        go_ret
        exact ⟨rfl, HB.out⟩

end Go.Proofs.YtcbojffcnlkejaaGreatDoor

/- Two rows of definitions are held against one another; walked. -/
namespace Go.Proofs.YtcbojffcnlkejaaGreatDoor
open Go.RowKit

theorem defCs_at : ∀ (d : List Df) (i : Nat) (q : Df), d[i]? = some q → (defCs d)[i * 3]? = some (strV q.1) ∧ (defCs d)[i * 3 + 1]? = some (strV q.2.1) ∧ (defCs d)[i * 3 + 2]? = some (strV q.2.2)
  | [], i, q, h => by simp at h
  | a :: r, 0, q, h => by
    have e : a = q := by simpa using h
    subst e
    exact ⟨rfl, rfl, rfl⟩
  | a :: r, i + 1, q, h => by
    have := defCs_at r i q (by simpa using h)
    rw [show (i + 1) * 3 = i * 3 + 3 by omega]
    exact this

set_option maxHeartbeats 4000000 in
theorem bdefs_any (d : List Df) (w : World) (v1 v2 : Value) (h1 : w.ownsRow 0 41 3 v1 d.length (defCs d)) (h2 : w.ownsRow 0 41 3 v2 d.length (defCs d)) :
    Calls Tryz.prog 13 #[v1, v2] w fun e w' => e = .returned (.bool true) ∧ ∃ n, w' = w.drewN n := by
  have hmx : d.length ≤ maxLen := by
    rcases h1.2 with ⟨_, q⟩ | ⟨_, _, _, _, _, _, q1, q2, _⟩
    · omega
    · omega
  unfold maxLen at hmx
  obtain ⟨a1, c1, rfl, _⟩ := row_slice h1
  obtain ⟨a2, c2, rfl, _⟩ := row_slice h2
  go_enter Tryz.func13, Tryz.ntmps13
  go_wp2
  go_loopw [5] (fun t wr => ∃ i n : Nat, t = .int .i64 (i : Int) ∧ i ≤ d.length ∧ wr = w.drewN n) (fun t _ => d.length - (intOf t).toNat)
  case atStart => exact ⟨0, 0, rfl, Nat.zero_le _, rfl⟩
  case round =>
    obtain ⟨i, n, rfl, hi, rfl⟩ := hrel
    by_cases hlt : i < d.length
    · have hlt' : (i : Int) < (d.length : Int) := by omega
      obtain ⟨q, hq⟩ : ∃ q, d[i]? = some q := ⟨_, List.getElem?_eq_getElem hlt⟩
      obtain ⟨b0, b1, b2⟩ := defCs_at d i q hq
      obtain ⟨g1, p1, he1, _, f1⟩ := row_at h1 (by omega)
      obtain ⟨g2, p2, he2, _, f2⟩ := row_at h2 (by omega)
      cases he1
      cases he2
      have x0 := fun m : Nat => (show (w.drewN m).cell? ⟨g1, i * 3, none⟩ = _ from f1 _ _ b0)
      have x1 := fun m : Nat => (show (w.drewN m).cell? ⟨g1, i * 3 + 1, none⟩ = _ from f1 _ _ b1)
      have x2 := fun m : Nat => (show (w.drewN m).cell? ⟨g1, i * 3 + 2, none⟩ = _ from f1 _ _ b2)
      have t0 := fun m : Nat => (show (w.drewN m).cell? ⟨g2, i * 3, none⟩ = _ from f2 _ _ b0)
      have t1 := fun m : Nat => (show (w.drewN m).cell? ⟨g2, i * 3 + 1, none⟩ = _ from f2 _ _ b1)
      have t2 := fun m : Nat => (show (w.drewN m).cell? ⟨g2, i * 3 + 2, none⟩ = _ from f2 _ _ b2)
      simp only [strV] at x0 x1 x2 t0 t1 t2
      generalize ByteArray.mk q.1.toArray = Q0 at *
      generalize ByteArray.mk q.2.1.toArray = Q1 at *
      generalize ByteArray.mk q.2.2.toArray = Q2 at *
      clear f1 f2 b0 b1 b2 h1 h2 hq
      go_wp2
      go_quiet (fail)
      go_wp2
      go_roundw
      case rel => exact ⟨i + 1, _, by go_num, by omega, rfl⟩
      case measure => simp [intOf]; omega
    · have hge : ¬ (i : Int) < (d.length : Int) := by omega
      go_wp2
      go_ret
      exact ⟨rfl, _, rfl⟩

end Go.Proofs.YtcbojffcnlkejaaGreatDoor

/- Plain mathematics: lines with which nothing begins. -/
namespace Go.Proofs.YtcbojffcnlkejaaGreatDoor

/-- Bytes with which nothing begins but a text: letters, and an opening bracket. -/
def textB (c : UInt8) : Bool := (decide (97 ≤ c.toNat) && decide (c.toNat ≤ 122)) || c == 91
theorem begin_item {n : Nat} {s : St} {σ : Pl} (h1 : indR σ = 0) (h2 : (nextB σ == 62) = false) (h3 : (headL (beh σ.1)).1 = 0) (h4 : (fenceL (beh σ.1)).2.1 = 0) (h5 : htmlL (beh σ.1) = 0) (h6 : s.isClose = false) (h7 : ruleL (beh σ.1) = false) (h8 : decide (0 < (St.markOf (beh σ.1)).size) = true) (h9 : s.room = true) :
    s.begin htmlL endsX n σ = (0, (s.beginItem n σ (St.markOf (beh σ.1))).1, (s.beginItem n σ (St.markOf (beh σ.1))).2) := by
  unfold St.begin
  simp only
  rw [if_neg (by rw [h1]; omega), if_neg (fun q => by rw [q.1] at h2; cases h2), if_neg (by rw [h3]; omega), if_neg (by rw [h4]; omega), if_neg (by rw [h5]; omega), if_neg (by rw [h6]; simp), if_neg (by rw [h7]; simp), if_pos ⟨of_decide_eq_true h8, h9, .inr h6⟩]
theorem rule_not {b : UInt8} {t : Str} (h : ∃ x ∈ t, x ≠ b ∧ gapB x = false) : ruleL (b :: t) = false := by
  obtain ⟨x, hx, h1, h2⟩ := h
  simp only [ruleL]
  have : ((b :: t).all fun x => x == b || gapB x) = false := by
    rw [List.all_eq_false]
    exact ⟨x, List.mem_cons_of_mem _ hx, by simp [h1, h2]⟩
  rw [this, Bool.and_false]

end Go.Proofs.YtcbojffcnlkejaaGreatDoor
