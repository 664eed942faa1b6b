/- Several texts in one. -/
import Derived.Test.YtkbmblmnhhlicaaGreatDoorV20
set_option linter.unusedVariables false
/- A byte of a record turned: what Open makes of it, over lists. -/
namespace Go.Proofs.YtkbmblmnhhlicaaGreatDoor

/-- A frame of which a byte behind its length is turned does not stand. -/
theorem standL_turned (i : Nat) (b : Rec) (r : List UInt8) (hb : b.length ≤ 8192) (j : Nat) (x : UInt8) (h4 : 4 ≤ j) (hj : j < 8 + b.length) (hx : (frameL i b)[j]? ≠ some x) : standL i ((frameL i b).set j x ++ r) = 0 := by
  have hfl := frameL_length i b
  have hl : ((frameL i b).set j x ++ r).length = 8 + b.length + r.length := by rw [List.length_append, List.length_set, hfl]
  have hA : frameL i b = leN 4 b.length ++ (leN 4 (sumL i b) ++ b) := by unfold frameL; rw [List.append_assoc]
  have ht : ((frameL i b).set j x ++ r).take 4 = leN 4 b.length := by
    rw [List.take_append_of_le_length (by rw [List.length_set, hfl]; omega), List.take_set_of_le h4, hA, List.take_left' (leN_length _ _)]
  have hd4 : ((frameL i b).set j x ++ r).drop 4 = (leN 4 (sumL i b) ++ b).set (j - 4) x ++ r := by
    rw [List.drop_append_of_le_length (by rw [List.length_set, hfl]; omega), List.drop_set, if_neg (by omega), hA, List.drop_left' (leN_length _ _)]
  have hget : (frameL i b)[j]? = (leN 4 (sumL i b) ++ b)[j - 4]? := by rw [hA, List.getElem?_append_right (by rw [leN_length]; omega), leN_length]
  rw [hget] at hx
  unfold standL
  rw [hl, if_neg (by omega), ht, ofLe_leN 4 b.length (by show _ < 4294967296; omega), if_neg (by omega)]
  have hd8 : ((frameL i b).set j x ++ r).drop 8 = (((leN 4 (sumL i b) ++ b).set (j - 4) x).drop 4) ++ r := by
    have : ((frameL i b).set j x ++ r).drop 8 = (((frameL i b).set j x ++ r).drop 4).drop 4 := by rw [List.drop_drop]
    rw [this, hd4, List.drop_append_of_le_length (by simp [leN_length])]
  rw [hd8, hd4]
  have hlen4 : ((leN 4 (sumL i b) ++ b).set (j - 4) x).length = 4 + b.length := by simp [leN_length]
  rw [List.take_append_of_le_length (by rw [hlen4]; omega), List.take_append_of_le_length (by rw [List.length_drop, hlen4]; omega)]
  by_cases hc : j < 8
  · have e1 : ((leN 4 (sumL i b) ++ b).set (j - 4) x).take 4 = (leN 4 (sumL i b)).set (j - 4) x := by
      rw [List.set_append_left _ _ (by rw [leN_length]; omega), List.take_left' (by simp [leN_length])]
    have e2 : (((leN 4 (sumL i b) ++ b).set (j - 4) x).drop 4).take b.length = b := by
      rw [List.set_append_left _ _ (by rw [leN_length]; omega), List.drop_left' (by simp [leN_length]), List.take_length]
    rw [e1, e2, if_neg]
    intro e
    have e3 : ofLe ((leN 4 (sumL i b)).set (j - 4) x) = ofLe (leN 4 (sumL i b)) := by rw [e, ofLe_leN 4 _ (by show _ < 4294967296; exact sumL_lt i b)]
    have e4 := ofLe_inj (by simp) e3
    rw [List.getElem?_append_left (by rw [leN_length]; omega)] at hx
    apply hx
    rw [← e4, List.getElem?_set_self (by rw [leN_length]; omega)]
  · have e1 : ((leN 4 (sumL i b) ++ b).set (j - 4) x).take 4 = leN 4 (sumL i b) := by
      rw [List.take_set_of_le (by omega), List.take_left' (leN_length _ _)]
    have e2 : (((leN 4 (sumL i b) ++ b).set (j - 4) x).drop 4).take b.length = b.set (j - 8) x := by
      rw [List.set_append_right _ _ (by rw [leN_length]; omega), List.drop_left' (leN_length _ _), leN_length, List.take_of_length_le (by simp), show j - 4 - 4 = j - 8 by omega]
    rw [e1, e2, ofLe_leN 4 _ (by show _ < 4294967296; exact sumL_lt i b), if_neg]
    intro e
    rw [List.getElem?_append_right (by rw [leN_length]; omega), leN_length, show j - 4 - 4 = j - 8 by omega] at hx
    have hk : j - 8 < b.length := by omega
    have hbs : b = b.take (j - 8) ++ b[j - 8] :: b.drop (j - 8 + 1) := by
      rw [← List.drop_eq_getElem_cons hk, List.take_append_drop]
    have hset : b.set (j - 8) x = b.take (j - 8) ++ x :: b.drop (j - 8 + 1) := by
      rw [List.set_eq_take_append_cons_drop, if_pos hk]
    unfold sumL at e
    rw [hset] at e
    conv at e => lhs; rw [hbs]
    rw [← List.append_assoc, ← List.append_assoc] at e
    have := crcL_turn _ _ _ _ e
    apply hx
    rw [List.getElem?_eq_getElem hk, this]

/-- A byte of a segment turned. -/
theorem read_turned (i : Nat) (r : Recs) (k : Nat) (b : Rec) (hs : Small r) (hk : r[k]? = some b) (j : Nat) (x : UInt8) (h4 : 4 ≤ j) (hj : j < 8 + b.length) (hx : (framesL i r)[bulk (r.take k) + j]? ≠ some x) :
    readSg i ((framesL i r).set (bulk (r.take k) + j) x) = sgOf i (r.take k) := by
  have hkl := (List.getElem?_eq_some_iff.1 hk).1
  have e1 : r.take (k + 1) = r.take k ++ [b] := by rw [List.take_add_one, hk]; rfl
  have e2 : r = r.take k ++ b :: r.drop (k + 1) := by
    have := List.take_append_drop (k + 1) r
    rw [e1, List.append_assoc] at this
    exact this.symm
  have hlen : (r.take k).length = k := by rw [List.length_take]; omega
  have e3 : framesL i r = framesL i (r.take k) ++ (frameL (i + k) b ++ framesL (i + k + 1) (r.drop (k + 1))) := by
    conv => lhs; rw [e2]
    rw [framesL_append, framesL, hlen]
  have hb : b.length ≤ 8192 := hs b (List.mem_of_getElem? hk)
  have hfl := framesL_length i (r.take k)
  rw [e3] at hx ⊢
  rw [List.getElem?_append_right (by rw [hfl]; omega), hfl, show bulk (r.take k) + j - bulk (r.take k) = j by omega, List.getElem?_append_left (by rw [frameL_length]; omega)] at hx
  rw [List.set_append_right _ _ (by rw [hfl]; omega), hfl, show bulk (r.take k) + j - bulk (r.take k) = j by omega, List.set_append_left _ _ (by rw [frameL_length]; omega)]
  refine read_frames i (r.take k) _ (fun c hc => hs c (List.mem_of_mem_take hc)) ?_
  rw [hlen]
  exact standL_turned (i + k) b _ hb j x h4 hj hx
end Go.Proofs.YtkbmblmnhhlicaaGreatDoor

/- A disk whose power does not fail, file by file; Open of a log of which a byte was turned. -/
namespace Go.Proofs.YtkbmblmnhhlicaaGreatDoor

structure Held (d : Dk) (E : List (Nm × List UInt8)) : Prop where
  ok : DkOk d
  up : d.up = true
  idle : d.ahead < 0
  files : fnB d.files = E
theorem Str.held {d : Dk} {G : Gs} (h : Str d G) : Held d (G.map gFile) := ⟨h.ok, h.up, h.idle, h.files⟩
theorem Held.find {d : Dk} {E : List (Nm × List UInt8)} (h : Held d E) {n : Nm} {bs : List UInt8} (hm : (n, bs) ∈ E) : findV d n = 0 ∧ (theF d n).bs = bs := by
  rw [← h.files] at hm
  obtain ⟨p, hp, he⟩ := List.mem_map.1 hm
  have e1 : p.1 = n := congrArg (·.1) he
  have e2 : p.2.bs = bs := congrArg (·.2) he
  have hg : getA n d.files = some p.2 := by rw [← e1]; exact getA_of_mem h.ok.rises hp
  have hf : findV d n = 0 := by unfold findV; rw [if_pos h.up, hg]; rfl
  refine ⟨hf, ?_⟩
  unfold theF
  rw [if_pos hf, hg]
  exact e2
theorem Held.split {d : Dk} {Ea Eb : List (Nm × List UInt8)} {n : Nm} {bs : List UInt8} (h : Held d (Ea ++ (n, bs) :: Eb)) : ∃ fa f fb, d.files = fa ++ (n, f) :: fb ∧ fnB fa = Ea ∧ f.bs = bs ∧ fnB fb = Eb := by
  obtain ⟨a1, a2, e0, e1, e2⟩ := List.map_eq_append_iff.1 h.files
  rcases a2 with _ | ⟨p, a2⟩
  · cases e2
  · have e3 := List.cons.inj e2
    have h1 : p.1 = n := congrArg (·.1) e3.1
    have h2 : p.2.bs = bs := congrArg (·.2) e3.1
    exact ⟨a1, p.2, a2, by rw [e0, ← h1], e1, h2, e3.2⟩
theorem usedL_fnB (fs : Fls) : usedL fs = ((fnB fs).map fun p => p.2.length).sum := by unfold usedL fnB; rw [List.map_map]; rfl
/-- A file is written anew. -/
theorem Held.put {d : Dk} {Ea Eb : List (Nm × List UInt8)} {n : Nm} {bs bs' : List UInt8} {la : Nat} (h : Held d (Ea ++ (n, bs) :: Eb)) (hl : la ≤ bs'.length) (hu : usedL d.files + bs'.length ≤ d.room + bs.length) (hs : usedL d.files + bs'.length ≤ 140737488355328 + bs.length) : Held { d with files := putA n ⟨bs', la⟩ d.files } (Ea ++ (n, bs') :: Eb) ∧ usedL (putA n ⟨bs', la⟩ d.files) + bs.length = usedL d.files + bs'.length := by
  obtain ⟨fa, f, fb, e0, e1, e2, e3⟩ := h.split
  have hr := h.ok.rises
  have hp : putA n (⟨bs', la⟩ : Fl) d.files = fa ++ (n, ⟨bs', la⟩) :: fb := by
    rw [e0] at hr ⊢
    exact putA_at fa fb hr
  have hg : getA n d.files = some f := getA_of_mem hr (by rw [e0]; simp)
  have hus : usedL (putA n ⟨bs', la⟩ d.files) + bs.length = usedL d.files + bs'.length := by
    have := usedL_put n ⟨bs', la⟩ d.files hr
    rw [hg] at this
    simp only [Option.getD_some, e2] at this
    exact this
  refine ⟨{ ok := { rises := rises_putA hr, lasts := ?_, fits := by show usedL (putA _ _ _) ≤ d.room; omega, room := h.ok.room, ahead := h.ok.ahead, keep := h.ok.keep, few := ?_, small := by show usedL (putA _ _ _) ≤ _; omega }, up := h.up, idle := h.idle, files := ?_ }, hus⟩
  · intro p hp'
    rcases mem_putA.1 hp' with rfl | hp'
    · exact hl
    · exact h.ok.lasts p hp'.1
  · show (putA _ _ _).length ≤ _
    have := h.ok.few
    rw [e0] at this
    rw [hp]
    simpa using this
  · show fnB (putA _ _ _) = _
    rw [hp]
    unfold fnB at e1 e3 ⊢
    rw [List.map_append, List.map_cons, e1, e3]
theorem Held.cut {d : Dk} {Ea Eb : List (Nm × List UInt8)} {n : Nm} {bs : List UInt8} (h : Held d (Ea ++ (n, bs) :: Eb)) (k : Nat) (hk : k ≤ bs.length) : ∃ d', cutP d n (k : Int) = (0, d') ∧ Held d' (Ea ++ (n, bs.take k) :: Eb) ∧ d'.room = d.room ∧ usedL d'.files + bs.length = usedL d.files + k ∧ d'.files.length = d.files.length := by
  obtain ⟨hf, hbs⟩ := h.find (n := n) (bs := bs) (by simp)
  have hus : bs.length ≤ usedL d.files := by rw [← hbs]; exact usedL_get h.ok.rises (findV_get hf)
  have hla : (theF d n).la ≤ bs.length := by rw [← hbs]; exact h.ok.lasts _ (getA_mem (findV_get hf))
  have hlt : (bs.take k).length = k := by rw [List.length_take]; omega
  obtain ⟨h1, h2⟩ := h.put (bs' := bs.take k) (la := min (theF d n).la k) (by rw [hlt]; omega) (by rw [hlt]; have := h.ok.fits; omega) (by have := h.ok.small; rw [hlt]; omega)
  refine ⟨{ d with files := putA n ⟨bs.take k, min (theF d n).la k⟩ d.files }, ?_, h1, rfl, by show usedL (putA _ _ _) + _ = _; rw [h2, hlt], putA_same_length h.ok.rises (findV_get hf)⟩
  have n1 : ¬ d.ahead = 0 := by have := h.idle; omega
  have n2 : ¬ 0 < d.ahead := by have := h.idle; omega
  unfold cutP
  rw [if_neg (by rw [hf]; decide), if_neg (by rw [hbs]; omega), if_neg n1, hbs]
  unfold failD doneD
  rw [if_neg n1, if_neg n2, Int.toNat_natCast]
theorem Held.app {d : Dk} {Ea Eb : List (Nm × List UInt8)} {n : Nm} {bs l : List UInt8} (h : Held d (Ea ++ (n, bs) :: Eb)) (hm : mayN n = true) (hr : usedL d.files + l.length ≤ d.room) (hs : usedL d.files + l.length ≤ 1099511627776) : ∃ d', appendP d n l = (0, d') ∧ Held d' (Ea ++ (n, bs ++ l) :: Eb) ∧ d'.room = d.room ∧ usedL d'.files = usedL d.files + l.length ∧ d'.files.length = d.files.length := by
  obtain ⟨hf, hbs⟩ := h.find (n := n) (bs := bs) (by simp)
  have hold : oldF d n = theF d n := by unfold oldF; rw [findV_get hf]; rfl
  have hla : (theF d n).la ≤ bs.length := by rw [← hbs]; exact h.ok.lasts _ (getA_mem (findV_get hf))
  have hb2 : bs.length ≤ usedL d.files := by rw [← hbs]; exact usedL_get h.ok.rises (findV_get hf)
  obtain ⟨h1, h2⟩ := h.put (bs' := bs ++ l) (la := (theF d n).la) (by rw [List.length_append]; omega) (by rw [List.length_append]; omega) (by rw [List.length_append]; omega)
  refine ⟨addD d n l, append_idle h.up hm hr h.idle, ?_, rfl, ?_, ?_⟩
  · unfold addD
    rw [hold, hbs]
    exact h1
  · show usedL (putA _ _ _) = _
    rw [hold, hbs]
    rw [List.length_append] at h2
    omega
  · exact putA_same_length h.ok.rises (findV_get hf)
theorem Held.sync {d : Dk} {Ea Eb : List (Nm × List UInt8)} {n : Nm} {bs : List UInt8} (h : Held d (Ea ++ (n, bs) :: Eb)) : ∃ d', syncP d n = (0, d') ∧ Held d' (Ea ++ (n, bs) :: Eb) ∧ d'.room = d.room := by
  obtain ⟨hf, hbs⟩ := h.find (n := n) (bs := bs) (by simp)
  have hb2 : bs.length ≤ usedL d.files := by rw [← hbs]; exact usedL_get h.ok.rises (findV_get hf)
  obtain ⟨h1, h2⟩ := h.put (bs' := bs) (la := bs.length) (Nat.le_refl _) (by have := h.ok.fits; omega) (by have := h.ok.small; omega)
  refine ⟨_, sync_idle hf h.idle, ?_, rfl⟩
  rw [hbs]
  exact h1

theorem loadP_pre {d : Dk} {E : List (Nm × List UInt8)} (h : Held d E) : ∀ (A P : Gs) (ns : List Nat), ChainG (P ++ A) → (∀ g ∈ A, gFile g ∈ E ∧ Small g.2 ∧ g.1 + g.2.length ≤ 1000000) → loadP d (A.map (·.1) ++ ns) false (P.map gSg) = loadP d ns false ((P ++ A).map gSg)
  | [], P, ns, _, _ => by simp
  | g :: r, P, ns, hc, hA => by
    obtain ⟨h1, h2, h3⟩ := hA g List.mem_cons_self
    obtain ⟨hfv, hbs⟩ := h.find h1
    have hrd : readSg g.1 (theF d (nameL g.1)).bs = gSg g := by rw [hbs, read_whole _ _ h2]; rfl
    rw [List.map_cons, List.cons_append, loadP, if_neg, if_neg (by rw [hfv]; simp), hrd, if_neg (by rw [gSg_next]; omega), hbs, gSg_size, framesL_length]
    · rw [show decide (bulk g.2 < bulk g.2) = false by simp]
      have := loadP_pre h r (P ++ [g]) ns (by simpa using hc) (fun x hx => hA x (List.mem_cons_of_mem _ hx))
      rw [List.map_append] at this
      rw [List.append_assoc] at this
      exact this
    · rw [Bool.false_or]
      rcases List.eq_nil_or_concat P with hP | ⟨P', a, hP⟩
      · rw [hP]; simp
      · rw [List.concat_eq_append] at hP
        rw [hP, List.append_assoc] at hc
        have := (ChainG.last (a := P') (g := a) (h := g) (r := r) (by simpa using hc)).1
        rw [hP, lastS_gs, gSg_next, this]
        simp

/-- Open, where a segment reads shorter than it is. -/
theorem open_torn {d : Dk} {A B : Gs} {g : Nat × Recs} {s : List UInt8} {k : Nat} (h : Held d (A.map gFile ++ (nameL g.1, s) :: B.map gFile)) (hc : ChainG (A ++ g :: B)) (hA : ∀ x ∈ A, Small x.2 ∧ x.1 + x.2.length ≤ 1000000) (hlt : ∀ x ∈ A ++ g :: B, 1 ≤ x.1 ∧ x.1 < 1000000) (hk : g.1 + k ≤ 1000000) (hkl : k ≤ g.2.length) (hrd : readSg g.1 s = sgOf g.1 (g.2.take k)) (hsh : bulk (g.2.take k) < s.length) :
    (B ≠ [] → ∃ L, openP d = (16, d, L)) ∧ (B = [] → ∃ d', openP d = (0, d', A.map gSg ++ [sgOf g.1 (g.2.take k)])) := by
  have hnames : d.files.map (·.1) = (A ++ g :: B).map fun x => nameL x.1 := by
    have := congrArg (List.map (·.1)) h.files
    simpa [fnB, List.map_map, gFile, Function.comp_def] using this
  have hnums : numsOf d = (A ++ g :: B).map (·.1) := by
    unfold numsOf
    rw [if_pos h.up, hnames]
    exact segNums_names _ hlt
  obtain ⟨hfv, hbs⟩ := h.find (n := nameL g.1) (bs := s) (by simp)
  have htk : (g.2.take k).length = k := by rw [List.length_take]; omega
  have hnx : (sgOf g.1 (g.2.take k)).next = g.1 + k := by rw [sgOf_next, htk]
  have hld : loadP d (numsOf d) false [] = loadP d (B.map (·.1)) true (A.map gSg ++ [sgOf g.1 (g.2.take k)]) := by
    rw [hnums, List.map_append, List.map_cons]
    have hcA : ChainG ([] ++ A) := by
      have : ∀ (A : Gs) (x : Nat × Recs) (B : Gs), ChainG (A ++ x :: B) → ChainG A := by
        intro A
        induction A with
        | nil => intro x B _; trivial
        | cons y A ih =>
          intro x B hc
          cases A with
          | nil => trivial
          | cons z A => exact ⟨hc.1, hc.2.1, ih x B hc.2.2⟩
      exact this A g B hc
    have := loadP_pre h A [] (g.1 :: B.map (·.1)) hcA (fun x hx => ⟨by simp [List.mem_map_of_mem hx], (hA x hx).1, (hA x hx).2⟩)
    rw [List.map_nil] at this
    rw [this, List.nil_append, loadP, if_neg, if_neg (by rw [hfv]; simp), hbs, hrd, if_neg (by rw [hnx]; omega), sgOf_size, show decide (bulk (g.2.take k) < s.length) = true by simpa using hsh]
    rw [Bool.false_or]
    rcases List.eq_nil_or_concat A with hP | ⟨P', a, hP⟩
    · rw [hP]; simp
    · rw [List.concat_eq_append] at hP
      rw [hP, List.append_assoc] at hc
      have := (ChainG.last (a := P') (g := a) (h := g) (r := B) (by simpa using hc)).1
      rw [hP, lastS_gs, gSg_next, this]
      simp
  refine ⟨fun hB => ?_, fun hB => ?_⟩
  · rcases B with _ | ⟨y, B⟩
    · exact absurd rfl hB
    · refine ⟨A.map gSg ++ [sgOf g.1 (g.2.take k)], ?_⟩
      rw [openP_eq, hld, if_neg (by rw [hnums]; simp), List.map_cons, loadP, if_pos (by simp), if_pos (by simp)]
  · subst hB
    rw [openP_eq, hld, if_neg (by rw [hnums]; simp), List.map_nil, loadP, if_neg (by simp)]
    unfold openF
    rw [if_pos rfl, lastS_snoc]
    have hn : (sgOf g.1 (g.2.take k)).num = g.1 := rfl
    rw [hn, sgOf_size]
    obtain ⟨d1, c1, c2, _⟩ := h.cut (bulk (g.2.take k)) (by omega)
    rw [c1, if_neg (by simp)]
    obtain ⟨d2, s1, _⟩ := c2.sync
    exact ⟨d2, by rw [s1]⟩
end Go.Proofs.YtkbmblmnhhlicaaGreatDoor
