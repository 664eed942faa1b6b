/- Several texts in one. -/
import Derived.Test.YtkbmblmnhhlicaaGreatDoorV18
import Derived.Test.YtkbmblmnhhlicaaGreatDoorVDrop
set_option linter.unusedVariables false
/- A log on a disk whose power does not fail: Append, Open, Drop, the records. -/
namespace Go.Proofs.YtkbmblmnhhlicaaGreatDoor

theorem sync_ok {d : Dk} (h : DkOk d) {n : Nm} (hf : findV d n = 0) (ha : d.ahead < 0) : DkOk (syncP d n).2 := by
  have hg := findV_get hf
  have hu := sync_used h n
  rw [sync_idle hf ha] at hu ⊢
  refine { rises := rises_putA h.rises, lasts := ?_, fits := Nat.le_trans hu.1 h.fits, room := h.room, ahead := h.ahead, keep := h.keep, few := by rw [hu.2]; exact h.few, small := Nat.le_trans hu.1 h.small }
  intro p hp
  rcases mem_putA.1 hp with rfl | hp
  · exact Nat.le_refl _
  · exact h.lasts p hp.1
theorem add_ok {d : Dk} (h : DkOk d) {n : Nm} {l : List UInt8} (hr : usedL d.files + l.length ≤ d.room) (hs : usedL d.files + l.length ≤ 1099511627776) (hf : d.files.length + 1 ≤ 1048576) : DkOk (addD d n l) ∧ usedL (addD d n l).files = usedL d.files + l.length := by
  have hu := usedL_put n ⟨(oldF d n).bs ++ l, (oldF d n).la⟩ d.files h.rises
  simp only [List.length_append] at hu
  have hu2 : usedL (addD d n l).files = usedL d.files + l.length := by
    show usedL (putA _ _ _) = _
    unfold oldF at hu ⊢
    omega
  refine ⟨{ rises := rises_putA h.rises, lasts := ?_, fits := by rw [hu2]; exact hr, room := h.room, ahead := h.ahead, keep := h.keep, few := Nat.le_trans (putA_length _ _ _) hf, small := by rw [hu2]; omega }, hu2⟩
  intro p hp
  rcases mem_putA.1 hp with rfl | hp
  · show (oldF d n).la ≤ ((oldF d n).bs ++ l).length
    rw [List.length_append]
    unfold oldF
    cases hg : getA n d.files with
    | none => simp
    | some f =>
      have := h.lasts _ (getA_mem hg)
      simp only [Option.getD_some] at this ⊢
      omega
  · exact h.lasts p hp.1

def addG (G : Gs) (g : Nat × Recs) (l : Rec) : Gs := if 2048 ≤ bulk g.2 then G ++ [g] ++ [(g.1 + g.2.length, [l])] else G ++ [(g.1, g.2 ++ [l])]
theorem gSg_next (g : Nat × Recs) : (gSg g).next = g.1 + g.2.length := sgOf_next _ _
theorem gSg_size (g : Nat × Recs) : (gSg g).size = bulk g.2 := sgOf_size _ _
theorem lastS_gs (G : Gs) (g : Nat × Recs) : lastS ((G ++ [g]).map gSg) = gSg g := by rw [List.map_append]; exact lastS_snoc _ _

/-- The frame goes into the last segment. -/
theorem Str.add {d : Dk} {G : Gs} {g : Nat × Recs} {l : Rec} (h : Str d (G ++ [g])) (hl : l.length ≤ 8192) (hn : g.1 + g.2.length ≤ 999999) (hr : usedL d.files + (8 + l.length) ≤ d.room) (hs : usedL d.files + (8 + l.length) ≤ 1099511627776) (hf : d.files.length + 1 ≤ 1048576) :
    appendP d (nameL g.1) (frameL (g.1 + g.2.length) l) = (0, addD d (nameL g.1) (frameL (g.1 + g.2.length) l)) ∧ Str (addD d (nameL g.1) (frameL (g.1 + g.2.length) l)) (G ++ [(g.1, g.2 ++ [l])]) := by
  have hfl := frameL_length (g.1 + g.2.length) l
  refine ⟨append_idle h.up (mayN_name _) (by rw [hfl]; exact hr) h.idle, ?_⟩
  obtain ⟨fs, f, e1, e2, e3⟩ := h.split
  have hold : oldF d (nameL g.1) = f := by
    obtain ⟨f', h1, h2⟩ := h.get (g := g) (by simp)
    have h3 : getA (nameL g.1) d.files = some f := by
      refine getA_of_mem h.ok.rises ?_
      rw [e1]; simp
    unfold oldF
    rw [h3]; rfl
  have hp : (addD d (nameL g.1) (frameL (g.1 + g.2.length) l)).files = fs ++ [(nameL g.1, ⟨f.bs ++ frameL (g.1 + g.2.length) l, f.la⟩)] := by
    show putA _ _ _ = _
    rw [hold]
    have hr := h.ok.rises
    rw [e1] at hr ⊢
    exact putA_at fs [] hr
  refine { ok := (add_ok h.ok (by rw [hfl]; exact hr) (by rw [hfl]; exact hs) hf).1, up := h.up, idle := h.idle, files := ?_, chain := h.chain.more rfl, ne := by simp, small := ?_, num := ?_ }
  · rw [hp, List.map_append, ← e2]
    unfold fnB
    rw [List.map_append]
    simp only [List.map_cons, List.map_nil, gFile, e3, framesL_append, framesL, List.append_nil]
  · intro x hx
    rcases List.mem_append.1 hx with hx | hx
    · exact h.small x (by simp [hx])
    · rw [List.mem_singleton.1 hx]
      intro b hb
      rcases List.mem_append.1 hb with hb | hb
      · exact h.small g (by simp) b hb
      · rw [List.mem_singleton.1 hb]; exact hl
  · intro x hx
    rcases List.mem_append.1 hx with hx | hx
    · exact h.num x (by simp [hx])
    · rw [List.mem_singleton.1 hx]
      have := h.num g (by simp)
      simp only [List.length_append, List.length_cons, List.length_nil]
      omega
/-- .. or into a new one. -/
theorem Str.addNew {d : Dk} {G : Gs} {g : Nat × Recs} {l : Rec} (h : Str d (G ++ [g])) (hg : g.2 ≠ []) (hl : l.length ≤ 8192) (hn : g.1 + g.2.length ≤ 999999) (hr : usedL d.files + (8 + l.length) ≤ d.room) (hs : usedL d.files + (8 + l.length) ≤ 1099511627776) (hf : d.files.length + 1 ≤ 1048576) :
    appendP d (nameL (g.1 + g.2.length)) (frameL (g.1 + g.2.length) l) = (0, addD d (nameL (g.1 + g.2.length)) (frameL (g.1 + g.2.length) l)) ∧ Str (addD d (nameL (g.1 + g.2.length)) (frameL (g.1 + g.2.length) l)) (G ++ [g] ++ [(g.1 + g.2.length, [l])]) := by
  have hfl := frameL_length (g.1 + g.2.length) l
  refine ⟨append_idle h.up (mayN_name _) (by rw [hfl]; exact hr) h.idle, ?_⟩
  have hch : ChainG (G ++ [g] ++ [(g.1 + g.2.length, [l])]) := h.chain.snoc hg rfl
  have hbef : ∀ p ∈ d.files, bytesBefore p.1 (nameL (g.1 + g.2.length)) = true := by
    intro p hp
    have hm : p.1 ∈ d.files.map (·.1) := List.mem_map_of_mem hp
    rw [h.names] at hm
    obtain ⟨x, hx, he⟩ := List.mem_map.1 hm
    rw [← he]
    have hr2 := (List.pairwise_append.1 hch.rise).2.2 x hx (g.1 + g.2.length, [l]) (by simp)
    exact name_before hr2 (by omega)
  have hold : oldF d (nameL (g.1 + g.2.length)) = ⟨[], 0⟩ := by
    unfold oldF
    cases hg2 : getA (nameL (g.1 + g.2.length)) d.files with
    | none => rfl
    | some f =>
      have := hbef _ (getA_mem hg2)
      rw [bb_irrefl] at this; cases this
  have hp : (addD d (nameL (g.1 + g.2.length)) (frameL (g.1 + g.2.length) l)).files = d.files ++ [(nameL (g.1 + g.2.length), ⟨frameL (g.1 + g.2.length) l, 0⟩)] := by
    show putA _ _ _ = _
    rw [hold]
    exact putA_end hbef
  refine { ok := (add_ok h.ok (by rw [hfl]; exact hr) (by rw [hfl]; exact hs) hf).1, up := h.up, idle := h.idle, files := ?_, chain := hch, ne := by simp, small := ?_, num := ?_ }
  · rw [hp, List.map_append, ← h.files]
    unfold fnB
    rw [List.map_append]
    simp only [List.map_cons, List.map_nil, gFile, framesL, List.append_nil]
  · intro x hx
    rcases List.mem_append.1 hx with hx | hx
    · exact h.small x hx
    · rw [List.mem_singleton.1 hx]
      intro b hb
      rw [List.mem_singleton.1 hb]; exact hl
  · intro x hx
    rcases List.mem_append.1 hx with hx | hx
    · exact h.num x hx
    · rw [List.mem_singleton.1 hx]
      have := h.num g (by simp)
      simp only [List.length_cons, List.length_nil]
      omega
theorem bulk_pos {r : Recs} (h : 2048 ≤ bulk r) : r ≠ [] := by
  intro e
  rw [e] at h
  simp [bulk] at h
theorem places_snoc (r : Recs) (l : Rec) : 0 :: placesL 0 (r ++ [l]) = (0 :: placesL 0 r) ++ [bulk r + (8 + l.length)] := by
  rw [placesL_append]
  simp [placesL]
theorem Str.app {d : Dk} {G : Gs} {g : Nat × Recs} {l : Rec} (h : Str d (G ++ [g])) (hl : l.length ≤ 8192) (hn : g.1 + g.2.length ≤ 999999) (hr : usedL d.files + (8 + l.length) ≤ d.room) (hs : usedL d.files + (8 + l.length) ≤ 1099511627776) (hf : d.files.length + 1 ≤ 1048576) :
    ∃ d', wappP d ((G ++ [g]).map gSg) l = (0, d', (addG G g l).map gSg) ∧ Str d' (addG G g l) ∧ d'.room = d.room := by
  unfold wappP
  rw [lastS_gs, gSg_next, gSg_size, if_neg (by omega), if_neg (by omega)]
  have hnum : (gSg g).num = g.1 := rfl
  rw [hnum]
  by_cases hb : 2048 ≤ bulk g.2
  · rw [if_pos hb]
    obtain ⟨hfv, _⟩ := h.find (g := g) (by simp)
    obtain ⟨s1, s2, s3⟩ := h.sync (sync_ok h.ok hfv h.idle)
    have hu := sync_used h.ok (nameL g.1)
    obtain ⟨a1, a2⟩ := s2.addNew (bulk_pos hb) hl hn (by rw [s3]; omega) (by omega) (by omega)
    rw [if_neg (by rw [s1]; simp), a1]
    refine ⟨addD (syncP d (nameL g.1)).2 (nameL (g.1 + g.2.length)) (frameL (g.1 + g.2.length) l), ?_, by unfold addG; rw [if_pos hb]; exact a2, s3⟩
    simp only [ne_eq, not_true_eq_false, if_false]
    unfold addG
    rw [if_pos hb, List.map_append]
    simp [gSg, sgOf, placesL]
  · rw [if_neg hb]
    obtain ⟨a1, a2⟩ := h.add hl hn hr hs hf
    rw [a1]
    refine ⟨addD d (nameL g.1) (frameL (g.1 + g.2.length) l), ?_, by unfold addG; rw [if_neg hb]; exact a2, rfl⟩
    simp only [ne_eq, not_true_eq_false, if_false]
    unfold addG
    rw [if_neg hb, List.map_append, List.map_append]
    simp only [List.map_cons, List.map_nil, List.dropLast_concat]
    have hpl : (gSg g).pl = 0 :: placesL 0 g.2 := rfl
    rw [hpl]
    simp only [gSg, sgOf, places_snoc]

theorem segNums_names : ∀ (G : Gs), (∀ g ∈ G, 1 ≤ g.1 ∧ g.1 < 1000000) → segNums (G.map fun g => nameL g.1) = G.map (·.1)
  | [], _ => rfl
  | g :: r, h => by
    have h1 := h g List.mem_cons_self
    have ih := segNums_names r (fun x hx => h x (List.mem_cons_of_mem _ hx))
    unfold segNums at ih ⊢
    rw [List.map_cons, List.map_cons, segNum_name g.1 h1.2, List.filter_cons, if_pos (by simp; omega), ih]
    rfl
end Go.Proofs.YtkbmblmnhhlicaaGreatDoor

/- A log on a disk whose power does not fail: Open, Drop, the records. -/
namespace Go.Proofs.YtkbmblmnhhlicaaGreatDoor

theorem Str.lt {d : Dk} {G : Gs} (h : Str d G) : ∀ g ∈ G, 1 ≤ g.1 ∧ g.1 ≤ 1000000 := fun g hg => by
  have := h.num g hg
  omega
theorem loadP_str {d : Dk} {G : Gs} (h : Str d G) : ∀ (B A : Gs), G = A ++ B → loadP d (B.map (·.1)) false (A.map gSg) = (0, false, G.map gSg)
  | [], A, e => by rw [e, List.append_nil]; rfl
  | g :: r, A, e => by
    have hg : g ∈ G := by rw [e]; simp
    obtain ⟨hfv, hbs⟩ := h.find hg
    have hrd : readSg g.1 (theF d (nameL g.1)).bs = gSg g := by rw [hbs, read_whole _ _ (h.small g hg)]; rfl
    rw [List.map_cons, loadP, if_neg, if_neg (by rw [hfv]; simp), hrd, if_neg (by rw [gSg_next]; have := h.num g hg; omega), hbs, gSg_size, framesL_length]
    · rw [show decide (bulk g.2 < bulk g.2) = false by simp]
      have := loadP_str h r (A ++ [g]) (by rw [e]; simp)
      rwa [List.map_append] at this
    · rw [Bool.false_or]
      rcases List.eq_nil_or_concat A with hA | ⟨A', a, hA⟩
      · rw [hA]; simp
      · rw [List.concat_eq_append] at hA
        have hc := h.chain
        rw [e, hA, List.append_assoc] at hc
        have := (ChainG.last (a := A') (g := a) (h := g) (r := r) (by simpa using hc)).1
        rw [hA, lastS_gs, gSg_next, this]
        simp
theorem Str.nums {d : Dk} {G : Gs} (h : Str d G) (hlt : ∀ g ∈ G, g.1 < 1000000) : numsOf d = G.map (·.1) := by
  unfold numsOf
  rw [if_pos h.up, h.names]
  exact segNums_names G (fun g hg => ⟨(h.num g hg).1, hlt g hg⟩)
theorem Str.open {d : Dk} {G : Gs} (h : Str d G) (hlt : ∀ g ∈ G, g.1 < 1000000) : ∃ d', openP d = (0, d', G.map gSg) ∧ Str d' G ∧ d'.room = d.room := by
  rw [openP_eq, h.nums hlt]
  have hl := loadP_str h G [] rfl
  rw [if_neg (by simp; exact h.ne)]
  have hl2 : loadP d (G.map (·.1)) false [] = (0, false, G.map gSg) := hl
  rw [hl2, if_neg (by simp)]
  unfold openF
  simp only [Bool.false_eq_true, if_false]
  obtain ⟨G', g, hG⟩ : ∃ G' g, G = G' ++ [g] := ⟨G.dropLast, G.getLast h.ne, (List.dropLast_concat_getLast h.ne).symm⟩
  subst hG
  rw [lastS_gs]
  obtain ⟨hfv, _⟩ := h.find (g := g) (by simp)
  obtain ⟨s1, s2, s3⟩ := h.sync (sync_ok h.ok hfv h.idle)
  refine ⟨(syncP d (nameL g.1)).2, ?_, s2, s3⟩
  show ((syncP d (nameL g.1)).1, (syncP d (nameL g.1)).2, _) = _
  rw [s1]

/-- Segments that are dropped. -/
def dropGs : Gs → Int → Gs
  | g :: h :: r, i => if (h.1 : Int) ≤ i then dropGs (h :: r) i else g :: h :: r
  | [], _ => []
  | [g], _ => [g]
theorem remove_idle {d : Dk} {n : Nm} (hf : findV d n = 0) (ha : d.ahead < 0) : removeP d n = (0, { d with files := delA n d.files }) := by
  have h1 : ¬ d.ahead = 0 := by omega
  have h2 : ¬ 0 < d.ahead := by omega
  unfold removeP
  rw [if_neg (by rw [hf]; decide), if_neg h1]
  unfold failD doneD
  rw [if_neg h1, if_neg h2]
theorem Str.removeFirst {d : Dk} {g h0 : Nat × Recs} {r : Gs} (h : Str d (g :: h0 :: r)) : removeP d (nameL g.1) = (0, { d with files := delA (nameL g.1) d.files }) ∧ Str { d with files := delA (nameL g.1) d.files } (h0 :: r) := by
  obtain ⟨hfv, _⟩ := h.find (g := g) (by simp)
  refine ⟨remove_idle hfv h.idle, ?_⟩
  have hf := h.files
  obtain ⟨p, fs, hfs⟩ : ∃ p fs, d.files = p :: fs := by
    cases hd : d.files with
    | nil => rw [hd] at hf; cases hf
    | cons p fs => exact ⟨p, fs, rfl⟩
  have hp : p.1 = nameL g.1 := by
    rw [hfs] at hf
    exact congrArg (·.1) (List.cons.inj hf).1
  have hrest : fnB fs = (h0 :: r).map gFile := by
    rw [hfs] at hf
    exact (List.cons.inj hf).2
  have hdel : delA (nameL g.1) d.files = fs := by
    have hr := h.ok.rises
    rw [hfs] at hr ⊢
    have h2 := List.pairwise_cons.1 hr
    have : delA (nameL g.1) fs = fs := delA_none (fun q hq e => by
      have := h2.1 q hq
      rw [e, hp, bb_irrefl] at this; cases this)
    unfold delA at this ⊢
    rw [List.filter_cons, this]
    simp [hp]
  have hsub : ∀ x ∈ fs, x ∈ d.files := fun x hx => by rw [hfs]; exact List.mem_cons_of_mem _ hx
  have hus : usedL fs ≤ usedL d.files := by rw [hfs, usedL_cons]; omega
  refine { ok := { rises := rises_delA h.ok.rises, lasts := fun x hx => h.ok.lasts x (hsub x (by rw [← hdel]; exact hx)), fits := by show usedL (delA _ _) ≤ d.room; rw [hdel]; exact Nat.le_trans hus h.ok.fits, room := h.ok.room, ahead := h.ok.ahead, keep := h.ok.keep, few := by show (delA _ _).length ≤ _; rw [hdel]; have := h.ok.few; rw [hfs] at this; simp at this; omega, small := by show usedL (delA _ _) ≤ _; rw [hdel]; exact Nat.le_trans hus h.ok.small }, up := h.up, idle := h.idle, files := by show fnB (delA _ _) = _; rw [hdel]; exact hrest, chain := h.chain.tail, ne := by simp, small := fun x hx => h.small x (List.mem_cons_of_mem _ hx), num := fun x hx => h.num x (List.mem_cons_of_mem _ hx) }
theorem Str.drop : ∀ {G : Gs} {d : Dk} (h : Str d G) (i : Int), ∃ d', dropP d (G.map gSg) i = (0, d', (dropGs G i).map gSg) ∧ Str d' (dropGs G i) ∧ d'.room = d.room
  | [], d, h, i => absurd rfl h.ne
  | [g], d, h, i => ⟨d, rfl, h, rfl⟩
  | g :: h0 :: r, d, h, i => by
    rw [List.map_cons, List.map_cons, dropP, dropGs]
    by_cases hle : (h0.1 : Int) ≤ i
    · rw [if_pos (show ((gSg h0).num : Int) ≤ i from hle), if_pos hle]
      obtain ⟨e1, e2⟩ := h.removeFirst
      rw [show (gSg g).num = g.1 from rfl, e1, if_neg (by simp)]
      obtain ⟨d', h1, h2, h3⟩ := e2.drop i
      exact ⟨d', h1, h2, h3⟩
    · rw [if_neg (show ¬ ((gSg h0).num : Int) ≤ i from hle), if_neg hle]
      exact ⟨d, rfl, h, rfl⟩

/-! ### records -/
def allR (G : Gs) : Recs := G.flatMap (·.2)
theorem allR_cons (g : Nat × Recs) (r : Gs) : allR (g :: r) = g.2 ++ allR r := by simp [allR]
def headN (G : Gs) : Nat := (G.headD (1, [])).1
theorem chain_next : ∀ {G : Gs} {g : Nat × Recs}, ChainG (G ++ [g]) → headN (G ++ [g]) + (allR (G ++ [g])).length = g.1 + g.2.length
  | [], g, _ => by simp [headN, allR]
  | [x], g, h => by
    have := h.1
    simp [headN, allR] at this ⊢
    omega
  | x :: y :: G, g, h => by
    have ih := chain_next (G := y :: G) (g := g) h.2.2
    have h1 := h.1
    simp only [List.cons_append] at ih ⊢
    rw [allR_cons, List.length_append]
    simp only [headN, List.headD_cons] at ih ⊢
    omega
theorem uptoL_cons (s : Sg) (L : List Sg) (i : Nat) : uptoL (s :: L) i = (if s.num ≤ i then 1 else 0) + uptoL L i := by
  unfold uptoL
  by_cases h : s.num ≤ i
  · rw [List.filter_cons_of_pos (by simpa using h), if_pos h, List.length_cons]; omega
  · rw [List.filter_cons_of_neg (by simpa using h), if_neg h]; omega
theorem uptoL_none {L : List Sg} {i : Nat} (h : ∀ s ∈ L, i < s.num) : uptoL L i = 0 := by
  unfold uptoL
  rw [List.filter_eq_nil_iff.2 (fun s hs => by have := h s hs; simp; omega)]
  rfl
theorem chain_at : ∀ {G : Gs} (h : ChainG G) (i : Nat), G ≠ [] → headN G ≤ i → i < headN G + (allR G).length → ∃ J g, G[J]? = some g ∧ g.1 ≤ i ∧ i < g.1 + g.2.length ∧ uptoL (G.map gSg) i = J + 1 ∧ (allR G)[i - headN G]? = g.2[i - g.1]?
  | [], _, _, hne, _, _ => absurd rfl hne
  | g :: r, h, i, _, h0, h1 => by
    have hh : headN (g :: r) = g.1 := rfl
    rw [hh] at h0 h1 ⊢
    rw [allR_cons] at h1 ⊢
    rw [List.length_append] at h1
    by_cases hi : i < g.1 + g.2.length
    · refine ⟨0, g, rfl, h0, hi, ?_, by rw [List.getElem?_append_left (by omega)]⟩
      rw [List.map_cons, uptoL_cons, if_pos (show (gSg g).num ≤ i from h0), uptoL_none]
      intro s hs
      obtain ⟨x, hx, rfl⟩ := List.mem_map.1 hs
      show i < x.1
      rcases r with _ | ⟨y, r⟩
      · cases hx
      · have h2 := h.1
        rcases List.mem_cons.1 hx with rfl | hx
        · omega
        · have := h.2.2.lt x hx
          omega
    · rcases r with _ | ⟨y, r⟩
      · simp [allR] at h1; omega
      · have h2 := h.1
        obtain ⟨J, x, a1, a2, a3, a4, a5⟩ := chain_at (G := y :: r) h.2.2 i (by simp) (by show y.1 ≤ i; omega) (by show i < y.1 + _; omega)
        refine ⟨J + 1, x, by simpa using a1, a2, a3, ?_, ?_⟩
        · rw [List.map_cons, uptoL_cons, if_pos (show (gSg g).num ≤ i from h0), a4]; omega
        · rw [List.getElem?_append_right (by omega), ← a5]
          congr 1
          show i - g.1 - g.2.length = i - y.1
          omega
theorem frames_at (i : Nat) (r : Recs) (k : Nat) (b : Rec) (h : r[k]? = some b) : bulk (r.take (k + 1)) = bulk (r.take k) + (8 + b.length) ∧ ((framesL i r).drop (bulk (r.take k) + 8)).take b.length = b := by
  have hk := (List.getElem?_eq_some_iff.1 h).1
  have e1 : r.take (k + 1) = r.take k ++ [b] := by rw [List.take_add_one, h]; rfl
  have e2 : r = r.take k ++ b :: r.drop (k + 1) := by
    have := List.take_append_drop (k + 1) r
    rw [e1, List.append_assoc] at this
    exact this.symm
  refine ⟨by rw [e1, bulk_append]; simp [bulk], ?_⟩
  have e3 : framesL i r = framesL i (r.take k) ++ (frameL (i + (r.take k).length) b ++ framesL (i + (r.take k).length + 1) (r.drop (k + 1))) := by
    conv => lhs; rw [e2]
    rw [framesL_append, framesL]
  rw [e3, ← framesL_length i (r.take k), ← List.drop_drop, List.drop_left' rfl]
  unfold frameL
  rw [List.append_assoc, List.drop_left' (by simp [leN_length])]
  exact List.take_left' rfl
end Go.Proofs.YtkbmblmnhhlicaaGreatDoor

/- Logs on a disk whose power does not fail: the calls. -/
namespace Go.Proofs.YtkbmblmnhhlicaaGreatDoor
open Go.RowKit

theorem allR_addG (G : Gs) (g : Nat × Recs) (l : Rec) : allR (addG G g l) = allR (G ++ [g]) ++ [l] := by
  unfold addG
  split <;> simp [allR]
theorem headN_addG (G : Gs) (g : Nat × Recs) (l : Rec) : headN (addG G g l) = headN (G ++ [g]) := by
  unfold addG
  cases G with
  | nil => split <;> rfl
  | cons x G => split <;> rfl
theorem addG_len (G : Gs) (g : Nat × Recs) (l : Rec) : (addG G g l).length ≤ (G ++ [g]).length + 1 := by
  unfold addG
  split <;> simp
theorem bulks_append (A B : Gs) : bulks (A ++ B) = bulks A + bulks B := by unfold bulks; rw [List.map_append, List.sum_append]
theorem bulks_one (g : Nat × Recs) : bulks [g] = bulk g.2 := by simp [bulks]
theorem bulks_addG (G : Gs) (g : Nat × Recs) (l : Rec) : bulks (addG G g l) = bulks (G ++ [g]) + (8 + l.length) := by
  unfold addG
  split
  · rw [bulks_append, bulks_one]; simp [bulk]
  · rw [bulks_append, bulks_append, bulks_one, bulks_one, bulk_append]; simp [bulk]; omega
theorem dropGs_ne : ∀ (G : Gs) (i : Int), G ≠ [] → dropGs G i ≠ []
  | [], _, h => h
  | [g], _, _ => by simp [dropGs]
  | g :: h0 :: r, i, _ => by
    rw [dropGs]
    split
    · exact dropGs_ne (h0 :: r) i (by simp)
    · simp
theorem dropGs_all : ∀ (G : Gs) (i : Int), ChainG G → G ≠ [] → headN G ≤ headN (dropGs G i) ∧ allR (dropGs G i) = (allR G).drop (headN (dropGs G i) - headN G) ∧ headN (dropGs G i) + (allR (dropGs G i)).length = headN G + (allR G).length ∧ ((headN (dropGs G i) : Int) ≤ i ∨ headN (dropGs G i) = headN G)
  | [], _, _, h => absurd rfl h
  | [g], _, _, _ => ⟨Nat.le_refl _, by simp [dropGs], rfl, .inr rfl⟩
  | g :: h0 :: r, i, hc, _ => by
    rw [dropGs]
    split
    · rename_i hle
      obtain ⟨a1, a2, a3, a4⟩ := dropGs_all (h0 :: r) i hc.2.2 (by simp)
      have h1 := hc.1
      have e0 : headN (g :: h0 :: r) = g.1 := rfl
      have e1 : headN (h0 :: r) = h0.1 := rfl
      rw [e1] at a1 a2 a3 a4
      rw [e0]
      refine ⟨by omega, ?_, ?_, ?_⟩
      · have ed : g.2.drop (headN (dropGs (h0 :: r) i) - g.1) = [] := List.drop_of_length_le (by omega)
        rw [a2, allR_cons g, List.drop_append, ed, List.nil_append]
        congr 1
        omega
      · rw [a3, allR_cons g, List.length_append]; omega
      · rcases a4 with a4 | a4
        · exact .inl a4
        · left; rw [a4]; exact hle
    · exact ⟨Nat.le_refl _, by simp, rfl, .inr rfl⟩
theorem dropGs_sub : ∀ (G : Gs) (i : Int), ∀ g ∈ dropGs G i, g ∈ G
  | [], _, _, h => h
  | [g], _, _, h => h
  | g :: h0 :: r, i, x, h => by
    rw [dropGs] at h
    split at h
    · exact List.mem_cons_of_mem _ (dropGs_sub (h0 :: r) i x h)
    · exact h

/-- A new disk and the log that is opened on it. -/
def nd1 : Dk := (openP (newD 1099511627776)).2.1
theorem nd1_e : openP (newD 1099511627776) = (0, nd1, [((1, []) : Nat × Recs)].map gSg) := by kernel_rfl
theorem nd1_s : Str nd1 [(1, [])] ∧ nd1.room = 1099511627776 := by
  have hf : nd1.files = [(nameL 1, ⟨[], 0⟩)] := by kernel_rfl
  have hr : nd1.room = 1099511627776 := by kernel_rfl
  have ha : nd1.ahead = -1 := by kernel_rfl
  have hk : nd1.keep = 0 := by kernel_rfl
  refine ⟨{ ok := { rises := by rw [hf]; exact List.pairwise_singleton _ _, lasts := by intro p hp; rw [hf] at hp; rw [List.mem_singleton.1 hp]; exact Nat.le_refl _, fits := by rw [hf, hr]; show 0 ≤ _; omega, room := by rw [hr]; omega, ahead := by rw [ha]; omega, keep := by rw [hk]; omega, few := by rw [hf]; show 1 ≤ _; omega, small := by rw [hf]; show 0 ≤ _; omega }, up := by kernel_rfl, idle := by rw [ha]; omega, files := by rw [hf]; rfl, chain := trivial, ne := by simp, small := ?_, num := ?_ }, hr⟩
  · intro g hg
    rw [List.mem_singleton.1 hg]
    intro b hb; cases hb
  · intro g hg
    rw [List.mem_singleton.1 hg]
    show 1 ≤ 1 ∧ 1 + 0 ≤ 1000000
    omega

abbrev NoG : Nat → Prop := fun _ => False
theorem LgS.fresh {w0 : World} {b m p : Nat} {d : Dk} {L : List Sg} {w w' : World} (h : LgS w0 b m p d L NoG w) (hb : Below w.heap.size w w') : LgS w0 b m p d L (fun k => w.heap.size ≤ k ∧ k < w'.heap.size) w' :=
  h.own (Fr.of_below _ hb) (fun k hk => hk.elim) (fun k hk => ⟨hk.2, .inr hk.1⟩)
theorem LgS.weak {w0 : World} {b m p : Nat} {d : Dk} {L : List Sg} {G : Nat → Prop} {w : World} (h : LgS w0 b m p d L G w) : LgS w0 b m p d L NoG w := by
  obtain ⟨S, T, vs, q, h1, h2, h3⟩ := h
  exact ⟨S, T, vs, q, h1, h2, fun k hk => hk.elim⟩

/-- A record more; the bytes lie in memory that was just made. -/
theorem strApp {w0 : World} {b m p : Nat} {d : Dk} {G : Gs} {g : Nat × Recs} {w wa : World} (h : LgS w0 b m p d ((G ++ [g]).map gSg) NoG w) (hs : Str d (G ++ [g])) (hb : Below w.heap.size w wa) {a : Option Addr} {n c : Nat} {l : Rec} (ho : OwnB wa w.heap.size (.slice a n c) l) (hln : l.length = n) (hl : n ≤ 8192) (hn : g.1 + g.2.length ≤ 999999) (hr : bulks (G ++ [g]) + 8200 ≤ d.room) (hs2 : bulks (G ++ [g]) + 8200 ≤ 1099511627776) (hf : (G ++ [g]).length + 1 ≤ 1048576) :
    Calls Tryz.prog 17 #[dptr p, .slice a n c] wa fun e w' => ∃ d', e = .returned (.int .i64 0) ∧ LgS w0 b m p d' ((addG G g l).map gSg) NoG w' ∧ Str d' (addG G g l) ∧ d'.room = d.room := by
  obtain ⟨d', e1, e2, e3⟩ := hs.app (l := l) (by omega) hn (by rw [hs.used]; omega) (by rw [hs.used]; omega) (by rw [hs.count]; exact hf)
  have hrow : BRow wa a n c l := by
    have := ho
    subst hln
    exact own_brow ho
  refine (appG (h.fresh hb) (by simp) (fun w' hk _ => brow_keep hrow (fun x hx => hk.2 _ ?_)) (by omega) (by rw [lastS_gs, gSg_next]; omega) (by rw [List.length_map]; exact hf) (by rw [hs.used]; exact hs2) (by rw [hs.count]; exact hf)).mono fun e w' r => ?_
  · have hob : (Value.slice a n c).ownBlock = some x.block := by
      rcases ho.2 with ⟨h1, _⟩ | ⟨g', cap, cur, h1, _⟩
      · have : a = none := congrArg (fun v => match v with | Value.slice a _ _ => a | _ => none) h1
        rw [this] at hx; cases hx
      · have : a = some ⟨g', 0, none⟩ := congrArg (fun v => match v with | Value.slice a _ _ => a | _ => none) h1
        rw [this] at hx ⊢
        cases hx; rfl
    exact ho.lt _ hob
  · rw [e1] at r
    exact ⟨d', r.1, r.2.1.weak, e2, e3⟩
theorem strGet {w0 : World} {b m p : Nat} {d : Dk} {G : Gs} {w : World} (h : LgS w0 b m p d (G.map gSg) NoG w) (hs : Str d G) (i : Nat) (h0 : headN G ≤ i) (h1 : i < headN G + (allR G).length) (hu : bulks G ≤ 1099511627776) :
    Calls Tryz.prog 23 #[dptr p, .int .i64 (i : Int)] w fun e w' => ∃ a c r, (allR G)[i - headN G]? = some r ∧ e = .returned (.tuple #[.slice a r.length c, .int .i64 0]) ∧ BRow w' a r.length c r ∧ Below w.heap.size w w' := by
  obtain ⟨J, g, a1, a2, a3, a4, a5⟩ := chain_at hs.chain i hs.ne h0 h1
  have hg : g ∈ G := List.mem_of_getElem? a1
  obtain ⟨r, hr⟩ : ∃ r, g.2[i - g.1]? = some r := ⟨g.2[i - g.1]'(by omega), List.getElem?_eq_getElem _⟩
  obtain ⟨f1, f2⟩ := hs.find hg
  obtain ⟨e1, e2⟩ := frames_at g.1 g.2 (i - g.1) r hr
  obtain ⟨G', gl, hG⟩ : ∃ G' gl, G = G' ++ [gl] := ⟨G.dropLast, G.getLast hs.ne, (List.dropLast_concat_getLast hs.ne).symm⟩
  obtain ⟨g0, G0, hG0⟩ : ∃ g0 G0, G = g0 :: G0 := by
    cases G with
    | nil => exact absurd rfl hs.ne
    | cons g0 G0 => exact ⟨g0, G0, rfl⟩
  have hnx := hs.chain
  rw [hG] at hnx
  have hnx := chain_next hnx
  rw [← hG] at hnx
  have hh0 : headN G = g0.1 := by rw [hG0]; rfl
  have hpl : (gSg g).pl = 0 :: placesL 0 g.2 := rfl
  have hQ := places_at 0 g.2 (i + 1 - g.1) (by omega)
  have hP := places_at 0 g.2 (i - g.1) (by omega)
  rw [Nat.zero_add] at hP hQ
  rw [show i + 1 - g.1 = i - g.1 + 1 by omega, e1] at hQ
  have hglen := (List.getElem?_eq_some_iff.1 hr).1
  have hb := bulk_take_le g.2 (i - g.1 + 1)
  have hbu : bulk g.2 ≤ bulks G := by
    obtain ⟨A, B, hAB⟩ := List.append_of_mem hg
    rw [hAB, bulks_append, show g :: B = [g] ++ B from rfl, bulks_append, bulks_one]; omega
  have := getG h hs.riseL (s0 := gSg g0) (sl := gSg gl) (L0 := G0.map gSg) (L1 := G'.map gSg) (by rw [hG0]; rfl) (by rw [hG, List.map_append]; rfl) i J (by show g0.1 ≤ i; omega) (by rw [gSg_next]; omega) (by have := hs.num g hg; omega) a4 g.1 (0 :: placesL 0 g.2) (by rw [List.getElem?_map, a1]; rfl) a2 (by rw [List.length_cons, placesL_length]; omega) (bulk (g.2.take (i - g.1))) (bulk (g.2.take (i - g.1)) + (8 + r.length)) hP (by rw [show i + 1 - g.1 = i - g.1 + 1 by omega]; exact hQ) (by omega) (by omega) (by rw [hs.used]; exact hu) f1 (by rw [f2, framesL_length]; omega)
  rw [show bulk (g.2.take (i - g.1)) + (8 + r.length) - (bulk (g.2.take (i - g.1)) + 8) = r.length by omega, f2, e2] at this
  refine this.mono fun e w' q => ?_
  obtain ⟨a, c, q1, q2, q3⟩ := q
  exact ⟨a, c, r, by rw [a5]; exact hr, q1, q2, q3⟩
/-- Opened anew while another log is held on the same disk. -/
theorem strOpen2 {w0 : World} {b m p : Nat} {d : Dk} {G : Gs} {w : World} (h : LgS w0 b m p d (G.map gSg) NoG w) (hs : Str d G) (hlt : ∀ g ∈ G, g.1 < 1000000) (hu : bulks G ≤ 1099511627776) (hf : G.length + 1 ≤ 1048576) :
    Calls Tryz.prog 16 #[dptr b] w fun e w' => ∃ p2 d', e = .returned (.tuple #[dptr p2, .int .i64 0]) ∧ LgS w0 b m p d' (G.map gSg) NoG w' ∧ LgS w0 b m p2 d' (G.map gSg) NoG w' ∧ Str d' G ∧ d'.room = d.room := by
  obtain ⟨d', e1, e2, e3⟩ := hs.open hlt
  obtain ⟨S, T, vs, q, h1, h2, h3⟩ := h
  refine (Open_any h1.lv h1.tb hs.short (by rw [hs.used]; exact hu) (by rw [hs.count]; exact hf)).mono fun e w' r => ?_
  obtain ⟨p2, r1, S', T', vs', q', r2, r3, r4⟩ := r
  rw [e1] at r1 r2 r3
  refine ⟨p2, d', r1, ⟨S', T, vs, q, ⟨r2.lv, h1.lg.keep r4.1.size (fun k hk => r4.1.block k (h1.lg.lt k hk) (fun e => e.elim (h1.ap k hk) id)), h1.ge, fun k hk hS => ?_, h1.tb⟩, h2, fun k hk => hk.elim⟩, ⟨S', T', vs', q', r2, r3, fun k hk => hk.elim⟩, e2, e3⟩
  rcases r4.2 k (.inl hS) with e | e
  · exact e.elim (h1.ap k hk) id
  · have := h1.lg.lt k hk; omega
theorem strDrop {w0 : World} {b m p : Nat} {d : Dk} {G : Gs} {w : World} (h : LgS w0 b m p d (G.map gSg) NoG w) (hs : Str d G) (i : Int) : Calls Tryz.prog 20 #[dptr p, .int .i64 i] w fun e w' => ∃ d', e = .returned (.int .i64 0) ∧ LgS w0 b m p d' ((dropGs G i).map gSg) NoG w' ∧ Str d' (dropGs G i) ∧ d'.room = d.room := by
  obtain ⟨d', e1, e2, e3⟩ := hs.drop i
  refine (dropG h (by simp; exact hs.ne) i).mono fun e w' r => ?_
  rw [e1] at r
  exact ⟨d', r.1, r.2.1, e2, e3⟩
end Go.Proofs.YtkbmblmnhhlicaaGreatDoor
