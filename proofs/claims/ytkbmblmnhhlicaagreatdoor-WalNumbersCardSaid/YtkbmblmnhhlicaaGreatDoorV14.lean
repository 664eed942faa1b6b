/- Several texts in one. -/
import Derived.Test.YtkbmblmnhhlicaaGreatDoorV20
import Derived.Test.YtkbmblmnhhlicaaGreatDoorVRem
set_option linter.unusedVariables false
/- A log on a disk whose power does not fail: what Cut and Reset make of it, over lists. -/
namespace Go.Proofs.YtkbmblmnhhlicaaGreatDoor

/-- What cutLast answers, the disk and the segments behind it. -/
def cutlP (d : Dk) (L : List Sg) (i : Nat) : Nat × Dk × List Sg :=
  if (lastS L).next ≤ i then (0, d, L)
  else if (cutP d (nameL (lastS L).num) (((lastS L).pl.getD (i - (lastS L).num) 0 : Nat) : Int)).1 ≠ 0 then ((cutP d (nameL (lastS L).num) (((lastS L).pl.getD (i - (lastS L).num) 0 : Nat) : Int)).1, (cutP d (nameL (lastS L).num) (((lastS L).pl.getD (i - (lastS L).num) 0 : Nat) : Int)).2, L)
  else (0, (cutP d (nameL (lastS L).num) (((lastS L).pl.getD (i - (lastS L).num) 0 : Nat) : Int)).2, L.dropLast ++ [⟨(lastS L).num, (lastS L).pl.take (i - (lastS L).num + 1)⟩])
/-- Segments are removed, the last one first, down to one that begins ahead of i or is the first one. -/
def cutsP (first i : Nat) : Dk → List Sg → Nat × Dk × List Sg
  | d, [] => (0, d, [])
  | d, s :: r => if s.num < i ∨ s.num = first then (0, d, (s :: r).reverse) else if (removeP d (nameL s.num)).1 ≠ 0 then ((removeP d (nameL s.num)).1, (removeP d (nameL s.num)).2, (s :: r).reverse) else cutsP first i (removeP d (nameL s.num)).2 r
/-- What Cut answers, the disk and the segments behind it. -/
def wcutP (d : Dk) (L : List Sg) (first : Nat) (i : Int) : Nat × Dk × List Sg :=
  if i < (first : Int) ∨ ((lastS L).next : Int) < i then (17, d, L)
  else if (cutsP first i.toNat d L.reverse).1 ≠ 0 then cutsP first i.toNat d L.reverse
  else cutlP (cutsP first i.toNat d L.reverse).2.1 (cutsP first i.toNat d L.reverse).2.2 i.toNat
/-- All segments are removed, the last one first. -/
def remsP : Dk → List Sg → Nat × Dk × List Sg
  | d, [] => (0, d, [])
  | d, s :: r => if (removeP d (nameL s.num)).1 ≠ 0 then ((removeP d (nameL s.num)).1, (removeP d (nameL s.num)).2, (s :: r).reverse) else remsP (removeP d (nameL s.num)).2 r
/-- What Reset answers, the disk and the segments behind it. -/
def resetP (d : Dk) (L : List Sg) (i : Int) : Nat × Dk × List Sg :=
  if i < 1 ∨ 999999 < i then (1, d, L)
  else if (remsP d L.reverse).1 ≠ 0 then remsP d L.reverse
  else ((appendP (remsP d L.reverse).2.1 (nameL i.toNat) []).1, (appendP (remsP d L.reverse).2.1 (nameL i.toNat) []).2, [⟨i.toNat, [0]⟩])

theorem ChainG.front : ∀ {a b : Gs}, ChainG (a ++ b) → ChainG a
  | [], _, _ => trivial
  | [_], _, _ => trivial
  | _ :: y :: a, b, h => ⟨h.1, h.2.1, ChainG.front (a := y :: a) (b := b) h.2.2⟩

/-- The files of a disk, but the last one. -/
theorem Str.butLast {d : Dk} {G : Gs} {g : Nat × Recs} (h : Str d (G ++ [g])) : ∃ fs f, d.files = fs ++ [(nameL g.1, f)] ∧ fnB fs = G.map gFile ∧ f.bs = framesL g.1 g.2 ∧ delA (nameL g.1) d.files = fs := by
  obtain ⟨fs, f, hfs, hfn, hfb⟩ := h.split
  refine ⟨fs, f, hfs, hfn, hfb, ?_⟩
  have hr := h.ok.rises
  rw [hfs] at hr ⊢
  have h2 := (List.pairwise_append.1 hr).2.2
  have h3 : delA (nameL g.1) fs = fs := delA_none (fun q hq e => by
    have := h2 q hq (nameL g.1, f) (by simp)
    rw [e, bb_irrefl] at this; cases this)
  unfold delA at h3 ⊢
  rw [List.filter_append, h3]
  simp
theorem Str.removeOk {d : Dk} {G : Gs} {g : Nat × Recs} (h : Str d (G ++ [g])) : removeP d (nameL g.1) = (0, { d with files := delA (nameL g.1) d.files }) ∧ DkOk { d with files := delA (nameL g.1) d.files } ∧ fnB (delA (nameL g.1) d.files) = G.map gFile := by
  obtain ⟨hfv, _⟩ := h.find (g := g) (by simp)
  obtain ⟨fs, f, hfs, hfn, hfb, hdel⟩ := h.butLast
  have hus := usedL_del (nameL g.1) d.files h.ok.rises
  refine ⟨remove_idle hfv h.idle, { rises := rises_delA h.ok.rises, lasts := fun x hx => h.ok.lasts x (by rw [hfs]; have hx2 : x ∈ delA (nameL g.1) d.files := hx; rw [hdel] at hx2; exact List.mem_append_left _ hx2), fits := ?_, room := h.ok.room, ahead := h.ok.ahead, keep := h.ok.keep, few := ?_, small := ?_ }, by rw [hdel]; exact hfn⟩
  · have := h.ok.fits
    show usedL (delA _ _) ≤ d.room
    omega
  · show (delA _ _).length ≤ _
    have := h.ok.few
    exact Nat.le_trans (List.length_filter_le _ _) this
  · have := h.ok.small
    show usedL (delA _ _) ≤ _
    omega
theorem Str.removeLast {d : Dk} {G : Gs} {g : Nat × Recs} (h : Str d (G ++ [g])) (hG : G ≠ []) : removeP d (nameL g.1) = (0, { d with files := delA (nameL g.1) d.files }) ∧ Str { d with files := delA (nameL g.1) d.files } G := by
  obtain ⟨h1, h2, h3⟩ := h.removeOk
  exact ⟨h1, { ok := h2, up := h.up, idle := h.idle, files := h3, chain := h.chain.front, ne := hG, small := fun x hx => h.small x (List.mem_append_left _ hx), num := fun x hx => h.num x (List.mem_append_left _ hx) }⟩
theorem headN_snoc {G : Gs} (hG : G ≠ []) (g : Nat × Recs) : headN (G ++ [g]) = headN G := by
  cases G with
  | nil => exact absurd rfl hG
  | cons x r => rfl
/-- Segments are removed. -/
theorem Str.cuts (i : Nat) : ∀ (r : Gs) {d : Dk}, Str d r.reverse → ∃ d' A x B, cutsP (headN r.reverse) i d (r.map gSg) = (0, d', (A ++ [x]).map gSg) ∧ Str d' (A ++ [x]) ∧ d'.room = d.room ∧ r.reverse = A ++ [x] ++ B ∧ (∀ g ∈ B, i ≤ g.1) ∧ (x.1 < i ∨ A = [])
  | [], d, h => absurd rfl h.ne
  | g :: r, d, h => by
    rw [List.map_cons, cutsP]
    have hrev : (g :: r).reverse = r.reverse ++ [g] := by simp
    rw [hrev] at h ⊢
    by_cases hc : (gSg g).num < i ∨ (gSg g).num = headN (r.reverse ++ [g])
    · rw [if_pos hc]
      refine ⟨d, r.reverse, g, [], ?_, h, rfl, by simp, by simp, ?_⟩
      · rw [← List.map_cons, ← List.map_reverse, hrev]
      · rcases hc with hc | hc
        · exact .inl hc
        · right
          cases hr : r.reverse with
          | nil => rfl
          | cons y s =>
            have hch := h.chain
            rw [hr] at hc hch
            have := ChainG.lt (g := y) (r := s ++ [g]) hch g (by simp)
            have hc2 : g.1 = y.1 := hc
            omega
    · rw [if_neg hc]
      have hne : r.reverse ≠ [] := by
        intro e
        apply hc
        rw [e]
        exact .inr rfl
      obtain ⟨e1, e2⟩ := h.removeLast hne
      rw [show (gSg g).num = g.1 from rfl, e1, if_neg (by simp), headN_snoc hne]
      obtain ⟨d', A, x, B, k1, k2, k3, k4, k5, k6⟩ := Str.cuts i r e2
      refine ⟨d', A, x, B ++ [g], k1, k2, k3, by rw [k4]; simp, ?_, k6⟩
      intro y hy
      rcases List.mem_append.1 hy with hy | hy
      · exact k5 y hy
      · rw [List.mem_singleton.1 hy]
        have : ¬ g.1 < i := fun e => hc (.inl e)
        omega

theorem cut_idleC {d : Dk} {n : Nm} {k : Nat} (hf : findV d n = 0) (hk : k ≤ (theF d n).bs.length) (ha : d.ahead < 0) : cutP d n (k : Int) = (0, { d with files := putA n ⟨(theF d n).bs.take k, min (theF d n).la k⟩ d.files }) := by
  have h1 : ¬ d.ahead = 0 := by omega
  have h2 : ¬ 0 < d.ahead := by omega
  unfold cutP
  rw [if_neg (by rw [hf]; decide), if_neg (by omega), if_neg h1]
  unfold failD doneD
  rw [if_neg h1, if_neg h2, Int.toNat_natCast]
theorem framesL_take (i : Nat) (r : Recs) (k : Nat) : framesL i (r.take k) = (framesL i r).take (bulk (r.take k)) := by
  have h : framesL i r = framesL i (r.take k) ++ framesL (i + (r.take k).length) (r.drop k) := by
    rw [← framesL_append, List.take_append_drop]
  rw [h, List.take_left' (framesL_length _ _)]
theorem placesL_take : ∀ (a : Nat) (r : Recs) (k : Nat), placesL a (r.take k) = (placesL a r).take k
  | _, [], k => by simp [placesL]
  | _, _ :: _, 0 => rfl
  | a, b :: r, k + 1 => by rw [List.take_succ_cons, placesL, placesL, List.take_succ_cons, placesL_take]
theorem gSg_take (x : Nat × Recs) (k : Nat) : gSg (x.1, x.2.take k) = ⟨(gSg x).num, (gSg x).pl.take (k + 1)⟩ := by
  show (⟨x.1, 0 :: placesL 0 (x.2.take k)⟩ : Sg) = ⟨x.1, (0 :: placesL 0 x.2).take (k + 1)⟩
  rw [placesL_take, List.take_succ_cons]
/-- The last segment is cut. -/
theorem Str.cutLast {d : Dk} {G : Gs} {x : Nat × Recs} (h : Str d (G ++ [x])) (i : Nat) (h1 : x.1 ≤ i) (h2 : i ≤ x.1 + x.2.length) : ∃ d', cutlP d ((G ++ [x]).map gSg) i = (0, d', (G ++ [(x.1, x.2.take (i - x.1))]).map gSg) ∧ Str d' (G ++ [(x.1, x.2.take (i - x.1))]) ∧ d'.room = d.room := by
  unfold cutlP
  rw [lastS_gs, gSg_next]
  by_cases hle : x.1 + x.2.length ≤ i
  · rw [if_pos hle]
    have e : x.2.take (i - x.1) = x.2 := List.take_of_length_le (by omega)
    rw [e]
    exact ⟨d, rfl, h, rfl⟩
  · rw [if_neg hle]
    obtain ⟨hfv, hbs⟩ := h.find (g := x) (by simp)
    obtain ⟨fs, f, e1, e2, e3⟩ := h.split
    have hpl : (gSg x).pl.getD (i - (gSg x).num) 0 = bulk (x.2.take (i - x.1)) := by
      have := places_at 0 x.2 (i - x.1) (by omega)
      rw [Nat.zero_add] at this
      exact this
    have hbl := bulk_take_le x.2 (i - x.1)
    have hc := cut_idleC hfv (k := bulk (x.2.take (i - x.1))) (by rw [hbs, framesL_length]; exact hbl) h.idle
    rw [hpl, show (gSg x).num = x.1 from rfl, hc, if_neg (by simp)]
    refine ⟨{ d with files := putA (nameL x.1) ⟨(theF d (nameL x.1)).bs.take (bulk (x.2.take (i - x.1))), min (theF d (nameL x.1)).la (bulk (x.2.take (i - x.1)))⟩ d.files }, ?_, ?_, rfl⟩
    · rw [List.map_append, List.map_cons, List.map_nil, List.dropLast_concat, List.map_append, List.map_cons, List.map_nil, gSg_take]
      rfl
    · have hp : putA (nameL x.1) (⟨(theF d (nameL x.1)).bs.take (bulk (x.2.take (i - x.1))), min (theF d (nameL x.1)).la (bulk (x.2.take (i - x.1)))⟩ : Fl) d.files = fs ++ [(nameL x.1, ⟨(theF d (nameL x.1)).bs.take (bulk (x.2.take (i - x.1))), min (theF d (nameL x.1)).la (bulk (x.2.take (i - x.1)))⟩)] := by
        have hr := h.ok.rises
        rw [e1] at hr ⊢
        exact putA_at fs [] hr
      have hus : usedL (fs ++ [(nameL x.1, (⟨(theF d (nameL x.1)).bs.take (bulk (x.2.take (i - x.1))), min (theF d (nameL x.1)).la (bulk (x.2.take (i - x.1)))⟩ : Fl))]) ≤ usedL d.files := by
        rw [e1]
        unfold usedL
        rw [List.map_append, List.map_append, List.sum_append, List.sum_append]
        have : ((theF d (nameL x.1)).bs.take (bulk (x.2.take (i - x.1)))).length ≤ f.bs.length := by rw [hbs, e3, List.length_take]; omega
        simp only [List.map_cons, List.map_nil, List.sum_cons, List.sum_nil]
        omega
      refine { ok := { rises := rises_putA h.ok.rises, lasts := ?_, fits := ?_, room := h.ok.room, ahead := h.ok.ahead, keep := h.ok.keep, few := ?_, small := ?_ }, up := h.up, idle := h.idle, files := ?_, chain := h.chain.more rfl, ne := by simp, small := ?_, num := ?_ }
      · intro p hp2
        rcases mem_putA.1 hp2 with rfl | hp2
        · show min _ _ ≤ (List.take _ _).length
          rw [List.length_take, hbs, framesL_length]; omega
        · exact h.ok.lasts p hp2.1
      · show usedL (putA _ _ _) ≤ d.room
        rw [hp]
        exact Nat.le_trans hus h.ok.fits
      · show (putA _ _ _).length ≤ _
        rw [hp]
        have := h.ok.few
        rw [e1] at this
        simpa using this
      · show usedL (putA _ _ _) ≤ _
        rw [hp]
        exact Nat.le_trans hus h.ok.small
      · show fnB (putA _ _ _) = _
        rw [hp, List.map_append, ← e2]
        unfold fnB
        rw [List.map_append]
        simp only [List.map_cons, List.map_nil, gFile, hbs, framesL_take]
      · intro y hy
        rcases List.mem_append.1 hy with hy | hy
        · exact h.small y (List.mem_append_left _ hy)
        · rw [List.mem_singleton.1 hy]
          exact fun b hb => h.small x (by simp) b (List.mem_of_mem_take hb)
      · intro y hy
        rcases List.mem_append.1 hy with hy | hy
        · exact h.num y (List.mem_append_left _ hy)
        · rw [List.mem_singleton.1 hy]
          have := h.num x (by simp)
          have h3 : (x.2.take (i - x.1)).length ≤ x.2.length := by rw [List.length_take]; omega
          show 1 ≤ x.1 ∧ x.1 + (x.2.take (i - x.1)).length ≤ 1000000
          omega
theorem allR_appendC (A B : Gs) : allR (A ++ B) = allR A ++ allR B := by simp [allR]
theorem bulks_le_append (A B : Gs) : bulks A ≤ bulks (A ++ B) := by unfold bulks; rw [List.map_append, List.sum_append]; omega
/-- Cut: the records from i on are gone. -/
theorem Str.wcut {d : Dk} {G : Gs} (h : Str d G) (i : Nat) (h1 : headN G ≤ i) (h2 : i ≤ headN G + (allR G).length) : ∃ d' G', wcutP d (G.map gSg) (headN G) (i : Int) = (0, d', G'.map gSg) ∧ Str d' G' ∧ d'.room = d.room ∧ headN G' = headN G ∧ allR G' = (allR G).take (i - headN G) ∧ bulks G' ≤ bulks G ∧ G'.length ≤ G.length ∧ ∀ g ∈ G', ∃ g0 ∈ G, g.1 = g0.1 := by
  have hG := h.ne
  obtain ⟨G0, gl, hGl⟩ : ∃ G0 gl, G = G0 ++ [gl] := ⟨G.dropLast, G.getLast hG, (List.dropLast_concat_getLast hG).symm⟩
  have hnx := h.chain
  rw [hGl] at hnx
  have hnx := chain_next hnx
  have hlast : (lastS (G.map gSg)).next = headN G + (allR G).length := by
    rw [hGl, lastS_gs, gSg_next, hnx]
  unfold wcutP
  rw [if_neg (by rw [hlast]; omega), Int.toNat_natCast, ← List.map_reverse]
  have hs : Str d G.reverse.reverse := by rw [List.reverse_reverse]; exact h
  obtain ⟨d', A, x, B, k1, k2, k3, k4, k5, k6⟩ := Str.cuts i G.reverse hs
  rw [List.reverse_reverse] at k1 k4
  rw [k1, if_neg (by simp)]
  have hx1 : x.1 ≤ i := by
    rcases k6 with k6 | k6
    · omega
    · rw [k6] at k4
      have : headN G = x.1 := by rw [k4]; rfl
      omega
  have hch := k2.chain
  have hnx2 := chain_next hch
  have hAx : headN (A ++ [x]) = headN G := by
    rw [k4]
    cases A with
    | nil => rfl
    | cons y r => rfl
  have hx2 : i ≤ x.1 + x.2.length := by
    cases B with
    | nil =>
      rw [List.append_nil] at k4
      rw [← k4] at hnx2
      omega
    | cons y B =>
      have hc := h.chain
      rw [k4, show A ++ [x] ++ y :: B = A ++ x :: y :: B by simp] at hc
      have := (ChainG.last hc).1
      have := k5 y (by simp)
      omega
  obtain ⟨d2, c1, c2, c3⟩ := k2.cutLast i hx1 hx2
  refine ⟨d2, A ++ [(x.1, x.2.take (i - x.1))], c1, c2, by rw [c3, k3], ?_, ?_, ?_, ?_, ?_⟩
  · rw [← hAx]
    cases A with
    | nil => rfl
    | cons y r => rfl
  · have e1 : allR [x] = x.2 := by simp [allR]
    have e2 : allR [(x.1, x.2.take (i - x.1))] = x.2.take (i - x.1) := by simp [allR]
    rw [hAx, allR_appendC, e1, List.length_append] at hnx2
    obtain ⟨n, hn⟩ : ∃ n, headN G = n := ⟨_, rfl⟩
    rw [hn] at hnx2 ⊢
    rw [k4, allR_appendC, allR_appendC, allR_appendC, e1, e2, List.append_assoc, List.take_append, List.take_append]
    have : (allR A).length ≤ i - n := by omega
    rw [List.take_of_length_le this, show i - n - (allR A).length = i - x.1 by omega, show i - x.1 - x.2.length = 0 by omega]
    simp
  · rw [k4]
    have e1 := bulks_le_append (A ++ [x]) B
    refine Nat.le_trans ?_ e1
    unfold bulks
    rw [List.map_append, List.sum_append, List.map_append, List.sum_append]
    have := bulk_take_le x.2 (i - x.1)
    simp only [List.map_cons, List.map_nil, List.sum_cons, List.sum_nil]
    omega
  · rw [k4]; simp
  · intro g hg
    rw [k4]
    rcases List.mem_append.1 hg with hg | hg
    · exact ⟨g, by simp [hg], rfl⟩
    · exact ⟨x, by simp, by rw [List.mem_singleton.1 hg]⟩
theorem Str.wcutNo {d : Dk} {G : Gs} (h : Str d G) (i : Int) (h1 : i < (headN G : Int) ∨ ((headN G + (allR G).length : Nat) : Int) < i) : wcutP d (G.map gSg) (headN G) i = (17, d, G.map gSg) := by
  have hG := h.ne
  obtain ⟨G0, gl, hGl⟩ : ∃ G0 gl, G = G0 ++ [gl] := ⟨G.dropLast, G.getLast hG, (List.dropLast_concat_getLast hG).symm⟩
  have hnx := h.chain
  rw [hGl] at hnx
  have hnx := chain_next hnx
  have hlast : (lastS (G.map gSg)).next = headN G + (allR G).length := by
    rw [hGl, lastS_gs, gSg_next, hnx]
  unfold wcutP
  rw [if_pos (by rw [hlast]; exact h1)]
theorem Str.rems : ∀ (r : Gs) {d : Dk}, Str d r.reverse → ∃ d', remsP d (r.map gSg) = (0, d', []) ∧ DkOk d' ∧ d'.files = [] ∧ d'.room = d.room ∧ d'.up = true ∧ d'.ahead < 0
  | [], d, h => absurd rfl h.ne
  | g :: r, d, h => by
    rw [List.map_cons, remsP]
    have hrev : (g :: r).reverse = r.reverse ++ [g] := by simp
    rw [hrev] at h
    obtain ⟨e1, e2, e3⟩ := h.removeOk
    rw [show (gSg g).num = g.1 from rfl, e1, if_neg (by simp)]
    by_cases hr : r = []
    · subst hr
      refine ⟨_, rfl, e2, ?_, rfl, h.up, h.idle⟩
      have : fnB (delA (nameL g.1) d.files) = [] := e3
      unfold fnB at this
      exact List.map_eq_nil_iff.1 this
    · obtain ⟨_, e4⟩ := h.removeLast (by simpa using hr)
      exact Str.rems r e4
/-- Reset: an empty log that begins at i. -/
theorem Str.reset {d : Dk} {G : Gs} (h : Str d G) (i : Nat) (h1 : 1 ≤ i) (h2 : i ≤ 999999) : ∃ d', resetP d (G.map gSg) (i : Int) = (0, d', [((i, []) : Nat × Recs)].map gSg) ∧ Str d' [(i, [])] ∧ d'.room = d.room := by
  unfold resetP
  rw [if_neg (by omega), ← List.map_reverse]
  have hs : Str d G.reverse.reverse := by rw [List.reverse_reverse]; exact h
  obtain ⟨d1, k1, k2, k3, k4, k5, k6⟩ := Str.rems G.reverse hs
  rw [k1, if_neg (by simp), Int.toNat_natCast]
  have hap : appendP d1 (nameL i) [] = (0, addD d1 (nameL i) []) := append_idle k5 (mayN_name _) (by have := k2.fits; simp; omega) k6
  have hu : usedL d1.files = 0 := by rw [k3]; rfl
  have hok := add_ok (n := nameL i) (l := []) k2 (by rw [hu]; simp) (by rw [hu]; simp) (by rw [k3]; simp)
  rw [hap]
  have hfi : (addD d1 (nameL i) []).files = [(nameL i, ⟨[], 0⟩)] := by
    show putA _ _ d1.files = _
    unfold oldF
    rw [k3]
    rfl
  refine ⟨addD d1 (nameL i) [], rfl, { ok := hok.1, up := k5, idle := k6, files := by rw [hfi]; rfl, chain := trivial, ne := by simp, small := ?_, num := ?_ }, k4⟩
  · intro g hg
    rw [List.mem_singleton.1 hg]
    intro b hb; cases hb
  · intro g hg
    rw [List.mem_singleton.1 hg]
    show 1 ≤ i ∧ i + 0 ≤ 1000000
    omega
theorem Str.resetNo {d : Dk} {L : List Sg} (i : Int) (h1 : i < 1 ∨ 999999 < i) : resetP d L i = (1, d, L) := by
  unfold resetP
  rw [if_pos h1]
end Go.Proofs.YtkbmblmnhhlicaaGreatDoor

/- The last segment is cut: cutLast, walked. -/
namespace Go.Proofs.YtkbmblmnhhlicaaGreatDoor
open Go.RowKit

theorem ownI_front {w : World} {B g n c : Nat} {pl : List Nat} (h : OwnI w B (.slice (some ⟨g, 0, none⟩) n c) pl) (k : Nat) (hk : k ≤ pl.length) : OwnI w B (.slice (some ⟨g, 0, none⟩) k c) (pl.take k) := by
  rcases h.2 with ⟨h1, _⟩ | ⟨g', cap, cur, hv, hB, hg, h1, h2, h3, h4⟩
  · cases h1
  · have ea : g = g' := congrArg (fun v => match v with | Value.slice (some a) _ _ => a.block | _ => g) hv
    have ec : c = cap := congrArg (fun v => match v with | Value.slice _ _ c => c | _ => c) hv
    subst ea ec
    have hl : (pl.take k).length = k := by rw [List.length_take]; omega
    refine ⟨by simp, .inr ⟨g, c, cur, by rw [hl], hB, hg, by omega, h2, h3, ?_⟩⟩
    rw [hl, List.map_take, ← h4, List.take_take, Nat.mul_one, Nat.mul_one, Nat.min_eq_left hk]
/-- The last segment of a row is another one. -/
theorem ownQ_last {w w2 : World} {B g n c : Nat} {q : Sgs} {x y : Sg × Value} (h : OwnQ w B (.slice (some ⟨g, 0, none⟩) n c) (q ++ [x])) {j : Nat} (hj : j = q.length * 2) (hw : w2 = (w.setCell ⟨g, j, none⟩ (.int .i64 (y.1.num : Int))).setCell ⟨g, j + 1, none⟩ y.2) : OwnQ w2 B (.slice (some ⟨g, 0, none⟩) n c) (q ++ [y]) := by
  subst hj
  rcases h with ⟨h0, ⟨h1, _⟩ | ⟨g', cap, cur, hv, hB, hg, h2, h3, h4, h5⟩⟩
  · cases h1
  · have ea : g = g' := congrArg (fun v => match v with | Value.slice (some a) _ _ => a.block | _ => g) hv
    have ec : c = cap := congrArg (fun v => match v with | Value.slice _ _ c => c | _ => c) hv
    have en : n = (q ++ [x]).length := congrArg (fun v => match v with | Value.slice _ n _ => n | _ => n) hv
    subst ea ec en
    have hA := set_blk hg (q.length * 2) (.int .i64 (y.1.num : Int))
    have hB2 := set_blk hA (q.length * 2 + 1) y.2
    rw [← hw] at hB2
    have e1 : sgCells (q ++ [x]) = sgCells q ++ [.int .i64 (x.1.num : Int), x.2] := by simp [sgCells]
    have e2 : sgCells (q ++ [y]) = sgCells q ++ [.int .i64 (y.1.num : Int), y.2] := by simp [sgCells]
    have hlq := sgCells_len q
    refine ⟨by rw [sgCells_len], .inr ⟨g, c, _, by simp, hB, hB2, by simpa using h2, h3, by simpa using h4, ?_⟩⟩
    rw [Array.toList_setIfInBounds, Array.toList_setIfInBounds, List.length_append, List.length_singleton]
    rw [List.length_append, List.length_singleton] at h5
    rw [List.take_set, List.take_set, h5, e1, e2]
    rw [List.set_append_right _ _ (by omega), List.set_append_right _ _ (by omega)]
    rw [show q.length * 2 - (sgCells q).length = 0 by omega, show q.length * 2 + 1 - (sgCells q).length = 1 by omega]
    rfl
theorem Wl.cutl {w0 w w2 : World} {b m : Nat} {S T : Nat → Prop} {d : Dk} {p g n c pg pn pc N j k1 : Nat} {pl : List Nat} {q : Sgs} (h : Wl w0 w b m S d p T (.slice (some ⟨g, 0, none⟩) n c) (q ++ [(⟨N, pl⟩, .slice (some ⟨pg, 0, none⟩) pn pc)])) (hj : j = q.length * 2) (hk : 1 ≤ k1) (hk2 : k1 ≤ pl.length)
    (hw : w2 = (w.setCell ⟨g, j, none⟩ (.int .i64 (N : Int))).setCell ⟨g, j + 1, none⟩ (.slice (some ⟨pg, 0, none⟩) k1 pc)) :
    Wl w0 w2 b m S d p T (.slice (some ⟨g, 0, none⟩) n c) (q ++ [(⟨N, pl.take k1⟩, .slice (some ⟨pg, 0, none⟩) k1 pc)]) ∧ StW w S T w2 S T := by
  have hTg : T g := h.lg.tr g rfl
  obtain ⟨cu, hcu⟩ := ownQ_type h.lg.row (g := g) rfl
  have hpg : p ≠ g := fun e => ne_types hcu h.lg.blk (by decide) e.symm
  have hFr : Fr T w w2 := by
    rw [hw]
    exact Fr.set (p := ⟨g, j + 1, none⟩) (Fr.set (p := ⟨g, j, none⟩) (Fr.refl _ w) hTg _) hTg _
  have hst : ∀ k, k ≠ g → w2.heap[k]? = w.heap[k]? := fun k hk => by
    rw [hw, set_other _ hk, set_other _ hk]
  have hI : ∀ {v : Value} {l : List Nat}, OwnI w 0 v l → OwnI w2 0 v l := fun {v l} ho => ownI_keep ho (fun k hk => by
    obtain ⟨cu2, hc2⟩ := ownI_type ho hk
    exact hst k (ne_types hc2 hcu (by decide)))
  have hlast := h.lg.pls (⟨N, pl⟩, .slice (some ⟨pg, 0, none⟩) pn pc) (by simp)
  have hcut := ownI_front hlast k1 hk2
  have hlen := h.lg.len (⟨N, pl⟩, .slice (some ⟨pg, 0, none⟩) pn pc) (by simp)
  obtain ⟨sl, hd⟩ := h.lv.dk
  refine ⟨⟨⟨⟨sl, hd.keep hFr.size (fun k hk => hFr.block k (hd.lt k hk) (fun e => h.ap k e hk))⟩, h.lv.ge, h.lv.below.trans (hFr.below h.ge h.lv.below.size)⟩, ?_, h.ge, h.ap, h.tb⟩, ⟨hFr.os, hFr.tape, hFr.output, hFr.size, fun k hk hn => hFr.block k hk (fun e => hn (.inr e))⟩, fun k hk => .inl hk⟩
  have hap := List.pairwise_append.1 h.lg.apart
  exact { blk := by rw [hst p hpg]; exact h.lg.blk
          row := ownQ_last h.lg.row hj hw
          pls := fun y hy => by
            rcases List.mem_append.1 hy with hy | hy
            · exact hI (h.lg.pls y (by simp [hy]))
            · rw [List.mem_singleton.1 hy]; exact hI hcut
          apart := List.pairwise_append.2 ⟨hap.1, List.pairwise_singleton _ _, fun y hy z hz => by
            rw [List.mem_singleton.1 hz]
            exact hap.2.2 y hy (⟨N, pl⟩, .slice (some ⟨pg, 0, none⟩) pn pc) (by simp)⟩
          tp := h.lg.tp
          tr := h.lg.tr
          ts := fun y hy k hk => by
            rcases List.mem_append.1 hy with hy | hy
            · exact h.lg.ts y (by simp [hy]) k hk
            · rw [List.mem_singleton.1 hy] at hk
              exact h.lg.ts (⟨N, pl⟩, .slice (some ⟨pg, 0, none⟩) pn pc) (by simp) k hk
          lt := fun k hk => Nat.lt_of_lt_of_le (h.lg.lt k hk) hFr.size
          ne := fun y hy => by
            rcases List.mem_append.1 hy with hy | hy
            · exact h.lg.ne y (by simp [hy])
            · rw [List.mem_singleton.1 hy]
              intro e
              have hl : (pl.take k1).length = 0 := congrArg List.length e
              rw [List.length_take] at hl
              omega
          num := fun y hy => by
            rcases List.mem_append.1 hy with hy | hy
            · exact h.lg.num y (by simp [hy])
            · rw [List.mem_singleton.1 hy]; exact h.lg.num (⟨N, pl⟩, .slice (some ⟨pg, 0, none⟩) pn pc) (by simp)
          len := fun y hy => by
            rcases List.mem_append.1 hy with hy | hy
            · exact h.lg.len y (by simp [hy])
            · rw [List.mem_singleton.1 hy]
              show (pl.take k1).length ≤ _
              rw [List.length_take]
              simp only at hlen
              omega
          few := by have := h.lg.few; simpa using this }
end Go.Proofs.YtkbmblmnhhlicaaGreatDoor
