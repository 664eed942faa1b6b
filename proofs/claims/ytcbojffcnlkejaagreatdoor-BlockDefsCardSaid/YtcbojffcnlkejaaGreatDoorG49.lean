/- Several texts in one. -/
import Derived.Test.YtcbojffcnlkejaaGreatDoorG47
import Derived.Test.YtcbojffcnlkejaaGreatDoorG48
import Derived.Test.YtcbojffcnlkejaaGreatDoorLEnds
import Derived.Test.YtcbojffcnlkejaaGreatDoorG44
import Derived.Test.YtcbojffcnlkejaaGreatDoorG46
set_option linter.unusedVariables false
/- What begins at a place: all of it. -/
namespace Go.Proofs.YtcbojffcnlkejaaGreatDoor
open Go.RowKit
open cur (cell_blk free_blk set_blk blk_below Cur cptr Oth)

theorem rest_len (σ : Pl) : (restR σ).length ≤ wt σ := by
  unfold restR wt
  rw [List.length_append, List.length_replicate]
  omega
theorem beh_len (l : Str) : (beh l).length ≤ l.length := by
  have := endC_le l 0
  omega
theorem beh_wt (σ : Pl) : (beh σ.1).length ≤ wt σ := by
  have := beh_len σ.1
  unfold wt
  omega
theorem html_nil : htmlL [] = 0 := rfl
theorem isClose_para {s : St} (h : s.isClose = true) : ∃ x l, s.opens.getLast? = some (.para x l) := by
  unfold St.isClose St.hasPara at h
  cases hq : s.opens.getLast? with
  | none => rw [hq] at h; simp at h
  | some p =>
    rw [hq] at h
    cases p with
    | para x l => exact ⟨x, l, rfl⟩
    | _ => simp [Part.isPara] at h

abbrev St.begin' (n : Nat) (s : St) (σ : Pl) : Nat × St × Pl := s.begin htmlL endsX n σ

theorem ends_at {w u : World} {own : Nat → Nat} {c : Nat} (hM : MLen w) (h0 : own 0 = 0) (hc0 : c ≠ 0) (hk : ∀ g, g < w.heap.size → own g = 0 → g ≠ c → u.heap[g]? = w.heap[g]?) (k : Nat) (l : Str) (hl : l.length < 4294967281) :
    Calls Tryz.prog 109 #[.int .i64 (k : Int), strV l] u fun e w' => e = .returned (.bool (endsX k l)) ∧ Below u.heap.size u w' :=
  lends_any k l hl u (hM.keeps (hk 0 hM.lt h0 (Ne.symm hc0)))

theorem bbegin_any {w : World} {r c n K L : Nat} {own : Nat → Nat} {B : Nat} {s : St} {σ : Pl} (h : Good w r own B s) (hB : B + K ≤ 549755813888) (hon : 1 ≤ s.on) (hl : LeafLeft s) (hC : Cur w c σ) (hc : own c = 0) (hn : n ≤ B) (hK : 2 ≤ K) (hL : wt σ ≤ L) (hL2 : L ≤ 2147483648) (hKr : (s.begin' n σ).1 ≠ 0 → rowM (List.replicate L 0) ≤ K) (hM : MLen w) (h0 : own 0 = 0) (hc0 : c ≠ 0) :
    Calls Tryz.prog 28 #[ptrV r, lnV c n] w fun e w' => e = .returned (.int .i64 ((s.begin' n σ).1 : Int)) ∧ LeftC w r own c (B + K) (s.begin' n σ).2.1 (s.begin' n σ).2.2 w' := by
  have hr := rest_len σ
  have hb := beh_wt σ
  simp only [rowM, List.length_replicate] at hKr
  have hbl : (beh σ.1).length ≤ 549755813888 := by omega
  have hH : ∀ u, Below w.heap.size w u → Calls Tryz.prog 45 #[.string ⟨(beh σ.1).toArray⟩] u fun e w' => e = .returned (.int .i64 (htmlL (beh σ.1) : Int)) ∧ Below u.heap.size u w' := fun u _ => by
    have q := lhtml_is ⟨(beh σ.1).toArray⟩ (by rw [size_list]; omega) u
    rw [list_data] at q
    exact q
  unfold St.begin' St.begin at hKr ⊢
  simp only at hKr ⊢
  by_cases hi : 3 < indR σ
  · rw [if_pos hi] at hKr ⊢
    have hm : (Part.indented (takeI { first := n, last := n } n σ)).mass ≤ K := by
      have h1 : (Part.indented (takeI { first := n, last := n } n σ)).mass = 3 * ((restR (skipR 4 σ)).length + 1) + 1 := rfl
      have h2 := rest_len (skipR 4 σ)
      have h3 := wt_skip 4 σ
      have h4 : (s.beginIndented n σ).1 ≠ 0 := by
        unfold St.beginIndented
        split <;> simp
      have := hKr h4
      omega
    exact bbeg_indented h hB hon hl hC hc hn hm hi
  rw [if_neg hi] at hKr ⊢
  by_cases hq : nextB σ = 62 ∧ s.room = true
  · rw [if_pos hq] at hKr ⊢
    exact bbeg_quote h hB hon hl hC hc hn (by omega) hi hq.1 hq.2
  rw [if_neg hq] at hKr ⊢
  have hq' : (beh σ.1).headD 0 ≠ 62 ∨ s.room = false := by
    rcases Decidable.em ((beh σ.1).headD 0 = 62) with q | q
    · right
      cases q2 : s.room
      · rfl
      · exact absurd ⟨q, q2⟩ hq
    · exact .inl q
  by_cases hhd : 0 < (headL (beh σ.1)).1
  · rw [if_pos hhd] at hKr ⊢
    exact bbeg_heading h hB hon hl hC hc hn hK hi hq' hH hhd
  rw [if_neg hhd] at hKr ⊢
  have hhd0 : (headL (beh σ.1)).1 = 0 := by omega
  by_cases hfe : 0 < (fenceL (beh σ.1)).2.1
  · rw [if_pos hfe] at hKr ⊢
    exact bbeg_fenced h hB hon hl hC hc hn hK hi hq' hH hhd0 hfe
  rw [if_neg hfe] at hKr ⊢
  have hfe0 : (fenceL (beh σ.1)).2.1 = 0 := by omega
  by_cases hht : 0 < htmlL (beh σ.1) ∧ (htmlL (beh σ.1) ≠ 7 ∨ s.hasPara = false)
  · rw [if_pos hht] at hKr ⊢
    have hnb : blankB σ = false := by
      unfold blankB
      cases hbe : beh σ.1 with
      | nil => rw [hbe] at hht; exact absurd hht.1 (by rw [html_nil]; decide)
      | cons a t => rfl
    have := hKr (show (2 : Nat) ≠ 0 by decide)
    exact bbeg_html h hB hon hl hC hc hn hK hi hq' hH hhd0 hfe0 hht.1 hht.2 hnb (by show 3 * ((restR σ).length + 1) + 1 ≤ K; omega) endsX (fun u q => ends_at hM h0 hc0 q _ _ (by omega))
  rw [if_neg hht] at hKr ⊢
  have hht' : htmlL (beh σ.1) = 0 ∨ (htmlL (beh σ.1) = 7 ∧ s.hasPara = true) := by
    rcases Nat.eq_zero_or_pos (htmlL (beh σ.1)) with q | q
    · exact .inl q
    · right
      refine ⟨Decidable.byContradiction fun e => hht ⟨q, .inl e⟩, ?_⟩
      cases q2 : s.hasPara
      · exact absurd ⟨q, .inr q2⟩ hht
      · rfl
  by_cases hun : 0 < underL (beh σ.1) ∧ s.isClose = true
  · rw [if_pos hun] at hKr ⊢
    obtain ⟨x, l, hlast⟩ := isClose_para hun.2
    exact bbeg_under h hB hon hl hC hc hn hK hi hq' hH hhd0 hfe0 hht' hun.1 hun.2 hlast
  rw [if_neg hun] at hKr ⊢
  have hun' : underL (beh σ.1) = 0 ∨ s.isClose = false := by
    rcases Nat.eq_zero_or_pos (underL (beh σ.1)) with q | q
    · exact .inl q
    · right
      cases q2 : s.isClose
      · rfl
      · exact absurd ⟨q, q2⟩ hun
  by_cases hru : ruleL (beh σ.1) = true
  · rw [if_pos hru] at hKr ⊢
    exact bbeg_rule h hB hon hl hC hc hn hK hi hq' hH hhd0 hfe0 hht' hun' hru
  rw [if_neg hru] at hKr ⊢
  have hru' : ruleL (beh σ.1) = false := by simpa using hru
  by_cases hit : 0 < (St.markOf (beh σ.1)).size ∧ s.room = true ∧ ((St.markOf (beh σ.1)).parts = true ∨ s.isClose = false)
  · rw [if_pos hit] at hKr ⊢
    exact bbeg_item h hB hon hl hC hc hn hK hi hq' hH hbl hhd0 hfe0 hht' hun' hru' hit.1 hit.2.1 hit.2.2
  rw [if_neg hit] at hKr ⊢
  rcases Nat.eq_zero_or_pos (St.markOf (beh σ.1)).size with q | q
  · exact bbeg_none0 h hB hon hl hC hc hn hK hi hq' hH hbl hhd0 hfe0 hht' hun' hru' q
  cases hrm : s.room
  · exact bbeg_none1 h hB hon hl hC hc hn hK hi hq' hH hbl hhd0 hfe0 hht' hun' hru' q hrm
  have hp : (St.markOf (beh σ.1)).parts = false ∧ s.isClose = true := by
    constructor
    · cases q2 : (St.markOf (beh σ.1)).parts
      · rfl
      · exact absurd ⟨q, hrm, .inl q2⟩ hit
    · cases q2 : s.isClose
      · exact absurd ⟨q, hrm, .inr q2⟩ hit
      · rfl
  have hu0 : underL (beh σ.1) = 0 := by
    rcases hun' with q2 | q2
    · exact q2
    · rw [hp.2] at q2; cases q2
  exact bbeg_none2 h hB hon hl hC hc hn hK hi hq' hH hbl hhd0 hfe0 hht' hu0 hru' q hrm hp.1 hp.2

end Go.Proofs.YtcbojffcnlkejaaGreatDoor

/- What is open goes on: one part, in memory. -/
namespace Go.Proofs.YtcbojffcnlkejaaGreatDoor
open Go.RowKit
open cur (cell_blk free_blk set_blk blk_below Cur cptr Oth)

def goesFn : Part → FuncId
  | .doc _ => 224
  | .quote _ => 236
  | .list _ _ => 241
  | _ => 238
theorem mth_goes (p : Part) (hp : p.isC = true) (b : Nat) (w : World) : (method 345 (partP p) (ptrV b) "scriptorium/block.goesOn").run Tryz.prog w = .ok (goesFn p, ptrV b) w := by
  cases p <;> first | (cases hp; done) | kernel_rfl
theorem na_goes (p : Part) (hp : p.isC = true) (b : Nat) (w : World) : (nilAhead 345 (partP p) (ptrV b) "scriptorium/block.goesOn").run Tryz.prog w = .ok (some false) w := by
  cases p <;> first | (cases hp; done) | kernel_rfl
theorem cf_goes (p : Part) (args : Array Value) (w : World) : (callFunc (goesFn p) args).run Tryz.prog w = .ok (.enter (goesFn p) args) w := by
  cases p <;> kernel_rfl

def takesFn : Part → FuncId
  | .para _ _ => 231
  | .fenced _ _ _ _ _ => 228
  | .indented _ => 234
  | _ => 76
theorem mth_takes (p : Part) (hp : p.isLined = true) (b : Nat) (w : World) : (method 345 (partP p) (ptrV b) "scriptorium/block.takes").run Tryz.prog w = .ok (takesFn p, ptrV b) w := by
  cases p <;> first | (cases hp; done) | kernel_rfl
theorem cf_takes (p : Part) (args : Array Value) (w : World) : (callFunc (takesFn p) args).run Tryz.prog w = .ok (.enter (takesFn p) args) w := by
  cases p <;> kernel_rfl

/-- Kids stay, when another block of the part's own is written. -/
theorem kids_at {w w' : World} {A S : Nat → Prop} {v : Value} {k : Bs} {b : Nat} {cs : Array Value} {t : TypeId} (hk : KidsV w A S v k) (hb : w.heap[b]? = some (.cells cs t (0, 0))) (ht : t ≠ 34) (hS : ¬ S b) (keep : ∀ g, g < w.heap.size → (A g ∨ S g) → g ≠ b → w'.heap[g]? = w.heap[g]?) : KidsV w' A S v k := by
  obtain ⟨xs, h1, h2, h3⟩ := hk
  refine ⟨xs, row_keeps h1 (fun g hg => keep g (World.ownsRow.lt h1 g hg).2 (.inl (h2 g hg)) (fun e => ?_)), h2, KidC.keeps (fun _ q => q) (fun g hg q => keep g hg (.inr q) (fun e => hS (e ▸ q))) k xs h3⟩
  obtain ⟨cu, q⟩ := row_block h1 hg
  rw [e, hb] at q
  cases q
  exact ht rfl

theorem partT_ne (p : Part) : partT p ≠ 34 := by cases p <;> simp only [partT] <;> decide

/-- An open container turns, but for its kids. -/
theorem cont_rep {w w' : World} {r c : Nat} {own : Nat → Nat} {N : Nat} {bs : List Nat} {vo vd vm : Value} {s : St} (h : RepR w r own N bs vo vd vm s) {i b : Nat} {p p' : Part} (hp : s.opens[i]? = some p) (hb : bs[i]? = some b) (hpp : partP p' = partP p) (hC : p.isC = true) (hC' : p'.isC = true) (hk : toldK p' = toldK p) {v : Value} (hc : own c = 0)
    (hv : w.heap[b]? = some (.cells (partCs p v).toArray (partT p) (0, 0))) (hV : partV w (fun g => own g = 2 * i + 2) (fun g => own g = 2 * i + 3) v p)
    (hP : w'.heap[b]? = some (.cells (partCs p' v).toArray (partT p') (0, 0))) (hF : Fr (fun g => g = b ∨ g = c) w w') :
    RepR w' r own N bs vo vd vm { s with opens := s.opens.set i p' } := by
  have hlt : i < s.opens.length := (List.getElem?_eq_some_iff.1 hp).1
  obtain ⟨hbo, _⟩ := h.part i b p hb hp
  have hbo : own b = 2 * i + 2 := hbo
  have keep : ∀ g, g < w.heap.size → own g ≠ 0 → g ≠ b → w'.heap[g]? = w.heap[g]? := fun g hg q1 q2 => hF.block g hg (fun q => by
    rcases q with q | q
    · exact q2 q
    · exact q1 (by rw [q]; exact hc))
  refine ⟨?_, h.rown, ?_, h.oown, ?_, ?_, ?_⟩
  · exact (keep r (lt_of_block h.rd) (by rw [h.rown]; decide) (fun e => by have := h.rown; rw [e, hbo] at this; omega)).trans h.rd
  · show w'.ownsRow 0 _ 1 vo (s.opens.set i _).length (List.zipWith partI (s.opens.set i _) bs)
    rw [List.length_set, zip_set (p' := p') hp hpp]
    exact row_keeps h.opens (fun g hg => keep g (World.ownsRow.lt h.opens g hg).2 (by rw [h.oown g hg]; decide) (fun e => by have := h.oown g hg; rw [e, hbo] at this; omega))
  · exact h.defs.keeps (fun _ q => q) (fun g hg (q : own g = 1) => keep g hg (by omega) (fun e => by rw [e, hbo] at q; omega))
  · show bs.length = (s.opens.set i _).length
    rw [List.length_set]; exact h.len
  · intro j b' q hb' hq
    by_cases hj : j = i
    · subst hj
      have hq : (s.opens.set j p')[j]? = some q := hq
      rw [List.getElem?_set_self hlt] at hq
      cases hq
      rw [hb] at hb'
      cases hb'
      refine ⟨hbo, v, hP, ?_⟩
      have hkv : KidsV w (fun g => own g = 2 * j + 2) (fun g => own g = 2 * j + 3) v (toldK p) := by cases p <;> first | exact hV | cases hC
      have hkw : KidsV w' (fun g => own g = 2 * j + 2) (fun g => own g = 2 * j + 3) v (toldK p') := by
        rw [hk]
        refine kids_at hkv hv (partT_ne p) (by show ¬ own b = 2 * j + 3; omega) (fun g hg q1 q2 => keep g hg (by
          rcases q1 with (q1 : own g = 2 * j + 2) | (q1 : own g = 2 * j + 3) <;> omega) q2)
      cases p' <;> first | exact hkw | cases hC'
    · have hq : (s.opens.set i p')[j]? = some q := hq
      rw [List.getElem?_set_ne (Ne.symm hj)] at hq
      have hne : ∀ g, own g = 2 * j + 2 ∨ own g = 2 * j + 3 → g ≠ b := fun g q e => by rw [e, hbo] at q; omega
      exact (h.part j b' q hb' hq).keeps (fun _ q => q) (fun _ q => q) (fun g hg (q : own g = 2 * j + 2) => keep g hg (by omega) (hne g (.inl q))) (fun g hg (q : own g = 2 * j + 3) => keep g hg (by omega) (hne g (.inr q)))

/-- How many went on is written down. -/
theorem on_rep {w : World} {r : Nat} {own : Nat → Nat} {N : Nat} {bs : List Nat} {vo vd vm : Value} {s : St} (h : RepR w r own N bs vo vd vm s) (k : Nat) : RepR (w.setCell ⟨r, 1, none⟩ (.int .i64 (k : Int))) r own N bs vo vd vm { s with on := k } := by
  have ho : ∀ i, i ≠ r → (w.setCell ⟨r, 1, none⟩ (.int .i64 (k : Int))).heap[i]? = w.heap[i]? := fun i hi => Below.heap_setCell _ _ _ _ (by simpa using hi)
  refine ⟨set_blk h.rd 1 _, h.rown, ?_, h.oown, ?_, h.len, ?_⟩
  · refine row_keeps h.opens (fun g hg => ho g (fun e => ?_))
    obtain ⟨cu, q⟩ := row_block h.opens hg
    rw [e, h.rd] at q
    cases q
  · obtain ⟨d1, d2, d3⟩ := h.defs
    refine ⟨row_keeps d1 (fun i hi => ho i ?_), d2, ?_⟩
    · intro e
      obtain ⟨cu, q⟩ := row_block d1 hi
      rw [e, h.rd] at q
      cases q
    · rcases d3 with d3 | ⟨mm, n, cnt, a1, a2, a3, a4⟩
      · exact .inl d3
      · exact .inr ⟨mm, n, cnt, a1, a2, map_keeps a3 (ho mm (map_ne a3 h.rd)), a4⟩
  · intro i b p hb hp
    exact (h.part i b p hb hp).keeps (fun _ q => q) (fun _ q => q) (fun g _ (q : own g = 2 * i + 2) => ho g (fun e => by rw [e, h.rown] at q; omega)) (fun g _ (q : own g = 2 * i + 3) => ho g (fun e => by rw [e, h.rown] at q; omega))

theorem goes_P (n : Nat) (f : Bool) (σ : Pl) (p : Part) : partP (p.goesOn n f σ).2.1 = partP p ∧ (p.goesOn n f σ).2.1.isC = p.isC ∧ toldK (p.goesOn n f σ).2.1 = toldK p ∧ (p.goesOn n f σ).2.1.isList = p.isList ∧ (p.goesOn n f σ).2.1.isItem = p.isItem ∧ (p.goesOn n f σ).2.1.mass = p.mass ∧ (p.goesOn n f σ).2.1.ext.1 = p.ext.1 ∧ (p.indOk → (p.goesOn n f σ).2.1.indOk) := by
  cases p with
  | quote x => simp only [Part.goesOn]; split <;> exact ⟨rfl, rfl, rfl, rfl, rfl, rfl, rfl, fun q => q⟩
  | item x k => simp only [Part.goesOn]; repeat' split
                all_goals exact ⟨rfl, rfl, rfl, rfl, rfl, rfl, rfl, fun q => q⟩
  | _ => exact ⟨rfl, rfl, rfl, rfl, rfl, rfl, rfl, fun q => q⟩
theorem goes_ext (n : Nat) (f : Bool) (σ : Pl) (p : Part) : (p.goesOn n f σ).2.1.ext.2 = p.ext.2 ∨ (p.goesOn n f σ).2.1.ext.2 = n := by
  cases p with
  | quote x => simp only [Part.goesOn]; split <;> first | exact .inl rfl | exact .inr rfl
  | item x k => simp only [Part.goesOn]; repeat' split
                all_goals exact .inl rfl
  | _ => exact .inl rfl
theorem goes_doc (n : Nat) (f : Bool) (σ : Pl) (x : Box) : Part.goesOn n f σ (.doc x) = (true, .doc x, σ) := rfl
theorem goes_wt (n : Nat) (f : Bool) (σ : Pl) (p : Part) : wt (p.goesOn n f σ).2.2 ≤ wt σ := by
  cases p with
  | quote x =>
    simp only [Part.goesOn]
    split
    · exact Nat.le_refl _
    · exact Nat.le_trans (wt_skip _ _) (wt_move _ _)
  | item x k =>
    simp only [Part.goesOn]
    repeat' split
    all_goals first | exact Nat.le_refl _ | exact wt_skip _ _
  | _ => exact Nat.le_refl _

theorem wf_goes {B N : Nat} {s : St} {i n : Nat} {f : Bool} {σ : Pl} {p : Part} (h : Wf B N s) (hp : s.opens[i]? = some p) (hn : n ≤ B) : Wf B N { s with opens := s.opens.set i (p.goesOn n f σ).2.1 } := by
  obtain ⟨h1, h2, h3, h4, h5, h6, h7, h8⟩ := goes_P n f σ p
  rcases Nat.eq_zero_or_pos i with rfl | hi
  · obtain ⟨x, hx⟩ := h.doc
    rw [hx] at hp
    cases hp
    have : s.opens.set 0 (Part.goesOn n f σ (.doc x)).2.1 = s.opens := by
      rw [goes_doc]
      obtain ⟨hlt, q⟩ := List.getElem?_eq_some_iff.1 hx
      rw [← q]
      exact List.set_getElem_self hlt
    rw [this]
    exact h
  · have he := h.ext i p hp
    refine wf_set (k := 0) h hp hi h2 h4 h5 ⟨by omega, ?_, h8 he.2.2⟩ (by omega)
    rcases goes_ext n f σ p with q | q <;> omega

theorem bgoes_part {w : World} {r c n i b : Nat} {own : Nat → Nat} {N : Nat} {bs : List Nat} {vo vd vm : Value} {s : St} {σ : Pl} {f : Bool} {p : Part} (h : RepR w r own N bs vo vd vm s) (hp : s.opens[i]? = some p) (hb : bs[i]? = some b) (hC : p.isC = true) (hCu : Cur w c σ) (hc : own c = 0) :
    Calls Tryz.prog (goesFn p) #[ptrV b, lnV c n, .bool f] w fun e w' => e = .returned (.bool (p.goesOn n f σ).1) ∧ RepR w' r own N bs vo vd vm { s with opens := s.opens.set i (p.goesOn n f σ).2.1 } ∧ Cur w' c (p.goesOn n f σ).2.2 ∧ Fr (fun g => own g ≠ 0 ∨ g = c) w w' := by
  obtain ⟨hbo, v, hv, hV⟩ := h.part i b p hb hp
  have hbo : own b = 2 * i + 2 := hbo
  have hbc : b ≠ c := fun e => by rw [e, hc] at hbo; omega
  obtain ⟨h1, h2, h3, _⟩ := goes_P n f σ p
  have fin : ∀ w', GoesW w b c (p.goesOn n f σ).2.1 v (p.goesOn n f σ).2.2 w' → RepR w' r own N bs vo vd vm { s with opens := s.opens.set i (p.goesOn n f σ).2.1 } ∧ Cur w' c (p.goesOn n f σ).2.2 ∧ Fr (fun g => own g ≠ 0 ∨ g = c) w w' := by
    intro w' q
    refine ⟨cont_rep h hp hb h1 hC (h2.trans hC) h3 hc hv hV q.1 q.2.2, q.2.1, q.2.2.mono (fun g z => ?_)⟩
    rcases z with z | z
    · exact .inl (by rw [z, hbo]; omega)
    · exact .inr z
  cases p with
  | doc x => exact (bgoes_doc (σ := σ)).mono fun e w' q => ⟨q.1, fin w' ⟨blk_below hv q.2, hCu.below q.2, Fr.of_below q.2⟩⟩
  | list x m => exact (bgoes_list (σ := σ)).mono fun e w' q => ⟨q.1, fin w' ⟨blk_below hv q.2, hCu.below q.2, Fr.of_below q.2⟩⟩
  | quote x => exact (bgoes_quote hv hCu hbc).mono fun e w' q => ⟨q.1, fin w' q.2⟩
  | item x k => exact (bgoes_item hv hV hCu hbc).mono fun e w' q => ⟨q.1, fin w' q.2⟩
  | _ => cases hC

end Go.Proofs.YtcbojffcnlkejaaGreatDoor

/- A leaf takes a line, or not: in memory. -/
namespace Go.Proofs.YtcbojffcnlkejaaGreatDoor
open Go.RowKit
open cur (cell_blk free_blk set_blk blk_below Cur cptr Oth)

def Part.rows : Part → List Str
  | .para b _ | .fenced b _ _ _ _ | .indented b | .html b _ => b.rows
  | _ => []

theorem takes_P (n : Nat) (σ : Pl) (p : Part) : partP (p.takes endsX n σ).2.2.1 = partP p ∧ (p.takes endsX n σ).2.2.1.isC = p.isC ∧ (p.takes endsX n σ).2.2.1.isList = p.isList ∧ (p.takes endsX n σ).2.2.1.isItem = p.isItem ∧ (p.takes endsX n σ).2.2.1.ext.1 = p.ext.1 ∧ ((p.takes endsX n σ).2.2.1.ext.2 = p.ext.2 ∨ (p.takes endsX n σ).2.2.1.ext.2 = n) := by
  cases p with
  | fenced b c k i t => simp only [Part.takes]; split <;> first | exact ⟨rfl, rfl, rfl, rfl, rfl, .inr rfl⟩ | exact ⟨rfl, rfl, rfl, rfl, rfl, .inl rfl⟩
  | indented b =>
    simp only [Part.takes]
    split
    · exact ⟨rfl, rfl, rfl, rfl, rfl, .inl rfl⟩
    · refine ⟨rfl, rfl, rfl, rfl, rfl, ?_⟩
      cases hb : blankB σ
      · right; simp [takeI, Part.ext, hb]
      · left; simp [takeI, Part.ext, hb]
  | html b k => simp only [Part.takes]; split <;> first | exact ⟨rfl, rfl, rfl, rfl, rfl, .inl rfl⟩ | exact ⟨rfl, rfl, rfl, rfl, rfl, .inr rfl⟩
  | _ => exact ⟨rfl, rfl, rfl, rfl, rfl, .inl rfl⟩
theorem takes_wt (n : Nat) (σ : Pl) (p : Part) : wt (p.takes endsX n σ).2.2.2 ≤ wt σ := by
  cases p with
  | fenced b c k i t => simp only [Part.takes]; split <;> first | exact Nat.le_refl _ | exact wt_skip _ _
  | indented b => simp only [Part.takes]; split <;> first | exact Nat.le_refl _ | exact wt_skip _ _
  | html b k => simp only [Part.takes]; split <;> exact Nat.le_refl _
  | _ => exact Nat.le_refl _
theorem bulk_snoc (l : List Str) (t : Str) : bulkL (l ++ [t]) = bulkL l + (t.length + 1) := by
  induction l with
  | nil => simp [bulkL]
  | cons a r ih => simp only [List.cons_append, bulkL, ih]; omega
theorem takes_mass (n : Nat) (σ : Pl) (p : Part) : (p.takes endsX n σ).2.2.1.mass ≤ p.mass + 3 * (wt σ + 1) := by
  have h1 := rest_len σ
  have h2 : ∀ k, (restR (skipR k σ)).length ≤ wt σ := fun k => Nat.le_trans (rest_len _) (wt_skip k σ)
  cases p with
  | fenced b c k i t =>
    simp only [Part.takes]
    split
    · show 3 * bulkL b.rows + 0 + 1 ≤ 3 * bulkL b.rows + 0 + 1 + _; omega
    · show 3 * bulkL (b.rows ++ [restR (skipR i σ)]) + 0 + 1 ≤ 3 * bulkL b.rows + 0 + 1 + _
      rw [bulk_snoc]
      have := h2 i
      omega
  | indented b =>
    simp only [Part.takes]
    split
    · show 3 * bulkL b.rows + 0 + 1 ≤ 3 * bulkL b.rows + 0 + 1 + _; omega
    · show 3 * bulkL (b.rows ++ [restR (skipR 4 σ)]) + 0 + 1 ≤ 3 * bulkL b.rows + 0 + 1 + _
      rw [bulk_snoc]
      have := h2 4
      omega
  | html b k =>
    simp only [Part.takes]
    split
    · show 3 * bulkL b.rows + 0 + 1 ≤ 3 * bulkL b.rows + 0 + 1 + _; omega
    · show 3 * bulkL (b.rows ++ [restR σ]) + 0 + 1 ≤ 3 * bulkL b.rows + 0 + 1 + _
      rw [bulk_snoc]
      omega
  | _ => exact Nat.le_add_right _ _
/-- A row of an indented Code for each line since its first. -/
def Part.since (n : Nat) : Part → Prop
  | .indented b => b.first + b.rows.length = n
  | .whole _ _ _ => False
  | _ => True
theorem takes_ind (n : Nat) (σ : Pl) (p : Part) (h : p.indOk) (hs : p.since n) : (p.takes endsX n σ).2.2.1.indOk := by
  cases p with
  | fenced b c k i t => simp only [Part.takes]; split <;> exact h
  | indented b =>
    simp only [Part.takes]
    obtain ⟨q1, q2⟩ : b.first ≤ b.last ∧ b.last - b.first + 1 ≤ b.rows.length := h
    have hs : b.first + b.rows.length = n := hs
    split
    · exact ⟨q1, q2⟩
    · show b.first ≤ (takeI b n σ).last ∧ (takeI b n σ).last - b.first + 1 ≤ (b.rows ++ [restR (skipR 4 σ)]).length
      rw [List.length_append]
      simp only [takeI, Body.add, List.length_cons, List.length_nil]
      split <;> omega
  | html b k => simp only [Part.takes]; split <;> exact h
  | _ => exact h

theorem takes_rep {w w' : World} {r c n i b : Nat} {own : Nat → Nat} {N : Nat} {bs : List Nat} {vo vd vm : Value} {s : St} {σ' : Pl} {p p' : Part} {v : Value} (h : RepR w r own N bs vo vd vm s) (hp : s.opens[i]? = some p) (hb : bs[i]? = some b) (hc : own c = 0) (hbo : own b = 2 * i + 2) (hblt : b < w.heap.size) (hvo : ∀ g, v.ownBlock = some g → own g = 2 * i + 2) (hpp : partP p' = partP p) (hl : p'.isLined = true) (hT : TakesW w b c v p' p'.rows σ' w') :
    ∃ own', RepR w' r own' N bs vo vd vm { s with opens := s.opens.set i p' } ∧ Cur w' c σ' ∧ StepC w own c w' own' := by
  obtain ⟨v', q1, q2, q3, q4, q5⟩ := hT
  obtain ⟨own', y1, y2⟩ := rows_rep h hp hb hpp hbo hblt hvo hc q1 (fun A S hA => by cases p' <;> first | exact ⟨q2, hA⟩ | cases hl) q3 q5
  exact ⟨own', y1, q4, y2⟩

theorem btakes_part {w : World} {r c n i b B : Nat} {own : Nat → Nat} {N : Nat} {bs : List Nat} {vo vd vm : Value} {s : St} {σ : Pl} {p : Part} (h : RepR w r own N bs vo vd vm s) (hW : Wf B N s) (hB : B ≤ 549755813888) (hp : s.opens[i]? = some p) (hb : bs[i]? = some b) (hl : p.isLined = true) (hCu : Cur w c σ) (hc : own c = 0) (hwt : wt σ < 4294967281) (hM : MLen w) (h0 : own 0 = 0) :
    Calls Tryz.prog (takesFn p) #[ptrV b, lnV c n] w fun e w' => e = .returned (fateV (p.takes endsX n σ).1 (p.takes endsX n σ).2.1) ∧ ∃ own', RepR w' r own' N bs vo vd vm { s with opens := s.opens.set i (p.takes endsX n σ).2.2.1 } ∧ Cur w' c (p.takes endsX n σ).2.2.2 ∧ StepC w own c w' own' := by
  obtain ⟨hbo, v, hv, hV⟩ := h.part i b p hb hp
  have hbo : own b = 2 * i + 2 := hbo
  have hbc : b ≠ c := fun e => by rw [e, hc] at hbo; omega
  have hblt := lt_of_block hv
  have hok := hW.okp hp
  have hio := (hW.ext i p hp).2.2
  have hpp := (takes_P n σ p).1
  have hrl : ∀ x : List Str, bulkL x ≤ B → x.length ≤ 1099511627776 := fun x q => by
    have : x.length ≤ bulkL x := by
      clear q
      induction x with
      | nil => exact Nat.zero_le _
      | cons a t ih => simp only [List.length_cons, bulkL]; omega
    omega
  cases p with
  | para x k =>
    obtain ⟨hr, hvo⟩ := hV
    exact (btakes_para hv hr hCu).mono fun e w' q => ⟨q.1, takes_rep h hp hb hc hbo hblt hvo rfl rfl (n := n) q.2⟩
  | fenced x sg k ind t =>
    obtain ⟨hr, hvo⟩ := hV
    refine (btakes_fenced hv hr (hrl _ hok.2.2.1) hCu hbc hio.1 hio.2 endsX).mono fun e w' q => ⟨q.1, takes_rep h hp hb hc hbo hblt hvo hpp ?_ (n := n) ?_⟩
    · simp only [Part.takes]; split <;> rfl
    · refine cast ?_ q.2
      congr 1
      simp only [Part.takes]
      split <;> rfl
  | indented x =>
    obtain ⟨hr, hvo⟩ := hV
    refine (btakes_indented hv hr (hrl _ hok.2.2.1) hCu hbc endsX).mono fun e w' q => ⟨q.1, takes_rep h hp hb hc hbo hblt hvo hpp ?_ (n := n) ?_⟩
    · simp only [Part.takes]; split <;> rfl
    · refine cast ?_ q.2
      congr 1
      simp only [Part.takes]
      split <;> rfl
  | html x k =>
    obtain ⟨hr, hvo⟩ := hV
    refine (btakes_html hv hr (hrl _ hok.2.2.1) hCu hbc endsX (fun u hu => ?_)).mono fun e w' q => ⟨q.1, takes_rep h hp hb hc hbo hblt hvo hpp ?_ (n := n) ?_⟩
    · refine lends_any k (restR σ) (by have := rest_len σ; omega) u (hM.keeps (hu.block 0 hM.lt (fun q => ?_)))
      rcases q with q | q
      · rw [← q, h0] at hbo; omega
      · have := hvo 0 q
        have : own 0 = 2 * i + 2 := this
        omega
    · simp only [Part.takes]; split <;> rfl
    · refine cast ?_ q.2
      congr 1
      simp only [Part.takes]
      split <;> rfl
  | _ => cases hl

end Go.Proofs.YtcbojffcnlkejaaGreatDoor

/- What is open goes on. -/
namespace Go.Proofs.YtcbojffcnlkejaaGreatDoor
open Go.RowKit
open cur (cell_blk free_blk set_blk blk_below Cur cptr Oth)

/-- How far the containers were gone through. -/
structure GoAt (w : World) (r c n lb : Nat) (own : Nat → Nat) (B N : Nat) (bs : List Nat) (vo vd vm : Value) (s : St) (σ : Pl) (k : Nat) (pre rest : List Part) (on : Nat) (τ : Pl) (wr : World) : Prop where
  plen : pre.length = k
  lens : s.opens.length = k + rest.length
  rep : RepR wr r own N bs vo vd vm ⟨pre ++ rest, on, s.defs⟩
  wf : Wf B N ⟨pre ++ rest, on, s.defs⟩
  go : goF n s.opens.length s.opens 0 σ = (pre ++ (goF n s.opens.length rest k τ).1, (goF n s.opens.length rest k τ).2)
  cu : Cur wr c τ
  wts : Go.Proofs.YtcbojffcnlkejaaGreatDoor.wt τ ≤ Go.Proofs.YtcbojffcnlkejaaGreatDoor.wt σ
  fr : Fr (fun g => own g ≠ 0 ∨ g = c) w wr
  line : wr.heap[lb]? = some (.cells #[cptr c, .int .i64 (n : Int)] 63 (0, 0))

theorem part_mid (pre rest : List Part) (p p' : Part) : (pre ++ p :: rest).set pre.length p' = pre ++ p' :: rest := by
  induction pre with
  | nil => rfl
  | cons a t ih => simp only [List.cons_append, List.length_cons, List.set_cons_succ, ih]
theorem at_mid (pre rest : List Part) (p : Part) : (pre ++ p :: rest)[pre.length]? = some p := by
  rw [List.getElem?_append_right (Nat.le_refl _), Nat.sub_self]; rfl

theorem Wf.onTo {B N : Nat} {s : St} (h : Wf B N s) (k : Nat) (hk : k ≤ s.opens.length) : Wf B N { s with on := k } := ⟨h.doc, h.cont, h.list, h.ext, h.mass, hk⟩

theorem goOn_some {n i : Nat} {s : St} {σ τ : Pl} {o : List Part} (h : goF n s.opens.length s.opens 0 σ = (o, τ, some i)) : s.goOn endsX n σ = (0, { s with opens := o, on := i }, τ) := by
  unfold St.goOn
  rw [h]
theorem goOn_stay {n : Nat} {s : St} {σ τ : Pl} {o : List Part} {p : Part} (h : goF n s.opens.length s.opens 0 σ = (o, τ, none)) (hp : o.getLast? = some p) (hl : p.isLined = false) : s.goOn endsX n σ = (0, { s with opens := o, on := o.length }, τ) := by
  unfold St.goOn
  rw [h]
  simp only [hp]
  cases hc : p.isC
  · obtain ⟨f, l, b, rfl⟩ : ∃ f l b, p = .whole f l b := by
      cases p <;> first | exact ⟨_, _, _, rfl⟩ | (cases hl; done) | (cases hc; done)
    simp only [Part.takes, if_true, if_false, Bool.false_eq_true]
    obtain ⟨ys, rfl⟩ := List.getLast?_eq_some_iff.1 hp
    rw [List.dropLast_concat]
  · rfl
theorem goOn_takes {n : Nat} {s : St} {σ τ : Pl} {o : List Part} {p : Part} (h : goF n s.opens.length s.opens 0 σ = (o, τ, none)) (hp : o.getLast? = some p) (hl : p.isLined = true) : s.goOn endsX n σ = ((p.takes endsX n τ).1, (if (p.takes endsX n τ).2.1 then ({ s with opens := o.dropLast ++ [(p.takes endsX n τ).2.2.1], on := o.length } : St) else ({ s with opens := o.dropLast ++ [(p.takes endsX n τ).2.2.1], on := o.length } : St).close), (p.takes endsX n τ).2.2.2) := by
  unfold St.goOn
  rw [h]
  simp only [hp]
  have hc : p.isC = false := by cases p <;> first | rfl | cases hl
  rw [hc]
  rfl
theorem goF_len (n len : Nat) : ∀ (l : List Part) (i : Nat) (σ : Pl), (goF n len l i σ).1.length = l.length
  | [], i, σ => rfl
  | p :: r, i, σ => by
    simp only [goF]
    split
    · simp only [List.length_cons, goF_len n len r (i + 1) σ]
    · split
      · rfl
      · simp only [List.length_cons, goF_len n len r (i + 1) _]
theorem goF_last (n len : Nat) : ∀ (l : List Part) (i : Nat) (σ : Pl) (q : Part), (goF n len l i σ).1.getLast? = some q → q.isC = false → l.getLast? = some q
  | [], i, σ, q, h, _ => by simp [goF] at h
  | p :: r, i, σ, q, h, hq => by
    have key : ∀ (p' : Part) (r' : List Part), (p'.isC = true ∨ p' = p) → (r' = r ∨ (∃ j τ, r' = (goF n len r j τ).1)) → (p' :: r').getLast? = some q → (p :: r).getLast? = some q := by
      intro p' r' hp' hr' hg
      have hlen : r'.length = r.length → True := fun _ => trivial
      cases hr : r' with
      | nil =>
        rw [hr] at hg
        have hpq : p' = q := by simpa using hg
        have hrn : r = [] := by
          rcases hr' with e | ⟨j, τ, e⟩
          · rw [← e, hr]
          · have := goF_len n len r j τ
            rw [← e, hr] at this
            exact List.length_eq_zero_iff.1 this.symm
        rcases hp' with e | e
        · rw [hpq, hq] at e; cases e
        · rw [hrn, ← e, hpq]; rfl
      | cons a t =>
        rw [hr, List.getLast?_cons_cons, ← hr] at hg
        have hrn : r ≠ [] := by
          intro e
          rcases hr' with e2 | ⟨j, τ, e2⟩
          · rw [e2, e] at hr; cases hr
          · have := goF_len n len r j τ
            rw [← e2, hr, e] at this
            simp at this
        obtain ⟨b, t2, hb⟩ := List.exists_cons_of_ne_nil hrn
        have hl : r.getLast? = some q := by
          rcases hr' with e | ⟨j, τ, e⟩
          · rw [← e]; exact hg
          · rw [e] at hg; exact goF_last n len r j τ q hg hq
        rw [hb] at hl ⊢
        rw [List.getLast?_cons_cons]
        exact hl
    simp only [goF] at h
    split at h
    · exact key p _ (.inr rfl) (.inr ⟨_, _, rfl⟩) h
    · rename_i hc
      have hc : p.isC = true := by simpa using hc
      split at h
      · exact key _ _ (.inl (by rw [(goes_P n _ σ p).2.1]; exact hc)) (.inl rfl) h
      · exact key _ _ (.inl (by rw [(goes_P n _ σ p).2.1]; exact hc)) (.inr ⟨_, _, rfl⟩) h

theorem clip_le {own : Nat → Nat} {w : World} {g : Nat} (h : clip own w g ≠ 0) : own g ≠ 0 := by
  unfold clip at h
  split at h
  · exact h
  · exact absurd rfl h
theorem stepC_clip {w w' : World} {own : Nat → Nat} {c : Nat} (h : Fr (fun g => clip own w g ≠ 0 ∨ g = c) w w') : StepC w own c w' (clip own w) :=
  ⟨h.mono (fun g q => q.imp clip_le (fun e => e)), fun g hg h0 => by rw [clip_old hg]; exact h0⟩

set_option maxHeartbeats 8000000 in
theorem bgoOn_any {w : World} {r c n L : Nat} {own : Nat → Nat} {B : Nat} {s : St} {σ : Pl} (h : Good w r own B s) (hB : B + 3 * (L + 1) ≤ 549755813888) (hC : Cur w c σ) (hc : own c = 0) (hn : n ≤ B) (hL : wt σ ≤ L) (hL2 : L ≤ 2147483648) (hM : MLen w) (h0 : own 0 = 0) (hc0 : c ≠ 0) (hsince : ∀ q, s.opens.getLast? = some q → q.since n) :
    Calls Tryz.prog 27 #[ptrV r, lnV c n] w fun e w' => e = .returned (.int .i64 ((s.goOn endsX n σ).1 : Int)) ∧ LeftC w r own c (B + 3 * (L + 1)) (s.goOn endsX n σ).2.1 (s.goOn endsX n σ).2.2 w' := by
  have hli := line_blk c n w
  have HB1 : Hid (Below w.heap.size w (w.alloc (.cells #[cptr c, .int .i64 (n : Int)] 63))) := (Below.refl _ _).alloc (Nat.le_refl _) _
  have hclt := hC.lt
  have hcw : clip own w c = 0 := by rw [clip_old hclt]; exact hc
  have hlbo : clip own w w.heap.size = 0 := clip_new (Nat.le_refl _)
  obtain ⟨N, ⟨bs, vo, vd, vm, hR0⟩, hW0⟩ := h.clip
  have hR := hR0.keeps (w' := w.alloc (.cells #[cptr c, .int .i64 (n : Int)] 63)) (fun g hg _ => HB1.out.block g hg)
  have hC1 := hC.below HB1.out
  obtain ⟨m, hm⟩ : ∃ m, s.opens.length = m + 1 := by
    obtain ⟨x, hx⟩ := hW0.doc
    have := (List.getElem?_eq_some_iff.1 hx).1
    exact ⟨s.opens.length - 1, by omega⟩
  have hlen := hW0.len.1
  obtain ⟨g, cap, cu, hv, hg⟩ : ∃ g cap cu, vo = .slice (some ⟨g, 0, none⟩) s.opens.length cap ∧ w.heap[g]? = some (.cells cu 66 (0, 0)) := by
    rcases hR0.opens.2 with ⟨_, q⟩ | ⟨g, cap, cu, rfl, _, hg, hn, _⟩
    · omega
    · exact ⟨g, cap, cu, rfl, hg⟩
  subst hv
  generalize hW : w.alloc (.cells #[cptr c, .int .i64 (n : Int)] 63) = W1 at *
  have c0 := cell_blk hR.rd (i := 0) rfl
  simp only [List.getElem_toArray, List.getElem_cons_zero] at c0
  have HStart : Hid (GoAt w r c n w.heap.size (clip own w) B N bs (.slice (some ⟨g, 0, none⟩) s.opens.length cap) vd vm s σ 0 [] s.opens s.on σ W1) := ⟨rfl, by simp, hR, hW0, by simp, hC1, Nat.le_refl _, Fr.of_below HB1.out, hli⟩
  have HMm : Hid (s.opens.length = m + 1) := hm
  have HLe : Hid (s.opens.length ≤ B) := hlen
  clear hR hR0 hli hC1 hm hlen h hC hW0 hg
  generalize hlbe : w.heap.size = lb at *
  go_enter Tryz.func27, Tryz.ntmps27
  go_wp2
  go_loopw [18] (fun t wr => ∃ (k : Nat) (pre rest : List Part) (on : Nat) (τ : Pl), t = .int .i64 (k : Int) ∧ Hid (GoAt w r c n lb (clip own w) B N bs (.slice (some ⟨g, 0, none⟩) s.opens.length cap) vd vm s σ k pre rest on τ wr)) (fun t _ => s.opens.length - (intOf t).toNat)
  case atStart => exact ⟨0, [], s.opens, s.on, σ, rfl, HStart.out⟩
  case round =>
    obtain ⟨k, pre, rest, on, τ, rfl, HG⟩ := hrel
    cases rest with
    | nil =>
      have hke : s.opens.length = k := by have := HG.out.lens; simpa using this
      have hge : ¬ (k : Int) < (s.opens.length : Int) := by omega
      have hpl : pre.length = m + 1 := by rw [HG.out.plen, ← hke]; exact HMm.out
      have hgo : goF n s.opens.length s.opens 0 σ = (pre, τ, none) := by
        have q := HG.out.go
        simp only [goF, List.append_nil] at q
        exact q
      have hrep := HG.out.rep
      have hwf := HG.out.wf
      rw [List.append_nil] at hrep hwf
      obtain ⟨p, hp⟩ : ∃ p, pre[m]? = some p := ⟨_, List.getElem?_eq_getElem (by omega)⟩
      have hlast : pre.getLast? = some p := by rw [List.getLast?_eq_getElem?, hpl]; exact hp
      have hV : RepR (wr.setCell ⟨r, 1, none⟩ (.int .i64 ((s.opens.length : Nat) : Int))) r (clip own w) N bs (.slice (some ⟨g, 0, none⟩) s.opens.length cap) vd vm ⟨pre, s.opens.length, s.defs⟩ := on_rep hrep s.opens.length
      obtain ⟨b, hb, _⟩ := hV.at (i := m) hp
      have HIn : Hid (Calls Tryz.prog 23 #[ptrV r] (wr.setCell ⟨r, 1, none⟩ (.int .i64 ((s.opens.length : Nat) : Int))) fun e w' => e = .returned (.iface (partP p) (ptrV b)) ∧ ∃ m, w' = (wr.setCell ⟨r, 1, none⟩ (.int .i64 ((s.opens.length : Nat) : Int))).drewN m) := binner_any hV hpl hp hb (by have := HLe.out; have := HMm.out; omega)
      have hlr : lb ≠ r := fun e => by have q := HG.out.line; rw [e, HG.out.rep.rd] at q; cases q
      have HLn : Hid ((wr.setCell ⟨r, 1, none⟩ (.int .i64 ((s.opens.length : Nat) : Int))).heap[lb]? = some (.cells #[cptr c, .int .i64 (n : Int)] 63 (0, 0))) := (Below.heap_setCell _ _ _ _ (by simpa using hlr)).trans HG.out.line
      have HCV : Hid (Cur (wr.setCell ⟨r, 1, none⟩ (.int .i64 ((s.opens.length : Nat) : Int))) c τ) := HG.out.cu.oth ((Oth.refl r wr).set 1 _) (fun e => by have q := HG.out.rep.rown; rw [← e, hcw] at q; cases q)
      have HFV : Hid (Fr (fun g => clip own w g ≠ 0 ∨ g = c) w (wr.setCell ⟨r, 1, none⟩ (.int .i64 ((s.opens.length : Nat) : Int)))) := HG.out.fr.set (.inl (by rw [HG.out.rep.rown]; decide)) 1 _
      have HV := (show Hid _ from hV)
      have r1 := free_blk hrep.rd 1
      have q1 := cell_blk hrep.rd (i := 1) rfl
      have q0 := cell_blk hrep.rd (i := 0) rfl
      simp only [List.getElem_toArray, List.getElem_cons_zero, List.getElem_cons_succ] at q1 q0
      have tl := fun w => as_lined p b w
      have hwf' : Wf B N ⟨pre, s.opens.length, s.defs⟩ := hwf.onTo s.opens.length (by show s.opens.length ≤ pre.length; rw [hpl, ← HMm.out]; exact Nat.le_refl _)
      have HWf := (show Hid _ from hwf')
      have hon : pre.length = s.opens.length := by rw [hpl, HMm.out]
      have HON := (show Hid _ from hon)
      have HGO := (show Hid _ from hgo)
      clear hV hrep hwf hwf' hgo hon hke hpl
      cases hpl2 : p.isLined
      · rw [hpl2] at tl
        simp only [ifI, partI, if_false, Bool.false_eq_true] at tl
        have HR : Hid (s.goOn endsX n σ = (0, { s with opens := pre, on := s.opens.length }, τ)) := by
          show _ = _
          rw [goOn_stay HGO.out hlast hpl2, HON.out]
        generalize partP p = T at *
        go_wp2_with (go_at_call 23; refine HIn.out.mono ?_; rintro e u ⟨rfl, mm, rfl⟩)
        go_ret
        rw [HR.out]
        exact ⟨rfl, clip own w, Good.more (B := B) ⟨N, ⟨_, _, _, _, HV.out.drewN mm⟩, HWf.out⟩ (Nat.le_add_right _ _), HCV.out.drewN mm, stepC_clip (HFV.out.drewN mm)⟩
      · rw [hpl2] at tl
        simp only [ifI, partI, if_true] at tl
        have HR := (show Hid _ from goOn_takes HGO.out hlast hpl2)
        have mt := fun w => mth_takes p hpl2 b w
        have ct := fun args w => cf_takes p args w
        have hwtτ : wt τ ≤ L := Nat.le_trans HG.out.wts hL
        have hms : p.since n := hsince p (goF_last n _ _ _ _ _ (by rw [HGO.out]; exact hlast) (by cases p <;> first | rfl | (cases hpl2; done)))
        have hm0 : 0 < m := by
          rcases Nat.eq_zero_or_pos m with e | e
          · obtain ⟨x, hx⟩ := HWf.out.doc
            rw [e] at hp
            have hx : pre[0]? = some (.doc x) := hx
            rw [hp] at hx
            cases hx
            cases hpl2
          · exact e
        have hM1 : ∀ mm, MLen ((wr.setCell ⟨r, 1, none⟩ (.int .i64 ((s.opens.length : Nat) : Int))).drewN mm) := fun mm => hM.keeps ((HFV.out.drewN mm).block 0 (by have := hM.lt; exact this) (fun z => by
          rcases z with z | z
          · exact z (by rw [clip_old hM.lt]; exact h0)
          · exact hc0 z.symm))
        have HTk : Hid (∀ mm, Calls Tryz.prog (takesFn p) #[ptrV b, lnV c n] ((wr.setCell ⟨r, 1, none⟩ (.int .i64 ((s.opens.length : Nat) : Int))).drewN mm) fun e w' => e = .returned (fateV (p.takes endsX n τ).1 (p.takes endsX n τ).2.1) ∧
            LeftC w r own c (B + 3 * (L + 1)) { s with opens := pre.dropLast ++ [(p.takes endsX n τ).2.2.1], on := pre.length } (p.takes endsX n τ).2.2.2 w') := fun mm => by
          refine (btakes_part (HV.out.drewN mm) HWf.out (by omega) hp hb hpl2 (HCV.out.drewN mm) hcw (by omega) (hM1 mm) (by rw [clip_old hM.lt]; exact h0)).mono ?_
          rintro e w' ⟨rfl, own', y1, y2, y3⟩
          obtain ⟨t1, t2, t3, t4, t5, t6⟩ := takes_P n τ p
          have hex := HWf.out.ext m p hp
          have hwf3 := wf_set (k := 3 * (L + 1)) HWf.out hp hm0 t2 t3 t4 ⟨by omega, by rcases t6 with t6 | t6 <;> omega, takes_ind n τ p hex.2.2 hms⟩ (by have := takes_mass n τ p; omega)
          have hset : pre.set m (p.takes endsX n τ).2.2.1 = pre.dropLast ++ [(p.takes endsX n τ).2.2.1] := set_last (by rw [HON.out, HMm.out]) _
          simp only [hset] at y1 hwf3
          rw [HON.out]
          refine ⟨rfl, own', ⟨N, ⟨_, _, _, _, y1⟩, hwf3⟩, y2, (stepC_clip (HFV.out.drewN mm)).trans y3⟩
        have l0 := fun mm : Nat => cell_blk (w := (wr.setCell ⟨r, 1, none⟩ (.int .i64 ((s.opens.length : Nat) : Int))).drewN mm) HLn.out (i := 0) rfl
        have l1 := fun mm : Nat => cell_blk (w := (wr.setCell ⟨r, 1, none⟩ (.int .i64 ((s.opens.length : Nat) : Int))).drewN mm) HLn.out (i := 1) rfl
        simp only [List.getElem_toArray, List.getElem_cons_zero, List.getElem_cons_succ] at l0 l1
        have h2 : 2 ≤ (pre.dropLast ++ [(p.takes endsX n τ).2.2.1]).length := by
          rw [List.length_append, List.length_dropLast, HON.out, HMm.out]
          simp only [List.length_cons, List.length_nil]
          omega
        generalize partP p = T at *
        generalize takesFn p = KF at *
        go_wp2_with (go_at_call 23; refine HIn.out.mono ?_; rintro e u ⟨rfl, mm, rfl⟩)
        refine (HTk.out mm).mono ?_
        rintro e u2 ⟨rfl, hLt⟩
        have HLt := (show Hid _ from hLt)
        clear hLt HTk l0 l1 mt ct tl HIn HV HCV HFV HLn HG r1 q1 q0 c0
        have HCl : Hid (∀ own', Good u2 r own' (B + 3 * (L + 1)) { s with opens := pre.dropLast ++ [(p.takes endsX n τ).2.2.1], on := pre.length } → Calls Tryz.prog 30 #[ptrV r] u2 fun e w' => e = .returned (.tuple #[]) ∧ Left u2 r own' (B + 3 * (L + 1)) (St.close { s with opens := pre.dropLast ++ [(p.takes endsX n τ).2.2.1], on := pre.length }) w') := fun own' q => bclose_good q (by omega) h2
        generalize p.takes endsX n τ = t at *
        obtain ⟨tf, ts, tp, tσ⟩ := t
        simp only at HLt HCl HR
        cases ts
        · obtain ⟨own', g1, g2, g3⟩ := HLt.out
          have HC2 := (show Hid _ from HCl.out own' g1)
          have HG2 : Hid (Cur u2 c tσ) := g2
          have HG3 : Hid (StepC w own c u2 own') := g3
          clear g1 g2 g3 HLt HCl
          go_wp2_with (go_at_call 30; refine Calls.mono HC2.out ?_; rintro e u3 ⟨rfl, hLf⟩)
          go_ret
          rw [HR.out]
          obtain ⟨own2, g4, g5⟩ := hLf
          refine ⟨rfl, own2, g4, cur_fr HG2.out g5.1 (fun q => q (HG3.out.2 c (by have := hclt; omega) hc)), HG3.out.trans (g5.toC c)⟩
        · go_wp2
          go_ret
          rw [HR.out]
          exact ⟨rfl, HLt.out⟩
    | cons p rest =>
      have hlt : k < s.opens.length := by have := HG.out.lens; simp only [List.length_cons] at this; omega
      have hlt' : (k : Int) < (s.opens.length : Int) := by omega
      have hp : (pre ++ p :: rest)[k]? = some p := by rw [← HG.out.plen]; exact at_mid _ _ _
      obtain ⟨b, hb, _⟩ := HG.out.rep.at (i := k) hp
      have hcell := HG.out.rep.opens.cells (g := g) rfl k (partI p b) (zip_at hb hp)
      have he : (⟨g, 0, none⟩ : Addr).add k = ⟨g, k, none⟩ := by
        unfold Addr.add
        split
        · rename_i q; subst q; rfl
        · simp
      rw [he] at hcell
      have r1 := free_blk HG.out.rep.rd 1
      have q1 := cell_blk HG.out.rep.rd (i := 1) rfl
      simp only [List.getElem_toArray, List.getElem_cons_zero, List.getElem_cons_succ] at q1
      have tc := fun w => as_cont p b w
      cases hpc : p.isC
      · rw [hpc] at tc
        have HV : Hid (RepR (wr.setCell ⟨r, 1, none⟩ (.int .i64 (k : Int))) r (clip own w) N bs (.slice (some ⟨g, 0, none⟩) s.opens.length cap) vd vm ⟨pre ++ p :: rest, k, s.defs⟩) := on_rep HG.out.rep k
        have hlr : lb ≠ r := fun e => by have q := HG.out.line; rw [e, HG.out.rep.rd] at q; cases q
        have HLn : Hid ((wr.setCell ⟨r, 1, none⟩ (.int .i64 (k : Int))).heap[lb]? = some (.cells #[cptr c, .int .i64 (n : Int)] 63 (0, 0))) := (Below.heap_setCell _ _ _ _ (by simpa using hlr)).trans HG.out.line
        have HCV : Hid (Cur (wr.setCell ⟨r, 1, none⟩ (.int .i64 (k : Int))) c τ) := HG.out.cu.oth ((Oth.refl r wr).set 1 _) (fun e => by have q := HG.out.rep.rown; rw [← e, hcw] at q; cases q)
        have HFV : Hid (Fr (fun g => clip own w g ≠ 0 ∨ g = c) w (wr.setCell ⟨r, 1, none⟩ (.int .i64 (k : Int)))) := HG.out.fr.set (.inl (by rw [HG.out.rep.rown]; decide)) 1 _
        simp only [ifI, partI, if_false, Bool.false_eq_true] at tc
        simp only [partI] at hcell
        have hk1 : (k : Int) < 1099511627776 := by have := HLe.out; omega
        go_wp2
        generalize wr.setCell ⟨r, 1, none⟩ (.int .i64 (k : Int)) = V at *
        clear q1 r1 c0 hcell tc hb he
        generalize partP p = T at *
        go_quiet (fail)
        go_wp2
        have hgo := HG.out.go
        simp only [goF, hpc, if_true] at hgo
        have hap : ∀ (a : Part) (t : List Part), pre ++ [a] ++ t = pre ++ a :: t := fun a t => by simp
        have hwf := HG.out.wf.onTo k (by simp [HG.out.plen])
        go_roundw
        case rel =>
          refine ⟨k + 1, pre ++ [p], rest, k, τ, by go_num, ?_⟩
          refine ⟨by rw [List.length_append, HG.out.plen]; rfl, by have := HG.out.lens; simp only [List.length_cons] at this; omega, ?_, ?_, ?_, HCV.out.drewN _, HG.out.wts, HFV.out.drewN _, HLn.out⟩
          · rw [hap]; exact HV.out.drewN _
          · rw [hap]; exact hwf
          · rw [hap]; exact hgo
        case measure => simp [intOf]; omega
      · rw [hpc] at tc
        simp only [ifI, partI, if_true] at tc
        simp only [partI] at hcell
        have HV : Hid (RepR (wr.setCell ⟨r, 1, none⟩ (.int .i64 (k : Int))) r (clip own w) N bs (.slice (some ⟨g, 0, none⟩) s.opens.length cap) vd vm ⟨pre ++ p :: rest, k, s.defs⟩) := on_rep HG.out.rep k
        have hlr : lb ≠ r := fun e => by have q := HG.out.line; rw [e, HG.out.rep.rd] at q; cases q
        have HLn : Hid ((wr.setCell ⟨r, 1, none⟩ (.int .i64 (k : Int))).heap[lb]? = some (.cells #[cptr c, .int .i64 (n : Int)] 63 (0, 0))) := (Below.heap_setCell _ _ _ _ (by simpa using hlr)).trans HG.out.line
        have HCV : Hid (Cur (wr.setCell ⟨r, 1, none⟩ (.int .i64 (k : Int))) c τ) := HG.out.cu.oth ((Oth.refl r wr).set 1 _) (fun e => by have q := HG.out.rep.rown; rw [← e, hcw] at q; cases q)
        have HFV : Hid (Fr (fun g => clip own w g ≠ 0 ∨ g = c) w (wr.setCell ⟨r, 1, none⟩ (.int .i64 (k : Int)))) := HG.out.fr.set (.inl (by rw [HG.out.rep.rown]; decide)) 1 _
        have mg := fun w => mth_goes p hpc b w
        have cg := fun args w => cf_goes p args w
        have ng := fun w => na_goes p hpc b w
        have hk1 : (k : Int) < 1099511627776 := by have := HLe.out; omega
        go_wp2
        generalize wr.setCell ⟨r, 1, none⟩ (.int .i64 (k : Int)) = V at *
        have HGo : Hid (∀ u : BwW V, Calls Tryz.prog (goesFn p) #[ptrV b, lnV c n, .bool (decide ((k : Int) + 1 < (s.opens.length : Int)))] u.wo fun e w' => e = .returned (.bool (p.goesOn n (decide (k + 1 < s.opens.length)) τ).1) ∧
            ((p.goesOn n (decide (k + 1 < s.opens.length)) τ).1 = false → (s.goOn endsX n σ).1 = 0 ∧ LeftC w r own c (B + 3 * (L + 1)) (s.goOn endsX n σ).2.1 (s.goOn endsX n σ).2.2 w') ∧
            ((p.goesOn n (decide (k + 1 < s.opens.length)) τ).1 = true → GoAt w r c n lb (clip own w) B N bs (.slice (some ⟨g, 0, none⟩) s.opens.length cap) vd vm s σ (k + 1) (pre ++ [(p.goesOn n (decide (k + 1 < s.opens.length)) τ).2.1]) rest k (p.goesOn n (decide (k + 1 < s.opens.length)) τ).2.2 w')) := fun u => by
          have hd : decide ((k : Int) + 1 < (s.opens.length : Int)) = decide (k + 1 < s.opens.length) := by
            rw [Bool.eq_iff_iff, decide_eq_true_eq, decide_eq_true_eq]; omega
          rw [hd]
          have hcV : Cur V c τ := HCV.out
          refine (bgoes_part (HV.out.keeps (w' := u.wo) (fun g hg _ => u.is.block g hg)) hp hb hpc (hcV.below u.is) hcw).mono ?_
          rintro e w' ⟨rfl, q1, q2, q3⟩
          have hset : (pre ++ p :: rest).set k (p.goesOn n (decide (k + 1 < s.opens.length)) τ).2.1 = pre ++ (p.goesOn n (decide (k + 1 < s.opens.length)) τ).2.1 :: rest := by rw [← HG.out.plen]; exact part_mid _ _ _ _
          have hwf := wf_goes (f := decide (k + 1 < s.opens.length)) (σ := τ) (HG.out.wf.onTo k (by simp [HG.out.plen])) hp hn
          have hgo := HG.out.go
          simp only [hset] at q1 hwf
          have hfr : Fr (fun g => clip own w g ≠ 0 ∨ g = c) w w' := (HFV.out.trans (Fr.of_below u.is)).trans q3
          simp only [goF, hpc, Bool.true_eq_false, if_false] at hgo
          refine ⟨rfl, fun hf => ?_, fun ht => ?_⟩
          · rw [hf, if_pos rfl] at hgo
            rw [goOn_some hgo]
            exact ⟨rfl, clip own w, Good.more (B := B) ⟨N, ⟨_, _, _, _, q1⟩, hwf⟩ (Nat.le_add_right _ _), q2, stepC_clip hfr⟩
          · rw [ht, if_neg (by decide)] at hgo
            have hap : ∀ (a : Part) (t : List Part), pre ++ [a] ++ t = pre ++ a :: t := fun a t => by simp
            refine ⟨by rw [List.length_append, HG.out.plen]; rfl, by have := HG.out.lens; simp only [List.length_cons] at this; omega, ?_, ?_, ?_, q2, Nat.le_trans (goes_wt _ _ _ _) HG.out.wts, hfr, ?_⟩
            · rw [hap]; exact q1
            · rw [hap]; exact hwf
            · rw [hap]; exact hgo
            · exact q3.keeps (u.blk HLn.out) (fun z => by
                rcases z with z | z
                · exact z hlbo
                · have := hclt; omega)
        have l0 := fun u : BwW V => cell_blk (u.blk HLn.out) (i := 0) rfl
        have l1 := fun u : BwW V => cell_blk (u.blk HLn.out) (i := 1) rfl
        have z0 := fun u : BwW V => cell_blk (u.blk HV.out.rd) (i := 0) rfl
        simp only [List.getElem_toArray, List.getElem_cons_zero, List.getElem_cons_succ] at l0 l1 z0
        clear q1 r1 c0 hcell tc hp hb he
        generalize partP p = T at *
        generalize goesFn p = KF at *
        refine region_tail (fun w' => ∃ u : BwW V, w' = u.wo) 15 (by kernel_rfl) (by kernel_rfl) (BwW.first V) ?_
        simp only [List.take_succ_cons, List.take_zero]
        haveI := BwW.some V
        repeat (go_big_quiet_step (fail))
        refine wpQuiet_nil ?_
        intro _ hw'
        obtain ⟨u5, hu5⟩ := hw'
        subst hu5
        simp only [List.drop_succ_cons, List.drop_zero]
        go_wp2
        refine (HGo.out u5).mono ?_
        rintro e u6 ⟨rfl, hA, hB2⟩
        have HA := (show Hid _ from hA)
        have HB2 := (show Hid _ from hB2)
        clear hA hB2 HGo l0 l1 z0 mg cg ng
        generalize (p.goesOn n (decide (k + 1 < s.opens.length)) τ).1 = g1 at *
        cases g1
        · obtain ⟨hz, hLL⟩ := HA.out rfl
          go_wp2
          go_ret
          exact ⟨ret_nat (by rw [hz]; rfl), hLL⟩
        · have hGA := HB2.out rfl
          go_wp2
          go_roundw
          case rel => exact ⟨k + 1, _, rest, k, _, by go_num, hGA⟩
          case measure => simp [intOf]; omega

end Go.Proofs.YtcbojffcnlkejaaGreatDoor

/- Plain mathematics: what a line leaves open. -/
namespace Go.Proofs.YtcbojffcnlkejaaGreatDoor

theorem close_at {s : St} {n : Nat} (hn : s.opens.length = n + 2) (hc : ∀ c, s.opens[n]? = some c → c.isC = true) :
    (∀ q, s.close.opens.getLast? = some q → q.isC = true) ∧ s.close.opens.length = n + 1 ∧ s.close.on = min s.on (n + 1) := by
  obtain ⟨p, hp⟩ : ∃ p, s.opens[n + 1]? = some p := ⟨_, List.getElem?_eq_getElem (by omega)⟩
  obtain ⟨c, hc1⟩ : ∃ c, s.opens[n]? = some c := ⟨_, List.getElem?_eq_getElem (by omega)⟩
  rw [close_eq hn hp hc1]
  have hl : (((s.opens.set (n + 1) (St.takeOff p s.defs).1).take (n + 1)).set n (c.hold (St.takeOff p s.defs).1)).length = n + 1 := by
    rw [List.length_set, List.length_take, List.length_set, hn]; omega
  refine ⟨fun q hq => ?_, hl, rfl⟩
  have hq : (((s.opens.set (n + 1) (St.takeOff p s.defs).1).take (n + 1)).set n (c.hold (St.takeOff p s.defs).1)).getLast? = some q := hq
  rw [List.getLast?_eq_getElem?, hl, show n + 1 - 1 = n by omega, List.getElem?_set_self (by rw [List.length_take, List.length_set, hn]; omega)] at hq
  cases hq
  rw [hold_C]
  exact hc c hc1

theorem clear_wf {B N : Nat} {s : St} (h : Wf B N s) (h1 : 1 ≤ s.on) : ∃ N', Wf B N' s.clear ∧ 1 ≤ s.clear.on := by
  obtain ⟨N1, w1, o1⟩ := leave_wf _ B N s rfl h h1
  unfold St.clear
  split
  · rename_i hp
    have h2 := para_two w1 hp
    obtain ⟨N2, w2, _, _, o2, _⟩ := close_last w1 h2
    exact ⟨N2, w2, by rw [o2]; omega⟩
  · exact ⟨N1, w1, o1⟩

/-- What a part stands behind. -/
theorem stand_on {B N : Nat} {s : St} (h : Wf B N s) (h1 : 1 ≤ s.on) (hl : LeafLeft s) (p : Part) : ∃ X : List Part, (s.stand p).opens = X ++ [p] ∧ (s.stand p).on = X.length + 1 ∧ X ≠ [] ∧ ∀ q, X.getLast? = some q → q.isC = true := by
  obtain ⟨N1, w1, o1⟩ := clear_wf h h1
  have hc := clear_cont h h1 hl
  unfold St.stand
  split
  · rename_i hi
    have h2 := list_two w1 hi
    obtain ⟨N2, w2, l2, e2, _⟩ := close_last w1 h2
    refine ⟨s.clear.close.opens, rfl, rfl, fun e => ?_, l2⟩
    rw [e] at e2
    simp at e2
    omega
  · refine ⟨s.clear.opens, rfl, rfl, fun e => ?_, hc⟩
    obtain ⟨x, hx⟩ := w1.doc
    rw [e] at hx
    simp at hx
theorem stand_close {B N : Nat} {s : St} (h : Wf B N s) (h1 : 1 ≤ s.on) (hl : LeafLeft s) (p : Part) : ∀ q, (s.stand p).close.opens.getLast? = some q → q.isC = true := by
  obtain ⟨X, e1, e2, e3, e4⟩ := stand_on h h1 hl p
  obtain ⟨n, hn⟩ : ∃ n, X.length = n + 1 := ⟨X.length - 1, by have := List.length_pos_iff.2 e3; omega⟩
  refine (close_at (n := n) (by rw [e1, List.length_append, hn]; rfl) (fun c hc => e4 c ?_)).1
  rw [e1, List.getElem?_append_left (by omega)] at hc
  rw [List.getLast?_eq_getElem?, hn]
  exact hc

/-- The document is always there, and goes on. -/
theorem goF_some (n len : Nat) : ∀ (l : List Part) (i : Nat) (σ : Pl) (j : Nat), (goF n len l i σ).2.2 = some j → i ≤ j ∧ j < i + l.length
  | [], i, σ, j, h => by simp [goF] at h
  | p :: r, i, σ, j, h => by
    simp only [goF] at h
    split at h
    · have := goF_some n len r (i + 1) σ j h
      simp only [List.length_cons]; omega
    · split at h
      · simp only [Option.some.injEq] at h
        simp only [List.length_cons]; omega
      · have := goF_some n len r (i + 1) _ j h
        simp only [List.length_cons]; omega
theorem goF_doc (n len : Nat) (x : Box) (r : List Part) (σ : Pl) (j : Nat) (h : (goF n len (.doc x :: r) 0 σ).2.2 = some j) : 1 ≤ j ∧ j < r.length + 1 := by
  have e : goF n len (.doc x :: r) 0 σ = (.doc x :: (goF n len r 1 σ).1, (goF n len r 1 σ).2) := rfl
  rw [e] at h
  have := goF_some n len r 1 _ j h
  omega
theorem goF_C (n len : Nat) : ∀ (l : List Part) (i : Nat) (σ : Pl), (goF n len l i σ).1.map Part.isC = l.map Part.isC
  | [], i, σ => rfl
  | p :: r, i, σ => by
    simp only [goF]
    split
    · simp only [List.map_cons, goF_C n len r (i + 1) σ]
    · split
      · simp only [List.map_cons, (goes_P n _ σ p).2.1]
      · simp only [List.map_cons, (goes_P n _ σ p).2.1, goF_C n len r (i + 1) _]
theorem goF_wt (n len : Nat) : ∀ (l : List Part) (i : Nat) (σ : Pl), wt (goF n len l i σ).2.1 ≤ wt σ
  | [], i, σ => Nat.le_refl _
  | p :: r, i, σ => by
    simp only [goF]
    split
    · exact goF_wt n len r (i + 1) σ
    · split
      · exact goes_wt _ _ _ _
      · exact Nat.le_trans (goF_wt n len r (i + 1) _) (goes_wt _ _ _ _)

theorem takes_fate (n : Nat) (σ : Pl) (p : Part) (h : p.isLined = true) : ((p.takes endsX n σ).1 = 0 → (p.takes endsX n σ).2.1 = false ∨ p.isPara = true) ∧ ((p.takes endsX n σ).1 = 0 ∨ (p.takes endsX n σ).1 = 2) := by
  cases p with
  | fenced b c k i t => simp only [Part.takes]; split <;> exact ⟨(fun q => by cases q), .inr rfl⟩
  | indented b => simp only [Part.takes]; split <;> first | exact ⟨fun _ => .inl rfl, .inl rfl⟩ | exact ⟨(fun q => by cases q), .inr rfl⟩
  | html b k => simp only [Part.takes]; split <;> first | exact ⟨fun _ => .inl rfl, .inl rfl⟩ | exact ⟨(fun q => by cases q), .inr rfl⟩
  | para b l => exact ⟨fun _ => .inr rfl, .inl rfl⟩
  | _ => cases h
theorem takes_since (n : Nat) (σ : Pl) (p : Part) (h : p.since n) (h2 : (p.takes endsX n σ).1 = 2) : (p.takes endsX n σ).2.2.1.since (n + 1) := by
  cases p with
  | fenced b c k i t => simp only [Part.takes]; split <;> trivial
  | indented b =>
    have h : b.first + b.rows.length = n := h
    simp only [Part.takes] at h2 ⊢
    split
    · rename_i q; rw [if_pos q] at h2; cases h2
    · show b.first + (b.rows ++ [restR (skipR 4 σ)]).length = n + 1
      rw [List.length_append]
      simp only [List.length_cons, List.length_nil]
      omega
  | html b k => simp only [Part.takes]; split <;> trivial
  | para b l => cases h2
  | _ => cases h2
theorem isC_since {p : Part} (h : p.isC = true) (n : Nat) : p.since n := by cases p <;> first | trivial | cases h
theorem takes_C (n : Nat) (σ : Pl) (p : Part) : (p.takes endsX n σ).2.2.1.isPara = p.isPara := by
  cases p with
  | fenced b c k i t => simp only [Part.takes]; split <;> rfl
  | indented b => simp only [Part.takes]; split <;> rfl
  | html b k => simp only [Part.takes]; split <;> rfl
  | _ => rfl

/-- What is so of a reader when something may begin. -/
structure Ready (s : St) : Prop where
  on : 1 ≤ s.on
  leaf : LeafLeft s

theorem goOn_after {B N n : Nat} {s : St} {σ : Pl} (h : Wf B N s) (hs : ∀ q, s.opens.getLast? = some q → q.since n) :
    ((s.goOn endsX n σ).1 = 0 → Ready (s.goOn endsX n σ).2.1) ∧ ((s.goOn endsX n σ).1 = 0 ∨ (s.goOn endsX n σ).1 = 2) ∧ ((s.goOn endsX n σ).1 = 2 → ∀ q, (s.goOn endsX n σ).2.1.opens.getLast? = some q → q.since (n + 1)) ∧ wt (s.goOn endsX n σ).2.2 ≤ wt σ := by
  obtain ⟨x, hx⟩ := h.doc
  obtain ⟨d, t, hd⟩ : ∃ d t, s.opens = d :: t := by
    cases hq : s.opens with
    | nil => rw [hq] at hx; simp at hx
    | cons d t => exact ⟨d, t, rfl⟩
  have hdx : d = .doc x := by rw [hd] at hx; simpa using hx
  have hw := goF_wt n s.opens.length s.opens 0 σ
  obtain ⟨o, τ, e, hg⟩ : ∃ o τ e, goF n s.opens.length s.opens 0 σ = (o, τ, e) := ⟨_, _, _, rfl⟩
  have hol : o.length = s.opens.length := by have := goF_len n s.opens.length s.opens 0 σ; rw [hg] at this; exact this
  rw [hg] at hw
  have hw : wt τ ≤ wt σ := hw
  cases e with
  | some j =>
    rw [goOn_some hg]
    have hj : 1 ≤ j ∧ j < t.length + 1 := by
      refine goF_doc n s.opens.length x t σ j ?_
      have : (goF n s.opens.length s.opens 0 σ).2.2 = some j := by rw [hg]
      rw [← hdx, ← hd]
      exact this
    refine ⟨fun _ => ⟨hj.1, fun q hq => .inr (.inr ?_)⟩, .inl rfl, (fun q => by cases q), hw⟩
    show j < o.length
    rw [hol, hd]
    simp only [List.length_cons]
    exact hj.2
  | none =>
    have hlen : s.opens.length = t.length + 1 := by rw [hd]; rfl
    obtain ⟨p, hp⟩ : ∃ p, o.getLast? = some p := by
      cases hq : o.getLast? with
      | none => rw [List.getLast?_eq_none_iff] at hq; rw [hq] at hol; simp at hol; omega
      | some p => exact ⟨p, rfl⟩
    have hgl : p.isC = false → s.opens.getLast? = some p := fun hc => goF_last n _ _ _ _ p (by rw [hg]; exact hp) hc
    cases hl : p.isLined
    · rw [goOn_stay hg hp hl]
      refine ⟨fun _ => ⟨by show 1 ≤ o.length; omega, fun q hq => ?_⟩, .inl rfl, (fun q => by cases q), hw⟩
      have hq : o.getLast? = some q := hq
      rw [hp] at hq
      cases hq
      cases hc : p.isC
      · have := hs p (hgl hc)
        cases p <;> first | (cases hc; done) | (cases hl; done) | exact this.elim
      · exact .inl rfl
    · have hc : p.isC = false := by cases p <;> first | rfl | (cases hl; done)
      rw [goOn_takes hg hp hl]
      obtain ⟨f1, f2⟩ := takes_fate n τ p hl
      have hsp := hs p (hgl hc)
      have hn2 : ∃ k, o.length = k + 2 := by
        rcases Nat.lt_or_ge o.length 2 with q | q
        · have h1 : s.opens = [.doc x] := by
            rw [hd, hdx]
            have : t = [] := List.length_eq_zero_iff.1 (by omega)
            rw [this]
          have := hgl hc
          rw [h1] at this
          simp at this
          rw [← this] at hc
          cases hc
        · exact ⟨o.length - 2, by omega⟩
      obtain ⟨k, hk⟩ := hn2
      have hcl := close_at (s := { s with opens := o.dropLast ++ [(p.takes endsX n τ).2.2.1], on := o.length }) (n := k) (by show (o.dropLast ++ [_]).length = k + 2; rw [List.length_append, List.length_dropLast, hk]; rfl) (fun c hcc => by
        have hcc : (o.dropLast ++ [(p.takes endsX n τ).2.2.1])[k]? = some c := hcc
        rw [List.getElem?_append_left (by rw [List.length_dropLast]; omega), List.getElem?_dropLast, if_pos (by omega)] at hcc
        have hm := goF_C n s.opens.length s.opens 0 σ
        rw [hg] at hm
        have hm : o.map Part.isC = s.opens.map Part.isC := hm
        have h1 : (o.map Part.isC)[k]? = some c.isC := by rw [List.getElem?_map, hcc]; rfl
        rw [hm, List.getElem?_map] at h1
        obtain ⟨c', hc', e⟩ : ∃ c', s.opens[k]? = some c' ∧ c'.isC = c.isC := by
          cases hq : s.opens[k]? with
          | none => rw [hq] at h1; cases h1
          | some c' => rw [hq] at h1; exact ⟨c', rfl, by simpa using h1⟩
        rw [← e]
        exact h.cont k c' hc' (by omega))
      refine ⟨fun h0 => ?_, f2, fun h2 q hq => ?_, Nat.le_trans (takes_wt n τ p) hw⟩
      · rcases f1 h0 with e | e
        · rw [e]
          simp only [Bool.false_eq_true, if_false]
          exact ⟨by rw [hcl.2.2]; show 1 ≤ min o.length (k + 1); omega, fun q hq => .inl (hcl.1 q hq)⟩
        · cases hst : (p.takes endsX n τ).2.1
          · simp only [Bool.false_eq_true, if_false]
            exact ⟨by rw [hcl.2.2]; show 1 ≤ min o.length (k + 1); omega, fun q hq => .inl (hcl.1 q hq)⟩
          · simp only [if_true]
            refine ⟨by show 1 ≤ o.length; omega, fun q hq => .inr (.inl ?_)⟩
            have hq : (o.dropLast ++ [(p.takes endsX n τ).2.2.1]).getLast? = some q := hq
            rw [List.getLast?_append] at hq
            simp at hq
            rw [← hq, takes_C]
            exact e
      · cases hst : (p.takes endsX n τ).2.1
        · rw [hst] at hq
          exact isC_since (hcl.1 q hq) _
        · rw [hst] at hq
          have hq : (o.dropLast ++ [(p.takes endsX n τ).2.2.1]).getLast? = some q := hq
          rw [List.getLast?_append] at hq
          simp at hq
          rw [← hq]
          exact takes_since n τ p hsp h2

end Go.Proofs.YtcbojffcnlkejaaGreatDoor

/- Plain mathematics: what begins on a line leaves less to begin. -/
namespace Go.Proofs.YtcbojffcnlkejaaGreatDoor

/-- How often something may still begin. -/
def mu (s : St) (σ : Pl) : Nat := 2 * σ.1.length + (if s.hasPara then 1 else 0)

theorem len_step {σ τ : Pl} (h : stepR σ = some τ) : τ.1.length ≤ σ.1.length := by
  match σ, h with
  | (l, part + 1, c), h =>
    simp only [stepR, Option.some.injEq] at h
    subst h
    exact Nat.le_refl _
  | (b :: t, 0, c), h =>
    simp only [stepR] at h
    split at h
    · simp only [Option.some.injEq] at h
      subst h
      simp
    · simp at h
theorem len_skip : ∀ (n : Nat) (σ : Pl), (skipR n σ).1.length ≤ σ.1.length
  | 0, σ => Nat.le_refl _
  | n + 1, σ => by
    simp only [skipR]
    split
    · exact Nat.le_refl _
    · rename_i τ h
      exact Nat.le_trans (len_skip n τ) (len_step h)
theorem len_pass : ∀ (n : Nat) (l : Str) (c : Nat), (passR n l c).1.length = l.length - n
  | 0, l, c => rfl
  | n + 1, [], c => by simp [passR]
  | n + 1, b :: t, c => by
    simp only [passR, List.length_cons]
    rw [len_pass n t]
    omega
theorem len_move {n : Nat} {σ : Pl} (hn : 1 ≤ n) (hb : beh σ.1 ≠ []) : (moveR n σ).1.length < σ.1.length := by
  have h1 := len_pass n (beh σ.1) (endC σ.1 (σ.2.2 + σ.2.1))
  have h2 := beh_len σ.1
  have h3 := List.length_pos_iff.2 hb
  unfold moveR
  omega
theorem pad_len (σ : Pl) : (St.padding σ).2.1.length ≤ σ.1.length ∧ wt (St.padding σ).2 ≤ wt σ := by
  unfold St.padding
  repeat' split
  all_goals first
    | exact ⟨Nat.le_refl _, Nat.le_refl _⟩
    | exact ⟨len_skip _ _, wt_skip _ _⟩

theorem para_not {s : St} {X : List Part} {p : Part} (h : s.opens = X ++ [p]) (hp : p.isPara = false) : s.hasPara = false := by
  unfold St.hasPara
  rw [h, List.getLast?_append]
  simpa using hp
theorem para_notC {s : St} (h : ∀ q, s.opens.getLast? = some q → q.isC = true) : s.hasPara = false := by
  unfold St.hasPara
  cases hq : s.opens.getLast? with
  | none => rfl
  | some p => have := h p hq; cases p <;> first | rfl | (cases this; done)
theorem ready_push {s : St} {X : List Part} {p : Part} (h : s.opens = X ++ [p]) (ho : s.on = X.length + 1) (hp : p.isC = true) : Ready s := by
  refine ⟨by omega, fun q hq => .inl ?_⟩
  rw [h, List.getLast?_append] at hq
  simp at hq
  rw [← hq]
  exact hp
theorem last_snoc {s : St} {X : List Part} {p q : Part} (h : s.opens = X ++ [p]) (hq : s.opens.getLast? = some q) : q = p := by
  rw [h, List.getLast?_append] at hq
  simp at hq
  exact hq.symm

theorem under_after {B N n lv : Nat} {s : St} (h : Wf B N s) (hr : Ready s) (hc : s.isClose = true) :
    (∀ q, (s.underline n lv).2.opens.getLast? = some q → q.isC = true) ∧ 1 ≤ (s.underline n lv).2.on ∧ ((s.underline n lv).1 = 0 ∨ (s.underline n lv).1 = 2) := by
  obtain ⟨x, l, hlast⟩ := isClose_para hc
  have h2 := h.two hlast rfl
  obtain ⟨m, hm⟩ : ∃ m, s.opens.length = m + 2 := ⟨s.opens.length - 2, by omega⟩
  have key : ∀ (p : Part) (d : List Df), (∀ q, (St.close { s with opens := s.opens.dropLast ++ [p], defs := d }).opens.getLast? = some q → q.isC = true) ∧ 1 ≤ (St.close { s with opens := s.opens.dropLast ++ [p], defs := d }).on := by
    intro p d
    have hk := close_at (s := { s with opens := s.opens.dropLast ++ [p], defs := d }) (n := m) (by show (s.opens.dropLast ++ [p]).length = m + 2; rw [List.length_append, List.length_dropLast, hm]; rfl) (fun c hcc => by
      have hcc : (s.opens.dropLast ++ [p])[m]? = some c := hcc
      rw [List.getElem?_append_left (by rw [List.length_dropLast]; omega), List.getElem?_dropLast, if_pos (by omega)] at hcc
      exact h.cont m c hcc (by omega))
    refine ⟨hk.1, ?_⟩
    rw [hk.2.2]
    have := hr.on
    show 1 ≤ min s.on (m + 1)
    omega
  unfold St.underline
  rw [hlast]
  simp only
  split
  · exact ⟨(key _ _).1, (key _ _).2, .inl rfl⟩
  · exact ⟨(key _ _).1, (key _ _).2, .inr rfl⟩

theorem begin_after {B N n : Nat} {s : St} {σ : Pl} (h : Wf B N s) (hr : Ready s) :
    ((s.begin' n σ).1 = 0 → Ready (s.begin' n σ).2.1 ∧ mu (s.begin' n σ).2.1 (s.begin' n σ).2.2 < mu s σ) ∧ ((s.begin' n σ).1 = 1 → (s.begin' n σ).2 = (s, σ)) ∧ ((s.begin' n σ).1 = 2 → ∀ q, (s.begin' n σ).2.1.opens.getLast? = some q → q.since (n + 1)) ∧ wt (s.begin' n σ).2.2 ≤ wt σ ∧ ((s.begin' n σ).1 = 0 ∨ (s.begin' n σ).1 = 1 ∨ (s.begin' n σ).1 = 2) := by
  have stand : ∀ p : Part, ∃ X, (s.stand p).opens = X ++ [p] ∧ (s.stand p).on = X.length + 1 := fun p => by
    obtain ⟨X, e1, e2, _⟩ := stand_on h hr.on hr.leaf p
    exact ⟨X, e1, e2⟩
  unfold St.begin' St.begin
  simp only
  split
  · unfold St.beginIndented
    split
    · exact ⟨(fun q => by cases q), fun _ => rfl, (fun q => by cases q), Nat.le_refl _, .inr (.inl rfl)⟩
    · refine ⟨(fun q => by cases q), (fun q => by cases q), fun _ q hq => ?_, wt_skip _ _, .inr (.inr rfl)⟩
      obtain ⟨X, e1, _⟩ := stand (.indented (takeI { first := n, last := n } n σ))
      rw [last_snoc e1 hq]
      rfl
  split
  · rename_i hq
    obtain ⟨X, e1, e2⟩ := stand (.quote { first := n, last := n })
    have hb : beh σ.1 ≠ [] := fun e => by
      have := hq.1
      unfold nextB at this
      rw [e] at this
      cases this
    refine ⟨fun _ => ⟨ready_push e1 e2 rfl, ?_⟩, (fun q => by cases q), (fun q => by cases q), Nat.le_trans (wt_skip _ _) (wt_move _ _), .inl rfl⟩
    unfold mu
    rw [para_not e1 rfl]
    have h1 := len_move (Nat.le_refl 1) hb
    have h2 := len_skip 1 (moveR 1 σ)
    simp only [Bool.false_eq_true, if_false]
    omega
  split
  · exact ⟨(fun q => by cases q), (fun q => by cases q), fun _ q hq => isC_since (stand_close h hr.on hr.leaf _ q hq) _, Nat.le_refl _, .inr (.inr rfl)⟩
  split
  · refine ⟨(fun q => by cases q), (fun q => by cases q), fun _ q hq => ?_, Nat.le_refl _, .inr (.inr rfl)⟩
    obtain ⟨X, e1, _⟩ := stand (.fenced { first := n, last := n } (fenceL (beh σ.1)).1 (fenceL (beh σ.1)).2.1 (indR σ) (fenceL (beh σ.1)).2.2)
    rw [last_snoc e1 hq]
    trivial
  split
  · refine ⟨(fun q => by cases q), (fun q => by cases q), fun _ q hq => ?_, Nat.le_refl _, .inr (.inr rfl)⟩
    have hq : (s.beginHtml endsX n σ (htmlL (beh σ.1))).opens.getLast? = some q := hq
    unfold St.beginHtml at hq
    simp only at hq
    split at hq
    · obtain ⟨X, e1, _⟩ := stand (Part.takes endsX n σ (.html { first := n, last := n } (htmlL (beh σ.1)))).2.2.1
      rw [last_snoc e1 hq]
      simp only [Part.takes]
      split <;> trivial
    · exact isC_since (stand_close h hr.on hr.leaf _ q hq) _
  split
  · rename_i hu
    obtain ⟨u1, u2, u3⟩ := under_after (n := n) (lv := underL (beh σ.1)) h hr hu.2
    refine ⟨fun _ => ⟨⟨u2, fun q hq => .inl (u1 q hq)⟩, ?_⟩, fun e => ?_, fun _ q hq => isC_since (u1 q hq) _, Nat.le_refl _, ?_⟩
    · unfold mu
      rw [para_notC u1]
      have : s.hasPara = true := by
        have := hu.2
        unfold St.isClose at this
        simp at this
        exact this.1
      rw [this]
      simp
    · rcases u3 with u3 | u3 <;> rw [u3] at e <;> cases e
    · rcases u3 with u3 | u3
      · exact .inl u3
      · exact .inr (.inr u3)
  split
  · exact ⟨(fun q => by cases q), (fun q => by cases q), fun _ q hq => isC_since (stand_close h hr.on hr.leaf _ q hq) _, Nat.le_refl _, .inr (.inr rfl)⟩
  split
  · rename_i hit
    have hb : beh σ.1 ≠ [] := fun e => by
      have := hit.1
      rw [e] at this
      exact absurd this (by decide)
    unfold St.beginItem
    simp only
    generalize (if (s.clear.opens.getLast?.bind St.listSign) = some (St.markOf (beh σ.1)).sign then s.clear else s.clear.stand (.list { first := n, last := n } (St.markOf (beh σ.1)))) = C
    have hp := pad_len (moveR (St.markOf (beh σ.1)).size σ)
    refine ⟨fun _ => ⟨ready_push (X := C.opens) rfl rfl rfl, ?_⟩, (fun q => by cases q), (fun q => by cases q), Nat.le_trans hp.2 (wt_move _ _), .inl trivial⟩
    unfold mu
    rw [para_not (X := C.opens) (p := .item { first := n, last := n } (indR σ + (St.markOf (beh σ.1)).size + (St.padding (moveR (St.markOf (beh σ.1)).size σ)).1)) rfl rfl]
    have h1 := len_move hit.1 hb
    simp only [Bool.false_eq_true, if_false]
    omega
  · exact ⟨(fun q => by cases q), fun _ => rfl, (fun q => by cases q), Nat.le_refl _, .inr (.inl rfl)⟩

theorem text_after {B N n : Nat} {s : St} {σ : Pl} (h : Wf B N s) (hr : Ready s) : ∀ q, (s.text n σ).opens.getLast? = some q → q.since (n + 1) := by
  intro q hq
  unfold St.text at hq
  split at hq
  · exact isC_since (clear_cont h hr.on hr.leaf q hq) _
  · split at hq
    · rename_i b l hl
      rw [last_snoc (X := s.opens.dropLast) (p := .para (b.add n (beh σ.1)) l) rfl hq]
      trivial
    · obtain ⟨X, e1, _⟩ := stand_on h hr.on hr.leaf (.para (Body.add { first := n, last := n } n (beh σ.1)) 0)
      rw [last_snoc e1 hq]
      trivial

theorem least_of (Q : Nat → Prop) : (∃ f, Q f) → ∃ f, Q f ∧ ∀ g, Q g → f ≤ g := by
  rintro ⟨f, hf⟩
  induction f using Nat.strongRecOn with
  | ind f ih =>
    rcases Classical.em (∃ g, g < f ∧ Q g) with ⟨g, h1, h2⟩ | hno
    · exact ih g h1 h2
    · exact ⟨f, hf, fun g hg => by
        rcases Nat.lt_or_ge g f with q | q
        · exact absurd ⟨g, q, hg⟩ hno
        · exact q⟩
open Classical in
noncomputable def least (Q : Nat → Prop) : Nat := if h : ∃ f, Q f then Classical.choose (least_of Q h) else 0
theorem least_is {Q : Nat → Prop} (h : ∃ f, Q f) : Q (least Q) ∧ ∀ g, Q g → least Q ≤ g := by
  unfold least
  rw [dif_pos h]
  exact Classical.choose_spec (least_of Q h)

end Go.Proofs.YtcbojffcnlkejaaGreatDoor

/- A line is read. -/
namespace Go.Proofs.YtcbojffcnlkejaaGreatDoor
open Go.RowKit
open cur (cell_blk free_blk set_blk blk_below Cur cptr Oth)

abbrev St.read' (n : Nat) (s : St) (l : Str) : St := s.read htmlL endsX n l
/-- What a line may add. -/
abbrev lineK (L : Nat) : Nat := 13 * L + 20

/-- While something may begin on a line: f is how often that may be. -/
structure BeginsAt (W1 : World) (r c n L : Nat) (own : Nat → Nat) (B1 F0 : Nat) (R : Nat × St × Pl) (f : Nat) (t : Value) (wr : World) : Prop where
  st : ∃ (fate : Nat) (s' : St) (σ' : Pl) (own' : Nat → Nat) (B' : Nat), t = .int .i64 (fate : Int) ∧ Good wr r own' B' s' ∧ Cur wr c σ' ∧ StepC W1 own c wr own' ∧ wt σ' ≤ L ∧
    (fate = 0 → Ready s' ∧ mu s' σ' < f ∧ f ≤ F0 ∧ St.beginsF htmlL endsX n f s' σ' = R ∧ B' + 2 * f ≤ B1 + 2 * F0 ∧ B1 ≤ B') ∧
    (fate ≠ 0 → R = (fate, s', σ') ∧ (fate = 1 → Ready s') ∧ (fate = 1 ∨ fate = 2) ∧ (fate = 2 → ∀ q, s'.opens.getLast? = some q → q.since (n + 1)) ∧ B' ≤ B1 + 2 * F0 + 3 * (L + 1) + 1 ∧ B1 ≤ B')

theorem begins_zero {n f : Nat} {s : St} {σ : Pl} (h : (s.begin' n σ).1 = 0) : St.beginsF htmlL endsX n (f + 1) s σ = St.beginsF htmlL endsX n f (s.begin' n σ).2.1 (s.begin' n σ).2.2 := by
  simp only [St.beginsF]
  rw [if_pos h]
theorem begins_else {n f : Nat} {s : St} {σ : Pl} (h : (s.begin' n σ).1 ≠ 0) : St.beginsF htmlL endsX n (f + 1) s σ = s.begin' n σ := by
  simp only [St.beginsF]
  rw [if_neg h]

set_option maxHeartbeats 4000000 in
theorem bread_any {w : World} {r c n L : Nat} {own : Nat → Nat} {B : Nat} {s : St} {l : Str} (h : Good w r own B s) (hB : B + lineK L ≤ 549755813888) (hC : Cur w c (l, 0, 0)) (hc : own c = 0) (hn : n ≤ B) (hL : 4 * l.length ≤ L) (hL2 : L ≤ 2147483648) (hM : MLen w) (h0 : own 0 = 0) (hc0 : c ≠ 0) (hsince : ∀ q, s.opens.getLast? = some q → q.since n) :
    Calls Tryz.prog 20 #[ptrV r, lnV c n] w fun e w' => e = .returned (.tuple #[]) ∧ (∃ own', Good w' r own' (B + lineK L) (s.read' n l) ∧ StepC w own c w' own') ∧ ∀ q, (s.read' n l).opens.getLast? = some q → q.since (n + 1) := by
  simp only [lineK] at hB ⊢
  have hli := line_blk c n w
  have HB1 : Hid (Below w.heap.size w (w.alloc (.cells #[cptr c, .int .i64 (n : Int)] 63))) := (Below.refl _ _).alloc (Nat.le_refl _) _
  have hclt := hC.lt
  have hcw : clip own w c = 0 := by rw [clip_old hclt]; exact hc
  have hlbo : clip own w w.heap.size = 0 := clip_new (Nat.le_refl _)
  have h0w : clip own w 0 = 0 := by rw [clip_old hM.lt]; exact h0
  have hlc : w.heap.size ≠ c := by omega
  generalize hW : w.alloc (.cells #[cptr c, .int .i64 (n : Int)] 63) = W1 at hli HB1
  have hG1 : Good W1 r (clip own w) B s := (h.clip).below HB1.out
  have hC1 := hC.below HB1.out
  have hM1 := hM.below HB1.out
  have hwt : wt ((l, 0, 0) : Pl) ≤ L := by unfold wt; simp only; omega
  obtain ⟨N, hwf⟩ := h.wf
  obtain ⟨g1, g2, g3, g4⟩ := goOn_after (σ := ((l, 0, 0) : Pl)) hwf hsince
  have hRd : ∃ g, g = s.goOn endsX n (l, 0, 0) := ⟨_, rfl⟩
  obtain ⟨g, hg⟩ := hRd
  have HGo : Hid (Calls Tryz.prog 27 #[ptrV r, lnV c n] W1 fun e w' => e = .returned (.int .i64 (g.1 : Int)) ∧ LeftC W1 r (clip own w) c (B + 3 * (L + 1)) g.2.1 g.2.2 w') := by
    rw [hg]
    exact bgoOn_any hG1 (by omega) hC1 hcw hn hwt hL2 hM1 h0w hc0 hsince
  rw [← hg] at g1 g2 g3 g4
  have hfu : St.fuel g.2.2 ≤ 2 * L + 2 := by
    unfold St.fuel
    have : g.2.2.1.length ≤ wt g.2.2 := by unfold wt; omega
    omega
  -- the line as it is read
  obtain ⟨R, hR⟩ : ∃ R, R = if g.1 = 0 then St.beginsF htmlL endsX n (St.fuel g.2.2) g.2.1 g.2.2 else g := ⟨_, rfl⟩
  have HRead : Hid (s.read' n l = if R.1 = 1 then R.2.1.text n R.2.2 else R.2.1) := by
    show _ = _
    rw [hR, hg]
    rfl
  have HFirst : Hid (∀ wr, LeftC W1 r (clip own w) c (B + 3 * (L + 1)) g.2.1 g.2.2 wr → ∃ f, BeginsAt W1 r c n L (clip own w) (B + 3 * (L + 1)) (2 * L + 2) R f (.int .i64 (g.1 : Int)) wr) := fun wr q => by
    obtain ⟨own', q1, q2, q3⟩ := q
    refine ⟨St.fuel g.2.2, ⟨g.1, g.2.1, g.2.2, own', B + 3 * (L + 1), rfl, q1, q2, q3, Nat.le_trans g4 hwt, fun hz => ⟨g1 hz, ?_, hfu, ?_, by omega, Nat.le_refl _⟩, fun hz => ⟨?_, fun e => ?_, ?_, g3, by omega, Nat.le_refl _⟩⟩⟩
    · unfold mu St.fuel
      split <;> omega
    · rw [hR, if_pos hz]
    · rw [hR, if_neg hz]
    · rcases g2 with e2 | e2 <;> rw [e2] at e <;> cases e
    · rcases g2 with e2 | e2
      · exact absurd e2 hz
      · exact .inr e2
  have HLn : Hid (∀ wr own', StepC W1 (clip own w) c wr own' → wr.heap[w.heap.size]? = some (.cells #[cptr c, .int .i64 (n : Int)] 63 (0, 0))) := fun wr own' q => q.1.keeps hli (fun z => by
    rcases z with z | z
    · exact z hlbo
    · exact hlc z)
  have HOwn : Hid (∀ wr own', StepC W1 (clip own w) c wr own' → own' c = 0 ∧ own' 0 = 0 ∧ MLen wr) := fun wr own' q => by
    have hcl1 : c < W1.heap.size := Nat.lt_of_lt_of_le hclt HB1.out.size
    refine ⟨q.2 c hcl1 hcw, q.2 0 hM1.lt h0w, hM1.keeps (q.1.block 0 hM1.lt (fun z => ?_))⟩
    rcases z with z | z
    · exact z h0w
    · exact hc0 z.symm
  have HFin : Hid (∀ wr own', StepC W1 (clip own w) c wr own' → StepC w own c wr own') := fun wr own' q => by
    have q0 : StepC w (clip own w) c W1 (clip own w) := ⟨Fr.of_below HB1.out, fun _ _ z => z⟩
    exact (q0.trans q).unclip
  have l0 := cell_blk hli (i := 0) rfl
  have l1 := cell_blk hli (i := 1) rfl
  simp only [List.getElem_toArray, List.getElem_cons_zero, List.getElem_cons_succ] at l0 l1
  clear hli hG1 hC1 hM1 h hC hM hwf g1 g3 g4 hR hg hfu hsince
  generalize hlbe : w.heap.size = lb at *
  go_enter Tryz.func20, Tryz.ntmps20
  go_wp2_with (go_at_call 27; refine Calls.mono HGo.out ?_; rintro e u ⟨rfl, hu⟩)
  go_loopw [4] (fun t wr => ∃ f, Hid (BeginsAt W1 r c n L (clip own w) (B + 3 * (L + 1)) (2 * L + 2) R f t wr)) (fun t wr => least (fun f => BeginsAt W1 r c n L (clip own w) (B + 3 * (L + 1)) (2 * L + 2) R f t wr))
  case atStart =>
    obtain ⟨f, q⟩ := HFirst.out u hu
    exact ⟨f, q⟩
  case round =>
    obtain ⟨f1, hf1⟩ := hrel
    obtain ⟨hst, hmin⟩ := least_is (Q := fun f => BeginsAt W1 r c n L (clip own w) (B + 3 * (L + 1)) (2 * L + 2) R f u4 wr) ⟨f1, hf1.out⟩
    generalize hf : least (fun f => BeginsAt W1 r c n L (clip own w) (B + 3 * (L + 1)) (2 * L + 2) R f u4 wr) = f at *
    obtain ⟨fate, s', σ', own', B', rfl, x1, x2, x3, x4, x5, x6⟩ := hst.st
    obtain ⟨o1, o2, o3⟩ := HOwn.out wr own' x3
    have hlk := HLn.out wr own' x3
    have m0 := cell_blk hlk (i := 0) rfl
    have m1 := cell_blk hlk (i := 1) rfl
    simp only [List.getElem_toArray, List.getElem_cons_zero, List.getElem_cons_succ] at m0 m1
    by_cases hz : fate = 0
    · subst hz
      obtain ⟨y1, y2, y3, y4, y5, y6⟩ := x5 rfl
      obtain ⟨N', hwf'⟩ := x1.wf
      obtain ⟨b1, b2, b3, b4, b5⟩ := begin_after (n := n) (σ := σ') hwf' y1
      obtain ⟨f', hf'⟩ : ∃ f', f = f' + 1 := ⟨f - 1, by omega⟩
      have HBe : Hid (Calls Tryz.prog 28 #[ptrV r, lnV c n] wr fun e w' => e = .returned (.int .i64 ((s'.begin' n σ').1 : Int)) ∧ ∃ f2, f2 < f ∧ BeginsAt W1 r c n L (clip own w) (B + 3 * (L + 1)) (2 * L + 2) R f2 (.int .i64 ((s'.begin' n σ').1 : Int)) w') := by
        by_cases hq : (s'.begin' n σ').1 = 0
        · refine (bbegin_any (K := 2) x1 (by omega) y1.on y1.leaf x2 o1 (by omega) (Nat.le_refl _) x4 hL2 (fun e => absurd hq e) o3 o2 hc0).mono ?_
          rintro e w' ⟨rfl, own2, z1, z2, z3⟩
          refine ⟨rfl, f', by omega, ⟨(s'.begin' n σ').1, (s'.begin' n σ').2.1, (s'.begin' n σ').2.2, own2, B' + 2, rfl, z1, z2, x3.trans z3, Nat.le_trans b4 x4, fun _ => ⟨(b1 hq).1, ?_, by omega, ?_, by omega, by omega⟩, fun e => absurd hq e⟩⟩
          · have := (b1 hq).2
            omega
          · rw [← y4, hf', begins_zero hq]
        · refine (bbegin_any (K := 3 * (L + 1) + 1) x1 (by omega) y1.on y1.leaf x2 o1 (by omega) (by omega) x4 hL2 (fun _ => by simp [rowM]) o3 o2 hc0).mono ?_
          rintro e w' ⟨rfl, own2, z1, z2, z3⟩
          refine ⟨rfl, f', by omega, ⟨(s'.begin' n σ').1, (s'.begin' n σ').2.1, (s'.begin' n σ').2.2, own2, B' + (3 * (L + 1) + 1), rfl, z1, z2, x3.trans z3, Nat.le_trans b4 x4, fun e => absurd e hq, fun _ => ⟨?_, fun e => ?_, ?_, b3, by omega, by omega⟩⟩⟩
          · rw [← y4, hf', begins_else hq]
          · rw [b2 e]; exact y1
          · rcases b5 with e | e | e
            · exact absurd e hq
            · exact .inl e
            · exact .inr e
      have HF := (show Hid _ from hf)
      clear hst hmin hf1 x1 x2 x3 x5 x6 b1 b2 b3 b4 b5 y1 y4 hlk hf
      generalize (s'.begin' n σ').1 = fb at *
      go_wp2_with (go_at_call 28; refine Calls.mono HBe.out ?_; rintro e u2 ⟨rfl, f2, hf2, hb2⟩)
      go_roundw
      case rel => exact ⟨f2, hb2⟩
      case measure =>
        have := (least_is (Q := fun f => BeginsAt W1 r c n L (clip own w) (B + 3 * (L + 1)) (2 * L + 2) R f (.int .i64 (fb : Int)) u2) ⟨f2, hb2⟩).2 f2 hb2
        simp only [HF.out]
        exact Nat.lt_of_le_of_lt this hf2
    · obtain ⟨y1, y2, y3, y4, y5, y6⟩ := x6 hz
      have hz' : ¬ (fate : Int) = 0 := by omega
      have hzb : ((fate : Int) == 0) = false := by simpa using hz'
      rcases y3 with e | e
      · subst e
        have hy := y2 rfl
        obtain ⟨N', hwf'⟩ := x1.wf
        have hsi := text_after (n := n) (σ := σ') hwf' hy
        have HT : Hid (Calls Tryz.prog 29 #[ptrV r, lnV c n] wr fun e w' => e = .returned (.tuple #[]) ∧ LeftC wr r own' c (B' + rowM (beh σ'.1)) (s'.text n σ') σ' w') := btext_any x1 (by omega) hy.on hy.leaf x2 o1 (by omega)
        have hbl := beh_wt σ'
        have HRe : Hid (s.read' n l = s'.text n σ') := by
          show _ = _
          rw [HRead.out, y1]
          rfl
        have HX3 : Hid (StepC W1 (clip own w) c wr own') := x3
        have HSi := (show Hid _ from hsi)
        generalize s'.text n σ' = s2 at *
        clear hst hmin hf1 x1 x2 x3 x5 x6 hlk hf hsi y1 HRead
        go_wp2_with (go_at_call 29; refine Calls.mono HT.out ?_; rintro e u2 ⟨rfl, hL3⟩)
        go_end0
        obtain ⟨own2, z1, z2, z3⟩ := hL3
        rw [HRe.out]
        exact ⟨rfl, ⟨own2, z1.more (by simp only [rowM]; omega), HFin.out _ _ (HX3.out.trans z3)⟩, HSi.out⟩
      · subst e
        have HRe : Hid (s.read' n l = s') := by
          show _ = _
          rw [HRead.out, y1]
          rfl
        have HX3 : Hid (StepC W1 (clip own w) c wr own') := x3
        have HX1 : Hid (Good wr r own' B' s') := x1
        have HSi := (show Hid _ from y4 rfl)
        clear hst hmin hf1 x1 x2 x3 x5 x6 hlk hf y1 y4 HRead
        go_wp2
        go_end0
        rw [HRe.out]
        exact ⟨rfl, ⟨own', HX1.out.more (by omega), HFin.out _ _ HX3.out⟩, HSi.out⟩

end Go.Proofs.YtcbojffcnlkejaaGreatDoor
