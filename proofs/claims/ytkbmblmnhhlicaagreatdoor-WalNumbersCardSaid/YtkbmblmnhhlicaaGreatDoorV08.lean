/- Several texts in one. -/
import Derived.Test.YtkbmblmnhhlicaaGreatDoorV07
set_option linter.unusedVariables false
/- A log whose disk's power may fail, over lists: what lasts. -/
namespace Go.Proofs.YtkbmblmnhhlicaaGreatDoor

/-- A file all of which lasts. -/
def lFile (g : Nat × Recs) : Nm × Fl := (nameL g.1, ⟨framesL g.1 g.2, (framesL g.1 g.2).length⟩)
/-- A log on a disk: all but the last segment last whole, of the last one so many bytes. -/
structure StrL (d : Dk) (G : Gs) (g : Nat × Recs) (la : Nat) : Prop where
  ok : DkOk d
  up : d.up = true
  files : d.files = G.map lFile ++ [(nameL g.1, ⟨framesL g.1 g.2, la⟩)]
  chain : ChainG (G ++ [g])
  small : ∀ x ∈ G ++ [g], Small x.2
  num : ∀ x ∈ G ++ [g], 1 ≤ x.1 ∧ x.1 + x.2.length ≤ 999999
  lasts : la ≤ bulk g.2

theorem fnB_lFile (G : Gs) : fnB (G.map lFile) = G.map gFile := by
  unfold fnB
  rw [List.map_map]
  rfl
theorem fall_whole (keep : Nat) : ∀ (i : Nat) (G : Gs), fallL keep i (G.map lFile) = G.map lFile
  | _, [] => rfl
  | i, g :: G => by
    rw [List.map_cons, fallL, fall_whole keep (i + 1) G]
    show (nameL g.1, fallF keep i ⟨framesL g.1 g.2, (framesL g.1 g.2).length⟩) :: _ = _
    rw [fall_lasts]
    rfl
/-- What a fall leaves: the last segment's beginning. -/
theorem StrL.fall {d : Dk} {G : Gs} {g : Nat × Recs} {la : Nat} (h : StrL d G g la) (keep : Nat) : ∃ s : List UInt8, s <+: framesL g.1 g.2 ∧ la ≤ s.length ∧ (fallD keep d).files = G.map lFile ++ [(nameL g.1, ⟨s, s.length⟩)] := by
  have hla : la ≤ (framesL g.1 g.2).length := by rw [framesL_length]; exact h.lasts
  have hst := stay_le (keep := keep) (i := 0 + (G.map lFile).length) (f := ⟨framesL g.1 g.2, la⟩) hla
  refine ⟨(framesL g.1 g.2).take (stay keep (0 + (G.map lFile).length) ⟨framesL g.1 g.2, la⟩), List.take_prefix _ _, ?_, ?_⟩
  · rw [List.length_take]
    have h1 : la ≤ stay keep (0 + (G.map lFile).length) ⟨framesL g.1 g.2, la⟩ := hst.1
    omega
  · show fallL keep 0 d.files = _
    rw [h.files, fallL_append, fall_whole]
    show _ ++ [(nameL g.1, fallF keep (0 + (G.map lFile).length) ⟨framesL g.1 g.2, la⟩)] = _
    have h2 : stay keep (0 + (G.map lFile).length) ⟨framesL g.1 g.2, la⟩ ≤ (framesL g.1 g.2).length := hst.2
    unfold fallF
    simp only
    rw [List.length_take, Nat.min_eq_left h2]

theorem theF_last {d : Dk} {fs : Fls} {n : Nm} {f : Fl} (hr : Rises d.files) (hu : d.up = true) (hf : d.files = fs ++ [(n, f)]) : findV d n = 0 ∧ theF d n = f := by
  have hg : getA n d.files = some f := getA_of_mem hr (by rw [hf]; simp)
  have h1 : findV d n = 0 := by unfold findV; rw [if_pos hu, hg]; rfl
  exact ⟨h1, by unfold theF; rw [if_pos h1, hg]; rfl⟩
theorem cut_idle {d : Dk} {n : Nm} (hf : findV d n = 0) (ha : d.ahead < 0) {k : Nat} (hk : k ≤ (theF d n).bs.length) : cutP d n (k : Int) = (0, { d with files := putA n ⟨(theF d n).bs.take k, min (theF d n).la k⟩ d.files }) := by
  have n1 : ¬ d.ahead = 0 := by omega
  have n2 : ¬ 0 < d.ahead := by omega
  unfold cutP
  rw [if_neg (by rw [hf]; decide), if_neg (by omega), if_neg n1]
  unfold failD doneD
  rw [if_neg n1, if_neg n2, Int.toNat_natCast]
theorem chain_front : ∀ (A : Gs) (x : Nat × Recs) (B : Gs), ChainG (A ++ x :: B) → ChainG A := by
  intro A
  induction A with
  | nil => intro x B _; trivial
  | cons y A ih =>
    intro x B hc
    cases A with
    | nil => trivial
    | cons z A => exact ⟨hc.1, hc.2.1, ih x B hc.2.2⟩

/-- A disk that fell is opened: the whole segments, and so many records of the last one. -/
theorem open_fallen {d : Dk} {G : Gs} {g : Nat × Recs} {s : List UInt8} {la : Nat} (hok : DkOk d) (hup : d.up = true) (hid : d.ahead < 0) (hf : d.files = G.map lFile ++ [(nameL g.1, ⟨s, s.length⟩)]) (hp : s <+: framesL g.1 g.2) (hc : ChainG (G ++ [g])) (hsm : ∀ x ∈ G ++ [g], Small x.2) (hnum : ∀ x ∈ G ++ [g], 1 ≤ x.1 ∧ x.1 + x.2.length ≤ 999999) :
    ∃ k d', k ≤ g.2.length ∧ (∀ j, j ≤ g.2.length → bulk (g.2.take j) ≤ s.length → j ≤ k) ∧ openP d = (0, d', (G ++ [(g.1, g.2.take k)]).map gSg) ∧ StrL d' G (g.1, g.2.take k) (bulk (g.2.take k)) ∧ d'.room = d.room ∧ d'.ahead < 0 := by
  obtain ⟨k, t, hk, hs, hst, hmax⟩ := front_frames g.2 g.1 s (hsm g (by simp)) hp
  have hE : fnB d.files = G.map gFile ++ (nameL g.1, s) :: [] := by
    rw [hf]
    unfold fnB
    rw [List.map_append]
    have := fnB_lFile G
    unfold fnB at this
    rw [this]
    rfl
  have hh : Held d (G.map gFile ++ (nameL g.1, s) :: []) := ⟨hok, hup, hid, hE⟩
  have hlt : ∀ x ∈ G ++ [g], 1 ≤ x.1 ∧ x.1 < 1000000 := fun x hx => by have := hnum x hx; omega
  have htk : (g.2.take k).length = k := by rw [List.length_take]; omega
  have hsm2 : Small (g.2.take k) := fun b hb => hsm g (by simp) b (List.mem_of_mem_take hb)
  have hrd : readSg g.1 s = sgOf g.1 (g.2.take k) := by
    rw [hs]
    exact read_frames g.1 (g.2.take k) t hsm2 (by rw [htk]; exact hst)
  have hslen : s.length = bulk (g.2.take k) + t.length := by rw [hs, List.length_append, framesL_length]
  have hgn := hnum g (by simp)
  -- what stands behind the end
  have hfin : ∀ d1 : Dk, Held d1 (G.map gFile ++ (nameL g.1, framesL g.1 (g.2.take k)) :: []) → d1.files = G.map lFile ++ [(nameL g.1, (theF d1 (nameL g.1)))] → d1.room = d.room → ∃ d', syncP d1 (nameL g.1) = (0, d') ∧ StrL d' G (g.1, g.2.take k) (bulk (g.2.take k)) ∧ d'.room = d.room ∧ d'.ahead < 0 := by
    intro d1 h1 h2 h3
    obtain ⟨f1, f2⟩ := h1.find (n := nameL g.1) (bs := framesL g.1 (g.2.take k)) (by simp)
    have hsy := sync_idle f1 h1.idle
    refine ⟨_, hsy, { ok := by have := sync_ok h1.ok f1 h1.idle; rw [hsy] at this; exact this, up := h1.up, files := ?_, chain := hc.more rfl, small := ?_, num := ?_, lasts := Nat.le_refl _ }, h3, h1.idle⟩
    · show putA _ _ _ = _
      have hr := h1.ok.rises
      rw [h2] at hr
      have e := putA_at (n := nameL g.1) (u := theF d1 (nameL g.1)) (v := (⟨(theF d1 (nameL g.1)).bs, (theF d1 (nameL g.1)).bs.length⟩ : Fl)) (G.map lFile) [] hr
      rw [← h2] at e
      rw [e, f2, framesL_length]
    · intro x hx
      rcases List.mem_append.1 hx with hx | hx
      · exact hsm x (by simp [hx])
      · rw [List.mem_singleton.1 hx]; exact hsm2
    · intro x hx
      rcases List.mem_append.1 hx with hx | hx
      · exact hnum x (by simp [hx])
      · rw [List.mem_singleton.1 hx]
        simp only [htk]
        omega
  obtain ⟨fv, tf⟩ := theF_last hok.rises hup hf
  have hnames : d.files.map (·.1) = (G ++ [g]).map fun x => nameL x.1 := by
    have := congrArg (List.map (·.1)) hE
    simpa [fnB, List.map_map, gFile, Function.comp_def] using this
  have hnums : numsOf d = G.map (·.1) ++ g.1 :: [] := by
    unfold numsOf
    rw [if_pos hup, hnames, segNums_names _ hlt, List.map_append]
    rfl
  have hld : loadP d (numsOf d) false [] = (0, decide (bulk (g.2.take k) < s.length), (G ++ [(g.1, g.2.take k)]).map gSg) := by
    rw [hnums]
    have := loadP_pre hh G [] (g.1 :: []) (chain_front G g [] hc) (fun x hx => ⟨by simp [List.mem_map_of_mem hx], hsm x (by simp [hx]), by have := hnum x (by simp [hx]); omega⟩)
    rw [List.map_nil] at this
    rw [this, List.nil_append, loadP, if_neg, if_neg (by rw [fv]; simp), tf, hrd, if_neg (by rw [sgOf_next, htk]; omega), sgOf_size, loadP, List.map_append]
    · rfl
    · rw [Bool.false_or]
      rcases List.eq_nil_or_concat G with hP | ⟨P', a, hP⟩
      · rw [hP]; simp
      · rw [List.concat_eq_append] at hP
        rw [hP, List.append_assoc] at hc
        have := (ChainG.last (a := P') (g := a) (h := g) (r := []) (by simpa using hc)).1
        rw [hP, lastS_gs, gSg_next, this]
        simp
  have hopen := openP_eq d
  rw [hld, if_neg (by rw [hnums]; simp), if_neg (by simp)] at hopen
  simp only at hopen
  unfold openF at hopen
  rw [lastS_gs] at hopen
  have hsn : (gSg (g.1, g.2.take k)).num = g.1 := rfl
  have hsz : (gSg (g.1, g.2.take k)).size = bulk (g.2.take k) := gSg_size _
  rw [hsn, hsz] at hopen
  by_cases ht : t = []
  · subst ht
    have hse : s = framesL g.1 (g.2.take k) := by rw [hs, List.append_nil]
    rw [show decide (bulk (g.2.take k) < s.length) = false by rw [hslen]; simp, if_neg (by simp)] at hopen
    obtain ⟨d', q1, q2, q3, q4⟩ := hfin d (by rw [← hse]; exact hh) (by rw [tf]; exact hf) rfl
    rw [q1] at hopen
    exact ⟨k, d', hk, hmax, hopen, q2, q3, q4⟩
  · have htl : 1 ≤ t.length := List.length_pos_iff.2 ht
    rw [show decide (bulk (g.2.take k) < s.length) = true by rw [hslen]; simp; omega, if_pos rfl] at hopen
    have hcu := cut_idle fv hid (k := bulk (g.2.take k)) (by rw [tf]; show _ ≤ s.length; omega)
    obtain ⟨d1, c1, c2, c3, _⟩ := hh.cut (bulk (g.2.take k)) (by omega)
    have htake : s.take (bulk (g.2.take k)) = framesL g.1 (g.2.take k) := by
      rw [hs, ← framesL_length g.1 (g.2.take k), List.take_left' rfl]
    rw [htake] at c2
    rw [c1] at hopen hcu
    have hd1 : d1 = { d with files := putA (nameL g.1) ⟨(theF d (nameL g.1)).bs.take (bulk (g.2.take k)), min (theF d (nameL g.1)).la (bulk (g.2.take k))⟩ d.files } := (Prod.mk.inj hcu).2
    have hfile : ∃ f, d1.files = G.map lFile ++ [(nameL g.1, f)] := by
      have hr := hok.rises
      rw [hf] at hr
      refine ⟨⟨(theF d (nameL g.1)).bs.take (bulk (g.2.take k)), min (theF d (nameL g.1)).la (bulk (g.2.take k))⟩, ?_⟩
      rw [hd1]
      show putA _ _ d.files = _
      rw [hf]
      exact putA_at (G.map lFile) [] hr
    obtain ⟨f, hfe⟩ := hfile
    obtain ⟨_, tf1⟩ := theF_last c2.ok.rises c2.up hfe
    obtain ⟨d', q1, q2, q3, q4⟩ := hfin d1 c2 (by rw [tf1]; exact hfe) c3
    rw [if_neg (by simp), q1] at hopen
    exact ⟨k, d', hk, hmax, hopen, q2, q3, q4⟩
end Go.Proofs.YtkbmblmnhhlicaaGreatDoor

/- A log whose disk's power may fail: each call, over lists. -/
namespace Go.Proofs.YtkbmblmnhhlicaaGreatDoor

theorem fallL_lasts {keep : Nat} : ∀ {i : Nat} {l : Fls}, (∀ p ∈ l, p.2.la ≤ p.2.bs.length) → ∀ p ∈ fallL keep i l, p.2.la ≤ p.2.bs.length
  | _, [], _, p, hp => by cases hp
  | i, x :: l, h, p, hp => by
    rw [fallL] at hp
    rcases List.mem_cons.1 hp with rfl | hp
    · have := fallF_len (keep := keep) (i := i) (h x List.mem_cons_self)
      show (fallF keep i x.2).la ≤ _
      rw [this]
      exact Nat.le_refl _
    · exact fallL_lasts (fun q hq => h q (List.mem_cons_of_mem _ hq)) p hp
theorem fall_ok {d : Dk} (h : DkOk d) (keep : Nat) : DkOk (fallD keep d) := by
  have hu := fallL_used (keep := keep) (i := 0) h.lasts
  refine { rises := rises_names (fallL_names keep 0 d.files) h.rises, lasts := fallL_lasts h.lasts, fits := Nat.le_trans hu h.fits, room := h.room, ahead := ?_, keep := h.keep, few := ?_, small := Nat.le_trans hu h.small }
  · show (-1 : Int) ≤ -1 ∧ (-1 : Int) ≤ _
    omega
  · show (fallL keep 0 d.files).length ≤ _
    rw [fallL_length]; exact h.few
theorem done_ok {d : Dk} (h : DkOk d) (h0 : d.ahead ≠ 0) : DkOk (failD d) ∧ (failD d).files = d.files ∧ (failD d).up = d.up ∧ (failD d).room = d.room ∧ (failD d).keep = d.keep := by
  unfold failD doneD
  rw [if_neg h0]
  split
  · exact ⟨{ rises := h.rises, lasts := h.lasts, fits := h.fits, room := h.room, ahead := by have := h.ahead; show -1 ≤ d.ahead - 1 ∧ d.ahead - 1 ≤ _; omega, keep := h.keep, few := h.few, small := h.small }, rfl, rfl, rfl, rfl⟩
  · exact ⟨h, rfl, rfl, rfl, rfl⟩

/-- A disk whose power failed while a log was on it. -/
structure Fallen (d : Dk) (G : Gs) (g : Nat × Recs) (s : List UInt8) : Prop where
  ok : DkOk d
  off : d.up = false
  files : d.files = G.map lFile ++ [(nameL g.1, ⟨s, s.length⟩)]
  pre : s <+: framesL g.1 g.2
  chain : ChainG (G ++ [g])
  small : ∀ x ∈ G ++ [g], Small x.2
  num : ∀ x ∈ G ++ [g], 1 ≤ x.1 ∧ x.1 + x.2.length ≤ 999999
theorem StrL.fallen {d : Dk} {G : Gs} {g : Nat × Recs} {la : Nat} (h : StrL d G g la) (keep : Nat) : ∃ s, Fallen (fallD keep d) G g s ∧ la ≤ s.length := by
  obtain ⟨s, h1, h2, h3⟩ := h.fall keep
  exact ⟨s, ⟨fall_ok h.ok keep, rfl, h3, h1, h.chain, h.small, h.num⟩, h2⟩
/-- Started, and opened. -/
theorem Fallen.open {d : Dk} {G : Gs} {g : Nat × Recs} {s : List UInt8} (h : Fallen d G g s) : ∃ k d', k ≤ g.2.length ∧ (∀ j, j ≤ g.2.length → bulk (g.2.take j) ≤ s.length → j ≤ k) ∧ openP (startD d) = (0, d', (G ++ [(g.1, g.2.take k)]).map gSg) ∧ StrL d' G (g.1, g.2.take k) (bulk (g.2.take k)) ∧ d'.room = d.room ∧ d'.ahead < 0 :=
  open_fallen (d := startD d) (la := 0) { rises := h.ok.rises, lasts := h.ok.lasts, fits := h.ok.fits, room := h.ok.room, ahead := (by show (-1 : Int) ≤ -1 ∧ (-1 : Int) ≤ _; omega), keep := h.ok.keep, few := h.ok.few, small := h.ok.small } rfl (by show (-1 : Int) < 0; omega) h.files h.pre h.chain h.small h.num

theorem StrL.used {d : Dk} {G : Gs} {g : Nat × Recs} {la : Nat} (h : StrL d G g la) : usedL d.files = bulks (G ++ [g]) ∧ d.files.length = (G ++ [g]).length := by
  constructor
  · rw [h.files, usedL_fnB]
    unfold fnB
    rw [List.map_append]
    have := fnB_lFile G
    unfold fnB at this
    rw [this, List.map_append, List.sum_append]
    unfold bulks
    rw [List.map_append, List.sum_append, List.map_map]
    congr 1
    · congr 1
      apply List.map_congr_left
      intro x _
      simp [gFile, framesL_length]
    · simp [framesL_length]
  · rw [h.files]; simp
theorem StrL.find {d : Dk} {G : Gs} {g : Nat × Recs} {la : Nat} (h : StrL d G g la) : findV d (nameL g.1) = 0 ∧ theF d (nameL g.1) = ⟨framesL g.1 g.2, la⟩ := theF_last h.ok.rises h.up h.files
/-- A sync: the last segment lasts whole, or power fails. -/
theorem StrL.sync {d : Dk} {G : Gs} {g : Nat × Recs} {la : Nat} (h : StrL d G g la) :
    (∃ d', syncP d (nameL g.1) = (0, d') ∧ StrL d' G g (bulk g.2) ∧ d'.room = d.room ∧ d'.ahead = (failD d).ahead) ∨ (∃ d' s, syncP d (nameL g.1) = (13, d') ∧ Fallen d' G g s ∧ la ≤ s.length ∧ d'.room = d.room) := by
  obtain ⟨f1, f2⟩ := h.find
  by_cases h0 : d.ahead = 0
  · right
    obtain ⟨s, s1, s2⟩ := h.fallen d.keep
    refine ⟨fallD d.keep d, s, ?_, s1, s2, rfl⟩
    unfold syncP
    rw [if_neg (by rw [f1]; decide), if_pos h0]
    unfold failD
    rw [if_pos h0]
  · left
    obtain ⟨o1, o2, o3, o4, o5⟩ := done_ok h.ok h0
    have hfl : (failD d).files = G.map lFile ++ [(nameL g.1, ⟨framesL g.1 g.2, la⟩)] := by rw [o2, h.files]
    have hr := o1.rises
    rw [hfl] at hr
    have hp : putA (nameL g.1) (⟨framesL g.1 g.2, (framesL g.1 g.2).length⟩ : Fl) (failD d).files = G.map lFile ++ [(nameL g.1, ⟨framesL g.1 g.2, bulk g.2⟩)] := by
      rw [hfl, putA_at (G.map lFile) [] hr, framesL_length]
    refine ⟨{ failD d with files := putA (nameL g.1) ⟨framesL g.1 g.2, (framesL g.1 g.2).length⟩ (failD d).files }, ?_, ?_, o4, rfl⟩
    · unfold syncP
      rw [if_neg (by rw [f1]; decide), if_neg h0, f2]
    · have hu : usedL (putA (nameL g.1) (⟨framesL g.1 g.2, (framesL g.1 g.2).length⟩ : Fl) (failD d).files) = usedL (failD d).files := by
        rw [hp, hfl]
        unfold usedL
        simp
      refine { ok := { rises := rises_putA o1.rises, lasts := ?_, fits := by show usedL (putA _ _ _) ≤ _; rw [hu]; exact o1.fits, room := o1.room, ahead := o1.ahead, keep := o1.keep, few := ?_, small := by show usedL (putA _ _ _) ≤ _; rw [hu]; exact o1.small }, up := by show (failD d).up = true; rw [o3]; exact h.up, files := hp, chain := h.chain, small := h.small, num := h.num, lasts := Nat.le_refl _ }
      · intro p hp'
        rcases mem_putA.1 hp' with rfl | hp'
        · exact Nat.le_refl _
        · exact o1.lasts p hp'.1
      · show (putA _ _ _).length ≤ _
        have := o1.few
        rw [hfl] at this
        rw [hp]
        simpa using this
end Go.Proofs.YtkbmblmnhhlicaaGreatDoor

/- A log whose disk's power may fail: Append, over lists. -/
namespace Go.Proofs.YtkbmblmnhhlicaaGreatDoor

theorem StrL.done {d : Dk} {G : Gs} {g : Nat × Recs} {la : Nat} (h : StrL d G g la) (h0 : d.ahead ≠ 0) : StrL (failD d) G g la ∧ (failD d).room = d.room := by
  obtain ⟨o1, o2, o3, o4, _⟩ := done_ok h.ok h0
  exact ⟨{ ok := o1, up := by rw [o3]; exact h.up, files := by rw [o2]; exact h.files, chain := h.chain, small := h.small, num := h.num, lasts := h.lasts }, o4⟩
/-- What an Append of the disk's leaves: all, or power fails. -/
theorem StrL.deed {d X : Dk} {G : Gs} {g : Nat × Recs} {la : Nat} {n : Nm} {l : List UInt8} (hX : StrL X G g la) (hup : d.up = true) (hm : mayN n = true) (hr : usedL d.files + l.length ≤ d.room) (hXd : addD d n l = X) :
    (∃ d', appendP d n l = (0, d') ∧ StrL d' G g la ∧ d'.room = d.room) ∨ (∃ d' s, appendP d n l = (13, d') ∧ Fallen d' G g s ∧ la ≤ s.length ∧ d'.room = d.room) := by
  have ha : X.ahead = d.ahead := by rw [← hXd]; rfl
  have hrm : X.room = d.room := by rw [← hXd]; rfl
  have e : appendP d n l = (if d.ahead = 0 then 13 else 0, failD X) := by
    unfold appendP
    rw [if_neg (by rw [hup]; decide), if_neg (by rw [hm]; decide), if_neg (by omega), hXd]
  by_cases h0 : d.ahead = 0
  · right
    obtain ⟨s, s1, s2⟩ := hX.fallen X.keep
    refine ⟨fallD X.keep X, s, ?_, s1, s2, hrm⟩
    rw [e, if_pos h0]
    unfold failD
    rw [if_pos (by rw [ha]; exact h0)]
  · left
    obtain ⟨q1, q2⟩ := hX.done (by rw [ha]; exact h0)
    exact ⟨failD X, by rw [e, if_neg h0], q1, by rw [q2, hrm]⟩
theorem StrL.add {d : Dk} {G : Gs} {g : Nat × Recs} {la : Nat} {l : Rec} (h : StrL d G g la) (hl : l.length ≤ 8192) (hn : g.1 + g.2.length ≤ 999998) (hr : usedL d.files + (8 + l.length) ≤ d.room) (hs : usedL d.files + (8 + l.length) ≤ 1099511627776) (hf : d.files.length + 1 ≤ 1048576) :
    StrL (addD d (nameL g.1) (frameL (g.1 + g.2.length) l)) G (g.1, g.2 ++ [l]) la := by
  obtain ⟨f1, f2⟩ := h.find
  have hfl := frameL_length (g.1 + g.2.length) l
  have hold : oldF d (nameL g.1) = ⟨framesL g.1 g.2, la⟩ := by rw [← f2]; unfold oldF; rw [findV_get f1]; rfl
  refine { ok := (add_ok h.ok (by rw [hfl]; exact hr) (by rw [hfl]; exact hs) hf).1, up := h.up, files := ?_, chain := h.chain.more rfl, small := ?_, num := ?_, lasts := by rw [bulk_append]; have := h.lasts; omega }
  · show putA _ _ _ = _
    rw [hold]
    have hrs := h.ok.rises
    rw [h.files] at hrs ⊢
    rw [putA_at (G.map lFile) [] hrs]
    simp only [framesL_append, framesL, List.append_nil]
  · intro x hx
    rcases List.mem_append.1 hx with hx | hx
    · exact h.small x (by simp [hx])
    · rw [List.mem_singleton.1 hx]
      intro b hb
      rcases List.mem_append.1 hb with hb | hb
      · exact h.small g (by simp) b hb
      · rw [List.mem_singleton.1 hb]; exact hl
  · intro x hx
    rcases List.mem_append.1 hx with hx | hx
    · exact h.num x (by simp [hx])
    · rw [List.mem_singleton.1 hx]
      have := h.num g (by simp)
      simp only [List.length_append, List.length_cons, List.length_nil]
      omega
theorem StrL.addNew {d : Dk} {G : Gs} {g : Nat × Recs} {l : Rec} (h : StrL d G g (bulk g.2)) (hg : g.2 ≠ []) (hl : l.length ≤ 8192) (hn : g.1 + g.2.length ≤ 999998) (hr : usedL d.files + (8 + l.length) ≤ d.room) (hs : usedL d.files + (8 + l.length) ≤ 1099511627776) (hf : d.files.length + 1 ≤ 1048576) :
    StrL (addD d (nameL (g.1 + g.2.length)) (frameL (g.1 + g.2.length) l)) (G ++ [g]) (g.1 + g.2.length, [l]) 0 := by
  have hfl := frameL_length (g.1 + g.2.length) l
  have hch : ChainG (G ++ [g] ++ [(g.1 + g.2.length, [l])]) := h.chain.snoc hg rfl
  have hfiles : d.files = (G ++ [g]).map lFile := by
    rw [h.files, List.map_append]
    simp [lFile, framesL_length]
  have hbef : ∀ p ∈ d.files, bytesBefore p.1 (nameL (g.1 + g.2.length)) = true := by
    intro p hp
    rw [hfiles] at hp
    obtain ⟨x, hx, rfl⟩ := List.mem_map.1 hp
    have hr2 := (List.pairwise_append.1 hch.rise).2.2 x hx (g.1 + g.2.length, [l]) (by simp)
    exact name_before hr2 (by omega)
  have hold : oldF d (nameL (g.1 + g.2.length)) = ⟨[], 0⟩ := by
    unfold oldF
    cases hg2 : getA (nameL (g.1 + g.2.length)) d.files with
    | none => rfl
    | some f =>
      have := hbef _ (getA_mem hg2)
      rw [bb_irrefl] at this; cases this
  refine { ok := (add_ok h.ok (by rw [hfl]; exact hr) (by rw [hfl]; exact hs) hf).1, up := h.up, files := ?_, chain := hch, small := ?_, num := ?_, lasts := Nat.zero_le _ }
  · show putA _ _ _ = _
    rw [hold, putA_end hbef, hfiles]
    simp [framesL]
  · intro x hx
    rcases List.mem_append.1 hx with hx | hx
    · exact h.small x hx
    · rw [List.mem_singleton.1 hx]
      intro b hb
      rw [List.mem_singleton.1 hb]; exact hl
  · intro x hx
    rcases List.mem_append.1 hx with hx | hx
    · exact h.num x hx
    · rw [List.mem_singleton.1 hx]
      have := h.num g (by simp)
      simp only [List.length_cons, List.length_nil]
      omega

/-- So many records are sure to last. -/
def Sure (G : Gs) (g : Nat × Recs) (la S : Nat) : Prop := ∃ j, j ≤ g.2.length ∧ bulk (g.2.take j) ≤ la ∧ S ≤ (allR G).length + j
theorem Sure.all (G : Gs) (g : Nat × Recs) : Sure G g (bulk g.2) ((allR G).length + g.2.length) := ⟨g.2.length, Nat.le_refl _, by rw [List.take_length]; exact Nat.le_refl _, Nat.le_refl _⟩
theorem Sure.mono {G : Gs} {g : Nat × Recs} {la la' S : Nat} (h : Sure G g la S) (hl : la ≤ la') : Sure G g la' S := by
  obtain ⟨j, h1, h2, h3⟩ := h
  exact ⟨j, h1, by omega, h3⟩
theorem Sure.snoc {G : Gs} {g : Nat × Recs} {la S : Nat} (h : Sure G g la S) (l : Rec) : Sure G (g.1, g.2 ++ [l]) la S := by
  obtain ⟨j, h1, h2, h3⟩ := h
  refine ⟨j, ?_, ?_, h3⟩
  · show j ≤ (g.2 ++ [l]).length
    rw [List.length_append]; omega
  · show bulk ((g.2 ++ [l]).take j) ≤ la
    rw [List.take_append_of_le_length h1]; exact h2
theorem Sure.le {G : Gs} {g : Nat × Recs} {la S : Nat} (h : Sure G g la S) : S ≤ (allR G).length + g.2.length := by
  obtain ⟨j, h1, h2, h3⟩ := h
  omega

/-- What Append answers of a log whose disk's power may fail. -/
theorem StrL.app {d : Dk} {G : Gs} {g : Nat × Recs} {la S : Nat} {l : Rec} (h : StrL d G g la) (hsu : Sure G g la S) (hl : l.length ≤ 8192) (hn : g.1 + g.2.length ≤ 999998) (hr : usedL d.files + (8 + l.length) ≤ d.room) (hs : usedL d.files + (8 + l.length) ≤ 1099511627776) (hf : d.files.length + 1 ≤ 1048576) :
    (∃ d' G' g' la', wappP d ((G ++ [g]).map gSg) l = (0, d', (G' ++ [g']).map gSg) ∧ StrL d' G' g' la' ∧ Sure G' g' la' S ∧ G' ++ [g'] = addG G g l ∧ d'.room = d.room) ∨
    (∃ d' L' G' g' s, wappP d ((G ++ [g]).map gSg) l = (13, d', L') ∧ Fallen d' G' g' s ∧ Sure G' g' s.length S ∧ (G' ++ [g'] = G ++ [g] ∨ G' ++ [g'] = addG G g l) ∧ d'.room = d.room) := by
  have hfl := frameL_length (g.1 + g.2.length) l
  have hnum : (gSg g).num = g.1 := rfl
  by_cases hb : 2048 ≤ bulk g.2
  · rcases h.sync with ⟨d1, c1, c2, c3, c4⟩ | ⟨d1, s, c1, c2, c3, c4⟩
    · obtain ⟨u1, u2⟩ := c2.used
      obtain ⟨v1, v2⟩ := h.used
      have hX := c2.addNew (bulk_pos hb) hl hn (by rw [c3, u1, ← v1]; exact hr) (by rw [u1, ← v1]; exact hs) (by rw [u2, ← v2]; exact hf)
      have hsu2 : Sure (G ++ [g]) (g.1 + g.2.length, [l]) 0 S := ⟨0, Nat.zero_le _, by simp [bulk], by rw [show allR (G ++ [g]) = allR G ++ g.2 by simp [allR], List.length_append]; have := hsu.le; omega⟩
      rcases hX.deed c2.up (mayN_name _) (by rw [hfl, c3, u1, ← v1]; exact hr) rfl with ⟨d2, e1, e2, e3⟩ | ⟨d2, s, e1, e2, e3, e4⟩
      · left
        refine ⟨d2, G ++ [g], (g.1 + g.2.length, [l]), 0, ?_, e2, hsu2, by unfold addG; rw [if_pos hb], by rw [e3, c3]⟩
        unfold wappP
        rw [lastS_gs, gSg_next, gSg_size, if_neg (by omega), if_neg (by omega), if_pos hb, hnum, c1, if_neg (by simp), e1, if_neg (by simp), List.map_append]
        simp [gSg, sgOf, placesL]
      · right
        refine ⟨d2, (G ++ [g]).map gSg, G ++ [g], (g.1 + g.2.length, [l]), s, ?_, e2, hsu2.mono (Nat.zero_le _), .inr (by unfold addG; rw [if_pos hb]), by rw [e4, c3]⟩
        unfold wappP
        rw [lastS_gs, gSg_next, gSg_size, if_neg (by omega), if_neg (by omega), if_pos hb, hnum, c1, if_neg (by simp), e1, if_pos (by simp)]
    · right
      refine ⟨d1, (G ++ [g]).map gSg, G, g, s, ?_, c2, hsu.mono c3, .inl rfl, c4⟩
      unfold wappP
      rw [lastS_gs, gSg_next, gSg_size, if_neg (by omega), if_neg (by omega), if_pos hb, hnum, c1, if_pos (by simp)]
  · have hX := h.add hl hn hr hs hf
    rcases hX.deed h.up (mayN_name _) (by rw [hfl]; exact hr) rfl with ⟨d2, e1, e2, e3⟩ | ⟨d2, s, e1, e2, e3, e4⟩
    · left
      refine ⟨d2, G, (g.1, g.2 ++ [l]), la, ?_, e2, hsu.snoc l, by unfold addG; rw [if_neg hb], e3⟩
      unfold wappP
      rw [lastS_gs, gSg_next, gSg_size, if_neg (by omega), if_neg (by omega), if_neg hb, hnum, e1, if_neg (by simp), List.map_append, List.map_append]
      simp only [List.map_cons, List.map_nil, List.dropLast_concat]
      have hpl : (gSg g).pl = 0 :: placesL 0 g.2 := rfl
      rw [hpl]
      simp only [gSg, sgOf, places_snoc]
    · right
      refine ⟨d2, (G ++ [g]).map gSg, G, (g.1, g.2 ++ [l]), s, ?_, e2, (hsu.snoc l).mono e3, .inr (by unfold addG; rw [if_neg hb]), e4⟩
      unfold wappP
      rw [lastS_gs, gSg_next, gSg_size, if_neg (by omega), if_neg (by omega), if_neg hb, hnum, e1, if_pos (by simp)]
end Go.Proofs.YtkbmblmnhhlicaaGreatDoor
