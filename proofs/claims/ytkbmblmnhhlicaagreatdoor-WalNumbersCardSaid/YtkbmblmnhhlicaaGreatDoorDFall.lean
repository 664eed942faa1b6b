/- Package disk: fall, Crash, fails; walked. -/
import Derived.Test.YtkbmblmnhhlicaaGreatDoorDSmall
import Derived.Test.YtkbmblmnhhlicaaGreatDoorDIter
import Derived.BigQuiet
set_option linter.unusedVariables false
namespace Go.Proofs.YtkbmblmnhhlicaaGreatDoor
open Go.RowKit

/-- A row cut short is a row. -/
theorem own_take {w : World} {B : Nat} {a : Option Addr} {n c : Nat} {l : List UInt8} (h : OwnB w B (.slice a n c) l) (k : Nat) (hk : k ≤ n) :
    n = l.length ∧ n ≤ c ∧ OwnB w B (.slice a k c) (l.take k) := by
  rcases h.2 with ⟨h1, h0⟩ | ⟨g, cap, cur, h1, hB, hg, hnc, hcm, hcs, hx⟩
  · have e1 : n = 0 := congrArg (fun v => match v with | Value.slice _ n _ => n | _ => 0) h1
    have e2 : c = 0 := congrArg (fun v => match v with | Value.slice _ _ c => c | _ => 0) h1
    have e3 : a = none := congrArg (fun v => match v with | Value.slice a _ _ => a | _ => none) h1
    subst e1 e2 e3
    have hl : l = [] := List.eq_nil_of_length_eq_zero h0
    subst hl
    have : k = 0 := by omega
    subst this
    exact ⟨rfl, Nat.le_refl _, own_nil w B⟩
  · have e1 : n = l.length := congrArg (fun v => match v with | Value.slice _ n _ => n | _ => 0) h1
    have e2 : c = cap := congrArg (fun v => match v with | Value.slice _ _ c => c | _ => 0) h1
    have e3 : a = some ⟨g, 0, none⟩ := congrArg (fun v => match v with | Value.slice a _ _ => a | _ => none) h1
    subst e2 e3
    refine ⟨e1, by omega, ?_, .inr ⟨g, c, cur, ?_, hB, hg, ?_, hcm, hcs, ?_⟩⟩
    · rw [Lib.byteCells_length]; omega
    · rw [List.length_take, Nat.min_eq_left (by omega)]
    · rw [List.length_take]; omega
    · rw [List.length_take, Nat.mul_one, Nat.min_eq_left (by omega)]
      rw [Nat.mul_one] at hx
      have : cur.toList.take k = (cur.toList.take l.length).take k := by rw [List.take_take, Nat.min_eq_left (by omega)]
      rw [this, hx]
      simp [Lib.byteCells]

theorem slice_to (a : Option Addr) (n c k : Nat) (hk : k ≤ n) (hn : n ≤ c) (w : World) : (Instr.slice 34 (.slice a n c) none (some (.int .i64 (k : Int))) none).run Tryz.prog w = .ok (.slice a k c) w := by
  have hel : Tryz.prog.elem 34 = 5 := by kernel_rfl
  have hsz : (sizeOf 5).run Tryz.prog w = .ok 1 w := by kernel_rfl
  rw [run_slice_h w 34 a n c (by rw [hel]; exact Tryz.underlying34) .i64 (k : Int) (by omega) (by omega), hel, hsz]
  show Result.ok (sliced a 0 (k : Int).toNat c 1) w = _
  have : (k : Int).toNat = k := by omega
  rw [this]
  unfold sliced
  cases a with
  | none => simp
  | some x =>
    have : x.add 0 = x := by unfold Addr.add; split <;> simp_all
    simp [this]

theorem ob_same {a : Option Addr} {n n' c c' g : Nat} (h : (Value.slice a n c).ownBlock = some g) : (Value.slice a n' c').ownBlock = some g := by
  cases a with
  | none => cases h
  | some x => exact h

/-- The disk behind k rounds of a fall. -/
def fallK (keep k : Nat) (d : Dk) : Dk := { d with files := fallL keep 0 (d.files.take k) ++ d.files.drop k }

theorem fallK_names (keep k : Nat) (d : Dk) : (fallK keep k d).files.map (·.1) = d.files.map (·.1) := by
  show (fallL keep 0 (d.files.take k) ++ d.files.drop k).map (·.1) = _
  rw [List.map_append, fallL_names, ← List.map_append, List.take_append_drop]
theorem fallK_zero (keep : Nat) (d : Dk) : fallK keep 0 d = d := by simp [fallK, fallL]
theorem fallK_all (keep : Nat) (d : Dk) : fallK keep d.files.length d = { d with files := fallL keep 0 d.files } := by simp [fallK]
theorem fallK_at {keep k : Nat} {d : Dk} {p : Nm × Fl} (h : d.files[k]? = some p) : (fallK keep k d).files = fallL keep 0 (d.files.take k) ++ p :: d.files.drop (k + 1) := by
  obtain ⟨hl, hp⟩ := List.getElem?_eq_some_iff.1 h
  show _ ++ d.files.drop k = _
  rw [List.drop_eq_getElem_cons hl, hp]
theorem fallK_next {keep k : Nat} {d : Dk} {p : Nm × Fl} (hr : Rises d.files) (h : d.files[k]? = some p) : putA p.1 (fallF keep k p.2) (fallK keep k d).files = (fallK keep (k + 1) d).files := by
  obtain ⟨hl, hp⟩ := List.getElem?_eq_some_iff.1 h
  have hr2 : Rises (fallK keep k d).files := rises_names (fallK_names keep k d) hr
  rw [fallK_at h] at hr2 ⊢
  have e : (p :: d.files.drop (k + 1)) = (p.1, p.2) :: d.files.drop (k + 1) := rfl
  rw [e] at hr2 ⊢
  rw [putA_at _ _ hr2]
  show _ = fallL keep 0 (d.files.take (k + 1)) ++ d.files.drop (k + 1)
  rw [List.take_add_one, h, Option.toList_some, fallL_append, List.append_assoc]
  have : (0 + (d.files.take k).length) = k := by rw [List.length_take]; omega
  rw [this]
  rfl
theorem fallK_length (keep k : Nat) (d : Dk) : (fallK keep k d).files.length = d.files.length := by
  have := congrArg List.length (fallK_names keep k d)
  simpa using this
theorem fallK_fits {keep k : Nat} {d : Dk} (h : DkOk d) : usedL (fallK keep k d).files ≤ usedL d.files := by
  have happ : ∀ a b : Fls, usedL (a ++ b) = usedL a + usedL b := by intro a b; simp [usedL]
  show usedL (_ ++ _) ≤ _
  have h1 : usedL d.files = usedL (d.files.take k) + usedL (d.files.drop k) := by rw [← happ, List.take_append_drop]
  have h2 := fallL_used (keep := keep) (i := 0) (l := d.files.take k) (fun p hp => h.lasts p (List.mem_of_mem_take hp))
  rw [happ, h1]
  omega

set_option maxHeartbeats 4000000 in
set_option maxRecDepth 20000 in
theorem fall_any {w : World} {b m : Nat} {S : Nat → Prop} {sl : Nm → Value} {d : Dk} (h : DkW w b m S sl none d) (keep : Nat) (hkp : keep < 18446744073709551616) :
    Calls Tryz.prog 103 #[dptr b, .int .u64 (keep : Int)] w fun e w' => e = .returned (.tuple #[]) ∧ (∃ sl', DkW w' b m S sl' none (fallD keep d)) ∧ Fr S w w' := by
  have hN := names_any h
  have HD : Hid (DkW w b m S sl none d) := h
  have hfew := h.ok.few
  obtain ⟨L, hL⟩ : ∃ L, L = d.files.length := ⟨_, rfl⟩
  rw [← hL] at hN hfew
  have HL : Hid (L = d.files.length) := hL
  clear h hL
  go_enter Tryz.func103, Tryz.ntmps103
  go_wp2_with (go_at_call 127; refine hN.mono ?_; rintro e w1 ⟨v, rfl, hrow, hb1⟩; obtain ⟨na, nc, hv⟩ : ∃ a c, v = .slice a L c := (by
    rcases hrow.2 with ⟨rfl, h0⟩ | ⟨g, cap, cur, rfl, _⟩
    · exact ⟨none, 0, by rw [h0]⟩
    · exact ⟨_, _, rfl⟩); subst hv)
  have HN : Hid (∀ j (p : Nm × Fl), d.files[j]? = some p → ∃ g : Nat, w.heap.size ≤ g ∧ na = some ⟨g, 0, none⟩ ∧ w1.cell? ⟨g, j, none⟩ = some (.string ⟨p.1.toArray⟩)) := by
    intro j p hp
    rcases hrow.2 with ⟨h1, h0⟩ | ⟨g, cap, cur, h1, hB, hg, hnc, hcm, hcs, hx⟩
    · have := (List.getElem?_eq_some_iff.1 hp).1
      rw [← HL.out, h0] at this
      omega
    · have e3 : na = some ⟨g, 0, none⟩ := congrArg (fun v => match v with | Value.slice a _ _ => a | _ => none) h1
      refine ⟨g, hB, e3, ?_⟩
      subst e3
      have := hrow.cells (g := g) rfl j (.string ⟨p.1.toArray⟩) (by simp [nmCells, encStr, hp])
      rwa [show (⟨g, 0, none⟩ : Addr).add j = ⟨g, j, none⟩ from by unfold Addr.add; split <;> simp_all] at this
  have HF1 : Hid (Fr S w w1) := Fr.of_below S hb1
  have HD1 : Hid (DkW w1 b m S sl none d) := HD.out.below hb1
  have HB1 : Hid (w.heap.size ≤ w1.heap.size) := hb1.size
  clear hrow hb1
  go_loopw [12] (fun i wr => ∃ (k : Nat), i = .int .i64 (k : Int) ∧ k ≤ L ∧ Hid (∃ sl', DkW wr b m S sl' none (fallK keep k d)) ∧ Hid (Fr S w1 wr)) (fun i _ => L - (intOf i).toNat)
  case atStart => exact ⟨0, rfl, Nat.zero_le _, ⟨sl, by rw [fallK_zero]; exact HD1.out⟩, Fr.refl _ _⟩
  case round =>
    obtain ⟨k, rfl, hk, HK, HF⟩ := hrel
    by_cases hlt : k < L
    · have dlt : decide ((k : Int) < (L : Int)) = true := by simpa using hlt
      have hlt' : (k : Int) < (L : Int) := by omega
      obtain ⟨n, bs, la, hp⟩ : ∃ n bs la, d.files[k]? = some (n, ⟨bs, la⟩) := ⟨_, _, _, List.getElem?_eq_getElem (by rw [← HL.out]; exact hlt)⟩
      obtain ⟨g, hg0, hna, hcell⟩ := HN.out k _ hp
      have hcell2 : wr.cell? ⟨g, k, none⟩ = some (.string ⟨n.toArray⟩) := by
        rw [World.cell?_of_block (w := w1) (HF.out.block g (World.block_lt_of_cell? w1 _ hcell) (fun hs => by have := HD.out.lt g hs; omega))]
        exact hcell
      subst hna
      obtain ⟨sl', D'⟩ := HK.out
      have hr2 : Rises (fallK keep k d).files := D'.ok.rises
      have hmem : (n, (⟨bs, la⟩ : Fl)) ∈ (fallK keep k d).files := by rw [fallK_at hp]; simp
      have hget : getA n (fallK keep k d).files = some ⟨bs, la⟩ := getA_of_mem hr2 hmem
      have hpl : n.length ≤ 140737488355328 := D'.names _ hmem
      have hla : la ≤ bs.length := D'.ok.lasts _ hmem
      have hbl : bs.length ≤ 140737488355328 := by have := usedL_get hr2 hget; have := D'.ok.small; simp only at *; omega
      obtain ⟨oa, oc, hlook, _, hslo, _⟩ := D'.look n
      rw [hget] at hlook hslo
      have hslo' : sl' n = .slice oa bs.length oc := hslo rfl
      have hown : OwnB wr 0 (.slice oa bs.length oc) bs := by have := D'.rows _ hmem (by simp); simp only at this; rw [hslo'] at this; exact this
      obtain ⟨ST, hST⟩ : ∃ ST, ST = stay keep k ⟨bs, la⟩ := ⟨_, rfl⟩
      have hst : la ≤ ST ∧ ST ≤ bs.length := by rw [hST]; exact stay_le (f := ⟨bs, la⟩) hla
      obtain ⟨_, hoc, htake⟩ := own_take hown ST hst.2
      have hslice := slice_to oa bs.length oc ST hst.2 hoc
      have l1 : (Instr.lookup 85 (.map (some m)) (.string ⟨n.toArray⟩) false).run Tryz.prog wr = .ok (.agg #[.slice oa bs.length oc, .int .i64 (la : Int)]) wr := by
        rw [mapv_look D'.map n hpl, hlook]; rfl
      have c2 := D'.c2
      obtain ⟨Q, hQ⟩ : ∃ Q, Q = keep / (k + 1) := ⟨_, rfl⟩
      obtain ⟨R, hR⟩ : ∃ R, R = Q % (bs.length - la + 1) := ⟨_, rfl⟩
      have hR1 : R ≤ bs.length - la := by rw [hR]; have := Nat.mod_lt Q (show 0 < bs.length - la + 1 by omega); omega
      have hSTR : (la : Int) + (R : Int) = (ST : Int) := by rw [hST, hR, hQ]; unfold stay; simp only; omega
      have hQ1 : Q ≤ keep := by rw [hQ]; exact Nat.div_le_self _ _
      have q1 : (keep : Int).tdiv ((k : Int) + 1) = (Q : Int) := by rw [hQ, Int.tdiv_eq_ediv_of_nonneg (by omega)]; norm_cast
      have q2 : (Q : Int).tmod ((bs.length : Int) - (la : Int) + 1) = (R : Int) := by rw [hR, Int.tmod_eq_emod_of_nonneg (by omega), show (bs.length : Int) - (la : Int) + 1 = ((bs.length - la + 1 : Nat) : Int) by omega]; norm_cast
      have i1 : (bs.length : Int) ≤ 140737488355328 := by omega
      have i2 : (la : Int) ≤ (bs.length : Int) := by omega
      have i3 : (Q : Int) ≤ 18446744073709551615 := by omega
      have i4 : (R : Int) ≤ (bs.length : Int) - (la : Int) := by omega
      have i5 : (k : Int) ≤ 1048576 := by omega
      have i6 : (ST : Int) ≤ (bs.length : Int) := by omega
      have HX : Hid (DkW wr b m S sl' none (fallK keep k d)) := D'
      have HSL : Hid (sl' n = .slice oa bs.length oc) := hslo'
      have HT : Hid (OwnB wr 0 (.slice oa ST oc) (bs.take ST)) := htake
      have HP : Hid (d.files[k]? = some (n, ⟨bs, la⟩)) := hp
      have HG : Hid (getA n (fallK keep k d).files = some ⟨bs, la⟩) := hget
      have HLA : Hid (la ≤ ST ∧ ST ≤ bs.length) := hst
      have HST : Hid (ST = stay keep k ⟨bs, la⟩) := hST
      clear HK D' hcell hg0 hr2 hmem hget hlook hslo hslo' hown htake hp hST hQ hR hst hla hbl hoc HN hQ1 hR1
      go_wp2
      go_region
      obtain ⟨X, hX⟩ : ∃ X, X = (wr.alloc (.cells #[.slice oa bs.length oc, .int .i64 (la : Int)] 125)).drew := ⟨_, rfl⟩
      have HBX : Hid (Below wr.heap.size wr X) := by show Below _ _ _; rw [hX]; exact ((Below.refl _ _).alloc (Nat.le_refl _) _).drew
      have xc : X.cell? ⟨wr.heap.size, 0, none⟩ = some (.slice oa bs.length oc) := by rw [hX]; exact (Blk2.new wr 125 _ _).c0
      rw [← hX]
      have ef : fallF keep k ⟨bs, la⟩ = ⟨bs.take ST, ST⟩ := by unfold fallF; rw [HST.out]
      have en : putA n (⟨bs.take ST, ST⟩ : Fl) (fallK keep k d).files = (fallK keep (k + 1) d).files := by rw [← ef]; exact fallK_next (p := (n, ⟨bs, la⟩)) HD.out.ok.rises HP.out
      have hfit : usedL (fallK keep (k + 1) d).files ≤ usedL d.files := fallK_fits HD.out.ok
      have hpm : (n, (⟨bs, la⟩ : Fl)) ∈ (fallK keep k d).files := getA_mem HG.out
      have hput := put_any (la := ST) ((HX.out.below HBX.out).ex_some n) (own_below2 HT.out HBX.out) (by rw [List.length_take]; have := HLA.out; omega) hpl
        (fun g' hg' => ⟨HX.out.sr _ hpm g' (by rw [HSL.out]; exact ob_same hg'), fun q hq hne => HX.out.apart _ hpm q hq (fun e => hne e.symm) g' (by rw [HSL.out]; exact ob_same hg')⟩)
        (by rw [en]; have := HD.out.ok.fits; show _ ≤ d.room; omega) (by rw [en, fallK_length, ← HL.out]; exact hfew) (by rw [en]; have := HD.out.ok.small; omega)
      rw [en] at hput
      have HPC : Hid (Calls Tryz.prog 111 #[dptr b, strN n, fileV (.slice oa ST oc) ST] X fun e w' => e = .returned (.tuple #[]) ∧ DkW w' b m S (upd sl' n (.slice oa ST oc)) none (fallK keep (k + 1) d) ∧ Fr S X w') := hput
      have HFX : Hid (Fr S w1 X) := HF.out.tr (Fr.of_below S HBX.out)
      clear hput en ef hfit hpm hX
      go_wp2_with (go_at_call 111; refine HPC.out.mono ?_; rintro e w2 ⟨rfl, hd2, hf2⟩; have HD2 : Hid (DkW w2 b m S (upd sl' n (.slice oa ST oc)) none (fallK keep (k + 1) d)) := hd2; have HF2 : Hid (Fr S X w2) := hf2; clear hd2 hf2)
      go_roundw
      case rel => exact ⟨k + 1, by go_num, by omega, ⟨_, HD2.out⟩, HFX.out.tr HF2.out⟩
      case measure => simp [intOf]; omega
    · have hge : ¬ ((k : Int) < (L : Int)) := by omega
      have dlt : decide ((k : Int) < (L : Int)) = false := by simpa using hge
      have hkL : k = L := by omega
      obtain ⟨sl', D'⟩ := HK.out
      rw [hkL, HL.out, fallK_all] at D'
      have c3 := D'.c3
      have c4 := D'.c4
      have c5 := D'.c5
      have f3 := D'.fz 3
      have f4 := D'.fz 4
      have f5 := D'.fz 5
      have HX : Hid (DkW wr b m S sl' none { d with files := fallL keep 0 d.files }) := D'
      have HB : Hid ((((wr.setCell ⟨b, 3, none⟩ (.bool false)).setCell ⟨b, 4, none⟩ (.int .i64 (-1))).setCell ⟨b, 5, none⟩ (.int .i64 (IntKind.i64.wrap (d.falls + 1)))).heap[b]? = some (.cells (dkCells (fallD keep d) m) 87 (0, 0))) := set_blk (set_blk (set_blk D'.blk 3 _) 4 _) 5 _
      clear D' HK hkL
      go_wp2
      go_end0
      refine ⟨rfl, ⟨sl', ?_⟩, ?_⟩
      · exact HX.out.struct (by rw [set_size, set_size, set_size]) (fun k hk => by rw [set_other _ hk, set_other _ hk, set_other _ hk]) (by have := HB.out; rwa [IntWalk.i64_left] at this) rfl { HX.out.ok with ahead := by show (-1 : Int) ≤ -1 ∧ (-1 : Int) ≤ _; omega }
      · exact HF1.out.tr (((HF.out.set HX.out.sb _).set HX.out.sb _).set HX.out.sb _)


def crashD (d : Dk) (keep : Nat) : Dk := if d.up = true then fallD keep d else d

set_option maxHeartbeats 1000000 in
theorem crash_any {w : World} {b m : Nat} {S : Nat → Prop} {sl : Nm → Value} {d : Dk} (h : DkW w b m S sl none d) (keep : Nat) (hkp : keep < 18446744073709551616) :
    Calls Tryz.prog 32 #[dptr b, .int .u64 (keep : Int)] w fun e w' => e = .returned (.tuple #[]) ∧ Did w b m S (crashD d keep) w' := by
  have hF := fall_any h keep hkp
  have c3 := h.c3
  have HD : Hid (DkW w b m S sl none d) := h
  have HFa : Hid (Calls Tryz.prog 103 #[dptr b, .int .u64 (keep : Int)] w fun e w' => e = .returned (.tuple #[]) ∧ (∃ sl', DkW w' b m S sl' none (fallD keep d)) ∧ Fr S w w') := hF
  clear h hF
  unfold crashD
  cases hu : d.up with
  | true =>
    rw [hu] at c3
    rw [if_pos rfl]
    go_enter Tryz.func32, Tryz.ntmps32
    go_wp2_with (go_at_call 103; refine HFa.out.mono ?_; rintro e w2 ⟨rfl, h1, h2⟩)
    go_end0
    exact ⟨rfl, h1, h2⟩
  | false =>
    rw [hu] at c3
    rw [if_neg (by decide)]
    go_enter Tryz.func32, Tryz.ntmps32
    go_wp2
    go_end0
    exact ⟨rfl, ⟨sl, HD.out⟩, Fr.refl S w⟩

set_option maxHeartbeats 1000000 in
/-- A deed is counted, or power fails. -/
theorem fails_any {w : World} {b m : Nat} {S : Nat → Prop} {sl : Nm → Value} {d : Dk} (h : DkW w b m S sl none d) :
    Calls Tryz.prog 110 #[dptr b] w fun e w' => e = .returned (.bool (decide (d.ahead = 0))) ∧ (∃ sl', DkW w' b m S sl' none (failD d) ∧ (d.ahead ≠ 0 → sl' = sl)) ∧ Fr S w w' := by
  have hF := fall_any h d.keep h.ok.keep
  have c4 := h.c4
  have c6 := h.c6
  have f4 := h.fz 4
  have ha := h.ok.ahead
  have HD : Hid (DkW w b m S sl none d) := h
  have HB : Hid ((w.setCell ⟨b, 4, none⟩ (.int .i64 (d.ahead - 1))).heap[b]? = some (.cells (dkCells { d with ahead := d.ahead - 1 } m) 87 (0, 0))) := set_blk h.blk 4 _
  have HFa : Hid (Calls Tryz.prog 103 #[dptr b, .int .u64 (d.keep : Int)] w fun e w' => e = .returned (.tuple #[]) ∧ (∃ sl', DkW w' b m S sl' none (fallD d.keep d)) ∧ Fr S w w') := hF
  clear h hF
  unfold failD doneD
  by_cases h0 : d.ahead = 0
  · have q0 : (d.ahead == 0) = true := by simpa using h0
    have qd : decide (d.ahead = 0) = true := by simpa using h0
    rw [if_pos h0, qd]
    have H0 : Hid (d.ahead = 0) := h0
    clear h0 ha qd
    go_enter Tryz.func110, Tryz.ntmps110
    go_wp2_with (go_at_call 103; refine HFa.out.mono ?_; rintro e w2 ⟨rfl, h1, h2⟩)
    go_ret
    obtain ⟨sl', h1⟩ := h1
    exact ⟨rfl, ⟨sl', h1, fun hc => absurd H0.out hc⟩, h2⟩
  · have q0 : (d.ahead == 0) = false := by simpa using h0
    have qd : decide (d.ahead = 0) = false := by simpa using h0
    rw [if_neg h0, qd]
    clear qd
    by_cases h1 : 0 < d.ahead
    · rw [if_pos h1]
      have q1 : decide (0 < d.ahead) = true := by simpa using h1
      go_enter Tryz.func110, Tryz.ntmps110
      go_wp2
      go_ret
      refine ⟨rfl, ⟨sl, ?_, fun _ => rfl⟩, (Fr.refl S w).set HD.out.sb _⟩
      exact HD.out.struct (by rw [set_size]) (fun k hk => by rw [set_other _ hk]) HB.out rfl { HD.out.ok with ahead := by show (-1 : Int) ≤ d.ahead - 1 ∧ d.ahead - 1 ≤ _; omega }
    · rw [if_neg h1]
      have q1 : decide (0 < d.ahead) = false := by simpa using h1
      go_enter Tryz.func110, Tryz.ntmps110
      go_wp2
      go_ret
      first
      | exact ⟨rfl, ⟨sl, HD.out, fun _ => rfl⟩, Fr.refl S w⟩
      | exact ⟨rfl, HD.out, Fr.refl S w⟩

end Go.Proofs.YtkbmblmnhhlicaaGreatDoor
