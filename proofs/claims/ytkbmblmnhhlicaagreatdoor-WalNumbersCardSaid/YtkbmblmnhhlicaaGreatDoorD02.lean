/- Several texts in one. -/
import Derived.Test.YtkbmblmnhhlicaaGreatDoorDFall
import Derived.Deep.RegionWith
set_option linter.unusedVariables false
/- Package disk: slices.Clone, Read, Sync, Remove, Rename, Cut; walked. -/
namespace Go.Proofs.YtkbmblmnhhlicaaGreatDoor
open Go.RowKit

theorem nil_yes (c : Nat) (w : World) : (binOp .eql 34 (.slice none 0 c) (.slice none 0 0)).run Tryz.prog w = .ok (.bool true) w := by kernel_rfl
theorem nil_no (x : Addr) (n c : Nat) (w : World) : (binOp .eql 34 (.slice (some x) n c) (.slice none 0 0)).run Tryz.prog w = .ok (.bool false) w := by kernel_rfl

/-- A row that was just made of nothing. -/
theorem own_made0 (w : World) (B : Nat) (hB : B ≤ w.heap.size) : OwnB (w.alloc (.cells #[] 5)) B (.slice (some ⟨w.heap.size, 0, none⟩) 0 0) [] := by
  refine ⟨rfl, .inr ⟨w.heap.size, 0, #[], rfl, hB, ?_, Nat.le_refl _, Nat.zero_le _, rfl, rfl⟩⟩
  show (w.heap.push _)[w.heap.size]? = _
  exact Array.getElem?_push_size

set_option maxHeartbeats 1000000 in
set_option maxRecDepth 20000 in
/-- A copy in memory of its own. -/
theorem clone_any {w : World} {v : Value} {l : List UInt8} (h : OwnB w 0 v l) (hl : l.length ≤ 140737488355328) :
    Calls Tryz.prog 109 #[v] w fun e w' => ∃ v', e = .returned v' ∧ OwnB w' w.heap.size v' l ∧ Below w.heap.size w w' := by
  obtain ⟨a, c, hv⟩ := own_slice h
  subst hv
  have HLen : Hid (l.length ≤ 140737488355328) := hl
  clear hl
  have hb := own_brow h
  cases a with
  | none =>
    have h0 : l.length = 0 := by
      rcases h.2 with ⟨_, h0⟩ | ⟨g, cap, cur, h1, _⟩
      · exact h0
      · cases h1
    have hl0 : l = [] := List.eq_nil_of_length_eq_zero h0
    subst hl0
    have e1 := nil_yes c w
    clear h hb h0
    go_enter Tryz.func109, Tryz.ntmps109
    go_wp2
    go_ret
    exact ⟨_, rfl, own_nil _ _, Below.refl _ _⟩
  | some x =>
    have HO : Hid (BRow w (some x) l.length c l) := hb
    have e1 := nil_no x l.length c w
    clear h hb
    go_enter Tryz.func109, Tryz.ntmps109
    have hba : Hid (Below w.heap.size w (w.alloc (.cells #[] 5))) := (Below.refl _ w).alloc (Nat.le_refl _) _
    go_wp2_with (at_builtin; refine wpList_copy (own_made0 w w.heap.size (Nat.le_refl _)) (HO.out.below hba.out) ?c1 hba.out.size rfl _ _ rfl rfl rfl ?_)
    case c1 => have := HLen.out; simp; omega
    intro vo w2 ho hbl
    have HO2 : Hid (OwnB w2 w.heap.size vo ([] ++ l)) := ho
    have HB2 : Hid (Below w.heap.size w w2) := hba.out.trans hbl
    clear ho hbl
    go_wp2
    go_ret
    exact ⟨_, rfl, HO2.out, HB2.out⟩

/-- What find tells of a name: the file, or none. -/
def theF (d : Dk) (n : Nm) : Fl := if findV d n = 0 then (getA n d.files).getD ⟨[], 0⟩ else ⟨[], 0⟩
theorem findV_get {d : Dk} {n : Nm} (h : findV d n = 0) : getA n d.files = some (theF d n) := by
  unfold theF
  rw [if_pos h]
  unfold findV at h
  cases hg : getA n d.files with
  | none => rw [hg] at h; simp at h; split at h <;> simp at h
  | some f => rfl
theorem findV_up {d : Dk} {n : Nm} (h : findV d n = 0) : d.up = true := by
  unfold findV at h
  cases hu : d.up with
  | true => rfl
  | false => rw [hu] at h; simp at h
theorem findV_le (d : Dk) (n : Nm) : findV d n ≤ 15 := by unfold findV; split <;> (try split) <;> omega

theorem DkW.found {w : World} {b m : Nat} {S : Nat → Prop} {sl : Nm → Value} {d : Dk} (h : DkW w b m S sl none d) (n : Nm) :
    ∃ a c, (if findV d n = 0 then (getA n (filesV sl d.files)).getD zFile else zFile) = .agg #[.slice a (theF d n).bs.length c, .int .i64 ((theF d n).la : Int)] ∧ OwnB w 0 (.slice a (theF d n).bs.length c) (theF d n).bs ∧ (findV d n = 0 → sl n = .slice a (theF d n).bs.length c) ∧ (theF d n).la ≤ (theF d n).bs.length ∧ (theF d n).bs.length ≤ 140737488355328 := by
  by_cases hf : findV d n = 0
  · have hg := findV_get hf
    obtain ⟨a, c, h1, _, h2, _⟩ := h.look n
    rw [hg] at h1 h2
    have h3 : sl n = .slice a (theF d n).bs.length c := h2 rfl
    have h4 := h.rows _ (getA_mem hg) (by simp)
    simp only at h4
    rw [h3] at h4
    refine ⟨a, c, by rw [if_pos hf]; exact h1, h4, fun _ => h3, h.ok.lasts _ (getA_mem hg), ?_⟩
    have := usedL_get h.ok.rises hg
    have := h.ok.small
    omega
  · have e : theF d n = ⟨[], 0⟩ := by unfold theF; rw [if_neg hf]
    rw [e]
    exact ⟨none, 0, by rw [if_neg hf]; rfl, own_nil w 0, fun h => absurd h hf, Nat.le_refl _, Nat.zero_le _⟩

set_option maxHeartbeats 1000000 in
set_option maxRecDepth 20000 in
theorem read_any {w : World} {b m : Nat} {S : Nat → Prop} {sl : Nm → Value} {d : Dk} (h : DkW w b m S sl none d) (n : Nm) (hn : n.length ≤ 140737488355328) :
    Calls Tryz.prog 41 #[dptr b, strN n] w fun e w' => ∃ v', e = .returned (.tuple #[v', .int .i64 (findV d n : Int)]) ∧ OwnB w' w.heap.size v' (theF d n).bs ∧ Below w.heap.size w w' := by
  obtain ⟨a, c, h1, h2, _, _, h4⟩ := h.found n
  have hF := find_any h n hn _ rfl
  rw [h1] at hF
  have HF : Hid (Calls Tryz.prog 108 #[dptr b, strN n] w fun e w' => e = .returned (.tuple #[.agg #[.slice a (theF d n).bs.length c, .int .i64 ((theF d n).la : Int)], .int .i64 (findV d n : Int)]) ∧ Below w.heap.size w w') := hF
  have HO : Hid (OwnB w 0 (.slice a (theF d n).bs.length c) (theF d n).bs) := h2
  have HL : Hid ((theF d n).bs.length ≤ 140737488355328) := h4
  generalize findV d n = E at *
  generalize theF d n = f at *
  obtain ⟨bs, la⟩ := f
  simp only at HF HO HL ⊢
  clear h h1 h2 h4 hF
  go_enter Tryz.func41, Tryz.ntmps41
  go_wp2_with (first
    | (go_at_call 108; refine HF.out.mono ?_; rintro e wa ⟨rfl, hba⟩; have HBA : Hid (Below w.heap.size w wa) := hba; clear hba)
    | (go_at_call 109; refine (clone_any (l := bs) (own_below2 (own_below2 HO.out HBA.out) ((Below.refl _ wa).alloc (Nat.le_refl _) _)) HL.out).mono ?_; rintro e wc ⟨vc, rfl, hoc, hbc⟩))
  go_ret2
  refine ⟨vc, rfl, ?_, ?_⟩
  · have hz : w.heap.size ≤ (wa.alloc (.cells #[.slice a bs.length c, .int .i64 (la : Int)] 125)).heap.size := Nat.le_trans HBA.out.size (by simp)
    refine ⟨hoc.1, ?_⟩
    rcases hoc.2 with hn | ⟨g, cap, cur, hv, hB, r⟩
    · exact .inl hn
    · exact .inr ⟨g, cap, cur, hv, Nat.le_trans hz hB, r⟩
  · exact (HBA.out.alloc HBA.out.size _).trans (hbc.mono (Nat.le_trans HBA.out.size (by simp)))

end Go.Proofs.YtkbmblmnhhlicaaGreatDoor

/- Package disk: Remove, Sync, Cut, Rename; walked. -/
namespace Go.Proofs.YtkbmblmnhhlicaaGreatDoor
open Go.RowKit

def removeP (d : Dk) (n : Nm) : Nat × Dk := if findV d n ≠ 0 then (findV d n, d) else if d.ahead = 0 then (13, failD d) else (0, { failD d with files := delA n (failD d).files })
def syncP (d : Dk) (n : Nm) : Nat × Dk := if findV d n ≠ 0 then (findV d n, d) else if d.ahead = 0 then (13, failD d) else (0, { failD d with files := putA n ⟨(theF d n).bs, (theF d n).bs.length⟩ (failD d).files })

theorem failD_files {d : Dk} (h : d.ahead ≠ 0) : (failD d).files = d.files := by
  unfold failD doneD
  rw [if_neg h]
  split <;> rfl
theorem failD_room (d : Dk) : (failD d).room = d.room := by
  unfold failD doneD
  split
  · rfl
  · split <;> rfl

theorem Fr.set_new {S : Nat → Prop} {a w : World} (h : Fr S a w) {p : Addr} (hp : a.heap.size ≤ p.block) (u : Value) : Fr S a (w.setCell p u) :=
  ⟨h.os, h.tape, h.output, by rw [set_size]; exact h.size, fun k hk hn => (Below.heap_setCell _ _ _ _ (by omega)).trans (h.block k hk hn)⟩

/-- What a deed begins with: the file is looked for, and laid in a block of its own. -/
structure Found (w wb : World) (b m : Nat) (S : Nat → Prop) (sl : Nm → Value) (d : Dk) (k : Nat) (x y : Value) : Prop where
  below : Below w.heap.size w wb
  dk : DkW wb b m S sl none d
  blk : Blk2 wb k 125 x y
  out : ¬ S k
  ge : w.heap.size ≤ k

theorem found_mk {w wa : World} {b m : Nat} {S : Nat → Prop} {sl : Nm → Value} {d : Dk} (h : DkW w b m S sl none d) (hb : Below w.heap.size w wa) (x y : Value) : Found w (wa.alloc (.cells #[x, y] 125)) b m S sl d wa.heap.size x y :=
  ⟨hb.alloc hb.size _, (h.below hb).alloc _, Blk2.new wa _ x y, fun hs => by have := h.lt _ hs; have := hb.size; omega, hb.size⟩

set_option maxHeartbeats 1000000 in
set_option maxRecDepth 20000 in
theorem remove_any {w : World} {b m : Nat} {S : Nat → Prop} {sl : Nm → Value} {d : Dk} (h : DkW w b m S sl none d) (n : Nm) (hn : n.length ≤ 140737488355328) :
    Calls Tryz.prog 73 #[dptr b, strN n] w fun e w' => e = .returned (.int .i64 ((removeP d n).1 : Int)) ∧ Did w b m S (removeP d n).2 w' := by
  obtain ⟨a, c, h1, h2, _, _, h4⟩ := h.found n
  have hF := find_any h n hn _ rfl
  rw [h1] at hF
  have HF : Hid (Calls Tryz.prog 108 #[dptr b, strN n] w fun e w' => e = .returned (.tuple #[.agg #[.slice a (theF d n).bs.length c, .int .i64 ((theF d n).la : Int)], .int .i64 (findV d n : Int)]) ∧ Below w.heap.size w w') := hF
  have HD : Hid (DkW w b m S sl none d) := h
  generalize theF d n = f at *
  obtain ⟨bs, la⟩ := f
  simp only at HF
  unfold removeP
  by_cases hE : findV d n = 0
  · have hE' := hE
    rw [hE] at HF
    rw [if_neg (by simpa using hE)]
    clear h h1 h2 h4 hF hE hE'
    by_cases h0 : d.ahead = 0
    · rw [if_pos h0]
      have HZ : Hid (d.ahead = 0) := h0
      clear h0
      go_enter Tryz.func73, Tryz.ntmps73
      go_wp2_with (first
        | (go_at_call 108; refine HF.out.mono ?_; rintro e wa ⟨rfl, hba⟩; have HX : Hid (Found w (wa.alloc (.cells #[.slice a bs.length c, .int .i64 (la : Int)] 125)) b m S sl d wa.heap.size (.slice a bs.length c) (.int .i64 (la : Int))) := found_mk HD.out hba _ _; clear hba)
        | (go_at_call 110; refine (fails_any HX.out.dk).mono ?_; rintro e wc ⟨he, ⟨sl', hd, _⟩, hf⟩; rw [HZ.out] at he; have HD2 : Hid (DkW wc b m S sl' none (failD d)) := hd; have HF2 : Hid (Fr S w wc) := (Fr.of_below S HX.out.below).tr hf; clear hd hf; subst he))
      go_ret
      exact ⟨rfl, ⟨sl', HD2.out⟩, HF2.out⟩
    · rw [if_neg h0]
      have HZ : Hid (d.ahead ≠ 0) := h0
      have HQ : Hid (decide (d.ahead = 0) = false) := by show _ = _; simpa using h0
      clear h0
      go_enter Tryz.func73, Tryz.ntmps73
      go_wp2_with (first
        | (go_at_call 108; refine HF.out.mono ?_; rintro e wa ⟨rfl, hba⟩; have HX : Hid (Found w (wa.alloc (.cells #[.slice a bs.length c, .int .i64 (la : Int)] 125)) b m S sl d wa.heap.size (.slice a bs.length c) (.int .i64 (la : Int))) := found_mk HD.out hba _ _; clear hba)
        | (go_at_call 110; refine (fails_any HX.out.dk).mono ?_; rintro e wc ⟨he, ⟨sl', hd, _⟩, hf⟩; rw [HQ.out] at he; have HD2 : Hid (DkW wc b m S sl' none (failD d)) := hd; have HF2 : Hid (Fr S w wc) := (Fr.of_below S HX.out.below).tr hf; clear hd hf; subst he)
        | (go_at_call 134; refine (drop_any HD2.out hn).mono ?_; rintro e we ⟨rfl, hd3, hf3, _⟩))
      go_ret
      exact ⟨rfl, ⟨sl', hd3⟩, HF2.out.tr hf3⟩
  · rw [if_pos hE]
    have q : ((findV d n : Int) == 0) = false := by simpa using hE
    generalize findV d n = E at *
    clear h h1 h2 h4 hF hE
    go_enter Tryz.func73, Tryz.ntmps73
    go_wp2_with (go_at_call 108; refine HF.out.mono ?_; rintro e wa ⟨rfl, hba⟩; have HX : Hid (Found w (wa.alloc (.cells #[.slice a bs.length c, .int .i64 (la : Int)] 125)) b m S sl d wa.heap.size (.slice a bs.length c) (.int .i64 (la : Int))) := found_mk HD.out hba _ _; clear hba)
    go_ret
    exact ⟨rfl, ⟨sl, HX.out.dk⟩, Fr.of_below S HX.out.below⟩

theorem getA_split {α : Type} {n : Nm} {u : α} {l : List (Nm × α)} (h : getA n l = some u) : ∃ a b, l = a ++ (n, u) :: b := List.append_of_mem (getA_mem h)
theorem putA_len {α : Type} {n : Nm} {u v : α} {l : List (Nm × α)} (hr : Rises l) (h : getA n l = some u) : (putA n v l).length = l.length := by
  obtain ⟨a, b, rfl⟩ := getA_split h
  rw [putA_at a b hr]
  simp
theorem putA_used {n : Nm} {u : Fl} {l : Fls} (hr : Rises l) (h : getA n l = some u) (bs : List UInt8) (la : Nat) (hl : bs.length ≤ u.bs.length) : usedL (putA n ⟨bs, la⟩ l) ≤ usedL l := by
  have := usedL_put n ⟨bs, la⟩ l hr
  rw [h] at this
  simp at this
  omega

/-- A file that is there is put anew, no longer than it was, in the row that it had. -/
theorem reput_any {w : World} {b m : Nat} {S : Nat → Prop} {sl : Nm → Value} {d : Dk} {n : Nm} {a : Option Addr} {c : Nat} {bs : List UInt8} {la k la' : Nat} (h : DkW w b m S sl none d) (hn : n.length ≤ 140737488355328) (hg : getA n d.files = some ⟨bs, la⟩) (hs : sl n = .slice a bs.length c) (hk : k ≤ bs.length) (hla : la' ≤ k) :
    Calls Tryz.prog 111 #[dptr b, strN n, fileV (.slice a k c) la'] w fun e w' => e = .returned (.tuple #[]) ∧ Did w b m S { d with files := putA n ⟨bs.take k, la'⟩ d.files } w' := by
  have hm := getA_mem hg
  have hown := h.rows _ hm (by simp)
  simp only at hown
  rw [hs] at hown
  obtain ⟨_, _, htake⟩ := own_take hown k hk
  have hu := putA_used h.ok.rises hg (bs.take k) la' (by rw [List.length_take]; simp only; omega)
  refine (put_any (h.ex_some n) htake (by rw [List.length_take]; omega) hn (fun g hg' => ⟨h.sr _ hm g (by simp only; rw [hs]; exact ob_same hg'), fun q hq hne => h.apart _ hm q hq (fun e => hne e.symm) g (by simp only; rw [hs]; exact ob_same hg')⟩) (by have := h.ok.fits; omega) (by rw [putA_len h.ok.rises hg]; exact h.ok.few) (by have := h.ok.small; omega)).mono ?_
  rintro e w' ⟨rfl, h1, h2⟩
  exact ⟨rfl, ⟨_, h1⟩, h2⟩

set_option maxHeartbeats 1000000 in
set_option maxRecDepth 20000 in
theorem sync_any {w : World} {b m : Nat} {S : Nat → Prop} {sl : Nm → Value} {d : Dk} (h : DkW w b m S sl none d) (n : Nm) (hn : n.length ≤ 140737488355328) :
    Calls Tryz.prog 113 #[dptr b, strN n] w fun e w' => e = .returned (.int .i64 ((syncP d n).1 : Int)) ∧ Did w b m S (syncP d n).2 w' := by
  obtain ⟨a, c, h1, h2, h3, hll, h4⟩ := h.found n
  have hF := find_any h n hn _ rfl
  rw [h1] at hF
  have HF : Hid (Calls Tryz.prog 108 #[dptr b, strN n] w fun e w' => e = .returned (.tuple #[.agg #[.slice a (theF d n).bs.length c, .int .i64 ((theF d n).la : Int)], .int .i64 (findV d n : Int)]) ∧ Below w.heap.size w w') := hF
  have HD : Hid (DkW w b m S sl none d) := h
  have hget : findV d n = 0 → getA n d.files = some (theF d n) := findV_get
  unfold syncP
  generalize theF d n = f at *
  obtain ⟨bs, la⟩ := f
  simp only at HF h2 h3 hll h4 ⊢
  by_cases hE : findV d n = 0
  · rw [if_neg (by simpa using hE)]
    have hg := hget hE
    have hs := h3 hE
    rw [hE] at HF
    clear h h1 h2 h3 h4 hF hE hget
    by_cases h0 : d.ahead = 0
    · rw [if_pos h0]
      have HZ : Hid (d.ahead = 0) := h0
      clear h0
      go_enter Tryz.func113, Tryz.ntmps113
      go_wp2_with (first
        | (go_at_call 108; refine HF.out.mono ?_; rintro e wa ⟨rfl, hba⟩; have HX : Hid (Found w (wa.alloc (.cells #[.slice a bs.length c, .int .i64 (la : Int)] 125)) b m S sl d wa.heap.size (.slice a bs.length c) (.int .i64 (la : Int))) := found_mk HD.out hba _ _; clear hba)
        | (go_at_call 110; refine (fails_any HX.out.dk).mono ?_; rintro e wc ⟨he, ⟨sl', hd, hsl⟩, hf⟩; rw [HZ.out] at he; have HD2 : Hid (DkW wc b m S sl' none (failD d)) := hd; have HF2 : Hid (Fr S w wc) := (Fr.of_below S HX.out.below).tr hf; have HF3 : Hid (Fr S (wa.alloc (.cells #[.slice a bs.length c, .int .i64 (la : Int)] 125)) wc) := hf; clear hd hf; subst he))
      go_ret
      exact ⟨rfl, ⟨sl', HD2.out⟩, HF2.out⟩
    · rw [if_neg h0]
      have HQ : Hid (decide (d.ahead = 0) = false) := by show _ = _; simpa using h0
      have HG : Hid (getA n (failD d).files = some ⟨bs, la⟩) := by show _ = _; rw [failD_files h0]; exact hg
      have HSL : Hid (sl n = .slice a bs.length c) := hs
      have HZ : Hid (d.ahead ≠ 0) := h0
      clear h0 hg hs
      go_enter Tryz.func113, Tryz.ntmps113
      go_wp2_with (first
        | (go_at_call 108; refine HF.out.mono ?_; rintro e wa ⟨rfl, hba⟩; have HX : Hid (Found w (wa.alloc (.cells #[.slice a bs.length c, .int .i64 (la : Int)] 125)) b m S sl d wa.heap.size (.slice a bs.length c) (.int .i64 (la : Int))) := found_mk HD.out hba _ _; clear hba)
        | (go_at_call 110; refine (fails_any HX.out.dk).mono ?_; rintro e wc ⟨he, ⟨sl', hd, hsl⟩, hf⟩; rw [HQ.out] at he; have HD2 : Hid (DkW wc b m S sl' none (failD d)) := hd; have HF2 : Hid (Fr S w wc) := (Fr.of_below S HX.out.below).tr hf; have HF3 : Hid (Fr S (wa.alloc (.cells #[.slice a bs.length c, .int .i64 (la : Int)] 125)) wc) := hf; clear hd hf; subst he; have hE1 := hsl HZ.out; subst hE1; have hBk : Hid (Blk2 wc wa.heap.size 125 (.slice a bs.length c) (.int .i64 (la : Int))) := HF3.out.at HX.out.blk HX.out.out; have k0 := hBk.out.c0; have k1 := hBk.out.c1; have kf := hBk.out.f 1)
        | (go_at_call 111; refine (reput_any (k := bs.length) (la' := bs.length) (HD2.out.keep (w' := wc.setCell ⟨wa.heap.size, 1, none⟩ (.int .i64 (bs.length : Int))) (by rw [set_size]; exact Nat.le_refl _) (fun j hj => set_other _ (fun e => HX.out.out (e ▸ hj)))) hn HG.out HSL.out (Nat.le_refl _) (Nat.le_refl _)).mono ?_; rintro e we ⟨rfl, hd3, hf3⟩))
      go_ret
      rw [List.take_length] at hd3
      exact ⟨rfl, hd3, (HF2.out.set_new HX.out.ge _).tr hf3⟩
  · rw [if_pos hE]
    have q : ((findV d n : Int) == 0) = false := by simpa using hE
    generalize findV d n = E at *
    clear h h1 h2 h3 h4 hll hF hE hget
    go_enter Tryz.func113, Tryz.ntmps113
    go_wp2_with (go_at_call 108; refine HF.out.mono ?_; rintro e wa ⟨rfl, hba⟩; have HX : Hid (Found w (wa.alloc (.cells #[.slice a bs.length c, .int .i64 (la : Int)] 125)) b m S sl d wa.heap.size (.slice a bs.length c) (.int .i64 (la : Int))) := found_mk HD.out hba _ _; clear hba)
    go_ret
    exact ⟨rfl, ⟨sl, HX.out.dk⟩, Fr.of_below S HX.out.below⟩

end Go.Proofs.YtkbmblmnhhlicaaGreatDoor
