/- Package disk: slices.Clone, Read, Sync, Remove, Rename, Cut; walked. -/
import Derived.Test.YtmkgaegodemglaaDFall
set_option linter.unusedVariables false
namespace Go.Proofs.Ytmkgaegodemglaa
open Go.RowKit

theorem nil_yes (c : Nat) (w : World) : (binOp .eql 29 (.slice none 0 c) (.slice none 0 0)).run Try.prog w = .ok (.bool true) w := by kernel_rfl
theorem nil_no (x : Addr) (n c : Nat) (w : World) : (binOp .eql 29 (.slice (some x) n c) (.slice none 0 0)).run Try.prog w = .ok (.bool false) w := by kernel_rfl

/-- A row that was just made of nothing. -/
theorem own_made0 (w : World) (B : Nat) (hB : B ≤ w.heap.size) : OwnB (w.alloc (.cells #[] 5)) B (.slice (some ⟨w.heap.size, 0, none⟩) 0 0) [] := by
  refine ⟨rfl, .inr ⟨w.heap.size, 0, #[], rfl, hB, ?_, Nat.le_refl _, Nat.zero_le _, rfl, rfl⟩⟩
  show (w.heap.push _)[w.heap.size]? = _
  exact Array.getElem?_push_size

set_option maxHeartbeats 1000000 in
set_option maxRecDepth 20000 in
/-- A copy in memory of its own. -/
theorem clone_any {w : World} {v : Value} {l : List UInt8} (h : OwnB w 0 v l) (hl : l.length ≤ 140737488355328) :
    Calls Try.prog 44 #[v] w fun e w' => ∃ v', e = .returned v' ∧ OwnB w' w.heap.size v' l ∧ Below w.heap.size w w' := by
  obtain ⟨a, c, hv⟩ := own_slice h
  subst hv
  have HLen : Hid (l.length ≤ 140737488355328) := hl
  clear hl
  have hb := own_brow h
  cases a with
  | none =>
    have h0 : l.length = 0 := by
      rcases h.2 with ⟨_, h0⟩ | ⟨g, cap, cur, h1, _⟩
      · exact h0
      · cases h1
    have hl0 : l = [] := List.eq_nil_of_length_eq_zero h0
    subst hl0
    have e1 := nil_yes c w
    clear h hb h0
    go_enter Try.func44, Try.ntmps44
    go_wp2
    go_ret
    exact ⟨_, rfl, own_nil _ _, Below.refl _ _⟩
  | some x =>
    have HO : Hid (BRow w (some x) l.length c l) := hb
    have e1 := nil_no x l.length c w
    clear h hb
    go_enter Try.func44, Try.ntmps44
    have hba : Hid (Below w.heap.size w (w.alloc (.cells #[] 5))) := (Below.refl _ w).alloc (Nat.le_refl _) _
    go_wp2_with (at_builtin; refine wpList_copy (own_made0 w w.heap.size (Nat.le_refl _)) (HO.out.below hba.out) ?c1 hba.out.size rfl _ _ rfl rfl rfl ?_)
    case c1 => have := HLen.out; simp; omega
    intro vo w2 ho hbl
    have HO2 : Hid (OwnB w2 w.heap.size vo ([] ++ l)) := ho
    have HB2 : Hid (Below w.heap.size w w2) := hba.out.trans hbl
    clear ho hbl
    go_wp2
    go_ret
    exact ⟨_, rfl, HO2.out, HB2.out⟩

/-- What find tells of a name: the file, or none. -/
def theF (d : Dk) (n : Nm) : Fl := if findV d n = 0 then (getA n d.files).getD ⟨[], 0⟩ else ⟨[], 0⟩
theorem findV_get {d : Dk} {n : Nm} (h : findV d n = 0) : getA n d.files = some (theF d n) := by
  unfold theF
  rw [if_pos h]
  unfold findV at h
  cases hg : getA n d.files with
  | none => rw [hg] at h; simp at h; split at h <;> simp at h
  | some f => rfl
theorem findV_up {d : Dk} {n : Nm} (h : findV d n = 0) : d.up = true := by
  unfold findV at h
  cases hu : d.up with
  | true => rfl
  | false => rw [hu] at h; simp at h
theorem findV_le (d : Dk) (n : Nm) : findV d n ≤ 15 := by unfold findV; split <;> (try split) <;> omega

theorem DkW.found {w : World} {b m : Nat} {S : Nat → Prop} {sl : Nm → Value} {d : Dk} (h : DkW w b m S sl none d) (n : Nm) :
    ∃ a c, (if findV d n = 0 then (getA n (filesV sl d.files)).getD zFile else zFile) = .agg #[.slice a (theF d n).bs.length c, .int .i64 ((theF d n).la : Int)] ∧ OwnB w 0 (.slice a (theF d n).bs.length c) (theF d n).bs ∧ (findV d n = 0 → sl n = .slice a (theF d n).bs.length c) ∧ (theF d n).la ≤ (theF d n).bs.length ∧ (theF d n).bs.length ≤ 140737488355328 := by
  by_cases hf : findV d n = 0
  · have hg := findV_get hf
    obtain ⟨a, c, h1, _, h2, _⟩ := h.look n
    rw [hg] at h1 h2
    have h3 : sl n = .slice a (theF d n).bs.length c := h2 rfl
    have h4 := h.rows _ (getA_mem hg) (by simp)
    simp only at h4
    rw [h3] at h4
    refine ⟨a, c, by rw [if_pos hf]; exact h1, h4, fun _ => h3, h.ok.lasts _ (getA_mem hg), ?_⟩
    have := usedL_get h.ok.rises hg
    have := h.ok.small
    omega
  · have e : theF d n = ⟨[], 0⟩ := by unfold theF; rw [if_neg hf]
    rw [e]
    exact ⟨none, 0, by rw [if_neg hf]; rfl, own_nil w 0, fun h => absurd h hf, Nat.le_refl _, Nat.zero_le _⟩

set_option maxHeartbeats 1000000 in
set_option maxRecDepth 20000 in
theorem read_any {w : World} {b m : Nat} {S : Nat → Prop} {sl : Nm → Value} {d : Dk} (h : DkW w b m S sl none d) (n : Nm) (hn : n.length ≤ 140737488355328) :
    Calls Try.prog 17 #[dptr b, strN n] w fun e w' => ∃ v', e = .returned (.tuple #[v', .int .i64 (findV d n : Int)]) ∧ OwnB w' w.heap.size v' (theF d n).bs ∧ Below w.heap.size w w' := by
  obtain ⟨a, c, h1, h2, _, _, h4⟩ := h.found n
  have hF := find_any h n hn _ rfl
  rw [h1] at hF
  have HF : Hid (Calls Try.prog 42 #[dptr b, strN n] w fun e w' => e = .returned (.tuple #[.agg #[.slice a (theF d n).bs.length c, .int .i64 ((theF d n).la : Int)], .int .i64 (findV d n : Int)]) ∧ Below w.heap.size w w') := hF
  have HO : Hid (OwnB w 0 (.slice a (theF d n).bs.length c) (theF d n).bs) := h2
  have HL : Hid ((theF d n).bs.length ≤ 140737488355328) := h4
  generalize findV d n = E at *
  generalize theF d n = f at *
  obtain ⟨bs, la⟩ := f
  simp only at HF HO HL ⊢
  clear h h1 h2 h4 hF
  go_enter Try.func17, Try.ntmps17
  go_wp2_with (first
    | (go_at_call 42; refine HF.out.mono ?_; rintro e wa ⟨rfl, hba⟩; have HBA : Hid (Below w.heap.size w wa) := hba; clear hba)
    | (go_at_call 44; refine (clone_any (l := bs) (own_below2 (own_below2 HO.out HBA.out) ((Below.refl _ wa).alloc (Nat.le_refl _) _)) HL.out).mono ?_; rintro e wc ⟨vc, rfl, hoc, hbc⟩))
  go_ret2
  refine ⟨vc, rfl, ?_, ?_⟩
  · have hz : w.heap.size ≤ (wa.alloc (.cells #[.slice a bs.length c, .int .i64 (la : Int)] 64)).heap.size := Nat.le_trans HBA.out.size (by simp)
    refine ⟨hoc.1, ?_⟩
    rcases hoc.2 with hn | ⟨g, cap, cur, hv, hB, r⟩
    · exact .inl hn
    · exact .inr ⟨g, cap, cur, hv, Nat.le_trans hz hB, r⟩
  · exact (HBA.out.alloc HBA.out.size _).trans (hbc.mono (Nat.le_trans HBA.out.size (by simp)))

end Go.Proofs.Ytmkgaegodemglaa
