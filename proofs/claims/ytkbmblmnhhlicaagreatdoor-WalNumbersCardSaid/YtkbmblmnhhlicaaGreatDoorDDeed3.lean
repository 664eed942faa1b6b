/- Package disk: Cut, Rename; walked. -/
import Derived.Test.YtkbmblmnhhlicaaGreatDoorD02
import Derived.Deep.RegionWith
import Derived.BigRegion
set_option linter.unusedVariables false
namespace Go.Proofs.YtkbmblmnhhlicaaGreatDoor
open Go.RowKit

def cutP (d : Dk) (n : Nm) (k : Int) : Nat × Dk := if findV d n ≠ 0 then (findV d n, d) else if k < 0 ∨ ((theF d n).bs.length : Int) < k then (1, d) else if d.ahead = 0 then (13, failD d) else (0, { failD d with files := putA n ⟨(theF d n).bs.take k.toNat, min (theF d n).la k.toNat⟩ (failD d).files })
def renameP (d : Dk) (n to : Nm) : Nat × Dk := if findV d n ≠ 0 then (findV d n, d) else if mayN to = false then (1, d) else if d.ahead = 0 then (13, failD d) else (0, { failD d with files := putA to (theF d n) (delA n (failD d).files) })

set_option maxHeartbeats 1000000 in
set_option maxRecDepth 20000 in
theorem cut_any {w : World} {b m : Nat} {S : Nat → Prop} {sl : Nm → Value} {d : Dk} (h : DkW w b m S sl none d) (n : Nm) (hn : n.length ≤ 140737488355328) (k : Int) (hk : -9223372036854775808 ≤ k ∧ k ≤ 9223372036854775807) :
    Calls Tryz.prog 42 #[dptr b, strN n, .int .i64 k] w fun e w' => e = .returned (.int .i64 ((cutP d n k).1 : Int)) ∧ Did w b m S (cutP d n k).2 w' := by
  obtain ⟨a, c, h1, h2, h3, hll, h4⟩ := h.found n
  have hF := find_any h n hn _ rfl
  rw [h1] at hF
  have HF : Hid (Calls Tryz.prog 108 #[dptr b, strN n] w fun e w' => e = .returned (.tuple #[.agg #[.slice a (theF d n).bs.length c, .int .i64 ((theF d n).la : Int)], .int .i64 (findV d n : Int)]) ∧ Below w.heap.size w w') := hF
  have HD : Hid (DkW w b m S sl none d) := h
  have hget : findV d n = 0 → getA n d.files = some (theF d n) := findV_get
  unfold cutP
  generalize theF d n = f at *
  obtain ⟨bs, la⟩ := f
  simp only at HF h2 h3 hll h4 ⊢
  by_cases hE : findV d n = 0
  · rw [if_neg (by simpa using hE)]
    have hg := hget hE
    have hs := h3 hE
    rw [hE] at HF
    have i1 : (bs.length : Int) ≤ 140737488355328 := by omega
    clear h h1 h2 h3 h4 hF hE hget
    by_cases hout : k < 0 ∨ (bs.length : Int) < k
    · rw [if_pos hout]
      by_cases hneg : k < 0
      · have q1 : decide (k < 0) = true := by simpa using hneg
        clear hout
        go_enter Tryz.func42, Tryz.ntmps42
        go_wp2_with (go_at_call 108; refine HF.out.mono ?_; rintro e wa ⟨rfl, hba⟩; have HX : Hid (Found w (wa.alloc (.cells #[.slice a bs.length c, .int .i64 (la : Int)] 125)) b m S sl d wa.heap.size (.slice a bs.length c) (.int .i64 (la : Int))) := found_mk HD.out hba _ _; clear hba)
        go_ret
        exact ⟨rfl, ⟨sl, HX.out.dk⟩, Fr.of_below S HX.out.below⟩
      · have hlt : (bs.length : Int) < k := by omega
        have q1 : decide (k < 0) = false := by simpa using hneg
        have q2 : decide ((bs.length : Int) < k) = true := by simpa using hlt
        clear hout
        go_enter Tryz.func42, Tryz.ntmps42
        go_wp2_with (go_at_call 108; refine HF.out.mono ?_; rintro e wa ⟨rfl, hba⟩; have HX : Hid (Found w (wa.alloc (.cells #[.slice a bs.length c, .int .i64 (la : Int)] 125)) b m S sl d wa.heap.size (.slice a bs.length c) (.int .i64 (la : Int))) := found_mk HD.out hba _ _; clear hba)
        go_ret
        exact ⟨rfl, ⟨sl, HX.out.dk⟩, Fr.of_below S HX.out.below⟩
    · rw [if_neg hout]
      have q1 : decide (k < 0) = false := by simp; omega
      have q2 : decide ((bs.length : Int) < k) = false := by simp; omega
      obtain ⟨K, rfl⟩ : ∃ K : Nat, k = (K : Int) := ⟨k.toNat, by omega⟩
      have hKl : (K : Int) ≤ (bs.length : Int) := by omega
      have eK : (K : Int).toNat = K := by omega
      rw [eK]
      clear hout eK
      by_cases h0 : d.ahead = 0
      · rw [if_pos h0]
        have HZ : Hid (d.ahead = 0) := h0
        clear h0
        go_enter Tryz.func42, Tryz.ntmps42
        go_wp2_with (first
          | (go_at_call 108; refine HF.out.mono ?_; rintro e wa ⟨rfl, hba⟩; have HX : Hid (Found w (wa.alloc (.cells #[.slice a bs.length c, .int .i64 (la : Int)] 125)) b m S sl d wa.heap.size (.slice a bs.length c) (.int .i64 (la : Int))) := found_mk HD.out hba _ _; clear hba)
          | (go_at_call 110; refine (fails_any HX.out.dk).mono ?_; rintro e wc ⟨he, ⟨sl', hd, hsl⟩, hf⟩; rw [HZ.out] at he; have HD2 : Hid (DkW wc b m S sl' none (failD d)) := hd; have HF2 : Hid (Fr S w wc) := (Fr.of_below S HX.out.below).tr hf; have HF3 : Hid (Fr S (wa.alloc (.cells #[.slice a bs.length c, .int .i64 (la : Int)] 125)) wc) := hf; clear hd hf; subst he))
        go_ret
        exact ⟨rfl, ⟨sl', HD2.out⟩, HF2.out⟩
      · rw [if_neg h0]
        have HQ : Hid (decide (d.ahead = 0) = false) := by show _ = _; simpa using h0
        have HG : Hid (getA n (failD d).files = some ⟨bs, la⟩) := by show _ = _; rw [failD_files h0]; exact hg
        have HSL : Hid (sl n = .slice a bs.length c) := hs
        have HZ : Hid (d.ahead ≠ 0) := h0
        have HOC : Hid (bs.length ≤ c) := (own_take (HD.out.rows _ (getA_mem hg) (by simp) |> fun q => by simp only at q; rw [hs] at q; exact q) 0 (Nat.zero_le _)).2.1
        have hsl2 := slice_to a bs.length c K (by omega) HOC.out
        have HKL : Hid (K ≤ bs.length) := by show _ ≤ _; omega
        obtain ⟨M, hM⟩ : ∃ M, M = min la K := ⟨_, rfl⟩
        have HM : Hid (M = min la K) := hM
        have hMi : min (la : Int) (K : Int) = (M : Int) := by rw [hM]; omega
        clear h0 hg hs hM
        go_enter Tryz.func42, Tryz.ntmps42
        go_wp2_with (first
          | (go_at_call 108; refine HF.out.mono ?_; rintro e wa ⟨rfl, hba⟩; have HX : Hid (Found w (wa.alloc (.cells #[.slice a bs.length c, .int .i64 (la : Int)] 125)) b m S sl d wa.heap.size (.slice a bs.length c) (.int .i64 (la : Int))) := found_mk HD.out hba _ _; clear hba)
          | (go_at_call 110; refine (fails_any HX.out.dk).mono ?_; rintro e wc ⟨he, ⟨sl', hd, hsl⟩, hf⟩; rw [HQ.out] at he; have HD2 : Hid (DkW wc b m S sl' none (failD d)) := hd; have HF2 : Hid (Fr S w wc) := (Fr.of_below S HX.out.below).tr hf; have HF3 : Hid (Fr S (wa.alloc (.cells #[.slice a bs.length c, .int .i64 (la : Int)] 125)) wc) := hf; clear hd hf; subst he; have hE1 := hsl HZ.out; subst hE1; have hBk : Hid (Blk2 wc wa.heap.size 125 (.slice a bs.length c) (.int .i64 (la : Int))) := HF3.out.at HX.out.blk HX.out.out; have k0 := hBk.out.c0; have k1 := hBk.out.c1; have kf := hBk.out.f 1))
        go_region_with (go_at_call 111; refine (reput_any (k := K) (la' := M) (HD2.out.drew) hn HG.out HSL.out HKL.out (by have := HM.out; omega)).mono ?_; rintro e we ⟨rfl, hd3, hf3⟩; have HD4 : Hid (∃ sl, DkW we b m S sl none { failD d with files := putA n ⟨bs.take K, M⟩ (failD d).files }) := hd3; have HF4 : Hid (Fr S w we) := HF2.out.drew.tr hf3; clear hd3 hf3)
        all_goals go_wp2
        all_goals go_ret
        all_goals (have hd5 := HD4.out; rw [HM.out] at hd5; exact ⟨rfl, hd5, HF4.out⟩)
  · rw [if_pos hE]
    have q : ((findV d n : Int) == 0) = false := by simpa using hE
    generalize findV d n = E at *
    clear h h1 h2 h3 h4 hll hF hE hget
    go_enter Tryz.func42, Tryz.ntmps42
    go_wp2_with (go_at_call 108; refine HF.out.mono ?_; rintro e wa ⟨rfl, hba⟩; have HX : Hid (Found w (wa.alloc (.cells #[.slice a bs.length c, .int .i64 (la : Int)] 125)) b m S sl d wa.heap.size (.slice a bs.length c) (.int .i64 (la : Int))) := found_mk HD.out hba _ _; clear hba)
    go_ret
    exact ⟨rfl, ⟨sl, HX.out.dk⟩, Fr.of_below S HX.out.below⟩

/-- A file that was taken away is put under another name, in the row that it had. -/
theorem moved_any {wc w : World} {b m : Nat} {S : Nat → Prop} {sl : Nm → Value} {d : Dk} {n to : Nm} {a : Option Addr} {c : Nat} {bs : List UInt8} {la : Nat} (h0 : DkW wc b m S sl none d) (h : DkW w b m S sl none { d with files := delA n d.files }) (hk : ∀ k, k < wc.heap.size → k ≠ b → k ≠ m → w.heap[k]? = wc.heap[k]?) (hn : to.length ≤ 140737488355328) (hg : getA n d.files = some ⟨bs, la⟩) (hs : sl n = .slice a bs.length c) :
    Calls Tryz.prog 111 #[dptr b, strN to, fileV (.slice a bs.length c) la] w fun e w' => e = .returned (.tuple #[]) ∧ Did w b m S { d with files := putA to ⟨bs, la⟩ (delA n d.files) } w' := by
  have hm := getA_mem hg
  have hla : la ≤ bs.length := h0.ok.lasts _ hm
  have hown : OwnB w 0 (.slice a bs.length c) bs := by
    have q := h0.rows _ hm (by simp)
    simp only at q
    rw [hs] at q
    refine ownB_keep q (fun g hg' => ?_)
    obtain ⟨cur, hc⟩ := ownB_block q hg'
    have := h0.ne_bg hc
    exact hk g (lt_blk hc) this.1 this.2
  have hd := usedL_del n d.files h0.ok.rises
  rw [hg] at hd
  have hu := usedL_put to ⟨bs, la⟩ (delA n d.files) h.ok.rises
  simp only [Option.getD_some] at hd hu
  have hlen : (delA n d.files).length + 1 ≤ d.files.length := by
    obtain ⟨x, y, hxy⟩ := getA_split hg
    have : (n, (⟨bs, la⟩ : Fl)) ∉ delA n d.files := fun hc => (mem_delA.1 hc).2 rfl
    rw [hxy]
    unfold delA
    rw [List.filter_append, List.filter_cons]
    simp
    have h1 := List.length_filter_le (fun p : Nm × Fl => !(p.1 == n)) x
    have h2 := List.length_filter_le (fun p : Nm × Fl => !(p.1 == n)) y
    omega
  have hfit := h0.ok.fits
  have hsm := h0.ok.small
  have hfew := h0.ok.few
  have hpl := putA_length to (⟨bs, la⟩ : Fl) (delA n d.files)
  refine (put_any (h.ex_some to) hown hla hn (fun g hg' => ⟨h0.sr _ hm g (by simp only; rw [hs]; exact hg'), fun q hq hne => h0.apart _ hm q (mem_delA.1 hq).1 (fun e => (mem_delA.1 hq).2 e.symm) g (by simp only; rw [hs]; exact hg')⟩) (by show usedL (putA to (⟨bs, la⟩ : Fl) (delA n d.files)) ≤ d.room; omega) (by show (putA to (⟨bs, la⟩ : Fl) (delA n d.files)).length ≤ _; omega) (by show usedL (putA to (⟨bs, la⟩ : Fl) (delA n d.files)) ≤ _; omega)).mono ?_
  rintro e w' ⟨rfl, h1, h2⟩
  exact ⟨rfl, ⟨_, h1⟩, h2⟩

set_option maxHeartbeats 1000000 in
set_option maxRecDepth 20000 in
theorem rename_any {w : World} {b m : Nat} {S : Nat → Prop} {sl : Nm → Value} {d : Dk} (h : DkW w b m S sl none d) (n : Nm) (hn : n.length ≤ 140737488355328) (to : Nm) (hto : to.length ≤ 140737488355328) :
    Calls Tryz.prog 149 #[dptr b, strN n, strN to] w fun e w' => e = .returned (.int .i64 ((renameP d n to).1 : Int)) ∧ Did w b m S (renameP d n to).2 w' := by
  obtain ⟨a, c, h1, h2, h3, hll, h4⟩ := h.found n
  have hF := find_any h n hn _ rfl
  rw [h1] at hF
  have HF : Hid (Calls Tryz.prog 108 #[dptr b, strN n] w fun e w' => e = .returned (.tuple #[.agg #[.slice a (theF d n).bs.length c, .int .i64 ((theF d n).la : Int)], .int .i64 (findV d n : Int)]) ∧ Below w.heap.size w w') := hF
  have HD : Hid (DkW w b m S sl none d) := h
  have hget : findV d n = 0 → getA n d.files = some (theF d n) := findV_get
  unfold renameP
  generalize theF d n = f at *
  obtain ⟨bs, la⟩ := f
  simp only at HF h2 h3 hll h4 ⊢
  have hMN := mayName_any to hto
  by_cases hE : findV d n = 0
  · rw [if_neg (by simpa using hE)]
    have hg := hget hE
    have hs := h3 hE
    rw [hE] at HF
    clear h h1 h2 h3 hF hE hget
    cases hm : mayN to with
    | false =>
      rw [hm] at hMN
      rw [if_pos rfl]
      clear h4
      go_enter Tryz.func149, Tryz.ntmps149
      go_wp2_with (first
        | (go_at_call 108; refine HF.out.mono ?_; rintro e wa ⟨rfl, hba⟩; have HX : Hid (Found w (wa.alloc (.cells #[.slice a bs.length c, .int .i64 (la : Int)] 125)) b m S sl d wa.heap.size (.slice a bs.length c) (.int .i64 (la : Int))) := found_mk HD.out hba _ _; clear hba)
        | (go_at_call 112; refine (hMN _).mono ?_; rintro e wm ⟨rfl, hw⟩; subst wm))
      go_ret
      exact ⟨rfl, ⟨sl, HX.out.dk⟩, Fr.of_below S HX.out.below⟩
    | true =>
      rw [hm] at hMN
      rw [if_neg (by decide)]
      by_cases h0 : d.ahead = 0
      · rw [if_pos h0]
        have HZ : Hid (d.ahead = 0) := h0
        clear h0 h4
        go_enter Tryz.func149, Tryz.ntmps149
        go_wp2_with (first
          | (go_at_call 108; refine HF.out.mono ?_; rintro e wa ⟨rfl, hba⟩; have HX : Hid (Found w (wa.alloc (.cells #[.slice a bs.length c, .int .i64 (la : Int)] 125)) b m S sl d wa.heap.size (.slice a bs.length c) (.int .i64 (la : Int))) := found_mk HD.out hba _ _; clear hba)
          | (go_at_call 112; refine (hMN _).mono ?_; rintro e wm ⟨rfl, hw⟩; subst wm)
          | (go_at_call 110; refine (fails_any HX.out.dk).mono ?_; rintro e wc ⟨he, ⟨sl', hd, hsl⟩, hf⟩; rw [HZ.out] at he; have HD2 : Hid (DkW wc b m S sl' none (failD d)) := hd; have HF2 : Hid (Fr S w wc) := (Fr.of_below S HX.out.below).tr hf; have HF3 : Hid (Fr S (wa.alloc (.cells #[.slice a bs.length c, .int .i64 (la : Int)] 125)) wc) := hf; clear hd hf; subst he))
        go_ret
        exact ⟨rfl, ⟨sl', HD2.out⟩, HF2.out⟩
      · rw [if_neg h0]
        have HQ : Hid (decide (d.ahead = 0) = false) := by show _ = _; simpa using h0
        have HG : Hid (getA n (failD d).files = some ⟨bs, la⟩) := by show _ = _; rw [failD_files h0]; exact hg
        have HSL : Hid (sl n = .slice a bs.length c) := hs
        have HZ : Hid (d.ahead ≠ 0) := h0
        clear h0 hg hs h4
        go_enter Tryz.func149, Tryz.ntmps149
        go_wp2_with (first
          | (go_at_call 108; refine HF.out.mono ?_; rintro e wa ⟨rfl, hba⟩; have HX : Hid (Found w (wa.alloc (.cells #[.slice a bs.length c, .int .i64 (la : Int)] 125)) b m S sl d wa.heap.size (.slice a bs.length c) (.int .i64 (la : Int))) := found_mk HD.out hba _ _; clear hba)
          | (go_at_call 112; refine (hMN _).mono ?_; rintro e wm ⟨rfl, hw⟩; subst wm)
          | (go_at_call 110; refine (fails_any HX.out.dk).mono ?_; rintro e wc ⟨he, ⟨sl', hd, hsl⟩, hf⟩; rw [HQ.out] at he; have HD2 : Hid (DkW wc b m S sl' none (failD d)) := hd; have HF2 : Hid (Fr S w wc) := (Fr.of_below S HX.out.below).tr hf; have HF3 : Hid (Fr S (wa.alloc (.cells #[.slice a bs.length c, .int .i64 (la : Int)] 125)) wc) := hf; clear hd hf; subst he; have hE1 := hsl HZ.out; subst hE1; have hBk : Hid (Blk2 wc wa.heap.size 125 (.slice a bs.length c) (.int .i64 (la : Int))) := HF3.out.at HX.out.blk HX.out.out)
          | (go_at_call 134; refine (drop_any HD2.out hn).mono ?_; rintro e we ⟨rfl, hd3, hf3, hkk⟩; have HKK : Hid (∀ k, k < wc.heap.size → k ≠ b → k ≠ m → we.heap[k]? = wc.heap[k]?) := hkk; have HD3 : Hid (DkW we b m S sl' none { failD d with files := delA n (failD d).files }) := hd3; have HF5 : Hid (Fr S wc we) := hf3; have hBk2 : Blk2 we wa.heap.size 125 (.slice a bs.length c) (.int .i64 (la : Int)) := HF5.out.at hBk.out HX.out.out; have k0 := hBk2.c0; have k1 := hBk2.c1; clear hd3 hf3 hBk2 hkk)
          | (go_at_call 111; refine (moved_any HD2.out HD3.out HKK.out hto HG.out HSL.out).mono ?_; rintro e wf ⟨rfl, hd6, hf6⟩))
        go_ret
        exact ⟨rfl, hd6, (HF2.out.tr HF5.out).tr hf6⟩
  · rw [if_pos hE]
    have q : ((findV d n : Int) == 0) = false := by simpa using hE
    generalize findV d n = E at *
    clear h h1 h2 h3 h4 hll hF hE hget
    go_enter Tryz.func149, Tryz.ntmps149
    go_wp2_with (go_at_call 108; refine HF.out.mono ?_; rintro e wa ⟨rfl, hba⟩; have HX : Hid (Found w (wa.alloc (.cells #[.slice a bs.length c, .int .i64 (la : Int)] 125)) b m S sl d wa.heap.size (.slice a bs.length c) (.int .i64 (la : Int))) := found_mk HD.out hba _ _; clear hba)
    go_ret
    exact ⟨rfl, ⟨sl, HX.out.dk⟩, Fr.of_below S HX.out.below⟩

end Go.Proofs.YtkbmblmnhhlicaaGreatDoor
