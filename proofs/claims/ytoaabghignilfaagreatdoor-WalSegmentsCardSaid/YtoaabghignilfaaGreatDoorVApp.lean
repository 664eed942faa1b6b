/- Append, walked: what it answers, over lists. -/
import Derived.Test.YtoaabghignilfaaGreatDoorVApp1
import Derived.Test.YtoaabghignilfaaGreatDoorVApp2
import Derived.Test.YtoaabghignilfaaGreatDoorPlainCalls
set_option linter.unusedVariables false
namespace Go.Proofs.YtoaabghignilfaaGreatDoor
open Go.RowKit

theorem failD_ok {d : Dk} (h : DkOk d) : usedL (failD d).files ≤ usedL d.files ∧ (failD d).files.length = d.files.length := by
  unfold failD
  split
  · exact ⟨fallL_used h.lasts, fallL_length _ _ _⟩
  · unfold doneD
    split <;> exact ⟨Nat.le_refl _, rfl⟩
theorem putA_same_length {α : Type} {n : Nm} {v : α} {l : List (Nm × α)} (hr : Rises l) {u : α} (h : getA n l = some u) : (putA n v l).length = l.length := by
  obtain ⟨a, b, rfl⟩ := List.append_of_mem (getA_mem h)
  rw [putA_at a b hr]
  simp
theorem sync_used {d : Dk} (h : DkOk d) (n : Nm) : usedL (syncP d n).2.files ≤ usedL d.files ∧ (syncP d n).2.files.length = d.files.length := by
  unfold syncP
  split
  · exact ⟨Nat.le_refl _, rfl⟩
  · rename_i hf
    have hf : findV d n = 0 := by simpa using hf
    have hg := findV_get hf
    split
    · exact failD_ok h
    · rename_i ha
      simp only
      rw [failD_files ha]
      have := usedL_put n ⟨(theF d n).bs, (theF d n).bs.length⟩ d.files h.rises
      rw [hg] at this
      simp only [Option.getD_some] at this
      exact ⟨by omega, putA_same_length h.rises hg⟩

set_option maxHeartbeats 1000000 in
set_option maxRecDepth 20000 in
theorem wapp_any {w0 w : World} {b m : Nat} {S : Nat → Prop} {d : Dk} {p : Nat} {T : Nat → Prop} {vs : Value} {q : Sgs} (h : Wl w0 w b m S d p T vs q) (hq : q ≠ []) {ba : Option Addr} {n bc : Nat} {l : List UInt8} (hk : ∀ w', Fr (fun k => S k ∨ T k) w w' → BRow w' ba n bc l) (hn : n ≤ 140737488355328)
    (hX : (lastS (q.map (·.1))).next ≤ 1000000) (hfw : q.length + 1 ≤ 1048576) (hu : usedL d.files + 8200 ≤ 1099511627776) (hf : d.files.length + 1 ≤ 1048576) :
    Calls Tryz.prog 18 #[dptr p, .slice ba n bc] w fun e w' => e = .returned (.int .i64 ((wappP d (q.map (·.1)) l).1 : Int)) ∧ DidW w0 w b m S p T (wappP d (q.map (·.1)) l).2.1 (wappP d (q.map (·.1)) l).2.2 w' := by
  obtain ⟨q', x, rfl⟩ : ∃ q' x, q = q' ++ [x] := ⟨q.dropLast, q.getLast hq, (List.dropLast_concat_getLast hq).symm⟩
  obtain ⟨⟨N, pl⟩, xv⟩ := x
  have hlen : l.length = n := (hk w (Fr.refl _ _)).1
  have hmap : (q' ++ [((⟨N, pl⟩ : Sg), xv)]).map (·.1) = q'.map (·.1) ++ [⟨N, pl⟩] := by simp
  have hls : lastS (q'.map (·.1) ++ [⟨N, pl⟩]) = ⟨N, pl⟩ := lastS_snoc _ _
  rw [hmap, hls] at hX
  rw [hmap]
  have hdid : ∀ w', Below w.heap.size w w' → DidW w0 w b m S p T d (q'.map (·.1) ++ [⟨N, pl⟩]) w' := fun w' hb => ⟨S, T, vs, _, h.same hb, by simp, StW.same S T hb⟩
  unfold wappP
  rw [hls, hlen]
  have hle : (q' ++ [((⟨N, pl⟩ : Sg), xv)]).length = q'.length + 1 := by simp
  rw [hle] at hfw
  by_cases h8 : 8192 < n
  · rw [if_pos h8]
    have b1 : (8192 : Int) < (n : Int) := by omega
    have HD : Hid (∀ w', Below w.heap.size w w' → DidW w0 w b m S p T d (q'.map (·.1) ++ [⟨N, pl⟩]) w') := hdid
    clear hdid hk h hls hmap hX hlen hu hf hfw hn
    go_enter Tryz.func18, Tryz.ntmps18
    go_wp2
    go_ret
    exact ⟨rfl, HD.out _ (Below.refl _ _)⟩
  rw [if_neg h8]
  by_cases hx : (⟨N, pl⟩ : Sg).next = 1000000
  · rw [if_pos hx]
    have hL : Calls Tryz.prog 23 #[dptr p] w fun e w' => e = .returned (.int .i64 999999) ∧ Below w.heap.size w w' := (lastn_any h.lg).mono fun e w' q => ⟨by rw [q.1, hx]; rfl, q.2⟩
    have b1 : ¬ (8192 : Int) < (n : Int) := by omega
    have HD : Hid (∀ w', Below w.heap.size w w' → DidW w0 w b m S p T d (q'.map (·.1) ++ [⟨N, pl⟩]) w') := hdid
    clear hdid hk h hls hmap hX hlen hu hf hfw hn hx h8
    go_enter Tryz.func18, Tryz.ntmps18
    go_wp2_with (fail)
    refine hL.mono ?_
    rintro e w1 ⟨rfl, hb1⟩
    have HB1 : Hid (Below w.heap.size w w1) := hb1
    clear hL hb1
    go_wp2
    go_ret
    exact ⟨rfl, HD.out _ HB1.out⟩
  rw [if_neg hx]
  have hX9 : (⟨N, pl⟩ : Sg).next < 1000000 := by omega
  obtain ⟨X, hXe⟩ : ∃ X, (⟨N, pl⟩ : Sg).next = X := ⟨_, rfl⟩
  obtain ⟨A, hAe⟩ : ∃ A, (⟨N, pl⟩ : Sg).size = A := ⟨_, rfl⟩
  rw [hXe] at hX9 ⊢
  rw [hAe]
  simp only
  obtain ⟨sl, hdk⟩ := h.lv.dk
  by_cases hA : 2048 ≤ A
  · rw [if_pos hA]
    obtain ⟨D1, hD1⟩ : ∃ D1, syncP d (nameL N) = D1 := ⟨_, rfl⟩
    have hsu := sync_used hdk.ok (nameL N)
    rw [hD1] at hsu ⊢
    obtain ⟨D', hD'⟩ : ∃ D', appendP D1.2 (nameL X) (frameL X l) = D' := ⟨_, rfl⟩
    rw [hD']
    refine (wapp_full h hk (by omega) X A hXe hX9 hAe hA (by omega) D1 hD1 (by omega) (by omega) D' hD').mono ?_
    rintro e w' ⟨h1, h2⟩
    by_cases hz : D1.1 = 0
    · obtain ⟨rfl, h3, h4⟩ := h2 hz
      rw [if_neg (by simpa using hz)]
      by_cases hz2 : D'.1 = 0
      · rw [if_neg (by simpa using hz2)]
        exact ⟨by rw [hz2], h4 hz2⟩
      · rw [if_pos hz2]
        exact ⟨rfl, h3 hz2⟩
    · rw [if_pos hz]
      exact h1 hz
  · rw [if_neg hA]
    obtain ⟨D', hD'⟩ : ∃ D', appendP d (nameL N) (frameL X l) = D' := ⟨_, rfl⟩
    rw [hD']
    refine (wapp_room h hk (by omega) X A hXe hX9 hAe (by omega) (by omega) hf D' hD').mono ?_
    rintro e w' ⟨rfl, h3, h4⟩
    by_cases hz2 : D'.1 = 0
    · rw [if_neg (by simpa using hz2), List.dropLast_concat]
      exact ⟨by rw [hz2], h4 hz2⟩
    · rw [if_pos hz2]
      exact ⟨rfl, h3 hz2⟩
end Go.Proofs.YtoaabghignilfaaGreatDoor
