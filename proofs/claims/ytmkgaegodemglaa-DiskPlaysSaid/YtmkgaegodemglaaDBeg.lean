/- begins, walked; what a disk that is not armed does. -/
import Derived.Test.YtmkgaegodemglaaDShown
set_option linter.unusedVariables false
namespace Go.Proofs.Ytmkgaegodemglaa
open Go.RowKit

theorem BRow.pre {w : World} {a : Option Addr} {n c : Nat} {l : List UInt8} (h : BRow w a n c l) {k : Nat} (hk : k ≤ n) : BRow w a k c (l.take k) := by
  have hl := h.1
  refine ⟨by rw [List.length_take]; omega, ?_⟩
  rcases h.2 with ⟨h1, h2, h3⟩ | ⟨x, h1, hc⟩
  · exact .inl ⟨h1, by omega, h3⟩
  · refine .inr ⟨x, h1, fun j hj => ?_⟩
    rw [List.length_take] at hj
    rw [List.getElem_take]
    exact hc j (by omega)
theorem BRow.drewN {w : World} {a : Option Addr} {n c : Nat} {l : List UInt8} (h : BRow w a n c l) (k : Nat) : BRow (w.drewN k) a n c l := h

set_option maxHeartbeats 1000000 in
set_option maxRecDepth 20000 in
/-- A beginning is one. -/
theorem begins_any {w : World} {a b : Option Addr} {n c n2 c2 : Nat} {l l2 : List UInt8} (h : BRow w a n c l) (h2 : BRow w b n2 c2 l2) (hc : n2 ≤ c2) (hb : n2 ≤ 140737488355328) (hp : l <+: l2) :
    Calls Try.prog 19 #[.slice a n c, .slice b n2 c2] w fun e w' => e = .returned (.bool true) ∧ Below w.heap.size w w' := by
  have hn := h.1
  have hn2 := h2.1
  have hle : n ≤ n2 := by rw [← hn, ← hn2]; exact hp.length_le
  have ht : l2.take n = l := by
    obtain ⟨t, rfl⟩ := hp
    rw [← hn, List.take_left]
  have s1 := slice_to b n2 c2 n hle hc
  have e1 : ∀ k, (convert 29 9 (.slice b n c2)).run Try.prog (w.drewN k) = .ok (.string ⟨l.toArray⟩) (w.drewN k) := fun k => by have := ((h2.pre hle).drewN k).string; rwa [ht] at this
  have e2 : ∀ k, (convert 29 9 (.slice a n c)).run Try.prog (w.drewN k) = .ok (.string ⟨l.toArray⟩) (w.drewN k) := fun k => (h.drewN k).string
  have e1d : (convert 29 9 (.slice b n c2)).run Try.prog w.drew = .ok (.string ⟨l.toArray⟩) w.drew := by have : BRow w.drew b n c2 (l2.take n) := h2.pre hle; have := this.string; rwa [ht] at this
  have e2d : (convert 29 9 (.slice a n c)).run Try.prog w.drew = .ok (.string ⟨l.toArray⟩) w.drew := by have : BRow w.drew a n c l := h; exact this.string
  have q1 : decide ((n : Int) ≤ (n2 : Int)) = true := by simpa using hle
  have q2 : decide (n ≤ n2) = true := by simpa using hle
  have q3 : (n : Int) ≤ (n2 : Int) := by omega
  clear h h2 hn hn2 ht hp hb hc
  go_enter Try.func19, Try.ntmps19
  go_wp2
  have f1 := e1 0
  have f2 := e2 0
  have g1 : (convert 29 9 (.slice b n c2)).run Try.prog w.drew = .ok (.string ⟨l.toArray⟩) w.drew := e1d
  have g2 : (convert 29 9 (.slice a n c)).run Try.prog w.drew = .ok (.string ⟨l.toArray⟩) w.drew := e2d
  clear e1 e2 e1d e2d
  go_big_region
  go_wp2
  go_ret
  exact ⟨rfl, (Below.refl _ _).drew⟩

/-! ### a disk that is not armed -/
theorem append_idle {d : Dk} {n : Nm} {l : List UInt8} (hu : d.up = true) (hm : mayN n = true) (hr : usedL d.files + l.length ≤ d.room) (ha : d.ahead < 0) : appendP d n l = (0, addD d n l) := by
  have h1 : ¬ d.ahead = 0 := by omega
  have h2 : ¬ 0 < d.ahead := by omega
  unfold appendP
  rw [if_neg (by rw [hu]; decide), if_neg (by rw [hm]; decide), if_neg (by omega), if_neg h1]
  unfold failD doneD
  rw [if_neg (by exact h1), if_neg (by exact h2)]
theorem append_off {d : Dk} {n : Nm} {l : List UInt8} (hu : d.up = false) : appendP d n l = (13, d) := by
  unfold appendP
  rw [if_pos hu]
theorem sync_idle {d : Dk} {n : Nm} (hf : findV d n = 0) (ha : d.ahead < 0) : syncP d n = (0, { d with files := putA n ⟨(theF d n).bs, (theF d n).bs.length⟩ d.files }) := by
  have h1 : ¬ d.ahead = 0 := by omega
  have h2 : ¬ 0 < d.ahead := by omega
  unfold syncP
  rw [if_neg (by rw [hf]; decide), if_neg h1]
  unfold failD doneD
  rw [if_neg h1, if_neg h2]

/-- What stays of a file all of which lasts. -/
theorem fall_lasts (keep i : Nat) (bs : List UInt8) : fallF keep i ⟨bs, bs.length⟩ = ⟨bs, bs.length⟩ := by
  have : stay keep i ⟨bs, bs.length⟩ = bs.length := by
    unfold stay
    simp [Nat.mod_one]
  unfold fallF
  rw [this]
  simp

end Go.Proofs.Ytmkgaegodemglaa
