/- A net: nodes, has, Len, New, Split; walked. -/
import Derived.Test.YtblohegdlcpipaaUMem
set_option linter.unusedVariables false
namespace Go.Proofs.Ytblohegdlcpipaa
open Go.RowKit

def nodeB (n : Int) : Bool := decide (0 ≤ n) && decide (n ≤ 63)
theorem nodeB_iff {n : Int} : nodeB n = true ↔ 0 ≤ n ∧ n ≤ 63 := by simp [nodeB]

theorem unode_any (n : Int) (w : World) : Calls Try.prog 26 #[.int .i64 n] w fun e w' => e = .returned (.bool (nodeB n)) ∧ w' = w := by
  obtain ⟨R, hR⟩ : ∃ R, nodeB n = R := ⟨_, rfl⟩
  rw [hR]
  by_cases h1 : 0 ≤ n
  · by_cases h2 : n ≤ 63
    · have : R = true := by rw [← hR]; simp [nodeB, h1, h2]
      subst this
      clear hR
      go_enter Try.func26, Try.ntmps26
      go_wp2
      go_ret
      exact ⟨rfl, rfl⟩
    · have : R = false := by rw [← hR]; simp [nodeB, h2]
      subst this
      clear hR
      go_enter Try.func26, Try.ntmps26
      go_wp2
      go_ret
      exact ⟨rfl, rfl⟩
  · have : R = false := by rw [← hR]; simp [nodeB, h1]
    subst this
    clear hR
    go_enter Try.func26, Try.ntmps26
    go_wp2
    go_ret
    exact ⟨rfl, rfl⟩

theorem ulen_any {w : World} {b : Nat} {v : Value} {sd : Nat} {xs : List Lr} (h : NetW w b v sd xs) : Calls Try.prog 10 #[nptr b] w fun e w' => e = .returned (.int .i64 (xs.length : Int)) ∧ w' = w := by
  obtain ⟨a, c, hv⟩ := h.row.slice
  have x0 := h.c0
  have bn : (xs.length : Int) ≤ 200 := by have := h.few; omega
  rw [hv] at x0
  clear h hv
  go_enter Try.func10, Try.ntmps10
  go_wp2
  go_ret
  exact ⟨rfl, rfl⟩

def hasB (n : Nat) (i : Int) : Bool := decide (0 ≤ i) && decide (i < (n : Int))
theorem hasB_iff {n : Nat} {i : Int} : hasB n i = true ↔ 0 ≤ i ∧ i < (n : Int) := by simp [hasB]
theorem uhas_any {w : World} {b : Nat} {v : Value} {sd : Nat} {xs : List Lr} (h : NetW w b v sd xs) (i : Int) : Calls Try.prog 24 #[nptr b, .int .i64 i] w fun e w' => e = .returned (.bool (hasB xs.length i)) ∧ w' = w := by
  obtain ⟨a, c, hv⟩ := h.row.slice
  have x0 := h.c0
  have bn : (xs.length : Int) ≤ 200 := by have := h.few; omega
  rw [hv] at x0
  obtain ⟨n, hn⟩ : ∃ n, xs.length = n := ⟨_, rfl⟩
  rw [hn] at x0 bn ⊢
  clear h hv hn
  obtain ⟨R, hR⟩ : ∃ R, hasB n i = R := ⟨_, rfl⟩
  rw [hR]
  by_cases h1 : 0 ≤ i
  · by_cases h2 : i < (n : Int)
    · have : R = true := by rw [← hR]; simp [hasB, h1, h2]
      subst this
      clear hR
      go_enter Try.func24, Try.ntmps24
      go_wp2
      go_ret
      exact ⟨rfl, rfl⟩
    · have : R = false := by rw [← hR]; simp [hasB, h2]
      subst this
      clear hR
      go_enter Try.func24, Try.ntmps24
      go_wp2
      go_ret
      exact ⟨rfl, rfl⟩
  · have : R = false := by rw [← hR]; simp [hasB, h1]
    subst this
    clear hR
    go_enter Try.func24, Try.ntmps24
    go_wp2
    go_ret
    exact ⟨rfl, rfl⟩

theorem usplit_any {w : World} {b : Nat} {v : Value} {sd : Nat} {xs : List Lr} (h : NetW w b v sd xs) (s : Nat) (hs : s < 18446744073709551616) : Calls Try.prog 16 #[nptr b, .int .u64 (s : Int)] w fun e w' => e = .returned (.tuple #[]) ∧ NetW w' b v s xs ∧ Fr (fun k => k = b) w w' := by
  have HH : Hid (NetW w b v sd xs ∧ s < 18446744073709551616) := ⟨h, hs⟩
  have x1 := h.c1
  have f1 := h.fz 1
  clear h hs
  go_enter Try.func16, Try.ntmps16
  go_wp2
  go_end0
  have h := HH.out.1
  refine ⟨rfl, ?_, Fr.set (S := fun k => k = b) (p := ⟨b, 1, none⟩) (Fr.refl _ w) rfl _⟩
  have hb := set_blk h.blk 1 (.int .u64 (s : Int))
  refine ⟨hb, h.row.keep (fun g hg => set_other _ (h.ne hg)), fun x hx => ownB_keep (h.dat x hx) (fun g hg => ?_), h.few, h.nod, h.short, HH.out.2⟩
  obtain ⟨cur, hc⟩ := ownB_block (h.dat x hx) hg
  exact set_other _ (type_ne hc h.blk (by decide))

theorem unew_any (w : World) : Calls Try.prog 8 #[] w fun e w' => e = .returned (nptr w.heap.size) ∧ NetW w' w.heap.size (.slice none 0 0) 0 [] ∧ Below w.heap.size w w' := by
  go_enter Try.func8, Try.ntmps8
  go_wp2
  go_ret
  refine ⟨rfl, ⟨heap_alloc_new w _, World.ownsRow_nil _ _ _ _, fun x hx => (by cases hx), by simp, fun x hx => (by cases hx), fun x hx => (by cases hx), by omega⟩, (Below.refl _ w).alloc (Nat.le_refl _) _⟩

/-- On which side a node is. -/
def sideZ (sd : Nat) (n : Int) : Int := Go.bits BinOp.and .u64 ((sd : Int) / 2 ^ n.toNat) 1
theorem uside_any {w : World} {b : Nat} {v : Value} {sd : Nat} {xs : List Lr} (h : NetW w b v sd xs) (n : Int) (hn : nodeB n = true) : Calls Try.prog 30 #[nptr b, .int .i64 n] w fun e w' => e = .returned (.int .u64 (sideZ sd n)) ∧ w' = w := by
  obtain ⟨h0, h1⟩ := nodeB_iff.1 hn
  obtain ⟨m, rfl⟩ : ∃ m : Nat, n = (m : Int) := ⟨n.toNat, by omega⟩
  have x1 := h.c1
  have bn : (m : Int) ≤ 63 := by omega
  have bs := h.side
  clear h hn h0 h1
  go_enter Try.func30, Try.ntmps30
  go_wp2
  go_ret
  exact ⟨rfl, rfl⟩

def reachB (sd : Nat) (f t : Int) : Bool := nodeB f && nodeB t && decide (sideZ sd f = sideZ sd t)
theorem ureach_any {w : World} {b : Nat} {v : Value} {sd : Nat} {xs : List Lr} (h : NetW w b v sd xs) (f t : Int) : Calls Try.prog 17 #[nptr b, .int .i64 f, .int .i64 t] w fun e w' => e = .returned (.bool (reachB sd f t)) ∧ w' = w := by
  have h1 := unode_any f w
  have h2 := unode_any t w
  have h3 := uside_any h f
  have h4 := uside_any h t
  unfold reachB
  cases hf : nodeB f with
  | false =>
    rw [hf] at h1
    clear h h2 h3 h4 hf
    go_enter Try.func17, Try.ntmps17
    go_wp2_with (fail)
    refine h1.mono ?_
    rintro e w1 ⟨rfl, hw⟩
    subst hw
    clear h1
    go_wp2
    go_ret
    exact ⟨rfl, rfl⟩
  | true =>
    rw [hf] at h1
    cases ht : nodeB t with
    | false =>
      rw [ht] at h2
      clear h h3 h4 hf ht
      go_enter Try.func17, Try.ntmps17
      go_wp2_with (fail)
      refine h1.mono ?_
      rintro e w1 ⟨rfl, hw⟩
      subst hw
      clear h1
      go_wp2_with (fail)
      refine h2.mono ?_
      rintro e w1 ⟨rfl, hw⟩
      subst hw
      clear h2
      go_wp2
      go_ret
      exact ⟨rfl, rfl⟩
    | true =>
      rw [ht] at h2
      have h3 := h3 hf
      have h4 := h4 ht
      obtain ⟨x, hx⟩ : ∃ x, sideZ sd f = x := ⟨_, rfl⟩
      obtain ⟨y, hy⟩ : ∃ y, sideZ sd t = y := ⟨_, rfl⟩
      rw [hx] at h3 ⊢
      rw [hy] at h4 ⊢
      obtain ⟨D, hD⟩ : ∃ D, decide (x = y) = D := ⟨_, rfl⟩
      have q1 : (x == y) = D := by rw [← hD]; rfl
      rw [hD]
      clear h hf ht hx hy hD
      go_enter Try.func17, Try.ntmps17
      go_wp2_with (fail)
      refine h1.mono ?_
      rintro e w1 ⟨rfl, hw⟩
      subst hw
      clear h1
      go_wp2_with (fail)
      refine h2.mono ?_
      rintro e w1 ⟨rfl, hw⟩
      subst hw
      clear h2
      go_wp2_with (fail)
      refine h3.mono ?_
      rintro e w1 ⟨rfl, hw⟩
      subst hw
      clear h3
      go_wp2_with (fail)
      refine h4.mono ?_
      rintro e w1 ⟨rfl, hw⟩
      subst hw
      clear h4
      go_wp2
      go_ret
      exact ⟨rfl, rfl⟩
end Go.Proofs.Ytblohegdlcpipaa
