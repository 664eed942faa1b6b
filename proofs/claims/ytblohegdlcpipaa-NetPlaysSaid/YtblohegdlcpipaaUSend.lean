/- A net: Send, Copy; walked. -/
import Derived.Test.YtblohegdlcpipaaUAdd
set_option linter.unusedVariables false
namespace Go.Proofs.Ytblohegdlcpipaa
open Go.RowKit

def sendA (ls : List L3) (f t : Int) (l : List UInt8) : List L3 := if nodeB f = true ∧ nodeB t = true ∧ ls.length < 200 then ls ++ [(f.toNat, t.toNat, l)] else ls
def copyA (ls : List L3) (i : Int) : List L3 := if ls.length < 200 then ls ++ (ls[i.toNat]?).toList else ls

theorem addA_val (xs : List Lr) (x : Lr) : (addA xs x).map Lr.v = if (xs.map Lr.v).length < 200 then xs.map Lr.v ++ [x.v] else xs.map Lr.v := by
  unfold addA
  rw [List.length_map]
  split <;> simp

theorem NetC.few {w : World} {b : Nat} {v : Value} {sd : Nat} {ls : List L3} (h : NetC w b v sd ls) : ls.length ≤ 200 := by
  obtain ⟨xs, h1, rfl⟩ := h
  rw [List.length_map]; exact h1.few
theorem NetC.below {w w' : World} {b : Nat} {v : Value} {sd : Nat} {ls : List L3} (h : NetC w b v sd ls) (hb : Below w.heap.size w w') : NetC w' b v sd ls := by
  obtain ⟨xs, h1, h2⟩ := h
  exact ⟨xs, h1.below hb, h2⟩
theorem NetC.go {w w' : World} {b : Nat} {v : Value} {sd : Nat} {ls : List L3} (h : NetC w b v sd ls) (hb : Below w.heap.size w w') : GoC w b v sd ls w' := ⟨v, h.below hb, Fr.of_below _ hb, fun g hg => .inl hg⟩
theorem GoC.pre {w w1 w2 : World} {b : Nat} {v : Value} {sd : Nat} {ls : List L3} (hb : Below w.heap.size w w1) (h : GoC w1 b v sd ls w2) : GoC w b v sd ls w2 := by
  obtain ⟨v', h1, h2, h3⟩ := h
  exact ⟨v', h1, Fr.pre hb h2 (fun _ h => h), fun g hg => (h3 g hg).imp id (fun h => Nat.le_trans hb.size h)⟩

set_option maxHeartbeats 4000000 in
set_option maxRecDepth 20000 in
theorem usend_any {w : World} {b : Nat} {v : Value} {sd : Nat} {ls : List L3} (h : NetC w b v sd ls) (f t : Int) {a : Option Addr} {n c : Nat} {l : List UInt8} (hl : BRow w a n c l) (hn : n ≤ 1000) :
    Calls Try.prog 12 #[nptr b, .int .i64 f, .int .i64 t, .slice a n c] w fun e w' => e = .returned (.tuple #[]) ∧ GoC w b v sd (sendA ls f t l) w' := by
  obtain ⟨R, hR⟩ : ∃ R, sendA ls f t l = R := ⟨_, rfl⟩
  rw [hR]
  have h1 := unode_any f w
  have h2 := unode_any t w
  have HN : Hid (NetC w b v sd ls ∧ l.length = n ∧ n ≤ 1000) := ⟨h, hl.1, hn⟩
  have hc := uclone_any hl (by omega)
  have hsame : nodeB f = false ∨ nodeB t = false → R = ls := by
    intro hh
    rw [← hR, sendA, if_neg]
    rintro ⟨q1, q2, _⟩
    rcases hh with hh | hh
    · rw [q1] at hh; cases hh
    · rw [q2] at hh; cases hh
  cases hf : nodeB f with
  | false =>
    have hs := hsame (.inl hf)
    have HF : Hid (GoC w b v sd R w) := by show GoC _ _ _ _ _ _; rw [hs]; exact h.go (Below.refl _ _)
    rw [hf] at h1
    clear h h2 hc hsame hs hf hR hl hn
    go_enter Try.func12, Try.ntmps12
    go_wp2_with (fail)
    refine h1.mono ?_
    rintro e w1 ⟨rfl, hw⟩
    replace hw := hw.symm
    subst hw
    clear h1
    go_wp2
    go_end0
    exact ⟨rfl, HF.out⟩
  | true =>
    rw [hf] at h1
    cases ht : nodeB t with
    | false =>
      have hs := hsame (.inr ht)
      have HF : Hid (GoC w b v sd R w) := by show GoC _ _ _ _ _ _; rw [hs]; exact h.go (Below.refl _ _)
      rw [ht] at h2
      clear h hc hsame hs hf ht hR hl hn
      go_enter Try.func12, Try.ntmps12
      go_wp2_with (fail)
      refine h1.mono ?_
      rintro e w1 ⟨rfl, hw⟩
      replace hw := hw.symm
      subst hw
      clear h1
      go_wp2_with (fail)
      refine h2.mono ?_
      rintro e w1 ⟨rfl, hw⟩
      replace hw := hw.symm
      subst hw
      clear h2
      go_wp2
      go_end0
      exact ⟨rfl, HF.out⟩
    | true =>
      rw [ht] at h2
      have HR : Hid (R = if ls.length < 200 then ls ++ [(f.toNat, t.toNat, l)] else ls) := by
        show R = _
        rw [← hR, sendA]
        by_cases hq : ls.length < 200
        · rw [if_pos ⟨hf, ht, hq⟩, if_pos hq]
        · rw [if_neg (fun hh => hq hh.2.2), if_neg hq]
      obtain ⟨f0, f1⟩ := nodeB_iff.1 hf
      obtain ⟨t0, t1⟩ := nodeB_iff.1 ht
      obtain ⟨F, rfl⟩ : ∃ F : Nat, f = (F : Int) := ⟨f.toNat, by omega⟩
      obtain ⟨T, rfl⟩ : ∃ T : Nat, t = (T : Int) := ⟨t.toNat, by omega⟩
      have HB : Hid (F ≤ 63 ∧ T ≤ 63) := ⟨by omega, by omega⟩
      have HC : Hid (Calls Try.prog 25 #[.slice a n c] w fun e w' => ∃ a' c', e = .returned (.slice a' n c') ∧ OwnB w' w.heap.size (.slice a' n c') l ∧ Below w.heap.size w w') := hc
      clear h hc hsame hf ht hR hl hn f0 f1 t0 t1
      go_enter Try.func12, Try.ntmps12
      go_wp2_with (fail)
      refine h1.mono ?_
      rintro e w1 ⟨rfl, hw⟩
      replace hw := hw.symm
      subst hw
      clear h1
      go_wp2_with (fail)
      refine h2.mono ?_
      rintro e w1 ⟨rfl, hw⟩
      replace hw := hw.symm
      subst hw
      clear h2
      go_wp2_with (fail)
      refine HC.out.mono ?_
      rintro e w1 ⟨a', c', rfl, hown, hb⟩
      clear HC
      have HA : Hid (∀ u, u = w1 → Calls Try.prog 27 #[nptr b, .agg #[.int .i64 (F : Int), .int .i64 (T : Int), .slice a' n c']] u fun e w' => ∃ B, e = .returned (.bool B) ∧ GoC w b v sd R w') := by
        intro u hu
        subst hu
        obtain ⟨xs, hx, rfl⟩ := HN.out.1
        have hln := HN.out.2.1
        have := uadd_any (hx.below hb) ⟨F, T, a', c', l⟩ (by dsimp only; rw [hln]; exact ownB_low hown (Nat.zero_le _)) HB.out (by dsimp only; have := HN.out.2; omega)
        dsimp only at this
        rw [hln] at this
        refine this.mono ?_
        rintro e w' ⟨he, hg⟩
        refine ⟨_, he, GoC.pre hb ?_⟩
        rw [HR.out]
        have := hg.c
        rw [addA_val] at this
        exact this
      clear hown hb
      go_wp2_with (fail)
      refine (HA.out _ rfl).mono ?_
      rintro e w2 ⟨B, rfl, hg⟩
      have HG : Hid (GoC w b v sd R w2) := hg
      clear HA hg
      go_wp2
      go_end0
      exact ⟨rfl, HG.out⟩

set_option maxHeartbeats 4000000 in
set_option maxRecDepth 20000 in
theorem ucopy_any {w : World} {b : Nat} {v : Value} {sd : Nat} {ls : List L3} (h : NetC w b v sd ls) (i : Int) :
    Calls Try.prog 13 #[nptr b, .int .i64 i] w fun e w' => e = .returned (.bool (hasB ls.length i && decide (ls.length < 200))) ∧ GoC w b v sd (if hasB ls.length i = true then copyA ls i else ls) w' := by
  obtain ⟨xs, hx, hm⟩ := h
  have hlen : ls.length = xs.length := by rw [← hm, List.length_map]
  have h1 := uhas_any hx i
  rw [← hlen] at h1
  obtain ⟨a, c, hv⟩ := hx.row.slice
  have x0 := hx.c0
  rw [hv] at x0
  have bn : (xs.length : Int) ≤ 200 := by have := hx.few; omega
  cases hi : hasB ls.length i with
  | false =>
    have HF : Hid (GoC w b v sd ls w) := NetC.go ⟨xs, hx, hm⟩ (Below.refl _ _)
    rw [hi] at h1
    clear hx hm hlen hv hi x0 bn
    go_enter Try.func13, Try.ntmps13
    go_wp2_with (fail)
    refine h1.mono ?_
    rintro e w1 ⟨rfl, hw⟩
    replace hw := hw.symm
    subst hw
    clear h1
    go_wp2
    go_ret
    exact ⟨rfl, HF.out⟩
  | true =>
    rw [hi] at h1
    obtain ⟨i0, i1⟩ := hasB_iff.1 hi
    obtain ⟨j, rfl⟩ : ∃ j : Nat, i = (j : Int) := ⟨i.toNat, by omega⟩
    have hj : j < xs.length := by omega
    obtain ⟨x, hxj⟩ : ∃ x, xs[j]? = some x := ⟨xs[j], List.getElem?_eq_getElem hj⟩
    obtain ⟨g, cc, hg, hnc, y0, y1, y2⟩ := hx.row.at hxj
    have hmem := List.mem_of_getElem? hxj
    rw [hg] at hv
    injection hv with e1 _ e2
    subst e1
    subst e2
    have hlj : (ls[(j : Int).toNat]?) = some x.v := by rw [← hm, Int.toNat_natCast, List.getElem?_map, hxj]; rfl
    have HA : Hid (Calls Try.prog 27 #[nptr b, .agg #[.int .i64 (x.f : Int), .int .i64 (x.t : Int), .slice x.a x.d.length x.c]] w fun e w' => e = .returned (.bool (decide (ls.length < 200))) ∧ GoC w b v sd (copyA ls (j : Int)) w') := by
      refine (uadd_any hx x (hx.dat x hmem) (hx.nod x hmem) (hx.short x hmem)).mono ?_
      rintro e w' ⟨he, hgo⟩
      rw [hlen]
      refine ⟨he, ?_⟩
      have := hgo.c
      rw [addA_val, hm] at this
      unfold copyA
      rw [hlj]
      exact this
    obtain ⟨n, hn⟩ : ∃ n, xs.length = n := ⟨_, rfl⟩
    obtain ⟨m, hmm⟩ : ∃ m, x.d.length = m := ⟨_, rfl⟩
    rw [hn] at x0 bn
    rw [hmm] at y2 HA
    have bj : (j : Int) < (n : Int) := by omega
    obtain ⟨D, hD⟩ : ∃ D, decide (ls.length < 200) = D := ⟨_, rfl⟩
    rw [hD] at HA ⊢
    clear hx hm hlen hi i0 i1 hj hxj hg hnc hmem hlj hn hmm hD
    go_enter Try.func13, Try.ntmps13
    go_wp2_with (fail)
    refine h1.mono ?_
    rintro e w1 ⟨rfl, hw⟩
    replace hw := hw.symm
    subst hw
    clear h1
    go_wp2_with (fail)
    refine HA.out.mono ?_
    rintro e w2 ⟨rfl, hg⟩
    have HG : Hid (GoC w b v sd (copyA ls (j : Int)) w2) := hg
    clear HA hg x0 y0 y1 y2
    go_wp2
    go_ret
    exact ⟨rfl, HG.out⟩
end Go.Proofs.Ytblohegdlcpipaa
