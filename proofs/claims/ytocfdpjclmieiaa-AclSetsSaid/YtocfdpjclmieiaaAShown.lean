/- The law's small case: what it is told. -/
import Derived.Test.YtocfdpjclmieiaaASet
set_option linter.unusedVariables false
namespace Go.Proofs.Ytocfdpjclmieiaa
open Go.RowKit

theorem arow_cell {w : World} {B s n c : Nat} {e : TypeId} {a : Option Addr} {xs : List Value} (h : w.ownsRow B e s (.slice a n c) n xs) {j : Nat} {u : Value} (hj : xs[j]? = some u) : ∃ g, a = some ⟨g, 0, none⟩ ∧ g < w.heap.size ∧ w.cell? ⟨g, j, none⟩ = some u := by
  obtain ⟨h1, h2⟩ := h
  rcases h2 with ⟨hv, h0⟩ | ⟨g, cap, cur, hv, hb, hg, hn, hc, hsz, ht⟩
  · subst h0
    rw [Nat.zero_mul] at h1
    rw [List.length_eq_zero_iff.1 h1] at hj
    cases hj
  · cases hv
    refine ⟨g, rfl, (Array.getElem?_eq_some_iff.1 hg).1, cell_blkA hg ?_⟩
    rw [← ht] at hj
    have hlt : j < n * s := by
      have := (List.getElem?_eq_some_iff.1 hj).1
      rw [List.length_take] at this
      omega
    rw [List.getElem?_take_of_lt hlt, Array.getElem?_toList] at hj
    exact hj
theorem grCs_get : ∀ (d : List GrA) (i : Nat) (q : GrA), d[i]? = some q → (grCs d)[i * 3]? = some (strA q.tenant) ∧ (grCs d)[i * 3 + 1]? = some (strA q.who) ∧ (grCs d)[i * 3 + 2]? = some (.int .i64 q.right)
  | [], i, q, h => by cases h
  | p :: r, 0, q, h => by
    cases h
    exact ⟨rfl, rfl, rfl⟩
  | p :: r, i + 1, q, h => by
    obtain ⟨h1, h2, h3⟩ := grCs_get r i q h
    have key : ∀ m, (grCs (p :: r))[m + 3]? = (grCs r)[m]? := fun m => rfl
    refine ⟨?_, ?_, ?_⟩
    · rw [show (i + 1) * 3 = i * 3 + 3 by omega, key]; exact h1
    · rw [show (i + 1) * 3 + 1 = i * 3 + 1 + 3 by omega, key]; exact h2
    · rw [show (i + 1) * 3 + 2 = i * 3 + 2 + 3 by omega, key]; exact h3
theorem grs_row {w : World} {B : Nat} {v : Value} {l : List GrA} (h : w.ownsRow B 33 3 v l.length (grCs l)) : GrsAt w v l := by
  obtain ⟨a, c, rfl⟩ := arow_len h
  refine ⟨a, c, rfl, fun i q hq => ?_⟩
  obtain ⟨h1, h2, h3⟩ := grCs_get l i q hq
  obtain ⟨g, e, hg, q1⟩ := arow_cell h h1
  refine ⟨g, 0, e, hg, ?_, ?_, ?_⟩
  · rw [Nat.zero_add]; exact q1
  · obtain ⟨g', e', _, q⟩ := arow_cell h h2; rw [e] at e'; cases e'; rw [Nat.zero_add]; exact q
  · obtain ⟨g', e', _, q⟩ := arow_cell h h3; rw [e] at e'; cases e'; rw [Nat.zero_add]; exact q
/-- A row's shape: what Set asks of it. -/
theorem grs_shape {w : World} {B : Nat} {v : Value} {l : List GrA} (h : w.ownsRow B 33 3 v l.length (grCs l)) : ∃ a cap, v = .slice a l.length cap ∧ (l.length ≤ cap ∧ cap ≤ 9223372036854775807) ∧ ((a = none ∧ l = [] ∧ cap = 0) ∨ ∃ b o, a = some ⟨b, o, none⟩) := by
  rcases h.2 with ⟨hv, h0⟩ | ⟨g, cap, cur, hv, _, _, hn, hc, _⟩
  · rw [hv]
    refine ⟨none, 0, by rw [h0], ⟨by omega, by omega⟩, .inl ⟨rfl, List.length_eq_zero_iff.1 h0, rfl⟩⟩
  · unfold maxLen at hc
    exact ⟨_, cap, hv, ⟨hn, hc⟩, .inr ⟨g, 0, rfl⟩⟩
/-- Set of a row that a call owns. -/
theorem aset_row {w : World} {B : Nat} {v : Value} {l : List GrA} (h : w.ownsRow B 33 3 v l.length (grCs l)) (hle : Lens l) (g : GrA) (hg : g.who.length ≤ 9223372036854775000) (hr : rightA l = true) (hf : fitsA g 0 = true) : Calls Try.prog 16 #[v, aggA g] w fun e w' => (if errA l g = 0 then ∃ v', e = .returned (.tuple #[v', .int .i64 0]) ∧ w'.ownsRow w.heap.size 33 3 v' (setL l g).length (grCs (setL l g)) else e = .returned (.tuple #[.slice none 0 0, .int .i64 (errA l g)])) ∧ Below w.heap.size w w' := by
  have h1 := grs_row h
  obtain ⟨a, cap, rfl, hc, hs⟩ := grs_shape h
  exact aset_ok l hle g hg a cap hc hs w h1 hr hf

theorem aset_good {w : World} {B : Nat} {v : Value} {l : List GrA} (h : w.ownsRow B 33 3 v l.length (grCs l)) (hle : Lens l) (g : GrA) (hg : g.who.length ≤ 9223372036854775000) (hr : rightA l = true) (hf : fitsA g 0 = true) (he : errA l g = 0) : Calls Try.prog 16 #[v, aggA g] w fun e w' => (∃ v', e = .returned (.tuple #[v', .int .i64 0]) ∧ w'.ownsRow w.heap.size 33 3 v' (setL l g).length (grCs (setL l g))) ∧ Below w.heap.size w w' := by
  refine (aset_row h hle g hg hr hf).mono ?_
  rintro e w' ⟨q, hb⟩
  rw [if_pos he] at q
  exact ⟨q, hb⟩
theorem aset_full {w : World} {B : Nat} {v : Value} {l : List GrA} (h : w.ownsRow B 33 3 v l.length (grCs l)) (hle : Lens l) (g : GrA) (hg : g.who.length ≤ 9223372036854775000) (hr : rightA l = true) (hf : fitsA g 0 = true) (he : errA l g = 11) : Calls Try.prog 16 #[v, aggA g] w fun e w' => e = .returned (.tuple #[.slice none 0 0, .int .i64 11]) ∧ Below w.heap.size w w' := by
  refine (aset_row h hle g hg hr hf).mono ?_
  rintro e w' ⟨q, hb⟩
  rw [if_neg (by rw [he]; decide), he] at q
  exact ⟨q, hb⟩

def gSh : GrA := ⟨[97], [98, 47, 120], 1⟩
set_option maxHeartbeats 4000000 in
set_option maxRecDepth 8000 in
theorem ashown_any (w : World) : Calls Try.prog 5 #[] w fun e w' => e = .returned (.bool true) ∧ Below w.heap.size w w' := by
  have hS := aset_good (w := w) (B := w.heap.size) (v := .slice none 0 0) (l := []) (World.ownsRow_nil _ _ _ _) (fun g hg => by cases hg) gSh (by decide) (by decide +kernel) (by decide +kernel) (by decide +kernel)
  rw [show setL [] gSh = [gSh] by rfl] at hS
  have HS : Hid (Calls Try.prog 16 #[.slice none 0 0, .agg #[.string ⟨#[97]⟩, .string ⟨#[98, 47, 120]⟩, .int .i64 1]] w fun e w' => (∃ v', e = .returned (.tuple #[v', .int .i64 0]) ∧ w'.ownsRow w.heap.size 33 3 v' 1 (grCs [gSh])) ∧ Below w.heap.size w w') := hS
  have HW : Hid (∀ u, Calls Try.prog 6 #[.string ⟨#[98, 47, 120]⟩] u fun e w' => e = .returned (.tuple #[.string ⟨#[98]⟩, .string ⟨#[120]⟩, .bool true]) ∧ Below u.heap.size u w') := fun u => by
    have := awho_any [98, 47, 120] (by decide) u
    rw [show whoT [98, 47, 120] = ([98], [120], true) by decide +kernel] at this
    exact this
  have hle : Lens [gSh] := fun g hg => by rw [List.mem_singleton.1 hg]; decide
  have hM : ∀ (o : StrA) (R : Int) (u : World) (v : Value), o.length ≤ 100 → mayA [gSh] [97] o = R → GrsAt u v [gSh] → Calls Try.prog 13 #[v, .string ⟨#[97]⟩, strA o] u fun e w' => e = .returned (.int .i64 R) ∧ Below u.heap.size u w' := fun o R u v ho hR hv => by
    have := amay_any [gSh] hle [97] o (by omega) v u hv
    rw [hR] at this
    exact this
  have M1 : Hid (∀ u v, GrsAt u v [gSh] → Calls Try.prog 13 #[v, .string ⟨#[97]⟩, .string ⟨#[98, 47, 120]⟩] u fun e w' => e = .returned (.int .i64 1) ∧ Below u.heap.size u w') := fun u v hv => hM [98, 47, 120] 1 u v (by decide) (by decide +kernel) hv
  have M2 : Hid (∀ u v, GrsAt u v [gSh] → Calls Try.prog 13 #[v, .string ⟨#[97]⟩, .string ⟨#[97, 47, 114, 111, 111, 116]⟩] u fun e w' => e = .returned (.int .i64 3) ∧ Below u.heap.size u w') := fun u v hv => hM [97, 47, 114, 111, 111, 116] 3 u v (by decide) (by decide +kernel) hv
  have M3 : Hid (∀ u v, GrsAt u v [gSh] → Calls Try.prog 13 #[v, .string ⟨#[97]⟩, .string ⟨#[97, 47, 120]⟩] u fun e w' => e = .returned (.int .i64 2) ∧ Below u.heap.size u w') := fun u v hv => hM [97, 47, 120] 2 u v (by decide) (by decide +kernel) hv
  have M4 : Hid (∀ u v, GrsAt u v [gSh] → Calls Try.prog 13 #[v, .string ⟨#[97]⟩, .string ⟨#[98, 47, 121]⟩] u fun e w' => e = .returned (.int .i64 0) ∧ Below u.heap.size u w') := fun u v hv => hM [98, 47, 121] 0 u v (by decide) (by decide +kernel) hv
  clear hS hM hle
  go_enter Try.func5, Try.ntmps5
  go_wp2_with (first
    | (go_at_call 16; refine Calls.mono HS.out ?_; rintro e u1 ⟨⟨v1, rfl, hr1⟩, hb1⟩; obtain ⟨a1, c1, hv1⟩ := arow_len hr1; subst hv1; have HB1 := (show Hid (Below w.heap.size w u1) from hb1); have HV1 := (show Hid (GrsAt u1 (.slice a1 1 c1) [gSh]) from grs_row (l := [gSh]) hr1); clear hb1 hr1)
    | (go_at_call 6; refine Calls.mono (HW.out _) ?_; rintro e u2 ⟨rfl, hb2⟩; have HB2 := (show Hid (Below w.heap.size w u2) from HB1.out.trans (hb2.mono HB1.out.size)); have HV2 := (show Hid (GrsAt u2 (.slice a1 1 c1) [gSh]) from HV1.out.below hb2); clear hb2)
    | (have := u5; go_at_call 13; refine Calls.mono (M4.out _ _ HV5.out) ?_; clear this; rintro e u6 ⟨rfl, hb⟩; have HB6 := (show Hid (Below w.heap.size w u6) from HB5.out.trans (hb.mono HB5.out.size)); have HV6 := (show Hid (GrsAt u6 (.slice a1 1 c1) [gSh]) from HV5.out.below hb); clear hb)
    | (have := u4; go_at_call 13; refine Calls.mono (M3.out _ _ HV4.out) ?_; clear this; rintro e u5 ⟨rfl, hb⟩; have HB5 := (show Hid (Below w.heap.size w u5) from HB4.out.trans (hb.mono HB4.out.size)); have HV5 := (show Hid (GrsAt u5 (.slice a1 1 c1) [gSh]) from HV4.out.below hb); clear hb)
    | (have := u3; go_at_call 13; refine Calls.mono (M2.out _ _ HV3.out) ?_; clear this; rintro e u4 ⟨rfl, hb⟩; have HB4 := (show Hid (Below w.heap.size w u4) from HB3.out.trans (hb.mono HB3.out.size)); have HV4 := (show Hid (GrsAt u4 (.slice a1 1 c1) [gSh]) from HV3.out.below hb); clear hb)
    | (go_at_call 13; refine Calls.mono (M1.out _ _ HV2.out) ?_; rintro e u3 ⟨rfl, hb⟩; have HB3 := (show Hid (Below w.heap.size w u3) from HB2.out.trans (hb.mono HB2.out.size)); have HV3 := (show Hid (GrsAt u3 (.slice a1 1 c1) [gSh]) from HV2.out.below hb); clear hb))
  go_ret
  exact ⟨rfl, HB6.out⟩
end Go.Proofs.Ytocfdpjclmieiaa
