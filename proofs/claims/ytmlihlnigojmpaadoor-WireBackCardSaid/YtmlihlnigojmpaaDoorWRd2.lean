/- Reading the nodes of a letter: walked. -/
import Derived.Test.YtmlihlnigojmpaaDoorWRd1
import Derived.Maps.AppendAt
import Derived.Deep.CutBlock
import Derived.Deep.CutRange
set_option linter.unusedVariables false
namespace Go.Proofs.YtmlihlnigojmpaaDoor
open Go.RowKit

def rNs (L : List UInt8) : Nat → Nat → Except Nat (List Nat × Nat)
  | 0, p => .ok ([], p)
  | n + 1, p => match rN L 5 p with
    | .error q => .error q
    | .ok (z, p1) => match rNs L n p1 with
      | .error q => .error q
      | .ok (zs, p2) => .ok (z :: zs, p2)
def rNodes (L : List UInt8) (p : Nat) : Except Nat (List Nat × Nat) :=
  match rN L 5 p with
  | .error q => .error q
  | .ok (n, p1) => rNs L n p1
/-- What was read ahead, and what is read on. -/
def pre {α : Type} (acc : List α) (X : Except Nat (List α × Nat)) : Except Nat (List α × Nat) :=
  match X with
  | .error q => .error q
  | .ok (r, p) => .ok (acc ++ r, p)
theorem pre_nil {α : Type} (X : Except Nat (List α × Nat)) : pre [] X = X := by
  cases X with
  | error q => rfl
  | ok x => rfl
theorem rNs_error {L : List UInt8} {n p q : Nat} (h : rN L 5 p = .error q) : rNs L (n + 1) p = .error q := by simp only [rNs, h]
theorem rNs_ok {L : List UInt8} {n p z p1 : Nat} (h : rN L 5 p = .ok (z, p1)) (acc : List Nat) : pre acc (rNs L (n + 1) p) = pre (acc ++ [z]) (rNs L n p1) := by
  simp only [rNs, h]
  cases rNs L n p1 with
  | error q => rfl
  | ok x => simp [pre]

abbrev iV (z : Nat) : Value := .int .i64 (z : Int)
/-- A row of numbers of one's own. -/
abbrev OwnN (w : World) (B : Nat) (v : Value) (l : List Nat) : Prop := w.ownsRow B 3 1 v l.length (l.map iV)
theorem ownN_keep {w w' : World} {B : Nat} {v : Value} {l : List Nat} {S : Nat → Prop} (h : OwnN w B v l) (hf : Fx S w w') (hs : ∀ k, S k → k < B) : OwnN w' B v l := by
  refine ⟨h.1, ?_⟩
  rcases h.2 with hn | ⟨g, cap, cur, hv, hB, hg, rest⟩
  · exact .inl hn
  · exact .inr ⟨g, cap, cur, hv, hB, (hf.block (Array.getElem?_eq_some_iff.1 hg).1 (fun hS => by have := hs g hS; omega)).trans hg, rest⟩
theorem ownN_lower {w : World} {B B' : Nat} {v : Value} {l : List Nat} (h : OwnN w B v l) (hB : B' ≤ B) : OwnN w B' v l := by
  refine ⟨h.1, ?_⟩
  rcases h.2 with hn | ⟨g, cap, cur, hv, h1, rest⟩
  · exact .inl hn
  · exact .inr ⟨g, cap, cur, hv, Nat.le_trans hB h1, rest⟩
theorem ownN_slice {w : World} {B : Nat} {v : Value} {l : List Nat} (h : OwnN w B v l) : ∃ a c, v = .slice a l.length c := by
  rcases h.2 with ⟨h1, h2⟩ | ⟨g, cap, cur, hv, _⟩
  · exact ⟨none, 0, by rw [h1, h2]⟩
  · exact ⟨_, _, hv⟩
theorem infoI : (Tryd.prog.info? 3).map (fun i => (i.zero, i.size, i.bytes)) = some (some (.int .i64 0), 1, 8) := by kernel_rfl
theorem wpList_appN {w : World} {B : Nat} {v : Value} {l : List Nat} (hown : OwnN w B v l) {ops : Array Oper} {rest : List Oper} {o : Oper} {a : Act} {Q : Exit → Act → World → Prop} (hgd : o.guard = none) (s x : Operand)
    (ho : o.op = .call { callee := .builtin .append, args := #[s, x], argTypes := #[23, 23] })
    (hs : a.eval s = v) (ad : Addr) (c : Nat) (z : Nat) (hx : a.eval x = .slice (some ad) 1 c) (hz : w.cell? ad = some (iV z)) (hl : l.length + 1 ≤ 1048577) (hB : B ≤ w.heap.size)
    (h : ∀ v' w', OwnN w' B v' (l ++ [z]) → Fx (fun k => v.ownBlock = some k) w w' → wpList Tryd.prog ops Q rest (a.put o.dst v') w') :
    wpList Tryd.prog ops Q (o :: rest) a w := by
  obtain ⟨i0, hi, hz0, hz1, hz2⟩ := info_parts infoI
  refine wpList_append_own_at w hgd s x 23 ho B 3 i0 (.int .i64 0) 1 8 Tryd.underlying23 hi hz0 hz1 hz2 rfl (by decide) v l.length (l.map iV) hs hown ad 1 c [iV z] hx rfl ?_ (by intro u hu; simp at hu; rw [hu]; rfl) (by unfold maxLen; omega) (by omega) hB ?_
  · intro j u hj
    have hj0 : j = 0 := by
      have := (List.getElem?_eq_some_iff.1 hj).1
      simpa using this
    subst hj0
    simp at hj
    rw [← hj, Addr.add_zero']
    exact hz
  · intro v' w' h1 h2 _ h4
    refine h v' w' ?_ (Fx.of_grown h2 (fun k hk => hk))
    have e1 : (l ++ [z]).length = l.length + 1 := by simp
    have e2 : (l ++ [z]).map iV = l.map iV ++ [iV z] := by simp
    show w'.ownsRow B 3 1 v' (l ++ [z]).length ((l ++ [z]).map iV)
    rw [e1, e2]
    exact h1

set_option maxHeartbeats 8000000 in
set_option maxRecDepth 40000 in
theorem rnodes {w0 : World} {a : Option Addr} {len cap b : Nat} {L : List UInt8} (hs : Src w0 a len cap L) {w : World} {p : Nat} (h : RdS w0 a len cap b w p) :
    Calls Tryd.prog 81 #[rptr b] w (Got w0 a len cap b (fun k => k = b) w (rNodes L p) (fun ns v w' => OwnN w' w.heap.size v ns ∧ ns.length ≤ 5)) := by
  obtain ⟨R, hR⟩ : ∃ R, rNodes L p = R := ⟨_, rfl⟩
  rw [hR]
  have hN := rnum hs h 5 (by omega)
  have HL : Hid (L.length = len) := hs.row.1
  have Hs : Hid (Src w0 a len cap L) := hs
  have HR0 : Hid (RdS w0 a len cap b w p) := h
  cases hX : rN L 5 p with
  | error q =>
    have HE : Hid (R = .error q) := by show R = _; rw [← hR]; unfold rNodes; rw [hX]
    have HN : Hid (Calls Tryd.prog 56 #[rptr b, .int .i64 5] w fun e w' => e = gaveUp q ∧ Fx (fun k => k = b) w w') := hN.mono fun e w' hg => hg.error hX
    clear hN hX hR h hs
    go_enter Tryd.func81, Tryd.ntmps81
    go_wp2_with (fail)
    refine HN.out.mono ?_
    rintro e w1 ⟨rfl, hf⟩
    have HF : Hid (Fx (fun k => k = b) w w1) := hf
    clear HN hf
    go_wp2
    rw [HE.out]
    exact ⟨rfl, HF.out, rfl⟩
  | ok x =>
    obtain ⟨n, p1⟩ := x
    have hn5 := (rN_le hX (by rw [hs.row.1]; exact h.hp)).1
    have HE : Hid (pre [] (rNs L n p1) = R) := by show _ = R; rw [← hR, pre_nil]; unfold rNodes; rw [hX]
    have HN : Hid (Calls Tryd.prog 56 #[rptr b, .int .i64 5] w fun e w' => e = .returned (.int .i64 (n : Int)) ∧ RdS w0 a len cap b w' p1 ∧ Fx (fun k => k = b) w w') := hN.mono fun e w' hg => by
      obtain ⟨v, h1, h2, h3, h4⟩ := hg.ok hX
      exact ⟨by rw [h1, h2], h3, h4⟩
    have bn : (n : Int) ≤ 5 := by omega
    clear hN hX hR h hs
    go_enter Tryd.func81, Tryd.ntmps81
    go_wp2_with (fail)
    refine HN.out.mono ?_
    rintro e w1 ⟨rfl, hr1, hf1⟩
    have HU1 : Hid (RdS w0 a len cap b w1 p1 ∧ Fx (fun k => k = b) w w1) := ⟨hr1, hf1⟩
    clear HN hr1 hf1
    go_wp2_with (fail)
    go_loopw [3, 6] (fun u i wr => ∃ (vv : Value) (acc : List Nat) (j q : Nat), vv = u ∧ i = .int .i64 (j : Int) ∧ j ≤ n ∧ Hid (OwnN wr w.heap.size vv acc ∧ acc.length = j ∧ Fx (fun k => k = b) w wr ∧ RdS w0 a len cap b wr q) ∧ Hid (pre acc (rNs L (n - j) q) = R)) (fun _ i _ => n - (intOf i).toNat)
    case atStart => exact ⟨_, [], 0, p1, rfl, rfl, Nat.zero_le _, ⟨World.ownsRow_nil _ _ _ _, rfl, HU1.out.2, HU1.out.1⟩, HE.out⟩
    case round =>
      obtain ⟨vv, acc, j, q, hv, rfl, hj, HU, HG⟩ := hrel
      subst hv
      clear HU1 HE
      by_cases hlt : j < n
      · have hN := rnum Hs.out HU.out.2.2.2 5 (by omega)
        have hnj : n - j = (n - (j + 1)) + 1 := by omega
        cases hX : rN L 5 q with
        | error q2 =>
          have HE : Hid (R = .error q2) := by
            show R = _
            rw [← HG.out, hnj, rNs_error hX]
            rfl
          have HN : Hid (Calls Tryd.prog 56 #[rptr b, .int .i64 5] wr fun e w' => e = gaveUp q2 ∧ Fx (fun k => k = b) w w') := hN.mono fun e w' hg => by
            obtain ⟨h1, h2⟩ := hg.error hX
            exact ⟨h1, HU.out.2.2.1.trans h2⟩
          clear hN hX HG HU
          go_wp2_with (fail)
          refine HN.out.mono ?_
          rintro e w2 ⟨rfl, hf⟩
          have HF : Hid (Fx (fun k => k = b) w w2) := hf
          clear HN hf
          go_wp2
          rw [HE.out]
          exact ⟨rfl, HF.out, rfl⟩
        | ok x =>
          obtain ⟨z, q2⟩ := x
          have HE : Hid (pre (acc ++ [z]) (rNs L (n - (j + 1)) q2) = R) := by
            show _ = R
            rw [← HG.out, hnj, rNs_ok hX]
          have HN : Hid (Calls Tryd.prog 56 #[rptr b, .int .i64 5] wr fun e w' => e = .returned (.int .i64 (z : Int)) ∧ RdS w0 a len cap b w' q2 ∧ Fx (fun k => k = b) wr w') := hN.mono fun e w' hg => by
            obtain ⟨v, h1, h2, h3, h4⟩ := hg.ok hX
            exact ⟨by rw [h1, h2], h3, h4⟩
          clear hN hX HG
          go_wp2_with (fail)
          refine HN.out.mono ?_
          rintro e w2 ⟨rfl, hr2, hf2⟩
          have hbw : b < w.heap.size := HR0.out.lt
          have hown2 : OwnN w2 w.heap.size vv acc := ownN_keep HU.out.1 hf2 (fun k hk => by omega)
          have hfw : Fx (fun k => k = b) w w2 := HU.out.2.2.1.trans hf2
          have HOW : Hid (∀ o, OwnN (w2.alloc o) w.heap.size vv acc ∧ Fx (fun k => k = b) w (w2.alloc o) ∧ RdS w0 a len cap b (w2.alloc o) q2 ∧ w.heap.size ≤ (w2.alloc o).heap.size ∧ acc.length = j) := fun o => by
            have ha : Fx (fun k => False) w2 (w2.alloc o) := (Fx.refl _ w2).alloc o
            exact ⟨ownN_keep hown2 ha (fun k hk => hk.elim), hfw.alloc o, hr2.keep ha (fun k hk => hk.elim) (fun hk => hk), (hfw.alloc o).size, HU.out.2.1⟩
          have HBW : Hid (b < w.heap.size) := hbw
          clear HN hr2 hf2 hown2 hfw hbw HU
          go_wp2_with (at_builtin; refine wpList_appN (HOW.out _).1 rfl _ _ rfl rfl ⟨w2.heap.size, 0, none⟩ _ z rfl ?c1 ?c2 ?c3 ?_)
          case c1 => exact pcell (heap_alloc_new _ _) rfl
          case c2 => have := (HOW.out (.cells #[] 3)).2.2.2.2; omega
          case c3 => exact (HOW.out _).2.2.2.1
          intro v' w3 hown3 hf3
          have hlt2 : ∀ k, vv.ownBlock = some k → w.heap.size ≤ k := fun k hk => ((HOW.out (.cells #[iV z] 3)).1.lt k hk).1
          have HU3 : Hid (OwnN w3 w.heap.size v' (acc ++ [z]) ∧ (acc ++ [z]).length = j + 1 ∧ Fx (fun k => k = b) w w3 ∧ RdS w0 a len cap b w3 q2) := by
            have hq := HOW.out (.cells #[iV z] 3)
            refine ⟨hown3, by rw [List.length_append, hq.2.2.2.2]; rfl, ?_, ?_⟩
            · refine ⟨hf3.1.trans hq.2.1.1, hf3.2.1.trans hq.2.1.2.1, hf3.2.2.1.trans hq.2.1.2.2.1, Nat.le_trans hq.2.1.size hf3.size, fun k hk hn => ?_⟩
              exact (hf3.block (Nat.lt_of_lt_of_le hk hq.2.1.size) (fun hS => by have := hlt2 k hS; omega)).trans (hq.2.1.block hk hn)
            · have hge := hq.2.2.1.below.size
              have hw0 : w0.heap.size ≤ w.heap.size := HR0.out.below.size
              exact hq.2.2.1.keep hf3 (fun k hk => Nat.le_trans hw0 (hlt2 k hk)) (fun hS => by have := hlt2 b hS; have := HBW.out; omega)
          clear hown3 hf3 hlt2 HOW HBW
          go_wp2
          go_roundw
          case rel => exact ⟨v', acc ++ [z], j + 1, q2, rfl, by first | rfl | go_num, by omega, HU3, HE⟩
          case measure => simp [intOf]; omega
      · have hjn : j = n := by omega
        subst hjn
        have HE : Hid (R = .ok (acc, q)) := by
          show R = _
          rw [← HG.out, Nat.sub_self]
          simp [rNs, pre]
        have HU4 : Hid (OwnN wr w.heap.size vv acc ∧ acc.length ≤ 5 ∧ Fx (fun k => k = b) w wr ∧ RdS w0 a len cap b wr q) := ⟨HU.out.1, by have := HU.out.2.1; omega, HU.out.2.2⟩
        clear HG HU
        go_wp2
        go_ret
        rw [HE.out]
        exact ⟨HU4.out.2.2.1, _, rfl, ⟨HU4.out.1, HU4.out.2.1⟩, HU4.out.2.2.2⟩
end Go.Proofs.YtmlihlnigojmpaaDoor
