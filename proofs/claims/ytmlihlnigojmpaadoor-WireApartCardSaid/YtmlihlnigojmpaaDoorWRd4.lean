/- Reading the entries of a letter: walked. -/
import Derived.Test.YtmlihlnigojmpaaDoorWRd3
set_option linter.unusedVariables false
namespace Go.Proofs.YtmlihlnigojmpaaDoor
open Go.RowKit

def rEs (L : List UInt8) : Nat → Int → Nat → Except Nat (List En × Nat)
  | 0, _, p => .ok ([], p)
  | n + 1, i, p => match rE L (i + 1) p with
    | .error q => .error q
    | .ok (e, p1) => match rEs L n (i + 1) p1 with
      | .error q => .error q
      | .ok (es, p2) => .ok (e :: es, p2)
def rEntries (L : List UInt8) (i : Int) (p : Nat) : Except Nat (List En × Nat) :=
  match rN L 4 p with
  | .error q => .error q
  | .ok (n, p1) => rEs L n i p1
theorem rEs_error {L : List UInt8} {n p q : Nat} {i : Int} (h : rE L (i + 1) p = .error q) : rEs L (n + 1) i p = .error q := by simp only [rEs, h]
theorem rEs_ok {L : List UInt8} {n p p1 : Nat} {i : Int} {e : En} (h : rE L (i + 1) p = .ok (e, p1)) (acc : List En) : pre acc (rEs L (n + 1) i p) = pre (acc ++ [e]) (rEs L n (i + 1) p1) := by
  simp only [rEs, h]
  cases rEs L n (i + 1) p1 with
  | error q => rfl
  | ok x => simp [pre]

/-- An entry, and where its rows lie. -/
structure EnP where
  e : En
  da : Option Addr
  dc : Nat
  na : Option Addr
  nc : Nat
def EnP.cells (x : EnP) : List Value := [.int .i64 x.e.idx, .int .i64 x.e.term, .int .i64 x.e.kind, .slice x.da x.e.data.length x.dc, .slice x.na x.e.nodes.length x.nc]
def flatE (xs : List EnP) : List Value := xs.flatMap EnP.cells
theorem flatE_len (xs : List EnP) : (flatE xs).length = xs.length * 5 := by
  induction xs with
  | nil => rfl
  | cons x r ih =>
    show (x.cells ++ flatE r).length = (x :: r).length * 5
    rw [List.length_append, ih, List.length_cons, show x.cells.length = 5 from rfl]
    omega
theorem flatE_get : ∀ (xs : List EnP) (j : Nat) (x : EnP) (q : Nat), xs[j]? = some x → q < 5 → (flatE xs)[j * 5 + q]? = x.cells[q]?
  | [], j, x, q, h, _ => by simp at h
  | y :: r, 0, x, q, h, hq => by
    simp at h
    subst h
    show (y.cells ++ flatE r)[0 * 5 + q]? = _
    rw [Nat.zero_mul, Nat.zero_add, List.getElem?_append_left (by show q < 5; exact hq)]
  | y :: r, j + 1, x, q, h, hq => by
    have h2 : r[j]? = some x := by simpa using h
    show (y.cells ++ flatE r)[(j + 1) * 5 + q]? = _
    have h5 : y.cells.length = 5 := rfl
    rw [List.getElem?_append_right (by rw [h5]; omega), h5, show (j + 1) * 5 + q - 5 = j * 5 + q by omega]
    exact flatE_get r j x q h2 hq
/-- Entries of one's own. -/
def OwnE (w : World) (B : Nat) (v : Value) (xs : List EnP) : Prop := w.ownsRow B 45 5 v xs.length (flatE xs) ∧ ∀ x ∈ xs, EntK w B x.e x.da x.dc x.na
theorem OwnE.keep {w w' : World} {B : Nat} {v : Value} {xs : List EnP} {S : Nat → Prop} (h : OwnE w B v xs) (hf : Fx S w w') (hs : ∀ k, S k → k < B) : OwnE w' B v xs := by
  refine ⟨⟨h.1.1, ?_⟩, fun x hx => (h.2 x hx).keep hf hs⟩
  rcases h.1.2 with hn | ⟨g, cap, cur, hv, hB, hg, rest⟩
  · exact .inl hn
  · exact .inr ⟨g, cap, cur, hv, hB, (hf.block (Array.getElem?_eq_some_iff.1 hg).1 (fun hS => by have := hs g hS; omega)).trans hg, rest⟩
theorem OwnE.lower {w : World} {B B' : Nat} {v : Value} {xs : List EnP} (h : OwnE w B v xs) (hB : B' ≤ B) : OwnE w B' v xs := by
  refine ⟨⟨h.1.1, ?_⟩, fun x hx => (h.2 x hx).lower hB⟩
  rcases h.1.2 with hn | ⟨g, cap, cur, hv, h1, rest⟩
  · exact .inl hn
  · exact .inr ⟨g, cap, cur, hv, Nat.le_trans hB h1, rest⟩
theorem OwnE.slice {w : World} {B : Nat} {v : Value} {xs : List EnP} (h : OwnE w B v xs) : ∃ a c, v = .slice a xs.length c := by
  rcases h.1.2 with ⟨h1, h2⟩ | ⟨g, cap, cur, hv, _⟩
  · exact ⟨none, 0, by rw [h1, h2]⟩
  · exact ⟨_, _, hv⟩
theorem infoE : (Tryd.prog.info? 45).map (fun i => (i.zero, i.size, i.bytes)) = some (some (.agg #[.int .i64 0, .int .i64 0, .int .i64 0, .slice none 0 0, .slice none 0 0]), 5, 72) := by kernel_rfl
theorem wpList_appE {w : World} {B : Nat} {v : Value} {xs : List EnP} (hown : OwnE w B v xs) {ops : Array Oper} {rest : List Oper} {o : Oper} {a : Act} {Q : Exit → Act → World → Prop} (hgd : o.guard = none) (s x : Operand)
    (ho : o.op = .call { callee := .builtin .append, args := #[s, x], argTypes := #[22, 22] })
    (hs : a.eval s = v) (g c : Nat) (y : EnP) (hx : a.eval x = .slice (some ⟨g, 0, none⟩) 1 c) (hz : w.heap[g]? = some (.cells #[.int .i64 y.e.idx, .int .i64 y.e.term, .int .i64 y.e.kind, .slice y.da y.e.data.length y.dc, .slice y.na y.e.nodes.length y.nc] 45 (0, 0))) (hl : xs.length + 1 ≤ 1048577) (hB : B ≤ w.heap.size)
    (h : ∀ v' w', w'.ownsRow B 45 5 v' (xs ++ [y]).length (flatE (xs ++ [y])) → Fx (fun k => v.ownBlock = some k) w w' → (v'.ownBlock = v.ownBlock ∨ v'.ownBlock = some w.heap.size) → wpList Tryd.prog ops Q rest (a.put o.dst v') w') :
    wpList Tryd.prog ops Q (o :: rest) a w := by
  obtain ⟨i0, hi, hz0, hz1, hz2⟩ := info_parts infoE
  refine wpList_append_own_at w hgd s x 22 ho B 45 i0 (.agg #[.int .i64 0, .int .i64 0, .int .i64 0, .slice none 0 0, .slice none 0 0]) 5 72 Tryd.underlying22 hi hz0 hz1 hz2 rfl (by decide) v xs.length (flatE xs) hs hown.1 ⟨g, 0, none⟩ 1 c y.cells hx rfl ?_ ?_ (by unfold maxLen; omega) (by omega) hB ?_
  · intro j u hj
    have hj5 : j < 5 := (List.getElem?_eq_some_iff.1 hj).1
    rw [show ((⟨g, 0, none⟩ : Addr).add j) = ⟨g, j, none⟩ from by unfold Addr.add; split <;> simp_all]
    refine pcell hz ?_
    have : (#[.int .i64 y.e.idx, .int .i64 y.e.term, .int .i64 y.e.kind, .slice y.da y.e.data.length y.dc, .slice y.na y.e.nodes.length y.nc] : Array Value)[j]? = y.cells[j]? := by
      unfold EnP.cells
      simp
    rw [this]
    exact hj
  · intro u hu
    unfold EnP.cells at hu
    simp at hu
    rcases hu with rfl | rfl | rfl | rfl | rfl <;> rfl
  · intro v' w' h1 h2 _ h4
    refine h v' w' ?_ (Fx.of_grown h2 (fun k hk => hk)) h4
    have e1 : (xs ++ [y]).length = xs.length + 1 := by simp
    have e2 : flatE (xs ++ [y]) = flatE xs ++ y.cells := by simp [flatE]
    rw [e1, e2]
    exact h1
/-- An entry's rows do not lie in this block. -/
def RowNe (x : EnP) (g : Nat) : Prop := (x.e.data ≠ [] → ∀ a, x.da = some a → a.block ≠ g) ∧ (x.e.nodes ≠ [] → ∀ a, x.na = some a → a.block ≠ g)
theorem NewB.keepNe {w w' : World} {K c : Nat} {a : Option Addr} {l : List UInt8} {S : Nat → Prop} (h : NewB w K a c l) (hf : Fx S w w') (hs : l ≠ [] → ∀ x, a = some x → ¬ S x.block) : NewB w' K a c l := by
  refine ⟨⟨h.1.1, ?_⟩, h.2.1, h.2.2⟩
  rcases h.1.2 with h2 | ⟨x, h2, hc⟩
  · exact .inl h2
  · refine .inr ⟨x, h2, fun j hj => cell_fx hf (hc j hj) (fun hS => ?_)⟩
    rw [add_block] at hS
    exact hs (fun e => by rw [e] at hj; simp at hj) x h2 hS
theorem NewN.keepNe {w w' : World} {K : Nat} {a : Option Addr} {l : List Int} {S : Nat → Prop} (h : NewN w K a l) (hf : Fx S w w') (hs : l ≠ [] → ∀ x, a = some x → ¬ S x.block) : NewN w' K a l := by
  refine ⟨fun j z hj => ?_, h.2⟩
  obtain ⟨g, o, h1, h2⟩ := h.1 j z hj
  exact ⟨g, o, h1, cell_fx hf h2 (fun hS => hs (fun e => by rw [e] at hj; simp at hj) _ h1 hS)⟩
theorem EntK.keepNe {w w' : World} {K : Nat} {x : EnP} {S : Nat → Prop} (h : EntK w K x.e x.da x.dc x.na) (hf : Fx S w w') (hs : ∀ g, S g → RowNe x g) : EntK w' K x.e x.da x.dc x.na :=
  ⟨h.da.keepNe hf (fun hn a ha hS => (hs _ hS).1 hn a ha rfl), h.na.keepNe hf (fun hn a ha hS => (hs _ hS).2 hn a ha rfl), h.dl, h.nl, h.rt, h.rk, h.ri⟩
/-- A block that is new has no entry's rows. -/
theorem EntK.ne {w : World} {K : Nat} {x : EnP} (h : EntK w K x.e x.da x.dc x.na) {g : Nat} (hg : w.heap.size ≤ g) : RowNe x g := by
  refine ⟨fun hn a ha e => ?_, fun hn a ha e => ?_⟩
  · rcases h.da.1.2 with ⟨h2, _⟩ | ⟨y, h2, hc⟩
    · rw [ha] at h2; cases h2
    · rw [ha] at h2
      cases h2
      have := World.block_lt_of_cell? w _ (hc 0 (List.length_pos_iff.2 hn))
      rw [add_block] at this
      omega
  · obtain ⟨z, hz⟩ : ∃ z, x.e.nodes[0]? = some z := ⟨x.e.nodes[0]'(List.length_pos_iff.2 hn), List.getElem?_eq_getElem _⟩
    obtain ⟨g', o, h1, h2⟩ := h.na.1 0 z hz
    rw [ha] at h1
    cases h1
    have := World.block_lt_of_cell? w _ h2
    simp at this e
    omega
/-- An old block has none either. -/
theorem EntK.ne_old {w : World} {K : Nat} {x : EnP} (h : EntK w K x.e x.da x.dc x.na) {g : Nat} (hg : g < K) : RowNe x g :=
  ⟨fun _ a ha e => by have := h.da.2.2 a ha; omega, fun _ a ha e => by have := h.na.2 a ha; omega⟩

set_option maxHeartbeats 8000000 in
set_option maxRecDepth 40000 in
theorem rentries {w0 : World} {a : Option Addr} {len cap b : Nat} {L : List UInt8} (hs : Src w0 a len cap L) {w : World} {p : Nat} (h : RdS w0 a len cap b w p) (i : Nat) (hi : i ≤ 999999) :
    Calls Tryd.prog 73 #[rptr b, .int .i64 (i : Int)] w (Got w0 a len cap b (fun k => k = b) w (rEntries L (i : Int) p) (fun es v w' => ∃ xs, xs.map EnP.e = es ∧ OwnE w' w.heap.size v xs ∧ xs.length ≤ 4)) := by
  obtain ⟨R, hR⟩ : ∃ R, rEntries L (i : Int) p = R := ⟨_, rfl⟩
  rw [hR]
  have hN := rnum hs h 4 (by omega)
  have Hs : Hid (Src w0 a len cap L) := hs
  have HR0 : Hid (RdS w0 a len cap b w p) := h
  have bi : (i : Int) ≤ 999999 := by omega
  cases hX : rN L 4 p with
  | error q =>
    have HE : Hid (R = .error q) := by show R = _; rw [← hR]; unfold rEntries; rw [hX]
    have HN : Hid (Calls Tryd.prog 56 #[rptr b, .int .i64 4] w fun e w' => e = gaveUp q ∧ Fx (fun k => k = b) w w') := hN.mono fun e w' hg => hg.error hX
    clear hN hX hR h hs
    go_enter Tryd.func73, Tryd.ntmps73
    go_wp2_with (fail)
    refine HN.out.mono ?_
    rintro e w1 ⟨rfl, hf⟩
    have HF : Hid (Fx (fun k => k = b) w w1) := hf
    clear HN hf
    go_wp2
    rw [HE.out]
    exact ⟨rfl, HF.out, rfl⟩
  | ok x =>
    obtain ⟨n, p1⟩ := x
    have hn4 := (rN_le hX (by rw [hs.row.1]; exact h.hp)).1
    have HE : Hid (pre [] (rEs L n (i : Int) p1) = R) := by show _ = R; rw [← hR, pre_nil]; unfold rEntries; rw [hX]
    have HN : Hid (Calls Tryd.prog 56 #[rptr b, .int .i64 4] w fun e w' => e = .returned (.int .i64 (n : Int)) ∧ RdS w0 a len cap b w' p1 ∧ Fx (fun k => k = b) w w') := hN.mono fun e w' hg => by
      obtain ⟨v, h1, h2, h3, h4⟩ := hg.ok hX
      exact ⟨by rw [h1, h2], h3, h4⟩
    have bn : (n : Int) ≤ 4 := by omega
    clear hN hX hR h hs hi
    go_enter Tryd.func73, Tryd.ntmps73
    go_wp2_with (fail)
    refine HN.out.mono ?_
    rintro e w1 ⟨rfl, hr1, hf1⟩
    have HU1 : Hid (RdS w0 a len cap b w1 p1 ∧ Fx (fun k => k = b) w w1) := ⟨hr1, hf1⟩
    clear HN hr1 hf1
    go_wp2_with (fail)
    go_loopw [1, 5, 8] (fun ix u iv wr => ∃ (vv : Value) (xs : List EnP) (j q : Nat), vv = u ∧ ix = .int .i64 ((i : Int) + (j : Int)) ∧ iv = .int .i64 (j : Int) ∧ j ≤ n ∧ Hid (OwnE wr w.heap.size vv xs ∧ xs.length = j ∧ Fx (fun k => k = b) w wr ∧ RdS w0 a len cap b wr q ∧ ∀ x ∈ xs, ∀ g, vv.ownBlock = some g → RowNe x g) ∧ Hid (pre (xs.map EnP.e) (rEs L (n - j) ((i : Int) + (j : Int)) q) = R)) (fun _ _ iv _ => n - (intOf iv).toNat)
    case atStart => exact ⟨_, [], 0, p1, rfl, by simp, rfl, Nat.zero_le _, ⟨⟨World.ownsRow_nil _ _ _ _, fun x hx => by cases hx⟩, rfl, HU1.out.2, HU1.out.1, fun x hx => by cases hx⟩, by simpa [Hid] using HE.out⟩
    case round =>
      obtain ⟨vv, xs, j, q, hv, rfl, rfl, hj, HU, HG⟩ := hrel
      subst hv
      clear HU1 HE
      by_cases hlt : j < n
      · have hN := rentry Hs.out HU.out.2.2.2.1 ((i : Int) + (j : Int) + 1) (by omega)
        have hnj : n - j = (n - (j + 1)) + 1 := by omega
        have bj : (j : Int) < (n : Int) := by omega
        have e1 : (i : Int) + ((j + 1 : Nat) : Int) = (i : Int) + (j : Int) + 1 := by omega
        cases hX : rE L ((i : Int) + (j : Int) + 1) q with
        | error q2 =>
          have HE : Hid (R = .error q2) := by
            show R = _
            rw [← HG.out, hnj, rEs_error hX]
            rfl
          have HN : Hid (Calls Tryd.prog 80 #[rptr b, .int .i64 ((i : Int) + (j : Int) + 1)] wr fun e w' => e = gaveUp q2 ∧ Fx (fun k => k = b) w w') := hN.mono fun e w' hg => by
            obtain ⟨h1, h2⟩ := hg.error hX
            exact ⟨h1, HU.out.2.2.1.trans h2⟩
          clear hN hX HG HU e1
          go_wp2_with (fail)
          refine HN.out.mono ?_
          rintro e w2 ⟨rfl, hf⟩
          have HF : Hid (Fx (fun k => k = b) w w2) := hf
          clear HN hf
          go_wp2
          rw [HE.out]
          exact ⟨rfl, HF.out, rfl⟩
        | ok x =>
          obtain ⟨z, q2⟩ := x
          have HE : Hid (pre (xs.map EnP.e ++ [z]) (rEs L (n - (j + 1)) ((i : Int) + ((j + 1 : Nat) : Int)) q2) = R) := by
            show _ = R
            rw [← HG.out, hnj, rEs_ok hX, e1]
          have HN : Hid (Calls Tryd.prog 80 #[rptr b, .int .i64 ((i : Int) + (j : Int) + 1)] wr fun e w' => ∃ y : EnP, y.e = z ∧ e = .returned (.agg #[.int .i64 y.e.idx, .int .i64 y.e.term, .int .i64 y.e.kind, .slice y.da y.e.data.length y.dc, .slice y.na y.e.nodes.length y.nc]) ∧ EntK w' wr.heap.size y.e y.da y.dc y.na ∧ RdS w0 a len cap b w' q2 ∧ Fx (fun k => k = b) wr w') := hN.mono fun e w' hg => by
            obtain ⟨v, h1, ⟨da, dc, na, nc, h2, h5, h6⟩, h3, h4⟩ := hg.ok hX
            exact ⟨⟨z, da, dc, na, nc⟩, rfl, by rw [h1, h2], h5, h3, h4⟩
          clear hN hX HG e1
          go_wp2_with (fail)
          refine HN.out.mono ?_
          rintro e w2 ⟨y, hyz, rfl, hek, hr2, hf2⟩
          have hbw : b < w.heap.size := HR0.out.lt
          have hown2 : OwnE w2 w.heap.size vv xs := HU.out.1.keep hf2 (fun k hk => by omega)
          have hfw : Fx (fun k => k = b) w w2 := HU.out.2.2.1.trans hf2
          have hlt2 : ∀ k, vv.ownBlock = some k → w.heap.size ≤ k ∧ k < wr.heap.size := fun k hk => HU.out.1.1.lt k hk
          obtain ⟨w3, hw3⟩ : ∃ w3, w3 = w2.alloc (.cells #[.int .i64 y.e.idx, .int .i64 y.e.term, .int .i64 y.e.kind, .slice y.da y.e.data.length y.dc, .slice y.na y.e.nodes.length y.nc] 45) := ⟨_, rfl⟩
          have hk3 : w3.heap[w2.heap.size]? = some (.cells #[.int .i64 y.e.idx, .int .i64 y.e.term, .int .i64 y.e.kind, .slice y.da y.e.data.length y.dc, .slice y.na y.e.nodes.length y.nc] 45 (0, 0)) := by rw [hw3]; exact heap_alloc_new _ _
          have ha3 : Fx (fun k => False) w2 w3 := by rw [hw3]; exact (Fx.refl _ w2).alloc _
          have hfw3 : Fx (fun k => k = b) w w3 := hfw.trans (ha3.imp (fun k _ hk => hk.elim))
          have hown3 : OwnE w3 w.heap.size vv xs := hown2.keep ha3 (fun k hk => hk.elim)
          have hek3 : EntK w3 wr.heap.size y.e y.da y.dc y.na := hek.keep ha3 (fun k hk => hk.elim)
          have hr3 : RdS w0 a len cap b w3 q2 := hr2.keep ha3 (fun k hk => hk.elim) (fun hk => hk)
          have HV : Hid (OwnE w3 w.heap.size vv xs ∧ EntK w3 wr.heap.size y.e y.da y.dc y.na ∧ RdS w0 a len cap b w3 q2 ∧ Fx (fun k => k = b) w w3 ∧ (∀ k, vv.ownBlock = some k → w.heap.size ≤ k ∧ k < wr.heap.size) ∧ (∀ x ∈ xs, ∀ g, vv.ownBlock = some g → RowNe x g) ∧ xs.length = j ∧ b < w.heap.size ∧ w.heap.size ≤ wr.heap.size ∧ y.e = z) := ⟨hown3, hek3, hr3, hfw3, hlt2, HU.out.2.2.2.2, HU.out.2.1, hbw, HU.out.2.2.1.size, hyz⟩
          have HK3 : Hid (w3.heap[w2.heap.size]? = some (.cells #[.int .i64 y.e.idx, .int .i64 y.e.term, .int .i64 y.e.kind, .slice y.da y.e.data.length y.dc, .slice y.na y.e.nodes.length y.nc] 45 (0, 0))) := hk3
          clear HN hek hr2 hf2 hown2 hfw hbw HU hlt2 hk3 ha3 hfw3 hown3 hek3 hr3 hyz
          go_wp2_with (at_builtin; rw [← hw3]; refine wpList_appE HV.out.1 rfl _ _ rfl rfl w2.heap.size _ y rfl HK3.out ?c2 ?c3 ?_)
          case c2 => have := HV.out.2.2.2.2.2.2.1; omega
          case c3 => exact HV.out.2.2.2.1.size
          intro v' w4 hown4 hf4 hat
          rw [← hw3] at hf4
          have hs3 : w3.heap.size = w2.heap.size + 1 := by rw [hw3]; simp
          have hown4 : w4.ownsRow w.heap.size 45 5 v' (xs ++ [y]).length (flatE (xs ++ [y])) := by rw [List.length_append]; exact hown4
          obtain ⟨o3, ek3, r3, f3, l3, ne3, xl, hb9, hle, hyz⟩ := HV.out
          have hbx : ∀ g, vv.ownBlock = some g → RowNe y g := fun g hg => ek3.ne_old (l3 g hg).2
          have hall : ∀ x ∈ xs ++ [y], EntK w4 w.heap.size x.e x.da x.dc x.na := fun x hx => by
            rcases List.mem_append.1 hx with hx | hx
            · exact (o3.2 x hx).keepNe hf4 (fun g hg => ne3 x hx g hg)
            · obtain rfl := List.mem_singleton.1 hx
              exact ((ek3.lower hle).keepNe (x := x) hf4 (fun g hg => hbx g hg))
          have HU3 : Hid (OwnE w4 w.heap.size v' (xs ++ [y]) ∧ (xs ++ [y]).length = j + 1 ∧ Fx (fun k => k = b) w w4 ∧ RdS w0 a len cap b w4 q2 ∧ ∀ x ∈ xs ++ [y], ∀ g, v'.ownBlock = some g → RowNe x g) := by
            refine ⟨⟨hown4, hall⟩, by rw [List.length_append, xl]; rfl, ?_, ?_, fun x hx g hg => ?_⟩
            · refine ⟨hf4.1.trans f3.1, hf4.2.1.trans f3.2.1, hf4.2.2.1.trans f3.2.2.1, Nat.le_trans f3.size hf4.size, fun k hk hn => ?_⟩
              exact (hf4.block (Nat.lt_of_lt_of_le hk f3.size) (fun hS => by have := l3 k hS; omega)).trans (f3.block hk hn)
            · have hw0 : w0.heap.size ≤ w.heap.size := HR0.out.below.size
              exact r3.keep hf4 (fun k hk => Nat.le_trans hw0 (l3 k hk).1) (fun hS => by have := l3 b hS; omega)
            · rcases hat with h1 | h1
              · rw [h1] at hg
                rcases List.mem_append.1 hx with hx | hx
                · exact ne3 x hx g hg
                · obtain rfl := List.mem_singleton.1 hx
                  exact hbx g hg
              · rw [h1] at hg
                obtain rfl := Option.some.inj hg
                rcases List.mem_append.1 hx with hx | hx
                · exact (o3.2 x hx).ne (by first | omega | (rw [← hw3]; exact Nat.le_refl _) | simp [hs3])
                · obtain rfl := List.mem_singleton.1 hx
                  exact ek3.ne (by first | omega | (rw [← hw3]; exact Nat.le_refl _) | simp [hs3])
          have HE3 : Hid (pre ((xs ++ [y]).map EnP.e) (rEs L (n - (j + 1)) ((i : Int) + ((j + 1 : Nat) : Int)) q2) = R) := by
            show _ = R
            rw [List.map_append, show [y].map EnP.e = [z] from by rw [← hyz]; rfl]
            exact HE.out
          clear hown4 hf4 hat HV HK3 o3 ek3 r3 f3 l3 ne3 xl hb9 hle hyz hbx hall HE hs3 hw3
          go_wp2
          go_roundw
          case rel => exact ⟨v', xs ++ [y], j + 1, q2, rfl, by first | (congr 1; done) | (congr 1; omega), by first | rfl | go_num, by omega, HU3, HE3⟩
          case measure => simp [intOf]; omega
      · have hjn : j = n := by omega
        subst hjn
        have HE : Hid (R = .ok (xs.map EnP.e, q)) := by
          show R = _
          rw [← HG.out, Nat.sub_self]
          simp [rEs, pre]
        have HU4 : Hid (OwnE wr w.heap.size vv xs ∧ xs.length ≤ 4 ∧ Fx (fun k => k = b) w wr ∧ RdS w0 a len cap b wr q) := ⟨HU.out.1, by have := HU.out.2.1; omega, HU.out.2.2.1, HU.out.2.2.2.1⟩
        clear HG HU
        go_wp2
        go_ret
        rw [HE.out]
        exact ⟨HU4.out.2.2.1, _, rfl, ⟨xs, rfl, HU4.out.1, HU4.out.2.1⟩, HU4.out.2.2.2⟩
end Go.Proofs.YtmlihlnigojmpaaDoor
