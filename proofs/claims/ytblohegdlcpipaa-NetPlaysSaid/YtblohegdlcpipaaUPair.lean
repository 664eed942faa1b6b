/- A net and the document's own: what stays beside them. -/
import Derived.Test.YtblohegdlcpipaaURef6
set_option linter.unusedVariables false
set_option linter.unusedSimpArgs false
namespace Go.Proofs.Ytblohegdlcpipaa
open Go.RowKit

/-- What Send leaves: letters that were there, and one whose bytes are new. -/
def SentX (w : World) (b : Nat) (v : Value) (sd : Nat) (xs : List Lr) (ls : List L3) (w' : World) : Prop := ∃ ys, NetGo w b v sd ys w' ∧ ys.map Lr.v = ls ∧ ∀ y ∈ ys, y ∈ xs ∨ ∀ g, (Value.slice y.a y.d.length y.c).ownBlock = some g → w.heap.size ≤ g

set_option maxHeartbeats 4000000 in
set_option maxRecDepth 20000 in
theorem usendx_any {w : World} {b : Nat} {v : Value} {sd : Nat} {xs : List Lr} (h : NetW w b v sd xs) (f t : Int) {a : Option Addr} {n c : Nat} {l : List UInt8} (hl : BRow w a n c l) (hn : n ≤ 1000) :
    Calls Try.prog 12 #[nptr b, .int .i64 f, .int .i64 t, .slice a n c] w fun e w' => e = .returned (.tuple #[]) ∧ SentX w b v sd xs (sendA (xs.map Lr.v) f t l) w' := by
  obtain ⟨ls, hls⟩ : ∃ ls, xs.map Lr.v = ls := ⟨_, rfl⟩
  rw [hls]
  obtain ⟨R, hR⟩ : ∃ R, sendA ls f t l = R := ⟨_, rfl⟩
  rw [hR]
  have h1 := unode_any f w
  have h2 := unode_any t w
  have HN : Hid ((NetW w b v sd xs ∧ xs.map Lr.v = ls) ∧ l.length = n ∧ n ≤ 1000) := ⟨⟨h, hls⟩, hl.1, hn⟩
  have hc := uclone_any hl (by omega)
  have hsame : nodeB f = false ∨ nodeB t = false → R = ls := by
    intro hh
    rw [← hR, sendA, if_neg]
    rintro ⟨q1, q2, _⟩
    rcases hh with hh | hh
    · rw [q1] at hh; cases hh
    · rw [q2] at hh; cases hh
  cases hf : nodeB f with
  | false =>
    have hs := hsame (.inl hf)
    have HF : Hid (SentX w b v sd xs R w) := by show SentX _ _ _ _ _ _ _; rw [hs]; exact ⟨xs, NetGo.same h (Below.refl _ _), hls, fun y hy => .inl hy⟩
    rw [hf] at h1
    clear h h2 hc hsame hs hf hR hl hn hls
    go_enter Try.func12, Try.ntmps12
    go_wp2_with (fail)
    refine h1.mono ?_
    rintro e w1 ⟨rfl, hw⟩
    replace hw := hw.symm
    subst hw
    clear h1
    go_wp2
    go_end0
    exact ⟨rfl, HF.out⟩
  | true =>
    rw [hf] at h1
    cases ht : nodeB t with
    | false =>
      have hs := hsame (.inr ht)
      have HF : Hid (SentX w b v sd xs R w) := by show SentX _ _ _ _ _ _ _; rw [hs]; exact ⟨xs, NetGo.same h (Below.refl _ _), hls, fun y hy => .inl hy⟩
      rw [ht] at h2
      clear h hc hsame hs hf ht hR hl hn hls
      go_enter Try.func12, Try.ntmps12
      go_wp2_with (fail)
      refine h1.mono ?_
      rintro e w1 ⟨rfl, hw⟩
      replace hw := hw.symm
      subst hw
      clear h1
      go_wp2_with (fail)
      refine h2.mono ?_
      rintro e w1 ⟨rfl, hw⟩
      replace hw := hw.symm
      subst hw
      clear h2
      go_wp2
      go_end0
      exact ⟨rfl, HF.out⟩
    | true =>
      rw [ht] at h2
      have HR : Hid (R = if ls.length < 200 then ls ++ [(f.toNat, t.toNat, l)] else ls) := by
        show R = _
        rw [← hR, sendA]
        by_cases hq : ls.length < 200
        · rw [if_pos ⟨hf, ht, hq⟩, if_pos hq]
        · rw [if_neg (fun hh => hq hh.2.2), if_neg hq]
      obtain ⟨f0, f1⟩ := nodeB_iff.1 hf
      obtain ⟨t0, t1⟩ := nodeB_iff.1 ht
      obtain ⟨F, rfl⟩ : ∃ F : Nat, f = (F : Int) := ⟨f.toNat, by omega⟩
      obtain ⟨T, rfl⟩ : ∃ T : Nat, t = (T : Int) := ⟨t.toNat, by omega⟩
      have HB : Hid (F ≤ 63 ∧ T ≤ 63) := ⟨by omega, by omega⟩
      have HC : Hid (Calls Try.prog 25 #[.slice a n c] w fun e w' => ∃ a' c', e = .returned (.slice a' n c') ∧ OwnB w' w.heap.size (.slice a' n c') l ∧ Below w.heap.size w w') := hc
      clear h hc hsame hf ht hR hl hn hls f0 f1 t0 t1
      go_enter Try.func12, Try.ntmps12
      go_wp2_with (fail)
      refine h1.mono ?_
      rintro e w1 ⟨rfl, hw⟩
      replace hw := hw.symm
      subst hw
      clear h1
      go_wp2_with (fail)
      refine h2.mono ?_
      rintro e w1 ⟨rfl, hw⟩
      replace hw := hw.symm
      subst hw
      clear h2
      go_wp2_with (fail)
      refine HC.out.mono ?_
      rintro e w1 ⟨a', c', rfl, hown, hb⟩
      clear HC
      have HA : Hid (∀ u, u = w1 → Calls Try.prog 27 #[nptr b, .agg #[.int .i64 (F : Int), .int .i64 (T : Int), .slice a' n c']] u fun e w' => ∃ B, e = .returned (.bool B) ∧ SentX w b v sd xs R w') := by
        intro u hu
        subst hu
        have hx := HN.out.1.1
        have hln := HN.out.2.1
        have := uadd_any (hx.below hb) ⟨F, T, a', c', l⟩ (by dsimp only; rw [hln]; exact ownB_low hown (Nat.zero_le _)) HB.out (by dsimp only; have := HN.out.2; omega)
        dsimp only at this
        rw [hln] at this
        refine this.mono ?_
        rintro e w' ⟨he, hg⟩
        refine ⟨_, he, addA xs ⟨F, T, a', c', l⟩, NetGo.pre hb hg, ?_, fun y hy => ?_⟩
        · rw [HR.out, addA_val, HN.out.1.2]
          rfl
        · unfold addA at hy
          split at hy
          · rcases List.mem_append.1 hy with hy | hy
            · exact .inl hy
            · simp at hy
              subst hy
              exact .inr (fun g hgg => (World.ownsRow.lt hown g (by cases a' with | none => cases hgg | some x => exact hgg)).1)
          · exact .inl hy
      clear hown hb
      go_wp2_with (fail)
      refine (HA.out _ rfl).mono ?_
      rintro e w2 ⟨B, rfl, hg⟩
      have HG : Hid (SentX w b v sd xs R w2) := hg
      clear HA hg
      go_wp2
      go_end0
      exact ⟨rfl, HG.out⟩


/-- What is no net's of either kind stays. -/
structure KX (w w' : World) : Prop where
  size : w.heap.size ≤ w'.heap.size
  keep : ∀ (q : Nat) (cur : Array Value) (t : TypeId) (m : Nat × Nat), w.heap[q]? = some (.cells cur t m) → t ≠ 52 → t ≠ 57 → t ≠ 30 → t ≠ 39 → w'.heap[q]? = w.heap[q]?
theorem KX.refl (w : World) : KX w w := ⟨Nat.le_refl _, fun _ _ _ _ _ _ _ _ _ => rfl⟩
theorem KX.trans {a b c : World} (h : KX a b) (k : KX b c) : KX a c := ⟨Nat.le_trans h.size k.size, fun q cur t m hq h1 h2 h3 h4 => by
  have e := h.keep q cur t m hq h1 h2 h3 h4
  exact (k.keep q cur t m (e.trans hq) h1 h2 h3 h4).trans e⟩
theorem KX.below {w w' : World} (hb : Below w.heap.size w w') : KX w w' := ⟨hb.size, fun q cur t m hq _ _ _ _ => hb.block q (lt_blk hq)⟩
theorem KT.kx {w w' : World} (h : KT w w') : KX w w' := ⟨h.size, fun q cur t m hq h1 h2 _ _ => h.keep q cur t m hq h1 h2⟩
theorem RfW.kt {w w' : World} {b : Nat} {v : Value} {sd : Nat} {ls : List L3} (h : RfW w b v sd ls) (hk : KT w w') : RfW w' b v sd ls :=
  h.keep (hk.keep _ _ _ _ h.blk (by decide) (by decide)) (fun g hg => by obtain ⟨_, cur, hc⟩ := h.row.block hg; exact hk.keep _ _ _ _ hc (by decide) (by decide))
/-- What is none of the document's net's stays. -/
structure KR (w w' : World) : Prop where
  size : w.heap.size ≤ w'.heap.size
  keep : ∀ (q : Nat) (cur : Array Value) (t : TypeId) (m : Nat × Nat), w.heap[q]? = some (.cells cur t m) → t ≠ 30 → t ≠ 39 → w'.heap[q]? = w.heap[q]?
theorem KR.kx {w w' : World} (h : KR w w') : KX w w' := ⟨h.size, fun q cur t m hq _ _ h1 h2 => h.keep q cur t m hq h1 h2⟩
theorem RfW.kr {w w' : World} {b : Nat} {v : Value} {sd : Nat} {ls : List L3} (h : RfW w b v sd ls) (hf : Fr (NetB b v) w w') : KR w w' := ⟨hf.size, fun q cur t m hq h1 h2 => hf.block q (lt_blk hq) (fun hk => by
  rcases hk with rfl | hk
  · exact type_ne hq h.blk h1 rfl
  · obtain ⟨_, c2, hc⟩ := h.row.block hk
    exact type_ne hq hc h2 rfl)⟩
theorem NetW.kr {w w' : World} {b : Nat} {v : Value} {sd : Nat} {xs : List Lr} (h : NetW w b v sd xs) (hk : KR w w') : NetW w' b v sd xs :=
  h.keep (hk.keep _ _ _ _ h.blk (by decide) (by decide)) (fun g hg => by obtain ⟨cur, hc⟩ := h.row.block hg; exact hk.keep _ _ _ _ hc (by decide) (by decide)) (fun g cur hc => hk.keep _ _ _ _ hc (by decide) (by decide))
theorem NetC.kr {w w' : World} {b : Nat} {v : Value} {sd : Nat} {ls : List L3} (h : NetC w b v sd ls) (hk : KR w w') : NetC w' b v sd ls := by
  obtain ⟨xs, h1, h2⟩ := h
  exact ⟨xs, h1.kr hk, h2⟩

/-- A net, and the document's own that has the same. -/
structure Pr (w0 : World) (w : World) (bn : Nat) (vn : Value) (br : Nat) (vr : Value) (sd : Nat) (ls : List L3) : Prop where
  net : NetC w bn vn sd ls
  ref : RfW w br vr sd ls
  bel : Below w0.heap.size w0 w
  bn : w0.heap.size ≤ bn
  br : w0.heap.size ≤ br
  ln : ∀ g, vn.ownBlock = some g → w0.heap.size ≤ g
  lr : ∀ g, vr.ownBlock = some g → w0.heap.size ≤ g
theorem Pr.sz {w0 w : World} {bn br sd : Nat} {vn vr : Value} {ls : List L3} (h : Pr w0 w bn vn br vr sd ls) : w0.heap.size ≤ w.heap.size := h.bel.size
theorem Pr.below {w0 w w' : World} {bn br sd : Nat} {vn vr : Value} {ls : List L3} (h : Pr w0 w bn vn br vr sd ls) (hb : Below w.heap.size w w') : Pr w0 w' bn vn br vr sd ls :=
  ⟨h.net.below hb, h.ref.below hb, h.bel.trans (hb.mono h.sz), h.bn, h.br, h.ln, h.lr⟩
/-- What a step on both leaves. -/
def PrGo (w0 : World) (w : World) (bn : Nat) (vn : Value) (br : Nat) (vr : Value) (w' : World) : Prop := ∃ vn' vr' sd' ls', Pr w0 w' bn vn' br vr' sd' ls' ∧ Fr (fun k => NetB bn vn k ∨ NetB br vr k) w w' ∧ (∀ g, vn'.ownBlock = some g → vn.ownBlock = some g ∨ w.heap.size ≤ g) ∧ ∀ g, vr'.ownBlock = some g → vr.ownBlock = some g ∨ w.heap.size ≤ g
/-- .. and what a step on the net alone leaves. -/
def PrMid (w0 : World) (w : World) (bn : Nat) (vn : Value) (br : Nat) (vr : Value) (sd sd' : Nat) (ls ls' : List L3) (w1 : World) : Prop := ∃ vn', NetC w1 bn vn' sd' ls' ∧ RfW w1 br vr sd ls ∧ Below w0.heap.size w0 w1 ∧ Fr (NetB bn vn) w w1 ∧ KT w w1 ∧ (∀ g, vn'.ownBlock = some g → vn.ownBlock = some g ∨ w.heap.size ≤ g) ∧ Pr w0 w bn vn br vr sd ls
theorem Pr.mid {w0 w w1 : World} {bn br sd sd' : Nat} {vn vr : Value} {ls ls' : List L3} (h : Pr w0 w bn vn br vr sd ls) (hg : GoC w bn vn sd' ls' w1) : PrMid w0 w bn vn br vr sd sd' ls ls' w1 := by
  obtain ⟨vn', g1, g2, g3⟩ := hg
  have hk := h.net.kt g2
  refine ⟨vn', g1, h.ref.kt hk, h.bel.trans (g2.below (fun k hk => ?_) h.sz), g2, hk, g3, h⟩
  rcases hk with rfl | hk
  · exact h.bn
  · exact h.ln k hk
theorem PrMid.below {w0 w w1 w2 : World} {bn br sd sd' : Nat} {vn vr : Value} {ls ls' : List L3} (h : PrMid w0 w bn vn br vr sd sd' ls ls' w1) (hb : Below w1.heap.size w1 w2) : PrMid w0 w bn vn br vr sd sd' ls ls' w2 := by
  obtain ⟨vn', h1, h2, h3, h4, h5, h6, h7⟩ := h
  exact ⟨vn', h1.below hb, h2.below hb, h3.trans (hb.mono h3.size), h4.tr (Fr.of_below _ hb), h5.trans (KT.below hb), h6, h7⟩
theorem PrMid.ref {w0 w w1 : World} {bn br sd sd' : Nat} {vn vr : Value} {ls ls' : List L3} (h : PrMid w0 w bn vn br vr sd sd' ls ls' w1) : RfW w1 br vr sd ls := by
  obtain ⟨_, _, h2, _⟩ := h
  exact h2
theorem PrMid.kt {w0 w w1 : World} {bn br sd sd' : Nat} {vn vr : Value} {ls ls' : List L3} (h : PrMid w0 w bn vn br vr sd sd' ls ls' w1) : KT w w1 := by
  obtain ⟨_, _, _, _, _, h5, _⟩ := h
  exact h5
theorem PrMid.done {w0 w w1 w2 : World} {bn br sd sd' : Nat} {vn vr : Value} {ls ls' : List L3} (h : PrMid w0 w bn vn br vr sd sd' ls ls' w1) (hg : RfGo w1 br vr sd' ls' w2) : PrGo w0 w bn vn br vr w2 := by
  obtain ⟨vn', h1, h2, h3, h4, h5, h6, h7⟩ := h
  obtain ⟨vr', g1, g2, g3⟩ := hg
  have hkr := h2.kr g2
  refine ⟨vn', vr', sd', ls', ⟨h1.kr hkr, g1, h3.trans (g2.below (fun k hk => ?_) h3.size), h7.bn, h7.br, fun g hg => ?_, fun g hg => ?_⟩, (h4.wide (fun k hk => Or.inl hk)).tr (g2.wide (fun k hk => Or.inr hk)), h6, fun g hg => (g3 g hg).imp id (fun q => Nat.le_trans h4.size q)⟩
  · rcases hk with rfl | hk
    · exact h7.br
    · exact h7.lr k hk
  · rcases h6 g hg with e | e
    · exact h7.ln g e
    · exact Nat.le_trans h7.sz e
  · rcases g3 g hg with e | e
    · exact h7.lr g e
    · have := h4.size
      have := h7.sz
      omega
theorem PrGo.below {w0 w w1 w2 : World} {bn br : Nat} {vn vr : Value} (h : PrGo w0 w bn vn br vr w1) (hb : Below w1.heap.size w1 w2) : PrGo w0 w bn vn br vr w2 := by
  obtain ⟨a, b, c, d, h1, h2, h3, h4⟩ := h
  exact ⟨a, b, c, d, h1.below hb, h2.tr (Fr.of_below _ hb), h3, h4⟩
theorem PrGo.pre {w0 w w1 w2 : World} {bn br : Nat} {vn vr : Value} (hb : Below w.heap.size w w1) (h : PrGo w0 w1 bn vn br vr w2) : PrGo w0 w bn vn br vr w2 := by
  obtain ⟨a, b, c, d, h1, h2, h3, h4⟩ := h
  exact ⟨a, b, c, d, h1, Fr.pre hb h2 (fun _ h => h), fun g hg => (h3 g hg).imp id (fun q => Nat.le_trans hb.size q), fun g hg => (h4 g hg).imp id (fun q => Nat.le_trans hb.size q)⟩
theorem RfGo.same {w w' : World} {b sd : Nat} {v : Value} {ls : List L3} (h : RfW w b v sd ls) (hb : Below w.heap.size w w') : RfGo w b v sd ls w' := h.go hb
end Go.Proofs.Ytblohegdlcpipaa
