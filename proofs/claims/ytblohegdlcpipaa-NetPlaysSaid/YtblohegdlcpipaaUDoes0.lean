/- A step on a net and the document's own: what it is handed; Take and Look of both. -/
import Derived.Test.YtblohegdlcpipaaUPair
import Derived.Deep.CutRange
import Derived.BigRegion
set_option linter.unusedVariables false
set_option linter.unusedSimpArgs false
namespace Go.Proofs.Ytblohegdlcpipaa
open Go.RowKit

/-- The step, as the function lays it. -/
structure OpAt (w0 w wz : World) (kind A B : Int) (da : Option Addr) (m dc : Nat) (S : Nat) (l : List UInt8) : Prop where
  bel : Below w.heap.size w wz
  blk : wz.heap[w.heap.size]? = some (.cells #[.int .i64 kind, .int .i64 A, .int .i64 B, .slice da m dc, .int .u64 (S : Int)] 34 (0, 0))
  dat : BRow w0 da m dc l
  short : m ≤ 1000
  lt : w.heap.size < wz.heap.size
theorem toB (a : Option Addr) (n c k : Nat) (hk : k ≤ n) (hn : n ≤ c) (w : World) : (Instr.slice 32 (.slice a n c) none (some (.int .i64 (k : Int))) none).run Try.prog w = .ok (.slice a k c) w := by
  have hel : Try.prog.elem 32 = 5 := by kernel_rfl
  have hsz : (sizeOf 5).run Try.prog w = .ok 1 w := by kernel_rfl
  rw [run_slice_h w 32 a n c (by rw [hel]; exact Try.underlying32) .i64 (k : Int) (by omega) (by omega), hel, hsz]
  simp only [Result.andThen, sliced, Int.toNat_natCast]
  cases a with
  | none => simp
  | some x => by_cases h : c = 0 <;> simp [h, Addr.add_zero']
theorem BRow.pre' {w : World} {a : Option Addr} {n c : Nat} {l : List UInt8} (h : BRow w a n c l) {k : Nat} (hk : k ≤ n) : BRow w a k c (l.take k) := by
  have hl := h.1
  refine ⟨by rw [List.length_take]; omega, ?_⟩
  rcases h.2 with ⟨h1, h2, h3⟩ | ⟨x, h1, hc⟩
  · exact .inl ⟨h1, by omega, h3⟩
  · refine .inr ⟨x, h1, fun j hj => ?_⟩
    rw [List.length_take] at hj
    rw [List.getElem_take]
    exact hc j (by omega)
theorem utake_any {w : World} {b : Nat} {v : Value} {sd : Nat} {ls : List L3} (h : NetC w b v sd ls) (i : Int) :
    Calls Try.prog 15 #[nptr b, .int .i64 i] w fun e w' => ∃ a c, e = .returned (.tuple #[.int .i64 ((takenR ls sd i).1 : Int), .int .i64 ((takenR ls sd i).2.1 : Int), .slice a (takenR ls sd i).2.2.length c, .bool (takesB ls sd i)]) ∧ OwnB w' 0 (.slice a (takenR ls sd i).2.2.length c) (takenR ls sd i).2.2 ∧ GoC w b v sd (takeA ls sd i) w' := by
  cases hi : hasB ls.length i with
  | false =>
    have ht : takesB ls sd i = false := by simp [takesB, hi]
    unfold takenR takeA
    rw [ht]
    refine (utake_none h i hi).mono ?_
    rintro e w' ⟨he, hg⟩
    exact ⟨none, 0, he, World.ownsRow_nil _ _ _ _, hg⟩
  | true =>
    obtain ⟨i0, i1⟩ := hasB_iff.1 hi
    obtain ⟨j, rfl⟩ : ∃ j : Nat, i = (j : Int) := ⟨i.toNat, by omega⟩
    obtain ⟨y, hy⟩ : ∃ y, ls[j]? = some y := ⟨ls[j]'(by omega), List.getElem?_eq_getElem _⟩
    have hlk : lookR ls (j : Int) = y := by
      unfold lookR
      rw [if_pos hi, Int.toNat_natCast, List.getD_eq_getElem?_getD, hy]
      rfl
    have ht : takesB ls sd (j : Int) = reachB sd (y.1 : Int) (y.2.1 : Int) := by rw [takesB, hi, hlk]; rfl
    unfold takenR takeA
    rw [ht, hlk]
    refine (utake_some h hy).mono ?_
    intro e w' hh
    cases hr : reachB sd (y.1 : Int) (y.2.1 : Int) with
    | true =>
      rw [hr, if_pos rfl] at hh
      obtain ⟨a, c, he, ho, hg⟩ := hh
      exact ⟨a, c, he, ownB_low ho (Nat.zero_le _), hg⟩
    | false =>
      rw [hr, if_neg (by decide)] at hh
      exact ⟨none, 0, hh.1, World.ownsRow_nil _ _ _ _, hh.2⟩
theorem ulook_any {w : World} {b : Nat} {v : Value} {sd : Nat} {ls : List L3} (h : NetC w b v sd ls) (i : Int) :
    Calls Try.prog 11 #[nptr b, .int .i64 i] w fun e w' => ∃ a c, e = .returned (.tuple #[.int .i64 ((lookR ls i).1 : Int), .int .i64 ((lookR ls i).2.1 : Int), .slice a (lookR ls i).2.2.length c, .bool (hasB ls.length i)]) ∧ OwnB w' w.heap.size (.slice a (lookR ls i).2.2.length c) (lookR ls i).2.2 ∧ Below w.heap.size w w' := by
  obtain ⟨xs, hx, hm⟩ := h
  have hlen : ls.length = xs.length := by rw [← hm, List.length_map]
  cases hi : hasB ls.length i with
  | false =>
    unfold lookR
    rw [hi]
    rw [hlen] at hi
    refine (ulook_no hx i hi).mono ?_
    rintro e w' ⟨he, hw⟩
    subst hw
    exact ⟨none, 0, he, World.ownsRow_nil _ _ _ _, Below.refl _ _⟩
  | true =>
    obtain ⟨i0, i1⟩ := hasB_iff.1 hi
    obtain ⟨j, rfl⟩ : ∃ j : Nat, i = (j : Int) := ⟨i.toNat, by omega⟩
    obtain ⟨x, hxj⟩ : ∃ x, xs[j]? = some x := ⟨xs[j]'(by omega), List.getElem?_eq_getElem _⟩
    have hlk : lookR ls (j : Int) = x.v := by
      unfold lookR
      rw [if_pos hi, Int.toNat_natCast, List.getD_eq_getElem?_getD, ← hm, List.getElem?_map, hxj]
      rfl
    rw [hlk]
    exact ulook_yes hx hxj
theorem kt_blk {w w' : World} (hk : KT w w') {q : Nat} {cs : Array Value} (h : w.heap[q]? = some (.cells cs 34 (0, 0))) : w'.heap[q]? = some (.cells cs 34 (0, 0)) := (hk.keep _ _ _ _ h (by decide) (by decide)).trans h
theorem kr_blk {w w' : World} (hk : KR w w') {q : Nat} {cs : Array Value} (h : w.heap[q]? = some (.cells cs 34 (0, 0))) : w'.heap[q]? = some (.cells cs 34 (0, 0)) := (hk.keep _ _ _ _ h (by decide) (by decide)).trans h
theorem NetC.kt_ne {w : World} {b : Nat} {v : Value} {sd : Nat} {ls : List L3} (h : NetC w b v sd ls) {q : Nat} {cs : Array Value} (hq : w.heap[q]? = some (.cells cs 34 (0, 0))) : ¬ NetB b v q := by
  obtain ⟨xs, hx, _⟩ := h
  rintro (rfl | hk)
  · exact type_ne hq hx.blk (by decide) rfl
  · obtain ⟨c2, hc⟩ := hx.row.block hk
    exact type_ne hq hc (by decide) rfl
theorem RfW.kr_ne {w : World} {b : Nat} {v : Value} {sd : Nat} {ls : List L3} (h : RfW w b v sd ls) {q : Nat} {cs : Array Value} (hq : w.heap[q]? = some (.cells cs 34 (0, 0))) : ¬ NetB b v q := by
  rintro (rfl | hk)
  · exact type_ne hq h.blk (by decide) rfl
  · obtain ⟨_, c2, hc⟩ := h.row.block hk
    exact type_ne hq hc (by decide) rfl
theorem umove_any {w : World} {b : Nat} {v : Value} {sd : Nat} {ls : List L3} (h : NetC w b v sd ls) (i k : Int) : Calls Try.prog 14 #[nptr b, .int .i64 i, .int .i64 k] w fun e w' => e = .returned (.bool (hasB ls.length i && hasB ls.length k)) ∧ GoC w b v sd (moveA ls i k) w' := by
  cases hh : hasB ls.length i && hasB ls.length k with
  | false => exact umove_no h i k hh
  | true =>
    obtain ⟨q1, q2⟩ := (Bool.and_eq_true _ _).mp hh
    obtain ⟨i0, i1⟩ := hasB_iff.1 q1
    obtain ⟨k0, k1⟩ := hasB_iff.1 q2
    obtain ⟨I, rfl⟩ : ∃ I : Nat, i = (I : Int) := ⟨i.toNat, by omega⟩
    obtain ⟨K, rfl⟩ : ∃ K : Nat, k = (K : Int) := ⟨k.toNat, by omega⟩
    exact umove_yes h (i := I) (k := K) (by omega) (by omega)
theorem ureachc_any {w : World} {b : Nat} {v : Value} {sd : Nat} {ls : List L3} (h : NetC w b v sd ls) (f t : Int) : Calls Try.prog 17 #[nptr b, .int .i64 f, .int .i64 t] w fun e w' => e = .returned (.bool (reachB sd f t)) ∧ w' = w := by
  obtain ⟨xs, hx, _⟩ := h
  exact ureach_any hx f t
theorem OwnB.krf {w w' : World} {b sd : Nat} {v : Value} {ls : List L3} {B : Nat} {x : Value} {l : List UInt8} (h : OwnB w B x l) (hr : RfW w b v sd ls) (hg : Fr (NetB b v) w w') : OwnB w' B x l := by
  have hk := hr.kr hg
  exact ownB_keep h (fun g hgg => by obtain ⟨cur, hc⟩ := ownB_block h hgg; exact hk.keep g cur _ _ hc (by decide) (by decide))
/-- A row that was lent to Send, beside the net that has it no more. -/
structure LentS (w0 wc : World) (bn : Nat) (vn : Value) (br : Nat) (vr : Value) (sd : Nat) (ls ls' : List L3) (la : Option Addr) (m : Nat) (w : World) : Prop where
  ex : ∃ ys vn', NetW w bn vn' sd ys ∧ ys.map Lr.v = ls' ∧ (∀ y ∈ ys, ∀ g, (Value.slice y.a y.d.length y.c).ownBlock = some g → ∀ x, la = some x → x.block ≠ g) ∧ ∀ g, vn'.ownBlock = some g → vn.ownBlock = some g ∨ wc.heap.size ≤ g
  ref : RfW w br vr sd ls
  bel : Below w0.heap.size w0 w
  fr : Fr (NetB bn vn) wc w
  kt : KT wc w
  pr : Pr w0 wc bn vn br vr sd ls
  row : m = 0 ∨ ∃ g cur, la = some ⟨g, 0, none⟩ ∧ w.heap[g]? = some (.cells cur 5 (0, 0)) ∧ m ≤ cur.size ∧ wc.heap.size ≤ g
theorem LentS.mid {w0 wc w : World} {bn br sd m : Nat} {vn vr : Value} {ls ls' : List L3} {la : Option Addr} (h : LentS w0 wc bn vn br vr sd ls ls' la m w) : PrMid w0 wc bn vn br vr sd sd ls ls' w := by
  obtain ⟨ys, vn', h1, h2, _, h4⟩ := h.ex
  exact ⟨vn', ⟨ys, h1, h2⟩, h.ref, h.bel, h.fr, h.kt, h4, h.pr⟩
theorem LentS.set {w0 wc w : World} {bn br sd m : Nat} {vn vr : Value} {ls ls' : List L3} {la : Option Addr} (h : LentS w0 wc bn vn br vr sd ls ls' la m w) {j : Nat} (hj : j < m) :
    ∃ g cur, la = some ⟨g, 0, none⟩ ∧ w.heap[g]? = some (.cells cur 5 (0, 0)) ∧ m ≤ cur.size ∧ ∀ x, LentS w0 wc bn vn br vr sd ls ls' la m (w.setCell ⟨g, j, none⟩ x) := by
  rcases h.row with h0 | ⟨g, cur, e1, e2, e3, e4⟩
  · omega
  · refine ⟨g, cur, e1, e2, e3, fun x => ?_⟩
    obtain ⟨ys, vn', h1, h2, h3, h4⟩ := h.ex
    have hf : Fr (fun k => k = g) w (w.setCell ⟨g, j, none⟩ x) := Fr.set (S := fun k => k = g) (p := ⟨g, j, none⟩) (Fr.refl _ w) rfl x
    refine ⟨⟨ys, vn', ⟨hf.at h1.blk (fun e => type_ne h1.blk e2 (by decide) e), h1.row.keep (fun k hk => ?_), fun y hy => ownB_keep (h1.dat y hy) (fun k hk => ?_), h1.few, h1.nod, h1.short, h1.side⟩, h2, h3, h4⟩, h.ref.keep (hf.block _ (lt_blk h.ref.blk) (fun e => type_ne h.ref.blk e2 (by decide) e)) (fun k hk => ?_), h.bel.trans (hf.below (fun k hk => by have := h.pr.sz; omega) h.bel.size), h.fr.trans hf (fun k hk => Or.inr (by omega)), ⟨by rw [set_size]; exact h.kt.size, fun q c t mm hq t1 t2 => ?_⟩, h.pr, Or.inr ⟨g, _, e1, set_blk e2 j x, by simpa using e3, e4⟩⟩
    · obtain ⟨c2, hc⟩ := h1.row.block hk
      exact hf.block k (lt_blk hc) (fun e => type_ne hc e2 (by decide) e)
    · obtain ⟨c2, hc⟩ := ownB_block (h1.dat y hy) hk
      exact hf.block k (lt_blk hc) (fun e => h3 y hy k hk _ e1 e.symm)
    · obtain ⟨_, c2, hc⟩ := h.ref.row.block hk
      exact hf.block k (lt_blk hc) (fun e => type_ne hc e2 (by decide) e)
    · have hlt := lt_blk hq
      exact (hf.block q (by have := h.kt.size; omega) (by omega)).trans (h.kt.keep q c t mm hq t1 t2)
theorem lent_made {w0 wc w2 w' : World} {bn br sd m lc : Nat} {vn vr : Value} {ls ls' : List L3} {xs : List Lr} {la : Option Addr} {l : List UInt8} (hP : Pr w0 wc bn vn br vr sd ls) (hx : NetW wc bn vn sd xs) (hb : Below wc.heap.size wc w2)
    (hown : w2.ownsRow wc.heap.size 5 1 (.slice la m lc) m (Lib.byteCells l)) (hg : SentX w2 bn vn sd xs ls' w') : LentS w0 wc bn vn br vr sd ls ls' la m w' := by
  obtain ⟨ys, ⟨vn', g1, g2, g3⟩, h2, h3⟩ := hg
  have hx2 := hx.below hb
  have hk2 : KT w2 w' := NetC.kt ⟨xs, hx2, rfl⟩ g2
  have hlt : ∀ x, la = some x → wc.heap.size ≤ x.block ∧ x.block < w2.heap.size := fun x e => World.ownsRow.lt hown x.block (by rw [e]; rfl)
  refine ⟨⟨ys, vn', g1, h2, fun y hy g hgg x e => ?_, fun g hgg => (g3 g hgg).imp id (fun q => Nat.le_trans hb.size q)⟩, (hP.ref.below hb).kt hk2, (hP.below hb).bel.trans (g2.below (fun k hk => ?_) (hP.below hb).sz), (Fr.of_below _ hb).tr g2, (KT.below hb).trans hk2, hP, ?_⟩
  · have := hlt x e
    rcases h3 y hy with hm | hm
    · obtain ⟨cur, hc⟩ := ownB_block (hx.dat y hm) hgg
      have := lt_blk hc
      omega
    · have := hm g hgg
      omega
  · rcases hk with rfl | hk
    · exact hP.bn
    · exact hP.ln k hk
  · rcases hown.2 with ⟨h1, h0⟩ | ⟨g, cap, cur, e1, e2, e3, e4, e5, e6, e7⟩
    · exact Or.inl h0
    · have ea : la = some ⟨g, 0, none⟩ := congrArg (fun v => match v with | Value.slice a _ _ => a | _ => none) e1
      exact Or.inr ⟨g, cur, ea, (hk2.keep g _ _ _ e3 (by decide) (by decide)).trans e3, by omega, e2⟩
end Go.Proofs.Ytblohegdlcpipaa
