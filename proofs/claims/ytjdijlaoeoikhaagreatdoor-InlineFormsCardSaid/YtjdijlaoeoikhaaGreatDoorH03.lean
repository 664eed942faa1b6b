/- Several texts in one. -/
import Derived.Test.YtjdijlaoeoikhaaGreatDoorCards
import Derived.Test.YtjdijlaoeoikhaaGreatDoorTie
import Derived.Test.YtjdijlaoeoikhaaGreatDoorG06
import Derived.ProofKit
import Derived.OpenShut
import Derived.ShutString
import Derived.ChangeOld
import Derived.Below
import Derived.JoinedCond
import Derived.SizedLaws
import Derived.Deep.DeepHandedRow
import Derived.Lay
import Derived.Lib.LaidU8T
import Derived.Test.YtjdijlaoeoikhaaGreatDoorIRead2
import Derived.Deep.Slices
set_option linter.unusedVariables false
/- What every law of this seat's frame leans on: a start at which the library's tables hold what its text lays. -/
namespace Go.Proofs.YtjdijlaoeoikhaaGreatDoor
open Go.ChangeShapes Go.WideShapes Go.ChangeAt Go.RowKit

theorem own : ownKnob Tryz.prog.godebug = none := by kernel_rfl
theorem laidOut : laidOutB Tryz.prog = true := by kernel_rfl
theorem int_range {n : Int} (h : (Lit.int .i64 n).wf = true) : -9223372036854775808 ≤ n ∧ n ≤ 9223372036854775807 := by
  simp only [Lit.wf, Bool.and_eq_true, decide_eq_true_eq] at h
  exact h
theorem add_off (b off i : Nat) : (⟨b, off, none⟩ : Addr).add i = ⟨b, off + i, none⟩ := by unfold Addr.add; split <;> simp_all

/-- What the library's text lays. -/
def tables : List (String × DataW Unit) := [("unicode/utf8.acceptRanges", Rows.laid_unicode_utf8_acceptRanges), ("unicode/utf8.first", Rows.laid_unicode_utf8_first)]

noncomputable def laidWorld (os : Os) : World := World.laidAll Tryz.prog os tables

set_option maxRecDepth 100000 in
theorem laid_all (os : Os) (args : Array Value) : laidMet Tryz.prog tables ((laidWorld os).forCall (fun _ _ => 0) ⟨#[], args, []⟩).memory :=
  laidMet_laidAll args (by kernel_rfl) (by kernel_rfl)

set_option maxRecDepth 100000 in
theorem shaped_all (os : Os) (args : Array Value) : ((laidWorld os).forCall (fun _ _ => 0) ⟨#[], args, []⟩).Shaped Tryz.prog :=
  World.shaped_of_ZipB (by kernel_rfl) (by kernel_rfl)

theorem witness_row_sh {H : Type} {enc : TypeId × Value → H} {C : Checked} {os : Os} {f : FuncId} {fn : Func} {s : OpenSpec} {conds : List PathCond} {apart : Bool} {laid : List (String × DataW Unit)} (modest : Bool) (w0 : World) (args : Array Value) (hos : w0.os = os)
    (hsh : (w0.forCall (fun _ _ => 0) ⟨#[], args, []⟩).Shaped C.prog)
    (hok : Input.okWideB C.prog (w0.forCall (fun _ _ => 0) ⟨#[], args, []⟩) f ⟨#[], args, []⟩ = true)
    (hrow : s.preRow enc C.prog fn conds apart laid (w0.forCall (fun _ _ => 0) ⟨#[], args, []⟩).memory args) :
    ∃ (w : World) (tape : Tape) (i : Input), w.os = os ∧ (w.forCall tape i).Shaped C.prog ∧ i.vars = [] ∧ Input.okWide C.prog (w.forCall tape i) .any w.heap.size f i ∧
      s.preRow enc C.prog fn conds apart laid (w.forCall tape i).memory i.args ∧ ({ modest := modest } : Assume).holds C.prog (lone (Frame.enter C.prog f i.args .normal) [] (w.forCall tape i)) :=
  ⟨w0, fun _ _ => 0, ⟨#[], args, []⟩, hos, hsh, (Input.okWide_of_okWideB (base := 0) hok).1, (Input.okWide_of_okWideB hok).2, hrow, by
    simp only [Assume.holds]
    exact ⟨by simp, by simp, fun _ => Modest.zero, by simp, by simp⟩⟩

theorem first_is : Rows.laid_unicode_utf8_first = Lib.firstData := by kernel_rfl
theorem accept_is : Rows.laid_unicode_utf8_acceptRanges = Lib.acceptData := by kernel_rfl
theorem u8types : Go.Proofs.U8Types Tryz.prog Tryz.lays197_ren := { Tryz.lays197 with }
theorem u8extra : Go.Proofs.U8Extra Tryz.prog Tryz.lays197_ren := { n3 := by kernel_rfl, n4 := by kernel_rfl, y3 := by kernel_rfl, y4 := by kernel_rfl, c5 := by kernel_rfl, c119 := by kernel_rfl, c138 := by kernel_rfl }
theorem glob_of {W : World} (hL : laidMet Tryz.prog tables W) (hsh : W.ShapedOpen Tryz.prog) : Glob W := by
  have h1 : Lib.VarReads Tryz.prog W "unicode/utf8.first" Lib.firstData := by rw [← first_is]; exact Lib.laidMet.reads hL (by simp [tables])
  have h2 : Lib.VarReads Tryz.prog W "unicode/utf8.acceptRanges" Lib.acceptData := by rw [← accept_is]; exact Lib.laidMet.reads hL (by simp [tables])
  have hT : Lib.Utf8Tabs 1 2 W := Go.Proofs.utf8Tabs_of_readsT u8types u8extra h1 h2
  refine ⟨Go.Proofs.cell_of_shapedOpen_int (zero := #[.int .i64 0]) (t := 3) hsh (of_decide_eq_true (by kernel_rfl)) (by kernel_rfl) rfl (by kernel_rfl) (by kernel_rfl) Tryz.underlying3, hT, ?_⟩
  have := World.block_lt_of_cell? W _ (hT.2 0 (by omega)).1
  have h : (2 : Nat) < W.heap.size := this
  omega

end Go.Proofs.YtjdijlaoeoikhaaGreatDoor

/- A row of definitions that was handed in, opened. -/
namespace Go.Proofs.YtjdijlaoeoikhaaGreatDoor
open Go.ChangeShapes Go.WideShapes Go.ChangeAt Go.RowKit

theorem weights_all {H : Type} {P : Program} {e : TypeId} : ∀ {ds : List (DataW H)} {d : DataW H}, d ∈ ds → ∀ n ∈ d.weights P e, n ∈ DataW.weightsAll P e ds
  | x :: r, d, hd, n, hn => by
    simp only [DataW.weightsAll, List.mem_append]
    rcases List.mem_cons.1 hd with rfl | h
    · exact Or.inl hn
    · exact Or.inr (weights_all h n hn)
theorem list3 {α : Type} : ∀ {l : List α}, l.length = 3 → ∃ a b c, l = [a, b, c]
  | [a, b, c], _ => ⟨a, b, c, rfl⟩
  | [], h => by simp at h
  | [_], h => by simp at h
  | [_, _], h => by simp at h
  | _ :: _ :: _ :: _ :: _, h => by simp at h
theorem und_def : ∃ f0 f1 f2 : Field, Tryz.prog.underlying 35 = some (.struct #[f0, f1, f2]) ∧ f0.offset = 0 ∧ f1.offset = 1 ∧ f2.offset = 2 ∧ f0.type = 9 ∧ f1.type = 9 ∧ f2.type = 9 := ⟨_, _, _, Tryz.underlying35, rfl, rfl, rfl, rfl, rfl, rfl⟩
theorem cells_def : Tryz.prog.cellsOf 35 = 3 := by kernel_rfl
theorem cells_str : Tryz.prog.cellsOf 9 = 1 := by kernel_rfl

theorem open_defs {H : Type} {enc : TypeId × Value → H} {w : World} {base : Nat} {spare : Nat → Bool} {held : Bool} {fuel : Nat} {a : Option Addr} {len cap : Nat} {x : DataW H × List MemPlace}
    (h : DataW.trod enc Tryz.prog w base spare held fuel 22 [.slice a len cap] = some x) (hw : ∀ n ∈ x.1.weights Tryz.prog 22, n ≤ reachBytes) :
    ∃ (b o : Nat) (lb de ti : Nat → Str8), (0 < len → a = some ⟨b, o, none⟩) ∧ (∀ i, i < len → w.cell? ⟨b, o + i * 3, none⟩ = some (strI (lb i)) ∧ w.cell? ⟨b, o + i * 3 + 1, none⟩ = some (strI (de i)) ∧ w.cell? ⟨b, o + i * 3 + 2, none⟩ = some (strI (ti i))) ∧ len ≤ maxLen ∧ ∀ i, (lb i).length ≤ 140737488355328 ∧ (de i).length ≤ 140737488355328 ∧ (ti i).length ≤ 140737488355328 := by
  have hrb : reachBytes ≤ 140737488355328 := by decide
  have hzero : ∃ (b o : Nat) (lb de ti : Nat → Str8), (0 < 0 → a = some ⟨b, o, none⟩) ∧ (∀ i, i < 0 → w.cell? ⟨b, o + i * 3, none⟩ = some (strI (lb i)) ∧ w.cell? ⟨b, o + i * 3 + 1, none⟩ = some (strI (de i)) ∧ w.cell? ⟨b, o + i * 3 + 2, none⟩ = some (strI (ti i))) ∧ 0 ≤ maxLen ∧ ∀ i, (lb i).length ≤ 140737488355328 ∧ (de i).length ≤ 140737488355328 ∧ (ti i).length ≤ 140737488355328 :=
    ⟨0, 0, fun _ => [], fun _ => [], fun _ => [], fun h => absurd h (Nat.lt_irrefl _), fun i hi => absurd hi (Nat.not_lt_zero _), Nat.zero_le _, fun i => ⟨Nat.zero_le _, Nat.zero_le _, Nat.zero_le _⟩⟩
  rcases Go.Deep.open_slice Tryz.underlying22 h with ⟨hcs, _⟩ | ⟨x0, l, c, m, n, D, Pl, hcs, hb, hl, hm, hmm, hx, hel⟩
  · cases hcs
    exact hzero
  · cases hcs
    have hlm : len ≤ m := by rw [hmm]; split <;> omega
    obtain ⟨f0, f1, f2, hu, o0, o1, o2, t0, t1, t2⟩ := und_def
    have each : ∀ i, i < len → ∃ q : Str8 × Str8 × Str8, (w.cell? (x0.add (i * 3)) = some (strI q.1) ∧ w.cell? (x0.add (i * 3 + 1)) = some (strI q.2.1) ∧ w.cell? (x0.add (i * 3 + 2)) = some (strI q.2.2)) ∧ q.1.length ≤ 140737488355328 ∧ q.2.1.length ≤ 140737488355328 ∧ q.2.2.length ≤ 140737488355328 := by
      intro i hi
      obtain ⟨cs', h1, h2⟩ := hel i (by omega)
      rw [cells_def] at h1
      obtain ⟨_, hlen, hcell⟩ := World.cells?_some h1
      obtain ⟨xs, k, hk, hxy, _, hxl, hf⟩ := DataW.trod_struct hu h2
      obtain ⟨y0, y1, y2, rfl⟩ := list3 (show xs.length = 3 from hxl)
      obtain ⟨v0, v1, v2, rfl⟩ := list3 hlen
      have g0 := hf 0 f0 rfl
      have g1 := hf 1 f1 rfl
      have g2 := hf 2 f2 rfl
      simp [o0, o1, o2, t0, t1, t2, cells_str] at g0 g1 g2
      obtain ⟨s0, e0, r0, _⟩ := DataW.trod_string Tryz.underlying9 g0
      obtain ⟨s1, e1, r1, _⟩ := DataW.trod_string Tryz.underlying9 g1
      obtain ⟨s2, e2, r2, _⟩ := DataW.trod_string Tryz.underlying9 g2
      cases e0
      cases e1
      cases e2
      subst r0
      subst r1
      subst r2
      have c0 := hcell 0 (by omega)
      have c1 := hcell 1 (by omega)
      have c2 := hcell 2 (by omega)
      rw [Go.Deep.add_add] at c0 c1 c2
      simp only [Prod.mk.injEq] at hxy
      have hD : D i = .agg [.lit (.string s0.data.toList), .lit (.string s1.data.toList), .lit (.string s2.data.toList)] := by simpa using hxy.1
      have hmem : D i ∈ (List.range len).map D := List.mem_map_of_mem (List.mem_range.2 hi)
      have hwt : ∀ z, z ∈ (D i).weights Tryz.prog 35 → z ≤ reachBytes := fun z hz => by
        refine hw z ?_
        rw [hx]
        simp only [DataW.weights, Tryz.underlying22]
        exact List.mem_cons_of_mem _ (List.mem_append_left _ (weights_all hmem z hz))
      have hws : (D i).weights Tryz.prog 35 = [s0.data.toList.length, s1.data.toList.length, s2.data.toList.length] := by
        rw [hD]
        simp [DataW.weights, hu, DataW.weightsEach, t0, t1, t2]
      rw [hws] at hwt
      have key : ∀ s : ByteArray, (.string s : Value) = strI s.data.toList := fun s => by simp
      refine ⟨(s0.data.toList, s1.data.toList, s2.data.toList), ⟨?_, ?_, ?_⟩, ?_, ?_, ?_⟩
      · rw [← key]; simpa using c0
      · rw [← key]; simpa using c1
      · rw [← key]; simpa using c2
      · exact Nat.le_trans (hwt _ (by simp)) hrb
      · exact Nat.le_trans (hwt _ (by simp)) hrb
      · exact Nat.le_trans (hwt _ (by simp)) hrb
    by_cases h00 : len = 0
    · subst h00
      exact hzero
    · obtain ⟨q, hq⟩ := Go.Deep.choose_lt each
      obtain ⟨b, off, spot⟩ := x0
      have hc := (hq 0 (by omega)).1.1
      have hspot : spot = none := by simpa [Addr.add] using World.cell?_spot hc
      subst hspot
      refine ⟨b, off, fun i => if i < len then (q i).1 else [], fun i => if i < len then (q i).2.1 else [], fun i => if i < len then (q i).2.2 else [], fun _ => rfl, fun i hi => ?_, by omega, fun i => ?_⟩
      · simp only [if_pos hi]
        obtain ⟨⟨g0, g1, g2⟩, _⟩ := hq i hi
        rw [add_off] at g0 g1 g2
        exact ⟨g0, g1, g2⟩
      · simp only
        split
        · rename_i hi
          exact (hq i hi).2
        · exact ⟨Nat.zero_le _, Nat.zero_le _, Nat.zero_le _⟩
end Go.Proofs.YtjdijlaoeoikhaaGreatDoor
