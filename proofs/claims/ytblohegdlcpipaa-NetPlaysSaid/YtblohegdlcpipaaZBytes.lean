/- Rows of bytes: those that a call owns, and those that it may read. -/
import Derived.Test.YtblohegdlcpipaaBase
import Derived.Deep.RegionLaw
import Derived.Laws.BitsAllLaws
import Derived.Laws.Bits64b
import Derived.Laws.AppendOwnNone
import Derived.Laws.BytesArg
set_option linter.unusedVariables false
namespace Go.Proofs.Ytblohegdlcpipaa
open Go.RowKit

/-- Bytes that a call owns. -/
abbrev OwnB (w : World) (B : Nat) (v : Value) (acc : List UInt8) : Prop := w.ownsRow B 5 1 v acc.length (Lib.byteCells acc)

theorem own_push {w : World} {B : Nat} {v : Value} {acc l : List UInt8} {n : Nat} {xs : List Value} (h : w.ownsRow B 5 1 v (acc.length + n) (Lib.byteCells acc ++ xs)) (hn : l.length = n) (hx : Lib.byteCells l = xs) : OwnB w B v (acc ++ l) := by
  subst hn hx
  show w.ownsRow _ _ _ _ (acc ++ l).length _
  rw [List.length_append, Lib.byteCells_append]
  exact h

/-- What is told of a function that writes bytes behind those that it is handed. -/
abbrev Wrote (B : Nat) (w : World) (acc l : List UInt8) (e : Ending) (w' : World) : Prop := ∃ v', e = .returned v' ∧ OwnB w' B v' (acc ++ l) ∧ Below B w w'

theorem below_drew {B : Nat} {w0 w : World} (h : Below B w0 w) : Below B w0 w.drew := h.trans ⟨rfl, rfl, rfl, Nat.le_refl _, fun k hk => rfl⟩
theorem below_drewN {B : Nat} {w0 w : World} (h : Below B w0 w) (n : Nat) : Below B w0 (w.drewN n) := h.trans ⟨rfl, rfl, rfl, Nat.le_refl _, fun k hk => rfl⟩

theorem byteCells_one (c : UInt8) : Lib.byteCells [c] = [.int .u8 (c.toNat : Int)] := by simp [Lib.byteCells]

/-- Bytes that may be read. -/
def BRow (w : World) (a : Option Addr) (len cap : Nat) (l : List UInt8) : Prop :=
  l.length = len ∧ ((a = none ∧ len = 0 ∧ cap = 0) ∨ ∃ x, a = some x ∧ ∀ j (h : j < l.length), w.cell? (x.add j) = some (.int .u8 (l[j].toNat : Int)))

theorem BRow.below {w w' : World} {a : Option Addr} {len cap : Nat} {l : List UInt8} (h : BRow w a len cap l) (hb : Below w.heap.size w w') : BRow w' a len cap l := by
  refine ⟨h.1, ?_⟩
  rcases h.2 with h2 | ⟨x, h2, hc⟩
  · exact .inl h2
  · refine .inr ⟨x, h2, fun j hj => ?_⟩
    have := hc j hj
    have hlt := World.block_lt_of_cell? w _ this
    rw [hb.cell hlt]
    exact this

theorem BRow.at {w : World} {a : Option Addr} {len cap : Nat} {l : List UInt8} (h : BRow w a len cap l) (j : Nat) (hj : j < len) : ∃ x, a = some x ∧ w.cell? (x.add j) = some (.int .u8 ((l.getD j 0).toNat : Int)) := by
  have hl := h.1
  rcases h.2 with ⟨_, h2, _⟩ | ⟨x, h2, hc⟩
  · omega
  · refine ⟨x, h2, ?_⟩
    rw [hc j (by omega)]
    congr 4
    simp [List.getD_eq_getElem?_getD, hl ▸ hj]

theorem BRow.string {w : World} {a : Option Addr} {len cap : Nat} {l : List UInt8} (h : BRow w a len cap l) : (convert 32 9 (.slice a len cap)).run Try.prog w = .ok (.string ⟨l.toArray⟩) w := by
  obtain ⟨rfl, h2⟩ := h
  rcases h2 with ⟨rfl, h3, rfl⟩ | ⟨x, rfl, hc⟩
  · have hl : l = [] := List.eq_nil_of_length_eq_zero h3
    subst hl
    exact run_convert_bytes_nil w 32 5 Try.underlying32 Try.underlying5 0 0 9 Try.underlying9
  · exact run_convert_bytes_back w 32 9 5 x cap l Try.underlying32 Try.underlying5 Try.underlying9 hc

theorem own_slice {w : World} {B : Nat} {v : Value} {l : List UInt8} (h : OwnB w B v l) : ∃ a cap, v = .slice a l.length cap := by
  rcases h.2 with ⟨rfl, h0⟩ | ⟨g, cap, cur, rfl, _⟩
  · exact ⟨none, 0, by rw [h0]⟩
  · exact ⟨_, _, rfl⟩

theorem own_brow {w : World} {B : Nat} {a : Option Addr} {cap : Nat} {l : List UInt8} (h : OwnB w B (.slice a l.length cap) l) : BRow w a l.length cap l := by
  refine ⟨rfl, ?_⟩
  rcases h.2 with ⟨h1, h0⟩ | ⟨g, cap', cur, h1, _⟩
  · left
    have := congrArg (fun v => match v with | Value.slice a _ _ => a | _ => a) h1
    have hc := congrArg (fun v => match v with | Value.slice _ _ c => c | _ => cap) h1
    exact ⟨this, h0, hc⟩
  · have ha : a = some ⟨g, 0, none⟩ := congrArg (fun v => match v with | Value.slice a _ _ => a | _ => a) h1
    subst ha
    refine .inr ⟨_, rfl, fun j hj => ?_⟩
    refine h.cells (g := g) rfl j _ ?_
    simp [Lib.byteCells, hj]

/-- Bytes that may be read, put behind bytes that the call owns. -/
theorem append_brow {w : World} {B : Nat} {v : Value} {acc l : List UInt8} {a : Option Addr} {len cap : Nat} (hown : OwnB w B v acc) (h : BRow w a len cap l) (hlen : acc.length + len ≤ 140737488355328) (hB : B ≤ w.heap.size) (ty : TypeId) :
    ∃ vo w2, (Builtin.append_ #[32, 32] ty #[v, .slice a len cap]).run Try.prog w = .ok vo w2 ∧ OwnB w2 B vo (acc ++ l) ∧ Below B w w2 := by
  obtain ⟨i0, hi, hz0, hz1, hz2⟩ := info_parts info5
  obtain ⟨rfl, h2⟩ := h
  rcases h2 with ⟨rfl, h3, rfl⟩ | ⟨x, rfl, hc⟩
  · have hl : l = [] := List.eq_nil_of_length_eq_zero h3
    subst hl
    exact ⟨_, _, run_append_owned_none (P := Try.prog) _ B 32 ty 5 i0 1 Try.underlying32 hi _ _ _ hown, by simpa using hown, Below.refl _ _⟩
  · obtain ⟨vo, w2, hr, h4, h5, _⟩ := run_append_own (P := Try.prog) w B 32 ty 5 i0 (.int .u8 0) 1 1 Try.underlying32 hi hz0 hz1 hz2 rfl (by decide) v acc.length (Lib.byteCells acc) hown x l.length cap (Lib.byteCells l) (by rw [Lib.byteCells_length]; omega)
      (by
        intro j u hj
        have hjl : j < l.length := by
          have := (List.getElem?_eq_some_iff.1 hj).1
          rwa [Lib.byteCells_length] at this
        simp [Lib.byteCells, hjl] at hj
        rw [← hj]; exact hc j hjl)
      (by intro u hu; simp only [Lib.byteCells, List.mem_map] at hu; obtain ⟨_, _, rfl⟩ := hu; rfl)
      (by unfold maxLen; omega) (by omega) hB
    exact ⟨vo, w2, hr, own_push h4 rfl rfl, below_grown0 (Below.refl _ _) hB hown h5⟩

theorem wpList_copy {w : World} {B : Nat} {v : Value} {acc l : List UInt8} {a : Option Addr} {len cap : Nat} (hown : OwnB w B v acc) (h : BRow w a len cap l) (hlen : acc.length + len ≤ 140737488355328) (hB : B ≤ w.heap.size)
    {ops : Array Oper} {rest : List Oper} {o : Oper} {c : Act} {Q : Exit → Act → World → Prop} (hgd : o.guard = none) (sl x : Operand)
    (ho : o.op = .call { callee := .builtin .append, args := #[sl, x], argTypes := #[32, 32] })
    (hs : c.eval sl = v) (hx : c.eval x = .slice a len cap)
    (hk : ∀ vo w2, OwnB w2 B vo (acc ++ l) → Below B w w2 → wpList Try.prog ops Q rest (c.put o.dst vo) w2) :
    wpList Try.prog ops Q (o :: rest) c w := by
  refine wpList_plain hgd fun K hK => ?_
  obtain ⟨vo, w2, hr, h2, h3⟩ := append_brow hown h hlen hB o.type
  unfold Oper.wp execOp
  simp only [ho, resolve, invoke, builtin, Sem.run_bind, Sem.run_pure, Result.andThen_ok, List.map_toArray, List.map_cons, List.map_nil, hs, hx, hr]
  exact hK _ _ (hk vo w2 h2 h3)

theorem own_nil (w : World) (B : Nat) : OwnB w B (.slice none 0 0) [] := ⟨rfl, .inl ⟨rfl, rfl⟩⟩

theorem own_below2 {w w' : World} {B : Nat} {v : Value} {l : List UInt8} (h : OwnB w B v l) (hb : Below w.heap.size w w') : OwnB w' B v l := own_below h hb

/-- One byte, just built, may be read. -/
theorem brow_one (w : World) (z : Int) (c : UInt8) (hz : z = (c.toNat : Int)) (cap : Nat) : BRow (w.alloc (.cells #[.int .u8 z] 5)) (some ⟨w.heap.size, 0, none⟩) 1 cap [c] := by
  subst hz
  refine ⟨rfl, .inr ⟨_, rfl, fun j hj => ?_⟩⟩
  have h0 : j = 0 := by simp at hj; omega
  subst h0
  simpa using lit_cells w [.int .u8 (c.toNat : Int)] 5 0 _ rfl
end Go.Proofs.Ytblohegdlcpipaa
