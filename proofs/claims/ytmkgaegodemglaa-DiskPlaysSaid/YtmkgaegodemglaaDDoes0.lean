/- does: a step on a disk and on the document's; walked. -/
import Derived.Test.YtmkgaegodemglaaDPair
import Derived.Deep.CutRange
set_option linter.unusedVariables false
namespace Go.Proofs.Ytmkgaegodemglaa
open Go.RowKit

/-- The step's own block. -/
structure BxR (w0 w wx : World) (kind : Int) (n tn : Nm) (ba : Option Addr) (bl bc : Nat) (k : Int) (keep : Nat) (l : List UInt8) : Prop where
  below : Below w.heap.size w wx
  blk : wx.heap[w.heap.size]? = some (.cells #[.int .i64 kind, strN n, strN tn, .slice ba bl bc, .int .i64 k, .int .u64 (keep : Int)] 32 (0, 0))
  row : BRow w0 ba bl bc l
  cap : bl ≤ bc
  le : bl ≤ 3000
theorem BRow.grown {w w' : World} {g : Nat} {own : Option Nat} {len cap : Nat} {l : List UInt8} (h : BRow w (some ⟨g, 0, none⟩) len cap l) (hg : w.grownBy w' own) (hne : own ≠ some g) : BRow w' (some ⟨g, 0, none⟩) len cap l := by
  refine ⟨h.1, ?_⟩
  rcases h.2 with ⟨h2, _⟩ | ⟨x, h2, hc⟩
  · cases h2
  · cases h2
    refine .inr ⟨_, rfl, fun j hj => ?_⟩
    have := hc j hj
    have hlt := World.block_lt_of_cell? w _ this
    have e : (⟨g, 0, none⟩ : Addr).add j = ⟨g, j, none⟩ := by unfold Addr.add; split <;> simp_all
    rw [e] at this hlt ⊢
    rw [World.cell?_of_block (w := w) (hg.block g hlt (fun e => hne e.symm))]
    exact this
def AppG (w : World) (B : Nat) (own : Option Nat) (l : List UInt8) (vo : Value) (w2 : World) : Prop := OwnB w2 B vo l ∧ Below B w w2 ∧ w.grownBy w2 own ∧ ∃ a m c, vo = .slice a m c ∧ m = l.length
theorem app_bytesG {w : World} {B : Nat} {v : Value} {acc l : List UInt8} {a : Option Addr} {len cap : Nat} (hown : OwnB w B v acc) (h : BRow w a len cap l) (hlen : acc.length + len ≤ 140737488355328) (hB : B ≤ w.heap.size) (ty : TypeId) :
    ∃ vo w2, (Builtin.append_ #[29, 29] ty #[v, .slice a len cap]).run Try.prog w = .ok vo w2 ∧ AppG w B v.ownBlock (acc ++ l) vo w2 := by
  have hw : OwnB w 0 v acc := ownB_lower hown
  obtain ⟨vo, w2, h1, h2, h3, h4⟩ := append_row hw h hlen ty
  have h5 : Below B w w2 := below_grownF hB hown h3
  obtain ⟨a', c', e⟩ := own_slice h2
  refine ⟨vo, w2, h1, ⟨h2.1, ?_⟩, h5, h3, a', _, c', e, rfl⟩
  rcases h2.2 with q | ⟨g, cp, cr, e1, _, r⟩
  · exact .inl q
  · refine .inr ⟨g, cp, cr, e1, ?_, r⟩
    have hv : vo.ownBlock = some g := by rw [e1]; rfl
    rcases h4 with q | q
    · rw [hv] at q
      rcases hown.2 with ⟨e2, _⟩ | ⟨g2, _, _, e2, hB2, _⟩
      · rw [e2] at q; cases q
      · rw [e2] at q; cases q; exact hB2
    · rw [hv] at q; cases q; exact hB
/-- Bytes lent, in memory of their own. -/
def LnR (w wx : World) (av : Option Addr) (bl cv : Nat) (l : List UInt8) : Prop := OwnB wx (w.heap.size + 1) (.slice av bl cv) l

end Go.Proofs.Ytmkgaegodemglaa
