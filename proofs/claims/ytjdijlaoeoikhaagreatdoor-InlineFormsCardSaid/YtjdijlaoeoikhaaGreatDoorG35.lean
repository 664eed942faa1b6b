/- Several texts in one. -/
import Derived.Test.YtjdijlaoeoikhaaGreatDoorG31
import Derived.Test.YtjdijlaoeoikhaaGreatDoorIClose1
import Derived.Test.YtjdijlaoeoikhaaGreatDoorIClose2
import Derived.Test.YtjdijlaoeoikhaaGreatDoorIClose3
set_option linter.unusedVariables false
/- Package inline: take; what stands while it closes. -/
namespace Go.Proofs.YtjdijlaoeoikhaaGreatDoor
open Go.RowKit

def Pt.txt (p : Pt) (t : Str8) : Pt := { p with i := { p.i with text := t } }
theorem Pt.txt_self (p : Pt) : p.txt p.i.text = p := rfl
/-- The part's own block, as a guest. -/
def Gst (G : Nat → Obj → Prop) (pw : Nat) (p : Pt) (kv : Value) (t : Str8) : Nat → Obj → Prop := fun g o => G g o ∨ (g = pw ∧ o = .cells (iiCells (p.txt t).i kv ++ dlCells p.d).toArray 53 (0, 0))
theorem SnR.guest {G : Nat → Obj → Prop} {B sb : Nat} {w : World} {vp vo : Value} {xs : List Value} {s : Sn} (h : SnR G B w sb vp vo xs s) (p : Pt) (kv : Value) : SnR (Gst G w.heap.size p kv p.i.text) B (w.alloc (.cells (iiCells p.i kv ++ dlCells p.d).toArray 53)) sb vp vo xs s := by
  have hb : Below w.heap.size w (w.alloc (.cells (iiCells p.i kv ++ dlCells p.d).toArray 53)) := (Below.refl _ _).alloc (Nat.le_refl _) _
  have q := h.below hb
  refine ⟨q.blk, q.base, q.row, q.part, q.ops, fun g o hg => ?_⟩
  rcases hg with hg | ⟨rfl, rfl⟩
  · exact q.gst g o hg
  · refine ⟨heap_alloc_new w _, fun e => ?_, fun e => ?_, fun e => ?_⟩
    · have := blk.lt_of_block h.blk; omega
    · have := (h.row.lt _ e.symm).2; omega
    · have := (h.ops.lt _ e.symm).2; omega
theorem SnR.own {G : Nat → Obj → Prop} {B sb pw : Nat} {w : World} {vp vo : Value} {xs : List Value} {s : Sn} {p : Pt} {kv : Value} {t : Str8} (h : SnR (Gst G pw p kv t) B w sb vp vo xs s) : w.heap[pw]? = some (.cells (iiCells (p.txt t).i kv ++ dlCells p.d).toArray 53 (0, 0)) := (h.gst pw _ (.inr ⟨rfl, rfl⟩)).1
/-- The guest's text is written over. -/
theorem SnR.write {G : Nat → Obj → Prop} {B sb pw : Nat} {w : World} {vp vo : Value} {xs : List Value} {s : Sn} {p : Pt} {kv : Value} {t : Str8} (h : SnR (Gst G pw p kv t) B w sb vp vo xs s) (hG : ∀ g o, G g o → g ≠ pw) (t' : Str8) : SnR (Gst G pw p kv t') B (w.setCell ⟨pw, 1, none⟩ (strW t')) sb vp vo xs s := by
  have ho := h.own
  have q := h.gst pw _ (.inr ⟨rfl, rfl⟩)
  have hk : ∀ g, g ≠ pw → (w.setCell ⟨pw, 1, none⟩ (strW t')).heap[g]? = w.heap[g]? := fun g hg => Below.heap_setCell _ _ _ _ (by simpa using hg)
  refine ⟨(hk sb (fun e => q.2.1 e.symm)).trans h.blk, h.base, irow_keeps h.row (fun g hg => hk g (fun e => q.2.2.1 (by rw [hg, e]))), PartI.stay ((KeepI.refl w).set ho (by decide) 1 _) _ _ h.part, irow_keeps h.ops (fun g hg => hk g (fun e => q.2.2.2 (by rw [hg, e]))), fun g o hg => ?_⟩
  rcases hg with hg | ⟨rfl, rfl⟩
  · have r := h.gst g o (.inl hg)
    exact ⟨(hk g (hG g o hg)).trans r.1, r.2⟩
  · exact ⟨blk.set_blk ho 1 (strW t'), q.2⟩
theorem SnR.alone {G : Nat → Obj → Prop} {B sb pw : Nat} {w : World} {vp vo : Value} {xs : List Value} {s : Sn} {p : Pt} {kv : Value} {t : Str8} (h : SnR (Gst G pw p kv t) B w sb vp vo xs s) : SnR G B w sb vp vo xs s :=
  ⟨h.blk, h.base, h.row, h.part, h.ops, fun g o hg => h.gst g o (.inl hg)⟩

def tlen (pw : Nat) (w : World) : Nat := match w.cell? ⟨pw, 1, none⟩ with
  | some (.string b) => b.size
  | _ => 0
theorem SnR.tlen {G : Nat → Obj → Prop} {B sb pw : Nat} {w : World} {vp vo : Value} {xs : List Value} {s : Sn} {p : Pt} {kv : Value} {t : Str8} (h : SnR (Gst G pw p kv t) B w sb vp vo xs s) : Go.Proofs.YtjdijlaoeoikhaaGreatDoor.tlen pw w = t.length := by
  unfold Go.Proofs.YtjdijlaoeoikhaaGreatDoor.tlen
  rw [blk.cell_blk h.own (i := 1) rfl]
  exact size_list t

theorem Sn.take_is {s s1 : Sn} {p p1 : Pt} (h : Sn.closeF (p.i.text.length + 1) s p = (s1, p1)) : s.take p = { parts := s1.parts ++ [p1], openers := s1.openers ++ (if p1.d.opens = true ∧ p1.i.text ≠ [] then [s1.parts.length] else []) } := by
  unfold Sn.take
  simp only [h]
theorem Sn.closeF_stop {f : Nat} {s : Sn} {p : Pt} (h : p.d.closes = false ∨ p.i.text = []) : Sn.closeF f s p = (s, p) := by
  cases f with
  | zero => rfl
  | succ f =>
    unfold Sn.closeF
    rw [if_neg]
    rintro ⟨h1, h2⟩
    rcases h with h | h
    · rw [h] at h1; cases h1
    · exact h2 h
theorem Sn.closeF_none {f : Nat} {s : Sn} {p : Pt} (h : s.openerF p.d s.openers.length = none) : Sn.closeF f s p = (s, p) := by
  cases f with
  | zero => rfl
  | succ f =>
    unfold Sn.closeF
    split
    · rw [h]
    · rfl
theorem Sn.closeF_some {f i : Nat} {s : Sn} {p : Pt} (h1 : p.d.closes = true) (h2 : p.i.text ≠ []) (h : s.openerF p.d s.openers.length = some i) : Sn.closeF (f + 1) s p = Sn.closeF f (s.close i p.i.text.length) (p.txt (p.i.text.drop (s.used i p.i.text.length))) := by
  rw [Sn.closeF, if_pos ⟨h1, h2⟩, h]
  rfl

end Go.Proofs.YtjdijlaoeoikhaaGreatDoor

/- Package inline: close; its contract. -/
namespace Go.Proofs.YtjdijlaoeoikhaaGreatDoor
open Go.RowKit

theorem iclose_any {G : Nat → Obj → Prop} {B sb N M : Nat} {w : World} {vp vo : Value} {xs : List Value} {s : Sn} (h : SnR G B w sb vp vo xs s) (ho : s.Ok N M) (hN : N ≤ 4294967296) {i k left : Nat} {p : Pt} (hi : s.openers[i]? = some k) (hp : s.parts[k]? = some p) (hl : 1 ≤ left) (hl2 : left ≤ 4294967296) :
    Calls Tryz.prog 41 #[ptrB sb, .int .i64 (i : Int), .int .i64 (left : Int)] w fun e w' => e = .returned (.int .i64 (s.used i left : Int)) ∧ (∃ vp' vo' xs', SnR G B w' sb vp' vo' xs' (s.close i left)) ∧ Below B w w' := by
  by_cases h2 : 2 ≤ p.i.text.length ∧ 2 ≤ left
  · exact iclose_two h ho hN hi hp hl hl2 h2
  · rcases Nat.lt_or_ge p.i.text.length 2 with h3 | h3
    · exact iclose_one h ho hN hi hp hl hl2 h2 h3
    · exact iclose_last h ho hN hi hp hl hl2 h2 h3


end Go.Proofs.YtjdijlaoeoikhaaGreatDoor
