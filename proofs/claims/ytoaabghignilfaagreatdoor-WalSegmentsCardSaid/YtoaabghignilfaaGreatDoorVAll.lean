/- A log, and a row of texts of a law's own beside it. -/
import Derived.Test.YtoaabghignilfaaGreatDoorVStr
import Derived.Test.YtoaabghignilfaaGreatDoorV08
set_option linter.unusedVariables false
namespace Go.Proofs.YtoaabghignilfaaGreatDoor
open Go.RowKit

theorem info_str : (Tryz.prog.info? 9).map (fun i => (i.zero, i.size, i.bytes)) = some (some (.string ⟨#[]⟩), 1, 16) := by kernel_rfl
structure AlS (w0 : World) (b m p : Nat) (d : Dk) (L : List Sg) (v : Value) (xs : List Nm) (w : World) : Prop where
  lg : LgS w0 b m p d L (fun k => v.ownBlock = some k) w
  own : OwnS w w0.heap.size v xs
theorem AlS.kps {w0 : World} {b m p p' : Nat} {d d' : Dk} {L L' : List Sg} {v : Value} {xs : List Nm} {w w' : World} (h : AlS w0 b m p d L v xs w) (hl : LgS w0 b m p' d' L' (fun k => v.ownBlock = some k) w') (hk : Kps (fun k => v.ownBlock = some k) w w') : AlS w0 b m p' d' L' v xs w' := ⟨hl, h.own.keep (fun g hg => hk.2 g hg)⟩
theorem AlS.below {w0 : World} {b m p : Nat} {d : Dk} {L : List Sg} {v : Value} {xs : List Nm} {w w' : World} (h : AlS w0 b m p d L v xs w) (hb : Below w.heap.size w w') : AlS w0 b m p d L v xs w' :=
  h.kps (h.lg.same hb).1 (h.lg.same hb).2
/-- A text more. -/
def PushedS (w : World) (v : Value) (xs : List Nm) (x : Nm) (B : Nat) (vo : Value) (w2 : World) : Prop := OwnS w2 B vo (xs ++ [x]) ∧ w.grownBy w2 v.ownBlock ∧ ∀ g, vo.ownBlock = some g → v.ownBlock = some g ∨ w.heap.size ≤ g
theorem append_text {w : World} {B : Nat} {v : Value} {xs : List Nm} (h : OwnS w B v xs) (hB : B ≤ w.heap.size) (y : Addr) (c : Nat) (x : Nm) (hx : w.cell? y = some (strN x)) (hl : xs.length + 1 ≤ 1048577) (ty : TypeId) :
    ∃ vo w2, (Builtin.append_ #[46, 46] ty #[v, .slice (some y) 1 c]).run Tryz.prog w = .ok vo w2 ∧ PushedS w v xs x B vo w2 := by
  obtain ⟨i0, hi, hz0, hz1, hz2⟩ := info_parts info_str
  obtain ⟨vo, w2, hr, h4, h5, _, h6⟩ := run_append_own_at (P := Tryz.prog) w B 46 ty 9 i0 (.string ⟨#[]⟩) 1 16 Tryz.underlying46 hi hz0 hz1 hz2 rfl (by decide) v xs.length (nmCells xs) h y 1 c [strN x] rfl
    (by
      intro j u hj
      have hj0 : j = 0 := by
        have := (List.getElem?_eq_some_iff.1 hj).1
        simpa using this
      subst hj0
      simp at hj
      rw [← hj, Addr.add_zero']
      exact hx)
    (by intro u hu; simp at hu; rw [hu]; rfl) (by unfold maxLen; omega) (by omega) hB
  refine ⟨vo, w2, hr, ?_, h5, ?_⟩
  · show w2.ownsRow _ _ _ _ (xs ++ [x]).length _
    rw [List.length_append, (show nmCells (xs ++ [x]) = nmCells xs ++ [strN x] from List.map_append)]
    exact h4
  · intro g hg
    rcases h6 with e | e
    · exact .inl (e ▸ hg)
    · rw [e] at hg
      exact .inr (by have := Option.some.inj hg; omega)
theorem AlS.push {w0 : World} {b m p : Nat} {d : Dk} {L : List Sg} {v vo : Value} {xs : List Nm} {x : Nm} {w w2 : World} (h : AlS w0 b m p d L v xs w) (hp : PushedS w v xs x w0.heap.size vo w2) : AlS w0 b m p d L vo (xs ++ [x]) w2 := by
  obtain ⟨h1, h2, h3⟩ := hp
  refine ⟨h.lg.own (G' := fun k => vo.ownBlock = some k) ⟨h2.os, h2.tape, h2.output, h2.size, fun k hk hn => h2.block k hk (fun e => hn e.symm)⟩ (fun k hk => (h.own.lt hk).1) (fun k hk => ⟨(h1.lt hk).2, h3 k hk⟩), h1⟩
/-- The first texts. -/
theorem ownS_take {w : World} {B : Nat} {a : Option Addr} {n c : Nat} {xs : List Nm} (h : OwnS w B (.slice a n c) xs) (k : Nat) (hk : k ≤ xs.length) (hne : xs ≠ []) : OwnS w B (.slice a k c) (xs.take k) := by
  have hl : (xs.take k).length = k := by rw [List.length_take]; omega
  rcases h.2 with ⟨_, h0⟩ | ⟨g, cap, cur, hv, hB, hg, h1, h2, h3, h4⟩
  · exact absurd (List.eq_nil_of_length_eq_zero h0) hne
  · have ea : a = some ⟨g, 0, none⟩ := congrArg (fun v => match v with | Value.slice a _ _ => a | _ => a) hv
    have ec : c = cap := congrArg (fun v => match v with | Value.slice _ _ c => c | _ => c) hv
    subst ea ec
    refine ⟨by simp [nmCells], .inr ⟨g, c, cur, by rw [hl], hB, hg, by omega, h2, h3, ?_⟩⟩
    rw [hl]
    have e1 : nmCells (xs.take k) = (nmCells xs).take k := by simp [nmCells, List.map_take]
    rw [e1, ← h4, List.take_take, Nat.mul_one, Nat.mul_one, Nat.min_eq_left hk]
theorem AlS.cut {w0 : World} {b m p : Nat} {d : Dk} {L : List Sg} {a : Option Addr} {n c : Nat} {xs : List Nm} {w : World} (h : AlS w0 b m p d L (.slice a n c) xs w) (k : Nat) (hk : k ≤ xs.length) (hne : xs ≠ []) : AlS w0 b m p d L (.slice a k c) (xs.take k) w := by
  obtain ⟨S, T, vs, q, h1, h2, h3⟩ := h.lg
  exact ⟨⟨S, T, vs, q, h1, h2, fun j hj => h3 j (ob_same hj)⟩, ownS_take h.own k hk hne⟩
end Go.Proofs.YtoaabghignilfaaGreatDoor
