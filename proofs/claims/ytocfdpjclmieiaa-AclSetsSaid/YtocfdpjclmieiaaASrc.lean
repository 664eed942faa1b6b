/- An append of whatever row came in; a row of grants as a source. -/
import Derived.Test.YtocfdpjclmieiaaWGives
import Derived.Test.YtocfdpjclmieiaaXSet
set_option linter.unusedVariables false
namespace Go.Proofs.Ytocfdpjclmieiaa
open Go.RowKit

theorem wpList_append_src {P : Program} {w : World} {ops : Array Oper} {rest : List Oper} {o : Oper} {a : Act} {Q : Exit → Act → World → Prop} (hgd : o.guard = none) (s x : Operand) (t : TypeId)
    (ho : o.op = .call { callee := .builtin .append, args := #[s, x], argTypes := #[t, t] })
    (base : Nat) (e : TypeId) (i : TypeInfo) (z : Value) (size bytes : Nat) (ht : P.underlying t = some (.slice e)) (hi : P.info? e = some i) (hz : i.zero = some z)
    (hsize : i.size = size) (hby : i.bytes = bytes) (hzs : z.cells.size = size) (hsz : 0 < size)
    (v : Value) (n : Nat) (xs : List Value) (hs : a.eval s = v) (hown : w.ownsRow base e size v n xs)
    (sa : Option Addr) (m c : Nat) (news : List Value) (hx : a.eval x = .slice sa m c)
    (hsrc : (sa = none ∧ m = 0 ∧ c = 0 ∧ news = []) ∨ ∃ ad, sa = some ad ∧ news.length = m * size ∧ (∀ j u, news[j]? = some u → w.cell? (ad.add j) = some u) ∧ ∀ u ∈ news, u.oneCell' = true)
    (h63 : n + m ≤ maxLen) (hbytes : (n + m) * bytes ≤ 140737488355328) (hbase : base ≤ w.heap.size)
    (h : ∀ v' w', w'.ownsRow base e size v' (n + m) (xs ++ news) → Below base w w' → wpList P ops Q rest (a.put o.dst v') w') :
    wpList P ops Q (o :: rest) a w := by
  rcases hsrc with ⟨rfl, rfl, rfl, rfl⟩ | ⟨ad, rfl, hl, hnews, h1⟩
  · refine wpList_append_own_none hgd s x t ho base e i size ht hi v n xs hs hown hx ?_
    exact h v w (by rw [List.append_nil]; exact hown) (Below.refl _ _)
  · refine wpList_append_own_at (P := P) w hgd s x t ho base e i z size bytes ht hi hz hsize hby hzs hsz v n xs hs hown ad m c news hx hl hnews h1 h63 hbytes hbase ?_
    intro v' w' q1 q2 _ _
    exact h v' w' q1 ((Below.refl _ _).grown q2 hbase (fun k hk => (World.ownsRow.lt hown k hk).1))
theorem grs_src {w : World} {a : Option Addr} {cap : Nat} {l : List GrA} (sh : ShA a l.length cap) (hv : GrsAt w (.slice a l.length cap) l) : (a = none ∧ l.length = 0 ∧ cap = 0 ∧ grCs l = []) ∨ ∃ ad, a = some ad ∧ (grCs l).length = l.length * 3 ∧ (∀ j u, (grCs l)[j]? = some u → w.cell? (ad.add j) = some u) ∧ ∀ u ∈ grCs l, u.oneCell' = true := by
  obtain ⟨_, ⟨h1, h2, h3⟩ | ⟨b, o, h1⟩ | ⟨ad, h1, h2, h3⟩⟩ := sh
  · refine .inl ⟨h1, h2, h3, ?_⟩
    rw [List.length_eq_zero_iff.1 h2]
    rfl
  · subst h1
    refine .inr ⟨_, rfl, grCs_len l, fun j u hj => ?_, grCs_one l⟩
    have := grs_cells hv 0 l.length j u (by simpa using hj)
    simpa using this
  · have : l = [] := List.length_eq_zero_iff.1 h2
    subst this
    exact .inr ⟨ad, h1, rfl, fun j u hj => (by cases hj), fun u hu => (by cases hu)⟩
/-- The row that a Set answers. -/
def rowE (E : Int) (L : List GrA) : List GrA := if E = 0 then L else []
theorem setP_row {E : Int} {L : List GrA} {w w' : World} {e : Ending} (h : SetP E L w e w') : (∃ v', e = .returned (.tuple #[v', .int .i64 E]) ∧ w'.ownsRow w.heap.size 33 3 v' (rowE E L).length (grCs (rowE E L))) ∧ Below w.heap.size w w' := by
  refine ⟨?_, h.2⟩
  have h1 := h.1
  unfold rowE
  by_cases q : E = 0
  · rw [if_pos q] at h1 ⊢
    rw [q]
    exact h1
  · rw [if_neg q] at h1 ⊢
    exact ⟨_, h1, World.ownsRow_nil _ _ _ _⟩
theorem rowE_len (l : List GrA) (g : GrA) : (rowE (errA l g) (setL l g)).length ≤ l.length + 1 := by
  have := set_len (l := l) g
  unfold rowE
  split
  · split at this <;> split at this <;> omega
  · simp
theorem grs_nil (w : World) (a : Option Addr) (c : Nat) : GrsAt w (.slice a 0 c) [] := ⟨a, c, rfl, fun i g h => by cases h⟩
/-- A row without its last one. -/
theorem grs_front {w : World} {a : Option Addr} {n c : Nat} {l m : List GrA} (h : GrsAt w (.slice a n c) (l ++ m)) : GrsAt w (.slice a l.length c) l := by
  obtain ⟨a', c', e, hc⟩ := h
  cases e
  refine ⟨a, c, rfl, fun i g hg => ?_⟩
  refine hc i g ?_
  rw [List.getElem?_append_left (List.getElem?_eq_some_iff.1 hg).1]
  exact hg
end Go.Proofs.Ytocfdpjclmieiaa
