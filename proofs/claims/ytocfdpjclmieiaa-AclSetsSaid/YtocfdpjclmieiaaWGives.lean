/- AclGives: who was given a right has it, and nobody else has another one than before; walked. -/
import Derived.Test.YtocfdpjclmieiaaASet2
import Derived.Test.YtocfdpjclmieiaaASame
import Derived.Test.YtocfdpjclmieiaaAMid
import Derived.Test.YtocfdpjclmieiaaPlainGives
set_option linter.unusedVariables false
namespace Go.Proofs.Ytocfdpjclmieiaa
open Go.RowKit

def ShA (a : Option Addr) (n cap : Nat) : Prop := (n ≤ cap ∧ cap ≤ 9223372036854775807) ∧ ((a = none ∧ n = 0 ∧ cap = 0) ∨ (∃ b o, a = some ⟨b, o, none⟩) ∨ ∃ ad, a = some ad ∧ n = 0 ∧ cap = 0)
theorem aset_all (l : List GrA) (hle : Lens l) (g : GrA) (hg : g.who.length ≤ 9223372036854775000) (a : Option Addr) (cap : Nat) (hs : ShA a l.length cap) (w : World) (hv : GrsAt w (.slice a l.length cap) l) : Calls Try.prog 16 #[.slice a l.length cap, aggA g] w fun e w' => (if errA l g = 0 then ∃ v', e = .returned (.tuple #[v', .int .i64 0]) ∧ w'.ownsRow w.heap.size 33 3 v' (setL l g).length (grCs (setL l g)) else e = .returned (.tuple #[.slice none 0 0, .int .i64 (errA l g)])) ∧ Below w.heap.size w w' := by
  by_cases hb : rightA l = false ∨ fitsA g 0 = false
  · have he : errA l g = 1 := by unfold errA; rw [if_pos hb]
    refine (aset_bad l hle g hg _ w hv hb).mono ?_
    rintro e w' ⟨q, hbl⟩
    rw [if_neg (by rw [he]; decide), he]
    exact ⟨q, hbl⟩
  · have hr : rightA l = true := by cases h : rightA l <;> simp_all
    have hf : fitsA g 0 = true := by cases h : fitsA g 0 <;> simp_all
    obtain ⟨hc, h | h | ⟨ad, h1, h2, h3⟩⟩ := hs
    · exact aset_ok l hle g hg a cap hc (Or.inl ⟨h.1, List.length_eq_zero_iff.1 h.2.1, h.2.2⟩) w hv hr hf
    · exact aset_ok l hle g hg a cap hc (Or.inr h) w hv hr hf
    · obtain rfl := List.length_eq_zero_iff.1 h2
      subst h1
      subst h3
      have he : errA [] g = 0 := by unfold errA; rw [if_neg hb, if_neg (by simp)]
      refine (aset_zero g hg ad w hf).mono ?_
      rintro e w' ⟨q, hbl⟩
      rw [if_pos he]
      exact ⟨q, hbl⟩
theorem sha_row {w : World} {B : Nat} {v : Value} {l : List GrA} (h : w.ownsRow B 33 3 v l.length (grCs l)) : ∃ a cap, v = .slice a l.length cap ∧ ShA a l.length cap := by
  obtain ⟨a, cap, h1, h2, h3⟩ := grs_shape h
  refine ⟨a, cap, h1, h2, ?_⟩
  rcases h3 with ⟨p, q, r⟩ | h3
  · exact Or.inl ⟨p, by rw [q]; rfl, r⟩
  · exact Or.inr (Or.inl h3)
theorem lens_setG {l : List GrA} (hs : Asc l) (h : Lens l) (g : GrA) (hg : g.who.length ≤ 9223372036854775000) : Lens (setL l g) := fun x hx => by
  rcases (set_mem hs g x).1 hx with h1 | h1
  · exact h x h1.1
  · rw [h1.1]; exact hg

end Go.Proofs.Ytocfdpjclmieiaa
