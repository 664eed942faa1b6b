/- A place in a string, told by what stands from there on. -/
import Derived.Test.YtadghfgjdfgopaaDoorBase
import Derived.Test.YtadghfgjdfgopaaDoorPlainSpan
set_option linter.unusedVariables false
namespace Go.Proofs.YtadghfgjdfgopaaDoor

def pos (s : ByteArray) (l : List UInt8) : Nat := s.size - l.length
def Suf (s : ByteArray) (l : List UInt8) : Prop := ∃ p, s.data.toList = p ++ l

theorem Suf.whole (s : ByteArray) : Suf s s.data.toList := ⟨[], rfl⟩
theorem Suf.le {s : ByteArray} {l : List UInt8} (h : Suf s l) : l.length ≤ s.size := by
  obtain ⟨p, e⟩ := h
  have := congrArg List.length e
  rw [len_data, List.length_append] at this
  omega
theorem Suf.of {s : ByteArray} {l r : List UInt8} (h : Suf s l) (h2 : ∃ p, l = p ++ r) : Suf s r := by
  obtain ⟨p, e⟩ := h
  obtain ⟨q, e2⟩ := h2
  exact ⟨p ++ q, by rw [e, e2, List.append_assoc]⟩
theorem Suf.tail {s : ByteArray} {b : UInt8} {t : List UInt8} (h : Suf s (b :: t)) : Suf s t := h.of ⟨[b], rfl⟩
theorem Suf.nil (s : ByteArray) : Suf s [] := ⟨s.data.toList, by simp⟩
theorem Suf.drop {s : ByteArray} {l : List UInt8} (h : Suf s l) (n : Nat) : Suf s (l.drop n) := h.of ⟨l.take n, by simp⟩
theorem Suf.dw {s : ByteArray} {l : List UInt8} (h : Suf s l) (p : UInt8 → Bool) : Suf s (l.dropWhile p) := h.of ⟨l.takeWhile p, (List.takeWhile_append_dropWhile).symm⟩

theorem pos_nil (s : ByteArray) : pos s [] = s.size := rfl
theorem pos_whole (s : ByteArray) : pos s s.data.toList = 0 := by unfold pos; rw [len_data]; omega
theorem pos_le (s : ByteArray) (l : List UInt8) : pos s l ≤ s.size := by unfold pos; omega
theorem Suf.lt {s : ByteArray} {b : UInt8} {t : List UInt8} (h : Suf s (b :: t)) : pos s (b :: t) < s.size := by
  have := h.le
  unfold pos
  simp only [List.length_cons] at this ⊢
  omega
theorem Suf.succ {s : ByteArray} {b : UInt8} {t : List UInt8} (h : Suf s (b :: t)) : pos s t = pos s (b :: t) + 1 := by
  have := h.le
  unfold pos
  simp only [List.length_cons] at this ⊢
  omega
theorem Suf.sum {s : ByteArray} {l : List UInt8} (h : Suf s l) : pos s l + l.length = s.size := by
  have := h.le
  unfold pos
  omega
theorem Suf.same {s : ByteArray} {l r : List UInt8} (h : Suf s l) (h2 : Suf s r) (e : l.length = r.length) : l = r := by
  obtain ⟨p, e1⟩ := h
  obtain ⟨q, e2⟩ := h2
  have := e1.symm.trans e2
  exact (List.append_inj' this e).2
theorem Suf.at {s : ByteArray} {l : List UInt8} (h : Suf s l) : s.data.toList.drop (pos s l) = l := by
  have hs := h.sum
  obtain ⟨p, e⟩ := h
  have hp : pos s l = p.length := by
    have := congrArg List.length e
    rw [len_data, List.length_append] at this
    omega
  rw [hp, e]
  simp
theorem Suf.byte {s : ByteArray} {b : UInt8} {t : List UInt8} (h : Suf s (b :: t)) (hk : pos s (b :: t) < s.size) : s[pos s (b :: t)] = b := by
  rw [byte_at s _ hk, List.getD_eq_getElem?_getD]
  have := h.at
  have h2 : (s.data.toList.drop (pos s (b :: t)))[0]? = some b := by rw [this]; rfl
  rw [List.getElem?_drop, Nat.add_zero] at h2
  rw [h2]; rfl
theorem Suf.ext {s : ByteArray} {l : List UInt8} (h : Suf s l) : s.extract (pos s l) s.size = ⟨l.toArray⟩ := by
  rw [extract_end, h.at]
theorem Suf.between {s : ByteArray} {l r : List UInt8} (h : Suf s l) (h2 : Suf s r) : s.extract (pos s l) (pos s r) = ⟨(l.take (l.length - r.length)).toArray⟩ := by
  rw [extract_eq, h.at]
  have h3 := h.sum
  have h4 := h2.sum
  by_cases hle : r.length ≤ l.length
  · rw [show pos s r - pos s l = l.length - r.length by omega]
  · rw [show pos s r - pos s l = 0 by omega, show l.length - r.length = 0 by omega]

/-- Over the whole of a text of two bytes at least. -/
theorem Suf.head {s : ByteArray} {l : List UInt8} (h : s.data.toList = l) : Suf s l := ⟨[], by rw [h]; rfl⟩
theorem pos_of {s : ByteArray} {p l : List UInt8} (h : s.data.toList = p ++ l) : pos s l = p.length := by
  have := congrArg List.length h
  rw [len_data, List.length_append] at this
  unfold pos
  omega

theorem gap_suf : ∀ (n : Nat) (l : List UInt8), ∃ p, l = p ++ gapL n l
  | _, [] => ⟨[], by simp [gapL]⟩
  | n, b :: t => by
    simp only [gapL]
    split
    · obtain ⟨p, e⟩ := gap_suf n t
      exact ⟨b :: p, by rw [List.cons_append, ← e]⟩
    · split
      · obtain ⟨p, e⟩ := gap_suf 1 t
        exact ⟨b :: p, by rw [List.cons_append, ← e]⟩
      · exact ⟨[], rfl⟩
theorem Suf.gap {s : ByteArray} {l : List UInt8} (h : Suf s l) (n : Nat) : Suf s (gapL n l) := h.of (gap_suf n l)

end Go.Proofs.YtadghfgjdfgopaaDoor
