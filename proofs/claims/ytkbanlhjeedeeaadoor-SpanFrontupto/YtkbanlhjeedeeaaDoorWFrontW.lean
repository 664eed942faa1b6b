/- SpanFront, walked: all its ways together. -/
import Derived.Test.YtkbanlhjeedeeaaDoorWFrontA
import Derived.Test.YtkbanlhjeedeeaaDoorWFrontB
set_option linter.unusedVariables false
namespace Go.Proofs.YtkbanlhjeedeeaaDoor.spanFront
open Go.RowKit

theorem walk (s0 : ByteArray) (w0 : s0.size ≤ 1048576) (s1 : ByteArray) (w1 : s1.size ≤ 1048576) (w : World) (hm : ML w) :
    Calls Tryd.prog 4 #[.string s0, .string s1] w fun e w' => e = .returned (.bool true) ∧ Below w.heap.size w w' := by
  obtain ⟨A, n, C⟩ := codeF w s0 s1 w0 w1
  obtain ⟨t, r, T⟩ := tagF w s0 s1 w0 w1
  obtain ⟨D, U, k, X⟩ := autoF w s0 s1 w0 w1
  have HS : Hid (Ans w 9 #[] (.bool true)) := ans_shown w
  have h0 := Fwd.start hm
  have z0 : (s0.size : Int) + (s1.size : Int) ≤ 9000000000000000000 := by omega
  have b1 : (n : Int) ≤ (s0.size : Int) := by have := C.le; omega
  have b2 : (t : Int) ≤ (s0.size : Int) := by have := T.len; omega
  have b3 : (r : Int) ≤ (s0.size : Int) := by have := T.ler; omega
  have b4 : (k : Int) ≤ (s0.size : Int) := by have := X.le; omega
  have b5 := T.lnr
  rcases Nat.eq_zero_or_pos n with hn | hn
  · subst hn
    rcases Nat.eq_zero_or_pos k with hk | hk
    · obtain ⟨e1, e2⟩ := X.non hk
      subst hk e1 e2
      rcases Nat.eq_zero_or_pos r with hr | hr
      · have ht : t = 0 := by omega
        subst hr ht
        exact walk0000 s0 s1 z0 w h0 HS A C.c T.c T.d X.c
      · have hg0 : 0 < s0.size := by omega
        have hg2 : r - 1 < s0.size := by omega
        rcases Nat.eq_zero_or_pos t with ht | ht
        · subst ht
          exact walk0010 s0 s1 z0 w h0 HS A C.c T.c r (by omega) b3 T.d (T.d1 hr) (T.d2 hr) hg0 (T.hd hr hg0) hg2 (T.la hr hg2) X.c
        · have e := (T.nr ht).symm
          subst e
          exact walk0110 s0 s1 z0 w h0 HS A C.c t (by omega) b2 T.c (T.c1 ht) (T.c2 ht) T.d (T.d1 ht) (T.d2 ht) hg0 (T.hd ht hg0) hg2 (T.la ht hg2) X.c
    · rcases Nat.eq_zero_or_pos r with hr | hr
      · have ht : t = 0 := by omega
        subst hr ht
        exact walk0001 s0 s1 z0 w h0 HS A C.c T.c T.d D U k (by have := X.two hk; omega) b4 X.c (X.c1 hk) (X.mid hk)
      · have hg0 : 0 < s0.size := by omega
        have hg2 : r - 1 < s0.size := by omega
        rcases Nat.eq_zero_or_pos t with ht | ht
        · subst ht
          exact walk0011 s0 s1 z0 w h0 HS A C.c T.c r (by omega) b3 T.d (T.d1 hr) (T.d2 hr) hg0 (T.hd hr hg0) hg2 (T.la hr hg2) D U k (by have := X.two hk; omega) b4 X.c (X.c1 hk) (X.mid hk)
        · have e := (T.nr ht).symm
          subst e
          exact walk0111 s0 s1 z0 w h0 HS A C.c t (by omega) b2 T.c (T.c1 ht) (T.c2 ht) T.d (T.d1 ht) (T.d2 ht) hg0 (T.hd ht hg0) hg2 (T.la ht hg2) D U k (by have := X.two hk; omega) b4 X.c (X.c1 hk) (X.mid hk)
  · rcases Nat.eq_zero_or_pos k with hk | hk
    · obtain ⟨e1, e2⟩ := X.non hk
      subst hk e1 e2
      rcases Nat.eq_zero_or_pos r with hr | hr
      · have ht : t = 0 := by omega
        subst hr ht
        exact walk1000 s0 s1 z0 w h0 HS A n (by omega) b1 C.c (C.c1 hn) (C.c2 hn) T.c T.d X.c
      · have hg0 : 0 < s0.size := by omega
        have hg2 : r - 1 < s0.size := by omega
        rcases Nat.eq_zero_or_pos t with ht | ht
        · subst ht
          exact walk1010 s0 s1 z0 w h0 HS A n (by omega) b1 C.c (C.c1 hn) (C.c2 hn) T.c r (by omega) b3 T.d (T.d1 hr) (T.d2 hr) hg0 (T.hd hr hg0) hg2 (T.la hr hg2) X.c
        · have e := (T.nr ht).symm
          subst e
          exact walk1110 s0 s1 z0 w h0 HS A n (by omega) b1 C.c (C.c1 hn) (C.c2 hn) t (by omega) b2 T.c (T.c1 ht) (T.c2 ht) T.d (T.d1 ht) (T.d2 ht) hg0 (T.hd ht hg0) hg2 (T.la ht hg2) X.c
    · rcases Nat.eq_zero_or_pos r with hr | hr
      · have ht : t = 0 := by omega
        subst hr ht
        exact walk1001 s0 s1 z0 w h0 HS A n (by omega) b1 C.c (C.c1 hn) (C.c2 hn) T.c T.d D U k (by have := X.two hk; omega) b4 X.c (X.c1 hk) (X.mid hk)
      · have hg0 : 0 < s0.size := by omega
        have hg2 : r - 1 < s0.size := by omega
        rcases Nat.eq_zero_or_pos t with ht | ht
        · subst ht
          exact walk1011 s0 s1 z0 w h0 HS A n (by omega) b1 C.c (C.c1 hn) (C.c2 hn) T.c r (by omega) b3 T.d (T.d1 hr) (T.d2 hr) hg0 (T.hd hr hg0) hg2 (T.la hr hg2) D U k (by have := X.two hk; omega) b4 X.c (X.c1 hk) (X.mid hk)
        · have e := (T.nr ht).symm
          subst e
          exact walk1111 s0 s1 z0 w h0 HS A n (by omega) b1 C.c (C.c1 hn) (C.c2 hn) t (by omega) b2 T.c (T.c1 ht) (T.c2 ht) T.d (T.d1 ht) (T.d2 ht) hg0 (T.hd ht hg0) hg2 (T.la ht hg2) D U k (by have := X.two hk; omega) b4 X.c (X.c1 hk) (X.mid hk)

end Go.Proofs.YtkbanlhjeedeeaaDoor.spanFront
