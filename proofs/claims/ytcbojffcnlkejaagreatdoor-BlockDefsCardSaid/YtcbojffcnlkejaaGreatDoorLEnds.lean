/- Package leaf: whether a line ends HTML; walked. -/
import Derived.Test.YtcbojffcnlkejaaGreatDoorG32
import Derived.Test.YtcbojffcnlkejaaGreatDoorG08
import Derived.Test.YtcbojffcnlkejaaGreatDoorBRep
set_option linter.unusedVariables false
namespace Go.Proofs.YtcbojffcnlkejaaGreatDoor
open Go.RowKit

/-- A cell of the search's own lies where it is laid. -/
def MLen (w : World) : Prop := ∃ m : Int, w.cell? ⟨0, 0, none⟩ = some (.int .i64 m)
theorem MLen.lt {w : World} (h : MLen w) : 0 < w.heap.size := by
  obtain ⟨m, h⟩ := h
  rcases Nat.eq_zero_or_pos w.heap.size with q | q
  · unfold World.cell? at h
    have : w.heap[0]? = none := by rw [Array.getElem?_eq_none]; omega
    rw [this] at h
    cases h
  · exact q
theorem MLen.keeps {w w' : World} (h : MLen w) (hk : w'.heap[0]? = w.heap[0]?) : MLen w' := by
  obtain ⟨m, h⟩ := h
  refine ⟨m, ?_⟩
  unfold World.cell? at h ⊢
  rw [hk]
  exact h
theorem MLen.below {w w' : World} (h : MLen w) (hb : Below w.heap.size w w') : MLen w' := h.keeps (hb.block 0 h.lt)

/-- Does a closing tag of the first kind's names stand in a text? -/
def endsTF : Nat → Str → Bool
  | 0, _ => false
  | f + 1, l => if (Lib.cut l [60, 47]).2.2 = false then false
      else if (textN (tagNm (Lib.cut l [60, 47]).2.1) && ([62] : Str).isPrefixOf (tagRt (Lib.cut l [60, 47]).2.1)) = true then true else endsTF f (Lib.cut l [60, 47]).2.1
def endsT (l : Str) : Bool := endsTF (l.length + 1) l
def endsX (k : Nat) (l : Str) : Bool :=
  if k = 1 then endsT l else if k = 2 then Lib.contains l [45, 45, 62] else if k = 3 then Lib.contains l [63, 62] else if k = 4 then Lib.contains l [62] else if k = 5 then Lib.contains l [93, 93, 62] else false

theorem cut_len (l : Str) (h : (Lib.cut l [60, 47]).2.2 = true) : (Lib.cut l [60, 47]).2.1.length < l.length := by
  unfold Lib.cut at h ⊢
  split
  · rename_i hi
    have hr := Lib.index_room l [60, 47] hi
    simp only [List.length_drop, List.length_cons, List.length_nil] at hr ⊢
    omega
  · rename_i hi
    rw [if_neg hi] at h
    cases h
theorem endsTF_more : ∀ (f g : Nat) (l : Str), l.length < f → l.length < g → endsTF f l = endsTF g l
  | 0, _, _, h, _ => by omega
  | _, 0, _, _, h => by omega
  | f + 1, g + 1, l, hf, hg => by
    simp only [endsTF]
    split
    · rfl
    · rename_i h
      have := cut_len l (by simpa using h)
      rw [endsTF_more f g _ (by omega) (by omega)]

def sizeV : Value → Nat
  | .string s => s.size
  | _ => 0

set_option maxHeartbeats 2000000 in
theorem lendsText_any (l : Str) (hs : l.length < 4294967281) (w : World) (hM : MLen w) :
    Calls Tryz.prog 138 #[strV l] w fun e w' => e = .returned (.bool (endsT l)) ∧ Below w.heap.size w w' := by
  have HMw : Hid (∀ u, Below w.heap.size w u → MLen u) := fun u hu => hM.below hu
  have HR : Hid (endsTF (l.length + 1) l = endsT l) := rfl
  have hl0 : l.length ≤ l.length := Nat.le_refl _
  generalize endsT l = R at *
  go_enter Tryz.func138, Tryz.ntmps138
  go_wp2
  go_loopw [0] (fun t wr => ∃ k : Str, t = strV k ∧ k.length ≤ l.length ∧ Below w.heap.size w wr ∧ endsTF (k.length + 1) k = R) (fun t _ => sizeV t)
  case atStart => exact ⟨l, rfl, Nat.le_refl _, Below.refl _ _, HR.out⟩
  case round =>
    obtain ⟨k, rfl, hk, hb, hr⟩ := hrel
    obtain ⟨m, hm⟩ := HMw.out _ hb
    have HC : Hid (Calls Tryz.prog 172 #[.string ⟨k.toArray⟩, .string ⟨#[60, 47]⟩] wr fun e w' => e = .returned (.tuple #[.string ⟨(Lib.cut k [60, 47]).1.toArray⟩, .string ⟨(Lib.cut k [60, 47]).2.1.toArray⟩, .bool (Lib.cut k [60, 47]).2.2]) ∧ Below w.heap.size w w') := (Tryz.strings_Cut ⟨k.toArray⟩ ⟨#[60, 47]⟩ m wr (by rw [size_list]; omega) hm).mono fun e w' q => by
      obtain ⟨q1, n, q2⟩ := q
      rw [q2]
      exact ⟨q1, hb.trans ⟨rfl, rfl, rfl, Nat.le_refl _, fun _ _ => rfl⟩⟩
    have hcl := cut_len k
    simp only [endsTF] at hr
    have HB := (show Hid _ from hb)
    clear hm hb
    generalize hc1 : (Lib.cut k [60, 47]).1 = a1 at *
    generalize hc2 : (Lib.cut k [60, 47]).2.1 = a2 at *
    generalize hc3 : (Lib.cut k [60, 47]).2.2 = a3 at *
    cases a3
    · rw [if_pos rfl] at hr
      subst hr
      go_wp2_with (go_at_call 172; refine HC.out.mono ?_; rintro e u ⟨rfl, hu⟩)
      go_ret
      exact ⟨rfl, hu⟩
    · have hlt := hcl rfl
      rw [if_neg (by decide)] at hr
      obtain ⟨N, R2, hN, hR2, HT⟩ := lname_of ⟨a2.toArray⟩ (by rw [size_list]; omega)
      rw [list_data] at hN hR2
      have HT := (show Hid _ from HT)
      have HX := (show Hid _ from fun w => ltext_is N w)
      have HP : Hid (∀ w, Calls Tryz.prog 71 #[.string R2, .string ⟨#[62]⟩] w fun e w' => e = .returned (.bool (([62] : List UInt8).isPrefixOf R2.data.toList)) ∧ w' = w) := fun w => lpre_any R2 ⟨#[62]⟩ _ rfl w
      rw [hN] at HX
      rw [hR2] at HP
      clear hN hR2 hcl
      generalize textN (tagNm a2) = b1 at *
      generalize ([62] : List UInt8).isPrefixOf (tagRt a2) = b2 at *
      cases b1
      · rw [if_neg (by simp)] at hr
        go_wp2_with (first
          | (go_at_call 172; refine HC.out.mono ?_; rintro e u ⟨rfl, hu⟩)
          | (go_at_call 103; refine (HT.out _).mono ?_; rintro e u2 ⟨rfl, hu2⟩)
          | (go_at_call 104; refine (HX.out _).mono ?_; rintro e u3 ⟨rfl, hw⟩; subst u3))
        go_roundw
        case rel => exact ⟨a2, rfl, by omega, below_next hu hu2, by rw [← hr]; exact endsTF_more _ _ _ (by omega) (by omega)⟩
        case measure => simp only [sizeV, size_list]; omega
      · cases b2
        · rw [if_neg (by decide)] at hr
          go_wp2_with (first
            | (go_at_call 172; refine HC.out.mono ?_; rintro e u ⟨rfl, hu⟩)
            | (go_at_call 103; refine (HT.out _).mono ?_; rintro e u2 ⟨rfl, hu2⟩)
            | (go_at_call 104; refine (HX.out _).mono ?_; rintro e u3 ⟨rfl, hw⟩; subst u3)
            | (go_at_call 71; refine (HP.out _).mono ?_; rintro e u4 ⟨rfl, hw⟩; subst u4))
          go_roundw
          case rel => exact ⟨a2, rfl, by omega, below_next hu hu2, by rw [← hr]; exact endsTF_more _ _ _ (by omega) (by omega)⟩
          case measure => simp only [sizeV, size_list]; omega
        · rw [if_pos (by decide)] at hr
          subst hr
          go_wp2_with (first
            | (go_at_call 172; refine HC.out.mono ?_; rintro e u ⟨rfl, hu⟩)
            | (go_at_call 103; refine (HT.out _).mono ?_; rintro e u2 ⟨rfl, hu2⟩)
            | (go_at_call 104; refine (HX.out _).mono ?_; rintro e u3 ⟨rfl, hw⟩; subst u3)
            | (go_at_call 71; refine (HP.out _).mono ?_; rintro e u4 ⟨rfl, hw⟩; subst u4))
          go_ret
          exact ⟨rfl, below_next hu hu2⟩

set_option maxHeartbeats 2000000 in
theorem lends_any (k : Nat) (l : Str) (hs : l.length < 4294967281) (w : World) (hM : MLen w) :
    Calls Tryz.prog 109 #[.int .i64 (k : Int), strV l] w fun e w' => e = .returned (.bool (endsX k l)) ∧ Below w.heap.size w w' := by
  obtain ⟨m, hm⟩ := hM
  have HT := (show Hid _ from lendsText_any l hs w ⟨m, hm⟩)
  have HC : Hid (∀ p : Str, Calls Tryz.prog 68 #[.string ⟨l.toArray⟩, .string ⟨p.toArray⟩] w fun e w' => e = .returned (.bool (Lib.contains l p)) ∧ w' = w) := fun p => Tryz.strings_Contains ⟨l.toArray⟩ ⟨p.toArray⟩ m w (by rw [size_list]; omega) hm
  have H2 : Hid (Calls Tryz.prog 68 #[.string ⟨l.toArray⟩, .string ⟨#[45, 45, 62]⟩] w fun e w' => e = .returned (.bool (Lib.contains l [45, 45, 62])) ∧ w' = w) := HC.out [45, 45, 62]
  have H3 : Hid (Calls Tryz.prog 68 #[.string ⟨l.toArray⟩, .string ⟨#[63, 62]⟩] w fun e w' => e = .returned (.bool (Lib.contains l [63, 62])) ∧ w' = w) := HC.out [63, 62]
  have H4 : Hid (Calls Tryz.prog 68 #[.string ⟨l.toArray⟩, .string ⟨#[62]⟩] w fun e w' => e = .returned (.bool (Lib.contains l [62])) ∧ w' = w) := HC.out [62]
  have H5 : Hid (Calls Tryz.prog 68 #[.string ⟨l.toArray⟩, .string ⟨#[93, 93, 62]⟩] w fun e w' => e = .returned (.bool (Lib.contains l [93, 93, 62])) ∧ w' = w) := HC.out [93, 93, 62]
  have HQ : Hid (endsX k l = if k = 1 then endsT l else if k = 2 then Lib.contains l [45, 45, 62] else if k = 3 then Lib.contains l [63, 62] else if k = 4 then Lib.contains l [62] else if k = 5 then Lib.contains l [93, 93, 62] else false) := rfl
  generalize endsX k l = Q at *
  clear hm HC
  have hk : k = 1 ∨ k = 2 ∨ k = 3 ∨ k = 4 ∨ k = 5 ∨ (k ≠ 1 ∧ k ≠ 2 ∧ k ≠ 3 ∧ k ≠ 4 ∧ k ≠ 5) := by omega
  rcases hk with rfl | rfl | rfl | rfl | rfl | ⟨h1, h2, h3, h4, h5⟩
  · go_enter Tryz.func109, Tryz.ntmps109
    go_wp2_with (go_at_call 138; refine Calls.mono HT.out ?_; rintro e u ⟨rfl, hu⟩)
    go_ret
    exact ⟨ret_bool (by rw [HQ.out]; rfl), hu⟩
  · go_enter Tryz.func109, Tryz.ntmps109
    go_wp2_with (go_at_call 68; refine H2.out.mono ?_; rintro e u ⟨rfl, hw⟩; subst u)
    go_ret
    exact ⟨ret_bool (by rw [HQ.out]; rfl), Below.refl _ _⟩
  · go_enter Tryz.func109, Tryz.ntmps109
    go_wp2_with (go_at_call 68; refine H3.out.mono ?_; rintro e u ⟨rfl, hw⟩; subst u)
    go_ret
    exact ⟨ret_bool (by rw [HQ.out]; rfl), Below.refl _ _⟩
  · go_enter Tryz.func109, Tryz.ntmps109
    go_wp2_with (go_at_call 68; refine H4.out.mono ?_; rintro e u ⟨rfl, hw⟩; subst u)
    go_ret
    exact ⟨ret_bool (by rw [HQ.out]; rfl), Below.refl _ _⟩
  · go_enter Tryz.func109, Tryz.ntmps109
    go_wp2_with (go_at_call 68; refine H5.out.mono ?_; rintro e u ⟨rfl, hw⟩; subst u)
    go_ret
    exact ⟨ret_bool (by rw [HQ.out]; rfl), Below.refl _ _⟩
  · have i1 : ¬ (k : Int) = 1 := by omega
    have i2 : ¬ (k : Int) = 2 := by omega
    have i3 : ¬ (k : Int) = 3 := by omega
    have i4 : ¬ (k : Int) = 4 := by omega
    have i5 : ¬ (k : Int) = 5 := by omega
    have j1 : ((k : Int) == 1) = false := by simpa using i1
    have j2 : ((k : Int) == 2) = false := by simpa using i2
    have j3 : ((k : Int) == 3) = false := by simpa using i3
    have j4 : ((k : Int) == 4) = false := by simpa using i4
    have j5 : ((k : Int) == 5) = false := by simpa using i5
    go_enter Tryz.func109, Tryz.ntmps109
    go_wp2
    go_ret
    exact ⟨ret_bool (by rw [HQ.out, if_neg h1, if_neg h2, if_neg h3, if_neg h4, if_neg h5]), Below.refl _ _⟩

end Go.Proofs.YtcbojffcnlkejaaGreatDoor
