/- Trim of the document's answer (layer 5); walked. -/
import Derived.Test.YtkjicdldlnefeaaDoorYName
set_option linter.unusedVariables false
namespace Go.Proofs.YtkjicdldlnefeaaDoor
open Go.RowKit

theorem trim_comm (p : UInt8 → Bool) : ∀ l : List UInt8, (l.reverse.dropWhile p).reverse.dropWhile p = ((l.dropWhile p).reverse.dropWhile p).reverse
  | [] => rfl
  | a :: t => by
    have ih := trim_comm p t
    have hr : (a :: t).reverse.dropWhile p = if (t.reverse.dropWhile p).isEmpty = true then [a].dropWhile p else t.reverse.dropWhile p ++ [a] := by rw [List.reverse_cons, List.dropWhile_append]
    by_cases ha : p a = true
    · have h1 : (a :: t).dropWhile p = t.dropWhile p := by rw [List.dropWhile_cons, if_pos ha]
      have h2 : [a].dropWhile p = [] := by rw [List.dropWhile_cons, if_pos ha]; rfl
      rw [h1, ← ih, hr, h2]
      by_cases hD : (t.reverse.dropWhile p).isEmpty = true
      · rw [if_pos hD]
        have : t.reverse.dropWhile p = [] := by simpa using hD
        rw [this]
      · rw [if_neg hD, List.reverse_append]
        show List.dropWhile p (a :: (t.reverse.dropWhile p).reverse) = _
        rw [List.dropWhile_cons, if_pos ha]
    · have h1 : (a :: t).dropWhile p = a :: t := by rw [List.dropWhile_cons, if_neg ha]
      have h2 : [a].dropWhile p = [a] := by rw [List.dropWhile_cons, if_neg ha]
      rw [h1, hr, h2]
      by_cases hD : (t.reverse.dropWhile p).isEmpty = true
      · rw [if_pos hD]
        show List.dropWhile p [a] = [a]
        exact h2
      · rw [if_neg hD, List.reverse_append]
        show List.dropWhile p (a :: (t.reverse.dropWhile p).reverse) = a :: (t.reverse.dropWhile p).reverse
        rw [List.dropWhile_cons, if_neg ha]
def blA (c : UInt8) : Bool := [32, 9].contains c
theorem trim_other (l : StrA) : scan1 l = ((l.dropWhile blA).reverse.dropWhile blA).reverse := by
  rw [← trim_comm]
  rfl
set_option maxHeartbeats 2000000 in
theorem yblank_any (z : UInt8) (w : World) : Calls Tryd.prog 40 #[.int .u8 (z.toNat : Int)] w fun e w' => e = .returned (.bool (blA z)) ∧ w' = w := by
  have HD : Hid (blA z = (decide (z.toNat = 32) || decide (z.toNat = 9))) := by
    show _ = _
    unfold blA
    rw [Bool.eq_iff_iff]
    simp [← UInt8.toNat_inj]
  by_cases h1 : z.toNat = 32
  · have HR : Hid (blA z = true) := by show _ = _; rw [HD.out, h1]; rfl
    have h1i : ((z.toNat : Int) == 32) = true := by simp; omega
    clear HD h1
    go_enter Tryd.func40, Tryd.ntmps40
    go_wp2
    go_ret
    exact ⟨ret_bool HR.out.symm, rfl⟩
  · have h1i : ((z.toNat : Int) == 32) = false := by simp; omega
    by_cases h2 : z.toNat = 9
    · have HR : Hid (blA z = true) := by show _ = _; rw [HD.out, h2]; rfl
      have h2i : ((z.toNat : Int) == 9) = true := by simp; omega
      clear HD h1 h2
      go_enter Tryd.func40, Tryd.ntmps40
      go_wp2
      go_ret
      exact ⟨ret_bool HR.out.symm, rfl⟩
    · have HR : Hid (blA z = false) := by show _ = _; rw [HD.out]; simp [h1, h2]
      have h2i : ((z.toNat : Int) == 9) = false := by simp; omega
      clear HD h1 h2
      go_enter Tryd.func40, Tryd.ntmps40
      go_wp2
      go_ret
      exact ⟨ret_bool HR.out.symm, rfl⟩
def strN : Value → Nat
  | .string b => b.size
  | _ => 0
theorem strN_l (X : StrA) : strN (.string ⟨X.toArray⟩) = X.length := size_list X
theorem sub_first (z : UInt8) (t : StrA) : (ByteArray.mk (z :: t).toArray).extract 1 (t.length + 1) = ⟨t.toArray⟩ := by
  have h : (ByteArray.mk (z :: t).toArray).size = t.length + 1 := size_list (z :: t)
  rw [← h, extract_end]
  rfl
set_option maxHeartbeats 8000000 in
set_option maxRecDepth 8000 in
theorem ytrim_any (l : StrA) (hl : l.length ≤ 9223372036854775000) (w : World) : Calls Tryd.prog 25 #[strA l] w fun e w' => e = .returned (strA (scan1 l)) ∧ Below w.heap.size w w' := by
  have HBl := (show Hid (∀ (z : UInt8) (u : World), Calls Tryd.prog 40 #[.int .u8 (z.toNat : Int)] u fun e w' => e = .returned (.bool (blA z)) ∧ w' = u) from yblank_any)
  have HT := (show Hid (scan1 l = ((l.dropWhile blA).reverse.dropWhile blA).reverse) from trim_other l)
  go_enter Tryd.func25, Tryd.ntmps25
  go_wp2
  go_loopw [0] (fun s wr => ∃ X : StrA, s = strA X ∧ Hid (X.dropWhile blA = l.dropWhile blA ∧ X.length ≤ l.length) ∧ wr = w) (fun s _ => strN s)
  case atStart => exact ⟨l, rfl, ⟨rfl, Nat.le_refl _⟩, rfl⟩
  case round =>
    obtain ⟨X, rfl, HX, hwr⟩ := hrel
    subst hwr
    cases X with
    | nil =>
      have HXL0 : Hid ([] = l.dropWhile blA) := HX.out.1
      obtain ⟨wo, hwo⟩ : ∃ wo, wo = wr := ⟨_, rfl⟩
      subst hwo
      clear HX
      go_wp2
      go_loopw [0] (fun s wr => ∃ Y : StrA, s = strA Y ∧ Hid (Y.reverse.dropWhile blA = (l.dropWhile blA).reverse.dropWhile blA ∧ Y.length ≤ l.length) ∧ wr = wo) (fun s _ => strN s)
      case atStart => exact ⟨[], rfl, ⟨by rw [← HXL0.out], Nat.zero_le _⟩, rfl⟩
      case round =>
        obtain ⟨Y, rfl, HY, hwr⟩ := hrel
        subst hwr
        rcases List.eq_nil_or_concat Y with hY0 | ⟨t, z, hYz⟩
        · subst hY0
          have HR : Hid (scan1 l = []) := by show _ = _; rw [HT.out, ← HY.out.1]; rfl
          go_wp2
          go_ret
          exact ⟨by rw [HR.out]; first | done | rfl, Below.refl _ _⟩
        · rw [List.concat_eq_append] at hYz
          have hne : (Y == []) = false := by rw [hYz]; simp
          have hYl : Y.length = t.length + 1 := by rw [hYz]; simp
          have hsz : t.length < (ByteArray.mk Y.toArray).size := by rw [size_list]; omega
          have hby : (ByteArray.mk Y.toArray)[t.length]'hsz = z := by rw [byte_at, list_data, hYz, List.getD_eq_getElem?_getD]; simp
          have hlen : (ByteArray.mk Y.toArray).size = t.length + 1 := by rw [size_list, hYl]
          have hx : (ByteArray.mk Y.toArray).extract 0 t.length = ⟨t.toArray⟩ := by rw [hYz, extract_eq, list_data]; simp
          have hlb : ((t.length + 1 : Nat) : Int) ≤ 9223372036854775000 := by have := HY.out.2; omega
          have hrv : Y.reverse = z :: t.reverse := by rw [hYz]; simp
          have HM := (show Hid (Y.length = t.length + 1) from hYl)
          cases hz : blA z with
          | true =>
            have HY2 : Hid (t.reverse.dropWhile blA = (l.dropWhile blA).reverse.dropWhile blA ∧ t.length ≤ l.length) := by
              refine ⟨?_, ?_⟩
              · have := HY.out.1; rw [hrv, List.dropWhile_cons, if_pos hz] at this; exact this
              · have := HY.out.2; omega
            have HBz := (show Hid (∀ u : World, Calls Tryd.prog 40 #[.int .u8 (z.toNat : Int)] u fun e w' => e = .returned (.bool true) ∧ w' = u) from fun u => by have := HBl.out z u; rwa [hz] at this)
            clear hz HBl hYz hrv hYl
            go_wp2_with (go_at_call 40; refine Calls.mono (HBz.out _) ?_; rintro e w3 ⟨rfl, rfl⟩)
            exact ⟨⟨t, rfl, HY2, by first | trivial | rfl⟩, by rw [strN_l, strN_l, HM.out]; omega⟩
          | false =>
            have HR : Hid (scan1 l = Y) := by
              show _ = _
              rw [HT.out, ← HY.out.1, hrv, List.dropWhile_cons, if_neg (by rw [hz]; decide), ← hrv, List.reverse_reverse]
            have HBz := (show Hid (∀ u : World, Calls Tryd.prog 40 #[.int .u8 (z.toNat : Int)] u fun e w' => e = .returned (.bool false) ∧ w' = u) from fun u => by have := HBl.out z u; rwa [hz] at this)
            clear hz HBl hYz hrv hYl
            go_wp2_with (go_at_call 40; refine Calls.mono (HBz.out _) ?_; rintro e w3 ⟨rfl, rfl⟩)
            go_ret
            exact ⟨by rw [HR.out]; first | done | rfl, Below.refl _ _⟩
    | cons z t =>
      have hsz : 0 < (ByteArray.mk (z :: t).toArray).size := by rw [size_list]; simp
      have hby : (ByteArray.mk (z :: t).toArray)[0]'hsz = z := by rw [byte_at, list_data]; rfl
      have hx := sub_first z t
      have hlen : (ByteArray.mk (z :: t).toArray).size = t.length + 1 := size_list (z :: t)
      have hlb : ((t.length + 1 : Nat) : Int) ≤ 9223372036854775000 := by have := HX.out.2; simp at this; omega
      cases hz : blA z with
      | true =>
        have HX2 : Hid (t.dropWhile blA = l.dropWhile blA ∧ t.length ≤ l.length) := by
          refine ⟨?_, ?_⟩
          · have := HX.out.1; rw [List.dropWhile_cons, if_pos hz] at this; exact this
          · have := HX.out.2; simp at this; omega
        have HBz := (show Hid (∀ u : World, Calls Tryd.prog 40 #[.int .u8 (z.toNat : Int)] u fun e w' => e = .returned (.bool true) ∧ w' = u) from fun u => by have := HBl.out z u; rwa [hz] at this)
        clear hz HBl
        go_wp2_with (go_at_call 40; refine Calls.mono (HBz.out _) ?_; rintro e w3 ⟨rfl, rfl⟩)
        exact ⟨⟨t, rfl, HX2, by first | trivial | rfl⟩, by rw [strN_l, strN_l]; simp⟩
      | false =>
        have HXL : Hid (z :: t = l.dropWhile blA ∧ (z :: t).length ≤ l.length) := by
          refine ⟨?_, HX.out.2⟩
          have := HX.out.1; rw [List.dropWhile_cons, if_neg (by rw [hz]; decide)] at this; exact this
        have HBz := (show Hid (∀ u : World, Calls Tryd.prog 40 #[.int .u8 (z.toNat : Int)] u fun e w' => e = .returned (.bool false) ∧ w' = u) from fun u => by have := HBl.out z u; rwa [hz] at this)
        clear hz
        go_wp2_with (go_at_call 40; refine Calls.mono (HBz.out _) ?_; rintro e w3 ⟨rfl, rfl⟩)
        obtain ⟨wo, hwo⟩ : ∃ wo, wo = w3 := ⟨_, rfl⟩
        subst hwo
        clear hx hby hsz hlen hlb HBz HX
        go_loopw [0] (fun s wr => ∃ Y : StrA, s = strA Y ∧ Hid (Y.reverse.dropWhile blA = (l.dropWhile blA).reverse.dropWhile blA ∧ Y.length ≤ l.length) ∧ wr = wo) (fun s _ => strN s)
        case atStart => exact ⟨z :: t, rfl, ⟨by rw [HXL.out.1], HXL.out.2⟩, rfl⟩
        case round =>
          obtain ⟨Y, rfl, HY, hwr⟩ := hrel
          subst hwr
          rcases List.eq_nil_or_concat Y with hY0 | ⟨t, z, hYz⟩
          · subst hY0
            have HR : Hid (scan1 l = []) := by show _ = _; rw [HT.out, ← HY.out.1]; rfl
            go_wp2
            go_ret
            exact ⟨by rw [HR.out]; first | done | rfl, Below.refl _ _⟩
          · rw [List.concat_eq_append] at hYz
            have hne : (Y == []) = false := by rw [hYz]; simp
            have hYl : Y.length = t.length + 1 := by rw [hYz]; simp
            have hsz : t.length < (ByteArray.mk Y.toArray).size := by rw [size_list]; omega
            have hby : (ByteArray.mk Y.toArray)[t.length]'hsz = z := by rw [byte_at, list_data, hYz, List.getD_eq_getElem?_getD]; simp
            have hlen : (ByteArray.mk Y.toArray).size = t.length + 1 := by rw [size_list, hYl]
            have hx : (ByteArray.mk Y.toArray).extract 0 t.length = ⟨t.toArray⟩ := by rw [hYz, extract_eq, list_data]; simp
            have hlb : ((t.length + 1 : Nat) : Int) ≤ 9223372036854775000 := by have := HY.out.2; omega
            have hrv : Y.reverse = z :: t.reverse := by rw [hYz]; simp
            have HM := (show Hid (Y.length = t.length + 1) from hYl)
            cases hz : blA z with
            | true =>
              have HY2 : Hid (t.reverse.dropWhile blA = (l.dropWhile blA).reverse.dropWhile blA ∧ t.length ≤ l.length) := by
                refine ⟨?_, ?_⟩
                · have := HY.out.1; rw [hrv, List.dropWhile_cons, if_pos hz] at this; exact this
                · have := HY.out.2; omega
              have HBz := (show Hid (∀ u : World, Calls Tryd.prog 40 #[.int .u8 (z.toNat : Int)] u fun e w' => e = .returned (.bool true) ∧ w' = u) from fun u => by have := HBl.out z u; rwa [hz] at this)
              clear hz HBl hYz hrv hYl
              go_wp2_with (go_at_call 40; refine Calls.mono (HBz.out _) ?_; rintro e w3 ⟨rfl, rfl⟩)
              exact ⟨⟨t, rfl, HY2, by first | trivial | rfl⟩, by rw [strN_l, strN_l, HM.out]; omega⟩
            | false =>
              have HR : Hid (scan1 l = Y) := by
                show _ = _
                rw [HT.out, ← HY.out.1, hrv, List.dropWhile_cons, if_neg (by rw [hz]; decide), ← hrv, List.reverse_reverse]
              have HBz := (show Hid (∀ u : World, Calls Tryd.prog 40 #[.int .u8 (z.toNat : Int)] u fun e w' => e = .returned (.bool false) ∧ w' = u) from fun u => by have := HBl.out z u; rwa [hz] at this)
              clear hz HBl hYz hrv hYl
              go_wp2_with (go_at_call 40; refine Calls.mono (HBz.out _) ?_; rintro e w3 ⟨rfl, rfl⟩)
              go_ret
              exact ⟨by rw [HR.out]; first | done | rfl, Below.refl _ _⟩
end Go.Proofs.YtkjicdldlnefeaaDoor
