/- May of the document's answer (layer 11); walked. -/
import Derived.Test.YtocfdpjclmieiaaXRight
set_option linter.unusedVariables false
namespace Go.Proofs.Ytocfdpjclmieiaa
open Go.RowKit

set_option maxHeartbeats 8000000 in
set_option maxRecDepth 8000 in
theorem xmay_any (l : List GrA) (hle : Lens2 l) (T O : StrA) (hT : T.length ≤ 9223372036854775000) (hO : O.length ≤ 9223372036854775000) (v : Value) (w : World) (hv : GrsAt w v l) : Calls Try.prog 14 #[v, strA T, strA O] w fun e w' => e = .returned (.int .i64 (mayA l T O)) ∧ Below w.heap.size w w' := by
  have HM := (show Hid (mayA l T O = if rightA l = false then 0 else if (whoT O).2.2 = false then 0 else if nameA T = false then 0 else if (whoT O).1 ≠ T then grantedL l { tenant := T, who := O } else if (whoT O).2.1 = [114, 111, 111, 116] then 3 else 2) from by show _ = _; rw [may_is, mayIn_is])
  have HN : Hid (∀ u, Calls Try.prog 20 #[strA T] u fun e w' => e = .returned (.bool (nameA T)) ∧ Below u.heap.size u w') := fun u => xname_any T hT u
  have HW : Hid (∀ u, Calls Try.prog 7 #[strA O] u fun e w' => e = .returned (.tuple #[strA (whoT O).1, strA (whoT O).2.1, .bool (whoT O).2.2]) ∧ Below u.heap.size u w') := fun u => xwho_any O hO u
  have HR : Hid (∀ u, Below w.heap.size w u → Calls Try.prog 12 #[v] u fun e w' => e = .returned (.bool (rightA l)) ∧ Below u.heap.size u w') := fun u hu => xright_any l hle v u (hv.below hu)
  have HA : Hid (rightA l = true → l.length ≤ 64 ∧ Asc l) := fun h => ⟨(right_asc h).1, (right_asc h).2.2⟩
  obtain ⟨a, cap, rfl, hc⟩ := hv
  have HC := (show Hid (∀ i g, l[i]? = some g → ∃ b o, a = some ⟨b, o, none⟩ ∧ b < w.heap.size ∧ w.cell? ⟨b, o + i * 3, none⟩ = some (strA g.tenant) ∧ w.cell? ⟨b, o + i * 3 + 1, none⟩ = some (strA g.who) ∧ w.cell? ⟨b, o + i * 3 + 2, none⟩ = some (.int .i64 g.right)) from hc)
  clear hc hle hT hO
  generalize whoT O = R3 at *
  obtain ⟨ho, ow, ok⟩ := R3
  simp only at HM HW
  generalize rightA l = RA at *
  generalize nameA T = NT at *
  go_enter Try.func14, Try.ntmps14
  go_wp2_with (go_at_call 20; refine Calls.mono (HN.out _) ?_)
  rintro e u1 ⟨rfl, hb1⟩
  have HB1 := (show Hid (Below w.heap.size w u1) from hb1)
  clear hb1 HN
  go_wp2_with (go_at_call 7; refine Calls.mono (HW.out _) ?_)
  rintro e u2 ⟨rfl, hb2⟩
  have HB2 := (show Hid (Below w.heap.size w u2) from HB1.out.trans (hb2.mono HB1.out.size))
  clear hb2 HW
  go_wp2_with (go_at_call 12; refine Calls.mono (HR.out u2 HB2.out) ?_)
  rintro e u3 ⟨rfl, hb3⟩
  have HB3 := (show Hid (Below w.heap.size w u3) from HB2.out.trans (hb3.mono HB2.out.size))
  clear hb3 HR HB1 HB2
  cases NT
  · have HZ : Hid (mayA l T O = 0) := by show _ = _; rw [HM.out]; simp
    clear HM HC HA
    go_wp2
    go_ret
    exact ⟨by rw [HZ.out]; rfl, HB3.out⟩
  cases ok
  · have HZ : Hid (mayA l T O = 0) := by show _ = _; rw [HM.out]; simp
    clear HM HC HA
    go_wp2
    go_ret
    exact ⟨by rw [HZ.out]; rfl, HB3.out⟩
  cases RA
  · have HZ : Hid (mayA l T O = 0) := by show _ = _; rw [HM.out]; simp
    clear HM HC HA
    go_wp2
    go_ret
    exact ⟨by rw [HZ.out]; rfl, HB3.out⟩
  by_cases hht : ho = T
  · have hb : (ho == T) = true := by simpa using hht
    by_cases hro : ow = [114, 111, 111, 116]
    · have HZ : Hid (mayA l T O = 3) := by show _ = _; rw [HM.out]; simp [hht, hro]
      have hb2 : (ow == [114, 111, 111, 116]) = true := by simpa using hro
      clear HM HC HA hht hro
      go_wp2
      go_ret
      exact ⟨by rw [HZ.out]; rfl, HB3.out⟩
    · have HZ : Hid (mayA l T O = 2) := by show _ = _; rw [HM.out]; simp [hht, hro]
      have hb2 : (ow == [114, 111, 111, 116]) = false := by simpa using hro
      clear HM HC HA hht hro
      go_wp2
      go_ret
      exact ⟨by rw [HZ.out]; rfl, HB3.out⟩
  · have hb : (ho == T) = false := by simpa using hht
    have HZ : Hid (mayA l T O = grantedL l { tenant := T, who := O }) := by show _ = _; rw [HM.out]; simp [hht]
    obtain ⟨h64, hasc⟩ := HA.out rfl
    have hll : (l.length : Int) ≤ 64 := by omega
    have HAs := (show Hid (Asc l) from hasc)
    clear HM HA hht hasc
    go_wp2
    go_loopw [12] (fun i wr => ∃ k : Nat, i = .int .i64 (k : Int) ∧ k ≤ l.length ∧ Hid (∀ i g, i < k → l[i]? = some g → ¬ (g.tenant = T ∧ g.who = O)) ∧ Hid (Below w.heap.size w wr)) (fun i _ => l.length - (intOf i).toNat)
    case atStart => exact ⟨0, rfl, Nat.zero_le _, (fun i g h => absurd h (Nat.not_lt_zero _)), HB3⟩
    case round =>
      obtain ⟨k, rfl, hk, HP, HB⟩ := hrel
      by_cases hlt : k < l.length
      · have hlt1 : (k : Int) < (l.length : Int) := by omega
        obtain ⟨g, hg⟩ : ∃ g, l[k]? = some g := ⟨_, List.getElem?_eq_getElem hlt⟩
        obtain ⟨b, o, ha, hbw, c0, c1, c2⟩ := HC.out k g hg
        subst ha
        have d0 : wr.cell? ⟨b, o + k * 3, none⟩ = some (strA g.tenant) := (HB.out.cell (p := ⟨b, o + k * 3, none⟩) hbw).trans c0
        have d1 : wr.cell? ⟨b, o + k * 3 + 1, none⟩ = some (strA g.who) := (HB.out.cell (p := ⟨b, o + k * 3 + 1, none⟩) hbw).trans c1
        have d2 : wr.cell? ⟨b, o + k * 3 + 2, none⟩ = some (.int .i64 g.right) := (HB.out.cell (p := ⟨b, o + k * 3 + 2, none⟩) hbw).trans c2
        have HF : Hid (g.tenant = T → g.who = O → grantedL l { tenant := T, who := O } = g.right) := fun q1 q2 => (granted_is HAs.out hg (ord_same q1 q2)).2.1
        have HX : Hid (¬ (g.tenant = T ∧ g.who = O) → ∀ i g, i < k + 1 → l[i]? = some g → ¬ (g.tenant = T ∧ g.who = O)) := fun q i g' hi hg' => by
          rcases Nat.lt_or_ge i k with h2 | h2
          · exact HP.out i g' h2 hg'
          · have : i = k := by omega
            subst this
            rw [hg] at hg'
            cases hg'
            exact q
        clear c0 c1 c2 hg HP HC
        obtain ⟨gt, gw, gr⟩ := g
        simp only at d0 d1 d2 HF HX
        by_cases q1 : gt = T
        · have e1 : (gt == T) = true := by simpa using q1
          by_cases q2 : gw = O
          · have e2 : (gw == O) = true := by simpa using q2
            have HY : Hid (mayA l T O = gr) := by show _ = _; rw [HZ.out, HF.out q1 q2]
            clear HF HX HZ q1 q2
            go_wp2
            go_ret
            exact ⟨by rw [HY.out]; rfl, HB.out⟩
          · have e2 : (gw == O) = false := by simpa using q2
            have HY := (show Hid (∀ i g, i < k + 1 → l[i]? = some g → ¬ (g.tenant = T ∧ g.who = O)) from HX.out (fun q => q2 q.2))
            clear HF HX q1 q2
            go_wp2
            go_roundw
            case rel => exact ⟨k + 1, by go_num, by omega, HY, HB⟩
            case measure => (simp [intOf]) <;> omega
        · have e1 : (gt == T) = false := by simpa using q1
          have HY := (show Hid (∀ i g, i < k + 1 → l[i]? = some g → ¬ (g.tenant = T ∧ g.who = O)) from HX.out (fun q => q1 q.1))
          clear HF HX q1
          go_wp2
          go_roundw
          case rel => exact ⟨k + 1, by go_num, by omega, HY, HB⟩
          case measure => (simp [intOf]) <;> omega
      · have hlt1 : ¬ (k : Int) < (l.length : Int) := by omega
        obtain rfl : k = l.length := by omega
        have HY : Hid (mayA l T O = 0) := by
          show _ = _
          rw [HZ.out]
          refine (granted_none fun g hg => ?_).1
          intro q
          obtain ⟨i, hi⟩ := List.getElem?_of_mem hg
          exact HP.out i g (List.getElem?_eq_some_iff.1 hi).1 hi (ord_eq q)
        clear HP HZ HC
        go_wp2
        go_ret
        exact ⟨by rw [HY.out]; rfl, HB.out⟩
end Go.Proofs.Ytocfdpjclmieiaa
