/- without, of the laws of layer 4: a text without some bytes. -/
import Derived.Test.YtegjpfhpkkffiaaDoorSOwn
set_option linter.unusedVariables false
namespace Go.Proofs.YtegjpfhpkkffiaaDoor
open Go.RowKit

theorem own_slice {w : World} {B : Nat} {v : Value} {l : List UInt8} (h : OwnB w B v l) : ∃ a c, v = .slice a l.length c := by
  rcases h.2 with ⟨rfl, hn⟩ | ⟨g, cap, cur, rfl, _⟩
  · exact ⟨none, 0, by rw [hn]⟩
  · exact ⟨_, _, rfl⟩

set_option maxHeartbeats 4000000 in
set_option maxRecDepth 4000 in
theorem without_any (s bad : ByteArray) (hs : (s.size : Int) ≤ 140737488351232) (hbad : bad.size ≤ 9) (most : Nat) (hmost : most ≤ 2000) (w : World) (hm : ML w) :
    Calls Tryd.prog 19 #[.string s, .string bad, .int .i64 (most : Int)] w fun e w' => ∃ l : List UInt8, e = .returned (.string ⟨l.toArray⟩) ∧ Lacks bad.data.toList l ∧ l.length ≤ most ∧ Below w.heap.size w w' := by
  obtain ⟨i0, hi, hz0, hz1, hz2⟩ := info_parts info5
  have hbd := len_data bad
  go_enter Tryd.func19, Tryd.ntmps19
  go_wp2
  go_loopw [7, 8] (fun v i wr => ∃ (k : Nat) (l : List UInt8), i = .int .i64 (k : Int) ∧ k ≤ s.size ∧ l.length ≤ most ∧ OwnB wr w.heap.size v l ∧ Hid (Lacks bad.data.toList l) ∧ Hid (Below w.heap.size w wr)) (fun _ i _ => s.size - (intOf i).toNat)
  case atStart => exact ⟨0, [], rfl, by omega, by simp, World.ownsRow_nil _ _ _ _, Lacks.nil _, Below.refl _ _⟩
  case round =>
    obtain ⟨k, l, rfl, hk, hll, hown, hla, hbw⟩ := hrel
    obtain ⟨ad, cp, rfl⟩ := own_slice hown
    by_cases hks : k < s.size
    · have g1 : (k : Int) < (s.size : Int) := by omega
      by_cases hlm : l.length < most
      · have g2 : (l.length : Int) < (most : Int) := by omega
        obtain ⟨c, hc⟩ : ∃ c, s[k] = c := ⟨_, rfl⟩
        go_wp2
        go_loopw [9, 10] (fun ok kk wq => ∃ (j : Nat) (b : Bool), kk = .int .i64 (j : Int) ∧ ok = .bool b ∧ j ≤ bad.size ∧ Hid (b = true → ∀ x ∈ bad.data.toList.take j, c ≠ x) ∧ OwnB wq w.heap.size (.slice ad l.length cp) l ∧ Hid (Below w.heap.size w wq)) (fun _ kk _ => bad.size - (intOf kk).toNat)
        case atStart => exact ⟨0, true, rfl, rfl, by omega, fun _ x hx => by simp at hx, hown, hbw⟩
        case round =>
          clear hown hbw
          obtain ⟨j, b, rfl, rfl, hj, hb, hown, hbw⟩ := hrel
          by_cases hjb : j < bad.size
          · have g3 : (j : Int) < (bad.size : Int) := by omega
            obtain ⟨x, hx⟩ : ∃ x, bad[j] = x := ⟨_, rfl⟩
            have hgd : bad.data.toList[j]? = some x := by rw [List.getElem?_eq_getElem (by omega)]; exact congrArg some hx
            have HT : Hid (bad.data.toList.take (j + 1) = bad.data.toList.take j ++ [x]) := by show _ = _; rw [List.take_add_one, hgd]; rfl
            clear hgd
            cases b
            · go_wp2
              go_quiet (fail)
              go_wp2
              go_roundw
              case rel => exact ⟨j + 1, false, by go_num, rfl, by omega, (fun h => by cases h), hown, below_drewN hbw.out _⟩
              case measure => simp [intOf]; omega
            · by_cases hcx : c = x
              · have q : ((c.toNat : Int) != (x.toNat : Int)) = false := by rw [hcx]; simp
                go_wp2
                go_quiet (fail)
                go_wp2
                go_roundw
                case rel => exact ⟨j + 1, false, by go_num, rfl, by omega, (fun h => by cases h), hown, below_drewN hbw.out _⟩
                case measure => simp [intOf]; omega
              · have q : ((c.toNat : Int) != (x.toNat : Int)) = true := by
                  rw [bne_iff_ne]
                  intro e
                  exact hcx (UInt8.toNat_inj.1 (by omega))
                go_wp2
                go_quiet (fail)
                go_wp2
                go_roundw
                case rel => exact ⟨j + 1, true, by go_num, rfl, by omega, (fun _ y hy => by
                  rw [HT.out, List.mem_append] at hy
                  rcases hy with hy | hy
                  · first | exact hb.out rfl y hy | exact hb.out trivial y hy
                  · simp only [List.mem_cons, List.not_mem_nil, or_false] at hy
                    rw [hy]; exact hcx), hown, below_drewN hbw.out _⟩
                case measure => simp [intOf]; omega
          · have g3 : ¬ (j : Int) < (bad.size : Int) := by omega
            cases b
            · go_wp2
              go_roundw
              case rel => exact ⟨k + 1, l, by go_num, by omega, hll, hown, hla, hbw⟩
              case measure => simp [intOf]; omega
            · have HN : Hid (∀ x ∈ bad.data.toList, c ≠ x) := by
                intro x hx
                rw [← List.take_of_length_le (show bad.data.toList.length ≤ j by omega)] at hx
                first | exact hb.out rfl x hx | exact hb.out trivial x hx
              have hsz := hbw.out.size
              go_wp2_with (at_builtin; refine wpList_append_own _ rfl _ _ 30 rfl w.heap.size 5 i0 (.int .u8 0) 1 1 Tryd.underlying30 hi hz0 hz1 hz2 rfl (by decide) _ _ _ rfl (hown.alloc _) ⟨wr.heap.size, 0, none⟩ 1 1 [.int .u8 (c.toNat : Int)] rfl rfl ?c1 ?c2 ?c3 ?c4 ?c5 ?_)
              case c2 => first | rfl | (intro u hu; simp at hu; subst hu; rfl)
              case c3 => unfold maxLen; omega
              case c4 => omega
              case c5 => first | omega | (simp; omega)
              intro v' w2 hown' hgrow _
              have R1 := own_push (l := [c]) hown' rfl (byteCells_one _)
              have R2 := below_grown hbw.out hsz hown hgrow
              go_wp2
              go_roundw
              case rel => exact ⟨k + 1, l ++ [c], by go_num, by omega, by simp; omega, R1, hla.out.push HN.out, R2⟩
              case measure => simp [intOf]; omega
      · have g2 : ¬ (l.length : Int) < (most : Int) := by omega
        have g3 : decide ((l.length : Int) < (most : Int)) = false := by simpa using g2
        have hconv := own_string hown
        go_wp2
        go_ret
        exact ⟨l, rfl, hla.out, hll, hbw.out⟩
    · have g1 : ¬ (k : Int) < (s.size : Int) := by omega
      have hconv := own_string hown
      go_wp2
      go_ret
      exact ⟨l, rfl, hla.out, hll, hbw.out⟩

end Go.Proofs.YtegjpfhpkkffiaaDoor
