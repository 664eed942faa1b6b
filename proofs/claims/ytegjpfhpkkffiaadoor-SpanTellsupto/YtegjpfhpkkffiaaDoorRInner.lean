/- The document's answer for span: inner, Code; walked. -/
import Derived.Test.YtegjpfhpkkffiaaDoorRBegins
import Derived.Test.YtegjpfhpkkffiaaDoorSWithout
import Derived.Laws.OwnMore
set_option linter.unusedVariables false
namespace Go.Proofs.YtegjpfhpkkffiaaDoor
open Go.RowKit

/-! ### A row that the call owns: its ends -/

theorem rown_slice {w : World} {B : Nat} {v : Value} {l : List UInt8} (h : OwnB w B v l) (hl : l ≠ []) : ∃ g cap, v = .slice (some ⟨g, 0, none⟩) l.length cap ∧ l.length ≤ cap ∧ cap ≤ maxLen := by
  rcases h.2 with ⟨rfl, hn⟩ | ⟨g, cap, cur, rfl, _, _, h1, h2, _⟩
  · exact absurd (List.length_eq_zero_iff.1 hn) hl
  · exact ⟨g, cap, rfl, h1, h2⟩
theorem rown_at {w : World} {B g cap : Nat} {l : List UInt8} {c : UInt8} (h : OwnB w B (.slice (some ⟨g, 0, none⟩) l.length cap) l) {j : Nat} (hc : l[j]? = some c) : w.cell? ⟨g, j, none⟩ = some (.int .u8 (c.toNat : Int)) := by
  have hlt : j < l.length := (List.getElem?_eq_some_iff.1 hc).1
  rw [h.cellAt j (by omega)]
  unfold Lib.byteCells
  rw [List.getElem?_map, hc]
  rfl
/-- A piece of the row, read as a text. -/
theorem rown_piece {w : World} {B g cap : Nat} {l : List UInt8} (h : OwnB w B (.slice (some ⟨g, 0, none⟩) l.length cap) l) {p : Nat} (hp : l.length = p + 2) (c : Nat) : (convert 30 9 (.slice (some ⟨g, 1, none⟩) p c)).run Tryd.prog w = .ok (.string ⟨((l.drop 1).dropLast).toArray⟩) w := by
  have hm : ((l.drop 1).dropLast).length = p := by rw [List.length_dropLast, List.length_drop]; omega
  have := run_convert_bytes_back (P := Tryd.prog) w 30 9 5 ⟨g, 1, none⟩ c ((l.drop 1).dropLast) Tryd.underlying30 Tryd.underlying5 Tryd.underlying9 (by
    intro j hj
    have key : ∀ x, ((l.drop 1).dropLast)[j]? = some x → l[1 + j]? = some x := by
      intro x hx
      rw [List.dropLast_eq_take, List.getElem?_take, if_pos (by rw [List.length_drop]; omega), List.getElem?_drop] at hx
      exact hx
    have h1 := key _ (List.getElem?_eq_getElem hj)
    have h3 := rown_at h h1
    rw [show (⟨g, 1, none⟩ : Addr).add j = ⟨g, 1 + j, none⟩ by unfold Addr.add; split <;> simp_all]
    exact h3)
  rw [hm] at this
  exact this

theorem feed_step {s : ByteArray} {k : Nat} {c : UInt8} (h : s.data.toList[k]? = some c) : (s.data.toList.take (k + 1)).map feed = (s.data.toList.take k).map feed ++ [feed c] := by
  rw [List.take_add_one, h, List.map_append]
  rfl

set_option maxHeartbeats 8000000 in
set_option maxRecDepth 8000 in
theorem rinner_any (s : ByteArray) (hs : (s.size : Int) ≤ 140737488351232) (w : World) :
    Calls Tryd.prog 23 #[.string s] w fun e w' => e = .returned (.string ⟨(innerL s.data.toList).toArray⟩) ∧ Below w.heap.size w w' := by
  obtain ⟨i0, hi, hz0, hz1, hz2⟩ := info_parts info5
  have HL : Hid (s.data.toList.length = s.size) := len_data s
  go_enter Tryd.func23, Tryd.ntmps23
  go_wp2
  go_loopw [3, 4, 5] (fun v A i wr => ∃ (k : Nat) (acc : List UInt8) (b : Bool), A = .bool b ∧ i = .int .i64 (k : Int) ∧ k ≤ s.size ∧ OwnB wr w.heap.size v acc ∧ Hid (acc = (s.data.toList.take k).map feed) ∧ Hid (b = acc.all (· == 32)) ∧ Hid (Below w.heap.size w wr)) (fun _ _ i _ => s.size - (intOf i).toNat)
  case atStart => exact ⟨0, [], true, rfl, rfl, by omega, World.ownsRow_nil _ _ _ _, by show _ = _; simp, rfl, Below.refl _ _⟩
  case round =>
    obtain ⟨k, acc, b, rfl, rfl, hk, hown, ha, hb, hbw⟩ := hrel
    have hsz := hbw.out.size
    have HAL : Hid (acc.length = k) := by show _ = _; rw [ha.out, List.length_map, List.length_take, HL.out]; omega
    have hal : acc.length ≤ s.size := by rw [HAL.out]; exact hk
    by_cases hks : k < s.size
    · have g1 : (k : Int) < (s.size : Int) := by omega
      have hal2 : acc.length + 1 ≤ s.size := by rw [HAL.out]; omega
      obtain ⟨c, hc⟩ : ∃ c, s[k] = c := ⟨_, rfl⟩
      have HG : Hid (s.data.toList[k]? = some c) := by show _ = _; rw [List.getElem?_eq_getElem (by rw [HL.out]; exact hks)]; exact congrArg some hc
      have HF := (show Hid _ from feed_step HG.out)
      by_cases h10 : c = 10
      · subst h10
        have HN : Hid (acc ++ [32] = (s.data.toList.take (k + 1)).map feed) := by show _ = _; rw [HF.out, ha.out]; rfl
        cases b
        · have HB2 : Hid (false = (acc ++ [32]).all (· == 32)) := by show _ = _; rw [List.all_append, ← hb.out]; rfl
          go_wp2_with (at_builtin; refine wpList_append_own _ rfl _ _ 30 rfl w.heap.size 5 i0 (.int .u8 0) 1 1 Tryd.underlying30 hi hz0 hz1 hz2 rfl (by decide) _ _ _ rfl (hown.alloc _) ⟨wr.heap.size, 0, none⟩ 1 1 [.int .u8 32] rfl rfl (lit_cells _ _ _) ?c2 ?c3 ?c4 ?c5 ?_)
          case c2 => first | rfl | (intro u hu; simp at hu; subst hu; rfl)
          case c3 => unfold maxLen; omega
          case c4 => omega
          case c5 => first | omega | (simp; omega)
          intro v' w2 hown' hgrow _
          have R1 := own_push (l := [32]) hown' rfl (byteCells_one _)
          have R2 := below_grown hbw.out hsz hown hgrow
          go_wp2
          go_roundw
          case rel => exact ⟨k + 1, acc ++ [32], false, rfl, by go_num, by omega, R1, HN.out, HB2.out, R2⟩
          case measure => simp [intOf]; omega

        · have HB2 : Hid (true = (acc ++ [32]).all (· == 32)) := by show _ = _; rw [List.all_append, ← hb.out]; rfl
          go_wp2_with (at_builtin; refine wpList_append_own _ rfl _ _ 30 rfl w.heap.size 5 i0 (.int .u8 0) 1 1 Tryd.underlying30 hi hz0 hz1 hz2 rfl (by decide) _ _ _ rfl (hown.alloc _) ⟨wr.heap.size, 0, none⟩ 1 1 [.int .u8 32] rfl rfl (lit_cells _ _ _) ?c2 ?c3 ?c4 ?c5 ?_)
          case c2 => first | rfl | (intro u hu; simp at hu; subst hu; rfl)
          case c3 => unfold maxLen; omega
          case c4 => omega
          case c5 => first | omega | (simp; omega)
          intro v' w2 hown' hgrow _
          have R1 := own_push (l := [32]) hown' rfl (byteCells_one _)
          have R2 := below_grown hbw.out hsz hown hgrow
          go_wp2
          go_roundw
          case rel => exact ⟨k + 1, acc ++ [32], true, rfl, by go_num, by omega, R1, HN.out, HB2.out, R2⟩
          case measure => simp [intOf]; omega

      · have q10a : ¬ (c.toNat : Int) = 10 := fun e => h10 (UInt8.toNat_inj.1 (by show c.toNat = 10; omega))
        have q10 : ((c.toNat : Int) == 10) = false := by rw [beq_eq_false_iff_ne]; exact q10a
        have HN : Hid (acc ++ [c] = (s.data.toList.take (k + 1)).map feed) := by show _ = _; rw [HF.out, ha.out]; unfold feed; rw [if_neg h10]
        cases b
        · have HB2 : Hid (false = (acc ++ [c]).all (· == 32)) := by show _ = _; rw [List.all_append, ← hb.out]; rfl
          go_wp2_with (at_builtin; refine wpList_append_own _ rfl _ _ 30 rfl w.heap.size 5 i0 (.int .u8 0) 1 1 Tryd.underlying30 hi hz0 hz1 hz2 rfl (by decide) _ _ _ rfl (hown.alloc _) ⟨wr.heap.size, 0, none⟩ 1 1 [.int .u8 (c.toNat : Int)] rfl rfl (lit_cells _ _ _) ?c2 ?c3 ?c4 ?c5 ?_)
          case c2 => first | rfl | (intro u hu; simp at hu; subst hu; rfl)
          case c3 => unfold maxLen; omega
          case c4 => omega
          case c5 => first | omega | (simp; omega)
          intro v' w2 hown' hgrow _
          have R1 := own_push (l := [c]) hown' rfl (byteCells_one _)
          have R2 := below_grown hbw.out hsz hown hgrow
          go_wp2
          go_roundw
          case rel => exact ⟨k + 1, acc ++ [c], false, rfl, by go_num, by omega, R1, HN.out, HB2.out, R2⟩
          case measure => simp [intOf]; omega

        · by_cases h32 : c = 32
          · have q32 : ((c.toNat : Int) == 32) = true := by rw [h32]; rfl
            have HB2 : Hid (true = (acc ++ [c]).all (· == 32)) := by show _ = _; rw [List.all_append, ← hb.out, h32]; rfl
            clear h32
            go_wp2_with (at_builtin; refine wpList_append_own _ rfl _ _ 30 rfl w.heap.size 5 i0 (.int .u8 0) 1 1 Tryd.underlying30 hi hz0 hz1 hz2 rfl (by decide) _ _ _ rfl (hown.alloc _) ⟨wr.heap.size, 0, none⟩ 1 1 [.int .u8 (c.toNat : Int)] rfl rfl (lit_cells _ _ _) ?c2 ?c3 ?c4 ?c5 ?_)
            case c2 => first | rfl | (intro u hu; simp at hu; subst hu; rfl)
            case c3 => unfold maxLen; omega
            case c4 => omega
            case c5 => first | omega | (simp; omega)
            intro v' w2 hown' hgrow _
            have R1 := own_push (l := [c]) hown' rfl (byteCells_one _)
            have R2 := below_grown hbw.out hsz hown hgrow
            go_wp2
            go_roundw
            case rel => exact ⟨k + 1, acc ++ [c], true, rfl, by go_num, by omega, R1, HN.out, HB2.out, R2⟩
            case measure => simp [intOf]; omega

          · have q32a : ¬ (c.toNat : Int) = 32 := fun e => h32 (UInt8.toNat_inj.1 (by show c.toNat = 32; omega))
            have q32 : ((c.toNat : Int) == 32) = false := by rw [beq_eq_false_iff_ne]; exact q32a
            have HB2 : Hid (false = (acc ++ [c]).all (· == 32)) := by
              show _ = _
              rw [List.all_append, ← hb.out]
              simp [h32]
            go_wp2_with (at_builtin; refine wpList_append_own _ rfl _ _ 30 rfl w.heap.size 5 i0 (.int .u8 0) 1 1 Tryd.underlying30 hi hz0 hz1 hz2 rfl (by decide) _ _ _ rfl (hown.alloc _) ⟨wr.heap.size, 0, none⟩ 1 1 [.int .u8 (c.toNat : Int)] rfl rfl (lit_cells _ _ _) ?c2 ?c3 ?c4 ?c5 ?_)
            case c2 => first | rfl | (intro u hu; simp at hu; subst hu; rfl)
            case c3 => unfold maxLen; omega
            case c4 => omega
            case c5 => first | omega | (simp; omega)
            intro v' w2 hown' hgrow _
            have R1 := own_push (l := [c]) hown' rfl (byteCells_one _)
            have R2 := below_grown hbw.out hsz hown hgrow
            go_wp2
            go_roundw
            case rel => exact ⟨k + 1, acc ++ [c], false, rfl, by go_num, by omega, R1, HN.out, HB2.out, R2⟩
            case measure => simp [intOf]; omega

    · have g1 : ¬ (k : Int) < (s.size : Int) := by omega
      have HM : Hid (acc = s.data.toList.map feed) := by show _ = _; rw [ha.out, List.take_of_length_le (by rw [HL.out]; omega)]
      have HI : Hid (innerL s.data.toList = if 1 < acc.length ∧ acc.all (· == 32) = false ∧ acc.head? = some 32 ∧ acc.getLast? = some 32 then (acc.drop 1).dropLast else acc) := by show _ = _; rw [HM.out]; rfl
      have hconv := own_string hown
      by_cases h1 : 1 < acc.length
      · have hne : acc ≠ [] := by intro e; rw [e] at h1; simp at h1
        obtain ⟨g, cap, rfl, hc1, hc2⟩ := rown_slice hown hne
        obtain ⟨p, hp⟩ : ∃ p, acc.length = p + 2 := ⟨acc.length - 2, by omega⟩
        have HP := (show Hid _ from hp)
        cases b
        · have HAL2 : Hid (acc.all (· == 32) = false) := hb.out.symm
          obtain ⟨x, hx⟩ : ∃ x, acc[0]? = some x := ⟨acc[0], List.getElem?_eq_getElem (by omega)⟩
          obtain ⟨z, hz⟩ : ∃ z, acc[p + 1]? = some z := ⟨acc[p + 1], List.getElem?_eq_getElem (by omega)⟩
          have cx := rown_at hown hx
          have cz := rown_at hown hz
          have HX : Hid (acc.head? = some x) := by show _ = _; rw [List.head?_eq_getElem?]; exact hx
          have HZ : Hid (acc.getLast? = some z) := by show _ = _; rw [List.getLast?_eq_getElem?, hp]; exact hz
          have hpc := rown_piece hown hp (cap - 1)
          unfold maxLen at hc2
          rw [hp] at hconv hc1 ⊢
          clear hp h1 hx hz hown hal
          by_cases x32 : x = 32
          · have qx : ((x.toNat : Int) == 32) = true := by rw [x32]; rfl
            by_cases z32 : z = 32
            · have qz : ((z.toNat : Int) == 32) = true := by rw [z32]; rfl
              have HE : Hid (innerL s.data.toList = (acc.drop 1).dropLast) := by show _ = _; rw [HI.out, if_pos ⟨by rw [HP.out]; omega, HAL2.out, by rw [HX.out, x32], by rw [HZ.out, z32]⟩]
              clear x32 z32
              go_wp2
              go_ret
              exact ⟨ret_str (by rw [HE.out, List.drop_one]), hbw.out⟩
            · have qza : ¬ (z.toNat : Int) = 32 := fun e => z32 (UInt8.toNat_inj.1 (by show z.toNat = 32; omega))
              have qz : ((z.toNat : Int) == 32) = false := by rw [beq_eq_false_iff_ne]; exact qza
              have HE : Hid (innerL s.data.toList = acc) := by show _ = _; rw [HI.out, if_neg (by rintro ⟨_, _, _, h⟩; rw [HZ.out] at h; exact z32 (Option.some.inj h))]
              clear x32 z32
              go_wp2
              go_ret
              exact ⟨ret_str (by rw [HE.out]), hbw.out⟩
          · have qxa : ¬ (x.toNat : Int) = 32 := fun e => x32 (UInt8.toNat_inj.1 (by show x.toNat = 32; omega))
            have qx : ((x.toNat : Int) == 32) = false := by rw [beq_eq_false_iff_ne]; exact qxa
            have HE : Hid (innerL s.data.toList = acc) := by show _ = _; rw [HI.out, if_neg (by rintro ⟨_, _, h, _⟩; rw [HX.out] at h; exact x32 (Option.some.inj h))]
            clear x32
            go_wp2
            go_ret
            exact ⟨ret_str (by rw [HE.out]), hbw.out⟩
        · have HE : Hid (innerL s.data.toList = acc) := by show _ = _; rw [HI.out, if_neg (by rintro ⟨_, h, _⟩; rw [← hb.out] at h; cases h)]
          unfold maxLen at hc2
          rw [hp] at hconv hc1 ⊢
          clear hp h1 hown hal
          go_wp2
          go_ret
          exact ⟨ret_str (by rw [HE.out]), hbw.out⟩
      · have HE : Hid (innerL s.data.toList = acc) := by show _ = _; rw [HI.out, if_neg (by rintro ⟨h, _⟩; exact h1 h)]
        obtain ⟨ad, cp, rfl⟩ := own_slice hown
        have g2 : ¬ (1 : Int) < (acc.length : Int) := by omega
        clear h1
        go_wp2
        go_ret
        exact ⟨ret_str (by rw [HE.out]), hbw.out⟩

end Go.Proofs.YtegjpfhpkkffiaaDoor
