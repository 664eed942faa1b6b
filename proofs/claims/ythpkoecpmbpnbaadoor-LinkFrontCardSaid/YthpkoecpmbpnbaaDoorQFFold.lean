/- What runes.Fold answers, of any text. -/
import Derived.Test.YthpkoecpmbpnbaaDoorQFSmall
set_option linter.unusedVariables false
namespace Go.Proofs.YthpkoecpmbpnbaaDoor.run
open Go.RowKit

theorem space_nat (r : Nat) : spaceB (r : Int) = spaceN r := by
  rw [Bool.eq_iff_iff]; simp only [spaceB, spaceN, decide_eq_true_eq]; omega

theorem own_slice {w : World} {B : Nat} {e : TypeId} {v : Value} {n : Nat} {xs : List Value} (h : w.ownsRow B e 1 v n xs) : ∃ ao cap, v = .slice ao n cap := by
  rcases h.2 with ⟨rfl, rfl⟩ | ⟨g, cap, cur, rfl, _⟩
  · exact ⟨none, 0, rfl⟩
  · exact ⟨_, cap, rfl⟩

theorem encAll_zero (rs : List Nat) (h : (encAll rs).length = 0) : rs.length = 0 := by
  have := (encAll_le rs).1; omega

/-- One blank behind a row of bytes that the call owns. -/
theorem bytes_push (acc : List UInt8) : Lib.byteCells (acc ++ [32]) = Lib.byteCells acc ++ [.int .u8 32] := by simp [Lib.byteCells]

theorem foldS_space (out : List Nat) (gap : Bool) (r : Nat) (rs : List Nat) (h : spaceN r = true) : foldS out gap (r :: rs) = foldS out true rs := by simp [foldS, h]
theorem foldS_char (out : List Nat) (gap : Bool) (r : Nat) (rs : List Nat) (h : spaceN r = false) : foldS out gap (r :: rs) = foldS (out ++ gapR gap out ++ smallR r) false rs := by simp [foldS, h]

set_option maxHeartbeats 4000000 in
set_option maxRecDepth 100000 in
theorem fold_any (l : List UInt8) (w : World) (hsm : l.length ≤ 1073741824) :
    Calls Tryd.prog 34 #[.string ⟨l.toArray⟩] w fun e w' => e = .returned (.string ⟨(fold l).toArray⟩) ∧ Below w.heap.size w w' := by
  obtain ⟨i0, hi, hz0, hz1, hz2⟩ := info_parts info5
  have hm : l.length ≤ maxLen := by unfold maxLen; omega
  have hsl := size_list l
  go_enter Tryd.func34, Tryd.ntmps34
  go_wp2_with (at_make; refine wpList_make_own _ rfl _ _ 46 rfl w.heap.size 5 i0 (.int .u8 0) 1 Tryd.underlying46 hi hz0 hz1 _ _ _ l.length rfl rfl (by simp) ?b1 hm (Nat.le_refl _) ?_)
  case b1 => rw [hz2]; omega
  intro w1 hown0 hgr0
  have hb1 : Below w.heap.size w w1 := (Below.refl _ _).grown hgr0 (Nat.le_refl _) (fun k hk => by cases hk)
  have hs1 : w.heap.size < w1.heap.size := (hown0.lt w.heap.size rfl).2
  clear hgr0 hsl
  go_wp2
  go_loopw [3, 4] (fun v t wr => ∃ (pos : Nat) (acc : List Nat) (gap : Bool), wr.ownsRow w.heap.size 5 1 v (encAll acc).length (Lib.byteCells (encAll acc)) ∧ t = .bool gap ∧ wr.heap[w1.heap.size]? = some (.stringIter ⟨l.toArray⟩ pos) ∧ Below w.heap.size w wr ∧ encAll (foldS acc gap (runes (l.drop pos))) = fold l ∧ (encAll acc).length ≤ 5 * pos) (fun _ _ wr => l.length - wr.iterPos w1.heap.size)
  case atStart =>
    refine ⟨0, [], false, ?_, rfl, ?_, hb1.alloc (by omega) _, rfl, by simp [encAll_nil]⟩
    · exact hown0.alloc _
    · exact World.iter_heap w1 _ 0
  case round =>
    obtain ⟨pos, acc, gap, hown, rfl, hit, hbw, hacc, hal⟩ := hrel
    have hsz : w1.heap.size < wr.heap.size := (Array.getElem?_eq_some_iff.1 hit).1
    by_cases hp : pos < l.length
    · have hok := dc_ok (l.drop pos) (drop_ne hp)
      have hst := runes_cons (l.drop pos) (drop_ne hp)
      have hnx : ∀ ty, (Instr.next (.pointer (some ⟨w1.heap.size, 0, none⟩)) true ty).run Tryd.prog wr = _ := fun ty => Lib.run_next_any_at wr w1.heap.size ⟨l.toArray⟩ pos ty hit (by rw [size_list]; exact hp)
      rw [decode_at, list_data] at hnx
      generalize hr : (dc (l.drop pos)).1 = r at *
      generalize hn : (dc (l.drop pos)).2 = n at *
      have hown2 := own_iterAt hown hit (pos + n)
      have hit2 := Lib.iterAt_heap wr w1.heap.size ⟨l.toArray⟩ pos (pos + n) hit
      have hbw2 := Lib.below_iterAt hbw (k := w1.heap.size) (by omega) ⟨l.toArray⟩ (pos + n)
      have hsz2 : w.heap.size ≤ (wr.iterAt w1.heap.size ⟨l.toArray⟩ (pos + n)).heap.size := by rw [Lib.iterAt_size]; omega
      obtain ⟨hr1, hn1, hn2⟩ := hok
      rw [List.length_drop] at hn2
      rw [List.drop_drop] at hst
      rw [hst] at hacc
      have hsb := space_nat r
      obtain ⟨ao, cap, hv⟩ := own_slice hown
      subst hv
      clear hst hr hn hown hbw hb1 hown0
      have Hit : Hid (wr.heap[w1.heap.size]? = some (.stringIter ⟨l.toArray⟩ pos)) := hit
      cases hsp : spaceN r with
      | true =>
        rw [foldS_space _ _ _ _ hsp] at hacc
        rw [hsp] at hsb
        have HA : Hid (encAll (foldS acc true (runes (l.drop (pos + n)))) = fold l) := hacc
        clear hacc hsp hit
        go_wp2_with (go_at_call 43; refine (space_any _ _).mono ?_; rintro e w' ⟨rfl, rfl⟩)
        go_roundw
        case rel => exact ⟨pos + n, acc, true, hown2, rfl, hit2, hbw2, HA.out, by omega⟩
        case measure => rw [iterPos_of Hit.out, iterPos_of hit2]; omega
      | false =>
        rw [foldS_char _ _ _ _ hsp] at hacc
        rw [hsp] at hsb
        by_cases hgp : gap = true ∧ acc.length ≠ 0
        · have hgr : gapR gap acc = [32] := by unfold gapR; rw [if_pos hgp]
          rw [hgr] at hacc
          have hlen : 0 < (encAll acc).length := by have := (encAll_le acc).1; omega
          have hlt : (0 : Int) < ((encAll acc).length : Int) := by omega
          obtain ⟨rfl, hg2⟩ := hgp
          have HA : Hid (encAll (foldS (acc ++ [32] ++ smallR r) false (runes (l.drop (pos + n)))) = fold l) := hacc
          clear hacc hsp hgr hg2 hit
          go_wp2_with (first | (go_at_call 43; refine (space_any _ _).mono ?_; rintro e w' ⟨rfl, rfl⟩) | (at_builtin; refine wpList_append_own _ rfl _ _ 46 rfl w.heap.size 5 i0 (.int .u8 0) 1 1 Tryd.underlying46 hi hz0 hz1 hz2 rfl (by decide) _ _ _ rfl (hown2.alloc _) ⟨(wr.iterAt w1.heap.size ⟨l.toArray⟩ (pos + n)).heap.size, 0, none⟩ 1 1 [.int .u8 32] rfl rfl ?c1 ?c2 ?c3 ?c4 ?c5 ?_))
          case c1 => exact lit_cells _ [.int .u8 32] _
          case c2 => intro u hu; simp at hu; subst hu; rfl
          case c3 => unfold maxLen; omega
          case c4 => omega
          case c5 => simp; omega
          intro v2 w2 hown3 hgrow _
          have hit3 := iter_grown hown2 hgrow hit2
          have hbw3 := below_grown hbw2 hsz2 hown2 hgrow
          have hsz3 : w.heap.size ≤ w2.heap.size := by have := hgrow.size; simp at this; omega
          have hown4 : w2.ownsRow w.heap.size 5 1 v2 ((encAll acc).length + 1) (Lib.byteCells (encAll acc) ++ [.int .u8 32]) := hown3
          clear hown3 hgrow hown2 hit2 hbw2 hsz2
          go_wp2_with (go_at_call 51; refine (small_any w.heap.size _ _ _ r hr1 _ hown4 (by omega) hsz3).mono ?_)
          rintro e W1 ⟨v', rfl, ho, o, hg⟩
          go_wp2
          go_roundw
          case rel =>
            have hl4 := smallR_len r
            have ea : encAll (acc ++ [32] ++ smallR r) = (encAll acc ++ [32]) ++ encAll (smallR r) := by rw [encAll_append, encAll_append]; rfl
            refine ⟨pos + n, acc ++ [32] ++ smallR r, false, ?_, rfl, iter_grown hown4 hg hit3, below_grown hbw3 hsz3 hown4 hg, HA.out, ?_⟩
            · rw [ea, Lib.byteCells_append, bytes_push, List.length_append, List.length_append]; exact ho
            · rw [ea, List.length_append, List.length_append]; simp only [List.length_cons, List.length_nil]; omega
          case measure =>
            rw [iterPos_of Hit.out, iterPos_of (iter_grown hown4 hg hit3)]
            omega
        · have hgr : gapR gap acc = [] := by unfold gapR; rw [if_neg hgp]
          rw [hgr, List.append_nil] at hacc
          have HA : Hid (encAll (foldS (acc ++ smallR r) false (runes (l.drop (pos + n)))) = fold l) := hacc
          have hdec : gap = false ∨ (encAll acc).length = 0 := by
            cases gap with
            | false => exact .inl rfl
            | true =>
              right
              have h0 : acc.length = 0 := by
                by_cases h : acc.length = 0
                · exact h
                · exact absurd ⟨rfl, h⟩ hgp
              have := (encAll_le acc).2
              omega
          clear hacc hsp hgr hgp hit
          rcases hdec with rfl | hz
          · go_wp2_with (first | (go_at_call 43; refine (space_any _ _).mono ?_; rintro e w' ⟨rfl, rfl⟩) | (go_at_call 51; refine (small_any w.heap.size _ _ _ r hr1 _ hown2 (by omega) hsz2).mono ?_))
            rintro e W1 ⟨v', rfl, ho, o, hg⟩
            go_wp2
            go_roundw
            case rel =>
              have hl4 := smallR_len r
              refine ⟨pos + n, acc ++ smallR r, false, ?_, rfl, iter_grown hown2 hg hit2, below_grown hbw2 hsz2 hown2 hg, HA.out, ?_⟩
              · rw [encAll_append, Lib.byteCells_append, List.length_append]; exact ho
              · rw [encAll_append, List.length_append]; omega
            case measure =>
              rw [iterPos_of Hit.out, iterPos_of (iter_grown hown2 hg hit2)]
              omega
          · have hnl : ¬ (0 : Int) < ((encAll acc).length : Int) := by omega
            have hdd : decide ((0 : Int) < ((encAll acc).length : Int)) = false := decide_eq_false hnl
            have HZ : Hid ((encAll acc).length = 0) := hz
            clear hz
            go_wp2_with (first | (go_at_call 43; refine (space_any _ _).mono ?_; rintro e w' ⟨rfl, rfl⟩) | (go_at_call 51; refine (small_any w.heap.size _ _ _ r hr1 _ hown2 (by omega) hsz2).mono ?_))
            all_goals
              rintro e W1 ⟨v', rfl, ho, o, hg⟩
              go_wp2
              go_roundw
              case rel =>
                have hl4 := smallR_len r
                refine ⟨pos + n, acc ++ smallR r, false, ?_, rfl, iter_grown hown2 hg hit2, below_grown hbw2 hsz2 hown2 hg, HA.out, ?_⟩
                · rw [encAll_append, Lib.byteCells_append, List.length_append]; exact ho
                · rw [encAll_append, List.length_append]; omega
              case measure =>
                rw [iterPos_of Hit.out, iterPos_of (iter_grown hown2 hg hit2)]
                omega
    · have hnx : ∀ ty, (Instr.next (.pointer (some ⟨w1.heap.size, 0, none⟩)) true ty).run Tryd.prog wr = _ := fun ty => Lib.run_next_end_at wr w1.heap.size ⟨l.toArray⟩ pos ty hit (by rw [size_list]; exact hp)
      have hcv := own_string hown
      rw [List.drop_eq_nil_of_le (by omega), runes_nil] at hacc
      have hacc' : encAll acc = fold l := hacc
      rw [hacc'] at hcv
      clear hown hown0 hb1 hacc hacc'
      go_wp2
      go_ret
      exact ⟨rfl, hbw⟩

end Go.Proofs.YthpkoecpmbpnbaaDoor.run
