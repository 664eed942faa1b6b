/- What runes.Clean answers, of any bytes. -/
import Derived.Test.YtkjicdldlnefeaaDoorQFMem
set_option linter.unusedVariables false
namespace Go.Proofs.YtkjicdldlnefeaaDoor.run
open Go.RowKit

theorem drop_ne {l : List UInt8} {p : Nat} (h : p < l.length) : l.drop p ≠ [] := by
  intro e
  have := congrArg List.length e
  simp at this
  omega

theorem enc_cells (r : Nat) : Lib.runeCells (r : Int) = Lib.byteCells (enc r) := (Lib.byteCells_encodeRune (r : Int)).symm

set_option maxHeartbeats 2000000 in
set_option maxRecDepth 100000 in
theorem clean_any (ao : Option Addr) (len cap : Nat) (l : List UInt8) (w : World) (hsm : len ≤ 1073741824) (hin : BytesIn w ao len cap l) :
    Calls Tryd.prog 48 #[.slice ao len cap] w fun e w' => e = .returned (.string ⟨(clean l).toArray⟩) ∧ Below w.heap.size w w' := by
  obtain ⟨i0, hi, hz0, hz1, hz2⟩ := info_parts info5
  obtain ⟨hlen, hconv⟩ := hin
  have hm : len ≤ maxLen := by unfold maxLen; omega
  go_enter Tryd.func48, Tryd.ntmps48
  go_wp2_with (at_make; refine wpList_make_own _ rfl _ _ 54 rfl w.heap.size 5 i0 (.int .u8 0) 1 Tryd.underlying54 hi hz0 hz1 _ _ _ len rfl rfl rfl ?b1 hm (Nat.le_refl _) ?_)
  case b1 => rw [hz2]; omega
  intro w1 hown0 hgr0
  have hb1 : Below w.heap.size w w1 := (Below.refl _ _).grown hgr0 (Nat.le_refl _) (fun k hk => by cases hk)
  have hc1 := hconv w1 hb1
  have hs1 : w.heap.size < w1.heap.size := (hown0.lt w.heap.size rfl).2
  clear hconv hgr0
  go_wp2
  go_loopw [3] (fun v wr => ∃ (pos : Nat) (acc : List UInt8), wr.ownsRow w.heap.size 5 1 v acc.length (Lib.byteCells acc) ∧ wr.heap[w1.heap.size]? = some (.stringIter ⟨l.toArray⟩ pos) ∧ Below w.heap.size w wr ∧ acc ++ clean (l.drop pos) = clean l ∧ acc.length ≤ 4 * pos) (fun _ wr => l.length - wr.iterPos w1.heap.size)
  case atStart =>
    refine ⟨0, [], ?_, ?_, hb1.alloc (by omega) _, rfl, by simp⟩
    · exact hown0.alloc _
    · exact World.iter_heap w1 _ 0
  case round =>
    obtain ⟨pos, acc, hown, hit, hbw, hacc, hal⟩ := hrel
    have hsz : w1.heap.size < wr.heap.size := (Array.getElem?_eq_some_iff.1 hit).1
    by_cases hp : pos < l.length
    · have hok := dc_ok (l.drop pos) (drop_ne hp)
      have hst := clean_step (l.drop pos) (drop_ne hp)
      have hnx : ∀ ty, (Instr.next (.pointer (some ⟨w1.heap.size, 0, none⟩)) true ty).run Tryd.prog wr = _ := fun ty => Lib.run_next_any_at wr w1.heap.size ⟨l.toArray⟩ pos ty hit (by rw [size_list]; exact hp)
      rw [decode_at, list_data] at hnx
      generalize hr : (dc (l.drop pos)).1 = r at *
      generalize hn : (dc (l.drop pos)).2 = n at *
      have hown2 := own_iterAt hown hit (pos + n)
      have hit2 := Lib.iterAt_heap wr w1.heap.size ⟨l.toArray⟩ pos (pos + n) hit
      have hbw2 := Lib.below_iterAt hbw (k := w1.heap.size) (by omega) ⟨l.toArray⟩ (pos + n)
      have hsz2 : w.heap.size ≤ (wr.iterAt w1.heap.size ⟨l.toArray⟩ (pos + n)).heap.size := by rw [Lib.iterAt_size]; omega
      obtain ⟨hr1, hn1, hn2⟩ := hok
      rw [List.length_drop] at hn2
      rw [List.drop_drop] at hst
      have HR : Hid (acc ++ (enc (cleanR r) ++ clean (l.drop (pos + n))) = clean l) := by rw [← hst]; exact hacc
      clear hacc hst hr hn hown hbw hb1 hown0 hc1
      by_cases h0 : r = 0
      · subst h0
        have hq : ((0 : Int) == 0) = true := rfl
        go_wp2_with (go_at_call 64; refine (append_rune w.heap.size _ _ _ 65533 (by omega) (by omega) _ hown2 (by omega) hsz2).mono ?_)
        rintro e W1 ⟨v', rfl, ho, o, hg⟩
        go_wp2
        go_roundw
        case rel =>
          have ec := enc_cells 65533
          refine ⟨pos + n, acc ++ enc 65533, ?_, iter_grown hown2 hg hit2, below_grown hbw2 hsz2 hown2 hg, ?_, ?_⟩
          · rw [List.length_append, Lib.byteCells_append, ← ec, ← Lib.byteCells_length (enc 65533), ← ec]; exact ho
          · rw [List.append_assoc]; exact HR.out
          · have := enc_len 65533; rw [List.length_append]; omega
        case measure =>
          rw [iterPos_of hit, iterPos_of (iter_grown hown2 hg hit2)]
          omega
      · have hq : ((r : Int) == 0) = false := by simp [h0]
        go_wp2_with (go_at_call 64; refine (append_rune w.heap.size _ _ _ (r : Int) (by omega) (by omega) _ hown2 (by omega) hsz2).mono ?_)
        rintro e W1 ⟨v', rfl, ho, o, hg⟩
        go_wp2
        go_roundw
        case rel =>
          have ec := enc_cells r
          have hcr := cleanR_of r h0
          refine ⟨pos + n, acc ++ enc r, ?_, iter_grown hown2 hg hit2, below_grown hbw2 hsz2 hown2 hg, ?_, ?_⟩
          · rw [List.length_append, Lib.byteCells_append, ← ec, ← Lib.byteCells_length (enc r), ← ec]; exact ho
          · rw [List.append_assoc]; have := HR.out; rw [hcr] at this; exact this
          · have := enc_len r; rw [List.length_append]; omega
        case measure =>
          rw [iterPos_of hit, iterPos_of (iter_grown hown2 hg hit2)]
          omega
    · have hnx : ∀ ty, (Instr.next (.pointer (some ⟨w1.heap.size, 0, none⟩)) true ty).run Tryd.prog wr = _ := fun ty => Lib.run_next_end_at wr w1.heap.size ⟨l.toArray⟩ pos ty hit (by rw [size_list]; exact hp)
      have hcv := own_string hown
      rw [List.drop_eq_nil_of_le (by omega), clean_nil, List.append_nil] at hacc
      subst hacc
      clear hown hown0 hc1 hb1
      go_wp2
      go_ret
      exact ⟨rfl, hbw⟩

end Go.Proofs.YtkjicdldlnefeaaDoor.run
