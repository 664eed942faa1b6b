/- What the document's answer writes: numbers and texts: the same. -/
import Derived.Test.YtleioifciahfgaaDoorZPut
set_option linter.unusedVariables false
namespace Go.Proofs.YtleioifciahfgaaDoor
open Go.RowKit

theorem own_made0 (w : World) (B : Nat) (hB : B ≤ w.heap.size) : OwnB (w.alloc (.cells #[] 5)) B (.slice (some ⟨w.heap.size, 0, none⟩) 0 0) [] := World.ownsRow_made w #[] 0 hB (by unfold maxLen; omega) rfl

set_option maxHeartbeats 2000000 in
set_option maxRecDepth 100000 in
theorem rputNumber_any (a : Option Addr) (len cap : Nat) (l : List UInt8) (n : Nat) (w : World) (h : BRow w a len cap l) (hn : n < 18446744073709551616) (hlen : len + (putN n).length ≤ 140737488355328) :
    Calls Tryd.prog 12 #[.slice a len cap, .int .u64 (n : Int)] w (Made w (l ++ putN n)) := by
  have hll := h.1
  obtain ⟨T, hT⟩ : ∃ T, l ++ putN n = T := ⟨_, rfl⟩
  have hTl : T.length ≤ 140737488355328 := by rw [← hT, List.length_append]; omega
  unfold Made
  rw [hT]
  have hba : Below w.heap.size w (w.alloc (.cells #[] 5)) := (Below.refl _ _).alloc (Nat.le_refl _) _
  go_enter Tryd.func12, Tryd.ntmps12
  go_wp2_with (at_builtin; refine wpList_copy (own_made0 w w.heap.size (Nat.le_refl _)) (h.below hba) ?c2 hba.size rfl _ _ rfl rfl rfl ?_)
  case c2 => simp; omega
  intro vo w1 hown hb1
  have hb01 := hba.trans hb1
  go_wp2
  go_loopw [5, 1] (fun u m wr => ∃ (acc' : List UInt8) (n' : Nat), m = .int .u64 (n' : Int) ∧ n' < 18446744073709551616 ∧ OwnB wr w.heap.size u acc' ∧ Below w.heap.size w wr ∧ w.heap.size ≤ wr.heap.size ∧ Hid (acc' ++ putN n' = T)) (fun _ m _ => (intOf m).toNat)
  case atStart => exact ⟨l, n, rfl, hn, hown, hb01, hb01.size, hT⟩
  case round =>
    obtain ⟨acc', n', rfl, hn', hown', hb', hB', HT⟩ := hrel
    have HT2 := HT.out
    by_cases hlt : n' < 128
    · rw [putN_small hlt] at HT2
      have hl : acc'.length + 1 ≤ 140737488355328 := by have := congrArg List.length HT2; simp at this; omega
      clear HT
      go_wp2_with (at_builtin; refine wpList_copy (l := [n'.toUInt8]) (hown'.alloc _) (brow_one _ _ _ ?c1 _) ?c2 ?c3 rfl _ _ rfl rfl rfl ?_)
      case c1 => rw [toU8N _ (by omega)]
      case c2 => simp; omega
      case c3 => simp; omega
      intro vo w2 hown2 hb2
      go_wp2
      go_ret
      exact ⟨_, rfl, hown2, (hb'.alloc hB' _).trans hb2⟩
    · rw [putN_large hlt] at HT2
      have hl : acc'.length + 1 ≤ 140737488355328 := by have := congrArg List.length HT2; simp at this; omega
      have HT3 : Hid ((acc' ++ [(n' % 128 + 128).toUInt8]) ++ putN (n' / 128) = T) := by show _ = _; rw [← HT2]; simp
      obtain ⟨cc, hcc⟩ : ∃ cc, (n' % 128 + 128).toUInt8 = cc := ⟨_, rfl⟩
      have hcv : cc.toNat = n' % 128 + 128 := by rw [← hcc]; exact toU8N _ (by omega)
      rw [hcc] at HT3
      clear HT HT2 hcc
      go_wp2_with (at_builtin; refine wpList_copy (l := [cc]) (hown'.alloc _) (brow_one _ _ _ ?c1 _) ?c2 ?c3 rfl _ _ rfl rfl rfl ?_)
      case c1 => omega
      case c2 => simp; omega
      case c3 => simp; omega
      intro vo w2 hown2 hb2
      go_wp2
      go_roundw
      case rel =>
        have hb3 : Below w.heap.size w w2 := (hb'.alloc hB' _).trans hb2
        exact ⟨acc' ++ [cc], n' / 128, rfl, by omega, hown2, hb3, hb3.size, HT3⟩
      case measure => simp [intOf]; omega

set_option maxHeartbeats 2000000 in
theorem rputText_any (a : Option Addr) (len cap : Nat) (l : List UInt8) (s : ByteArray) (w : World) (h : BRow w a len cap l) (hlen : len + (putN s.size).length + s.size ≤ 140737488355328) :
    Calls Tryd.prog 13 #[.slice a len cap, .string s] w (Made w (l ++ putT s.data.toList)) := by
  obtain ⟨i0, hi, hz0, hz1, hz2⟩ := info_parts info5
  have hl := h.1
  have hc := rputNumber_any a len cap l s.size w h (by omega) (by omega)
  go_enter Tryd.func13, Tryd.ntmps13
  go_wp2_with (go_at_call 12; refine hc.mono ?_)
  rintro e w3 ⟨v3, rfl, hown3, hb3⟩
  go_wp2_with (at_builtin; refine Lib.wpList_append_own_string _ rfl _ _ 22 9 rfl w.heap.size 5 i0 Tryd.underlying22 Tryd.underlying9 hi hz0 hz1 hz2 _ _ _ rfl hown3 s rfl ?c1 ?c2 ?c3 ?_)
  case c1 => unfold maxLen; rw [List.length_append]; omega
  case c2 => rw [List.length_append]; omega
  case c3 => exact hb3.size
  intro v' w2 hown' hgrow _
  go_wp2
  go_ret
  refine ⟨_, rfl, ?_, hb3.trans (below_grown0 (Below.refl _ _) hb3.size hown3 hgrow)⟩
  rw [← hl, ← List.length_append] at hown'
  have := own_push (acc := l ++ putN s.size) (l := s.data.toList) hown' (len_data s) (by rw [← strCells_list, mk_data])
  have e1 : l ++ putT s.data.toList = (l ++ putN s.size) ++ s.data.toList := by simp [putT]
  rw [e1]
  exact this
end Go.Proofs.YtleioifciahfgaaDoor
