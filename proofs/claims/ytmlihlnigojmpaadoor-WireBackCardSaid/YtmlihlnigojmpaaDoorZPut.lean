/- What snap writes: numbers and texts. -/
import Derived.Test.YtmlihlnigojmpaaDoorZBytes
import Derived.Test.YtmlihlnigojmpaaDoorPlainSnap
import Derived.Lib.AppendStr
set_option linter.unusedVariables false
namespace Go.Proofs.YtmlihlnigojmpaaDoor
open Go.RowKit

theorem own_lower {w : World} {B B' : Nat} {v : Value} {l : List UInt8} (h : OwnB w B v l) (hB : B' ≤ B) : OwnB w B' v l := by
  refine ⟨h.1, ?_⟩
  rcases h.2 with h2 | ⟨g, cap, cur, h1, h2, h3⟩
  · exact .inl h2
  · exact .inr ⟨g, cap, cur, h1, Nat.le_trans hB h2, h3⟩

set_option maxHeartbeats 2000000 in
set_option maxRecDepth 100000 in
theorem appendNumber_any (B : Nat) (v : Value) (acc : List UInt8) (n : Nat) (w : World) (hown : OwnB w B v acc) (hn : n < 18446744073709551616) (hlen : acc.length + (putN n).length ≤ 140737488355328) (hB : B ≤ w.heap.size) :
    Calls Tryd.prog 78 #[v, .int .u64 (n : Int)] w (Wrote B w acc (putN n)) := by
  obtain ⟨T, hT⟩ : ∃ T, acc ++ putN n = T := ⟨_, rfl⟩
  have hTl : T.length ≤ 140737488355328 := by rw [← hT]; simpa using hlen
  unfold Wrote
  rw [hT]
  go_enter Tryd.func78, Tryd.ntmps78
  go_wp2
  go_loopw [0, 1] (fun u m wr => ∃ (acc' : List UInt8) (n' : Nat), m = .int .u64 (n' : Int) ∧ n' < 18446744073709551616 ∧ OwnB wr B u acc' ∧ Below B w wr ∧ B ≤ wr.heap.size ∧ Hid (acc' ++ putN n' = T)) (fun _ m _ => (intOf m).toNat)
  case atStart => exact ⟨acc, n, rfl, hn, hown, Below.refl _ _, hB, hT⟩
  case round =>
    obtain ⟨acc', n', rfl, hn', hown', hb', hB', HT⟩ := hrel
    have HT2 := HT.out
    by_cases hlt : n' < 128
    · rw [putN_small hlt] at HT2
      have hl : acc'.length + 1 ≤ 140737488355328 := by have := congrArg List.length HT2; simp at this; omega
      clear HT
      go_wp2_with (at_builtin; refine wpList_copy (l := [n'.toUInt8]) (hown'.alloc _) (brow_one _ _ _ ?c1 _) ?c2 ?c3 rfl _ _ rfl rfl rfl ?_)
      case c1 => rw [toU8N _ (by omega)]
      case c2 => simp; omega
      case c3 => simp; omega
      intro vo w2 hown2 hb2
      go_wp2
      go_ret
      exact ⟨_, rfl, hown2, (hb'.alloc hB' _).trans hb2⟩
    · rw [putN_large hlt] at HT2
      have hl : acc'.length + 1 ≤ 140737488355328 := by have := congrArg List.length HT2; simp at this; omega
      have HT3 : Hid ((acc' ++ [(n' % 128 + 128).toUInt8]) ++ putN (n' / 128) = T) := by show _ = _; rw [← HT2]; simp
      obtain ⟨cc, hcc⟩ : ∃ cc, (n' % 128 + 128).toUInt8 = cc := ⟨_, rfl⟩
      have hcv : cc.toNat = n' % 128 + 128 := by rw [← hcc]; exact toU8N _ (by omega)
      rw [hcc] at HT3
      clear HT HT2 hcc
      go_wp2_with (at_builtin; refine wpList_copy (l := [cc]) (hown'.alloc _) (brow_one _ _ _ ?c1 _) ?c2 ?c3 rfl _ _ rfl rfl rfl ?_)
      case c1 => omega
      case c2 => simp; omega
      case c3 => simp; omega
      intro vo w2 hown2 hb2
      go_wp2
      go_roundw
      case rel =>
        have hb3 : Below B w w2 := (hb'.alloc hB' _).trans hb2
        exact ⟨acc' ++ [cc], n' / 128, rfl, by omega, hown2, hb3, Nat.le_trans hB hb3.size, HT3⟩
      case measure => simp [intOf]; omega

/-- A new row: bytes that may be read, and a number behind them. -/
abbrev Made (w : World) (l : List UInt8) (e : Ending) (w' : World) : Prop := ∃ v', e = .returned v' ∧ OwnB w' w.heap.size v' l ∧ Below w.heap.size w w'

theorem brow_nocap {w : World} {a : Option Addr} {len cap : Nat} {l : List UInt8} (h : BRow w a len cap l) : l.length = len := h.1

set_option maxHeartbeats 2000000 in
theorem putNumber_any (a : Option Addr) (len cap : Nat) (l : List UInt8) (n : Nat) (w : World) (h : BRow w a len cap l) (hn : n < 18446744073709551616) (hlen : len + (putN n).length ≤ 140737488355328) :
    Calls Tryd.prog 66 #[.slice a len cap, .int .u64 (n : Int)] w (Made w (l ++ putN n)) := by
  have hl := h.1
  go_enter Tryd.func66, Tryd.ntmps66
  go_wp2_with (at_builtin; refine wpList_copy (own_nil w w.heap.size) h ?c2 (Nat.le_refl _) rfl _ _ rfl rfl rfl ?_)
  case c2 => simp; omega
  intro vo w2 hown2 hb2
  have hc := appendNumber_any w.heap.size vo ([] ++ l) n w2 hown2 hn (by simp; omega) hb2.size
  go_wp2_with (go_at_call 78; refine hc.mono ?_)
  rintro e w3 ⟨v3, rfl, hown3, hb3⟩
  go_wp2
  go_ret
  exact ⟨_, rfl, hown3, hb2.trans hb3⟩

set_option maxHeartbeats 2000000 in
theorem appendText_any (B : Nat) (v : Value) (acc : List UInt8) (s : ByteArray) (w : World) (hown : OwnB w B v acc) (hlen : acc.length + (putN s.size).length + s.size ≤ 140737488355328) (hB : B ≤ w.heap.size) :
    Calls Tryd.prog 79 #[v, .string s] w (Wrote B w acc (putT s.data.toList)) := by
  obtain ⟨i0, hi, hz0, hz1, hz2⟩ := info_parts info5
  have hc := appendNumber_any B v acc s.size w hown (by omega) (by omega) hB
  go_enter Tryd.func79, Tryd.ntmps79
  go_wp2_with (go_at_call 78; refine hc.mono ?_)
  rintro e w3 ⟨v3, rfl, hown3, hb3⟩
  go_wp2_with (at_builtin; refine Lib.wpList_append_own_string _ rfl _ _ 24 9 rfl B 5 i0 Tryd.underlying24 Tryd.underlying9 hi hz0 hz1 hz2 _ _ _ rfl hown3 s rfl ?c1 ?c2 ?c3 ?_)
  case c1 => unfold maxLen; rw [List.length_append]; omega
  case c2 => rw [List.length_append]; omega
  case c3 => exact Nat.le_trans hB hb3.size
  intro v' w2 hown' hgrow _
  go_wp2
  go_ret
  refine ⟨_, rfl, ?_, hb3.trans (below_grown0 (Below.refl _ _) (Nat.le_trans hB hb3.size) hown3 hgrow)⟩
  rw [← List.length_append] at hown'
  have := own_push (acc := acc ++ putN s.size) (l := s.data.toList) hown' (len_data s) (by rw [← strCells_list, mk_data])
  have e1 : acc ++ putT s.data.toList = (acc ++ putN s.size) ++ s.data.toList := by simp [putT]
  rw [e1]
  exact this

set_option maxHeartbeats 2000000 in
theorem putText_any (a : Option Addr) (len cap : Nat) (l : List UInt8) (s : ByteArray) (w : World) (h : BRow w a len cap l) (hlen : len + (putN s.size).length + s.size ≤ 140737488355328) :
    Calls Tryd.prog 67 #[.slice a len cap, .string s] w (Made w (l ++ putT s.data.toList)) := by
  have hl := h.1
  go_enter Tryd.func67, Tryd.ntmps67
  go_wp2_with (at_builtin; refine wpList_copy (own_nil w w.heap.size) h ?c2 (Nat.le_refl _) rfl _ _ rfl rfl rfl ?_)
  case c2 => simp; omega
  intro vo w2 hown2 hb2
  have hc := appendText_any w.heap.size vo ([] ++ l) s w2 hown2 (by simp; omega) hb2.size
  go_wp2_with (go_at_call 79; refine hc.mono ?_)
  rintro e w3 ⟨v3, rfl, hown3, hb3⟩
  go_wp2
  go_ret
  exact ⟨_, rfl, hown3, hb2.trans hb3⟩
end Go.Proofs.YtmlihlnigojmpaaDoor
