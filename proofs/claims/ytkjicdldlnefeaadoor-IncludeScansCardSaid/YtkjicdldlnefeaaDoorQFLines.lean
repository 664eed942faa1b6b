/- What runes.Lines answers, of any text. -/
import Derived.Test.YtkjicdldlnefeaaDoorQFMem
import Derived.Test.YtkjicdldlnefeaaDoorPlainLines
set_option linter.unusedVariables false
namespace Go.Proofs.YtkjicdldlnefeaaDoor.run
open Go.RowKit

theorem ret_int {k : IntKind} {a b : Int} (h : a = b) : Ending.returned (.int k a) = .returned (.int k b) := by rw [h]

theorem byte_at (s : ByteArray) (k : Nat) (h : k < s.size) : s[k] = s.data.toList.getD k 0 := by
  have h' : k < s.data.toList.length := by simpa using h
  rw [List.getD_eq_getElem?_getD, List.getElem?_eq_getElem h']
  rfl

theorem len_data (s : ByteArray) : s.data.toList.length = s.size := by simp

set_option maxHeartbeats 1000000 in
theorem lineStop_any (s : ByteArray) (p : Nat) (w : World) (hs : s.size ≤ 1073741824) (hp : p ≤ s.size) :
    Calls Tryd.prog 62 #[.string s, .int .i64 p] w fun e w' => e = .returned (.int .i64 (stopAt s.data.toList p)) ∧ w = w' := by
  go_enter Tryd.func62, Tryd.ntmps62
  go_wp2
  go_loop [5] (fun i => ∃ k : Nat, k ≤ s.size ∧ i = .int .i64 k ∧ Hid (stopAt s.data.toList k = stopAt s.data.toList p)) (fun i => s.size - (intOf i).toNat)
  case atStart => exact ⟨p, hp, rfl, rfl⟩
  case round =>
    obtain ⟨k, hk, rfl, HS⟩ := hrel
    by_cases hlt : k < s.size
    · have hb := byte_at s k hlt
      cases hn : notEnd (s.data.toList.getD k 0) with
      | true =>
        have h1 := stop_more (l := s.data.toList) (i := k) (by rw [len_data]; exact hlt) hn
        have h2 := notEnd_of hn
        rw [← hb] at h2
        have q1 : ((s[k].toNat : Int) == 10) = false := by simp; omega
        have q2 : ((s[k].toNat : Int) == 13) = false := by simp; omega
        have HS' : Hid (stopAt s.data.toList (k + 1) = stopAt s.data.toList p) := by rw [← h1]; exact HS
        clear hb hn h1 h2 HS
        go_wp2
        go_round
        case rel => exact ⟨k + 1, by omega, by go_num, HS'⟩
        case measure => simp [intOf]; omega
      | false =>
        have h1 := stop_here (l := s.data.toList) (i := k) (by rw [len_data]; exact hlt) hn
        have h2 := isEnd_of hn
        rw [← hb] at h2
        have HS' : Hid ((k : Int) = (stopAt s.data.toList p : Nat)) := by rw [← HS.out, h1]; rfl
        clear hb hn h1 HS
        rcases h2 with h2 | h2
        · have q1 : ((s[k].toNat : Int) == 10) = true := by simp; omega
          clear h2
          go_wp2
          go_ret
          exact ⟨ret_int HS'.out, rfl⟩
        · have q1 : ((s[k].toNat : Int) == 10) = false := by simp; omega
          have q2 : ((s[k].toNat : Int) == 13) = true := by simp; omega
          clear h2
          go_wp2
          go_ret
          exact ⟨ret_int HS'.out, rfl⟩
    · have h1 := stop_past (l := s.data.toList) (i := k) (by rw [len_data]; omega)
      have HS' : Hid ((s.size : Int) = (stopAt s.data.toList p : Nat)) := by rw [← HS.out, h1]; show _ = _; omega
      clear h1 HS
      go_wp2
      go_ret
      exact ⟨ret_int HS'.out, rfl⟩

set_option maxHeartbeats 1000000 in
theorem endLength_any (s : ByteArray) (p : Nat) (w : World) (hs : s.size ≤ 1073741824) (hp : p ≤ s.size) :
    Calls Tryd.prog 63 #[.string s, .int .i64 p] w fun e w' => e = .returned (.int .i64 (endAt s.data.toList p)) ∧ w = w' := by
  by_cases h0 : s.size ≤ p
  · have HE : Hid ((0 : Int) = (endAt s.data.toList p : Nat)) := by unfold endAt; rw [if_pos (by rw [len_data]; exact h0)]; rfl
    go_enter Tryd.func63, Tryd.ntmps63
    go_wp2
    go_ret
    exact ⟨ret_int HE.out, rfl⟩
  · have hlt : p < s.size := by omega
    have hb := byte_at s p hlt
    by_cases h13 : s[p].toNat = 13
    · have q1 : ((s[p].toNat : Int) == 13) = true := by simp; omega
      by_cases h1 : p + 1 < s.size
      · have hb1 := byte_at s (p + 1) h1
        by_cases h10 : s[p + 1].toNat = 10
        · have q2 : ((s[p + 1].toNat : Int) == 10) = true := by simp; omega
          have HE : Hid ((2 : Int) = (endAt s.data.toList p : Nat)) := by
            unfold endAt; rw [if_neg (by rw [len_data]; exact h0), ← hb, ← hb1, if_pos ⟨h13, by rw [len_data]; exact h1, h10⟩]; rfl
          clear hb hb1 h13 h10
          go_enter Tryd.func63, Tryd.ntmps63
          go_wp2
          go_ret
          exact ⟨ret_int HE.out, rfl⟩
        · have q2 : ((s[p + 1].toNat : Int) == 10) = false := by simp; omega
          have HE : Hid ((1 : Int) = (endAt s.data.toList p : Nat)) := by
            unfold endAt; rw [if_neg (by rw [len_data]; exact h0), ← hb, ← hb1, if_neg (by intro h; exact h10 h.2.2)]; rfl
          clear hb hb1 h13 h10
          go_enter Tryd.func63, Tryd.ntmps63
          go_wp2
          go_ret
          exact ⟨ret_int HE.out, rfl⟩
      · have HE : Hid ((1 : Int) = (endAt s.data.toList p : Nat)) := by
          unfold endAt; rw [if_neg (by rw [len_data]; exact h0), if_neg (by rw [len_data]; intro h; exact h1 h.2.1)]; rfl
        have hd : decide ((p : Int) + 1 < (s.size : Int)) = false := by simp; omega
        clear hb h13
        go_enter Tryd.func63, Tryd.ntmps63
        go_wp2
        go_ret
        exact ⟨ret_int HE.out, rfl⟩
    · have q1 : ((s[p].toNat : Int) == 13) = false := by simp; omega
      have HE : Hid ((1 : Int) = (endAt s.data.toList p : Nat)) := by
        unfold endAt; rw [if_neg (by rw [len_data]; exact h0), ← hb, if_neg (by intro h; exact h13 h.1)]; rfl
      clear hb h13
      go_enter Tryd.func63, Tryd.ntmps63
      go_wp2
      go_ret
      exact ⟨ret_int HE.out, rfl⟩

theorem info9 : (Tryd.prog.info? 9).map (fun i => (i.zero, i.size, i.bytes)) = some (some (.string ⟨#[]⟩), 1, 16) := by kernel_rfl

def strV (x : List UInt8) : Value := .string ⟨x.toArray⟩
def strVs (a : List (List UInt8)) : List Value := a.map strV

theorem extract_eq (s : ByteArray) (a b : Nat) : s.extract a b = ⟨((s.data.toList.drop a).take (b - a)).toArray⟩ := by
  apply ByteArray.ext
  apply Array.ext'
  simp [ByteArray.data_extract]

theorem strVs_push (a : List (List UInt8)) (x : List UInt8) : strVs (a ++ [x]) = strVs a ++ [strV x] := by simp [strVs]

set_option maxHeartbeats 2000000 in
set_option maxRecDepth 100000 in
theorem lines_any (s : ByteArray) (w : World) (hs : s.size ≤ 1073741824) :
    Calls Tryd.prog 47 #[.string s] w fun e w' => ∃ v, e = .returned v ∧ w'.ownsRow w.heap.size 9 1 v (lines s.data.toList).length (strVs (lines s.data.toList)) ∧ Below w.heap.size w w' := by
  obtain ⟨i0, hi, hz0, hz1, hz2⟩ := info_parts info9
  go_enter Tryd.func47, Tryd.ntmps47
  go_wp2
  go_loopw [3, 4] (fun v t wr => ∃ (p : Nat) (acc : List (List UInt8)), wr.ownsRow w.heap.size 9 1 v acc.length (strVs acc) ∧ t = .int .i64 p ∧ p ≤ s.size ∧ acc.length ≤ p ∧ Below w.heap.size w wr ∧ Hid (acc ++ linesAt s.data.toList p = lines s.data.toList)) (fun _ t _ => s.size - (intOf t).toNat)
  case atStart => exact ⟨0, [], World.ownsRow_nil _ _ _ _, rfl, by omega, by simp, Below.refl _ _, rfl⟩
  case round =>
    obtain ⟨p, acc, hown, rfl, hp, hal, hbw, HA⟩ := hrel
    have hsz := hbw.size
    by_cases hlt : p < s.size
    · have hst := lines_step (l := s.data.toList) (i := p) (by rw [len_data]; exact hlt)
      have hle := stop_le (l := s.data.toList) (i := p) (by rw [len_data]; exact hp)
      have hng := next_gt (l := s.data.toList) (i := p) (by rw [len_data]; exact hlt)
      rw [len_data] at hle hng
      have hex := extract_eq s p (stopAt s.data.toList p)
      rw [← take_stop] at hex
      have HN : Hid (acc ++ ((s.data.toList.drop p).takeWhile notEnd :: linesAt s.data.toList (nextAt s.data.toList p)) = lines s.data.toList) := by rw [← hst]; exact HA
      have hnx : nextAt s.data.toList p = stopAt s.data.toList p + endAt s.data.toList (stopAt s.data.toList p) := rfl
      generalize hx : (s.data.toList.drop p).takeWhile notEnd = x at *
      have hend := fun w' => endLength_any s (stopAt s.data.toList p) w' hs hle.2
      have hstp := fun w' => lineStop_any s p w' hs hp
      generalize hnq : nextAt s.data.toList p = q at *
      generalize hm : stopAt s.data.toList p = m at *
      generalize hk : endAt s.data.toList m = k at *
      obtain ⟨hpm, hms⟩ := hle
      obtain ⟨hpq, hqs⟩ := hng
      have HX : Hid (Value.string (s.extract p m) = strV x) := congrArg Value.string hex
      have HQ : Hid (q = m + k) := hnx
      have hqk : m + k ≤ s.size := by omega
      have HL := (show Hid (∀ w', Calls Tryd.prog 62 #[.string s, .int .i64 p] w' fun e w'' => e = .returned (.int .i64 m) ∧ w' = w'') from hstp)
      have HE := (show Hid (∀ w', Calls Tryd.prog 63 #[.string s, .int .i64 m] w' fun e w'' => e = .returned (.int .i64 k) ∧ w' = w'') from hend)
      clear hst hx hnq hm hk hex hnx HA hend hstp
      go_wp2_with (first | (go_at_call 62; refine (HL.out _).mono ?_; rintro e w' ⟨rfl, rfl⟩) | (at_builtin; refine wpList_append_own _ rfl _ _ 29 rfl w.heap.size 9 i0 (.string ⟨#[]⟩) 1 16 Tryd.underlying29 hi hz0 hz1 hz2 rfl (by decide) _ _ _ rfl (hown.alloc _) ⟨wr.heap.size, 0, none⟩ 1 1 [.string (s.extract p m)] rfl rfl ?c1 ?c2 ?c3 ?c4 ?c5 ?_))
      case c1 => exact lit_cells _ [.string (s.extract p m)] _
      case c2 => intro u hu; simp at hu; subst hu; rfl
      case c3 => unfold maxLen; omega
      case c4 => omega
      case c5 => simp; omega
      intro v2 w2 hown3 hgrow _
      have hbw3 := below_grown hbw hsz hown hgrow
      go_wp2_with (go_at_call 63; refine (HE.out _).mono ?_; rintro e w' ⟨rfl, rfl⟩)
      go_roundw
      case rel =>
        refine ⟨q, acc ++ [x], ?_, by have := HQ.out; subst this; go_num, hqs, by simp; omega, hbw3, ?_⟩
        · rw [strVs_push, ← HX.out, List.length_append]; exact hown3
        · show (acc ++ [x]) ++ _ = _
          rw [List.append_assoc]; exact HN.out
      case measure => have := HQ.out; simp [intOf]; omega
    · go_wp2
      go_ret
      have := HA.out
      rw [lines_end (by rw [len_data]; omega), List.append_nil] at this
      subst this
      exact ⟨_, rfl, hown, hbw⟩

end Go.Proofs.YtkjicdldlnefeaaDoor.run
