/- The document's disk: named, Used, fails, New, Arm, Start, Read, Names; walked. -/
import Derived.Test.YtmkgaegodemglaaDRef
set_option linter.unusedVariables false
namespace Go.Proofs.Ytmkgaegodemglaa
open Go.RowKit

set_option maxHeartbeats 400000 in
theorem rnamed_any (n : Nm) (hn : n.length ≤ 140737488355328) (w : World) : Calls Try.prog 46 #[strN n] w fun e w' => e = .returned (.bool (mayN n)) ∧ w' = w := by
  have hz := size_list n
  have hz2 : ((ByteArray.mk n.toArray).size : Int) = (n.length : Int) := by rw [hz]
  unfold mayN
  by_cases h1 : 1 ≤ n.length
  · by_cases h2 : n.length ≤ 32
    · have q1 : decide ((1 : Int) ≤ (n.length : Int)) = true := by simp; omega
      have q2 : decide ((n.length : Int) ≤ 32) = true := by simp; omega
      have hq : decide (1 ≤ n.length ∧ n.length ≤ 32) = true := by simp; omega
      rw [hq]
      go_enter Try.func46, Try.ntmps46
      go_wp2
      go_ret
      exact ⟨ret_bool (by first | rfl | simpa using q2), rfl⟩
    · have q1 : decide ((1 : Int) ≤ (n.length : Int)) = true := by simp; omega
      have q2 : decide ((n.length : Int) ≤ 32) = false := by simp; omega
      have hq : decide (1 ≤ n.length ∧ n.length ≤ 32) = false := by simp; omega
      rw [hq]
      go_enter Try.func46, Try.ntmps46
      go_wp2
      go_ret
      exact ⟨ret_bool (by first | rfl | simpa using q2), rfl⟩
  · have q1 : decide ((1 : Int) ≤ (n.length : Int)) = false := by simp; omega
    have hq : decide (1 ≤ n.length ∧ n.length ≤ 32) = false := by simp; omega
    rw [hq]
    go_enter Try.func46, Try.ntmps46
    go_wp2
    go_ret
    exact ⟨ret_bool (by first | rfl | simpa using q1), rfl⟩

theorem usedL_take {l : Fls} {k : Nat} {p : Nm × Fl} (h : l[k]? = some p) : usedL (l.take (k + 1)) = usedL (l.take k) + p.2.bs.length := by
  rw [List.take_add_one, h]
  simp [usedL]
theorem usedL_take_le (l : Fls) (k : Nat) : usedL (l.take k) ≤ usedL l := by
  have : usedL l = usedL (l.take k) + usedL (l.drop k) := by
    have happ : ∀ a b : Fls, usedL (a ++ b) = usedL a + usedL b := by intro a b; simp [usedL]
    have e := happ (l.take k) (l.drop k)
    rw [List.take_append_drop] at e
    exact e
  omega

set_option maxHeartbeats 1000000 in
set_option maxRecDepth 20000 in
theorem rused_any {w : World} {b : Nat} {S : Nat → Prop} {fs : Value} {l : FV} {d : Dk} (h : RkW w b S fs l d) :
    Calls Try.prog 37 #[dptr b] w fun e w' => e = .returned (.int .i64 (if d.up = true then (usedL d.files : Int) else 0)) ∧ w' = w := by
  obtain ⟨fa, fc, rfl⟩ := h.shape
  have c1 := h.c1
  have c2 := h.c2
  have hfew : l.length ≤ 1048576 := by rw [h.len]; exact h.ok.few
  have hsm := h.ok.small
  have HD : Hid (RkW w b S (.slice fa l.length fc) l d) := h
  clear h
  obtain ⟨L, hL⟩ : ∃ L, L = l.length := ⟨_, rfl⟩
  rw [← hL] at c1 hfew
  have HLl : Hid (L = l.length) := hL
  clear hL
  cases hu : d.up with
  | false =>
    rw [hu] at c2
    rw [if_neg (by decide)]
    by_cases h0 : 0 < L
    · have q0 : decide ((0 : Int) < (L : Int)) = true := by simpa using h0
      have q0' : (0 : Int) < (L : Int) := by omega
      go_enter Try.func37, Try.ntmps37
      go_wp2
      go_loopw [3, 4] (fun n i wr => n = .int .i64 0 ∧ i = .int .i64 0 ∧ wr = w) (fun _ _ _ => 0)
      case atStart => exact ⟨rfl, rfl, rfl⟩
      case round =>
        obtain ⟨rfl, rfl, rfl⟩ := hrel
        go_wp2
        go_ret
        exact ⟨rfl, rfl⟩
    · have q0 : decide ((0 : Int) < (L : Int)) = false := by simp; omega
      have q0' : ¬ (0 : Int) < (L : Int) := by omega
      go_enter Try.func37, Try.ntmps37
      go_wp2
      go_loopw [3, 4] (fun n i wr => n = .int .i64 0 ∧ i = .int .i64 0 ∧ wr = w) (fun _ _ _ => 0)
      case atStart => exact ⟨rfl, rfl, rfl⟩
      case round =>
        obtain ⟨rfl, rfl, rfl⟩ := hrel
        go_wp2
        go_ret
        exact ⟨rfl, rfl⟩
  | true =>
    rw [hu] at c2
    rw [if_pos rfl]
    obtain ⟨U, hU⟩ : ∃ U, U = usedL d.files := ⟨_, rfl⟩
    rw [← hU]
    rw [← hU] at hsm
    have HU : Hid (U = usedL d.files) := hU
    clear hU
    have jU : (U : Int) ≤ 140737488355328 := by omega
    go_enter Try.func37, Try.ntmps37
    go_wp2
    go_loopw [3, 4] (fun n i wr => ∃ (k N : Nat), n = .int .i64 (N : Int) ∧ i = .int .i64 (k : Int) ∧ k ≤ L ∧ Hid (N = usedL (d.files.take k)) ∧ wr = w) (fun _ i _ => L - (intOf i).toNat)
    case atStart => exact ⟨0, 0, rfl, rfl, Nat.zero_le _, (by show _ = _; rfl), rfl⟩
    case round =>
      obtain ⟨k, N, rfl, rfl, hk, HN, rfl⟩ := hrel
      by_cases hlt : k < L
      · have dlt : decide ((k : Int) < (L : Int)) = true := by simpa using hlt
        have hlt' : (k : Int) < (L : Int) := by omega
        obtain ⟨q, hq⟩ : ∃ q, l[k]? = some q := ⟨_, List.getElem?_eq_getElem (by rw [← HLl.out]; exact hlt)⟩
        obtain ⟨g, c, he, _, _, _, x1, _⟩ := HD.out.at hq
        have e1 : fa = some ⟨g, 0, none⟩ := congrArg (fun v => match v with | Value.slice a _ _ => a | _ => none) he
        subst e1
        have hqd := HD.out.put hq
        obtain ⟨qa, qc, hqs⟩ := own_slice (HD.out.bytes q (List.mem_of_getElem? hq))
        rw [hqs] at x1
        have hnx := usedL_take hqd
        have hle := usedL_take_le d.files (k + 1)
        generalize q.1.2.bs.length = B at *
        have HN2 : Hid (N + B = usedL (d.files.take (k + 1))) := by show _ = _; rw [hnx, HN.out]
        have jB : (N : Int) + (B : Int) ≤ 140737488355328 := by have := HN2.out; have := HU.out; omega
        have jN : (N : Int) ≤ 140737488355328 := by omega
        have jB2 : (B : Int) ≤ 140737488355328 := by omega
        clear he hq hqd hqs hnx hle HN
        go_wp2
        go_roundw
        case rel => exact ⟨k + 1, N + B, by go_num, by go_num, by omega, HN2, by first | rfl | trivial⟩
        case measure => simp [intOf]; omega
      · have hge : ¬ ((k : Int) < (L : Int)) := by omega
        have dlt : decide ((k : Int) < (L : Int)) = false := by simpa using hge
        have hz : N = U := by
          rw [HN.out, HU.out]
          congr 1
          rw [List.take_of_length_le]
          rw [← HD.out.len, ← HLl.out]
          omega
        subst hz
        go_wp2
        go_ret
        exact ⟨rfl, rfl⟩

set_option maxHeartbeats 1000000 in
theorem rfails_any {w : World} {b : Nat} {S : Nat → Prop} {fs : Value} {l : FV} {d : Dk} (h : RkW w b S fs l d) :
    Calls Try.prog 51 #[dptr b] w fun e w' => e = .returned (.bool (decide (d.ahead = 0))) ∧ RkW w' b S fs l (doneD d) ∧ Fr S w w' := by
  have c3 := h.c3
  have f3 := h.fz 3
  have ha := h.ok.ahead
  have HD : Hid (RkW w b S fs l d) := h
  have HB : Hid ((w.setCell ⟨b, 3, none⟩ (.int .i64 (d.ahead - 1))).heap[b]? = some (.cells (rsCells { d with ahead := d.ahead - 1 } fs) 58 (0, 0))) := set_blk h.blk 3 _
  clear h
  unfold doneD
  by_cases hneg : d.ahead < 0
  · have q1 : decide (d.ahead < 0) = true := by simpa using hneg
    have qd : decide (d.ahead = 0) = false := by simp; omega
    rw [if_neg (by omega), qd]
    go_enter Try.func51, Try.ntmps51
    go_wp2
    go_ret
    exact ⟨rfl, HD.out, Fr.refl S w⟩
  · have q1 : decide (d.ahead < 0) = false := by simpa using hneg
    by_cases h0 : d.ahead = 0
    · have q0 : (d.ahead == 0) = true := by simpa using h0
      have qd : decide (d.ahead = 0) = true := by simpa using h0
      rw [if_neg (by omega), qd]
      clear h0 qd ha
      go_enter Try.func51, Try.ntmps51
      go_wp2
      go_ret
      exact ⟨rfl, HD.out, Fr.refl S w⟩
    · have q0 : (d.ahead == 0) = false := by simpa using h0
      have qd : decide (d.ahead = 0) = false := by simpa using h0
      rw [if_pos (by omega), qd]
      go_enter Try.func51, Try.ntmps51
      go_wp2
      go_ret
      refine ⟨rfl, ?_, (Fr.refl S w).set HD.out.sb _⟩
      exact HD.out.struct (by rw [set_size]) (fun k hk => by rw [set_other _ hk]) HB.out rfl { HD.out.ok with ahead := by show (-1 : Int) ≤ d.ahead - 1 ∧ d.ahead - 1 ≤ _; omega }

set_option maxHeartbeats 400000 in
theorem rstart_any {w : World} {b : Nat} {S : Nat → Prop} {fs : Value} {l : FV} {d : Dk} (h : RkW w b S fs l d) :
    Calls Try.prog 34 #[dptr b] w fun e w' => e = .returned (.tuple #[]) ∧ RkW w' b S fs l (startD d) ∧ Fr S w w' := by
  have c2 := h.c2
  have c3 := h.c3
  have f2 := h.fz 2
  have f3 := h.fz 3
  have HD : Hid (RkW w b S fs l d) := h
  have HB : Hid (((w.setCell ⟨b, 2, none⟩ (.bool true)).setCell ⟨b, 3, none⟩ (.int .i64 (-1))).heap[b]? = some (.cells (rsCells (startD d) fs) 58 (0, 0))) := set_blk (set_blk h.blk 2 _) 3 _
  clear h
  go_enter Try.func34, Try.ntmps34
  go_wp2
  go_end0
  refine ⟨rfl, ?_, ((Fr.refl S w).set HD.out.sb _).set HD.out.sb _⟩
  exact HD.out.struct (by rw [set_size, set_size]) (fun k hk => by rw [set_other _ hk, set_other _ hk]) HB.out rfl { HD.out.ok with ahead := by show (-1 : Int) ≤ -1 ∧ (-1 : Int) ≤ _; omega }

set_option maxHeartbeats 400000 in
theorem rarm_any {w : World} {b : Nat} {S : Nat → Prop} {fs : Value} {l : FV} {d : Dk} (h : RkW w b S fs l d) (after : Int) (ha : -9223372036854775808 ≤ after ∧ after ≤ 9223372036854775807) (keep : Nat) (hk : keep < 18446744073709551616) :
    Calls Try.prog 32 #[dptr b, .int .i64 after, .int .u64 (keep : Int)] w fun e w' => e = .returned (.tuple #[]) ∧ RkW w' b S fs l (armD d after keep) ∧ Fr S w w' := by
  have c2 := h.c2
  have c3 := h.c3
  have c4 := h.c4
  have f3 := h.fz 3
  have f4 := h.fz 4
  have HD : Hid (RkW w b S fs l d) := h
  have HB : Hid (∀ x : Int, ((w.setCell ⟨b, 3, none⟩ (.int .i64 x)).setCell ⟨b, 4, none⟩ (.int .u64 (keep : Int))).heap[b]? = some (.cells (rsCells { d with ahead := x, keep := keep } fs) 58 (0, 0))) := fun x => set_blk (set_blk h.blk 3 _) 4 _
  clear h
  unfold armD
  cases hu : d.up with
  | true =>
    rw [hu] at c2
    rw [if_pos rfl]
    by_cases hlt : after < -1
    · rw [if_pos hlt]
      have hmx : max after (-1) = -1 := by omega
      go_enter Try.func32, Try.ntmps32
      go_wp2
      go_end0
      refine ⟨rfl, ?_, ((Fr.refl S w).set HD.out.sb _).set HD.out.sb _⟩
      exact HD.out.struct (by rw [set_size, set_size]) (fun k hk => by rw [set_other _ hk, set_other _ hk]) (by have := HB.out (-1); rw [hu] at this; exact this) rfl { HD.out.ok with ahead := by show (-1 : Int) ≤ -1 ∧ (-1 : Int) ≤ _; omega, keep := hk }
    · rw [if_neg hlt]
      have hmx : max after (-1) = after := by omega
      go_enter Try.func32, Try.ntmps32
      go_wp2
      go_end0
      refine ⟨rfl, ?_, ((Fr.refl S w).set HD.out.sb _).set HD.out.sb _⟩
      exact HD.out.struct (by rw [set_size, set_size]) (fun k hk => by rw [set_other _ hk, set_other _ hk]) (by have := HB.out after; rw [hu] at this; exact this) rfl { HD.out.ok with ahead := by show (-1 : Int) ≤ after ∧ after ≤ _; omega, keep := hk }
  | false =>
    rw [hu] at c2
    rw [if_neg (by decide)]
    go_enter Try.func32, Try.ntmps32
    go_wp2
    go_end0
    exact ⟨rfl, HD.out, Fr.refl S w⟩

set_option maxHeartbeats 400000 in
theorem rnew_any (room : Int) (hr : room ≤ 9223372036854775807) (w : World) : Calls Try.prog 11 #[.int .i64 room] w fun e w' => e = .returned (dptr w.heap.size) ∧ RkW w' w.heap.size (fun k => k = w.heap.size) (.slice none 0 0) [] (newD room) ∧ Below w.heap.size w w' := by
  have e0 : (room.toNat : Int) = if room < 0 then 0 else room := by split <;> omega
  have hok : DkOk (newD room) := ⟨List.Pairwise.nil, fun p hp => (by cases hp), Nat.zero_le _, by show room.toNat ≤ _; omega, by show (-1 : Int) ≤ -1 ∧ (-1 : Int) ≤ _; omega, by show 0 < _; omega, Nat.zero_le _, Nat.zero_le _⟩
  have fin : ∀ x : Int, x = (room.toNat : Int) → RkW (w.alloc (.cells #[.int .i64 x, .slice none 0 0, .bool true, .int .i64 (-1), .int .u64 0, .int .i64 0] 58)) w.heap.size (fun k => k = w.heap.size) (.slice none 0 0) [] (newD room) := by
    intro x hx
    subst hx
    refine { blk := ?_, row := ⟨rfl, .inl ⟨rfl, rfl⟩⟩, files := rfl, bytes := fun q hq => (by cases hq), sb := rfl, sf := fun g hg => (by cases hg), sr := fun q hq => (by cases hq), lt := fun k hk => ?_, ok := hok, names := fun p hp => (by cases hp) }
    · show (w.heap.push _)[w.heap.size]? = _
      exact Array.getElem?_push_size
    · subst hk
      simp
  by_cases h0 : room < 0
  · have hx := fin 0 (by rw [e0, if_pos h0])
    have HX : Hid (RkW _ _ _ _ _ _) := hx
    clear hx fin e0 hok
    have hmx : max room 0 = 0 := by omega
    go_enter Try.func11, Try.ntmps11
    go_wp2
    go_ret
    exact ⟨rfl, HX.out, (Below.refl _ w).alloc (Nat.le_refl _) _⟩
  · have hx := fin room (by rw [e0, if_neg h0])
    have HX : Hid (RkW _ _ _ _ _ _) := hx
    clear hx fin e0 hok
    have hmx : max room 0 = room := by omega
    go_enter Try.func11, Try.ntmps11
    go_wp2
    go_ret
    exact ⟨rfl, HX.out, (Below.refl _ w).alloc (Nat.le_refl _) _⟩

set_option maxHeartbeats 1000000 in
set_option maxRecDepth 20000 in
theorem rread_any {w : World} {b : Nat} {S : Nat → Prop} {fs : Value} {l : FV} {d : Dk} (h : RkW w b S fs l d) (n : Nm) :
    Calls Try.prog 38 #[dptr b, strN n] w fun e w' => e = .returned (.tuple #[.string ⟨(theF d n).bs.toArray⟩, .int .i64 (findV d n : Int)]) ∧ w' = w := by
  have hF := rfind_any h n
  obtain ⟨fa, fc, rfl⟩ := h.shape
  have c1 := h.c1
  have c2 := h.c2
  have hfew : l.length ≤ 1048576 := by rw [h.len]; exact h.ok.few
  have HD : Hid (RkW w b S (.slice fa l.length fc) l d) := h
  clear h
  unfold theF findV
  cases hu : d.up with
  | false =>
    rw [hu] at c2
    have HF : Hid (Calls Try.prog 47 #[dptr b, strN n] w fun e w' => e = .returned (.int .i64 (fidx n d.files)) ∧ w' = w) := hF
    clear hF
    generalize fidx n d.files = Z at *
    go_enter Try.func38, Try.ntmps38
    go_wp2_with (go_at_call 47; refine HF.out.mono ?_; rintro e wa ⟨rfl, hw⟩; subst wa)
    go_ret2
    exact ⟨rfl, rfl⟩
  | true =>
    rw [hu] at c2
    rcases fidx_cases n d.files with ⟨hz, hg⟩ | ⟨i, f, hz, hi, hg⟩
    · rw [hz] at hF
      rw [hg]
      have HF : Hid (Calls Try.prog 47 #[dptr b, strN n] w fun e w' => e = .returned (.int .i64 (-1)) ∧ w' = w) := hF
      clear hF hz hg
      go_enter Try.func38, Try.ntmps38
      go_wp2_with (go_at_call 47; refine HF.out.mono ?_; rintro e wa ⟨rfl, hw⟩; subst wa)
      go_ret2
      exact ⟨rfl, rfl⟩
    · rw [hz] at hF
      rw [hg]
      have HF : Hid (Calls Try.prog 47 #[dptr b, strN n] w fun e w' => e = .returned (.int .i64 (i : Int)) ∧ w' = w) := hF
      obtain ⟨v, hl⟩ := HD.out.get hi
      obtain ⟨g, c, he, _, _, _, x1, _⟩ := HD.out.at hl
      have e1 : fa = some ⟨g, 0, none⟩ := congrArg (fun v => match v with | Value.slice a _ _ => a | _ => none) he
      subst e1
      have hown := HD.out.bytes _ (List.mem_of_getElem? hl)
      simp only at hown x1
      obtain ⟨va, vc, rfl⟩ := own_slice hown
      have s1 := own_string hown
      have hlt : i < l.length := (List.getElem?_eq_some_iff.1 hl).1
      have hlt' : (i : Int) < (l.length : Int) := by omega
      have jl : (l.length : Int) ≤ 1048576 := by omega
      have n0 : ¬ (i : Int) < 0 := by omega
      have q0 : decide ((i : Int) < 0) = false := by simp
      obtain ⟨bs, la⟩ := f
      simp only at x1 s1 ⊢
      generalize l.length = L at *
      clear hF hz hg hown hl he hi HD
      go_enter Try.func38, Try.ntmps38
      go_wp2_with (go_at_call 47; refine HF.out.mono ?_; rintro e wa ⟨rfl, hw⟩; subst wa)
      go_ret2
      exact ⟨rfl, rfl⟩

theorem infoS14 : (Try.prog.info? 9).map (fun i => (i.zero, i.size, i.bytes)) = some (some (.string ⟨#[]⟩), 1, 16) := by kernel_rfl

/-- A builtin append that runs so, in a row of operations. -/
theorem wpList_runs {w : World} {ops : Array Oper} {rest : List Oper} {o : Oper} {c : Act} {Q : Exit → Act → World → Prop} {t u : TypeId} (hgd : o.guard = none) (sl x : Operand)
    (ho : o.op = .call { callee := .builtin .append, args := #[sl, x], argTypes := #[t, u] }) (vs vx : Value) (hs : c.eval sl = vs) (hx : c.eval x = vx)
    (R : Value → World → Prop) (hr : ∃ vo w2, (Builtin.append_ #[t, u] o.type #[vs, vx]).run Try.prog w = .ok vo w2 ∧ R vo w2) (hk : ∀ vo w2, R vo w2 → wpList Try.prog ops Q rest (c.put o.dst vo) w2) :
    wpList Try.prog ops Q (o :: rest) c w := by
  refine wpList_plain hgd fun K hK => ?_
  obtain ⟨vo, w2, hr, h2⟩ := hr
  unfold Oper.wp execOp
  simp only [ho, resolve, invoke, builtin, Sem.run_bind, Sem.run_pure, Result.andThen_ok, List.map_toArray, List.map_cons, List.map_nil, hs, hx, hr]
  exact hK _ _ (hk vo w2 h2)

def PushedS (w : World) (B : Nat) (l : List Nm) (vo : Value) (w2 : World) : Prop := w2.ownsRow B 9 1 vo l.length (nmCells l) ∧ Below B w w2
/-- A name put behind names that the call owns. -/
theorem name_push {w : World} {B : Nat} {v : Value} {l : List Nm} (h : w.ownsRow B 9 1 v l.length (nmCells l)) (hB : B ≤ w.heap.size) (hl : l.length ≤ 1048576) (n : Nm) (ty : TypeId) :
    ∃ vo w2, (Builtin.append_ #[50, 50] ty #[v, .slice (some ⟨w.heap.size, 0, none⟩) 1 1]).run Try.prog (w.alloc (.cells #[strN n] 9)) = .ok vo w2 ∧ PushedS w B (l ++ [n]) vo w2 := by
  obtain ⟨i0, hi, hz0, hz1, hz2⟩ := info_parts infoS14
  have hb : Below B w (w.alloc (.cells #[strN n] 9)) := (Below.refl _ w).alloc hB _
  have h' : (w.alloc (.cells #[strN n] 9)).ownsRow B 9 1 v l.length (nmCells l) := own_below h ((Below.refl _ w).alloc (Nat.le_refl _) _)
  obtain ⟨vo, w2, hr, h4, h5, _⟩ := run_append_own (P := Try.prog) (w.alloc (.cells #[strN n] 9)) B 50 ty 9 i0 (.string ⟨#[]⟩) 1 16 Try.underlying50 hi hz0 hz1 hz2 rfl (by decide) v l.length (nmCells l) h' ⟨w.heap.size, 0, none⟩ 1 1 [strN n] rfl
    (by intro j u hj; exact lit_cells w [strN n] 9 j u hj) (by intro u hu; simp at hu; rw [hu]; rfl) (by unfold maxLen; omega) (by omega) (by simp; omega)
  refine ⟨vo, w2, hr, ?_, hb.trans (below_grown0 (Below.refl _ _) (by simp; omega) h' h5)⟩
  have e : nmCells (l ++ [n]) = nmCells l ++ [strN n] := by simp [nmCells, encStr]
  rw [e, List.length_append]
  exact h4

set_option maxHeartbeats 1000000 in
set_option maxRecDepth 20000 in
theorem rnames_any {w : World} {b : Nat} {S : Nat → Prop} {fs : Value} {l : FV} {d : Dk} (h : RkW w b S fs l d) :
    Calls Try.prog 36 #[dptr b] w fun e w' => ∃ v, e = .returned v ∧ w'.ownsRow w.heap.size 9 1 v (if d.up = true then d.files.map (·.1) else []).length (nmCells (if d.up = true then d.files.map (·.1) else [])) ∧ Below w.heap.size w w' := by
  obtain ⟨fa, fc, rfl⟩ := h.shape
  have hfew : l.length ≤ 1048576 := by rw [h.len]; exact h.ok.few
  have HD : Hid (RkW w b S (.slice fa l.length fc) l d) := h
  obtain ⟨L, hL⟩ : ∃ L, L = l.length := ⟨_, rfl⟩
  rw [← hL] at hfew
  have HLl : Hid (L = l.length) := hL
  clear hL
  cases hu : d.up with
  | false =>
    have c1 := h.c1
    have c2 := h.c2
    rw [hu] at c2
    rw [← HLl.out] at c1
    rw [if_neg (by decide)]
    clear h
    by_cases h0 : 0 < L
    · have q0 : decide ((0 : Int) < (L : Int)) = true := by simpa using h0
      have q0' : (0 : Int) < (L : Int) := by omega
      go_enter Try.func36, Try.ntmps36
      go_wp2
      go_loopw [3, 4] (fun n i wr => n = .slice none 0 0 ∧ i = .int .i64 0 ∧ wr = w) (fun _ _ _ => 0)
      case atStart => exact ⟨rfl, rfl, rfl⟩
      case round =>
        obtain ⟨rfl, rfl, rfl⟩ := hrel
        go_wp2
        go_ret
        exact ⟨_, rfl, ⟨rfl, .inl ⟨rfl, rfl⟩⟩, Below.refl _ _⟩
    · have q0 : decide ((0 : Int) < (L : Int)) = false := by simp; omega
      have q0' : ¬ (0 : Int) < (L : Int) := by omega
      go_enter Try.func36, Try.ntmps36
      go_wp2
      go_loopw [3, 4] (fun n i wr => n = .slice none 0 0 ∧ i = .int .i64 0 ∧ wr = w) (fun _ _ _ => 0)
      case atStart => exact ⟨rfl, rfl, rfl⟩
      case round =>
        obtain ⟨rfl, rfl, rfl⟩ := hrel
        go_wp2
        go_ret
        exact ⟨_, rfl, ⟨rfl, .inl ⟨rfl, rfl⟩⟩, Below.refl _ _⟩
  | true =>
    rw [if_pos rfl]
    have HU : Hid (d.up = true) := hu
    clear h hu
    go_enter Try.func36, Try.ntmps36
    go_wp2
    go_loopw [3, 4] (fun v i wr => ∃ (k : Nat), i = .int .i64 (k : Int) ∧ k ≤ L ∧ Hid (wr.ownsRow w.heap.size 9 1 v ((d.files.map (·.1)).take k).length (nmCells ((d.files.map (·.1)).take k))) ∧ Hid (Below w.heap.size w wr)) (fun _ i _ => L - (intOf i).toNat)
    case atStart => exact ⟨0, rfl, Nat.zero_le _, ⟨rfl, .inl ⟨rfl, rfl⟩⟩, Below.refl _ _⟩
    case round =>
      obtain ⟨k, rfl, hk, HO, HB⟩ := hrel
      have HDr := HD.out.below HB.out
      have c1 := HDr.c1
      have c2 := HDr.c2
      rw [HU.out] at c2
      rw [← HLl.out] at c1
      by_cases hlt : k < L
      · have dlt : decide ((k : Int) < (L : Int)) = true := by simpa using hlt
        have hlt' : (k : Int) < (L : Int) := by omega
        obtain ⟨q, hq⟩ : ∃ q, l[k]? = some q := ⟨_, List.getElem?_eq_getElem (by rw [← HLl.out]; exact hlt)⟩
        obtain ⟨g, c, he, _, _, x0, _⟩ := HDr.at hq
        have e1 : fa = some ⟨g, 0, none⟩ := congrArg (fun v => match v with | Value.slice a _ _ => a | _ => none) he
        subst e1
        have hqd := HD.out.put hq
        have hnx : (d.files.map (·.1)).take (k + 1) = (d.files.map (·.1)).take k ++ [q.1.1] := by
          rw [List.take_add_one, List.getElem?_map, hqd]; rfl
        have HNX : Hid ((d.files.map (·.1)).take (k + 1) = (d.files.map (·.1)).take k ++ [q.1.1]) := hnx
        have HLe : Hid (((d.files.map (·.1)).take k).length ≤ 1048576) := by show _ ≤ _; rw [List.length_take]; omega
        have HBs : Hid (w.heap.size ≤ wr.heap.size) := HB.out.size
        generalize q.1.1 = nm at *
        clear he hq hqd hnx HDr
        go_wp2_with (at_builtin; refine wpList_runs rfl _ _ rfl _ _ rfl rfl _ (name_push HO.out HBs.out HLe.out nm _) ?_)
        intro vo w2 hps
        obtain ⟨h1, h2⟩ := hps
        have HO2 : Hid (w2.ownsRow w.heap.size 9 1 vo ((d.files.map (·.1)).take (k + 1)).length (nmCells ((d.files.map (·.1)).take (k + 1)))) := by rw [HNX.out]; exact h1
        have HB2 : Hid (Below w.heap.size w w2) := HB.out.trans h2
        clear h1 h2 HO HB HNX
        go_wp2
        go_roundw
        case rel => exact ⟨k + 1, by go_num, by omega, HO2, HB2⟩
        case measure => simp [intOf]; omega
      · have hge : ¬ ((k : Int) < (L : Int)) := by omega
        have dlt : decide ((k : Int) < (L : Int)) = false := by simpa using hge
        have hz : (d.files.map (·.1)).take k = d.files.map (·.1) := by
          rw [List.take_of_length_le]
          rw [List.length_map, ← HD.out.len, ← HLl.out]
          omega
        rw [hz] at HO
        clear HDr
        go_wp2
        go_ret
        refine ⟨_, rfl, ?_, HB.out⟩
        have := HO.out
        simpa [nmCells] using this

end Go.Proofs.Ytmkgaegodemglaa
