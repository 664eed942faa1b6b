/- EscapeMarks: of every text, up to the bound on what is read, Unescape of it with a backslash ahead of each mark is the text. -/
import Derived.Test.YtebnobhalffalabEShown
import Derived.ProofKit
import Derived.OpenShut
import Derived.ShutString
import Derived.ChangeOld
import Derived.Below
import Derived.JoinedCond
import Derived.SizedLaws
set_option linter.unusedVariables false
namespace Go.Proofs.Ytebnobhalffalab.escapeMarks
open Go.ChangeShapes Go.WideShapes Go.ChangeAt Go.RowKit
open Go.ChangeMaps (open_string shut_string)

theorem own : ownKnob Try.prog.godebug = none := by kernel_rfl

set_option maxHeartbeats 4000000 in
set_option maxRecDepth 100000 in
theorem walk (s : ByteArray) (w : World) (hs : s.size ≤ 1048576) :
    Calls Try.prog 3 #[.string s] w fun e w' => e = .returned (.bool true) ∧ Below w.heap.size w w' := by
  obtain ⟨i0, hi, hz0, hz1, hz2⟩ := info_parts info5
  go_enter Try.func3, Try.ntmps3
  go_wp2_with (go_at_call 4; refine (shown_any _).mono ?_)
  rintro e w1 ⟨rfl, hb1⟩
  go_wp2
  go_loopw [4, 5] (fun v t wr => ∃ (p : Nat) (acc : List UInt8), OwnB wr w.heap.size v acc ∧ t = .int .i64 (p : Int) ∧ p ≤ s.size ∧ Below w.heap.size w wr ∧ Hid (acc = (s.data.toList.take p).flatMap markB') ∧ acc.length ≤ 2 * p) (fun _ t _ => s.size - (intOf t).toNat)
  case atStart => exact ⟨0, [], World.ownsRow_nil _ _ _ _, rfl, by omega, hb1, rfl, by simp⟩
  case round =>
    obtain ⟨p, acc, hown, rfl, hp, hbw, HA, hal⟩ := hrel
    have hsz := hbw.size
    clear hb1
    by_cases hlt : p < s.size
    · have htk : (s.data.toList.take (p + 1)).flatMap markB' = (s.data.toList.take p).flatMap markB' ++ markB' s[p] := by
        rw [List.take_add_one, get_byte s p hlt, List.flatMap_append]
        simp
      have cm := mark_any s[p].toNat
      cases hmk : markN s[p].toNat with
      | true =>
        rw [hmk] at cm
        have HA' : Hid ((acc ++ [92]) ++ [s[p]] = (s.data.toList.take (p + 1)).flatMap markB') := by
          show _ = _
          rw [htk, HA.out, show markB' s[p] = [92, s[p]] by simp [markB', hmk], List.append_assoc]
          rfl
        clear HA htk hmk
        go_wp2_with (first | (go_at_call 5; refine (cm _).mono ?_; rintro e w' ⟨rfl, rfl⟩) | (at_builtin; refine wpList_append_own _ rfl _ _ 23 rfl w.heap.size 5 i0 (.int .u8 0) 1 1 Try.underlying23 hi hz0 hz1 hz2 rfl (by decide) _ _ _ rfl (hown.alloc _) ⟨_, 0, none⟩ 1 1 [.int .u8 92] rfl rfl (lit_cells _ _ _) ?c2 ?c3 ?c4 ?c5 ?_))
        case c2 => intro u hu; simp at hu; subst hu; rfl
        case c3 => unfold maxLen; omega
        case c4 => omega
        case c5 => simp; omega
        intro v2 w2 hown2 hgrow _
        have hown2' := own_push (l := [92]) hown2 rfl rfl
        have hb2 := below_grown hbw hsz hown hgrow
        have hl2 : (acc ++ [92]).length ≤ 2 * p + 1 := by simp; omega
        have hsz2 := hb2.size
        clear hown2 hgrow hown hbw
        generalize acc ++ [92] = acc2 at *
        go_wp2_with (at_builtin; refine wpList_append_own _ rfl _ _ 23 rfl w.heap.size 5 i0 (.int .u8 0) 1 1 Try.underlying23 hi hz0 hz1 hz2 rfl (by decide) _ _ _ rfl (hown2'.alloc _) ⟨_, 0, none⟩ 1 1 [.int .u8 (s[p].toNat : Int)] rfl rfl (lit_cells _ _ _) ?c2 ?c3 ?c4 ?c5 ?_)
        case c2 => intro u hu; simp at hu; subst hu; rfl
        case c3 => unfold maxLen; omega
        case c4 => omega
        case c5 => simp; omega
        intro v3 w3 hown3 hgrow _
        have hown3' := own_push (l := [s[p]]) hown3 rfl (byteCells_one _)
        have hb3 := below_grown hb2 hsz2 hown2' hgrow
        clear hown3 hgrow
        go_wp2
        go_roundw
        case rel => exact ⟨p + 1, acc2 ++ [s[p]], hown3', by go_num, by omega, hb3, HA', by rw [List.length_append]; simp; omega⟩
        case measure => simp [intOf]; omega
      | false =>
        rw [hmk] at cm
        have HA' : Hid (acc ++ [s[p]] = (s.data.toList.take (p + 1)).flatMap markB') := by
          show _ = _
          rw [htk, HA.out, show markB' s[p] = [s[p]] by simp [markB', hmk]]
        clear HA htk hmk
        go_wp2_with (first | (go_at_call 5; refine (cm _).mono ?_; rintro e w' ⟨rfl, rfl⟩) | (at_builtin; refine wpList_append_own _ rfl _ _ 23 rfl w.heap.size 5 i0 (.int .u8 0) 1 1 Try.underlying23 hi hz0 hz1 hz2 rfl (by decide) _ _ _ rfl (hown.alloc _) ⟨_, 0, none⟩ 1 1 [.int .u8 (s[p].toNat : Int)] rfl rfl (lit_cells _ _ _) ?c2 ?c3 ?c4 ?c5 ?_))
        case c2 => intro u hu; simp at hu; subst hu; rfl
        case c3 => unfold maxLen; omega
        case c4 => omega
        case c5 => simp; omega
        intro v2 w2 hown2 hgrow _
        have hown2' := own_push (l := [s[p]]) hown2 rfl (byteCells_one _)
        have hb2 := below_grown hbw hsz hown hgrow
        clear hown2 hgrow
        go_wp2
        go_roundw
        case rel => exact ⟨p + 1, acc ++ [s[p]], hown2', by go_num, by omega, hb2, HA', by rw [List.length_append]; simp; omega⟩
        case measure => simp [intOf]; omega
    · have hcv := own_string hown
      have hu : unesc acc = s.data.toList := by rw [HA.out, List.take_of_length_le (by rw [len_data]; omega), unesc_marks]
      have hun : ∀ w', Calls Try.prog 6 #[.string ⟨acc.toArray⟩] w' fun e w'' => e = .returned (.string s) ∧ Below w'.heap.size w' w'' := by
        intro w'
        have := unesc_any ⟨acc.toArray⟩ w' (by rw [size_list]; omega)
        rw [list_data, hu, mk_data] at this
        exact this
      clear HA hu
      go_wp2_with (go_at_call 6; refine (hun _).mono ?_)
      first | rintro e w3 rfl hb3 | rintro e w3 ⟨rfl, hb3⟩
      go_wp2
      go_ret
      exact ⟨rfl, hbw.trans (hb3.mono hsz)⟩

theorem contract (H : Type) (enc : TypeId × Value → H) (W : World) (base : Nat) (args : Array Value) (ds gs : List (DataW H)) (before : List MemPlace)
    (hval : ∀ (j : Nat) t v, Try.f3.params[j]? = some t → args[j]? = some v → Value.okWide Try.prog W .any base t v)
    (hW : DataW.Whole enc Try.prog Try.f3.params.toList Rows.escapeMarksSpec.vars false W args.toList ds gs before) (hk : Rows.uptoSmall H (ds ++ gs) = true) :
    Calls Try.prog 3 args W fun e W' => ∃ v, e = .returned v ∧ Rows.escapeMarksSpec.post enc Try.prog Try.f3 false true false false W args v W' := by
  have hW' := hW
  obtain ⟨p, q, hA0, hV, rfl, hfz, hnd⟩ := hW
  have hA : DataW.TrodAll enc Try.prog W 0 (fun _ => true) true Try.f3.params.toList args.toList ds p := hA0
  rw [Try.params3] at hA hval
  obtain ⟨v0, vs0, d0, ds0, p0, q0, hargs, rfl, rfl, h0, r0⟩ := trodAll_cons hA
  obtain ⟨rfl, rfl, rfl⟩ := trodAll_nil r0
  obtain rfl : args = #[v0] := by cases args; simp_all
  obtain ⟨rfl, rfl⟩ := trodVars_none hV
  obtain ⟨s, rfl, rfl, rfl, ws⟩ := open_string Try.underlying9 (hval 0 9 v0 rfl rfl) h0
  have hb := of_decide_eq_true hk
  simp only [List.append_nil, Rows.uptoBulkAll, Rows.uptoBulk, Array.length_toList, ByteArray.size_data] at hb
  clear hA0
  simp only [List.append_nil] at hW'
  refine (walk s W (by omega)).mono fun e W' ⟨he, bel⟩ => ?_
  subst he
  exact ⟨_, rfl, _, _, _, [], _, [], hW', trodAll_mk1 (shut_bool Try.underlying4 _), (trodAll_cons_mk (shut_string Try.underlying9 ws) trodAll_mk0), rfl, bel.frame _, fun h => by cases h⟩

set_option maxRecDepth 100000 in
theorem lifted (os : Os) (started : os.Started) (H : Type) (enc : TypeId × Value → H) (F : Stop.Interp) :
    ReturnsInHanded {} Try.checked os 3 .any ((Rows.OpenSpec.upto Rows.escapeMarksSpec).pre6 enc Try.prog Try.f3 Rows.escapeMarksUptoRow.domain false) (((Rows.OpenSpec.upto Rows.escapeMarksSpec).at F).post enc Try.prog Try.f3 false true false false) := by
  refine returnsInHanded_of_cond (C := Try.checked) (s := Rows.OpenSpec.upto Rows.escapeMarksSpec) (k := Rows.uptoSmall) rfl own started (by kernel_rfl) Try.func3
    (OpenSpec.witness (enc := enc) (C := Try.checked) (s := Rows.OpenSpec.upto Rows.escapeMarksSpec) (k := Rows.uptoSmall) rfl false ⟨#[], #[.string ⟨#[]⟩], []⟩ 8 (by kernel_rfl) (by kernel_rfl) (by kernel_rfl)
      (x := ([.lit (.string [])], [], [])) (by kernel_rfl) rfl (by kernel_rfl)) ?_
  intro W base args ds gs before hval hW _ hk _
  exact contract H enc W base args ds gs before hval hW hk

theorem over : Rows.escapeMarksUptoRow.holds Try.pinned (Rows.OpenSpec.upto Rows.escapeMarksSpec) :=
  OpenClaim.holds_of_cond 3 Try.f3 rfl rfl rfl rfl rfl rfl rfl ⟨rfl, rfl, rfl, rfl, rfl⟩ rfl rfl rfl rfl rfl (by kernel_rfl) Try.func3 (by kernel_rfl)
    (of_decide_eq_true (by kernel_rfl)) (by unfold Func.isWrapper; first | (rw [if_pos (by decide +kernel)]; kernel_rfl) | (rw [if_neg (by decide +kernel)]; exact ⟨rfl, rfl⟩))
    (fun os started H enc _ F => lifted os started H enc F)

theorem proved : Rows.EscapeMarksUptoSaid :=
  over
#print axioms proved
end Go.Proofs.Ytebnobhalffalab.escapeMarks
