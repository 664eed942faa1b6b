/- RunesFold: of every text, up to the bound on what is read, Fold answers what the document says; again it is the same; with more blanks at its ends the same. -/
import Derived.Test.YtnpboadefhannaaRefFold
import Derived.Test.YtnpboadefhannaaPlainFold
import Derived.ProofKit
import Derived.OpenShut
import Derived.ShutString
import Derived.ChangeOld
import Derived.Below
import Derived.JoinedCond
set_option linter.unusedVariables false
namespace Go.Proofs.Ytnpboadefhannaa.runesFold
open Go.ChangeShapes Go.WideShapes Go.ChangeAt Go.RowKit
open Go.ChangeMaps (open_string shut_string)

theorem own : ownKnob Try.prog.godebug = none := by kernel_rfl

theorem fold_str (s : ByteArray) (w : World) (hs : s.size ≤ 1073741824) :
    Calls Try.prog 21 #[.string s] w fun e w' => e = .returned (.string ⟨(fold s.data.toList).toArray⟩) ∧ Below w.heap.size w w' := by
  have h := fold_any s.data.toList w (by rw [len_data]; exact hs)
  rwa [mk_data] at h

theorem cat_blanks (s : ByteArray) : (ByteArray.mk #[32, 9] ++ s ++ ByteArray.mk #[10, 32]).data.toList = [32, 9] ++ s.data.toList ++ [10, 32] := by
  simp

set_option maxHeartbeats 4000000 in
set_option maxRecDepth 100000 in
theorem walk (s : ByteArray) (w : World) (hs : s.size ≤ 1048576) :
    Calls Try.prog 6 #[.string s] w fun e w' => e = .returned (.bool true) ∧ Below w.heap.size w w' := by
  obtain ⟨Fb, hF⟩ : ∃ Fb : ByteArray, ByteArray.mk (fold s.data.toList).toArray = Fb := ⟨_, rfl⟩
  have hFd : Fb.data.toList = fold s.data.toList := by rw [← hF]
  have hFl : Fb.size ≤ 5242880 := by rw [← len_data, hFd]; have := fold_len s.data.toList; rw [len_data] at this; omega
  have c1 : Hid (∀ wx, Calls Try.prog 21 #[.string s] wx fun e w' => e = .returned (.string Fb) ∧ Below wx.heap.size wx w') := by
    intro wx; have h := fold_str s wx (by omega); rwa [hF] at h
  have c2 : Hid (∀ wx, Calls Try.prog 22 #[.string s] wx fun e w' => e = .returned (.string Fb) ∧ Below wx.heap.size wx w') := by
    intro wx; have h := reffold_any s wx (by omega); rwa [hF] at h
  have c3 : Hid (∀ wx, Calls Try.prog 21 #[.string Fb] wx fun e w' => e = .returned (.string Fb) ∧ Below wx.heap.size wx w') := by
    intro wx; have h := fold_str Fb wx (by omega); rwa [hFd, fold_fold, hF] at h
  have c4 : Hid (∀ wx, Calls Try.prog 21 #[.string (ByteArray.mk #[32, 9] ++ s ++ ByteArray.mk #[10, 32])] wx fun e w' => e = .returned (.string Fb) ∧ Below wx.heap.size wx w') := by
    intro wx
    have h := fold_str (ByteArray.mk #[32, 9] ++ s ++ ByteArray.mk #[10, 32]) wx (by rw [← len_data, cat_blanks]; simp; omega)
    rwa [cat_blanks, fold_blanks, hF] at h
  clear hF hFd
  go_enter Try.func6, Try.ntmps6
  go_wp2_with (go_at_call 9; refine (shown_any _).mono ?_)
  first | rintro e w1 rfl hb1 | rintro e w1 ⟨rfl, hb1⟩
  go_wp2_with (go_at_call 21; refine (c1.out _).mono ?_)
  first | rintro e w2 rfl hb2 | rintro e w2 ⟨rfl, hb2⟩
  have hb2' : Below w.heap.size w w2 := hb1.trans (hb2.mono hb1.size)
  clear hb1 hb2
  go_wp2_with (go_at_call 22; refine (c2.out _).mono ?_)
  first | rintro e w3 rfl hb3 | rintro e w3 ⟨rfl, hb3⟩
  have hb3' : Below w.heap.size w w3 := hb2'.trans (hb3.mono hb2'.size)
  clear hb2' hb3
  go_wp2_with (go_at_call 21; refine (c3.out _).mono ?_)
  first | rintro e w4 rfl hb4 | rintro e w4 ⟨rfl, hb4⟩
  have hb4' : Below w.heap.size w w4 := hb3'.trans (hb4.mono hb3'.size)
  clear hb3' hb4
  go_wp2_with (go_at_call 21; refine (c4.out _).mono ?_)
  first | rintro e w5 rfl hb5 | rintro e w5 ⟨rfl, hb5⟩
  have hb5' : Below w.heap.size w w5 := hb4'.trans (hb5.mono hb4'.size)
  clear hb4' hb5
  go_wp2
  go_ret
  exact ⟨rfl, hb5'⟩

theorem contract (H : Type) (enc : TypeId × Value → H) (W : World) (base : Nat) (args : Array Value) (ds gs : List (DataW H)) (before : List MemPlace)
    (hval : ∀ (j : Nat) t v, Try.f6.params[j]? = some t → args[j]? = some v → Value.okWide Try.prog W .any base t v)
    (hW : DataW.Whole enc Try.prog Try.f6.params.toList Rows.runesFoldSpec.vars false W args.toList ds gs before) (hk : Rows.uptoSmall H (ds ++ gs) = true) :
    Calls Try.prog 6 args W fun e W' => ∃ v, e = .returned v ∧ Rows.runesFoldSpec.post enc Try.prog Try.f6 false true false false W args v W' := by
  have hW' := hW
  obtain ⟨p, q, hA0, hV, rfl, hfz, hnd⟩ := hW
  have hA : DataW.TrodAll enc Try.prog W 0 (fun _ => true) true Try.f6.params.toList args.toList ds p := hA0
  rw [Try.params6] at hA hval
  obtain ⟨v0, vs0, d0, ds0, p0, q0, hargs, rfl, rfl, h0, r0⟩ := trodAll_cons hA
  obtain ⟨rfl, rfl, rfl⟩ := trodAll_nil r0
  obtain rfl : args = #[v0] := by cases args; simp_all
  obtain ⟨rfl, rfl⟩ := trodVars_none hV
  obtain ⟨s, rfl, rfl, rfl, ws⟩ := open_string Try.underlying9 (hval 0 9 v0 rfl rfl) h0
  have hb := of_decide_eq_true hk
  simp only [List.append_nil, Rows.uptoBulkAll, Rows.uptoBulk, Array.length_toList, ByteArray.size_data] at hb
  clear hA0
  simp only [List.append_nil] at hW'
  refine (walk s W (by omega)).mono fun e W' ⟨he, bel⟩ => ?_
  subst he
  exact ⟨_, rfl, _, _, _, [], _, [], hW', trodAll_mk1 (shut_bool Try.underlying4 _), (trodAll_cons_mk (shut_string Try.underlying9 ws) trodAll_mk0), rfl, bel.frame _, fun h => by cases h⟩

set_option maxRecDepth 100000 in
theorem lifted (os : Os) (started : os.Started) (H : Type) (enc : TypeId × Value → H) (F : Stop.Interp) :
    ReturnsInHanded {} Try.checked os 6 .any ((Rows.OpenSpec.upto Rows.runesFoldSpec).pre6 enc Try.prog Try.f6 Rows.runesFoldUptoRow.domain false) (((Rows.OpenSpec.upto Rows.runesFoldSpec).at F).post enc Try.prog Try.f6 false true false false) := by
  refine returnsInHanded_of_cond (C := Try.checked) (s := Rows.OpenSpec.upto Rows.runesFoldSpec) (k := Rows.uptoSmall) rfl own started (by kernel_rfl) Try.func6
    (OpenSpec.witness (enc := enc) (C := Try.checked) (s := Rows.OpenSpec.upto Rows.runesFoldSpec) (k := Rows.uptoSmall) rfl false ⟨#[], #[.string ⟨#[]⟩], []⟩ 8 (by kernel_rfl) (by kernel_rfl) (by kernel_rfl)
      (x := ([.lit (.string [])], [], [])) (by kernel_rfl) rfl (by kernel_rfl)) ?_
  intro W base args ds gs before hval hW _ hk _
  exact contract H enc W base args ds gs before hval hW hk

theorem over : Rows.runesFoldUptoRow.holds Try.pinned (Rows.OpenSpec.upto Rows.runesFoldSpec) :=
  OpenClaim.holds_of_cond 6 Try.f6 rfl rfl rfl rfl rfl rfl rfl ⟨rfl, rfl, rfl, rfl, rfl⟩ rfl rfl rfl rfl rfl (by kernel_rfl) Try.func6 (by kernel_rfl)
    (of_decide_eq_true (by kernel_rfl)) (by unfold Func.isWrapper; first | (rw [if_pos (by decide +kernel)]; kernel_rfl) | (rw [if_neg (by decide +kernel)]; exact ⟨rfl, rfl⟩))
    (fun os started H enc _ F => lifted os started H enc F)

theorem proved : Rows.RunesFoldUptoSaid :=
  over
#print axioms proved
end Go.Proofs.Ytnpboadefhannaa.runesFold
