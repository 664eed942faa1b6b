/- EscapeURL: of every text, up to the bound on what is read, what URL writes has no bytes but the plain ones and the ampersand, and is as long as the bytes ask. -/
import Derived.Test.YtebnobhalffalaaRBytes
import Derived.ProofKit
import Derived.OpenShut
import Derived.ShutString
import Derived.ChangeOld
import Derived.Below
import Derived.JoinedCond
import Derived.SizedLaws
set_option linter.unusedVariables false
namespace Go.Proofs.Ytebnobhalffalaa.escapeURL
open Go.ChangeShapes Go.WideShapes Go.ChangeAt Go.RowKit
open Go.ChangeMaps (open_string shut_string)

theorem own : ownKnob Try.prog.godebug = none := by kernel_rfl

set_option maxHeartbeats 4000000 in
set_option maxRecDepth 100000 in
theorem walk (s : ByteArray) (w : World) (hs : s.size ≤ 1048576) :
    Calls Try.prog 6 #[.string s] w fun e w' => e = .returned (.bool true) ∧ Below w.heap.size w w' := by
  obtain ⟨U, hU⟩ : ∃ U : ByteArray, ByteArray.mk (url s.data.toList).toArray = U := ⟨_, rfl⟩
  have hUd : U.data.toList = url s.data.toList := by rw [← hU]
  have hUn : U.size = (url s.data.toList).length := by rw [← hUd, len_data]
  have hUs : U.size ≤ 5242880 := by
    have := flat_len (fun c => (urlB_len c).2) s.data.toList
    rw [len_data] at this
    unfold url at hUn
    omega
  have hur := fun w' => url_any s w' (by omega)
  rw [hU] at hur
  have HS := (show Hid (∀ k (h : k < U.size), plainB U[k] = true ∨ U[k].toNat = 38) from by
    intro k hk
    refine url_safe s.data.toList U[k] ?_
    rw [← hUd]
    exact List.mem_of_getElem? (get_byte U k hk))
  have HN := (show Hid (U.size = (url s.data.toList).length) from hUn)
  clear hUd hU hUn
  go_enter Try.func6, Try.ntmps6
  go_wp2_with (go_at_call 9; refine (shown_any _).mono ?_)
  rintro e w1 ⟨rfl, hb1⟩
  go_wp2_with (go_at_call 12; refine (hur _).mono ?_)
  rintro e w2 ⟨rfl, hb2⟩
  have hb : Below w.heap.size w w2 := hb1.trans (hb2.mono hb1.size)
  clear hb1 hb2 hur
  go_wp2
  go_loopw [5, 6] (fun x t wr => Hid (w2 = wr) ∧ ∃ k n : Nat, k ≤ s.size ∧ t = .int .i64 (k : Int) ∧ x = .int .i64 (n : Int) ∧ n ≤ 5 * k ∧ Hid (n = ((s.data.toList.take k).flatMap urlB).length)) (fun _ t _ => s.size - (intOf t).toNat)
  case atStart => exact ⟨rfl, 0, 0, by omega, rfl, rfl, by omega, rfl⟩
  case round =>
    obtain ⟨HW, k, n, hk, rfl, rfl, hnk, HK⟩ := hrel
    by_cases hlt : k < s.size
    · have cp := plain_any s[k]
      have htk : ((s.data.toList.take (k + 1)).flatMap urlB).length = n + (urlB s[k]).length := by
        rw [List.take_add_one, get_byte s k hlt, List.flatMap_append, List.length_append, ← HK.out]
        simp
      have hul : urlB s[k] = if plainB s[k] = true then [s[k]] else if s[k].toNat = 38 then [38, 97, 109, 112, 59] else [37, hexs.getD (s[k].toNat / 16) 0, hexs.getD (s[k].toNat % 16) 0] := rfl
      cases hp : plainB s[k] with
      | true =>
        rw [hp] at cp hul
        rw [hul, if_pos rfl] at htk
        have HK' : Hid (n + 1 = ((s.data.toList.take (k + 1)).flatMap urlB).length) := htk.symm
        clear hul htk HK hp
        go_wp2_with (go_at_call 18; refine (cp _).mono ?_; rintro e w' ⟨rfl, rfl⟩)
        go_roundw
        case rel => exact ⟨HW, k + 1, n + 1, by omega, by go_num, by go_num, by omega, HK'⟩
        case measure => simp [intOf]; omega
      | false =>
        rw [hp] at cp hul
        rw [if_neg (by simp)] at hul
        by_cases h38 : s[k].toNat = 38
        · have q : ((s[k].toNat : Int) == 38) = true := by rw [h38]; rfl
          rw [hul, if_pos h38] at htk
          have HK' : Hid (n + 5 = ((s.data.toList.take (k + 1)).flatMap urlB).length) := htk.symm
          clear hul htk HK hp h38
          go_wp2_with (go_at_call 18; refine (cp _).mono ?_; rintro e w' ⟨rfl, rfl⟩)
          go_roundw
          case rel => exact ⟨HW, k + 1, n + 5, by omega, by go_num, by go_num, by omega, HK'⟩
          case measure => simp [intOf]; omega
        · have q : ((s[k].toNat : Int) == 38) = false := by simp; omega
          rw [hul, if_neg h38] at htk
          have HK' : Hid (n + 3 = ((s.data.toList.take (k + 1)).flatMap urlB).length) := htk.symm
          clear hul htk HK hp h38
          go_wp2_with (go_at_call 18; refine (cp _).mono ?_; rintro e w' ⟨rfl, rfl⟩)
          go_roundw
          case rel => exact ⟨HW, k + 1, n + 3, by omega, by go_num, by go_num, by omega, HK'⟩
          case measure => simp [intOf]; omega
    · have hW := HW.out
      subst hW
      have hnn : n = U.size := by
        rw [HN.out, HK.out, List.take_of_length_le (by rw [len_data]; omega)]
        rfl
      subst hnn
      clear HW HK HN
      go_wp2
      go_loopw [8] (fun t wr => Hid (w2 = wr) ∧ ∃ k : Nat, k ≤ U.size ∧ t = .int .i64 (k : Int)) (fun t _ => U.size - (intOf t).toNat)
      case atStart => exact ⟨rfl, 0, by omega, rfl⟩
      case round =>
        obtain ⟨HW, j, hj, rfl⟩ := hrel
        have hW := HW.out
        by_cases hjl : j < U.size
        · have cp := plain_any U[j]
          have hsf := HS.out j hjl
          cases hp : plainB U[j] with
          | true =>
            rw [hp] at cp
            clear hsf hp
            go_wp2_with (go_at_call 18; refine (cp _).mono ?_; rintro e w' ⟨rfl, rfl⟩)
            go_roundw
            case rel => exact ⟨HW, j + 1, by omega, by go_num⟩
            case measure => simp [intOf]; omega
          | false =>
            rw [hp] at cp hsf
            have h38 : U[j].toNat = 38 := by simpa using hsf
            have q : ((U[j].toNat : Int) != 38) = false := by rw [h38]; rfl
            clear hsf hp h38
            go_wp2_with (go_at_call 18; refine (cp _).mono ?_; rintro e w' ⟨rfl, rfl⟩)
            go_roundw
            case rel => exact ⟨HW, j + 1, by omega, by go_num⟩
            case measure => simp [intOf]; omega
        · subst hW
          clear HW HS
          go_wp2
          go_ret
          exact ⟨rfl, hb⟩

theorem contract (H : Type) (enc : TypeId × Value → H) (W : World) (base : Nat) (args : Array Value) (ds gs : List (DataW H)) (before : List MemPlace)
    (hval : ∀ (j : Nat) t v, Try.f6.params[j]? = some t → args[j]? = some v → Value.okWide Try.prog W .any base t v)
    (hW : DataW.Whole enc Try.prog Try.f6.params.toList Rows.escapeURLSpec.vars false W args.toList ds gs before) (hk : Rows.uptoSmall H (ds ++ gs) = true) :
    Calls Try.prog 6 args W fun e W' => ∃ v, e = .returned v ∧ Rows.escapeURLSpec.post enc Try.prog Try.f6 false true false false W args v W' := by
  have hW' := hW
  obtain ⟨p, q, hA0, hV, rfl, hfz, hnd⟩ := hW
  have hA : DataW.TrodAll enc Try.prog W 0 (fun _ => true) true Try.f6.params.toList args.toList ds p := hA0
  rw [Try.params6] at hA hval
  obtain ⟨v0, vs0, d0, ds0, p0, q0, hargs, rfl, rfl, h0, r0⟩ := trodAll_cons hA
  obtain ⟨rfl, rfl, rfl⟩ := trodAll_nil r0
  obtain rfl : args = #[v0] := by cases args; simp_all
  obtain ⟨rfl, rfl⟩ := trodVars_none hV
  obtain ⟨s, rfl, rfl, rfl, ws⟩ := open_string Try.underlying9 (hval 0 9 v0 rfl rfl) h0
  have hb := of_decide_eq_true hk
  simp only [List.append_nil, Rows.uptoBulkAll, Rows.uptoBulk, Array.length_toList, ByteArray.size_data] at hb
  clear hA0
  simp only [List.append_nil] at hW'
  refine (walk s W (by omega)).mono fun e W' ⟨he, bel⟩ => ?_
  subst he
  exact ⟨_, rfl, _, _, _, [], _, [], hW', trodAll_mk1 (shut_bool Try.underlying4 _), (trodAll_cons_mk (shut_string Try.underlying9 ws) trodAll_mk0), rfl, bel.frame _, fun h => by cases h⟩

set_option maxRecDepth 100000 in
theorem lifted (os : Os) (started : os.Started) (H : Type) (enc : TypeId × Value → H) (F : Stop.Interp) :
    ReturnsInHanded {} Try.checked os 6 .any ((Rows.OpenSpec.upto Rows.escapeURLSpec).pre6 enc Try.prog Try.f6 Rows.escapeURLUptoRow.domain false) (((Rows.OpenSpec.upto Rows.escapeURLSpec).at F).post enc Try.prog Try.f6 false true false false) := by
  refine returnsInHanded_of_cond (C := Try.checked) (s := Rows.OpenSpec.upto Rows.escapeURLSpec) (k := Rows.uptoSmall) rfl own started (by kernel_rfl) Try.func6
    (OpenSpec.witness (enc := enc) (C := Try.checked) (s := Rows.OpenSpec.upto Rows.escapeURLSpec) (k := Rows.uptoSmall) rfl false ⟨#[], #[.string ⟨#[]⟩], []⟩ 8 (by kernel_rfl) (by kernel_rfl) (by kernel_rfl)
      (x := ([.lit (.string [])], [], [])) (by kernel_rfl) rfl (by kernel_rfl)) ?_
  intro W base args ds gs before hval hW _ hk _
  exact contract H enc W base args ds gs before hval hW hk

theorem over : Rows.escapeURLUptoRow.holds Try.pinned (Rows.OpenSpec.upto Rows.escapeURLSpec) :=
  OpenClaim.holds_of_cond 6 Try.f6 rfl rfl rfl rfl rfl rfl rfl ⟨rfl, rfl, rfl, rfl, rfl⟩ rfl rfl rfl rfl rfl (by kernel_rfl) Try.func6 (by kernel_rfl)
    (of_decide_eq_true (by kernel_rfl)) (by unfold Func.isWrapper; first | (rw [if_pos (by decide +kernel)]; kernel_rfl) | (rw [if_neg (by decide +kernel)]; exact ⟨rfl, rfl⟩))
    (fun os started H enc _ F => lifted os started H enc F)

theorem proved : Rows.EscapeURLUptoSaid :=
  over
#print axioms proved
end Go.Proofs.Ytebnobhalffalaa.escapeURL
