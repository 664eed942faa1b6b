/- EscapeBack: of every text, up to the bound on what is read, what HTML writes has none of the three bytes, and Unescape of it is the text, if that has no backslash. -/
import Derived.Test.YtebnobhalffalaaEShown
import Derived.ProofKit
import Derived.OpenShut
import Derived.ShutString
import Derived.ChangeOld
import Derived.Below
import Derived.JoinedCond
set_option linter.unusedVariables false
namespace Go.Proofs.Ytebnobhalffalaa.escapeBack
open Go.ChangeShapes Go.WideShapes Go.ChangeAt Go.RowKit
open Go.ChangeMaps (open_string shut_string)

theorem own : ownKnob Try.prog.godebug = none := by kernel_rfl

set_option maxHeartbeats 4000000 in
set_option maxRecDepth 100000 in
theorem walk (s : ByteArray) (w : World) (hs : s.size ≤ 1048576) :
    Calls Try.prog 5 #[.string s] w fun e w' => e = .returned (.bool true) ∧ Below w.heap.size w w' := by
  obtain ⟨H, hH⟩ : ∃ H : ByteArray, ByteArray.mk (html s.data.toList).toArray = H := ⟨_, rfl⟩
  have hHd : H.data.toList = html s.data.toList := by rw [← hH]
  have hHs : H.size ≤ 6291456 := by
    have := flat_len (fun c => (htmlB_len c).2) s.data.toList
    have h2 : H.size = (html s.data.toList).length := by rw [← hHd, len_data]
    rw [len_data] at this
    unfold html at h2
    omega
  have hht := fun w' => html_any s w' (by omega)
  rw [hH] at hht
  have hsafe : ∀ k (h : k < H.size), H[k].toNat ≠ 60 ∧ H[k].toNat ≠ 62 ∧ H[k].toNat ≠ 34 := by
    intro k hk
    refine html_safe s.data.toList H[k] ?_
    rw [← hHd]
    exact List.mem_of_getElem? (get_byte H k hk)
  have hun : (∀ c ∈ s.data.toList, c.toNat ≠ 92) → ∀ w', Calls Try.prog 16 #[.string H] w' fun e w'' => e = .returned (.string s) ∧ Below w'.heap.size w' w'' := by
    intro h w'
    have := unesc_any H w' (by omega)
    rwa [hHd, unesc_html _ h, mk_data] at this
  have HU := (show Hid ((∀ c ∈ s.data.toList, c.toNat ≠ 92) → ∀ w', Calls Try.prog 16 #[.string H] w' fun e w'' => e = .returned (.string s) ∧ Below w'.heap.size w' w'') from hun)
  have HS := (show Hid (∀ k (h : k < H.size), H[k].toNat ≠ 60 ∧ H[k].toNat ≠ 62 ∧ H[k].toNat ≠ 34) from hsafe)
  clear hun hsafe hHd hH
  go_enter Try.func5, Try.ntmps5
  go_wp2_with (go_at_call 9; refine (shown_any _).mono ?_)
  rintro e w1 ⟨rfl, hb1⟩
  go_wp2_with (go_at_call 10; refine (hht _).mono ?_)
  rintro e w2 ⟨rfl, hb2⟩
  have hb : Below w.heap.size w w2 := hb1.trans (hb2.mono hb1.size)
  clear hb1 hb2 hht
  go_wp2
  go_loopw [5] (fun t wr => Hid (w2 = wr) ∧ ∃ k : Nat, k ≤ H.size ∧ t = .int .i64 (k : Int)) (fun t _ => H.size - (intOf t).toNat)
  case atStart => exact ⟨rfl, 0, by omega, rfl⟩
  case round =>
    obtain ⟨HW, k, hk, rfl⟩ := hrel
    by_cases hlt : k < H.size
    · obtain ⟨n1, n2, n3⟩ := HS.out k hlt
      have q1 : ((H[k].toNat : Int) == 60) = false := by simp; omega
      have q2 : ((H[k].toNat : Int) == 62) = false := by simp; omega
      have q3 : ((H[k].toNat : Int) == 34) = false := by simp; omega
      clear n1 n2 n3
      go_wp2
      go_roundw
      case rel => exact ⟨HW, k + 1, by omega, by go_num⟩
      case measure => simp [intOf]; omega
    · have hW := HW.out
      subst hW
      clear HW HS
      go_wp2
      go_loopw [6] (fun t wr => Hid (w2 = wr) ∧ ∃ k : Nat, k ≤ s.size ∧ t = .int .i64 (k : Int) ∧ Hid (∀ c ∈ s.data.toList.take k, c.toNat ≠ 92)) (fun t _ => s.size - (intOf t).toNat)
      case atStart => exact ⟨rfl, 0, by omega, rfl, by intro c hc; simp at hc⟩
      case round =>
        obtain ⟨HW, j, hj, rfl, HJ⟩ := hrel
        have hW := HW.out
        by_cases hjl : j < s.size
        · by_cases h92 : s[j].toNat = 92
          · have q : ((s[j].toNat : Int) == 92) = true := by rw [h92]; rfl
            subst hW
            clear HW HJ HU h92
            go_wp2
            go_ret
            exact ⟨rfl, hb⟩
          · have q : ((s[j].toNat : Int) == 92) = false := by simp; omega
            have HJ' : Hid (∀ c ∈ s.data.toList.take (j + 1), c.toNat ≠ 92) := by
              intro c hc
              rw [List.take_add_one, get_byte s j hjl] at hc
              simp only [Option.toList_some, List.mem_append, List.mem_singleton] at hc
              rcases hc with hc | rfl
              · exact HJ.out c hc
              · exact h92
            clear HJ h92
            go_wp2
            go_roundw
            case rel => exact ⟨HW, j + 1, by omega, by go_num, HJ'⟩
            case measure => simp [intOf]; omega
        · have hall : ∀ c ∈ s.data.toList, c.toNat ≠ 92 := by
            intro c hc
            refine HJ.out c ?_
            rw [List.take_of_length_le (by rw [len_data]; omega)]
            exact hc
          have hun := HU.out hall
          subst hW
          clear HW HJ HU hall
          go_wp2_with (go_at_call 16; refine (hun _).mono ?_)
          first | rintro e w3 rfl hb3 | rintro e w3 ⟨rfl, hb3⟩
          go_wp2
          go_ret
          exact ⟨rfl, hb.trans (hb3.mono hb.size)⟩

theorem contract (H : Type) (enc : TypeId × Value → H) (W : World) (base : Nat) (args : Array Value) (ds gs : List (DataW H)) (before : List MemPlace)
    (hval : ∀ (j : Nat) t v, Try.f5.params[j]? = some t → args[j]? = some v → Value.okWide Try.prog W .any base t v)
    (hW : DataW.Whole enc Try.prog Try.f5.params.toList Rows.escapeBackSpec.vars false W args.toList ds gs before) (hk : Rows.uptoSmall H (ds ++ gs) = true) :
    Calls Try.prog 5 args W fun e W' => ∃ v, e = .returned v ∧ Rows.escapeBackSpec.post enc Try.prog Try.f5 false true false false W args v W' := by
  have hW' := hW
  obtain ⟨p, q, hA0, hV, rfl, hfz, hnd⟩ := hW
  have hA : DataW.TrodAll enc Try.prog W 0 (fun _ => true) true Try.f5.params.toList args.toList ds p := hA0
  rw [Try.params5] at hA hval
  obtain ⟨v0, vs0, d0, ds0, p0, q0, hargs, rfl, rfl, h0, r0⟩ := trodAll_cons hA
  obtain ⟨rfl, rfl, rfl⟩ := trodAll_nil r0
  obtain rfl : args = #[v0] := by cases args; simp_all
  obtain ⟨rfl, rfl⟩ := trodVars_none hV
  obtain ⟨s, rfl, rfl, rfl, ws⟩ := open_string Try.underlying9 (hval 0 9 v0 rfl rfl) h0
  have hb := of_decide_eq_true hk
  simp only [List.append_nil, Rows.uptoBulkAll, Rows.uptoBulk, Array.length_toList, ByteArray.size_data] at hb
  clear hA0
  simp only [List.append_nil] at hW'
  refine (walk s W (by omega)).mono fun e W' ⟨he, bel⟩ => ?_
  subst he
  exact ⟨_, rfl, _, _, _, [], _, [], hW', trodAll_mk1 (shut_bool Try.underlying4 _), (trodAll_cons_mk (shut_string Try.underlying9 ws) trodAll_mk0), rfl, bel.frame _, fun h => by cases h⟩

set_option maxRecDepth 100000 in
theorem lifted (os : Os) (started : os.Started) (H : Type) (enc : TypeId × Value → H) (F : Stop.Interp) :
    ReturnsInHanded {} Try.checked os 5 .any ((Rows.OpenSpec.upto Rows.escapeBackSpec).pre6 enc Try.prog Try.f5 Rows.escapeBackUptoRow.domain false) (((Rows.OpenSpec.upto Rows.escapeBackSpec).at F).post enc Try.prog Try.f5 false true false false) := by
  refine returnsInHanded_of_cond (C := Try.checked) (s := Rows.OpenSpec.upto Rows.escapeBackSpec) (k := Rows.uptoSmall) rfl own started (by kernel_rfl) Try.func5
    (OpenSpec.witness (enc := enc) (C := Try.checked) (s := Rows.OpenSpec.upto Rows.escapeBackSpec) (k := Rows.uptoSmall) rfl false ⟨#[], #[.string ⟨#[]⟩], []⟩ 8 (by kernel_rfl) (by kernel_rfl) (by kernel_rfl)
      (x := ([.lit (.string [])], [], [])) (by kernel_rfl) rfl (by kernel_rfl)) ?_
  intro W base args ds gs before hval hW _ hk _
  exact contract H enc W base args ds gs before hval hW hk

theorem over : Rows.escapeBackUptoRow.holds Try.pinned (Rows.OpenSpec.upto Rows.escapeBackSpec) :=
  OpenClaim.holds_of_cond 5 Try.f5 rfl rfl rfl rfl rfl rfl rfl ⟨rfl, rfl, rfl, rfl, rfl⟩ rfl rfl rfl rfl rfl (by kernel_rfl) Try.func5 (by kernel_rfl)
    (of_decide_eq_true (by kernel_rfl)) (by unfold Func.isWrapper; first | (rw [if_pos (by decide +kernel)]; kernel_rfl) | (rw [if_neg (by decide +kernel)]; exact ⟨rfl, rfl⟩))
    (fun os started H enc _ F => lifted os started H enc F)

theorem proved : Rows.EscapeBackUptoSaid :=
  over
#print axioms proved
end Go.Proofs.Ytebnobhalffalaa.escapeBack
