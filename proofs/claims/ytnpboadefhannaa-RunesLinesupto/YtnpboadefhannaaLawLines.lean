/- RunesLines: of every text, up to the bound on what is read, Lines answers what the document says, and what came out is its owner's. -/
import Derived.Test.YtnpboadefhannaaRefLines
import Derived.ProofKit
import Derived.OpenShut
import Derived.ShutString
import Derived.ChangeOld
import Derived.Below
import Derived.JoinedCond
import Derived.Deep.QuietTactic
import Derived.BigQuiet
set_option linter.unusedVariables false
namespace Go.Proofs.Ytnpboadefhannaa.runesLines
open Go.ChangeShapes Go.WideShapes Go.ChangeAt Go.RowKit
open Go.ChangeMaps (open_string shut_string)

theorem own : ownKnob Try.prog.godebug = none := by kernel_rfl

/-- What a call owns stays while nothing that was there turns. -/
theorem own_below {w w' : World} {B : Nat} {e : TypeId} {v : Value} {n : Nat} {xs : List Value} (h : w.ownsRow B e 1 v n xs) (hb : Below w.heap.size w w') : w'.ownsRow B e 1 v n xs := by
  refine ⟨h.1, ?_⟩
  rcases h.2 with hn | ⟨g, cap, cur, hv, hB, hgg, rest⟩
  · exact .inl hn
  · exact .inr ⟨g, cap, cur, hv, hB, (hb.block g (Array.getElem?_eq_some_iff.1 hgg).1).trans hgg, rest⟩

theorem own_addr {w : World} {B : Nat} {e : TypeId} {ao : Option Addr} {cap n k : Nat} {xs : List Value} (h : w.ownsRow B e 1 (.slice ao n cap) n xs) (hk : k < n) : ∃ g, ao = some ⟨g, 0, none⟩ ∧ B ≤ g ∧ g < w.heap.size := by
  rcases h.2 with ⟨_, h0⟩ | ⟨g, cap', cur, hv, hB, hgg, rest⟩
  · omega
  · simp only [Value.slice.injEq] at hv
    exact ⟨g, hv.1, hB, (Array.getElem?_eq_some_iff.1 hgg).1⟩

set_option maxHeartbeats 4000000 in
set_option maxRecDepth 100000 in
theorem walk (s : ByteArray) (w : World) (hs : s.size ≤ 1073741824) :
    Calls Try.prog 4 #[.string s] w fun e w' => e = .returned (.bool true) ∧ Below w.heap.size w w' := by
  go_enter Try.func4, Try.ntmps4
  go_wp2_with (go_at_call 9; refine (shown_any _).mono ?_)
  rintro e w1 ⟨rfl, hb1⟩
  go_wp2_with (go_at_call 13; refine (reflines_any s w1 hs).mono ?_)
  rintro e w2 ⟨vw, rfl, hownw, hb2⟩
  have hln : (lines s.data.toList).length ≤ 1073741824 := by
    have := linesF_le s.data.toList (s.data.toList.length - 0) 0
    rw [len_data] at this
    have h2 : (lines s.data.toList).length ≤ s.size := this
    omega
  have hlin := fun wx => lines_any s wx hs
  generalize lines s.data.toList = L at *
  obtain ⟨aw, cw, hv⟩ := own_slice hownw
  subst hv
  have HL := (show Hid (∀ wx, Calls Try.prog 14 #[.string s] wx fun e w' => ∃ v, e = .returned v ∧ w'.ownsRow wx.heap.size 9 1 v L.length (strVs L) ∧ Below wx.heap.size wx w') from hlin)
  have hown0 : w2.ownsRow w.heap.size 9 1 (.slice aw L.length cw) L.length (strVs L) := by
    refine ⟨hownw.1, ?_⟩
    rcases hownw.2 with hn | ⟨g, cap, cur, hv, hB, rest⟩
    · exact .inl hn
    · exact .inr ⟨g, cap, cur, hv, Nat.le_trans hb1.size hB, rest⟩
  have hb0 : Below w.heap.size w w2 := hb1.trans (hb2.mono hb1.size)
  clear hownw hlin hb1 hb2
  go_wp2
  go_loopw [5] (fun t wr => ∃ j : Nat, j ≤ 2 ∧ t = .int .i64 j ∧ wr.ownsRow w.heap.size 9 1 (.slice aw L.length cw) L.length (strVs L) ∧ Below w.heap.size w wr) (fun t _ => 2 - (intOf t).toNat)
  case atStart => exact ⟨0, by omega, rfl, hown0, hb0⟩
  case round =>
    obtain ⟨j, hj, rfl, hownw, hbw⟩ := hrel
    clear hown0 hb0
    have hsz := hbw.size
    by_cases hlt : j < 2
    · go_wp2_with (go_at_call 14; refine (HL.out _).mono ?_)
      rintro e w3 ⟨vl, rfl, hownl, hb3⟩
      obtain ⟨al, cl, hv⟩ := own_slice hownl
      subst hv
      have hownw3 := own_below hownw hb3
      have hbw3 : Below w.heap.size w w3 := hbw.trans (hb3.mono hsz)
      have hgw : ∀ g, aw = some ⟨g, 0, none⟩ → g < wr.heap.size := by
        intro g hg
        subst hg
        exact (hownw.lt g rfl).2
      have hq : (((L.length : Nat) : Int) != ((L.length : Nat) : Int)) = false := by simp
      obtain ⟨B2, HB⟩ : ∃ B2, Hid (wr.heap.size = B2) := ⟨_, rfl⟩
      rw [HB.out] at hownl hgw hsz
      clear hownw hb3
      go_wp2
      go_loopw [7] (fun t wx => ∃ (k : Nat) (ys : List Value), k ≤ L.length ∧ t = .int .i64 k ∧ wx.ownsRow w.heap.size 9 1 (.slice aw L.length cw) L.length (strVs L) ∧ wx.ownsRow B2 9 1 (.slice al L.length cl) L.length ys ∧ (∀ j, k ≤ j → ys[j]? = (strVs L)[j]?) ∧ Below w.heap.size w wx) (fun t _ => L.length - (intOf t).toNat)
      case atStart => exact ⟨0, strVs L, by omega, rfl, hownw3, hownl, fun _ _ => rfl, hbw3⟩
      case round =>
        obtain ⟨k, ys, hk, rfl, hw, hl, hys, hbx⟩ := hrel
        clear hownw3 hownl hbw3
        by_cases hkl : k < L.length
        · obtain ⟨gw, rfl, hgw1, hgw2⟩ := own_addr hw hkl
          obtain ⟨gl, rfl, hgl1, hgl2⟩ := own_addr hl hkl
          have hne := hgw gw rfl
          have hsk : (strVs L)[k]? = some (strV L[k]) := by simp [strVs, hkl]
          have cw1 : wr.cell? ⟨gw, k, none⟩ = some (strV L[k]) := (hw.cellAt k (by omega)).trans hsk
          have cl1 : wr.cell? ⟨gl, k, none⟩ = some (strV L[k]) := ((hl.cellAt k (by omega)).trans (hys k (Nat.le_refl _))).trans hsk
          have fl1 : wr.frozen? ⟨gl, k, none⟩ = false := hl.frozenAt k
          generalize L[k] = x at *
          unfold strV at cw1 cl1
          clear hsk hgw
          go_wp2
          go_quiet (fail)
          go_wp2
          go_roundw
          case rel =>
            have hlD : (wr.drewN nq).ownsRow B2 9 1 (.slice (some ⟨gl, 0, none⟩) L.length cl) L.length ys := hl
            have hwD : (wr.drewN nq).ownsRow w.heap.size 9 1 (.slice (some ⟨gw, 0, none⟩) L.length cw) L.length (strVs L) := hw
            have hst := hlD.stored k (.string ⟨#[63]⟩)
            refine ⟨k + 1, ys.set k (.string ⟨#[63]⟩), by omega, by go_num, hwD.kept hst.2 (.inr ?_), hst.1, ?_, (below_drewN hbx nq).setCell ?_ _⟩
            · simp only [Value.ownBlock, ne_eq, Option.some.injEq]; omega
            · intro j2 hj2
              rw [List.getElem?_set_ne (by omega)]
              exact hys j2 (by omega)
            · show w.heap.size ≤ gl; omega
          case measure => simp [intOf]; omega
        · go_wp2
          go_roundw
          case rel => exact ⟨j + 1, by omega, by go_num, hw, hbx⟩
          case measure => simp [intOf]; omega
    · go_wp2
      go_ret
      exact ⟨rfl, hbw⟩

theorem contract (H : Type) (enc : TypeId × Value → H) (W : World) (base : Nat) (args : Array Value) (ds gs : List (DataW H)) (before : List MemPlace)
    (hval : ∀ (j : Nat) t v, Try.f4.params[j]? = some t → args[j]? = some v → Value.okWide Try.prog W .any base t v)
    (hW : DataW.Whole enc Try.prog Try.f4.params.toList Rows.runesLinesSpec.vars false W args.toList ds gs before) (hk : Rows.uptoSmall H (ds ++ gs) = true) :
    Calls Try.prog 4 args W fun e W' => ∃ v, e = .returned v ∧ Rows.runesLinesSpec.post enc Try.prog Try.f4 false true false false W args v W' := by
  have hW' := hW
  obtain ⟨p, q, hA0, hV, rfl, hfz, hnd⟩ := hW
  have hA : DataW.TrodAll enc Try.prog W 0 (fun _ => true) true Try.f4.params.toList args.toList ds p := hA0
  rw [Try.params4] at hA hval
  obtain ⟨v0, vs0, d0, ds0, p0, q0, hargs, rfl, rfl, h0, r0⟩ := trodAll_cons hA
  obtain ⟨rfl, rfl, rfl⟩ := trodAll_nil r0
  obtain rfl : args = #[v0] := by cases args; simp_all
  obtain ⟨rfl, rfl⟩ := trodVars_none hV
  obtain ⟨s, rfl, rfl, rfl, ws⟩ := open_string Try.underlying9 (hval 0 9 v0 rfl rfl) h0
  have hb := of_decide_eq_true hk
  simp only [List.append_nil, Rows.uptoBulkAll, Rows.uptoBulk, Array.length_toList, ByteArray.size_data] at hb
  clear hA0
  simp only [List.append_nil] at hW'
  refine (walk s W (by omega)).mono fun e W' ⟨he, bel⟩ => ?_
  subst he
  exact ⟨_, rfl, _, _, _, [], _, [], hW', trodAll_mk1 (shut_bool Try.underlying4 _), (trodAll_cons_mk (shut_string Try.underlying9 ws) trodAll_mk0), rfl, bel.frame _, fun h => by cases h⟩

set_option maxRecDepth 100000 in
theorem lifted (os : Os) (started : os.Started) (H : Type) (enc : TypeId × Value → H) (F : Stop.Interp) :
    ReturnsInHanded {} Try.checked os 4 .any ((Rows.OpenSpec.upto Rows.runesLinesSpec).pre6 enc Try.prog Try.f4 Rows.runesLinesUptoRow.domain false) (((Rows.OpenSpec.upto Rows.runesLinesSpec).at F).post enc Try.prog Try.f4 false true false false) := by
  refine returnsInHanded_of_cond (C := Try.checked) (s := Rows.OpenSpec.upto Rows.runesLinesSpec) (k := Rows.uptoSmall) rfl own started (by kernel_rfl) Try.func4
    (OpenSpec.witness (enc := enc) (C := Try.checked) (s := Rows.OpenSpec.upto Rows.runesLinesSpec) (k := Rows.uptoSmall) rfl false ⟨#[], #[.string ⟨#[]⟩], []⟩ 8 (by kernel_rfl) (by kernel_rfl) (by kernel_rfl)
      (x := ([.lit (.string [])], [], [])) (by kernel_rfl) rfl (by kernel_rfl)) ?_
  intro W base args ds gs before hval hW _ hk _
  exact contract H enc W base args ds gs before hval hW hk

theorem over : Rows.runesLinesUptoRow.holds Try.pinned (Rows.OpenSpec.upto Rows.runesLinesSpec) :=
  OpenClaim.holds_of_cond 4 Try.f4 rfl rfl rfl rfl rfl rfl rfl ⟨rfl, rfl, rfl, rfl, rfl⟩ rfl rfl rfl rfl rfl (by kernel_rfl) Try.func4 (by kernel_rfl)
    (of_decide_eq_true (by kernel_rfl)) (by unfold Func.isWrapper; first | (rw [if_pos (by decide +kernel)]; kernel_rfl) | (rw [if_neg (by decide +kernel)]; exact ⟨rfl, rfl⟩))
    (fun os started H enc _ F => lifted os started H enc F)

theorem proved : Rows.RunesLinesUptoSaid :=
  over
#print axioms proved
end Go.Proofs.Ytnpboadefhannaa.runesLines
