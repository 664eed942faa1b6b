/- EscapePlain: of every text, the bytes but the backslash and the ampersand are what Unescape makes of them; no condition. -/
import Derived.Test.YtebnobhalffalaaEShown
import Derived.Deep.RegionWith
import Derived.ProofKit
import Derived.OpenShut
import Derived.ShutString
import Derived.ChangeOld
import Derived.Below
import Derived.JoinedCond
import Derived.SizedLaws
set_option linter.unusedVariables false
namespace Go.Proofs.Ytebnobhalffalaa.escapePlain
open Go.ChangeShapes Go.WideShapes Go.ChangeAt Go.RowKit
open Go.ChangeMaps (open_string shut_string)

theorem own : ownKnob Try.prog.godebug = none := by kernel_rfl

def rest (l : List UInt8) : List UInt8 := l.filter fun c => !(c.toNat == 92 || c.toNat == 38)

theorem rest_plain (l : List UInt8) : unesc (rest l) = rest l := by
  refine unesc_plain _ fun c hc => ?_
  have := (List.mem_filter.1 hc).2
  simp at this
  exact ⟨this.2, this.1⟩

theorem rest_len (l : List UInt8) : (rest l).length ≤ l.length := List.length_filter_le _ _

set_option maxHeartbeats 4000000 in
set_option maxRecDepth 100000 in
theorem walk (s : ByteArray) (w : World) (hs : s.size ≤ 140737488351232) :
    Calls Try.prog 8 #[.string s] w fun e w' => e = .returned (.bool true) ∧ Below w.heap.size w w' := by
  obtain ⟨i0, hi, hz0, hz1, hz2⟩ := info_parts info5
  go_enter Try.func8, Try.ntmps8
  go_wp2_with (go_at_call 9; refine (shown_any _).mono ?_)
  rintro e w1 ⟨rfl, hb1⟩
  go_wp2
  go_loopw [4, 5] (fun v t wr => ∃ (p : Nat) (acc : List UInt8), OwnB wr w.heap.size v acc ∧ t = .int .i64 (p : Int) ∧ p ≤ s.size ∧ Below w.heap.size w wr ∧ Hid (acc = rest (s.data.toList.take p)) ∧ acc.length ≤ p) (fun _ t _ => s.size - (intOf t).toNat)
  case atStart => exact ⟨0, [], World.ownsRow_nil _ _ _ _, rfl, by omega, hb1, rfl, by simp⟩
  case round =>
    obtain ⟨p, acc, hown, rfl, hp, hbw, HA, hal⟩ := hrel
    have hsz := hbw.size
    clear hb1
    by_cases hlt : p < s.size
    · have htk : rest (s.data.toList.take (p + 1)) = rest (s.data.toList.take p) ++ rest [s[p]] := by
        unfold rest
        rw [List.take_add_one, get_byte s p hlt, List.filter_append]
        rfl
      by_cases h92 : s[p].toNat = 92
      · have q : ((s[p].toNat : Int) != 92) = false := by rw [h92]; rfl
        have HA' : Hid (acc = rest (s.data.toList.take (p + 1))) := by
          show _ = _
          rw [htk, HA.out, show rest [s[p]] = [] by simp [rest, h92], List.append_nil]
        clear HA htk h92
        go_wp2
        go_roundw
        case rel => exact ⟨p + 1, acc, hown, by go_num, by omega, hbw, HA', by omega⟩
        case measure => simp [intOf]; omega
      · have q : ((s[p].toNat : Int) != 92) = true := by rw [bne_iff_ne]; omega
        by_cases h38 : s[p].toNat = 38
        · have q2 : ((s[p].toNat : Int) != 38) = false := by rw [h38]; rfl
          have HA' : Hid (acc = rest (s.data.toList.take (p + 1))) := by
            show _ = _
            rw [htk, HA.out, show rest [s[p]] = [] by simp [rest, h38], List.append_nil]
          clear HA htk h92 h38
          go_wp2
          go_roundw
          case rel => exact ⟨p + 1, acc, hown, by go_num, by omega, hbw, HA', by omega⟩
          case measure => simp [intOf]; omega
        · have q2 : ((s[p].toNat : Int) != 38) = true := by rw [bne_iff_ne]; omega
          have HA' : Hid (acc ++ [s[p]] = rest (s.data.toList.take (p + 1))) := by
            show _ = _
            rw [htk, HA.out, show rest [s[p]] = [s[p]] by simp [rest, h38, h92]]
          clear HA htk h92 h38
          go_wp2_with (at_builtin; refine wpList_append_own _ rfl _ _ 28 rfl w.heap.size 5 i0 (.int .u8 0) 1 1 Try.underlying28 hi hz0 hz1 hz2 rfl (by decide) _ _ _ rfl (hown.alloc _) ⟨_, 0, none⟩ 1 1 [.int .u8 (s[p].toNat : Int)] rfl rfl (lit_cells _ _ _) ?c2 ?c3 ?c4 ?c5 ?_)
          case c2 => intro u hu; simp at hu; subst hu; rfl
          case c3 => unfold maxLen; omega
          case c4 => omega
          case c5 => simp; omega
          intro v2 w2 hown2 hgrow _
          have hown2' := own_push (l := [s[p]]) hown2 rfl (byteCells_one _)
          have hb2 := below_grown hbw hsz hown hgrow
          clear hown2 hgrow
          go_wp2
          go_roundw
          case rel => exact ⟨p + 1, acc ++ [s[p]], hown2', by go_num, by omega, hb2, HA', by rw [List.length_append]; simp; omega⟩
          case measure => simp [intOf]; omega
    · have hcv := own_string (w := wr.drew) hown
      have hun : ∀ w', Calls Try.prog 16 #[.string ⟨acc.toArray⟩] w' fun e w'' => e = .returned (.string ⟨acc.toArray⟩) ∧ Below w'.heap.size w' w'' := by
        intro w'
        have := unesc_any ⟨acc.toArray⟩ w' (by rw [size_list]; omega)
        rwa [list_data, HA.out, rest_plain, ← HA.out] at this
      clear HA
      go_wp2
      go_region_with (go_at_call 16; refine (hun _).mono ?_; rintro e w3 ⟨rfl, hb3⟩; have hcv3 := own_string (own_below (w := wr.drew) hown hb3))
      all_goals
        go_wp2
        go_ret
        exact ⟨rfl, (below_drew hbw).trans (Below.mono (by assumption) hsz)⟩

set_option maxRecDepth 100000 in
theorem lifted (os : Os) (started : os.Started) (H : Type) (enc : TypeId × Value → H) :
    ReturnsInHanded {} Try.checked os 8 .any (Rows.escapePlainSpec.pre6 enc Try.prog Try.f8 Rows.escapePlainRow.domain false) (Rows.escapePlainSpec.post enc Try.prog Try.f8 false true false false) := by
  refine returnsInHanded_of_change_sized (C := Try.checked) own started (by kernel_rfl) Try.func8
    (ChangeSpec.witness6 (enc := enc) (C := Try.checked) false ⟨#[], #[.string ⟨#[]⟩], []⟩ 8 (by kernel_rfl) (by kernel_rfl) (by kernel_rfl) (by kernel_rfl)) ?_
  intro W base args ds gs before hval0 hW hcnd hsz0 _
  have hsz1 : (DataW.weightsEach Try.prog (Try.f8.params.toList ++ []) (ds ++ gs)).all (· ≤ reachBytes) = true := hsz0
  clear hsz0
  have hval : ∀ (j : Nat) t v, Try.f8.params[j]? = some t → args[j]? = some v → Value.okWide Try.prog W .any base t v := hval0
  have hW' := hW
  obtain ⟨p, q, hA0, hV, rfl, hfz, hnd⟩ := hW
  have hA : DataW.TrodAll enc Try.prog W 0 (fun _ => true) true Try.f8.params.toList args.toList ds p := hA0
  rw [Try.params8] at hA hval hsz1
  obtain ⟨v0, vs0, d0, ds0, p0, q0, hargs, rfl, rfl, h0, r0⟩ := trodAll_cons hA
  obtain ⟨rfl, rfl, rfl⟩ := trodAll_nil r0
  obtain rfl : args = #[v0] := by cases args; simp_all
  obtain ⟨rfl, rfl⟩ := trodVars_none hV
  obtain ⟨s, rfl, rfl, rfl, ws⟩ := open_string Try.underlying9 (hval 0 9 v0 rfl rfl) h0
  have hsz : s.size ≤ 140737488351232 := by have := sized_string hsz1 (j := 0) (t := 9) (bytes := s.data.toList) rfl rfl; rwa [len_data] at this
  clear hA0 hval0 hsz1
  simp only [List.append_nil] at hW'
  refine (walk s W hsz).mono fun e W' ⟨he, bel⟩ => ?_
  subst he
  exact ⟨_, rfl, _, _, _, [], _, [], hW', trodAll_mk1 (shut_bool Try.underlying4 _), (trodAll_cons_mk (shut_string Try.underlying9 ws) trodAll_mk0), rfl, bel.frame _, fun h => by cases h⟩

theorem over : Rows.escapePlainRow.holds Try.pinned (OpenSpec.ofChange Rows.escapePlainSpec) :=
  OpenClaim.holds_of_wide 8 Try.f8 rfl rfl rfl rfl rfl rfl rfl ⟨rfl, rfl, rfl, rfl, rfl⟩ rfl rfl rfl rfl rfl (by kernel_rfl) Try.func8 (by kernel_rfl)
    (of_decide_eq_true (by kernel_rfl)) (by unfold Func.isWrapper; first | (rw [if_pos (by decide +kernel)]; kernel_rfl) | (rw [if_neg (by decide +kernel)]; exact ⟨rfl, rfl⟩))
    (fun os started H enc _ => lifted os started H enc)

theorem proved : Rows.EscapePlainSaid :=
  over
#print axioms proved
end Go.Proofs.Ytebnobhalffalaa.escapePlain
