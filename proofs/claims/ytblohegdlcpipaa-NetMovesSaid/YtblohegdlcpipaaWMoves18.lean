/- NetMoves: any number of letters, one moved anywhere: walked. -/
import Derived.Test.YtblohegdlcpipaaURows
import Derived.Deep.CutRange
import Derived.BigRegion
set_option linter.unusedVariables false
set_option linter.unusedSimpArgs false
namespace Go.Proofs.Ytblohegdlcpipaa
open Go.RowKit

theorem hasB_no {n : Nat} {i : Int} (h : ¬ (0 ≤ i ∧ i < (n : Int))) : hasB n i = false := by
  cases hh : hasB n i with
  | false => rfl
  | true => exact absurd (hasB_iff.1 hh) h
theorem RdI.grown {w w' : World} {g n c : Nat} {l : List Nat} {row : Option Nat} (h : RdI w (some ⟨g, 0, none⟩) n c l) (hg : w.grownBy w' row) (hne : row ≠ some g) : RdI w' (some ⟨g, 0, none⟩) n c l := by
  refine ⟨h.1, h.2.1, ?_⟩
  rcases h.2.2 with h2 | ⟨x, h2, hc⟩
  · exact .inl h2
  · refine .inr ⟨x, h2, fun j z hj => ?_⟩
    cases h2
    have := hc j z hj
    rw [Addr.add_lit] at this ⊢
    exact hg.cell this (fun e => hne e.symm)

def lJ (j : Nat) : L3 := (1, 2, [UInt8.ofNat j])
def lets (l : List Nat) : List L3 := l.map lJ
theorem lets_len (l : List Nat) : (lets l).length = l.length := by simp [lets]
theorem lets_append (a b : List Nat) : lets (a ++ b) = lets a ++ lets b := by simp [lets]
/-- What the loop's append leaves. -/
def PushW (w : World) (b j : Nat) (vo : Value) (w2 : World) : Prop := OwnI w2 w.heap.size vo (List.range j) ∧ NetO w w.heap.size w2 b 0 (lets (List.range j))
def moveN (l : List Nat) (i k : Nat) : List Nat := (l.eraseIdx i).take k ++ i :: (l.eraseIdx i).drop k
theorem moveA_lets (N : Nat) {I K : Nat} (hI : I < N) (hK : K < N) : moveA (lets (List.range N)) (I : Int) (K : Int) = lets (moveN (List.range N) I K) := by
  unfold moveA
  rw [if_pos ⟨hasB_iff.2 ⟨by omega, by rw [lets_len, List.length_range]; omega⟩, hasB_iff.2 ⟨by omega, by rw [lets_len, List.length_range]; omega⟩⟩, Int.toNat_natCast, Int.toNat_natCast]
  have h1 : (lets (List.range N)).getD I (0, 0, []) = lJ I := by
    rw [List.getD_eq_getElem?_getD, lets, List.getElem?_map, List.getElem?_range hI]
    rfl
  rw [h1]
  unfold insA moveN lets
  rw [← map_erase, List.map_append, List.map_cons, List.map_take, List.map_drop]
theorem moveA_len (ls : List L3) (i k : Int) : (moveA ls i k).length = ls.length := by
  unfold moveA
  split
  · rename_i h
    obtain ⟨i0, i1⟩ := hasB_iff.1 h.1
    obtain ⟨k0, k1⟩ := hasB_iff.1 h.2
    have he : (ls.eraseIdx i.toNat).length = ls.length - 1 := by rw [List.length_eraseIdx, if_pos (by omega)]
    unfold insA
    rw [List.length_append, List.length_cons, List.length_take, List.length_drop, he]
    omega
  · rfl
theorem moveN_ok {N I K : Nat} (hI : I < N) (hK : K < N) (hN : N < 60) : (∀ z ∈ moveN (List.range N) I K, z < 60) ∧ (moveN (List.range N) I K).length = N := by
  have he : ((List.range N).eraseIdx I).length = N - 1 := by rw [List.length_eraseIdx, List.length_range, if_pos hI]
  refine ⟨fun z hz => ?_, ?_⟩
  · unfold moveN at hz
    rcases List.mem_append.1 hz with h | h
    · have := List.mem_range.1 (List.mem_of_mem_eraseIdx (List.mem_of_mem_take h)); omega
    · rcases List.mem_cons.1 h with rfl | h
      · omega
      · have := List.mem_range.1 (List.mem_of_mem_eraseIdx (List.mem_of_mem_drop h)); omega
  · unfold moveN
    rw [List.length_append, List.length_cons, List.length_take, List.length_drop, he]
    omega

set_option maxHeartbeats 16000000 in
set_option maxRecDepth 40000 in
theorem wmoves_any (n i k : Int) (hn : -9223372036854775808 ≤ n ∧ n ≤ 9223372036854775807) (w : World) : Calls Try.prog 6 #[.int .i64 n, .int .i64 i, .int .i64 k] w fun e w' => e = .returned (.bool true) ∧ Below w.heap.size w w' := by
  have HSh := ushown_any w
  have n0 := hn.1
  have n1 := hn.2
  clear hn
  go_enter Try.func6, Try.ntmps6
  go_wp2_with (fail)
  refine HSh.mono ?_
  rintro e w1 ⟨rfl, hb1⟩
  clear HSh
  have HNew : Hid (Calls Try.prog 8 #[] w1 fun e w' => ∃ b, e = .returned (nptr b) ∧ NetO w w.heap.size w' b 0 []) := onew2 hb1 hb1.size
  clear hb1
  go_wp2_with (fail)
  refine HNew.out.mono ?_
  rintro e w2 ⟨b, rfl, h2⟩
  clear HNew
  have hq : ∀ u, (binOp BinOp.eql 24 (nptr b) (.pointer none)).run Try.prog u = .ok (.bool false) u := fun u => by kernel_rfl
  have H2 : Hid (NetO w w.heap.size w2 b 0 []) := h2
  clear h2
  go_upto_if 28 with fail
  go_cut [0] from 19 to 130 (fun v0 wx => wx = w2 ∧ ∃ m : Int, v0 = .int .i64 m ∧ 0 ≤ m ∧ m ≤ 9223372036854775807)
  case first =>
    by_cases hneg : n < 0
    · have e1 : IntKind.i64.wrap (n + 1) = n + 1 := by rw [IntKind.wrap_i64]; omega
      have e2 : IntKind.i64.wrap (-(n + 1)) = -(n + 1) := by rw [IntKind.wrap_i64]; omega
      go_wp2_with (fail)
      go_meet
      case rel => exact ⟨rfl, -(n + 1), rfl, by omega, by omega⟩
    · go_wp2_with (fail)
      go_meet
      case rel => exact ⟨rfl, n, rfl, by omega, by omega⟩
  case rest =>
    obtain ⟨hw, m, rfl, m0, m1⟩ := hcut
    replace hw := hw.symm
    subst hw
    obtain ⟨N, hN⟩ : ∃ N : Nat, m % 60 = (N : Int) := ⟨(m % 60).toNat, by omega⟩
    have bN : (N : Int) < 60 := by omega
    have HN : Hid (N < 60) := by show N < 60; omega
    go_upto_region 8 with fail
    rw [hN]
    clear hN m0 m1
    go_wp2_with (fail)
    go_loopw [9, 10] (fun vw vj wr => ∃ j : Nat, vj = .int .i64 (j : Int) ∧ j ≤ N ∧ Hid (OwnI wr w.heap.size vw (List.range j)) ∧ Hid (NetO w w.heap.size wr b 0 (lets (List.range j)))) (fun _ vj _ => N - (intOf vj).toNat)
    case atStart => exact ⟨0, rfl, Nat.zero_le _, OwnI.nil _ _, H2.out⟩
    case round =>
      obtain ⟨j, rfl, hj, HW, HNt⟩ := hrel
      by_cases hlt : j < N
      · have bj : (j : Int) < (N : Int) := by omega
        have e1 : IntKind.u8.wrap (j : Int) = (j : Int) := by rw [IntKind.wrap_u8]; omega
        have e2 : IntKind.i64.wrap ((j : Int) + 1) = (j : Int) + 1 := by rw [IntKind.wrap_i64]; omega
        have HS : Hid (Calls Try.prog 12 #[nptr b, .int .i64 1, .int .i64 2, .slice (some ⟨wr.heap.size, 0, none⟩) 1 1] (wr.alloc (.cells #[.int .u8 (j : Int)] 5)) fun e w' => e = .returned (.tuple #[]) ∧ NetO w w.heap.size w' b 0 (lets (List.range (j + 1))) ∧ KT wr w') := by
          have hc : (((UInt8.ofNat j).toNat : Nat) : Int) = (j : Int) := by rw [UInt8.toNat_ofNat']; omega
          have h1 := osend1 HNt.out 1 2 (UInt8.ofNat j)
          rw [hc] at h1
          refine h1.mono ?_
          rintro e w' ⟨he, hg⟩
          have h3 := hg.1
          rw [show sendA (lets (List.range j)) 1 2 [UInt8.ofNat j] = lets (List.range (j + 1)) from by
            unfold sendA
            rw [if_pos ⟨rfl, rfl, by rw [lets_len, List.length_range]; have := HN.out; omega⟩, List.range_succ, lets_append]
            rfl] at h3
          exact ⟨he, h3, hg.2⟩
        obtain ⟨wa, wc, hv⟩ := HW.out.slice
        rw [List.length_range] at hv
        subst hv
        have HWh : Hid (OwnI wr w.heap.size (.slice wa j wc) (List.range j)) := HW.out
        clear HW HNt
        go_wp2_with (fail)
        refine HS.out.mono ?_
        rintro e wx ⟨rfl, hn, hk⟩
        have HAp : Hid (∀ ty, ∃ vo w2, (Builtin.append_ #[42, 42] ty #[.slice wa j wc, .slice (some ⟨wx.heap.size, 0, none⟩) 1 1]).run Try.prog (wx.alloc (.cells #[.int .i64 (j : Int)] 3)) = .ok vo w2 ∧ PushW w b (j + 1) vo w2) := fun ty => by
          have hb : Below wx.heap.size wx (wx.alloc (.cells #[.int .i64 (j : Int)] 3)) := (Below.refl _ _).alloc (Nat.le_refl _) _
          have hn2 := hn.below hb
          have ho := (HWh.out.kt hk).below hb
          obtain ⟨vo, w2, hr, hA⟩ := appI ho (layI wx j) (by have := HN.out; rw [List.length_range]; omega) (by obtain ⟨_, _, _, _, _, h5⟩ := hn2; exact h5) ty
          refine ⟨vo, w2, hr, ?_, hn2.appI ho hA⟩
          rw [List.range_succ]
          exact hA.1
        clear HS hn hk HWh
        go_wp2_with (refine wpList_runs rfl (.tmp 44) (.tmp 46) rfl _ _ rfl rfl _ (HAp.out _) ?_)
        intro vo w5 hA
        have HW : Hid (OwnI w5 w.heap.size vo (List.range (j + 1))) := hA.1
        have HNt : Hid (NetO w w.heap.size w5 b 0 (lets (List.range (j + 1)))) := hA.2
        clear hA HAp
        go_wp2_with (fail)
        go_roundw
        case rel => exact ⟨j + 1, by first | rfl | go_num, by omega, HW, HNt⟩
        case measure => simp [intOf]; omega
      · have hjN : j = N := by omega
        subst hjN
        clear hlt hj
        obtain ⟨M, hM⟩ : ∃ M, (hasB j i && hasB j k) = M := ⟨_, rfl⟩
        have HM : Hid ((hasB j i && hasB j k) = M) := hM
        obtain ⟨wa, wc, hv⟩ := HW.out.slice
        rw [List.length_range] at hv
        subst hv
        have HWh : Hid (OwnI wr w.heap.size (.slice wa j wc) (List.range j)) := HW.out
        have HMv : Hid (Calls Try.prog 14 #[nptr b, .int .i64 i, .int .i64 k] wr fun e w' => e = .returned (.bool M) ∧ OGo w w.heap.size wr b 0 (moveA (lets (List.range j)) i k) w') := by
          have := omove HNt.out i k
          rw [lets_len, List.length_range, hM] at this
          exact this
        clear HW HNt hM
        go_wp2_with (fail)
        refine HMv.out.mono ?_
        rintro e wx ⟨rfl, hg⟩
        have HG : Hid (NetO w w.heap.size wx b 0 (moveA (lets (List.range j)) i k) ∧ OwnI wx w.heap.size (.slice wa j wc) (List.range j)) := ⟨hg.1, HWh.out.kt hg.2⟩
        clear HMv hg HWh
        go_upto_region 15 with fail
        go_cut [12] from 19 to 130 (fun v12 wz => wz = wx ∧ v12 = .bool M)
        case first =>
          by_cases i0 : 0 ≤ i
          · by_cases i1 : i < (j : Int)
            · by_cases k0 : 0 ≤ k
              · by_cases k1 : k < (j : Int)
                · skip
                  go_wp2_with (fail)
                  go_meet
                  case rel =>
                    have hMt : M = true := by rw [← HM.out, hasB_iff.2 ⟨i0, i1⟩, hasB_iff.2 ⟨k0, k1⟩]; rfl
                    exact ⟨rfl, by rw [hMt]⟩
                · skip
                  go_wp2_with (fail)
                  go_meet
                  case rel =>
                    have hMt : M = false := by rw [← HM.out, hasB_no (n := j) (i := k) (fun h => by omega)]; simp
                    exact ⟨rfl, by rw [hMt]⟩
              · skip
                go_wp2_with (fail)
                go_meet
                case rel =>
                  have hMt : M = false := by rw [← HM.out, hasB_no (n := j) (i := k) (fun h => by omega)]; simp
                  exact ⟨rfl, by rw [hMt]⟩
            · skip
              go_wp2_with (fail)
              go_meet
              case rel =>
                have hMt : M = false := by rw [← HM.out, hasB_no (n := j) (i := i) (fun h => by omega)]; simp
                exact ⟨rfl, by rw [hMt]⟩
          · skip
            go_wp2_with (fail)
            go_meet
            case rel =>
              have hMt : M = false := by rw [← HM.out, hasB_no (n := j) (i := i) (fun h => by omega)]; simp
              exact ⟨rfl, by rw [hMt]⟩
        case rest =>
          obtain ⟨hw, rfl⟩ := hcut
          replace hw := hw.symm
          subst hw
          have qM : (M != M) = false := by simp
          have HLn : Hid (Calls Try.prog 10 #[nptr b] wx fun e w' => e = .returned (.int .i64 (j : Int)) ∧ w' = wx) := by
            have := olen HG.out.1
            rwa [moveA_len, lets_len, List.length_range] at this
          go_wp2_with (fail)
          refine HLn.out.mono ?_
          rintro e wz ⟨rfl, hw⟩
          replace hw := hw.symm
          subst hw
          clear HLn
          go_upto_if 77 with fail
          go_cut [9] from 19 to 130 (fun v9 wz => ∃ W : List Nat, Hid ((∀ z ∈ W, z < 60) ∧ W.length = j) ∧ Hid (OwnI wz w.heap.size v9 W) ∧ Hid (NetO w w.heap.size wz b 0 (lets W)))
          case first =>
            cases M with
            | false =>
              go_wp2_with (fail)
              go_meet
              case rel =>
                refine ⟨List.range j, ⟨fun z hz => by have := List.mem_range.1 hz; have := HN.out; omega, List.length_range⟩, HG.out.2, ?_⟩
                have h1 := HG.out.1
                rw [show moveA (lets (List.range j)) i k = lets (List.range j) from by
                  unfold moveA
                  rw [if_neg]
                  rintro ⟨q1, q2⟩
                  rw [lets_len, List.length_range] at q1 q2
                  have := HM.out
                  rw [q1, q2] at this
                  cases this] at h1
                exact h1
            | true =>
              obtain ⟨q1, q2⟩ := (Bool.and_eq_true _ _).mp HM.out
              obtain ⟨i0, i1⟩ := hasB_iff.1 q1
              obtain ⟨k0, k1⟩ := hasB_iff.1 q2
              obtain ⟨I, rfl⟩ : ∃ I : Nat, i = (I : Int) := ⟨i.toNat, by omega⟩
              obtain ⟨K, rfl⟩ : ∃ K : Nat, k = (K : Int) := ⟨k.toNat, by omega⟩
              have HIK : Hid (I < j ∧ K < j) := ⟨by omega, by omega⟩
              have hmv : moveA (lets (List.range j)) (I : Int) (K : Int) = lets (moveN (List.range j) I K) := moveA_lets _ HIK.out.1 HIK.out.2
              have HG1 : Hid (NetO w w.heap.size wx b 0 (lets (moveN (List.range j) I K))) := by have := HG.out.1; rwa [hmv] at this
              have ej : IntKind.i64.wrap ((I : Int) + 1) = (I : Int) + 1 := by rw [IntKind.wrap_i64]; omega
              clear hmv q1 q2 HM
              obtain ⟨g9, hwa⟩ : ∃ g9, wa = some ⟨g9, 0, none⟩ := by
                rcases HG.out.2.rd.2 with ⟨_, h0, _⟩ | h
                · have := HIK.out.1; omega
                · exact h
              subst hwa
              have HR : Hid (RdI wx (some ⟨g9, 0, none⟩) j wc (List.range j)) := HG.out.2.rd.1
              have z1 : ∀ u, (Instr.slice 42 (.slice (some ⟨g9, 0, none⟩) j wc) none (some (.int .i64 (I : Int))) none).run Try.prog u = .ok (.slice (some ⟨g9, 0, none⟩) I wc) u := fun u => toI _ j wc I (by omega) HR.out.2.1 u
              have z2 : ∀ u, (Instr.slice 42 (.slice (some ⟨g9, 0, none⟩) j wc) (some (.int .i64 ((I : Int) + 1))) none none).run Try.prog u = .ok (.slice (cutI (some ⟨g9, 0, none⟩) wc (I + 1)) (j - (I + 1)) (wc - (I + 1))) u := fun u => by
                have := fromI (some ⟨g9, 0, none⟩) j wc (I + 1) (by omega) HR.out.2.1 u
                rwa [show ((I + 1 : Nat) : Int) = (I : Int) + 1 by omega] at this
              clear HG
              go_upto_region 19 with fail
              refine regionC (fun (w' : World) => Below wx.heap.size wx w') 10 (by kernel_rfl) ?_
              (try (change wpAnyC _ _ _ _ _ _ _ _ _ (World.drew _)))
              refine nameW (fun W0 hW0 => ?_)
              have hC : Hid (Below wx.heap.size wx W0) := by
                show Below _ _ _; rw [hW0]; exact (Below.refl _ _).drew
              have HSz : Hid (W0.heap.size = wx.heap.size) := by show _ = _; rw [hW0]; rfl
              clear hW0
              refine takeC (i := 1) (v := ?_) rfl (by kernel_rfl) (by kernel_rfl) (by kernel_rfl) (by kernel_rfl) (by kernel_rfl) (fun _ _ _ h => h) hC.out (Or.inl ⟨by rfl, ?_⟩) ?_
              rotate_left 1
              · intro w' hw'
                skip
                go_simp
                first | done | with_reducible rfl | exact z1 _ | exact z2 _
              (try simp only [Act.put])
              (try simp only [List.setIfInBounds_toArray])
              (try simp only [List.set_cons_succ])
              (try simp only [List.set_cons_zero])
              refine takeC (i := 2) (v := ?_) rfl (by kernel_rfl) (by kernel_rfl) (by kernel_rfl) (by kernel_rfl) (by kernel_rfl) (fun _ _ _ h => h) hC.out (Or.inl ⟨by rfl, ?_⟩) ?_
              rotate_left 1
              · intro w' hw'
                skip
                go_simp
                first | done | with_reducible rfl | exact z1 _ | exact z2 _
              (try simp only [Act.put])
              (try simp only [List.setIfInBounds_toArray])
              (try simp only [List.set_cons_succ])
              (try simp only [List.set_cons_zero])
              refine takeC (i := 3) (v := ?_) rfl (by kernel_rfl) (by kernel_rfl) (by kernel_rfl) (by kernel_rfl) (by kernel_rfl) (fun _ _ _ h => h) hC.out (Or.inl ⟨by rfl, ?_⟩) ?_
              rotate_left 1
              · intro w' hw'
                skip
                go_simp
                first | done | with_reducible rfl | exact z1 _ | exact z2 _
              (try simp only [Act.put])
              (try simp only [List.setIfInBounds_toArray])
              (try simp only [List.set_cons_succ])
              (try simp only [List.set_cons_zero])
              refine takeC (i := 5) (v := ?_) rfl (by kernel_rfl) (by kernel_rfl) (by kernel_rfl) (by kernel_rfl) (by kernel_rfl) (fun _ _ _ h => h) hC.out (Or.inl ⟨by rfl, ?_⟩) ?_
              rotate_left 1
              · intro w' hw'
                skip
                go_simp
                first | done | with_reducible rfl | exact z1 _ | exact z2 _
              (try simp only [Act.put])
              (try simp only [List.setIfInBounds_toArray])
              (try simp only [List.set_cons_succ])
              (try simp only [List.set_cons_zero])
              refine takeC (i := 6) (v := ?_) rfl (by kernel_rfl) (by kernel_rfl) (by kernel_rfl) (by kernel_rfl) (by kernel_rfl) (fun _ _ _ h => h) hC.out (Or.inl ⟨by rfl, ?_⟩) ?_
              rotate_left 1
              · intro w' hw'
                skip
                go_simp
                first | done | with_reducible rfl | exact z1 _ | exact z2 _
              (try simp only [Act.put])
              (try simp only [List.setIfInBounds_toArray])
              (try simp only [List.set_cons_succ])
              (try simp only [List.set_cons_zero])
              refine takeC (i := 7) (v := ?_) rfl (by kernel_rfl) (by kernel_rfl) (by kernel_rfl) (by kernel_rfl) (by kernel_rfl) (fun _ _ _ h => h) hC.out (Or.inl ⟨by rfl, ?_⟩) ?_
              rotate_left 1
              · intro w' hw'
                skip
                go_simp
                first | done | with_reducible rfl | exact z1 _ | exact z2 _
              (try simp only [Act.put])
              (try simp only [List.setIfInBounds_toArray])
              (try simp only [List.set_cons_succ])
              (try simp only [List.set_cons_zero])
              refine takeC (i := 8) (v := ?_) rfl (by kernel_rfl) (by kernel_rfl) (by kernel_rfl) (by kernel_rfl) (by kernel_rfl) (fun _ _ _ h => h) hC.out (Or.inl ⟨by rfl, ?_⟩) ?_
              rotate_left 1
              · intro w' hw'
                skip
                go_simp
                first | done | with_reducible rfl | exact z1 _ | exact z2 _
              (try simp only [Act.put])
              (try simp only [List.setIfInBounds_toArray])
              (try simp only [List.set_cons_succ])
              (try simp only [List.set_cons_zero])
              refine readyC (rs := [0]) (by kernel_rfl) (by simp) ?_
              refine ReadyC.cons rfl (fun KK hK => ?_) ReadyC.nil
              have hC1 : Below wx.heap.size wx (W0.alloc (.cells #[] 3)) := hC.out.alloc hC.out.size _
              have HO1 : Hid (OwnI (W0.alloc (.cells #[] 3)) wx.heap.size (.slice (some ⟨W0.heap.size, 0, none⟩) 0 0) []) := madeI W0 _ hC.out.size
              go_simp
              refine hK _ _ (fun _ => hC1) ?_
              clear hK KK
              (try simp only [Act.put])
              (try simp only [List.setIfInBounds_toArray])
              (try simp only [List.set_cons_succ])
              (try simp only [List.set_cons_zero])
              obtain ⟨W1, hW1⟩ : ∃ W1, W1 = (W0.alloc (.cells #[] 3)) := ⟨_, rfl⟩
              rw [← hW1] at hC1 HO1 ⊢
              replace hC : Hid (Below wx.heap.size wx W1) := hC1
              have HA1 : Hid (∀ ty, ∃ vo w2, (Builtin.append_ #[42, 42] ty #[.slice (some ⟨W0.heap.size, 0, none⟩) 0 0, .slice (some ⟨g9, 0, none⟩) I wc]).run Try.prog W1 = .ok vo w2 ∧ AppI W1 wx.heap.size (.slice (some ⟨W0.heap.size, 0, none⟩) 0 0) ([] ++ (List.range j).take I) vo w2) := fun ty => appI HO1.out ((HR.out.below hC1).take I (by have := HIK.out; omega)) (by have := HIK.out; have := HN.out; simp; omega) hC1.size ty
              clear hC1 hW1
              refine readyC (rs := [4]) (by kernel_rfl) (by simp) ?_
              refine ReadyC.cons rfl (fun KK hK => ?_) ReadyC.nil
              refine stepC_runs rfl (.tmp 78) (.tmp 81) rfl _ _ rfl rfl _ (HA1.out _) ?_
              intro vo1 W2 hA
              obtain ⟨a1, c1, hv1⟩ := hA.1.slice
              have hC2 : Below wx.heap.size wx W2 := hC.out.trans hA.2.1
              have HO2 : Hid (OwnI W2 wx.heap.size vo1 ([] ++ (List.range j).take I)) := hA.1
              refine hK _ _ (fun _ => hC2) ?_
              replace hC : Hid (Below wx.heap.size wx W2) := hC2
              have HA2 : Hid (∀ ty, ∃ vo w2, (Builtin.append_ #[42, 42] ty #[vo1, .slice (cutI (some ⟨g9, 0, none⟩) wc (I + 1)) (j - (I + 1)) (wc - (I + 1))]).run Try.prog W2 = .ok vo w2 ∧ AppI W2 wx.heap.size vo1 (([] ++ (List.range j).take I) ++ (List.range j).drop (I + 1)) vo w2) := fun ty => appI HO2.out ((HR.out.below hC2).drop (I + 1) (by have := HIK.out; omega)) (by have := HIK.out; have := HN.out; simp; omega) hC2.size ty
              clear hA hC2 hK KK HA1 HO1
              (try simp only [Act.put])
              (try simp only [List.setIfInBounds_toArray])
              (try simp only [List.set_cons_succ])
              (try simp only [List.set_cons_zero])
              refine readyC (rs := [9]) (by kernel_rfl) (by simp) ?_
              refine ReadyC.cons rfl (fun KK hK => ?_) ReadyC.nil
              refine stepC_runs rfl (.tmp 82) (.tmp 86) rfl _ _ rfl rfl _ (HA2.out _) ?_
              intro vo2 W3 hA
              have hC3 : Below wx.heap.size wx W3 := hC.out.trans hA.2.1
              have HO3 : Hid (OwnI W3 w.heap.size vo2 ((List.range j).eraseIdx I)) := by
                have := hA.1
                rw [List.nil_append, ← List.eraseIdx_eq_take_drop_succ] at this
                exact this.low (by obtain ⟨_, _, _, _, _, h5⟩ := HG1.out; exact h5)
              have HG2 : Hid (NetO w w.heap.size W3 b 0 (lets (moveN (List.range j) I K))) := HG1.out.below hC3
              refine hK _ _ (fun _ => hC3) ?_
              replace hC : Hid (Below wx.heap.size wx W3) := hC3
              clear hA hC3 hK KK HA2 HO2 hv1
              (try simp only [Act.put])
              (try simp only [List.setIfInBounds_toArray])
              (try simp only [List.set_cons_succ])
              (try simp only [List.set_cons_zero])
              refine readyC (rs := [10]) (by kernel_rfl) (by simp) ?_
              refine ReadyC.cons rfl (fun KK hK => ?_) ReadyC.nil
              go_simp
              refine hK _ _ (fun _ => hC.out) ?_
              clear hK KK
              (try simp only [Act.put])
              (try simp only [List.setIfInBounds_toArray])
              (try simp only [List.set_cons_succ])
              (try simp only [List.set_cons_zero])
              refine doneC (by kernel_rfl) ?_ _
              clear hC HG1 z1 z2 HR HSz
              obtain ⟨ra, rc, hv⟩ := HO3.out.slice
              rw [List.length_eraseIdx, List.length_range, if_pos HIK.out.1] at hv
              subst hv
              have hl20 : ((List.range j).eraseIdx I).length = j - 1 := by rw [List.length_eraseIdx, List.length_range, if_pos HIK.out.1]
              have HR : Hid (RdI W3 ra (j - 1) rc ((List.range j).eraseIdx I) ∧ ((List.range j).eraseIdx I).length = j - 1) := ⟨HO3.out.rd.1, hl20⟩
              have z1 : ∀ u, (Instr.slice 42 (.slice ra (j - 1) rc) none (some (.int .i64 (K : Int))) none).run Try.prog u = .ok (.slice ra K rc) u := fun u => toI _ (j - 1) rc K (by omega) HR.out.1.2.1 u
              have z2 : ∀ u, (Instr.slice 42 (.slice ra (j - 1) rc) (some (.int .i64 (K : Int))) none none).run Try.prog u = .ok (.slice (cutI ra rc K) (j - 1 - K) (rc - K)) u := fun u => fromI ra (j - 1) rc K (by omega) HR.out.1.2.1 u
              clear hl20 HO3
              go_upto_region 20 with fail
              refine regionC (fun (w' : World) => Below W3.heap.size W3 w') 12 (by kernel_rfl) ?_
              (try (change wpAnyC _ _ _ _ _ _ _ _ _ (World.drew _)))
              refine nameW (fun W0 hW0 => ?_)
              have hC : Hid (Below W3.heap.size W3 W0) := by
                show Below _ _ _; rw [hW0]; exact (Below.refl _ _).drew
              clear hW0
              refine takeC (i := 1) (v := ?_) rfl (by kernel_rfl) (by kernel_rfl) (by kernel_rfl) (by kernel_rfl) (by kernel_rfl) (fun _ _ _ h => h) hC.out (Or.inl ⟨by rfl, ?_⟩) ?_
              rotate_left 1
              · intro w' hw'
                skip
                go_simp
                first | done | with_reducible rfl | exact z1 _ | exact z2 _
              (try simp only [Act.put])
              (try simp only [List.setIfInBounds_toArray])
              (try simp only [List.set_cons_succ])
              (try simp only [List.set_cons_zero])
              refine takeC (i := 2) (v := ?_) rfl (by kernel_rfl) (by kernel_rfl) (by kernel_rfl) (by kernel_rfl) (by kernel_rfl) (fun _ _ _ h => h) hC.out (Or.inl ⟨by rfl, ?_⟩) ?_
              rotate_left 1
              · intro w' hw'
                skip
                go_simp
                first | done | with_reducible rfl | exact z1 _ | exact z2 _
              (try simp only [Act.put])
              (try simp only [List.setIfInBounds_toArray])
              (try simp only [List.set_cons_succ])
              (try simp only [List.set_cons_zero])
              refine takeC (i := 3) (v := ?_) rfl (by kernel_rfl) (by kernel_rfl) (by kernel_rfl) (by kernel_rfl) (by kernel_rfl) (fun _ _ _ h => h) hC.out (Or.inl ⟨by rfl, ?_⟩) ?_
              rotate_left 1
              · intro w' hw'
                skip
                go_simp
                first | done | with_reducible rfl | exact z1 _ | exact z2 _
              (try simp only [Act.put])
              (try simp only [List.setIfInBounds_toArray])
              (try simp only [List.set_cons_succ])
              (try simp only [List.set_cons_zero])
              refine takeC (i := 5) (v := ?_) rfl (by kernel_rfl) (by kernel_rfl) (by kernel_rfl) (by kernel_rfl) (by kernel_rfl) (fun _ _ _ h => h) hC.out (Or.inl ⟨by rfl, ?_⟩) ?_
              rotate_left 1
              · intro w' hw'
                skip
                go_simp
                first | done | with_reducible rfl | exact z1 _ | exact z2 _
              (try simp only [Act.put])
              (try simp only [List.setIfInBounds_toArray])
              (try simp only [List.set_cons_succ])
              (try simp only [List.set_cons_zero])
              refine takeC (i := 8) (v := ?_) rfl (by kernel_rfl) (by kernel_rfl) (by kernel_rfl) (by kernel_rfl) (by kernel_rfl) (fun _ _ _ h => h) hC.out (Or.inl ⟨by rfl, ?_⟩) ?_
              rotate_left 1
              · intro w' hw'
                skip
                go_simp
                first | done | with_reducible rfl | exact z1 _ | exact z2 _
              (try simp only [Act.put])
              (try simp only [List.setIfInBounds_toArray])
              (try simp only [List.set_cons_succ])
              (try simp only [List.set_cons_zero])
              refine takeC (i := 9) (v := ?_) rfl (by kernel_rfl) (by kernel_rfl) (by kernel_rfl) (by kernel_rfl) (by kernel_rfl) (fun _ _ _ h => h) hC.out (Or.inl ⟨by rfl, ?_⟩) ?_
              rotate_left 1
              · intro w' hw'
                skip
                go_simp
                first | done | with_reducible rfl | exact z1 _ | exact z2 _
              (try simp only [Act.put])
              (try simp only [List.setIfInBounds_toArray])
              (try simp only [List.set_cons_succ])
              (try simp only [List.set_cons_zero])
              refine takeC (i := 10) (v := ?_) rfl (by kernel_rfl) (by kernel_rfl) (by kernel_rfl) (by kernel_rfl) (by kernel_rfl) (fun _ _ _ h => h) hC.out (Or.inl ⟨by rfl, ?_⟩) ?_
              rotate_left 1
              · intro w' hw'
                skip
                go_simp
                first | done | with_reducible rfl | exact z1 _ | exact z2 _
              (try simp only [Act.put])
              (try simp only [List.setIfInBounds_toArray])
              (try simp only [List.set_cons_succ])
              (try simp only [List.set_cons_zero])
              refine readyC (rs := [0, 6]) (by kernel_rfl) (by simp) ?_
              refine ReadyC.cons rfl (fun KK hK => ?_) (ReadyC.cons rfl (fun KK hK => ?_) ReadyC.nil)
              · have hC1 : Below W3.heap.size W3 (W0.alloc (.cells #[] 3)) := hC.out.alloc hC.out.size _
                have HO0 : Hid (OwnI (W0.alloc (.cells #[] 3)) W3.heap.size (.slice (some ⟨W0.heap.size, 0, none⟩) 0 0) []) := madeI W0 _ hC.out.size
                go_simp
                refine hK _ _ (fun _ => hC1) ?_
                clear hK KK
                (try simp only [Act.put])
                (try simp only [List.setIfInBounds_toArray])
                (try simp only [List.set_cons_succ])
                (try simp only [List.set_cons_zero])
                obtain ⟨V1, hV1⟩ : ∃ V1, V1 = (W0.alloc (.cells #[] 3)) := ⟨_, rfl⟩
                rw [← hV1] at hC1 HO0 ⊢
                replace hC : Hid (Below W3.heap.size W3 V1) := hC1
                clear hC1 hV1
                refine readyC (rs := [4, 6]) (by kernel_rfl) (by simp) ?_
                refine ReadyC.cons rfl (fun KK hK => ?_) (ReadyC.cons rfl (fun KK hK => ?_) ReadyC.nil)
                · have HAp : Hid (∀ ty, ∃ vo w2, (Builtin.append_ #[42, 42] ty #[.slice (some ⟨W0.heap.size, 0, none⟩) 0 0, .slice ra K rc]).run Try.prog V1 = .ok vo w2 ∧ AppI V1 W3.heap.size (.slice (some ⟨W0.heap.size, 0, none⟩) 0 0) ([] ++ ((List.range j).eraseIdx I).take K) vo w2) := fun ty => appI HO0.out ((HR.out.1.below hC.out).take K (by have := HIK.out; omega)) (by have := HIK.out; have := HN.out; simp; omega) hC.out.size ty
                  refine stepC_runs rfl (.tmp 88) (.tmp 91) rfl _ _ rfl rfl _ (HAp.out _) ?_
                  intro vo1 V2 hA
                  have hC2 : Below W3.heap.size W3 V2 := hC.out.trans hA.2.1
                  have HO4 : Hid (OwnI V2 W3.heap.size vo1 ([] ++ ((List.range j).eraseIdx I).take K)) := hA.1
                  refine hK _ _ (fun _ => hC2) ?_
                  replace hC : Hid (Below W3.heap.size W3 V2) := hC2
                  clear hA hC2 hK KK HAp HO0
                  (try simp only [Act.put])
                  (try simp only [List.setIfInBounds_toArray])
                  (try simp only [List.set_cons_succ])
                  (try simp only [List.set_cons_zero])
                  refine readyC (rs := [6]) (by kernel_rfl) (by simp) ?_
                  refine ReadyC.cons rfl (fun KK hK => ?_) ReadyC.nil
                  have hC1 : Below W3.heap.size W3 (V2.alloc (.cells #[.int .i64 (I : Int)] 3)) := hC.out.alloc hC.out.size _
                  have HLy : Hid (RdI (V2.alloc (.cells #[.int .i64 (I : Int)] 3)) (some ⟨V2.heap.size, 0, none⟩) 1 1 [I] ∧ V2.heap.size < (V2.alloc (.cells #[.int .i64 (I : Int)] 3)).heap.size) := ⟨layI V2 I, by simp⟩
                  have HO42 : Hid (OwnI (V2.alloc (.cells #[.int .i64 (I : Int)] 3)) W3.heap.size vo1 ([] ++ ((List.range j).eraseIdx I).take K)) := HO4.out.below ((Below.refl _ _).alloc (Nat.le_refl _) _)
                  go_simp
                  refine hK _ _ (fun _ => hC1) ?_
                  clear hK KK
                  (try simp only [Act.put])
                  (try simp only [List.setIfInBounds_toArray])
                  (try simp only [List.set_cons_succ])
                  (try simp only [List.set_cons_zero])
                  obtain ⟨V3, hV3⟩ : ∃ V3, V3 = (V2.alloc (.cells #[.int .i64 (I : Int)] 3)) := ⟨_, rfl⟩
                  rw [← hV3] at hC1 HLy HO42 ⊢
                  replace hC : Hid (Below W3.heap.size W3 V3) := hC1
                  clear hC1 hV3
                  replace HO4 := HO42
                  refine readyC (rs := [7]) (by kernel_rfl) (by simp) ?_
                  refine ReadyC.cons rfl (fun KK hK => ?_) ReadyC.nil
                  have HAp : Hid (∀ ty, ∃ vo w2, (Builtin.append_ #[42, 42] ty #[vo1, .slice (some ⟨V2.heap.size, 0, none⟩) 1 1]).run Try.prog V3 = .ok vo w2 ∧ AppI V3 W3.heap.size vo1 (([] ++ ((List.range j).eraseIdx I).take K) ++ [I]) vo w2) := fun ty => appI HO4.out HLy.out.1 (by have := HIK.out; have := HN.out; have := HR.out.2; simp; omega) hC.out.size ty
                  refine stepC_runs rfl (.tmp 92) (.tmp 94) rfl _ _ rfl rfl _ (HAp.out _) ?_
                  intro vo2 V4 hA
                  have hC2 : Below W3.heap.size W3 V4 := hC.out.trans hA.2.1
                  have HO7 : Hid (OwnI V4 W3.heap.size vo2 (([] ++ ((List.range j).eraseIdx I).take K) ++ [I])) := hA.1
                  refine hK _ _ (fun _ => hC2) ?_
                  replace hC : Hid (Below W3.heap.size W3 V4) := hC2
                  clear hA hC2 hK KK HAp HO4
                  (try simp only [Act.put])
                  (try simp only [List.setIfInBounds_toArray])
                  (try simp only [List.set_cons_succ])
                  (try simp only [List.set_cons_zero])
                  refine readyC (rs := [11]) (by kernel_rfl) (by simp) ?_
                  refine ReadyC.cons rfl (fun KK hK => ?_) ReadyC.nil
                  have HAp : Hid (∀ ty, ∃ vo w2, (Builtin.append_ #[42, 42] ty #[vo2, .slice (cutI ra rc K) (j - 1 - K) (rc - K)]).run Try.prog V4 = .ok vo w2 ∧ AppI V4 W3.heap.size vo2 ((([] ++ ((List.range j).eraseIdx I).take K) ++ [I]) ++ ((List.range j).eraseIdx I).drop K) vo w2) := fun ty => appI HO7.out ((HR.out.1.below hC.out).drop K (by have := HIK.out; omega)) (by have := HIK.out; have := HN.out; have := HR.out.2; simp; omega) hC.out.size ty
                  refine stepC_runs rfl (.tmp 95) (.tmp 98) rfl _ _ rfl rfl _ (HAp.out _) ?_
                  intro vo3 V5 hA
                  have hC2 : Below W3.heap.size W3 V5 := hC.out.trans hA.2.1
                  have HO8 : Hid (OwnI V5 w.heap.size vo3 (moveN (List.range j) I K) ∧ NetO w w.heap.size V5 b 0 (lets (moveN (List.range j) I K))) := by
                    have h8 := hA.1
                    rw [List.nil_append, List.append_assoc, List.singleton_append] at h8
                    exact ⟨h8.low (by obtain ⟨_, _, _, _, _, h5⟩ := HG2.out; exact h5), HG2.out.below hC2⟩
                  refine hK _ _ (fun _ => hC2) ?_
                  replace hC : Hid (Below W3.heap.size W3 V5) := hC2
                  clear hA hC2 hK KK HAp HO7
                  (try simp only [Act.put])
                  (try simp only [List.setIfInBounds_toArray])
                  (try simp only [List.set_cons_succ])
                  (try simp only [List.set_cons_zero])
                  refine readyC (rs := [12]) (by kernel_rfl) (by simp) ?_
                  refine ReadyC.cons rfl (fun KK hK => ?_) ReadyC.nil
                  go_simp
                  refine hK _ _ (fun h => absurd rfl h) ?_
                  clear hK KK
                  (try simp only [Act.put])
                  (try simp only [List.setIfInBounds_toArray])
                  (try simp only [List.set_cons_succ])
                  (try simp only [List.set_cons_zero])
                  refine doneC (by kernel_rfl) ?_ _
                  go_wp2_with (fail)
                  go_meet
                  case rel => exact ⟨moveN (List.range j) I K, moveN_ok HIK.out.1 HIK.out.2 HN.out, HO8.out.1, HO8.out.2⟩
                · have hC1 : Below W3.heap.size W3 (V1.alloc (.cells #[.int .i64 (I : Int)] 3)) := hC.out.alloc hC.out.size _
                  have HLy : Hid (RdI (V1.alloc (.cells #[.int .i64 (I : Int)] 3)) (some ⟨V1.heap.size, 0, none⟩) 1 1 [I] ∧ V1.heap.size < (V1.alloc (.cells #[.int .i64 (I : Int)] 3)).heap.size) := ⟨layI V1 I, by simp⟩
                  have HO02 : Hid (OwnI (V1.alloc (.cells #[.int .i64 (I : Int)] 3)) W3.heap.size (.slice (some ⟨W0.heap.size, 0, none⟩) 0 0) []) := HO0.out.below ((Below.refl _ _).alloc (Nat.le_refl _) _)
                  have HLn : Hid (V1.heap.size ≠ W0.heap.size) := by
                    obtain ⟨_, cur, hc⟩ := HO0.out.block (g := W0.heap.size) rfl
                    have := lt_blk hc
                    show _ ≠ _
                    omega
                  go_simp
                  refine hK _ _ (fun _ => hC1) ?_
                  clear hK KK
                  (try simp only [Act.put])
                  (try simp only [List.setIfInBounds_toArray])
                  (try simp only [List.set_cons_succ])
                  (try simp only [List.set_cons_zero])
                  obtain ⟨V7, hV7⟩ : ∃ V7, V7 = (V1.alloc (.cells #[.int .i64 (I : Int)] 3)) := ⟨_, rfl⟩
                  rw [← hV7] at hC1 HLy HO02 ⊢
                  replace hC : Hid (Below W3.heap.size W3 V7) := hC1
                  clear hC1 hV7
                  replace HO0 := HO02
                  refine readyC (rs := [4]) (by kernel_rfl) (by simp) ?_
                  refine ReadyC.cons rfl (fun KK hK => ?_) ReadyC.nil
                  have HAp : Hid (∀ ty, ∃ vo w2, (Builtin.append_ #[42, 42] ty #[.slice (some ⟨W0.heap.size, 0, none⟩) 0 0, .slice ra K rc]).run Try.prog V7 = .ok vo w2 ∧ AppI V7 W3.heap.size (.slice (some ⟨W0.heap.size, 0, none⟩) 0 0) ([] ++ ((List.range j).eraseIdx I).take K) vo w2) := fun ty => appI HO0.out ((HR.out.1.below hC.out).take K (by have := HIK.out; omega)) (by have := HIK.out; have := HN.out; simp; omega) hC.out.size ty
                  refine stepC_runs rfl (.tmp 88) (.tmp 91) rfl _ _ rfl rfl _ (HAp.out _) ?_
                  intro vo1 V8 hA
                  have hC2 : Below W3.heap.size W3 V8 := hC.out.trans hA.2.1
                  have HO4 : Hid (OwnI V8 W3.heap.size vo1 ([] ++ ((List.range j).eraseIdx I).take K)) := hA.1
                  replace HLy : Hid (RdI V8 (some ⟨V1.heap.size, 0, none⟩) 1 1 [I] ∧ V1.heap.size < V8.heap.size) := ⟨HLy.out.1.grown hA.2.2 (fun e => HLn.out (Option.some.inj e).symm), by have := HLy.out.2; have := hA.2.1.size; have := hA.2.2.size; omega⟩
                  refine hK _ _ (fun _ => hC2) ?_
                  replace hC : Hid (Below W3.heap.size W3 V8) := hC2
                  clear hA hC2 hK KK HAp HO0
                  (try simp only [Act.put])
                  (try simp only [List.setIfInBounds_toArray])
                  (try simp only [List.set_cons_succ])
                  (try simp only [List.set_cons_zero])
                  refine readyC (rs := [7]) (by kernel_rfl) (by simp) ?_
                  refine ReadyC.cons rfl (fun KK hK => ?_) ReadyC.nil
                  have HAp : Hid (∀ ty, ∃ vo w2, (Builtin.append_ #[42, 42] ty #[vo1, .slice (some ⟨V1.heap.size, 0, none⟩) 1 1]).run Try.prog V8 = .ok vo w2 ∧ AppI V8 W3.heap.size vo1 (([] ++ ((List.range j).eraseIdx I).take K) ++ [I]) vo w2) := fun ty => appI HO4.out HLy.out.1 (by have := HIK.out; have := HN.out; have := HR.out.2; simp; omega) hC.out.size ty
                  refine stepC_runs rfl (.tmp 92) (.tmp 94) rfl _ _ rfl rfl _ (HAp.out _) ?_
                  intro vo2 V9 hA
                  have hC2 : Below W3.heap.size W3 V9 := hC.out.trans hA.2.1
                  have HO7 : Hid (OwnI V9 W3.heap.size vo2 (([] ++ ((List.range j).eraseIdx I).take K) ++ [I])) := hA.1
                  refine hK _ _ (fun _ => hC2) ?_
                  replace hC : Hid (Below W3.heap.size W3 V9) := hC2
                  clear hA hC2 hK KK HAp HO4
                  (try simp only [Act.put])
                  (try simp only [List.setIfInBounds_toArray])
                  (try simp only [List.set_cons_succ])
                  (try simp only [List.set_cons_zero])
                  refine readyC (rs := [11]) (by kernel_rfl) (by simp) ?_
                  refine ReadyC.cons rfl (fun KK hK => ?_) ReadyC.nil
                  have HAp : Hid (∀ ty, ∃ vo w2, (Builtin.append_ #[42, 42] ty #[vo2, .slice (cutI ra rc K) (j - 1 - K) (rc - K)]).run Try.prog V9 = .ok vo w2 ∧ AppI V9 W3.heap.size vo2 ((([] ++ ((List.range j).eraseIdx I).take K) ++ [I]) ++ ((List.range j).eraseIdx I).drop K) vo w2) := fun ty => appI HO7.out ((HR.out.1.below hC.out).drop K (by have := HIK.out; omega)) (by have := HIK.out; have := HN.out; have := HR.out.2; simp; omega) hC.out.size ty
                  refine stepC_runs rfl (.tmp 95) (.tmp 98) rfl _ _ rfl rfl _ (HAp.out _) ?_
                  intro vo3 V10 hA
                  have hC2 : Below W3.heap.size W3 V10 := hC.out.trans hA.2.1
                  have HO8 : Hid (OwnI V10 w.heap.size vo3 (moveN (List.range j) I K) ∧ NetO w w.heap.size V10 b 0 (lets (moveN (List.range j) I K))) := by
                    have h8 := hA.1
                    rw [List.nil_append, List.append_assoc, List.singleton_append] at h8
                    exact ⟨h8.low (by obtain ⟨_, _, _, _, _, h5⟩ := HG2.out; exact h5), HG2.out.below hC2⟩
                  refine hK _ _ (fun _ => hC2) ?_
                  replace hC : Hid (Below W3.heap.size W3 V10) := hC2
                  clear hA hC2 hK KK HAp HO7
                  (try simp only [Act.put])
                  (try simp only [List.setIfInBounds_toArray])
                  (try simp only [List.set_cons_succ])
                  (try simp only [List.set_cons_zero])
                  refine readyC (rs := [12]) (by kernel_rfl) (by simp) ?_
                  refine ReadyC.cons rfl (fun KK hK => ?_) ReadyC.nil
                  go_simp
                  refine hK _ _ (fun h => absurd rfl h) ?_
                  clear hK KK
                  (try simp only [Act.put])
                  (try simp only [List.setIfInBounds_toArray])
                  (try simp only [List.set_cons_succ])
                  (try simp only [List.set_cons_zero])
                  refine doneC (by kernel_rfl) ?_ _
                  go_wp2_with (fail)
                  go_meet
                  case rel => exact ⟨moveN (List.range j) I K, moveN_ok HIK.out.1 HIK.out.2 HN.out, HO8.out.1, HO8.out.2⟩
              · have hC1 : Below W3.heap.size W3 (W0.alloc (.cells #[.int .i64 (I : Int)] 3)) := hC.out.alloc hC.out.size _
                have HLy : Hid (RdI (W0.alloc (.cells #[.int .i64 (I : Int)] 3)) (some ⟨W0.heap.size, 0, none⟩) 1 1 [I] ∧ W0.heap.size < (W0.alloc (.cells #[.int .i64 (I : Int)] 3)).heap.size) := ⟨layI W0 I, by simp⟩
                go_simp
                refine hK _ _ (fun _ => hC1) ?_
                clear hK KK
                (try simp only [Act.put])
                (try simp only [List.setIfInBounds_toArray])
                (try simp only [List.set_cons_succ])
                (try simp only [List.set_cons_zero])
                obtain ⟨V12, hV12⟩ : ∃ V12, V12 = (W0.alloc (.cells #[.int .i64 (I : Int)] 3)) := ⟨_, rfl⟩
                rw [← hV12] at hC1 HLy ⊢
                replace hC : Hid (Below W3.heap.size W3 V12) := hC1
                clear hC1 hV12
                refine readyC (rs := [0]) (by kernel_rfl) (by simp) ?_
                refine ReadyC.cons rfl (fun KK hK => ?_) ReadyC.nil
                have hC1 : Below W3.heap.size W3 (V12.alloc (.cells #[] 3)) := hC.out.alloc hC.out.size _
                have HO0 : Hid (OwnI (V12.alloc (.cells #[] 3)) W3.heap.size (.slice (some ⟨V12.heap.size, 0, none⟩) 0 0) []) := madeI V12 _ hC.out.size
                have HLy2 : Hid (RdI (V12.alloc (.cells #[] 3)) (some ⟨W0.heap.size, 0, none⟩) 1 1 [I] ∧ W0.heap.size ≠ V12.heap.size) := ⟨HLy.out.1.below ((Below.refl _ _).alloc (Nat.le_refl _) _), by have := HLy.out.2; omega⟩
                go_simp
                refine hK _ _ (fun _ => hC1) ?_
                clear hK KK
                (try simp only [Act.put])
                (try simp only [List.setIfInBounds_toArray])
                (try simp only [List.set_cons_succ])
                (try simp only [List.set_cons_zero])
                obtain ⟨V13, hV13⟩ : ∃ V13, V13 = (V12.alloc (.cells #[] 3)) := ⟨_, rfl⟩
                rw [← hV13] at hC1 HO0 HLy2 ⊢
                replace HLy : Hid (RdI V13 (some ⟨W0.heap.size, 0, none⟩) 1 1 [I] ∧ W0.heap.size < V13.heap.size) := ⟨HLy2.out.1, by have h := HLy.out.2; have hb : Below V12.heap.size V12 V13 := (by rw [hV13]; exact (Below.refl _ _).alloc (Nat.le_refl _) _); have := hb.size; omega⟩
                have HLn : Hid (W0.heap.size ≠ V12.heap.size) := HLy2.out.2
                replace hC : Hid (Below W3.heap.size W3 V13) := hC1
                clear hC1 hV13
                refine readyC (rs := [4]) (by kernel_rfl) (by simp) ?_
                refine ReadyC.cons rfl (fun KK hK => ?_) ReadyC.nil
                have HAp : Hid (∀ ty, ∃ vo w2, (Builtin.append_ #[42, 42] ty #[.slice (some ⟨V12.heap.size, 0, none⟩) 0 0, .slice ra K rc]).run Try.prog V13 = .ok vo w2 ∧ AppI V13 W3.heap.size (.slice (some ⟨V12.heap.size, 0, none⟩) 0 0) ([] ++ ((List.range j).eraseIdx I).take K) vo w2) := fun ty => appI HO0.out ((HR.out.1.below hC.out).take K (by have := HIK.out; omega)) (by have := HIK.out; have := HN.out; simp; omega) hC.out.size ty
                refine stepC_runs rfl (.tmp 88) (.tmp 91) rfl _ _ rfl rfl _ (HAp.out _) ?_
                intro vo1 V14 hA
                have hC2 : Below W3.heap.size W3 V14 := hC.out.trans hA.2.1
                have HO4 : Hid (OwnI V14 W3.heap.size vo1 ([] ++ ((List.range j).eraseIdx I).take K)) := hA.1
                replace HLy : Hid (RdI V14 (some ⟨W0.heap.size, 0, none⟩) 1 1 [I] ∧ W0.heap.size < V14.heap.size) := ⟨HLy.out.1.grown hA.2.2 (fun e => HLn.out (Option.some.inj e).symm), by have := HLy.out.2; have := hA.2.1.size; have := hA.2.2.size; omega⟩
                refine hK _ _ (fun _ => hC2) ?_
                replace hC : Hid (Below W3.heap.size W3 V14) := hC2
                clear hA hC2 hK KK HAp HO0
                (try simp only [Act.put])
                (try simp only [List.setIfInBounds_toArray])
                (try simp only [List.set_cons_succ])
                (try simp only [List.set_cons_zero])
                refine readyC (rs := [7]) (by kernel_rfl) (by simp) ?_
                refine ReadyC.cons rfl (fun KK hK => ?_) ReadyC.nil
                have HAp : Hid (∀ ty, ∃ vo w2, (Builtin.append_ #[42, 42] ty #[vo1, .slice (some ⟨W0.heap.size, 0, none⟩) 1 1]).run Try.prog V14 = .ok vo w2 ∧ AppI V14 W3.heap.size vo1 (([] ++ ((List.range j).eraseIdx I).take K) ++ [I]) vo w2) := fun ty => appI HO4.out HLy.out.1 (by have := HIK.out; have := HN.out; have := HR.out.2; simp; omega) hC.out.size ty
                refine stepC_runs rfl (.tmp 92) (.tmp 94) rfl _ _ rfl rfl _ (HAp.out _) ?_
                intro vo2 V15 hA
                have hC2 : Below W3.heap.size W3 V15 := hC.out.trans hA.2.1
                have HO7 : Hid (OwnI V15 W3.heap.size vo2 (([] ++ ((List.range j).eraseIdx I).take K) ++ [I])) := hA.1
                refine hK _ _ (fun _ => hC2) ?_
                replace hC : Hid (Below W3.heap.size W3 V15) := hC2
                clear hA hC2 hK KK HAp HO4
                (try simp only [Act.put])
                (try simp only [List.setIfInBounds_toArray])
                (try simp only [List.set_cons_succ])
                (try simp only [List.set_cons_zero])
                refine readyC (rs := [11]) (by kernel_rfl) (by simp) ?_
                refine ReadyC.cons rfl (fun KK hK => ?_) ReadyC.nil
                have HAp : Hid (∀ ty, ∃ vo w2, (Builtin.append_ #[42, 42] ty #[vo2, .slice (cutI ra rc K) (j - 1 - K) (rc - K)]).run Try.prog V15 = .ok vo w2 ∧ AppI V15 W3.heap.size vo2 ((([] ++ ((List.range j).eraseIdx I).take K) ++ [I]) ++ ((List.range j).eraseIdx I).drop K) vo w2) := fun ty => appI HO7.out ((HR.out.1.below hC.out).drop K (by have := HIK.out; omega)) (by have := HIK.out; have := HN.out; have := HR.out.2; simp; omega) hC.out.size ty
                refine stepC_runs rfl (.tmp 95) (.tmp 98) rfl _ _ rfl rfl _ (HAp.out _) ?_
                intro vo3 V16 hA
                have hC2 : Below W3.heap.size W3 V16 := hC.out.trans hA.2.1
                have HO8 : Hid (OwnI V16 w.heap.size vo3 (moveN (List.range j) I K) ∧ NetO w w.heap.size V16 b 0 (lets (moveN (List.range j) I K))) := by
                  have h8 := hA.1
                  rw [List.nil_append, List.append_assoc, List.singleton_append] at h8
                  exact ⟨h8.low (by obtain ⟨_, _, _, _, _, h5⟩ := HG2.out; exact h5), HG2.out.below hC2⟩
                refine hK _ _ (fun _ => hC2) ?_
                replace hC : Hid (Below W3.heap.size W3 V16) := hC2
                clear hA hC2 hK KK HAp HO7
                (try simp only [Act.put])
                (try simp only [List.setIfInBounds_toArray])
                (try simp only [List.set_cons_succ])
                (try simp only [List.set_cons_zero])
                refine readyC (rs := [12]) (by kernel_rfl) (by simp) ?_
                refine ReadyC.cons rfl (fun KK hK => ?_) ReadyC.nil
                go_simp
                refine hK _ _ (fun h => absurd rfl h) ?_
                clear hK KK
                (try simp only [Act.put])
                (try simp only [List.setIfInBounds_toArray])
                (try simp only [List.set_cons_succ])
                (try simp only [List.set_cons_zero])
                refine doneC (by kernel_rfl) ?_ _
                go_wp2_with (fail)
                go_meet
                case rel => exact ⟨moveN (List.range j) I K, moveN_ok HIK.out.1 HIK.out.2 HN.out, HO8.out.1, HO8.out.2⟩
          case rest =>
            obtain ⟨W, HWl, HWo, HWn⟩ := hcut
            obtain ⟨wa, wc, hv⟩ := HWo.out.slice
            rw [HWl.out.2] at hv
            subst hv
            clear HG HM qM
            go_wp2_with (fail)
            go_loopw [14] (fun vj wr => ∃ q : Nat, vj = .int .i64 (q : Int) ∧ q ≤ j ∧ Hid (OwnI wr w.heap.size (.slice wa j wc) W ∧ NetO w w.heap.size wr b 0 (lets W))) (fun vj _ => j - (intOf vj).toNat)
            case atStart => exact ⟨0, rfl, Nat.zero_le _, HWo.out, HWn.out⟩
            case round =>
              obtain ⟨q, rfl, hq', HB⟩ := hrel
              by_cases hlt : q < j
              · obtain ⟨z, hz⟩ : ∃ z, W[q]? = some z := ⟨W[q]'(by have := HWl.out.2; omega), List.getElem?_eq_getElem _⟩
                have hzl := HWl.out.1 z (List.mem_of_getElem? hz)
                have HLk : Hid (Calls Try.prog 11 #[nptr b, .int .i64 (q : Int)] wr fun e w' => ∃ a c, e = .returned (.tuple #[.int .i64 1, .int .i64 2, .slice a 1 c, .bool true]) ∧ (∃ x, a = some x ∧ w'.cell? x = some (.int .u8 (z : Int))) ∧ OwnI w' w.heap.size (.slice wa j wc) W ∧ NetO w w.heap.size w' b 0 (lets W)) := by
                  refine (olook HB.out.2 (j := q) (y := lJ z) (by rw [lets, List.getElem?_map, hz]; rfl)).mono ?_
                  rintro e w' ⟨a, c, he, ho, hg, hb⟩
                  refine ⟨a, c, he, ?_, HB.out.1.below hb, hg.1⟩
                  obtain ⟨x, hx, hcx⟩ := (own_brow ho).at 0 (by simp [lJ])
                  refine ⟨x, hx, ?_⟩
                  rw [Addr.add_zero'] at hcx
                  rw [hcx]
                  simp only [lJ, List.getD_cons_zero, UInt8.toNat_ofNat']
                  congr 3
                  omega
                have bq : (q : Int) < (j : Int) := by omega
                have HZ : Hid (W[q]? = some z) := hz
                have HB1 : Hid (OwnI wr w.heap.size (.slice wa j wc) W ∧ NetO w w.heap.size wr b 0 (lets W)) := HB.out
                have e3 : IntKind.i64.wrap (z : Int) = (z : Int) := by rw [IntKind.wrap_i64]; omega
                have e4 : ((z : Int) != (z : Int)) = false := by simp
                have e5 : IntKind.i64.wrap ((q : Int) + 1) = (q : Int) + 1 := by rw [IntKind.wrap_i64]; omega
                clear hz hzl HB
                go_wp2_with (fail)
                refine HLk.out.mono ?_
                rintro e wy ⟨a, c, rfl, ⟨x, rfl, hcx⟩, ho, hn⟩
                obtain ⟨g, hwa, hcw⟩ := ho.at HZ.out
                subst hwa
                unfold cI at hcw
                have HB2 : Hid (OwnI wy w.heap.size (.slice (some ⟨g, 0, none⟩) j wc) W ∧ NetO w w.heap.size wy b 0 (lets W)) := ⟨ho, hn⟩
                clear ho hn HLk HB1
                go_upto_region 25 with fail
                go_big_region
                go_wp2_with (fail)
                go_roundw
                case rel => exact ⟨q + 1, by first | rfl | go_num, by omega, HB2.out.1.below (Below.refl _ _).drew, HB2.out.2.below (Below.refl _ _).drew⟩
                case measure => simp [intOf]; omega
              · have HF : Hid (Below w.heap.size w wr) := HB.out.2.bel
                have hqj : q = j := by omega
                subst hqj
                clear hlt hq' HB HWo HWn
                go_wp2
                go_ret
                exact ⟨rfl, HF.out⟩
end Go.Proofs.Ytblohegdlcpipaa
