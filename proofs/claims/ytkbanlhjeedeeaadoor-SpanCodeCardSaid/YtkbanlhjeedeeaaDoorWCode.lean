/- SpanCode, walked: code means what stands in it. -/
import Derived.Test.YtkbanlhjeedeeaaDoorSOwn
set_option linter.unusedVariables false
namespace Go.Proofs.YtkbanlhjeedeeaaDoor.spanCode
open Go.RowKit

theorem HSl_blank (w : World) {r S : ByteArray} {l : List UInt8} (hr : r.data.toList = List.replicate r.size 96) (h0 : 0 < r.size) (h9 : r.size ≤ 9) (hS : S.data.toList = l) (hl : ∀ c ∈ l, c ≠ 96 ∧ c ≠ 10) (h2 : l.length ≤ 2000) (hb : l.all (· == 32) = true) :
    Ans w 10 #[.string (r ++ ByteArray.mk #[32] ++ S ++ ByteArray.mk #[32] ++ r)] (.tuple #[.string (ByteArray.mk #[32] ++ S ++ ByteArray.mk #[32]), .int .i64 ((S.size : Int) + 2 + 2 * (r.size : Int))]) := by
  have hs : S.size = l.length := by rw [← len_data, hS]
  have e32 : (ByteArray.mk #[32]).data.toList = [32] := rfl
  refine ans_between w h0 h9 (t := 32 :: (l ++ [32])) ?_ (by simp) (by simp; omega) ?_ ?_ ?_
  · intro c hc
    simp only [List.mem_cons, List.mem_append, List.not_mem_nil, or_false] at hc
    rcases hc with rfl | hc | rfl
    · decide
    · exact (hl c hc).1
    · decide
  · simp only [app_data, hr, hS, List.append_assoc, List.cons_append, List.nil_append]
  · rw [inner_blanks l (fun c hc => (hl c hc).2), if_pos hb]
    simp only [app_data, hS, List.cons_append, List.nil_append]
  · simp; omega

theorem HSl_fin (w : World) {r S : ByteArray} {l : List UInt8} (hr : r.data.toList = List.replicate r.size 96) (h0 : 0 < r.size) (h9 : r.size ≤ 9) (hS : S.data.toList = l) (hl : ∀ c ∈ l, c ≠ 96 ∧ c ≠ 10) (h2 : l.length ≤ 2000) (hb : l.all (· == 32) = false) :
    ∃ (h : 0 < S.size) (A2 : ByteArray), Ans w 10 #[.string (r ++ ByteArray.mk #[32] ++ S ++ ByteArray.mk #[32] ++ r)] (.tuple #[.string S, .int .i64 ((S.size : Int) + 2 + 2 * (r.size : Int))]) ∧
      Ans w 10 #[.string (r ++ S ++ r)] (.tuple #[.string A2, .int .i64 ((S.size : Int) + 2 * (r.size : Int))]) ∧ (S[0].toNat = 32 → (S[S.size - 1]).toNat = 32 → A2 = S.extract 1 (S.size - 1) ∧ 1 < S.size) ∧ ((S[0].toNat ≠ 32 ∨ (S[S.size - 1]).toNat ≠ 32) → A2 = S) ∧ True ∧ True := by
  have hs : S.size = l.length := by rw [← len_data, hS]
  have e32 : (ByteArray.mk #[32]).data.toList = [32] := rfl
  have hne : l ≠ [] := by rintro rfl; cases hb
  have hpos : 0 < S.size := by rw [hs]; exact List.length_pos_iff.2 hne
  have hfi := first_byte S hpos
  have hla := last_byte S hpos
  rw [hS] at hfi hla
  have hpl := inner_plain l (fun c hc => (hl c hc).2)
  have a1 : Ans w 10 #[.string (r ++ ByteArray.mk #[32] ++ S ++ ByteArray.mk #[32] ++ r)] (.tuple #[.string S, .int .i64 ((S.size : Int) + 2 + 2 * (r.size : Int))]) := by
    refine ans_between w h0 h9 (t := 32 :: (l ++ [32])) ?_ (by simp) (by simp; omega) ?_ ?_ ?_
    · intro c hc
      simp only [List.mem_cons, List.mem_append, List.not_mem_nil, or_false] at hc
      rcases hc with rfl | hc | rfl
      · decide
      · exact (hl c hc).1
      · decide
    · simp only [app_data, hr, hS, List.append_assoc, List.cons_append, List.nil_append]
    · rw [inner_blanks l (fun c hc => (hl c hc).2), if_neg (by rw [hb]; decide), hS]
    · simp; omega
  have a2 : ∀ A2 : ByteArray, A2.data.toList = innerL l → Ans w 10 #[.string (r ++ S ++ r)] (.tuple #[.string A2, .int .i64 ((S.size : Int) + 2 * (r.size : Int))]) := fun A2 hA => by
    refine ans_between w h0 h9 (t := l) (fun c hc => (hl c hc).1) hne (by omega) ?_ hA ?_
    · simp only [app_data, hr, hS, List.append_assoc]
    · rw [hs]; omega
  have e0 : ∀ b : UInt8, b.toNat = 32 ↔ b = 32 := fun b => ⟨fun h => UInt8.toNat_inj.1 h, fun h => by rw [h]; rfl⟩
  by_cases hc : S[0].toNat = 32 ∧ (S[S.size - 1]).toNat = 32
  · have h1 : 1 < l.length := by
      rcases Nat.lt_or_ge 1 l.length with h | h
      · exact h
      · exfalso
        have hp := List.length_pos_iff.2 hne
        obtain ⟨b, hlb⟩ := List.length_eq_one_iff.1 (show l.length = 1 by omega)
        rw [hlb] at hfi hb
        have hfb : b = S[0] := Option.some.inj hfi
        have h32 : b = 32 := by rw [hfb]; exact (e0 _).1 hc.1
        rw [h32] at hb
        cases hb
    refine ⟨hpos, S.extract 1 (S.size - 1), a1, a2 _ ?_, fun _ _ => ⟨rfl, by omega⟩, fun h => ?_, trivial, trivial⟩
    · rw [hpl, if_pos ⟨h1, hb, by rw [hfi, (e0 _).1 hc.1], by rw [hla, (e0 _).1 hc.2]⟩, extract_eq, hS]
      rw [List.dropLast_eq_take, List.length_drop, hs]
    · rcases h with h | h
      · exact absurd hc.1 h
      · exact absurd hc.2 h
  · refine ⟨hpos, S, a1, a2 _ ?_, fun h3 h4 => absurd ⟨h3, h4⟩ hc, fun _ => rfl, trivial, trivial⟩
    rw [hpl, if_neg, hS]
    rintro ⟨_, _, h3, h4⟩
    rw [hfi] at h3
    rw [hla] at h4
    exact hc ⟨(e0 _).2 (Option.some.inj h3), (e0 _).2 (Option.some.inj h4)⟩

set_option maxHeartbeats 8000000 in
set_option maxRecDepth 60000 in
theorem walk (s0 : ByteArray) (ws0 : s0.size ≤ 140737488351232) (a1 : Int) (w1 : -9223372036854775808 ≤ a1 ∧ a1 ≤ 9223372036854775807) (w : World) (hm : ML w) :
    Calls Tryd.prog 5 #[.string s0, .int .i64 a1] w fun e w' => e = .returned (.bool true) ∧ Below w.heap.size w w' := by
  obtain ⟨i0, hi, hz0, hz1, hz2⟩ := info_parts info5
  obtain ⟨wl, wu⟩ := w1
  have HS := (show Hid _ from ans_shown w)
  have h0 := Fwd.start hm
  have hs0 : (s0.size : Int) ≤ 140737488351232 := by omega
  clear ws0
  go_enter Tryd.func5, Tryd.ntmps5
  go_wp2_with (go_at_call 9; refine (HS.out _ h0).mono ?_; rintro e w1 ⟨rfl, h1⟩)
  clear h0 HS
  go_loopw [6, 7] (fun v i wr => ∃ (k : Nat) (l : List UInt8), i = .int .i64 (k : Int) ∧ k ≤ s0.size ∧ k ≤ 2000 ∧ l.length ≤ k ∧ OwnB wr w.heap.size v l ∧ Hid (Lacks [96, 10] l) ∧ Hid (Below w.heap.size w wr)) (fun _ i _ => 2000 - (intOf i).toNat)
  case atStart => exact ⟨0, [], rfl, by omega, by omega, by simp, World.ownsRow_nil _ _ _ _, Lacks.nil _, h1.2⟩
  case round =>
    clear h1
    obtain ⟨k, l, rfl, hk, hk9, hll, hown, hnb, hbw⟩ := hrel
    by_cases hlt : k < s0.size ∧ k < 2000
    · obtain ⟨h1, h2⟩ := hlt
      have g1 : (k : Int) < (s0.size : Int) := by omega
      have g2 : decide ((k : Int) < 2000) = true := by simp; omega
      obtain ⟨c, hc⟩ : ∃ c, s0[k] = c := ⟨_, rfl⟩
      by_cases hb96 : c.toNat = 96
      · have q1 : (c.toNat : Int) = 96 := by omega
        go_wp2
        go_roundw
        case rel => exact ⟨k + 1, l, by go_num, by omega, by omega, by omega, hown, hnb, hbw⟩
        case measure => simp [intOf]; omega
      · have q3 : ((c.toNat : Int) != 96) = true := by simp; omega
        by_cases hb10 : c.toNat = 10
        · have q1 : (c.toNat : Int) = 10 := by omega
          go_wp2
          go_roundw
          case rel => exact ⟨k + 1, l, by go_num, by omega, by omega, by omega, hown, hnb, hbw⟩
          case measure => simp [intOf]; omega
        · have q4 : ((c.toNat : Int) != 10) = true := by simp; omega
          have hsz := hbw.out.size
          go_wp2_with (at_builtin; refine wpList_append_own _ rfl _ _ 30 rfl w.heap.size 5 i0 (.int .u8 0) 1 1 Tryd.underlying30 hi hz0 hz1 hz2 rfl (by decide) _ _ _ rfl (hown.alloc _) ⟨wr.heap.size, 0, none⟩ 1 1 [.int .u8 (c.toNat : Int)] rfl rfl ?c1 ?c2 ?c3 ?c4 ?c5 ?_)
          case c1 => exact lit_cells wr [.int .u8 (c.toNat : Int)] _
          case c2 => intro u hu; simp at hu; subst hu; rfl
          case c3 => unfold maxLen; omega
          case c4 => omega
          case c5 => simp; omega
          intro v' w2 hown' hgrow _
          have R1 := own_push (l := [c]) hown' rfl (byteCells_one _)
          have R2 := below_grown hbw.out hsz hown hgrow
          go_wp2
          go_roundw
          case rel => exact ⟨k + 1, l ++ [c], by go_num, by omega, by omega, by simp; omega, R1, hnb.out.push (fun b hb => by
            simp only [List.mem_cons, List.not_mem_nil, or_false] at hb
            rintro rfl
            rcases hb with rfl | rfl
            · exact hb96 rfl
            · exact hb10 rfl), R2⟩
          case measure => simp [intOf]; omega
    · have hconv := own_string hown
      have hfw := (show Hid _ from Fwd.of hm hbw.out)
      have hl2 : l.length ≤ 2000 := by omega
      clear hown hbw hll hm
      obtain ⟨S, hS⟩ : ∃ S : ByteArray, S = ⟨l.toArray⟩ := ⟨_, rfl⟩
      rw [← hS] at hconv
      have hSd : S.data.toList = l := by rw [hS]
      have hSs : S.size = l.length := by rw [← len_data, hSd]
      have HD := (show Hid _ from hSd)
      obtain ⟨N, m, hN0, hNm, hm8, hNe⟩ : ∃ (N : Int) (m : Nat), 0 ≤ N ∧ N % 9 = (m : Int) ∧ m ≤ 8 ∧ N = (if a1 < 0 then -(a1 + 1) else a1) := by
        by_cases hn : a1 < 0
        · exact ⟨-(a1 + 1), (-(a1 + 1) % 9).toNat, by omega, by omega, by omega, by rw [if_pos hn]⟩
        · exact ⟨a1, (a1 % 9).toNat, by omega, by omega, by omega, by rw [if_neg hn]⟩
      clear hS hSd
      by_cases hks : k < s0.size
      · have hk2 : decide ((k : Int) < 2000) = false := by simp; omega
        clear hlt
        by_cases hneg : a1 < 0
        · rw [if_pos hneg] at hNe
          subst hNe
          have hNt : -((a1 + 1).tmod 9) = (m : Int) := by rw [← Int.neg_tmod, Int.tmod_eq_emod_of_nonneg hN0]; exact hNm
          clear hNm
          go_wp2
          go_loop [9, 10] (fun R i => ∃ (j : Nat) (r : ByteArray), i = .int .i64 (j : Int) ∧ R = .string r ∧ r.size = j ∧ j ≤ m + 1 ∧ Hid (r.data.toList = List.replicate j 96)) (fun _ i => 10 - (intOf i).toNat)
          case atStart => exact ⟨0, ⟨#[]⟩, rfl, rfl, rfl, by omega, rfl⟩
          case round =>
            obtain ⟨j, r, rfl, rfl, hrs, hj, hr⟩ := hrel
            by_cases hjm : j ≤ m
            · have g1 : (j : Int) ≤ (m : Int) := by omega
              go_wp2
              go_round
              case rel =>
                refine ⟨j + 1, r ++ ByteArray.mk #[96], by go_num, rfl, ?_, by omega, ?_⟩
                · rw [ByteArray.size_append, hrs]; rfl
                · show _ = _
                  rw [app_data, hr.out, List.replicate_succ']
              case measure => simp [intOf]; omega
            · have g1 : ¬ (j : Int) ≤ (m : Int) := by omega
              have hj1 : j = m + 1 := by omega
              subst hj1
              clear hj hjm
              go_wp2
              go_loop [11, 12] (fun Bv i => ∃ (j : Nat) (b : Bool), i = .int .i64 (j : Int) ∧ Bv = .bool b ∧ j ≤ l.length ∧ Hid (b = (l.take j).all (· == 32))) (fun _ i => l.length - (intOf i).toNat)
              case atStart => exact ⟨0, true, rfl, rfl, by omega, rfl⟩
              case round =>
                obtain ⟨j, b, rfl, rfl, hj, hb⟩ := hrel
                by_cases hjl : j < l.length
                · have g2 : (j : Int) < (S.size : Int) := by omega
                  have hjs : j < S.size := by omega
                  have hbyte : S[j] = l[j] := by rw [byte_at S j hjs, HD.out, List.getD_eq_getElem?_getD, List.getElem?_eq_getElem hjl]; rfl
                  obtain ⟨c, hc⟩ : ∃ c, l[j] = c := ⟨_, rfl⟩
                  rw [hc] at hbyte
                  have HT : Hid ((l.take (j + 1)).all (· == 32) = (b && (c == 32))) := by
                    show _ = _
                    rw [List.take_succ_eq_append_getElem hjl, List.all_append, ← hb.out, hc]
                    simp
                  clear hc
                  have he := eqN c 32 (by omega)
                  have HE : Hid ((c == 32) = decide (c.toNat = 32)) := he
                  clear he
                  cases b
                  · go_wp2
                    go_round
                    case rel => exact ⟨j + 1, false, by go_num, rfl, by omega, by show _ = _; rw [HT.out]; rfl⟩
                    case measure => simp [intOf]; omega
                  · by_cases h32 : c.toNat = 32
                    · have q : (c.toNat : Int) = 32 := by omega
                      go_wp2
                      go_round
                      case rel => exact ⟨j + 1, true, by go_num, rfl, by omega, by show _ = _; rw [HT.out, HE.out, decide_eq_true h32]; rfl⟩
                      case measure => simp [intOf]; omega
                    · have q : ¬ (c.toNat : Int) = 32 := by omega
                      have q2 : ((c.toNat : Int) == 32) = false := by rw [beq_eq_false_iff_ne]; exact q
                      go_wp2
                      go_round
                      case rel => exact ⟨j + 1, false, by go_num, rfl, by omega, by show _ = _; rw [HT.out, HE.out, decide_eq_false h32]; rfl⟩
                      case measure => simp [intOf]; omega
                · have hjl2 : j = l.length := by omega
                  have hb2 : b = l.all (· == 32) := by rw [hb.out, List.take_of_length_le (by omega)]
                  have hr9 : r.size ≤ 9 := by omega
                  have hr0 : 0 < r.size := by omega
                  have hS2 : S.size ≤ 2000 := by omega
                  have HR : Hid (r.data.toList = List.replicate r.size 96) := by rw [hrs]; exact hr.out
                  have HSl : Hid (S.size = l.length) := hSs
                  have HL : Hid (∀ c ∈ l, c ≠ 96 ∧ c ≠ 10) := fun c hc => ⟨hnb.out c hc 96 (by simp), hnb.out c hc 10 (by simp)⟩
                  have g2 : ¬ (j : Int) < (S.size : Int) := by omega
                  clear hb hrs hSs hr hjl hjl2
                  cases b
                  · obtain ⟨hpos, A2, f1, f2, f3, f4, _, _⟩ := HSl_fin w HR.out hr0 hr9 HD.out HL.out hl2 hb2.symm
                    have F1 := (show Hid _ from f1)
                    have F2 := (show Hid _ from f2)
                    clear HL HR hb2 f1 f2
                    obtain ⟨a, ha⟩ : ∃ a, S[0] = a := ⟨_, rfl⟩
                    obtain ⟨z, hz⟩ : ∃ z, S[S.size - 1] = z := ⟨_, rfl⟩
                    rw [ha, hz] at f3 f4
                    have p1 : (1 : Int) ≤ (S.size : Int) := by omega
                    by_cases ca : a.toNat = 32
                    · have qa : (a.toNat : Int) = 32 := by omega
                      by_cases cz : z.toNat = 32
                      · have qz : (z.toNat : Int) = 32 := by omega
                        obtain ⟨hA, hgt⟩ := f3 ca cz
                        have p2 : (1 : Int) ≤ (S.size : Int) - 1 := by omega
                        rw [hA] at F2
                        clear f3 f4 hA
                        go_wp2_with (go_at_call_of 10 (Value.string (r ++ ByteArray.mk #[32] ++ S ++ ByteArray.mk #[32] ++ r)); refine (F1.out _ hfw.out).mono ?_; rintro e w3 ⟨rfl, h3⟩)
                        go_wp2_with (go_at_call_of 10 (Value.string (r ++ S ++ r)); refine (F2.out _ h3).mono ?_; rintro e w4 ⟨rfl, h4⟩)
                        go_ret
                        have hbe := h4.2
                        refine ⟨?_, hbe⟩
                        kernel_rfl
                      · have qz : ¬ (z.toNat : Int) = 32 := by omega
                        have qz2 : ((z.toNat : Int) == 32) = false := by rw [beq_eq_false_iff_ne]; exact qz
                        have hA := f4 (.inr cz)
                        rw [hA] at F2
                        clear f3 f4 hA
                        go_wp2_with (go_at_call_of 10 (Value.string (r ++ ByteArray.mk #[32] ++ S ++ ByteArray.mk #[32] ++ r)); refine (F1.out _ hfw.out).mono ?_; rintro e w3 ⟨rfl, h3⟩)
                        go_wp2_with (go_at_call_of 10 (Value.string (r ++ S ++ r)); refine (F2.out _ h3).mono ?_; rintro e w4 ⟨rfl, h4⟩)
                        go_ret
                        have hbe := h4.2
                        refine ⟨?_, hbe⟩
                        kernel_rfl
                    · have qa : ¬ (a.toNat : Int) = 32 := by omega
                      have qa2 : ((a.toNat : Int) == 32) = false := by rw [beq_eq_false_iff_ne]; exact qa
                      have hA := f4 (.inl ca)
                      rw [hA] at F2
                      clear f3 f4 hA
                      go_wp2_with (go_at_call_of 10 (Value.string (r ++ ByteArray.mk #[32] ++ S ++ ByteArray.mk #[32] ++ r)); refine (F1.out _ hfw.out).mono ?_; rintro e w3 ⟨rfl, h3⟩)
                      go_wp2_with (go_at_call_of 10 (Value.string (r ++ S ++ r)); refine (F2.out _ h3).mono ?_; rintro e w4 ⟨rfl, h4⟩)
                      go_ret
                      have hbe := h4.2
                      refine ⟨?_, hbe⟩
                      kernel_rfl
                  · have F1 : Hid (Ans w 10 #[.string (r ++ ByteArray.mk #[32] ++ S ++ ByteArray.mk #[32] ++ r)] (.tuple #[.string (ByteArray.mk #[32] ++ S ++ ByteArray.mk #[32]), .int .i64 ((S.size : Int) + 2 + 2 * (r.size : Int))])) := HSl_blank w HR.out hr0 hr9 HD.out HL.out hl2 hb2.symm
                    have hzz : ((S.size : Int) + 2 + 2 * (r.size : Int) == 1 + (S.size : Int) + 1 + 2 * (r.size : Int)) = true := by rw [beq_iff_eq]; omega
                    clear HL HR hb2
                    go_wp2_with (go_at_call_of 10 (Value.string (r ++ ByteArray.mk #[32] ++ S ++ ByteArray.mk #[32] ++ r)); refine (F1.out _ hfw.out).mono ?_; rintro e w3 ⟨rfl, h3⟩)
                    go_ret
                    have hbe := h3.2
                    refine ⟨?_, hbe⟩
                    kernel_rfl
        · rw [if_neg hneg] at hNe
          subst hNe
          go_wp2
          go_loop [9, 10] (fun R i => ∃ (j : Nat) (r : ByteArray), i = .int .i64 (j : Int) ∧ R = .string r ∧ r.size = j ∧ j ≤ m + 1 ∧ Hid (r.data.toList = List.replicate j 96)) (fun _ i => 10 - (intOf i).toNat)
          case atStart => exact ⟨0, ⟨#[]⟩, rfl, rfl, rfl, by omega, rfl⟩
          case round =>
            obtain ⟨j, r, rfl, rfl, hrs, hj, hr⟩ := hrel
            by_cases hjm : j ≤ m
            · have g1 : (j : Int) ≤ (m : Int) := by omega
              go_wp2
              go_round
              case rel =>
                refine ⟨j + 1, r ++ ByteArray.mk #[96], by go_num, rfl, ?_, by omega, ?_⟩
                · rw [ByteArray.size_append, hrs]; rfl
                · show _ = _
                  rw [app_data, hr.out, List.replicate_succ']
              case measure => simp [intOf]; omega
            · have g1 : ¬ (j : Int) ≤ (m : Int) := by omega
              have hj1 : j = m + 1 := by omega
              subst hj1
              clear hj hjm
              go_wp2
              go_loop [11, 12] (fun Bv i => ∃ (j : Nat) (b : Bool), i = .int .i64 (j : Int) ∧ Bv = .bool b ∧ j ≤ l.length ∧ Hid (b = (l.take j).all (· == 32))) (fun _ i => l.length - (intOf i).toNat)
              case atStart => exact ⟨0, true, rfl, rfl, by omega, rfl⟩
              case round =>
                obtain ⟨j, b, rfl, rfl, hj, hb⟩ := hrel
                by_cases hjl : j < l.length
                · have g2 : (j : Int) < (S.size : Int) := by omega
                  have hjs : j < S.size := by omega
                  have hbyte : S[j] = l[j] := by rw [byte_at S j hjs, HD.out, List.getD_eq_getElem?_getD, List.getElem?_eq_getElem hjl]; rfl
                  obtain ⟨c, hc⟩ : ∃ c, l[j] = c := ⟨_, rfl⟩
                  rw [hc] at hbyte
                  have HT : Hid ((l.take (j + 1)).all (· == 32) = (b && (c == 32))) := by
                    show _ = _
                    rw [List.take_succ_eq_append_getElem hjl, List.all_append, ← hb.out, hc]
                    simp
                  clear hc
                  have he := eqN c 32 (by omega)
                  have HE : Hid ((c == 32) = decide (c.toNat = 32)) := he
                  clear he
                  cases b
                  · go_wp2
                    go_round
                    case rel => exact ⟨j + 1, false, by go_num, rfl, by omega, by show _ = _; rw [HT.out]; rfl⟩
                    case measure => simp [intOf]; omega
                  · by_cases h32 : c.toNat = 32
                    · have q : (c.toNat : Int) = 32 := by omega
                      go_wp2
                      go_round
                      case rel => exact ⟨j + 1, true, by go_num, rfl, by omega, by show _ = _; rw [HT.out, HE.out, decide_eq_true h32]; rfl⟩
                      case measure => simp [intOf]; omega
                    · have q : ¬ (c.toNat : Int) = 32 := by omega
                      have q2 : ((c.toNat : Int) == 32) = false := by rw [beq_eq_false_iff_ne]; exact q
                      go_wp2
                      go_round
                      case rel => exact ⟨j + 1, false, by go_num, rfl, by omega, by show _ = _; rw [HT.out, HE.out, decide_eq_false h32]; rfl⟩
                      case measure => simp [intOf]; omega
                · have hjl2 : j = l.length := by omega
                  have hb2 : b = l.all (· == 32) := by rw [hb.out, List.take_of_length_le (by omega)]
                  have hr9 : r.size ≤ 9 := by omega
                  have hr0 : 0 < r.size := by omega
                  have hS2 : S.size ≤ 2000 := by omega
                  have HR : Hid (r.data.toList = List.replicate r.size 96) := by rw [hrs]; exact hr.out
                  have HSl : Hid (S.size = l.length) := hSs
                  have HL : Hid (∀ c ∈ l, c ≠ 96 ∧ c ≠ 10) := fun c hc => ⟨hnb.out c hc 96 (by simp), hnb.out c hc 10 (by simp)⟩
                  have g2 : ¬ (j : Int) < (S.size : Int) := by omega
                  clear hb hrs hSs hr hjl hjl2
                  cases b
                  · obtain ⟨hpos, A2, f1, f2, f3, f4, _, _⟩ := HSl_fin w HR.out hr0 hr9 HD.out HL.out hl2 hb2.symm
                    have F1 := (show Hid _ from f1)
                    have F2 := (show Hid _ from f2)
                    clear HL HR hb2 f1 f2
                    obtain ⟨a, ha⟩ : ∃ a, S[0] = a := ⟨_, rfl⟩
                    obtain ⟨z, hz⟩ : ∃ z, S[S.size - 1] = z := ⟨_, rfl⟩
                    rw [ha, hz] at f3 f4
                    have p1 : (1 : Int) ≤ (S.size : Int) := by omega
                    by_cases ca : a.toNat = 32
                    · have qa : (a.toNat : Int) = 32 := by omega
                      by_cases cz : z.toNat = 32
                      · have qz : (z.toNat : Int) = 32 := by omega
                        obtain ⟨hA, hgt⟩ := f3 ca cz
                        have p2 : (1 : Int) ≤ (S.size : Int) - 1 := by omega
                        rw [hA] at F2
                        clear f3 f4 hA
                        go_wp2_with (go_at_call_of 10 (Value.string (r ++ ByteArray.mk #[32] ++ S ++ ByteArray.mk #[32] ++ r)); refine (F1.out _ hfw.out).mono ?_; rintro e w3 ⟨rfl, h3⟩)
                        go_wp2_with (go_at_call_of 10 (Value.string (r ++ S ++ r)); refine (F2.out _ h3).mono ?_; rintro e w4 ⟨rfl, h4⟩)
                        go_ret
                        have hbe := h4.2
                        refine ⟨?_, hbe⟩
                        kernel_rfl
                      · have qz : ¬ (z.toNat : Int) = 32 := by omega
                        have qz2 : ((z.toNat : Int) == 32) = false := by rw [beq_eq_false_iff_ne]; exact qz
                        have hA := f4 (.inr cz)
                        rw [hA] at F2
                        clear f3 f4 hA
                        go_wp2_with (go_at_call_of 10 (Value.string (r ++ ByteArray.mk #[32] ++ S ++ ByteArray.mk #[32] ++ r)); refine (F1.out _ hfw.out).mono ?_; rintro e w3 ⟨rfl, h3⟩)
                        go_wp2_with (go_at_call_of 10 (Value.string (r ++ S ++ r)); refine (F2.out _ h3).mono ?_; rintro e w4 ⟨rfl, h4⟩)
                        go_ret
                        have hbe := h4.2
                        refine ⟨?_, hbe⟩
                        kernel_rfl
                    · have qa : ¬ (a.toNat : Int) = 32 := by omega
                      have qa2 : ((a.toNat : Int) == 32) = false := by rw [beq_eq_false_iff_ne]; exact qa
                      have hA := f4 (.inl ca)
                      rw [hA] at F2
                      clear f3 f4 hA
                      go_wp2_with (go_at_call_of 10 (Value.string (r ++ ByteArray.mk #[32] ++ S ++ ByteArray.mk #[32] ++ r)); refine (F1.out _ hfw.out).mono ?_; rintro e w3 ⟨rfl, h3⟩)
                      go_wp2_with (go_at_call_of 10 (Value.string (r ++ S ++ r)); refine (F2.out _ h3).mono ?_; rintro e w4 ⟨rfl, h4⟩)
                      go_ret
                      have hbe := h4.2
                      refine ⟨?_, hbe⟩
                      kernel_rfl
                  · have F1 : Hid (Ans w 10 #[.string (r ++ ByteArray.mk #[32] ++ S ++ ByteArray.mk #[32] ++ r)] (.tuple #[.string (ByteArray.mk #[32] ++ S ++ ByteArray.mk #[32]), .int .i64 ((S.size : Int) + 2 + 2 * (r.size : Int))])) := HSl_blank w HR.out hr0 hr9 HD.out HL.out hl2 hb2.symm
                    have hzz : ((S.size : Int) + 2 + 2 * (r.size : Int) == 1 + (S.size : Int) + 1 + 2 * (r.size : Int)) = true := by rw [beq_iff_eq]; omega
                    clear HL HR hb2
                    go_wp2_with (go_at_call_of 10 (Value.string (r ++ ByteArray.mk #[32] ++ S ++ ByteArray.mk #[32] ++ r)); refine (F1.out _ hfw.out).mono ?_; rintro e w3 ⟨rfl, h3⟩)
                    go_ret
                    have hbe := h3.2
                    refine ⟨?_, hbe⟩
                    kernel_rfl
      · clear hlt
        by_cases hneg : a1 < 0
        · rw [if_pos hneg] at hNe
          subst hNe
          have hNt : -((a1 + 1).tmod 9) = (m : Int) := by rw [← Int.neg_tmod, Int.tmod_eq_emod_of_nonneg hN0]; exact hNm
          clear hNm
          go_wp2
          go_loop [9, 10] (fun R i => ∃ (j : Nat) (r : ByteArray), i = .int .i64 (j : Int) ∧ R = .string r ∧ r.size = j ∧ j ≤ m + 1 ∧ Hid (r.data.toList = List.replicate j 96)) (fun _ i => 10 - (intOf i).toNat)
          case atStart => exact ⟨0, ⟨#[]⟩, rfl, rfl, rfl, by omega, rfl⟩
          case round =>
            obtain ⟨j, r, rfl, rfl, hrs, hj, hr⟩ := hrel
            by_cases hjm : j ≤ m
            · have g1 : (j : Int) ≤ (m : Int) := by omega
              go_wp2
              go_round
              case rel =>
                refine ⟨j + 1, r ++ ByteArray.mk #[96], by go_num, rfl, ?_, by omega, ?_⟩
                · rw [ByteArray.size_append, hrs]; rfl
                · show _ = _
                  rw [app_data, hr.out, List.replicate_succ']
              case measure => simp [intOf]; omega
            · have g1 : ¬ (j : Int) ≤ (m : Int) := by omega
              have hj1 : j = m + 1 := by omega
              subst hj1
              clear hj hjm
              go_wp2
              go_loop [11, 12] (fun Bv i => ∃ (j : Nat) (b : Bool), i = .int .i64 (j : Int) ∧ Bv = .bool b ∧ j ≤ l.length ∧ Hid (b = (l.take j).all (· == 32))) (fun _ i => l.length - (intOf i).toNat)
              case atStart => exact ⟨0, true, rfl, rfl, by omega, rfl⟩
              case round =>
                obtain ⟨j, b, rfl, rfl, hj, hb⟩ := hrel
                by_cases hjl : j < l.length
                · have g2 : (j : Int) < (S.size : Int) := by omega
                  have hjs : j < S.size := by omega
                  have hbyte : S[j] = l[j] := by rw [byte_at S j hjs, HD.out, List.getD_eq_getElem?_getD, List.getElem?_eq_getElem hjl]; rfl
                  obtain ⟨c, hc⟩ : ∃ c, l[j] = c := ⟨_, rfl⟩
                  rw [hc] at hbyte
                  have HT : Hid ((l.take (j + 1)).all (· == 32) = (b && (c == 32))) := by
                    show _ = _
                    rw [List.take_succ_eq_append_getElem hjl, List.all_append, ← hb.out, hc]
                    simp
                  clear hc
                  have he := eqN c 32 (by omega)
                  have HE : Hid ((c == 32) = decide (c.toNat = 32)) := he
                  clear he
                  cases b
                  · go_wp2
                    go_round
                    case rel => exact ⟨j + 1, false, by go_num, rfl, by omega, by show _ = _; rw [HT.out]; rfl⟩
                    case measure => simp [intOf]; omega
                  · by_cases h32 : c.toNat = 32
                    · have q : (c.toNat : Int) = 32 := by omega
                      go_wp2
                      go_round
                      case rel => exact ⟨j + 1, true, by go_num, rfl, by omega, by show _ = _; rw [HT.out, HE.out, decide_eq_true h32]; rfl⟩
                      case measure => simp [intOf]; omega
                    · have q : ¬ (c.toNat : Int) = 32 := by omega
                      have q2 : ((c.toNat : Int) == 32) = false := by rw [beq_eq_false_iff_ne]; exact q
                      go_wp2
                      go_round
                      case rel => exact ⟨j + 1, false, by go_num, rfl, by omega, by show _ = _; rw [HT.out, HE.out, decide_eq_false h32]; rfl⟩
                      case measure => simp [intOf]; omega
                · have hjl2 : j = l.length := by omega
                  have hb2 : b = l.all (· == 32) := by rw [hb.out, List.take_of_length_le (by omega)]
                  have hr9 : r.size ≤ 9 := by omega
                  have hr0 : 0 < r.size := by omega
                  have hS2 : S.size ≤ 2000 := by omega
                  have HR : Hid (r.data.toList = List.replicate r.size 96) := by rw [hrs]; exact hr.out
                  have HSl : Hid (S.size = l.length) := hSs
                  have HL : Hid (∀ c ∈ l, c ≠ 96 ∧ c ≠ 10) := fun c hc => ⟨hnb.out c hc 96 (by simp), hnb.out c hc 10 (by simp)⟩
                  have g2 : ¬ (j : Int) < (S.size : Int) := by omega
                  clear hb hrs hSs hr hjl hjl2
                  cases b
                  · obtain ⟨hpos, A2, f1, f2, f3, f4, _, _⟩ := HSl_fin w HR.out hr0 hr9 HD.out HL.out hl2 hb2.symm
                    have F1 := (show Hid _ from f1)
                    have F2 := (show Hid _ from f2)
                    clear HL HR hb2 f1 f2
                    obtain ⟨a, ha⟩ : ∃ a, S[0] = a := ⟨_, rfl⟩
                    obtain ⟨z, hz⟩ : ∃ z, S[S.size - 1] = z := ⟨_, rfl⟩
                    rw [ha, hz] at f3 f4
                    have p1 : (1 : Int) ≤ (S.size : Int) := by omega
                    by_cases ca : a.toNat = 32
                    · have qa : (a.toNat : Int) = 32 := by omega
                      by_cases cz : z.toNat = 32
                      · have qz : (z.toNat : Int) = 32 := by omega
                        obtain ⟨hA, hgt⟩ := f3 ca cz
                        have p2 : (1 : Int) ≤ (S.size : Int) - 1 := by omega
                        rw [hA] at F2
                        clear f3 f4 hA
                        go_wp2_with (go_at_call_of 10 (Value.string (r ++ ByteArray.mk #[32] ++ S ++ ByteArray.mk #[32] ++ r)); refine (F1.out _ hfw.out).mono ?_; rintro e w3 ⟨rfl, h3⟩)
                        go_wp2_with (go_at_call_of 10 (Value.string (r ++ S ++ r)); refine (F2.out _ h3).mono ?_; rintro e w4 ⟨rfl, h4⟩)
                        go_ret
                        have hbe := h4.2
                        refine ⟨?_, hbe⟩
                        kernel_rfl
                      · have qz : ¬ (z.toNat : Int) = 32 := by omega
                        have qz2 : ((z.toNat : Int) == 32) = false := by rw [beq_eq_false_iff_ne]; exact qz
                        have hA := f4 (.inr cz)
                        rw [hA] at F2
                        clear f3 f4 hA
                        go_wp2_with (go_at_call_of 10 (Value.string (r ++ ByteArray.mk #[32] ++ S ++ ByteArray.mk #[32] ++ r)); refine (F1.out _ hfw.out).mono ?_; rintro e w3 ⟨rfl, h3⟩)
                        go_wp2_with (go_at_call_of 10 (Value.string (r ++ S ++ r)); refine (F2.out _ h3).mono ?_; rintro e w4 ⟨rfl, h4⟩)
                        go_ret
                        have hbe := h4.2
                        refine ⟨?_, hbe⟩
                        kernel_rfl
                    · have qa : ¬ (a.toNat : Int) = 32 := by omega
                      have qa2 : ((a.toNat : Int) == 32) = false := by rw [beq_eq_false_iff_ne]; exact qa
                      have hA := f4 (.inl ca)
                      rw [hA] at F2
                      clear f3 f4 hA
                      go_wp2_with (go_at_call_of 10 (Value.string (r ++ ByteArray.mk #[32] ++ S ++ ByteArray.mk #[32] ++ r)); refine (F1.out _ hfw.out).mono ?_; rintro e w3 ⟨rfl, h3⟩)
                      go_wp2_with (go_at_call_of 10 (Value.string (r ++ S ++ r)); refine (F2.out _ h3).mono ?_; rintro e w4 ⟨rfl, h4⟩)
                      go_ret
                      have hbe := h4.2
                      refine ⟨?_, hbe⟩
                      kernel_rfl
                  · have F1 : Hid (Ans w 10 #[.string (r ++ ByteArray.mk #[32] ++ S ++ ByteArray.mk #[32] ++ r)] (.tuple #[.string (ByteArray.mk #[32] ++ S ++ ByteArray.mk #[32]), .int .i64 ((S.size : Int) + 2 + 2 * (r.size : Int))])) := HSl_blank w HR.out hr0 hr9 HD.out HL.out hl2 hb2.symm
                    have hzz : ((S.size : Int) + 2 + 2 * (r.size : Int) == 1 + (S.size : Int) + 1 + 2 * (r.size : Int)) = true := by rw [beq_iff_eq]; omega
                    clear HL HR hb2
                    go_wp2_with (go_at_call_of 10 (Value.string (r ++ ByteArray.mk #[32] ++ S ++ ByteArray.mk #[32] ++ r)); refine (F1.out _ hfw.out).mono ?_; rintro e w3 ⟨rfl, h3⟩)
                    go_ret
                    have hbe := h3.2
                    refine ⟨?_, hbe⟩
                    kernel_rfl
        · rw [if_neg hneg] at hNe
          subst hNe
          go_wp2
          go_loop [9, 10] (fun R i => ∃ (j : Nat) (r : ByteArray), i = .int .i64 (j : Int) ∧ R = .string r ∧ r.size = j ∧ j ≤ m + 1 ∧ Hid (r.data.toList = List.replicate j 96)) (fun _ i => 10 - (intOf i).toNat)
          case atStart => exact ⟨0, ⟨#[]⟩, rfl, rfl, rfl, by omega, rfl⟩
          case round =>
            obtain ⟨j, r, rfl, rfl, hrs, hj, hr⟩ := hrel
            by_cases hjm : j ≤ m
            · have g1 : (j : Int) ≤ (m : Int) := by omega
              go_wp2
              go_round
              case rel =>
                refine ⟨j + 1, r ++ ByteArray.mk #[96], by go_num, rfl, ?_, by omega, ?_⟩
                · rw [ByteArray.size_append, hrs]; rfl
                · show _ = _
                  rw [app_data, hr.out, List.replicate_succ']
              case measure => simp [intOf]; omega
            · have g1 : ¬ (j : Int) ≤ (m : Int) := by omega
              have hj1 : j = m + 1 := by omega
              subst hj1
              clear hj hjm
              go_wp2
              go_loop [11, 12] (fun Bv i => ∃ (j : Nat) (b : Bool), i = .int .i64 (j : Int) ∧ Bv = .bool b ∧ j ≤ l.length ∧ Hid (b = (l.take j).all (· == 32))) (fun _ i => l.length - (intOf i).toNat)
              case atStart => exact ⟨0, true, rfl, rfl, by omega, rfl⟩
              case round =>
                obtain ⟨j, b, rfl, rfl, hj, hb⟩ := hrel
                by_cases hjl : j < l.length
                · have g2 : (j : Int) < (S.size : Int) := by omega
                  have hjs : j < S.size := by omega
                  have hbyte : S[j] = l[j] := by rw [byte_at S j hjs, HD.out, List.getD_eq_getElem?_getD, List.getElem?_eq_getElem hjl]; rfl
                  obtain ⟨c, hc⟩ : ∃ c, l[j] = c := ⟨_, rfl⟩
                  rw [hc] at hbyte
                  have HT : Hid ((l.take (j + 1)).all (· == 32) = (b && (c == 32))) := by
                    show _ = _
                    rw [List.take_succ_eq_append_getElem hjl, List.all_append, ← hb.out, hc]
                    simp
                  clear hc
                  have he := eqN c 32 (by omega)
                  have HE : Hid ((c == 32) = decide (c.toNat = 32)) := he
                  clear he
                  cases b
                  · go_wp2
                    go_round
                    case rel => exact ⟨j + 1, false, by go_num, rfl, by omega, by show _ = _; rw [HT.out]; rfl⟩
                    case measure => simp [intOf]; omega
                  · by_cases h32 : c.toNat = 32
                    · have q : (c.toNat : Int) = 32 := by omega
                      go_wp2
                      go_round
                      case rel => exact ⟨j + 1, true, by go_num, rfl, by omega, by show _ = _; rw [HT.out, HE.out, decide_eq_true h32]; rfl⟩
                      case measure => simp [intOf]; omega
                    · have q : ¬ (c.toNat : Int) = 32 := by omega
                      have q2 : ((c.toNat : Int) == 32) = false := by rw [beq_eq_false_iff_ne]; exact q
                      go_wp2
                      go_round
                      case rel => exact ⟨j + 1, false, by go_num, rfl, by omega, by show _ = _; rw [HT.out, HE.out, decide_eq_false h32]; rfl⟩
                      case measure => simp [intOf]; omega
                · have hjl2 : j = l.length := by omega
                  have hb2 : b = l.all (· == 32) := by rw [hb.out, List.take_of_length_le (by omega)]
                  have hr9 : r.size ≤ 9 := by omega
                  have hr0 : 0 < r.size := by omega
                  have hS2 : S.size ≤ 2000 := by omega
                  have HR : Hid (r.data.toList = List.replicate r.size 96) := by rw [hrs]; exact hr.out
                  have HSl : Hid (S.size = l.length) := hSs
                  have HL : Hid (∀ c ∈ l, c ≠ 96 ∧ c ≠ 10) := fun c hc => ⟨hnb.out c hc 96 (by simp), hnb.out c hc 10 (by simp)⟩
                  have g2 : ¬ (j : Int) < (S.size : Int) := by omega
                  clear hb hrs hSs hr hjl hjl2
                  cases b
                  · obtain ⟨hpos, A2, f1, f2, f3, f4, _, _⟩ := HSl_fin w HR.out hr0 hr9 HD.out HL.out hl2 hb2.symm
                    have F1 := (show Hid _ from f1)
                    have F2 := (show Hid _ from f2)
                    clear HL HR hb2 f1 f2
                    obtain ⟨a, ha⟩ : ∃ a, S[0] = a := ⟨_, rfl⟩
                    obtain ⟨z, hz⟩ : ∃ z, S[S.size - 1] = z := ⟨_, rfl⟩
                    rw [ha, hz] at f3 f4
                    have p1 : (1 : Int) ≤ (S.size : Int) := by omega
                    by_cases ca : a.toNat = 32
                    · have qa : (a.toNat : Int) = 32 := by omega
                      by_cases cz : z.toNat = 32
                      · have qz : (z.toNat : Int) = 32 := by omega
                        obtain ⟨hA, hgt⟩ := f3 ca cz
                        have p2 : (1 : Int) ≤ (S.size : Int) - 1 := by omega
                        rw [hA] at F2
                        clear f3 f4 hA
                        go_wp2_with (go_at_call_of 10 (Value.string (r ++ ByteArray.mk #[32] ++ S ++ ByteArray.mk #[32] ++ r)); refine (F1.out _ hfw.out).mono ?_; rintro e w3 ⟨rfl, h3⟩)
                        go_wp2_with (go_at_call_of 10 (Value.string (r ++ S ++ r)); refine (F2.out _ h3).mono ?_; rintro e w4 ⟨rfl, h4⟩)
                        go_ret
                        have hbe := h4.2
                        refine ⟨?_, hbe⟩
                        kernel_rfl
                      · have qz : ¬ (z.toNat : Int) = 32 := by omega
                        have qz2 : ((z.toNat : Int) == 32) = false := by rw [beq_eq_false_iff_ne]; exact qz
                        have hA := f4 (.inr cz)
                        rw [hA] at F2
                        clear f3 f4 hA
                        go_wp2_with (go_at_call_of 10 (Value.string (r ++ ByteArray.mk #[32] ++ S ++ ByteArray.mk #[32] ++ r)); refine (F1.out _ hfw.out).mono ?_; rintro e w3 ⟨rfl, h3⟩)
                        go_wp2_with (go_at_call_of 10 (Value.string (r ++ S ++ r)); refine (F2.out _ h3).mono ?_; rintro e w4 ⟨rfl, h4⟩)
                        go_ret
                        have hbe := h4.2
                        refine ⟨?_, hbe⟩
                        kernel_rfl
                    · have qa : ¬ (a.toNat : Int) = 32 := by omega
                      have qa2 : ((a.toNat : Int) == 32) = false := by rw [beq_eq_false_iff_ne]; exact qa
                      have hA := f4 (.inl ca)
                      rw [hA] at F2
                      clear f3 f4 hA
                      go_wp2_with (go_at_call_of 10 (Value.string (r ++ ByteArray.mk #[32] ++ S ++ ByteArray.mk #[32] ++ r)); refine (F1.out _ hfw.out).mono ?_; rintro e w3 ⟨rfl, h3⟩)
                      go_wp2_with (go_at_call_of 10 (Value.string (r ++ S ++ r)); refine (F2.out _ h3).mono ?_; rintro e w4 ⟨rfl, h4⟩)
                      go_ret
                      have hbe := h4.2
                      refine ⟨?_, hbe⟩
                      kernel_rfl
                  · have F1 : Hid (Ans w 10 #[.string (r ++ ByteArray.mk #[32] ++ S ++ ByteArray.mk #[32] ++ r)] (.tuple #[.string (ByteArray.mk #[32] ++ S ++ ByteArray.mk #[32]), .int .i64 ((S.size : Int) + 2 + 2 * (r.size : Int))])) := HSl_blank w HR.out hr0 hr9 HD.out HL.out hl2 hb2.symm
                    have hzz : ((S.size : Int) + 2 + 2 * (r.size : Int) == 1 + (S.size : Int) + 1 + 2 * (r.size : Int)) = true := by rw [beq_iff_eq]; omega
                    clear HL HR hb2
                    go_wp2_with (go_at_call_of 10 (Value.string (r ++ ByteArray.mk #[32] ++ S ++ ByteArray.mk #[32] ++ r)); refine (F1.out _ hfw.out).mono ?_; rintro e w3 ⟨rfl, h3⟩)
                    go_ret
                    have hbe := h3.2
                    refine ⟨?_, hbe⟩
                    kernel_rfl

end Go.Proofs.YtkbanlhjeedeeaaDoor.spanCode
