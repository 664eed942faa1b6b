/- SpanLinks, walked: an address between its signs is a link of it. -/
import Derived.Test.YtkbanlhjeedeeaaDoorSWord
set_option linter.unusedVariables false
namespace Go.Proofs.YtkbanlhjeedeeaaDoor.spanLinks
open Go.RowKit

theorem ans_word (w0 : World) {f s : ByteArray} (hf : f.size ≤ 9) (hs : (s.size : Int) ≤ 140737488351232) {most : Nat} (hmost : most ≤ 2000) (hfm : f.size ≤ most) (w : World) (h : Fwd w0 w) :
    Calls Tryd.prog 18 #[.string f, .string s, .int .i64 (most : Int)] w fun e w' => ∃ L : ByteArray, e = .returned (.string L) ∧ (∃ l, L.data.toList = f.data.toList ++ l ∧ AllW l) ∧ L.size ≤ most ∧ Fwd w0 w' := by
  refine (word_any f s hf hs most hmost hfm w h.1).mono ?_
  rintro e w2 ⟨l, rfl, h1, h2, h3⟩
  refine ⟨⟨(f.data.toList ++ l).toArray⟩, rfl, ⟨l, list_data _, h1⟩, ?_, h.below h3⟩
  rw [size_list, List.length_append, len_data]; exact h2

/-- A link that is told, whatever stands behind it. -/
theorem ans_link (w0 : World) {X y C D : ByteArray} (hX : X.data.toList = 60 :: (C.data.toList ++ 62 :: y.data.toList)) (hc : 62 ∉ C.data.toList) (hC : C.size ≤ 3000) (hy : y.size ≤ 140737488351232) {z : Int} (hz : z = ((C.size + 2 : Nat) : Int)) (ha : autoL (60 :: (C.data.toList ++ 62 :: y.data.toList)) = some (D.data.toList, C.data.toList, C.size + 2)) :
    Ans w0 12 #[.string X] (.tuple #[.string D, .string C, .int .i64 z]) := by
  have hl : X.size = C.size + 2 + y.size := by rw [← len_data, hX]; simp; omega
  have h1 : ∀ w, ML w → Calls Tryd.prog 12 #[.string X] w fun e w' => e = .returned (autoV (autoL X.data.toList)) ∧ Below w.heap.size w w' := fun w hm => auto_at X (by omega) (fun u y' e hu => by
    rw [hX] at e
    have e2 := (List.cons.inj e).2
    have h3 := (ne_tw hc y.data.toList).1
    have h4 := (ne_tw hu y').1
    rw [e2, h4] at h3
    rw [h3, len_data]
    omega) w hm
  rw [hX, ha] at h1
  have h2 := fwd_below h1 w0
  subst hz
  show Ans w0 _ _ _
  have e1 : D = ⟨D.data.toList.toArray⟩ := (mk_data D).symm
  have e2 : C = ⟨C.data.toList.toArray⟩ := (mk_data C).symm
  have e3 : autoV (some (D.data.toList, C.data.toList, C.size + 2)) = .tuple #[.string D, .string C, .int .i64 ((C.size + 2 : Nat) : Int)] := by
    show Value.tuple #[.string ⟨D.data.toList.toArray⟩, .string ⟨C.data.toList.toArray⟩, .int .i64 ((C.size + 2 : Nat) : Int)] = _
    rw [← e1, ← e2]
  rw [← e3]
  exact h2

theorem no62_w {l : List UInt8} (h : AllW l) : 62 ∉ l := fun hm => by have := h 62 hm; revert this; decide

/-- The first: a scheme, a sign, and what may stand behind it. -/
theorem ans_first (w0 : World) {C : ByteArray} {l r : List UInt8} (hC : C.data.toList = [97, 98] ++ l ++ 58 :: r) (hl : AllW l) (hll : l.length ≤ 30) (hr : ∀ c ∈ r, linkC c = true) (hrl : r.length ≤ 300) (y : ByteArray) (hy : y.size ≤ 140737488351232) :
    Ans w0 12 #[.string (ByteArray.mk #[60] ++ C ++ ByteArray.mk #[62] ++ y)] (.tuple #[.string C, .string C, .int .i64 ((C.size : Int) + 2)]) := by
  have hs : C.size = l.length + r.length + 3 := by rw [← len_data, hC]; simp; omega
  have hC2 : C.data.toList = 97 :: 98 :: (l ++ 58 :: r) := by rw [hC]; simp
  refine ans_link w0 ?_ ?_ (by omega) hy (by omega) ?_
  · simp
  · rw [hC2]
    intro hm
    simp only [List.mem_cons, List.mem_append] at hm
    rcases hm with h | h | h | h | h
    · revert h; decide
    · revert h; decide
    · exact no62_w hl h
    · revert h; decide
    · have := hr 62 h; revert this; decide
  · rw [hC2, auto_scheme hl hll hr y.data.toList, hs]

/-- The second: somebody's address. -/
theorem ans_second (w0 : World) {M : ByteArray} {n h : List UInt8} (hM : M.data.toList = [109] ++ n ++ [64] ++ ([104] ++ h) ++ [46, 120]) (hn : AllW n) (hh : AllW h) (hnl : n.length ≤ 100) (hhl : h.length ≤ 62) (y : ByteArray) (hy : y.size ≤ 140737488351232) :
    Ans w0 12 #[.string (ByteArray.mk #[60] ++ M ++ ByteArray.mk #[62] ++ y)] (.tuple #[.string (ByteArray.mk #[109, 97, 105, 108, 116, 111, 58] ++ M), .string M, .int .i64 ((M.size : Int) + 2)]) := by
  have hs : M.size = n.length + h.length + 5 := by rw [← len_data, hM]; simp; omega
  have hM2 : M.data.toList = 109 :: (n ++ 64 :: 104 :: (h ++ [46, 120])) := by rw [hM]; simp
  refine ans_link w0 ?_ ?_ (by omega) hy (by omega) ?_
  · simp
  · rw [hM2]
    intro hm
    simp only [List.mem_cons, List.mem_append, List.not_mem_nil, or_false] at hm
    rcases hm with h' | h' | h' | h' | h' | h' | h'
    · revert h'; decide
    · exact no62_w hn h'
    · revert h'; decide
    · revert h'; decide
    · exact no62_w hh h'
    · revert h'; decide
    · revert h'; decide
  · rw [app_data, hM2, auto_mail hn hh hhl y.data.toList, hs]

theorem link_cases (c : UInt8) : (linkC c = true ∧ 32 < c.toNat ∧ c.toNat ≠ 127 ∧ c.toNat ≠ 60 ∧ c.toNat ≠ 62) ∨ (c.toNat ≤ 32 ∨ (32 < c.toNat ∧ c.toNat = 127) ∨ (32 < c.toNat ∧ c.toNat = 60) ∨ (32 < c.toNat ∧ c.toNat = 62)) := by
  have h := link_mem c
  by_cases h1 : 32 < c.toNat ∧ c.toNat ≠ 127 ∧ c.toNat ≠ 60 ∧ c.toNat ≠ 62
  · left
    refine ⟨?_, h1⟩
    rw [h]
    simp [h1]
  · right; omega

set_option maxHeartbeats 8000000 in
set_option maxRecDepth 8000 in
theorem walk (s0 : ByteArray) (w0 : s0.size ≤ 140737488351232) (s1 : ByteArray) (w1 : s1.size ≤ 140737488351232) (s2 : ByteArray) (w2 : s2.size ≤ 140737488351232) (s3 : ByteArray) (w3 : s3.size ≤ 140737488351232) (w : World) (hm : ML w) :
    Calls Tryd.prog 8 #[.string s0, .string s1, .string s2, .string s3] w fun e w' => e = .returned (.bool true) ∧ Below w.heap.size w w' := by
  have HS := (show Hid _ from ans_shown w)
  have h0 := Fwd.start hm
  have HW1 : Hid (∀ w', Fwd w w' → Calls Tryd.prog 18 #[.string ⟨#[97, 98]⟩, .string s0, .int .i64 32] w' fun e w2 => ∃ L : ByteArray, e = .returned (.string L) ∧ (∃ l, L.data.toList = [97, 98] ++ l ∧ AllW l) ∧ L.size ≤ 32 ∧ Fwd w w2) := fun w' h => ans_word w (f := ⟨#[97, 98]⟩) (s := s0) (by decide) (by omega) (most := 32) (by decide) (by decide) w' h
  have HW2 : Hid (∀ w', Fwd w w' → Calls Tryd.prog 18 #[.string ⟨#[109]⟩, .string s2, .int .i64 60] w' fun e w2 => ∃ L : ByteArray, e = .returned (.string L) ∧ (∃ l, L.data.toList = [109] ++ l ∧ AllW l) ∧ L.size ≤ 60 ∧ Fwd w w2) := fun w' h => ans_word w (f := ⟨#[109]⟩) (s := s2) (by decide) (by omega) (most := 60) (by decide) (by decide) w' h
  have HW3 : Hid (∀ w', Fwd w w' → Calls Tryd.prog 18 #[.string ⟨#[104]⟩, .string s0, .int .i64 63] w' fun e w2 => ∃ L : ByteArray, e = .returned (.string L) ∧ (∃ l, L.data.toList = [104] ++ l ∧ AllW l) ∧ L.size ≤ 63 ∧ Fwd w w2) := fun w' h => ans_word w (f := ⟨#[104]⟩) (s := s0) (by decide) (by omega) (most := 63) (by decide) (by decide) w' h
  have W3 := (show Hid _ from w3)
  have z3 : (s3.size : Int) ≤ 140737488351232 := by omega
  have z1 : (s1.size : Int) ≤ 140737488351232 := by omega
  clear w0 w1 w2 w3 hm
  go_enter Tryd.func8, Tryd.ntmps8
  go_wp2_with (go_at_call 9; refine (HS.out _ h0).mono ?_; rintro e wa ⟨rfl, ha⟩)
  clear h0 HS
  go_wp2_with (go_at_call_of 18 (Value.int .i64 32); refine (HW1.out _ ha).mono ?_; rintro e wb ⟨L, rfl, ⟨l, hL, hl⟩, hLs, hb⟩)
  clear ha HW1
  have hll : l.length ≤ 30 := by
    have := congrArg List.length hL
    rw [len_data] at this
    simp at this
    omega
  have HL := (show Hid _ from hL)
  have HLw := (show Hid _ from hl)
  clear hL hl
  go_wp2
  go_loop [10, 11] (fun cv i => ∃ (k : Nat) (C : ByteArray), i = .int .i64 (k : Int) ∧ cv = .string C ∧ k ≤ 300 ∧ k ≤ s1.size ∧ C.size ≤ 33 + k ∧ Hid (∃ r, C.data.toList = [97, 98] ++ l ++ 58 :: r ∧ (∀ c ∈ r, linkC c = true) ∧ r.length ≤ k)) (fun _ i => 300 - (intOf i).toNat)
  case atStart => exact ⟨0, L ++ ByteArray.mk #[58], rfl, rfl, by omega, by omega, by rw [ByteArray.size_append]; have : (ByteArray.mk #[58]).size = 1 := rfl; omega, [], by rw [app_data, HL.out], (fun c hc => by cases hc), by simp⟩
  case round =>
    obtain ⟨k, C, rfl, rfl, hk3, hks, hCs, hC⟩ := hrel
    by_cases hlt : k < s1.size ∧ k < 300
    · obtain ⟨h1, h2⟩ := hlt
      have g1 : (k : Int) < (s1.size : Int) := by omega
      have g2 : decide ((k : Int) < 300) = true := by simp; omega
      have g3 : (k : Int) + 1 ≤ (s1.size : Int) := by omega
      obtain ⟨c, hc⟩ : ∃ c, s1[k] = c := ⟨_, rfl⟩
      have HX : Hid ((s1.extract k (k + 1)).data.toList = [c] ∧ (s1.extract k (k + 1)).size = 1) := by
        have e : (s1.extract k (k + 1)).data.toList = [c] := by
          rw [extract_eq]
          have : (s1.data.toList.drop k) = c :: s1.data.toList.drop (k + 1) := by
            rw [List.drop_eq_getElem_cons (by rw [len_data]; exact h1)]
            exact congrArg (· :: _) hc
          rw [this]
          simp
        exact ⟨e, by rw [← len_data, e]; rfl⟩
      have x1 : (s1.extract k (k + 1)).size = 1 := HX.out.2
      rcases link_cases c with ⟨hlk, q1, q2, q3, q4⟩ | q | ⟨q, q'⟩ | ⟨q, q'⟩ | ⟨q, q'⟩
      · have p2 : ((c.toNat : Int) != 127) = true := by simp; omega
        have p3 : ((c.toNat : Int) != 60) = true := by simp; omega
        have p4 : ((c.toNat : Int) != 62) = true := by simp; omega
        have hsl : ∀ w, (Instr.slice 9 (.string s1) (some (.int .i64 (k : Int))) (some (.int .i64 ((k : Int) + 1))) none).run Tryd.prog w = .ok (.string (s1.extract k (k + 1))) w := fun w => by
          rw [run_slice_string w 9 s1 .i64 .i64 _ _ Tryd.underlying9 (by omega) (by omega) (by omega), show ((k : Int)).toNat = k by omega, show ((k : Int) + 1).toNat = k + 1 by omega]
        clear x1
        obtain ⟨Y, hY⟩ : ∃ Y, Y = s1.extract k (k + 1) := ⟨_, rfl⟩
        rw [← hY] at hsl HX
        have y1 : Y.size = 1 := HX.out.2
        clear hY
        go_wp2
        go_round
        case rel =>
          obtain ⟨r, e1, e2, e3⟩ := hC.out
          refine ⟨k + 1, C ++ Y, by go_num, rfl, by omega, by omega, by rw [ByteArray.size_append]; omega, r ++ [c], ?_, ?_, by simp; omega⟩
          · rw [app_data, e1, HX.out.1]; simp
          · intro x hx
            rcases List.mem_append.1 hx with h | h
            · exact e2 x h
            · simp only [List.mem_cons, List.not_mem_nil, or_false] at h
              rw [h]; exact hlk
        case measure => simp [intOf]; omega
      · have p1 : ¬ (32 : Int) < (c.toNat : Int) := by omega
        clear x1
        go_wp2
        go_round
        case rel => obtain ⟨r, e1, e2, e3⟩ := hC.out; exact ⟨k + 1, C, by go_num, rfl, by omega, by omega, by omega, r, e1, e2, by omega⟩
        case measure => simp [intOf]; omega
      · have p1 : (c.toNat : Int) = 127 := by omega
        clear x1
        go_wp2
        go_round
        case rel => obtain ⟨r, e1, e2, e3⟩ := hC.out; exact ⟨k + 1, C, by go_num, rfl, by omega, by omega, by omega, r, e1, e2, by omega⟩
        case measure => simp [intOf]; omega
      · have p1 : (c.toNat : Int) = 60 := by omega
        clear x1
        go_wp2
        go_round
        case rel => obtain ⟨r, e1, e2, e3⟩ := hC.out; exact ⟨k + 1, C, by go_num, rfl, by omega, by omega, by omega, r, e1, e2, by omega⟩
        case measure => simp [intOf]; omega
      · have p1 : (c.toNat : Int) = 62 := by omega
        clear x1
        go_wp2
        go_round
        case rel => obtain ⟨r, e1, e2, e3⟩ := hC.out; exact ⟨k + 1, C, by go_num, rfl, by omega, by omega, by omega, r, e1, e2, by omega⟩
        case measure => simp [intOf]; omega
    · have HF1 : Hid (Ans w 12 #[.string (ByteArray.mk #[60] ++ C ++ ByteArray.mk #[62] ++ s3)] (.tuple #[.string C, .string C, .int .i64 ((C.size : Int) + 2)])) := by
        obtain ⟨r, e1, e2, e3⟩ := hC.out
        exact ans_first w e1 HLw.out hll e2 (by omega) s3 W3.out
      have hC4 : C.size ≤ 400 := by omega
      have hk : (k < s1.size ∧ k = 300) ∨ ¬ k < s1.size := by omega
      clear hlt hC hCs hLs hll HL
      rcases hk with ⟨hk1, hk2⟩ | hk1
      · subst hk2
        go_wp2_with (go_at_call_of 12 (Value.string (ByteArray.mk #[60] ++ C ++ ByteArray.mk #[62] ++ s3)); refine (HF1.out _ hb).mono ?_; rintro e wc ⟨rfl, hc⟩)
        clear hb HF1
        go_wp2_with (go_at_call_of 18 (Value.int .i64 60); refine (HW2.out _ hc).mono ?_; rintro e wd ⟨N, rfl, ⟨n, hN, hn⟩, hNs, hd⟩)
        clear hc HW2
        go_wp2_with (go_at_call_of 18 (Value.int .i64 63); refine (HW3.out _ hd).mono ?_; rintro e we ⟨H, rfl, ⟨h, hH, hh⟩, hHs, he⟩)
        clear hd HW3
        have HF2 : Hid (Ans w 12 #[.string (ByteArray.mk #[60] ++ (N ++ ByteArray.mk #[64] ++ H ++ ByteArray.mk #[46, 120]) ++ ByteArray.mk #[62] ++ s3)] (.tuple #[.string (ByteArray.mk #[109, 97, 105, 108, 116, 111, 58] ++ (N ++ ByteArray.mk #[64] ++ H ++ ByteArray.mk #[46, 120])), .string (N ++ ByteArray.mk #[64] ++ H ++ ByteArray.mk #[46, 120]), .int .i64 (((N ++ ByteArray.mk #[64] ++ H ++ ByteArray.mk #[46, 120]).size : Int) + 2)])) := by
          have e1 := congrArg List.length hN
          have e2 := congrArg List.length hH
          rw [len_data] at e1 e2
          simp at e1 e2
          exact ans_second w (M := N ++ ByteArray.mk #[64] ++ H ++ ByteArray.mk #[46, 120]) (n := n) (h := h) (by rw [app_data, app_data, app_data, hN, hH]) hn hh (by omega) (by omega) s3 W3.out
        clear hN hH hn hh
        go_wp2_with (go_at_call 12; refine (HF2.out _ he).mono ?_; rintro e wf ⟨rfl, hf⟩)
        go_ret
        have hbe := hf.2
        refine ⟨?_, hbe⟩
        kernel_rfl
      · have g1 : ¬ (k : Int) < (s1.size : Int) := by omega
        go_wp2_with (go_at_call_of 12 (Value.string (ByteArray.mk #[60] ++ C ++ ByteArray.mk #[62] ++ s3)); refine (HF1.out _ hb).mono ?_; rintro e wc ⟨rfl, hc⟩)
        clear hb HF1
        go_wp2_with (go_at_call_of 18 (Value.int .i64 60); refine (HW2.out _ hc).mono ?_; rintro e wd ⟨N, rfl, ⟨n, hN, hn⟩, hNs, hd⟩)
        clear hc HW2
        go_wp2_with (go_at_call_of 18 (Value.int .i64 63); refine (HW3.out _ hd).mono ?_; rintro e we ⟨H, rfl, ⟨h, hH, hh⟩, hHs, he⟩)
        clear hd HW3
        have HF2 : Hid (Ans w 12 #[.string (ByteArray.mk #[60] ++ (N ++ ByteArray.mk #[64] ++ H ++ ByteArray.mk #[46, 120]) ++ ByteArray.mk #[62] ++ s3)] (.tuple #[.string (ByteArray.mk #[109, 97, 105, 108, 116, 111, 58] ++ (N ++ ByteArray.mk #[64] ++ H ++ ByteArray.mk #[46, 120])), .string (N ++ ByteArray.mk #[64] ++ H ++ ByteArray.mk #[46, 120]), .int .i64 (((N ++ ByteArray.mk #[64] ++ H ++ ByteArray.mk #[46, 120]).size : Int) + 2)])) := by
          have e1 := congrArg List.length hN
          have e2 := congrArg List.length hH
          rw [len_data] at e1 e2
          simp at e1 e2
          exact ans_second w (M := N ++ ByteArray.mk #[64] ++ H ++ ByteArray.mk #[46, 120]) (n := n) (h := h) (by rw [app_data, app_data, app_data, hN, hH]) hn hh (by omega) (by omega) s3 W3.out
        clear hN hH hn hh
        go_wp2_with (go_at_call 12; refine (HF2.out _ he).mono ?_; rintro e wf ⟨rfl, hf⟩)
        go_ret
        have hbe := hf.2
        refine ⟨?_, hbe⟩
        kernel_rfl

end Go.Proofs.YtkbanlhjeedeeaaDoor.spanLinks
