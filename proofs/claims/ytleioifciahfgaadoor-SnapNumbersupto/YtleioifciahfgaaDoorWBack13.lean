/- SnapBack's walk. -/
import Derived.Test.YtleioifciahfgaaDoorZShown
import Derived.Test.YtleioifciahfgaaDoorZPutR
import Derived.Test.YtleioifciahfgaaDoorZTextS
set_option linter.unusedVariables false
namespace Go.Proofs.YtleioifciahfgaaDoor
open Go.RowKit

theorem own_all {w : World} {B : Nat} {v : Value} {l : List UInt8} (h : OwnB w B v l) : ∃ a cap, v = .slice a l.length cap ∧ l.length ≤ cap ∧ cap ≤ maxLen ∧ BRow w a l.length cap l := by
  obtain ⟨a, cap, rfl⟩ := own_slice h
  refine ⟨a, cap, rfl, ?_, ?_, own_brow h⟩
  · rcases h.2 with ⟨h1, h0⟩ | ⟨g, cap', cur, h1, _, _, h2, h3, _⟩
    · omega
    · injection h1 with _ _ h4
      omega
  · rcases h.2 with ⟨h1, h0⟩ | ⟨g, cap', cur, h1, _, _, h2, h3, _⟩
    · injection h1 with _ _ h4
      rw [h4]; unfold maxLen; omega
    · injection h1 with _ _ h4
      omega

theorem BRow.take {w : World} {a : Option Addr} {len cap : Nat} {l : List UInt8} (h : BRow w a len cap l) (k : Nat) (hk : k < len) : BRow w a k cap (l.take k) := by
  have hl := h.1
  refine ⟨by rw [List.length_take]; omega, ?_⟩
  rcases h.2 with ⟨_, h2, _⟩ | ⟨x, h2, hc⟩
  · omega
  · refine .inr ⟨x, h2, fun j hj => ?_⟩
    rw [List.length_take] at hj
    rw [List.getElem_take]
    exact hc j (by omega)

theorem brow_nil (w : World) : BRow w none 0 0 [] := ⟨rfl, .inl ⟨rfl, rfl, rfl⟩⟩

set_option maxHeartbeats 4000000 in
set_option maxRecDepth 100000 in
theorem back_any (n : Nat) (hn : n < 18446744073709551616) (s : ByteArray) (hs : s.size ≤ 1048576) (a : Option Addr) (len cap : Nat) (l : List UInt8) (hlen : len ≤ 1048576) (cut : Int) (hcut : -9223372036854775808 ≤ cut ∧ cut ≤ 9223372036854775807) (w : World) (hr : BRow w a len cap l) (hG : EType w) :
    Calls Tryd.prog 4 #[.int .u64 (n : Int), .string s, .slice a len cap, .int .i64 cut] w fun e w' => e = .returned (.bool true) ∧ Below w.heap.size w w' := by
  have hpl : (putN n).length ≤ 10 := putN_len n 10 (by omega) (by omega)
  have hpl2 : (putN s.size).length ≤ 10 := putN_len s.size 10 (by omega) (by omega)
  have hp1 := putN_pos n
  have hll := hr.1
  have hsl : s.data.toList.length = s.size := len_data s
  have htl : (putT s.data.toList).length = (putN s.size).length + s.size := by rw [putT, List.length_append, hsl]
  have htp := putN_pos s.size
  go_enter Tryd.func4, Tryd.ntmps4
  go_wp2_with (go_at_call 5; refine (shown_any w hG).mono ?_)
  rintro e w1 ⟨rfl, hb1⟩
  have hc2 := putNumber_any none 0 0 [] n w1 (brow_nil _) hn (by omega)
  go_wp2_with (go_at_call 10; refine hc2.mono ?_)
  rintro e w2 ⟨v2, rfl, hown2, hb12⟩
  rw [List.nil_append] at hown2
  have hb2 := hb1.trans (hb12.mono hb1.size)
  obtain ⟨a2, cap2, rfl, hle2, hcm2, hr2⟩ := own_all hown2
  have hba : Below w2.heap.size w2 (w2.alloc (.cells #[] 5)) := (Below.refl _ _).alloc (Nat.le_refl _) _
  clear hc2
  go_wp2_with (at_builtin; refine wpList_copy (own_made0 w2 w2.heap.size (Nat.le_refl _)) (hr2.below hba) ?c1 hba.size rfl _ _ rfl rfl rfl ?_)
  case c1 => simp; omega
  intro v3 w3 hown3 hb23
  have hb3 := hba.trans hb23
  have hb03 := hb2.trans (hb3.mono hb2.size)
  go_wp2_with (at_builtin; refine wpList_copy hown3 (hr.below hb03) ?c1 hb3.size rfl _ _ rfl rfl rfl ?_)
  case c1 => omega
  intro v4 w4 hown4 hb34
  have hb24 := hb3.trans hb34
  have hb04 := hb2.trans (hb24.mono hb2.size)
  obtain ⟨a4, cap4, rfl, hle4, hcm4, hr4⟩ := own_all hown4
  have hl4 : (putN n ++ l).length = (putN n).length + len := by rw [List.length_append, hll]
  have hc4 := getnum_any a4 _ cap4 _ w4 hr4 (by rw [hl4]; unfold maxLen; omega)
  rw [getN_put0 n l (by omega)] at hc4
  dsimp only at hc4
  rw [hl4] at hc4
  go_wp2_with (go_at_call 6; refine hc4.mono ?_; rintro e w' ⟨rfl, he⟩; have he := he.symm; subst he)
  clear hc4
  have hc5 := putText_any none 0 0 [] s w4 (brow_nil _) (by omega)
  rw [List.nil_append] at hc5
  obtain ⟨T, hT⟩ : ∃ T, putT s.data.toList = T := ⟨_, rfl⟩
  have gA := getT_put s.data.toList l (by omega)
  have gB := getT_less s.data.toList (by omega)
  have gC := getT_cut s.data.toList (by omega)
  rw [hT] at hc5 htl gA gB gC
  rw [hsl] at gA gB gC
  have HTL : Hid (T.length = (putN s.size).length + s.size) := htl
  clear htl
  go_wp2_with (go_at_call 11; refine hc5.mono ?_)
  rintro e w5 ⟨v5, rfl, hown5, hb45⟩
  clear hc5
  have hb05 := hb04.trans (hb45.mono hb04.size)
  obtain ⟨a5, cap5, rfl, hle5, hcm5, hr5⟩ := own_all hown5
  have hba5 : Below w5.heap.size w5 (w5.alloc (.cells #[] 5)) := (Below.refl _ _).alloc (Nat.le_refl _) _
  go_wp2_with (at_builtin; refine wpList_copy (own_made0 w5 w5.heap.size (Nat.le_refl _)) (hr5.below hba5) ?c1 hba5.size rfl _ _ rfl rfl rfl ?_)
  case c1 => have := HTL.out; simp; omega
  intro v6 w6 hown6 hb56
  have hb6 := hba5.trans hb56
  have hb06 := hb05.trans (hb6.mono hb05.size)
  go_wp2_with (at_builtin; refine wpList_copy hown6 (hr.below hb06) ?c1 hb6.size rfl _ _ rfl rfl rfl ?_)
  case c1 => have := HTL.out; omega
  intro v7 w7 hown7 hb67
  have hb57 := hb6.trans hb67
  have hb07 := hb05.trans (hb57.mono hb05.size)
  obtain ⟨a7, cap7, rfl, hle7, hcm7, hr7⟩ := own_all hown7
  have hl7 : (T ++ l).length = T.length + len := by rw [List.length_append, hll]
  unfold maxLen at hcm2 hcm4 hcm5 hcm7
  have htl := HTL.out
  have hc7 := getText_any a7 _ cap7 _ (s.size : Int) w7 hr7 (by omega) (by omega) (by omega) (by omega)
  rw [gA] at hc7
  dsimp only at hc7
  rw [mk_data, hl7] at hc7
  have hr57 := hr5.below hb57
  have hc8 := getText_any a5 _ cap5 _ ((s.size : Int) - 1) w7 hr57 (by omega) (by omega) (by omega) (by omega)
  rw [gB] at hc8
  clear htl hl7
  go_wp2_with (fail)
  refine hc7.mono ?_
  rintro e w' ⟨rfl, he⟩
  have he := he.symm
  subst he
  clear hc7 gA gB
  have HC8 : Hid (Calls Tryd.prog 8 #[.slice a5 T.length cap5, .int .i64 ((s.size : Int) - 1)] w7 fun e w' => e = .returned (.tuple #[.string ⟨(getT T ((s.size : Int) - 1)).1.toArray⟩, .int .i64 0]) ∧ w' = w7) := hc8
  have HGC : Hid (∀ k, k < T.length → (getT (T.take k) (s.size : Int)).2 = 0) := gC
  have HR2 : Hid (BRow w7 a2 (putN n).length cap2 (putN n)) := hr2.below (hb24.trans ((hb45.mono hb24.size).trans (hb57.mono (Nat.le_trans hb24.size hb45.size))))
  have HR5 : Hid (BRow w7 a5 T.length cap5 T) := hr57
  clear hc8 gC hr57 hr5 hr2 hown2 hown3 hown4 hown5 hown6 hown7 hr4 hr7 hr
  go_wp2_with (fail)
  refine HC8.out.mono ?_
  rintro e w' ⟨rfl, he⟩
  have he := he.symm
  subst he
  clear HC8
  have htl2 := HTL.out
  obtain ⟨x2, rfl, _⟩ := HR2.out.at 0 (by omega)
  obtain ⟨x5, rfl, _⟩ := HR5.out.at 0 (by omega)
  have q1 : (((putN n).length : Int) == 0) = false := beq_eq_false_iff_ne.2 (by omega)
  have q2 : ((T.length : Int) == 0) = false := beq_eq_false_iff_ne.2 (by omega)
  have q1b : 0 < (putN n).length := by omega
  have q2b : 0 < T.length := by omega
  have hT2 : T.length ≤ 2097152 := by omega
  clear htp hpl2
  by_cases hneg : cut < 0
  · obtain ⟨c, hc⟩ : ∃ c : Nat, -(cut + 1) = (c : Int) := ⟨(-(cut + 1)).toNat, by omega⟩
    have hk1 : (c : Int).tmod ((putN n).length : Int) = ((c % (putN n).length : Nat) : Int) := by rw [Int.ofNat_tmod]
    have hk2 : (c : Int).tmod (T.length : Int) = ((c % T.length : Nat) : Int) := by rw [Int.ofNat_tmod]
    have hk1e : (c : Int) % ((putN n).length : Int) = ((c % (putN n).length : Nat) : Int) := by rw [Int.natCast_emod]
    have hk2e : (c : Int) % (T.length : Int) = ((c % T.length : Nat) : Int) := by rw [Int.natCast_emod]
    generalize hK1 : c % (putN n).length = k1 at hk1 hk1e
    generalize hK2 : c % T.length = k2 at hk2 hk2e
    have hl1 : k1 < (putN n).length := by rw [← hK1]; exact Nat.mod_lt _ (by omega)
    have hl2 : k2 < T.length := by rw [← hK2]; exact Nat.mod_lt _ (by omega)
    have HCa := getnum_any (some x2) k1 cap2 _ w7 (HR2.out.take k1 hl1) (by unfold maxLen; omega)
    rw [getN_cut n 0 0 k1 hl1] at HCa
    have HCb := getText_any (some x5) k2 cap5 _ (s.size : Int) w7 (HR5.out.take k2 hl2) (by omega) (by omega) (by omega) (by omega)
    rw [HGC.out k2 hl2] at HCb
    clear hK1 hK2 htl2
    go_wp2_with (fail)
    refine HCa.mono ?_
    rintro e w' ⟨rfl, he⟩
    have he := he.symm
    subst he
    clear HCa
    go_wp2_with (fail)
    refine HCb.mono ?_
    rintro e w' ⟨rfl, he⟩
    have he := he.symm
    subst he
    clear HCb
    go_wp2
    go_ret
    exact ⟨rfl, hb07⟩
  · obtain ⟨c, rfl⟩ : ∃ c : Nat, cut = (c : Int) := ⟨cut.toNat, by omega⟩
    have hk1 : (c : Int).tmod ((putN n).length : Int) = ((c % (putN n).length : Nat) : Int) := by rw [Int.ofNat_tmod]
    have hk2 : (c : Int).tmod (T.length : Int) = ((c % T.length : Nat) : Int) := by rw [Int.ofNat_tmod]
    have hk1e : (c : Int) % ((putN n).length : Int) = ((c % (putN n).length : Nat) : Int) := by rw [Int.natCast_emod]
    have hk2e : (c : Int) % (T.length : Int) = ((c % T.length : Nat) : Int) := by rw [Int.natCast_emod]
    generalize hK1 : c % (putN n).length = k1 at hk1 hk1e
    generalize hK2 : c % T.length = k2 at hk2 hk2e
    have hl1 : k1 < (putN n).length := by rw [← hK1]; exact Nat.mod_lt _ (by omega)
    have hl2 : k2 < T.length := by rw [← hK2]; exact Nat.mod_lt _ (by omega)
    have HCa := getnum_any (some x2) k1 cap2 _ w7 (HR2.out.take k1 hl1) (by unfold maxLen; omega)
    rw [getN_cut n 0 0 k1 hl1] at HCa
    have HCb := getText_any (some x5) k2 cap5 _ (s.size : Int) w7 (HR5.out.take k2 hl2) (by omega) (by omega) (by omega) (by omega)
    rw [HGC.out k2 hl2] at HCb
    clear hK1 hK2 htl2
    go_wp2_with (fail)
    refine HCa.mono ?_
    rintro e w' ⟨rfl, he⟩
    have he := he.symm
    subst he
    clear HCa
    go_wp2_with (fail)
    refine HCb.mono ?_
    rintro e w' ⟨rfl, he⟩
    have he := he.symm
    subst he
    clear HCb
    go_wp2
    go_ret
    exact ⟨rfl, hb07⟩
end Go.Proofs.YtleioifciahfgaaDoor
