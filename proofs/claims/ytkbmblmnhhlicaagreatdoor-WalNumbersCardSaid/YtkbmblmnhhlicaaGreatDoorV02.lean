/- Several texts in one. -/
import Derived.Test.YtkbmblmnhhlicaaGreatDoorDBeg
import Derived.Test.YtkbmblmnhhlicaaGreatDoorV01
import Derived.Lib.LaidTab
import Derived.Lib.ItoaNum
import Derived.Test.YtkbmblmnhhlicaaGreatDoorD03
import Derived.Test.YtkbmblmnhhlicaaGreatDoorDFall
import Derived.BigQuiet
set_option linter.unusedVariables false
/- The tables that the program reads: where they lie; worlds in which they do. -/
namespace Go.Proofs.YtkbmblmnhhlicaaGreatDoor
open Go.RowKit

structure Tabs (w : World) : Prop where
  crc : Lib.TabIs Tryz.prog w "scriptorium/crc.steps" .u32 (crcTab.map fun n => ((n : Nat) : Int))
  pow : Lib.TabIs Tryz.prog w "internal/strconv.uint64pow10" .u64 Lib.pow10Tab
theorem g_crc : Program.globalNamed Tryz.prog "scriptorium/crc.steps" = some 0 := by kernel_rfl
theorem g_pow : Program.globalNamed Tryz.prog "internal/strconv.uint64pow10" = some 1 := by kernel_rfl
theorem tab_keep {w w' : World} {name : String} {k : IntKind} {zs : List Int} {g : Nat} (hg : Program.globalNamed Tryz.prog name = some g) (h : Lib.TabIs Tryz.prog w name k zs) (hk : w'.heap[g]? = w.heap[g]?) : Lib.TabIs Tryz.prog w' name k zs := by
  unfold Lib.TabIs World.var? at h ⊢
  rw [hg] at h ⊢
  simp only [Option.bind_some] at h ⊢
  rw [hk]
  exact h
theorem tab_lt2 {w : World} {name : String} {k : IntKind} {zs : List Int} {g : Nat} (hg : Program.globalNamed Tryz.prog name = some g) (h : Lib.TabIs Tryz.prog w name k zs) : g < w.heap.size := by
  unfold Lib.TabIs World.var? at h
  rw [hg] at h
  simp only [Option.bind_some] at h
  rcases Nat.lt_or_ge g w.heap.size with q | q
  · exact q
  · rw [Array.getElem?_eq_none q] at h
    cases h
theorem Tabs.keep {w w' : World} (h : Tabs w) (h0 : w'.heap[0]? = w.heap[0]?) (h1 : w'.heap[1]? = w.heap[1]?) : Tabs w' := ⟨tab_keep g_crc h.crc h0, tab_keep g_pow h.pow h1⟩
theorem Tabs.two {w : World} (h : Tabs w) : 2 ≤ w.heap.size := tab_lt2 g_pow h.pow
theorem Tabs.below {w w' : World} {B : Nat} (h : Tabs w) (hB : 2 ≤ B) (hb : Below B w w') : Tabs w' := h.keep (hb.block 0 (by omega)) (hb.block 1 (by omega))
theorem Tabs.bel {w w' : World} (h : Tabs w) (hb : Below w.heap.size w w') : Tabs w' := h.below h.two hb
theorem Tabs.fr {w w' : World} {S : Nat → Prop} (h : Tabs w) (hf : Fr S w w') (hS : ∀ k, S k → 2 ≤ k) : Tabs w' :=
  h.keep (hf.block 0 (by have := h.two; omega) (fun q => by have := hS _ q; omega)) (hf.block 1 (by have := h.two; omega) (fun q => by have := hS _ q; omega))
theorem Tabs.crc_cell {w : World} (h : Tabs w) (i : Nat) (hi : i < 16) : w.cell? ⟨0, i, none⟩ = some (.int .u32 ((crcTab.getD i 0 : Nat) : Int)) := by
  have h1 := Lib.TabIs.cell h.crc g_crc i (by rw [List.length_map]; exact hi)
  rw [h1]
  congr 2
  have : ∀ j : Fin 16, (crcTab.map fun n => ((n : Nat) : Int)).getD j.val 0 = ((crcTab.getD j.val 0 : Nat) : Int) := by decide
  exact this ⟨i, hi⟩
theorem Tabs.alloc {w : World} (h : Tabs w) (o : Obj) : Tabs (w.alloc o) := h.bel ((Below.refl _ w).alloc (Nat.le_refl _) o)
theorem Tabs.drewN {w : World} (h : Tabs w) (n : Nat) : Tabs (w.drewN n) := h.keep rfl rfl
theorem Tabs.drew {w : World} (h : Tabs w) : Tabs w.drew := h.keep rfl rfl
end Go.Proofs.YtkbmblmnhhlicaaGreatDoor

/- crc.Sum, walked. -/
namespace Go.Proofs.YtkbmblmnhhlicaaGreatDoor
open Go.RowKit

theorem xor32 (a b : Nat) (ha : a < 4294967296) (hb : b < 4294967296) : bits .xor .u32 (a : Int) (b : Int) = ((a ^^^ b : Nat) : Int) := u32_xor_nat a b ha hb

set_option maxHeartbeats 4000000 in
set_option maxRecDepth 20000 in
theorem sum_any {w : World} {pb : Nat} {a1 a2 : Option Addr} {n1 c1 n2 c2 : Nat} {l1 l2 : List UInt8} (ht : Tabs w) (p0 : w.cell? ⟨pb, 0, none⟩ = some (.slice a1 n1 c1)) (p1 : w.cell? ⟨pb, 1, none⟩ = some (.slice a2 n2 c2)) (h1 : BRow w a1 n1 c1 l1) (h2 : BRow w a2 n2 c2 l2) (hm1 : n1 ≤ 140737488355328) (hm2 : n2 ≤ 140737488355328) :
    Calls Tryz.prog 164 #[.slice (some ⟨pb, 0, none⟩) 2 2] w fun e w' => e = .returned (.int .u32 ((crcL (l1 ++ l2) : Nat) : Int)) ∧ w' = w := by
  obtain ⟨T, hT⟩ : ∃ T, crcR 4294967295 (l1 ++ l2) = T := ⟨_, rfl⟩
  have hTl : T < 4294967296 := by rw [← hT]; exact crcR_lt (by decide)
  have hfin : bits .xor .u32 (T : Int) 4294967295 = ((crcL (l1 ++ l2) : Nat) : Int) := by
    have := xor32 T 4294967295 hTl (by decide)
    rw [show ((4294967295 : Nat) : Int) = 4294967295 from rfl] at this
    rw [this]
    unfold crcL
    rw [hT]
  generalize crcL (l1 ++ l2) = R at hfin ⊢
  obtain ⟨rest, hr0, hr1, hr2⟩ : ∃ rest : Nat → List UInt8, rest 0 = l1 ++ l2 ∧ rest 1 = l2 ∧ rest 2 = [] := ⟨fun k => if k = 0 then l1 ++ l2 else if k = 1 then l2 else [], rfl, rfl, rfl⟩
  have HP : Hid (∀ k, k < 2 → ∃ a n c l, w.cell? ⟨pb, k, none⟩ = some (.slice a n c) ∧ BRow w a n c l ∧ n ≤ 140737488355328 ∧ rest k = l ++ rest (k + 1)) := by
    intro k hk
    match k, hk with
    | 0, _ => exact ⟨a1, n1, c1, l1, p0, h1, hm1, by rw [hr0, hr1]⟩
    | 1, _ => exact ⟨a2, n2, c2, l2, p1, h2, hm2, by rw [hr1, hr2]; simp⟩
  have HT : Hid (crcR 4294967295 (rest 0) = T) := by rw [hr0]; exact hT
  have HR2 : Hid (rest 2 = []) := hr2
  have HTab : Hid (Tabs w) := ht
  have HTl : Hid (T < 4294967296) := hTl
  clear ht p0 p1 h1 h2 hm1 hm2 hT hr0 hr1 hr2 hTl
  clear l1 l2
  go_enter Tryz.func164, Tryz.ntmps164
  go_wp2
  go_loopw [3, 10] (fun sm i wr => Hid (wr = w) ∧ ∃ (k s : Nat), sm = .int .u32 s ∧ i = .int .i64 k ∧ k ≤ 2 ∧ Hid (s < 4294967296) ∧ Hid (crcR s (rest k) = T)) (fun _ i _ => 2 - (intOf i).toNat)
  case atStart => exact ⟨rfl, 0, 4294967295, rfl, rfl, by omega, by show (4294967295 : Nat) < 4294967296; decide, HT⟩
  case round =>
    obtain ⟨HW, k, s, rfl, rfl, hk2, HS, HG⟩ := hrel
    obtain rfl : w = wr := HW.out.symm
    by_cases hlt : k < 2
    · obtain ⟨a, n, c, l, pc, hrow, hn, hrest⟩ := HP.out k hlt
      have HG2 := HG.out
      rw [hrest, crcR_append] at HG2
      obtain ⟨M, hM⟩ : ∃ M, crcR s l = M := ⟨_, rfl⟩
      have hMl : M < 4294967296 := by rw [← hM]; exact crcR_lt HS.out
      rw [hM] at HG2
      have HG3 : Hid (crcR M (rest (k + 1)) = T) := HG2
      have HM : Hid (crcR s l = M) := hM
      have HML : Hid (M < 4294967296) := hMl
      have hl := hrow.1
      have HRow : Hid (BRow w a n c l) := hrow
      have HL : Hid (l.length = n) := hl
      clear HG HG2 hM hMl hrest hrow hl
      go_wp2
      go_loopw [3, 16] (fun sm i w2 => Hid (w2 = w) ∧ ∃ (j s' : Nat), sm = .int .u32 s' ∧ i = .int .i64 j ∧ j ≤ n ∧ Hid (s' < 4294967296) ∧ Hid (crcR s' (l.drop j) = M)) (fun _ i _ => n - (intOf i).toNat)
      case atStart => exact ⟨rfl, 0, s, rfl, rfl, by omega, HS, by show crcR s (l.drop 0) = M; simpa using HM.out⟩
      case round =>
        obtain ⟨HW2, j, s', rfl, rfl, hjn, HS', HG'⟩ := hrel
        obtain rfl : w = wr := HW2.out.symm
        by_cases hjl : j < n
        · obtain ⟨x, rfl, hc⟩ := HRow.out.at j hjl
          have hdr : l.drop j = l.getD j 0 :: l.drop (j + 1) := by
            have := HL.out
            rw [List.drop_eq_getElem_cons (by omega)]
            congr 1
            simp [List.getD_eq_getElem?_getD, this.symm ▸ hjl]
          generalize l.getD j 0 = cc at hc hdr
          have HG2 := HG'.out
          rw [hdr] at HG2
          obtain ⟨v, hv⟩ : ∃ v, cc.toNat = v := ⟨_, rfl⟩
          have hv256 : v < 256 := by have := cc.toNat_lt; omega
          rw [hv] at hc
          obtain ⟨s1, hs1⟩ : ∃ s1, s' ^^^ v = s1 := ⟨_, rfl⟩
          obtain ⟨s2, hs2⟩ : ∃ s2, nib s1 = s2 := ⟨_, rfl⟩
          obtain ⟨s3, hs3⟩ : ∃ s3, nib s2 = s3 := ⟨_, rfl⟩
          have l1 : s1 < 4294967296 := by rw [← hs1]; exact xor_lt32 HS'.out (by omega)
          have l2 : s2 < 4294967296 := by rw [← hs2]; exact nib_lt l1
          have l3 : s3 < 4294967296 := by rw [← hs3]; exact nib_lt l2
          have e1 : bits .xor .u32 (s' : Int) (v : Int) = (s1 : Int) := by rw [xor32 _ _ HS'.out (by omega), hs1]
          obtain ⟨t1, ht1⟩ : ∃ t1, crcTab.getD (s1 % 16) 0 = t1 := ⟨_, rfl⟩
          obtain ⟨t2, ht2⟩ : ∃ t2, crcTab.getD (s2 % 16) 0 = t2 := ⟨_, rfl⟩
          have k1 := HTab.out.crc_cell (s1 % 16) (by omega)
          have k2 := HTab.out.crc_cell (s2 % 16) (by omega)
          rw [ht1] at k1
          rw [ht2] at k2
          have e2 : bits .xor .u32 ((s1 : Int) / 16) (t1 : Int) = (s2 : Int) := by
            have := xor32 (s1 / 16) t1 (by omega) (by rw [← ht1]; exact tab_lt _)
            rw [show ((s1 / 16 : Nat) : Int) = (s1 : Int) / 16 from rfl] at this
            rw [this, ← hs2, ← ht1]; rfl
          have e3 : bits .xor .u32 ((s2 : Int) / 16) (t2 : Int) = (s3 : Int) := by
            have := xor32 (s2 / 16) t2 (by omega) (by rw [← ht2]; exact tab_lt _)
            rw [show ((s2 / 16 : Nat) : Int) = (s2 : Int) / 16 from rfl] at this
            rw [this, ← hs3, ← ht2]; rfl
          have HN : Hid (crcR s3 (l.drop (j + 1)) = M) := by
            show _ = _
            rw [← HG2]
            show _ = crcR (crcB s' cc) _
            unfold crcB
            rw [hv, hs1, hs2, hs3]
          have H3 : Hid (s3 < 4294967296) := l3
          have b1 : (s1 : Int) < 4294967296 := by omega
          have b2 : (s2 : Int) < 4294967296 := by omega
          clear HG' HG2 hdr hs1 hs2 hs3 ht1 ht2 l1 l2 l3
          go_wp2
          go_roundw
          case rel => first | exact ⟨True.intro, j + 1, s3, rfl, rfl, by omega, H3, HN⟩ | exact ⟨rfl, j + 1, s3, rfl, rfl, by omega, H3, HN⟩
          case measure => simp [intOf]; omega
        · have HG2 := HG'.out
          rw [List.drop_of_length_le (by have := HL.out; omega)] at HG2
          obtain rfl : s' = M := HG2
          have hj : j = n := by omega
          subst hj
          clear HG'
          go_wp2
          go_roundw
          case rel => first | exact ⟨True.intro, k + 1, s', rfl, rfl, by omega, HML, HG3⟩ | exact ⟨rfl, k + 1, s', rfl, rfl, by omega, HML, HG3⟩
          case measure => simp [intOf]; omega
    · have hk : k = 2 := by omega
      subst hk
      have HG2 := HG.out
      rw [HR2.out] at HG2
      obtain rfl : s = T := HG2
      clear HG
      go_wp2
      go_ret
      exact ⟨rfl, rfl⟩
end Go.Proofs.YtkbmblmnhhlicaaGreatDoor

/- Numbers as bytes, sums and frames, walked. -/
namespace Go.Proofs.YtkbmblmnhhlicaaGreatDoor
open Go.RowKit

set_option maxHeartbeats 2000000 in
set_option maxRecDepth 20000 in
theorem low_any (B : Nat) (v : Value) (acc : List UInt8) (n k : Nat) (w : World) (hown : OwnB w B v acc) (hn : n < 18446744073709551616) (hk : k ≤ 8) (hlen : acc.length + k ≤ 140737488355328) (hB : B ≤ w.heap.size) :
    Calls Tryz.prog 130 #[v, .int .u64 (n : Int), .int .i64 (k : Int)] w (Wrote B w acc (leN k n)) := by
  obtain ⟨T, hT⟩ : ∃ T, acc ++ leN k n = T := ⟨_, rfl⟩
  have hTl : T.length ≤ 140737488355328 := by rw [← hT]; simp [leN_length]; omega
  unfold Wrote
  rw [hT]
  go_enter Tryz.func130, Tryz.ntmps130
  go_wp2
  go_loopw [0, 1, 8] (fun u m i wr => ∃ (acc' : List UInt8) (n' j : Nat), m = .int .u64 (n' : Int) ∧ i = .int .i64 (j : Int) ∧ j ≤ k ∧ n' < 18446744073709551616 ∧ OwnB wr B u acc' ∧ Below B w wr ∧ B ≤ wr.heap.size ∧ Hid (acc' ++ leN (k - j) n' = T)) (fun _ _ i _ => k - (intOf i).toNat)
  case atStart => exact ⟨acc, n, 0, rfl, rfl, by omega, hn, hown, Below.refl _ _, hB, hT⟩
  case round =>
    obtain ⟨acc', n', j, rfl, rfl, hj, hn', hown', hb', hB', HT⟩ := hrel
    by_cases hlt : j < k
    · have HT2 := HT.out
      rw [show k - j = (k - (j + 1)) + 1 by omega, leN] at HT2
      have hl : acc'.length + 1 ≤ 140737488355328 := by have := congrArg List.length HT2; simp at this; omega
      have HT3 : Hid ((acc' ++ [(n' % 256).toUInt8]) ++ leN (k - (j + 1)) (n' / 256) = T) := by show _ = _; rw [← HT2]; simp
      obtain ⟨cc, hcc⟩ : ∃ cc, (n' % 256).toUInt8 = cc := ⟨_, rfl⟩
      have hcv : cc.toNat = n' % 256 := by rw [← hcc]; exact u8_mod n'
      rw [hcc] at HT3
      clear HT HT2 hcc
      go_wp2_with (at_builtin; refine wpList_copy (l := [cc]) (hown'.alloc _) (brow_one _ _ _ ?c1 _) ?c2 ?c3 rfl _ _ rfl rfl rfl ?_)
      case c1 => omega
      case c2 => simp; omega
      case c3 => simp; omega
      intro vo w2 hown2 hb2
      go_wp2
      go_roundw
      case rel =>
        have hb3 : Below B w w2 := (hb'.alloc hB' _).trans hb2
        exact ⟨acc' ++ [cc], n' / 256, j + 1, rfl, rfl, by omega, by omega, hown2, hb3, Nat.le_trans hB hb3.size, HT3⟩
      case measure => simp [intOf]; omega
    · have hjk : j = k := by omega
      subst hjk
      have HT2 := HT.out
      rw [Nat.sub_self, leN, List.append_nil] at HT2
      subst HT2
      clear HT
      go_wp2
      go_ret
      exact ⟨_, rfl, hown', hb'⟩

set_option maxHeartbeats 2000000 in
set_option maxRecDepth 20000 in
theorem sumOf_any {w : World} (ht : Tabs w) (i : Nat) (hi : i < 9223372036854775808) {a : Option Addr} {n c : Nat} {l : List UInt8} (h : BRow w a n c l) (hn : n ≤ 140737488355328) :
    Calls Tryz.prog 131 #[.int .i64 (i : Int), .slice a n c] w fun e w' => e = .returned (.int .u32 ((sumL i l : Nat) : Int)) ∧ Below w.heap.size w w' := by
  have hlow := low_any w.heap.size (.slice none 0 0) [] i 8 w (own_nil _ _) (by omega) (by omega) (by simp) (Nat.le_refl _)
  unfold sumL
  obtain ⟨L, hL⟩ : ∃ L, leN 8 i = L := ⟨_, rfl⟩
  have hLl : L.length = 8 := by rw [← hL, leN_length]
  rw [hL] at hlow ⊢
  clear hL
  go_enter Tryz.func131, Tryz.ntmps131
  go_wp2_with (fail)
  refine hlow.mono ?_
  rintro e w1 ⟨v1, rfl, hown, hb⟩
  obtain ⟨a1, c1, rfl⟩ := own_slice hown
  rw [List.nil_append] at hown ⊢
  have hr1 := own_brow hown
  rw [hLl] at hr1 ⊢
  have H1 : Hid (BRow w1 a1 8 c1 L) := hr1
  have H2 : Hid (BRow w1 a n c l) := h.below hb
  have HB : Hid (Below w.heap.size w w1) := hb
  have HT : Hid (Tabs w1) := ht.bel hb
  clear hown hr1 hlow h hb ht hLl
  go_wp2_with (fail)
  have ba : ∀ o, Below w1.heap.size w1 (w1.alloc o) := fun o => (Below.refl _ w1).alloc (Nat.le_refl _) o
  refine (sum_any (HT.out.alloc _) (lit_cells w1 [.slice a1 8 c1, .slice a n c] 34 0 _ rfl) (lit_cells w1 [.slice a1 8 c1, .slice a n c] 34 1 _ rfl) (H1.out.below (ba _)) (H2.out.below (ba _)) (by omega) hn).mono ?_
  rintro e w2 ⟨rfl, hw⟩
  have HB2 : Hid (Below w.heap.size w w2) := by show Below _ _ _; rw [hw]; exact HB.out.alloc HB.out.size _
  clear hw
  go_wp2
  go_ret
  exact ⟨rfl, HB2.out⟩

set_option maxHeartbeats 2000000 in
set_option maxRecDepth 20000 in
theorem frame_any {w : World} (ht : Tabs w) (i : Nat) (hi : i < 9223372036854775808) {a : Option Addr} {n c : Nat} {l : List UInt8} (h : BRow w a n c l) (hn : n ≤ 8192) :
    Calls Tryz.prog 68 #[.int .i64 (i : Int), .slice a n c] w fun e w' => ∃ v, e = .returned v ∧ OwnB w' w.heap.size v (frameL i l) ∧ Below w.heap.size w w' := by
  have hln := h.1
  have hlow := low_any w.heap.size (.slice none 0 0) [] n 4 w (own_nil _ _) (by omega) (by omega) (by simp) (Nat.le_refl _)
  have hsl := sumL_lt i l
  have e0 : frameL i l = leN 4 n ++ leN 4 (sumL i l) ++ l := by unfold frameL; rw [hln]
  rw [e0]
  obtain ⟨Z, hZ⟩ : ∃ Z, sumL i l = Z := ⟨_, rfl⟩
  rw [hZ] at hsl
  rw [hZ]
  have HZ : Hid (sumL i l = Z) := hZ
  have HR : Hid (BRow w a n c l) := h
  have HT : Hid (Tabs w) := ht
  clear h ht hln hZ e0
  go_enter Tryz.func68, Tryz.ntmps68
  go_wp2_with (fail)
  refine hlow.mono ?_
  rintro e w1 ⟨v1, rfl, hown, hb⟩
  clear hlow
  have HO : Hid (OwnB w1 w.heap.size v1 (leN 4 n)) := by show OwnB _ _ _ _; simpa using hown
  have HB : Hid (Below w.heap.size w w1) := hb
  clear hown hb
  go_wp2_with (fail)
  refine (sumOf_any (HT.out.bel HB.out) i hi (HR.out.below HB.out) (by omega)).mono ?_
  rintro e w2 ⟨rfl, hb2⟩
  rw [HZ.out]
  have HO2 : Hid (OwnB w2 w.heap.size v1 (leN 4 n)) := own_below2 HO.out hb2
  have HB2 : Hid (Below w.heap.size w w2) := HB.out.trans (hb2.mono HB.out.size)
  clear HO HB hb2
  go_wp2_with (fail)
  refine (low_any w.heap.size v1 (leN 4 n) Z 4 w2 HO2.out (by omega) (by omega) (by rw [leN_length]; omega) HB2.out.size).mono ?_
  rintro e w3 ⟨v3, rfl, hown3, hb3⟩
  have HO3 : Hid (OwnB w3 w.heap.size v3 (leN 4 n ++ leN 4 Z)) := hown3
  have HB3 : Hid (Below w.heap.size w w3) := HB2.out.trans hb3
  clear HO2 HB2 hown3 hb3
  go_wp2_with (at_builtin; refine wpList_copy HO3.out (HR.out.below HB3.out) ?c2 HB3.out.size rfl _ _ rfl rfl rfl ?_)
  case c2 => rw [List.length_append, leN_length, leN_length]; omega
  intro vo w4 hown4 hb4
  go_wp2
  go_ret
  exact ⟨_, rfl, hown4, HB3.out.trans hb4⟩

theorem or_le (k A c : Nat) (hA : A < 256 ^ k) (hk : k ≤ 3) (hc : c < 256) : bits BinOp.or IntKind.u64 (A : Int) (IntKind.u64.wrap ((c : Int) * 2 ^ (8 * k))) = ((A + 256 ^ k * c : Nat) : Int) := by
  have e0 : 256 ^ k = 2 ^ (8 * k) := by rw [Nat.pow_mul]
  rw [e0] at hA ⊢
  have h8 : 2 ^ (8 * k) ≤ 2 ^ 24 := Nat.pow_le_pow_right (by omega) (by omega)
  have hlt : c * 2 ^ (8 * k) < 2 ^ 64 := by
    have h1 : c * 2 ^ (8 * k) ≤ 255 * 2 ^ 24 := Nat.mul_le_mul (by omega) h8
    omega
  have e1 : ((c : Int) * 2 ^ (8 * k)) = ((c * 2 ^ (8 * k) : Nat) : Int) := by
    rw [Int.natCast_mul, Int.natCast_pow]; rfl
  rw [e1, IntKind.wrap_u64, Int.emod_eq_of_lt (by omega) (by omega), bits_or_u64_nat _ _ (by omega) (by omega)]
  congr 1
  rw [Nat.mul_comm c, Nat.or_comm, ← Nat.two_pow_add_eq_or_of_lt hA]
  omega

set_option maxHeartbeats 2000000 in
set_option maxRecDepth 20000 in
theorem lowFirst_any {w : World} {a : Option Addr} {c : Nat} {l : List UInt8} (h : BRow w a 4 c l) :
    Calls Tryz.prog 197 #[.slice a 4 c] w fun e w' => e = .returned (.int .u64 ((ofLe l : Nat) : Int)) ∧ w' = w := by
  obtain ⟨T, hT⟩ : ∃ T, ofLe l = T := ⟨_, rfl⟩
  have hl := h.1
  rw [hT]
  have HR : Hid (BRow w a 4 c l) := h
  have HL : Hid (l.length = 4) := hl
  clear h hl
  go_enter Tryz.func197, Tryz.ntmps197
  go_wp2
  go_loopw [3, 8] (fun sm i wr => Hid (wr = w) ∧ ∃ (k A : Nat), sm = .int .u64 A ∧ i = .int .i64 k ∧ k ≤ 4 ∧ Hid (A < 256 ^ k) ∧ Hid (A + 256 ^ k * ofLe (l.drop k) = T)) (fun _ i _ => 4 - (intOf i).toNat)
  case atStart => exact ⟨rfl, 0, 0, rfl, rfl, by omega, by show 0 < 256 ^ 0; decide, by show 0 + 256 ^ 0 * ofLe (l.drop 0) = T; simpa using hT⟩
  case round =>
    obtain ⟨HW, k, A, rfl, rfl, hk, HA, HG⟩ := hrel
    obtain rfl : w = wr := HW.out.symm
    by_cases hlt : k < 4
    · obtain ⟨x, rfl, hc⟩ := HR.out.at k hlt
      have hdr : l.drop k = l.getD k 0 :: l.drop (k + 1) := by
        have := HL.out
        rw [List.drop_eq_getElem_cons (by omega)]
        congr 1
        simp [List.getD_eq_getElem?_getD, this.symm ▸ hlt]
      generalize l.getD k 0 = cc at hc hdr
      obtain ⟨v, hv⟩ : ∃ v, cc.toNat = v := ⟨_, rfl⟩
      have hv256 : v < 256 := by have := cc.toNat_lt; omega
      rw [hv] at hc
      have HG2 := HG.out
      rw [hdr, ofLe, hv] at HG2
      obtain ⟨P, hP⟩ : ∃ P, 256 ^ k = P := ⟨_, rfl⟩
      have eo := or_le k A v HA.out (by omega) hv256
      have hA2 := HA.out
      rw [hP] at HG2 eo hA2
      obtain ⟨A', hA'⟩ : ∃ A', A + P * v = A' := ⟨_, rfl⟩
      rw [hA'] at eo
      have HN : Hid (A' + 256 ^ (k + 1) * ofLe (l.drop (k + 1)) = T) := by
        show _ = _
        rw [← HG2, ← hA', Nat.pow_succ, hP, Nat.mul_add, Nat.mul_assoc]
        omega
      have HA3 : Hid (A' < 256 ^ (k + 1)) := by
        show _ < _
        have : P * (v + 1) ≤ P * 256 := Nat.mul_le_mul_left _ (by omega)
        rw [Nat.mul_add] at this
        rw [Nat.pow_succ, hP]
        omega
      clear HG HG2 hdr hA' HA hA2 hT hP
      go_wp2
      go_roundw
      case rel => first | exact ⟨True.intro, k + 1, A', rfl, rfl, by omega, HA3, HN⟩ | exact ⟨rfl, k + 1, A', rfl, rfl, by omega, HA3, HN⟩
      case measure => simp [intOf]; omega
    · have hk4 : k = 4 := by omega
      subst hk4
      have HG2 := HG.out
      rw [List.drop_of_length_le (by have := HL.out; omega), ofLe] at HG2
      obtain rfl : A = T := by omega
      clear HG HG2
      go_wp2
      go_ret
      exact ⟨rfl, rfl⟩
end Go.Proofs.YtkbmblmnhhlicaaGreatDoor

/- Parts of rows of bytes. -/
namespace Go.Proofs.YtkbmblmnhhlicaaGreatDoor
open Go.RowKit

theorem add_add (x : Addr) (i j : Nat) : (x.add i).add j = x.add (i + j) := by
  by_cases hi : i = 0
  · subst hi; simp [Addr.add]
  · by_cases hj : j = 0
    · subst hj; simp [Addr.add]
    · simp [Addr.add, hi, hj]; omega

theorem brow_part {w : World} {a : Option Addr} {n c : Nat} {l : List UInt8} (h : BRow w a n c l) (lo hi m : Nat) (hlh : lo ≤ hi) (hn : hi ≤ n) (hm : hi ≤ m) (hmc : m ≤ c) : BRow w (if m = lo then a else a.map (·.add (lo * 1))) (hi - lo) (m - lo) ((l.drop lo).take (hi - lo)) := by
  have hl := h.1
  have hlen : ((l.drop lo).take (hi - lo)).length = hi - lo := by rw [List.length_take, List.length_drop]; omega
  refine ⟨hlen, ?_⟩
  rcases h.2 with ⟨h1, h2, h3⟩ | ⟨x, h1, hc⟩
  · subst h1
    left
    refine ⟨by split <;> rfl, by omega, by omega⟩
  · subst h1
    by_cases he : m = lo
    · rw [if_pos he]
      exact .inr ⟨x, rfl, fun j hj => by rw [hlen] at hj; omega⟩
    · rw [if_neg he]
      refine .inr ⟨x.add (lo * 1), rfl, fun j hj => ?_⟩
      rw [hlen] at hj
      rw [add_add, Nat.mul_one]
      have h5 := hc (lo + j) (by omega)
      rw [h5]
      congr 3
      rw [List.getElem_take, List.getElem_drop]

theorem part_lh (a : Option Addr) (n c lo hi : Nat) (hlh : lo ≤ hi) (hn : hi ≤ n) (hc : n ≤ c) :
    ∃ a' c', hi - lo ≤ c' ∧ (∀ w, (Instr.slice 34 (.slice a n c) (some (.int .i64 (lo : Int))) (some (.int .i64 (hi : Int))) none).run Tryz.prog w = .ok (.slice a' (hi - lo) c') w) ∧ ∀ w l, BRow w a n c l → BRow w a' (hi - lo) c' ((l.drop lo).take (hi - lo)) := by
  refine ⟨_, _, ?_, fun w => ?_, fun w l h => brow_part h lo hi c hlh hn (by omega) (Nat.le_refl _)⟩
  · omega
  · have hel : Tryz.prog.elem 34 = 5 := by kernel_rfl
    have hsz : (sizeOf 5).run Tryz.prog w = .ok 1 w := by kernel_rfl
    rw [run_slice_lh w 34 a n c (by rw [hel]; exact Tryz.underlying34) .i64 .i64 (lo : Int) (hi : Int) (by omega) (by omega) (by omega), hel, hsz]
    rfl
theorem part_l (a : Option Addr) (n c lo : Nat) (hn : lo ≤ n) (hc : n ≤ c) :
    ∃ a' c', n - lo ≤ c' ∧ (∀ w, (Instr.slice 34 (.slice a n c) (some (.int .i64 (lo : Int))) none none).run Tryz.prog w = .ok (.slice a' (n - lo) c') w) ∧ ∀ w l, BRow w a n c l → BRow w a' (n - lo) c' (l.drop lo) := by
  refine ⟨if c = lo then a else a.map (·.add (lo * 1)), c - lo, ?_, fun w => ?_, fun w l h => ?_⟩
  · omega
  · have hel : Tryz.prog.elem 34 = 5 := by kernel_rfl
    have hsz : (sizeOf 5).run Tryz.prog w = .ok 1 w := by kernel_rfl
    rw [run_slice_l w 34 a n c (by rw [hel]; exact Tryz.underlying34) .i64 (lo : Int) (by omega) (by omega), hel, hsz]
    rfl
  · have := brow_part h lo n c hn (Nat.le_refl _) hc (Nat.le_refl _)
    rwa [List.take_of_length_le (by rw [List.length_drop, h.1]; exact Nat.le_refl _)] at this
theorem part_lhm (a : Option Addr) (n c lo hi : Nat) (hlh : lo ≤ hi) (hn : hi ≤ n) (hc : n ≤ c) :
    ∃ a' c', (∀ w, (Instr.slice 34 (.slice a n c) (some (.int .i64 (lo : Int))) (some (.int .i64 (hi : Int))) (some (.int .i64 (hi : Int)))).run Tryz.prog w = .ok (.slice a' (hi - lo) c') w) ∧ ∀ w l, BRow w a n c l → BRow w a' (hi - lo) c' ((l.drop lo).take (hi - lo)) := by
  refine ⟨_, _, fun w => ?_, fun w l h => brow_part h lo hi hi hlh hn (Nat.le_refl _) (by omega)⟩
  have hel : Tryz.prog.elem 34 = 5 := by kernel_rfl
  have hsz : (sizeOf 5).run Tryz.prog w = .ok 1 w := by kernel_rfl
  rw [run_slice_lhm w 34 a n c (by rw [hel]; exact Tryz.underlying34) .i64 .i64 .i64 (lo : Int) (hi : Int) (hi : Int) (by omega) (by omega) (by omega) (by omega), hel, hsz]
  rfl

set_option maxHeartbeats 2000000 in
set_option maxRecDepth 100000 in
theorem standing_any {w : World} (ht : Tabs w) (i : Nat) (hi : i < 9223372036854775808) {a : Option Addr} {n c : Nat} {l : List UInt8} (h : BRow w a n c l) (hc : n ≤ c) (hn : n ≤ 140737488355328) :
    Calls Tryz.prog 183 #[.int .i64 (i : Int), .slice a n c] w fun e w' => e = .returned (.int .i64 ((standL i l : Nat) : Int)) ∧ Below w.heap.size w w' := by
  have hln := h.1
  unfold standL
  rw [hln]
  by_cases h8 : n < 8
  · rw [if_pos h8]
    have q1 : decide ((n : Int) < 8) = true := by simp; omega
    clear h hln
    go_enter Tryz.func183, Tryz.ntmps183
    go_wp2
    go_ret
    exact ⟨rfl, Below.refl _ _⟩
  · rw [if_neg h8]
    have q1 : decide ((n : Int) < 8) = false := by simp; omega
    have s1 := slice_to a n c 4 (by omega) hc
    have hr1 : BRow w a 4 c (l.take 4) := h.pre (by omega)
    obtain ⟨a2, c2, hc2, s2, hr2⟩ := part_lh a n c 4 8 (by omega) (by omega) hc
    have hr2 := hr2 w l h
    have f1 : ∀ j, _ := fun j => lowFirst_any (hr1.drewN j)
    have f2 : ∀ j, _ := fun j => lowFirst_any (hr2.drewN j)
    have b1 := ofLe_lt (l.take 4)
    have b2 := ofLe_lt ((l.drop 4).take 4)
    have l1 : (l.take 4).length = 4 := hr1.1
    have l2 : ((l.drop 4).take 4).length = 4 := hr2.1
    rw [l1] at b1
    rw [l2] at b2
    have k256 : 256 ^ 4 = 4294967296 := by decide
    rw [k256] at b1 b2
    rw [show (8 : Nat) - 4 = 4 from rfl] at s2 f2
    generalize ofLe (l.take 4) = N at f1 b1 ⊢
    generalize ofLe ((l.drop 4).take 4) = M at f2 b2 ⊢
    have HF1 : Hid (∀ j, Calls Tryz.prog 197 #[.slice a 4 c] (w.drewN j) fun e w' => e = .returned (.int .u64 ((N : Nat) : Int)) ∧ ∃ m, w' = w.drewN m) := fun j => (f1 j).mono fun e w' q => ⟨q.1, j, q.2⟩
    have HF2 : Hid (∀ j, Calls Tryz.prog 197 #[.slice a2 4 c2] (w.drewN j) fun e w' => e = .returned (.int .u64 ((M : Nat) : Int)) ∧ ∃ m, w' = w.drewN m) := fun j => (f2 j).mono fun e w' q => ⟨q.1, j, q.2⟩
    have j1 : (N : Int) < 4294967296 := by omega
    have j2 : (M : Int) < 4294967296 := by omega
    have z1 : ∀ w, (Instr.slice 34 (.slice a n c) none (some (.int .i64 4)) none).run Tryz.prog w = .ok (.slice a 4 c) w := s1
    have z2 : ∀ w, (Instr.slice 34 (.slice a n c) (some (.int .i64 4)) (some (.int .i64 8)) none).run Tryz.prog w = .ok (.slice a2 4 c2) w := s2
    have HR : Hid (BRow w a n c l) := h
    have HT : Hid (Tabs w) := ht
    have j3 : (n : Int) ≤ 140737488355328 := by omega
    have j4 : (8 : Int) ≤ (n : Int) := by omega
    have q1b : ¬ (n : Int) < 8 := by omega
    clear hr1 hr2 l1 l2 hln f1 f2 s1 s2 k256 h ht
    by_cases hbad : 8192 < N ∨ n - 8 < N
    · rw [if_pos hbad]
      have q2 : (decide ((8192 : Int) < (N : Int)) || decide ((n : Int) - 8 < (N : Int))) = true := by simp; omega
      by_cases hb1 : 8192 < N
      · have q3 : decide ((8192 : Int) < (N : Int)) = true := by simp; omega
        have q3b : (8192 : Int) < (N : Int) := by omega
        clear hbad q2 hb1 b1 b2 hn hc h8
        go_enter Tryz.func183, Tryz.ntmps183
        go_wp2
        go_quiet (first | (go_at_call_of 197 (Value.slice a 4 c); exact HF1.out _) | (go_at_call 197; exact HF2.out _))
        go_wp2
        go_ret
        exact ⟨rfl, below_drewN (Below.refl _ _) _⟩
      · have q3 : decide ((8192 : Int) < (N : Int)) = false := by simp; omega
        have q4 : decide ((n : Int) - 8 < (N : Int)) = true := by simp; omega
        have q3b : ¬ (8192 : Int) < (N : Int) := by omega
        have q4b : (n : Int) - 8 < (N : Int) := by omega
        clear hbad q2 hb1 b1 b2 hn hc h8
        go_enter Tryz.func183, Tryz.ntmps183
        go_wp2
        go_quiet (first | (go_at_call_of 197 (Value.slice a 4 c); exact HF1.out _) | (go_at_call 197; exact HF2.out _))
        go_wp2
        go_ret
        exact ⟨rfl, below_drewN (Below.refl _ _) _⟩
    · rw [if_neg hbad]
      have q3 : decide ((8192 : Int) < (N : Int)) = false := by simp; omega
      have q4 : decide ((n : Int) - 8 < (N : Int)) = false := by simp; omega
      have q3b : ¬ (8192 : Int) < (N : Int) := by omega
      have q4b : ¬ (n : Int) - 8 < (N : Int) := by omega
      obtain ⟨E, hE⟩ : ∃ E, 8 + N = E := ⟨_, rfl⟩
      obtain ⟨a3, c3, hc3, s3, hr3⟩ := part_lh a n c 8 E (by omega) (by omega) hc
      have e3 : (8 : Int) + (N : Int) = (E : Int) := by omega
      have hE8 : E - 8 = N := by omega
      rw [hE8] at s3 hr3
      have z3 : ∀ w, (Instr.slice 34 (.slice a n c) (some (.int .i64 8)) (some (.int .i64 (E : Int))) none).run Tryz.prog w = .ok (.slice a3 N c3) w := s3
      have HR3 : Hid (BRow w a3 N c3 ((l.drop 8).take N)) := hr3 w l HR.out
      have HNb : Hid (N ≤ 140737488355328) := by show _ ≤ _; omega
      obtain ⟨X, hX⟩ : ∃ X, sumL i ((l.drop 8).take N) = X := ⟨_, rfl⟩
      have HX : Hid (sumL i ((l.drop 8).take N) = X) := hX
      have hXl : X < 4294967296 := by rw [← hX]; exact sumL_lt _ _
      rw [hX, hE]
      have j5 : (X : Int) < 4294967296 := by omega
      have j6 : (E : Int) ≤ 140737488355328 := by omega
      have HE : Hid (8 + N = E) := hE
      have HI : Hid (i < 9223372036854775808) := hi
      clear hbad b1 b2 hn hc h8 hX hXl hr3 s3 hE hE8 hc3 hi
      by_cases hms : M = X
      · rw [if_pos hms]
        subst hms
        go_enter Tryz.func183, Tryz.ntmps183
        go_wp2
        go_quiet (first | (go_at_call_of 197 (Value.slice a 4 c); exact HF1.out _) | (go_at_call 197; exact HF2.out _))
        clear HF1 HF2
        go_wp2_with (fail)
        refine (sumOf_any (HT.out.drewN _) i HI.out (HR3.out.drewN _) HNb.out).mono ?_
        rintro e w1 ⟨rfl, hb⟩
        rw [HX.out]
        have HB : Hid (Below w.heap.size w w1) := (below_drewN (Below.refl _ w) _).trans hb
        clear hb
        go_wp2_with (fail)
        go_ret
        exact ⟨rfl, HB.out⟩
      · rw [if_neg hms]
        have q5 : ((M : Int) == (X : Int)) = false := by simp; omega
        have q6 : ((M : Int) != (X : Int)) = true := by simp; omega
        have q7 : IntKind.u64.wrap (X : Int) = (X : Int) := by rw [IntKind.wrap_u64]; omega
        clear hms
        go_enter Tryz.func183, Tryz.ntmps183
        go_wp2
        go_quiet (first | (go_at_call_of 197 (Value.slice a 4 c); exact HF1.out _) | (go_at_call 197; exact HF2.out _))
        clear HF1 HF2
        go_wp2_with (fail)
        refine (sumOf_any (HT.out.drewN _) i HI.out (HR3.out.drewN _) HNb.out).mono ?_
        rintro e w1 ⟨rfl, hb⟩
        rw [HX.out]
        have HB : Hid (Below w.heap.size w w1) := (below_drewN (Below.refl _ w) _).trans hb
        clear hb HX HE j1 j2 j3 j4 j5 j6 q3b q4b e3
        go_wp2_with (fail)
        go_ret
        exact ⟨rfl, HB.out⟩
end Go.Proofs.YtkbmblmnhhlicaaGreatDoor
