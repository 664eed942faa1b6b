/- How entries are written: walked. -/
import Derived.Test.YtmlihlnigojmpaaDoorWPut1
set_option linter.unusedVariables false
namespace Go.Proofs.YtmlihlnigojmpaaDoor
open Go.RowKit

def entL (e : En) : List UInt8 := flatN [e.term.toNat, e.kind.toNat] ++ (if e.kind = 1 then putT e.data else if e.kind = 2 then flatN (e.nodes.length :: e.nodes.map Int.toNat) else [])
def entsL (es : List En) : List UInt8 := flatN [es.length] ++ es.flatMap entL
theorem natI_toNat (ns : List Nat) : (natI ns).map Int.toNat = ns := by
  induction ns with
  | nil => rfl
  | cons n r ih =>
    show (Int.ofNat n).toNat :: (natI r).map Int.toNat = n :: r
    rw [ih]
    rfl
/-- What an entry that may be is. -/
theorem ent_is {e : En} (h : e.B = true) : ∃ t : Nat, e.term = (t : Int) ∧ 1 ≤ t ∧ t ≤ 999999 ∧ ((e.kind = 0 ∧ e.data = [] ∧ e.nodes = []) ∨ (e.kind = 1 ∧ e.data.length ≤ 8000 ∧ e.nodes = []) ∨ (e.kind = 2 ∧ e.data = [] ∧ ∃ ns : List Nat, e.nodes = natI ns ∧ (∀ z ∈ ns, 1 ≤ z ∧ z ≤ 5) ∧ ns.length ≤ 5 ∧ ns ≠ [])) := by
  have h' : mayEB e.term e.kind e.data.length e.nodes = true := h
  unfold mayEB at h'
  simp only [Bool.and_eq_true] at h'
  obtain ⟨h1, h2⟩ := h'
  unfold inB at h1
  simp at h1
  refine ⟨e.term.toNat, by omega, by omega, by omega, ?_⟩
  by_cases k0 : e.kind = 0
  · rw [if_pos k0] at h2
    simp at h2
    exact .inl ⟨k0, by simpa using h2.1, by simpa using h2.2⟩
  · rw [if_neg k0] at h2
    by_cases k1 : e.kind = 1
    · rw [if_pos k1] at h2
      simp at h2
      exact .inr (.inl ⟨k1, h2.1, by simpa using h2.2⟩)
    · rw [if_neg k1] at h2
      by_cases k2 : e.kind = 2
      · rw [if_pos k2] at h2
        simp at h2
        exact .inr (.inr ⟨k2, by simpa using h2.1, groupB_nat h2.2⟩)
      · rw [if_neg k2] at h2
        cases h2
theorem flat2_len {a b : Nat} (ha : a ≤ 999999) (hb : b ≤ 999999) : (flatN [a, b]).length ≤ 20 := by
  have := flatN_len [a, b] (by intro z hz; simp at hz; rcases hz with rfl | rfl <;> omega)
  simpa using this
theorem group_len {ns : List Nat} (h : ∀ z ∈ ns, 1 ≤ z ∧ z ≤ 5) (hl : ns.length ≤ 5) : (flatN (ns.length :: ns)).length ≤ 60 := by
  have := flatN_len (ns.length :: ns) (by
    intro z hz
    rcases List.mem_cons.1 hz with rfl | hz
    · omega
    · have := h z hz; omega)
  simp only [List.length_cons] at this
  omega
theorem putT_len {d : List UInt8} (h : d.length ≤ 400000) : (putT d).length ≤ d.length + 10 := by
  unfold putT
  rw [List.length_append]
  have := putN_le10 (n := d.length) (by omega)
  omega
theorem entL_len {e : En} (h : e.B = true) : (entL e).length ≤ 8030 := by
  obtain ⟨t, ht, h1, h2, hk⟩ := ent_is h
  unfold entL
  rw [List.length_append, ht]
  rcases hk with ⟨k, _, _⟩ | ⟨k, hd, _⟩ | ⟨k, _, ns, hn, hz, hl, _⟩
  · rw [k, if_neg (by omega), if_neg (by omega)]
    have := flat2_len (a := t) (b := 0) (by omega) (by omega)
    simp only [Int.toNat_natCast, List.length_nil] at *
    show (flatN [t, 0]).length + 0 ≤ _
    omega
  · rw [k, if_pos rfl]
    have := flat2_len (a := t) (b := 1) (by omega) (by omega)
    have h3 := putT_len (d := e.data) (by omega)
    simp only [Int.toNat_natCast] at *
    show (flatN [t, 1]).length + _ ≤ _
    omega
  · rw [k, if_neg (by omega), if_pos rfl, hn, natI_toNat]
    have := flat2_len (a := t) (b := 2) (by omega) (by omega)
    have h3 := group_len hz hl
    simp only [Int.toNat_natCast] at *
    show (flatN [t, 2]).length + (flatN ((natI ns).length :: ns)).length ≤ _
    rw [show (natI ns).length = ns.length from List.length_map ..]
    omega

set_option maxHeartbeats 8000000 in
set_option maxRecDepth 40000 in
theorem putEntries_any {w : World} {a ea : Option Addr} {n c m ec : Nat} {l : List UInt8} {es : List En} (h : BRow w a n c l) (hn : n ≤ 1000) (he : EnRow w ea es) (hm : es.length = m) (hm4 : m ≤ 4) (hB : ∀ e ∈ es, e.B = true) :
    Calls Tryd.prog 47 #[.slice a n c, .slice ea m ec] w (Made w (l ++ entsL es)) := by
  obtain ⟨T, hT⟩ : ∃ T, l ++ entsL es = T := ⟨_, rfl⟩
  rw [hT]
  obtain ⟨F1, hF1⟩ : ∃ F1, l ++ flatN [m] = F1 := ⟨_, rfl⟩
  have hT2 : F1 ++ es.flatMap entL = T := by rw [← hT, ← hF1, entsL, hm]; simp
  have hl1 : F1.length ≤ 1010 := by
    have := flatN_len [m] (by intro z hz; simp at hz; omega)
    rw [← hF1, List.length_append, h.1]; simp only [List.length_cons, List.length_nil] at this; omega
  have hP1 := putLay_any [m] h (by intro z hz; simp at hz; omega) (by simp; omega) (by simp) 1 rfl 1
  rw [hF1] at hP1
  have HP1 : Hid (Calls Tryd.prog 45 #[.slice a n c, .slice (some ⟨w.heap.size, 0, none⟩) 1 1] (w.alloc (.cells #[.int .i64 (m : Int)] 3)) (Made (w.alloc (.cells #[.int .i64 (m : Int)] 3)) F1)) := hP1
  have HZ : Hid (EnRow w ea es ∧ es.length = m ∧ ∀ e ∈ es, e.B = true) := ⟨he, hm, hB⟩
  have HT : Hid (F1 ++ es.flatMap entL = T ∧ F1.length ≤ 1010) := ⟨hT2, hl1⟩
  have bm : (m : Int) ≤ 4 := by omega
  clear h hn he hm hB hT hF1 hT2 hl1 hP1
  go_enter Tryd.func47, Tryd.ntmps47
  go_wp2_with (fail)
  refine HP1.out.mono ?_
  intro e w1 hq
  obtain ⟨a1, c1, rfl, hown, hrow, hb⟩ := hq.row
  have hba : Below w.heap.size w (w.alloc (.cells #[.int .i64 (m : Int)] 3)) := (Below.refl _ w).alloc (Nat.le_refl _) _
  have hb1 : Below w.heap.size w w1 := hba.trans (hb.mono hba.size)
  have HU1 : Hid (OwnB w1 w.heap.size (.slice a1 F1.length c1) F1 ∧ Below w.heap.size w w1) := ⟨own_lower hown hba.size, hb1⟩
  clear HP1 hq hown hrow hb hba hb1
  obtain ⟨f1, hf1⟩ : ∃ f, F1.length = f := ⟨_, rfl⟩
  rw [hf1] at HU1 ⊢
  have HF1 : Hid (F1.length = f1) := hf1
  clear hf1
  go_wp2_with (fail)
  go_loopw [0, 14] (fun u i wr => ∃ (vv : Value) (a' : Option Addr) (n' c' : Nat) (acc : List UInt8) (j : Nat), vv = u ∧ vv = .slice a' n' c' ∧ i = .int .i64 (j : Int) ∧ j ≤ m ∧ Hid (OwnB wr w.heap.size (.slice a' n' c') acc ∧ acc.length = n' ∧ n' ≤ 1010 + 8100 * j ∧ Below w.heap.size w wr) ∧ Hid (acc ++ (es.drop j).flatMap entL = T)) (fun _ i _ => m - (intOf i).toNat)
  case atStart => exact ⟨_, a1, f1, c1, F1, 0, rfl, rfl, rfl, Nat.zero_le _, ⟨HU1.out.1, HF1.out, by have := HT.out.2; have := HF1.out; omega, HU1.out.2⟩, HT.out.1⟩
  case round =>
    obtain ⟨vv, a', n', c', acc, j, hv, rfl, rfl, hj, HU, HG⟩ := hrel
    subst hv
    clear HU1 HF1
    by_cases hlt : j < m
    · obtain ⟨e, he⟩ : ∃ e, es[j]? = some e := ⟨es[j]'(by have := HZ.out.2.1; omega), List.getElem?_eq_getElem _⟩
      have hdr : es.drop j = e :: es.drop (j + 1) := by
        have hl := (List.getElem?_eq_some_iff.1 he).1
        rw [List.drop_eq_getElem_cons hl]
        congr 1
        exact (List.getElem?_eq_some_iff.1 he).2
      have heB := HZ.out.2.2 e (List.mem_of_getElem? he)
      have hel := entL_len heB
      obtain ⟨t, ht, t1, t2, hk⟩ := ent_is heB
      obtain ⟨g, o, da, dc, na, nc, hx, hat⟩ := (HZ.out.1.below HU.out.2.2.2) j e he
      have hG2 : (acc ++ entL e) ++ (es.drop (j + 1)).flatMap entL = T := by
        rw [← HG.out, hdr]; simp
      obtain ⟨k, hkn, hk2⟩ : ∃ k : Nat, e.kind = (k : Int) ∧ k ≤ 2 := by
        rcases hk with ⟨h, _⟩ | ⟨h, _⟩ | ⟨h, _⟩
        · exact ⟨0, h, by omega⟩
        · exact ⟨1, h, by omega⟩
        · exact ⟨2, h, by omega⟩
      obtain ⟨w2, hw2⟩ : ∃ w2, w2 = wr.alloc (.cells #[.int .i64 e.idx, .int .i64 (t : Int), .int .i64 (k : Int), .slice da e.data.length dc, .slice na e.nodes.length nc] 45) := ⟨_, rfl⟩
      have hb2 : Below wr.heap.size wr w2 := by rw [hw2]; exact (Below.refl _ wr).alloc (Nat.le_refl _) _
      have hk2' : w2.heap[wr.heap.size]? = some (.cells #[.int .i64 e.idx, .int .i64 (t : Int), .int .i64 (k : Int), .slice da e.data.length dc, .slice na e.nodes.length nc] 45 (0, 0)) := by rw [hw2]; exact heap_alloc_new _ _
      have hB2 : Below w.heap.size w w2 := HU.out.2.2.2.trans (hb2.mono HU.out.2.2.2.size)
      have hown2 := own_below2 HU.out.1 hb2
      have hrow2 : BRow w2 a' n' c' acc := by
        have := HU.out.2.1
        subst this
        exact own_brow hown2
      obtain ⟨F2, hF2⟩ : ∃ F2, acc ++ flatN [t, k] = F2 := ⟨_, rfl⟩
      have hl2 : F2.length ≤ 1030 + 8100 * j := by
        rw [← hF2, List.length_append, HU.out.2.1]
        have := flat2_len (a := t) (b := k) (by omega) (by omega)
        have := HU.out.2.2.1
        omega
      have hP2 := putLay_any [t, k] hrow2 (by intro z hz; simp at hz; rcases hz with rfl | rfl <;> omega) (by have := HU.out.2.2.1; simp; omega) (by simp) 2 rfl 2
      rw [hF2] at hP2
      have HP2 : Hid (Calls Tryd.prog 45 #[.slice a' n' c', .slice (some ⟨w2.heap.size, 0, none⟩) 2 2] (w2.alloc (.cells #[.int .i64 (t : Int), .int .i64 (k : Int)] 3)) (Made (w2.alloc (.cells #[.int .i64 (t : Int), .int .i64 (k : Int)] 3)) F2)) := hP2
      have hba : Below w2.heap.size w2 (w2.alloc (.cells #[.int .i64 (t : Int), .int .i64 (k : Int)] 3)) := (Below.refl _ w2).alloc (Nat.le_refl _) _
      have HB2 : Hid (Below w.heap.size w w2 ∧ Below w2.heap.size w2 (w2.alloc (.cells #[.int .i64 (t : Int), .int .i64 (k : Int)] 3)) ∧ F2.length ≤ 1030 + 8100 * j) := ⟨hB2, hba, hl2⟩
      have HE : Hid ((acc ++ entL e) ++ (es.drop (j + 1)).flatMap entL = T ∧ (entL e = flatN [t, k] ++ (if e.kind = 1 then putT e.data else if e.kind = 2 then flatN (e.nodes.length :: e.nodes.map Int.toNat) else [])) ∧ acc ++ flatN [t, k] = F2 ∧ (acc ++ entL e).length ≤ 1010 + 8100 * (j + 1)) := ⟨hG2, by unfold entL; rw [ht, hkn, Int.toNat_natCast, Int.toNat_natCast], hF2, by rw [List.length_append, HU.out.2.1]; have := HU.out.2.2.1; omega⟩
      have HA : Hid (∀ u, Below w2.heap.size w2 u → BRow u da e.data.length dc e.data ∧ NRow u na e.nodes) := fun u hu => ⟨hat.row.below (hb2.trans (hu.mono hb2.size)), hat.nod.below (hb2.trans (hu.mono hb2.size))⟩
      have HK2 : Hid (w2.heap[wr.heap.size]? = some (.cells #[.int .i64 e.idx, .int .i64 (t : Int), .int .i64 (k : Int), .slice da e.data.length dc, .slice na e.nodes.length nc] 45 (0, 0))) := hk2'
      have c0 := hat.c0
      have c1 := hat.c1
      have c2 := hat.c2
      have c3 := hat.c3
      have c4 := hat.c4
      rw [ht] at c1
      rw [hkn] at c2
      have HKk : Hid (e.kind = (k : Int) ∧ ((e.kind = 0 ∧ e.data = [] ∧ e.nodes = []) ∨ (e.kind = 1 ∧ e.data.length ≤ 8000 ∧ e.nodes = []) ∨ (e.kind = 2 ∧ e.data = [] ∧ ∃ ns : List Nat, e.nodes = natI ns ∧ (∀ z ∈ ns, 1 ≤ z ∧ z ≤ 5) ∧ ns.length ≤ 5 ∧ ns ≠ []))) := ⟨hkn, hk⟩
      have y1 : w2.cell? ⟨wr.heap.size, 1, none⟩ = some (.int .i64 (t : Int)) := pcell hk2' rfl
      have y2 : w2.cell? ⟨wr.heap.size, 2, none⟩ = some (.int .i64 (k : Int)) := pcell hk2' rfl
      subst hx
      clear hP2 hba hB2 hown2 hrow2 hF2 hl2 hb2 hk2' hat hG2 hel heB hdr he ht hkn hk HG HU t1 t2
      go_upto_region 5 with fail
      rw [← hw2]
      clear hw2 c0 c1 c2 c3 c4
      go_wp2_with (fail)
      refine HP2.out.mono ?_
      intro e' w3 hq
      obtain ⟨a3, c3, rfl, hown3, hrow3, hb3⟩ := hq.row
      have hb23 : Below w2.heap.size w2 w3 := HB2.out.2.1.trans (hb3.mono HB2.out.2.1.size)
      have z2 : w3.cell? ⟨wr.heap.size, 2, none⟩ = some (.int .i64 (k : Int)) := lt_cell HK2.out hb23 rfl
      have z3 : w3.cell? ⟨wr.heap.size, 3, none⟩ = some (.slice da e.data.length dc) := lt_cell HK2.out hb23 rfl
      have z4 : w3.cell? ⟨wr.heap.size, 4, none⟩ = some (.slice na e.nodes.length nc) := lt_cell HK2.out hb23 rfl
      have hBw : Below w.heap.size w w3 := HB2.out.1.trans (hb23.mono HB2.out.1.size)
      have HU3 : Hid (OwnB w3 w.heap.size (.slice a3 F2.length c3) F2 ∧ BRow w3 a3 F2.length c3 F2 ∧ Below w.heap.size w w3 ∧ BRow w3 da e.data.length dc e.data ∧ NRow w3 na e.nodes) := ⟨own_lower hown3 (Nat.le_trans HB2.out.1.size HB2.out.2.1.size), hrow3, hBw, HA.out w3 hb23⟩
      clear HP2 hq hown3 hrow3 hb3 hb23 hBw y1 y2 HA HK2
      rcases HKk.out.2 with ⟨k0, _, _⟩ | ⟨k1, hd, _⟩ | ⟨k1, _, ns, hns, hz, hl, hn0⟩
      · obtain rfl : k = 0 := by have := HKk.out.1; omega
        have HE2 : Hid (F2 ++ (es.drop (j + 1)).flatMap entL = T ∧ F2.length ≤ 1010 + 8100 * (j + 1)) := by
          have h1 := HE.out
          rw [h1.2.1, k0, if_neg (by omega), if_neg (by omega), List.append_nil, h1.2.2.1] at h1
          exact ⟨h1.1, h1.2.2.2⟩
        clear HE HKk k0 z3 z4
        go_wp2_with (fail)
        go_roundw
        case rel => exact ⟨_, a3, F2.length, c3, F2, j + 1, rfl, rfl, by first | rfl | go_num, by omega, ⟨HU3.out.1, rfl, HE2.out.2, HU3.out.2.2.1⟩, HE2.out.1⟩
        case measure => simp [intOf]; omega
      · obtain rfl : k = 1 := by have := HKk.out.1; omega
        obtain ⟨F3, hF3⟩ : ∃ F3, F2 ++ putT e.data = F3 := ⟨_, rfl⟩
        have HE2 : Hid (F3 ++ (es.drop (j + 1)).flatMap entL = T ∧ F3.length ≤ 1010 + 8100 * (j + 1)) := by
          have h1 := HE.out
          rw [h1.2.1, k1, if_pos rfl, ← List.append_assoc, h1.2.2.1, hF3] at h1
          exact ⟨h1.1, h1.2.2.2⟩
        have hst := HU3.out.2.2.2.1.string
        have hP := putText_any a3 F2.length c3 F2 ⟨e.data.toArray⟩ w3 HU3.out.2.1 (by
          have h1 := HB2.out.2.2
          have h2 := putN_le10 (n := e.data.length) (by omega)
          show F2.length + (putN e.data.toArray.size).length + e.data.toArray.size ≤ _
          rw [List.size_toArray]; omega)
        rw [show F2 ++ putT (ByteArray.mk e.data.toArray).data.toList = F3 from by rw [← hF3]] at hP
        have HP : Hid (Calls Tryd.prog 67 #[.slice a3 F2.length c3, .string ⟨e.data.toArray⟩] w3 (Made w3 F3)) := hP
        clear HE HKk k1 hP hF3 hd z4
        obtain ⟨dn, hdn⟩ : ∃ dn, e.data.length = dn := ⟨_, rfl⟩
        obtain ⟨f2, hf2⟩ : ∃ f, F2.length = f := ⟨_, rfl⟩
        rw [hdn] at z3 hst
        rw [hf2] at HP ⊢
        go_wp2_with (fail)
        refine HP.out.mono ?_
        intro e' w4 hq
        obtain ⟨a4, c4, rfl, hown4, hrow4, hb4⟩ := hq.row
        have HU4 : Hid (OwnB w4 w.heap.size (.slice a4 F3.length c4) F3 ∧ Below w.heap.size w w4) := ⟨own_lower hown4 HU3.out.2.2.1.size, HU3.out.2.2.1.trans (hb4.mono HU3.out.2.2.1.size)⟩
        clear HP hq hown4 hrow4 hb4 hst z3 z2
        go_wp2_with (fail)
        go_roundw
        case rel => exact ⟨_, a4, F3.length, c4, F3, j + 1, rfl, rfl, by first | rfl | go_num, by omega, ⟨HU4.out.1, rfl, HE2.out.2, HU4.out.2⟩, HE2.out.1⟩
        case measure => simp [intOf]; omega
      · obtain rfl : k = 2 := by have := HKk.out.1; omega
        obtain ⟨F3, hF3⟩ : ∃ F3, F2 ++ flatN (ns.length :: ns) = F3 := ⟨_, rfl⟩
        have hnl : e.nodes.length = ns.length := by rw [hns]; exact List.length_map ..
        have HE2 : Hid (F3 ++ (es.drop (j + 1)).flatMap entL = T ∧ F3.length ≤ 1010 + 8100 * (j + 1)) := by
          have h1 := HE.out
          rw [h1.2.1, k1, if_neg (by omega), if_pos rfl, hnl, hns, natI_toNat, ← List.append_assoc, h1.2.2.1, hF3] at h1
          exact ⟨h1.1, h1.2.2.2⟩
        have hir : IRow w3 na ns := by
          have := HU3.out.2.2.2.2
          rw [hns] at this
          exact this.nat
        have hP := putGroup_any (nc := nc) HU3.out.2.1 hir (fun z h => by have := hz z h; omega) (by have := HB2.out.2.2; omega) hn0
        rw [hF3, ← hnl] at hP
        have HP : Hid (Calls Tryd.prog 68 #[.slice a3 F2.length c3, .slice na e.nodes.length nc] w3 (Made w3 F3)) := hP
        clear HE HKk k1 hP hF3 hir hns hz hl hn0 hnl z3
        obtain ⟨f2, hf2⟩ : ∃ f, F2.length = f := ⟨_, rfl⟩
        obtain ⟨nn, hnn⟩ : ∃ nn, e.nodes.length = nn := ⟨_, rfl⟩
        rw [hf2, hnn] at HP
        rw [hf2]
        rw [hnn] at z4
        go_wp2_with (fail)
        refine HP.out.mono ?_
        intro e' w4 hq
        obtain ⟨a4, c4, rfl, hown4, hrow4, hb4⟩ := hq.row
        have HU4 : Hid (OwnB w4 w.heap.size (.slice a4 F3.length c4) F3 ∧ Below w.heap.size w w4) := ⟨own_lower hown4 HU3.out.2.2.1.size, HU3.out.2.2.1.trans (hb4.mono HU3.out.2.2.1.size)⟩
        clear HP hq hown4 hrow4 hb4 z4 z2
        go_wp2_with (fail)
        go_roundw
        case rel => exact ⟨_, a4, F3.length, c4, F3, j + 1, rfl, rfl, by first | rfl | go_num, by omega, ⟨HU4.out.1, rfl, HE2.out.2, HU4.out.2⟩, HE2.out.1⟩
        case measure => simp [intOf]; omega
    · have hjn : j = m := by omega
      subst hjn
      have HF : Hid (OwnB wr w.heap.size (.slice a' n' c') T ∧ Below w.heap.size w wr) := by
        have h1 := HG.out
        rw [List.drop_of_length_le (by have := HZ.out.2.1; omega)] at h1
        simp only [List.flatMap_nil, List.append_nil] at h1
        subst h1
        exact ⟨HU.out.1, HU.out.2.2.2⟩
      clear HG HU HT
      go_wp2
      go_ret
      exact ⟨_, rfl, HF.out.1, HF.out.2⟩
end Go.Proofs.YtmlihlnigojmpaaDoor
