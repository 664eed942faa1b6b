
/- Several texts in one. -/
import Derived.Test.YtcbojffcnlkejaaGreatDoorG50
import Derived.Test.YtcbojffcnlkejaaGreatDoorH07
import Derived.Laws.Strings3
import Derived.Test.YtcbojffcnlkejaaGreatDoorH11
import Derived.Test.YtcbojffcnlkejaaGreatDoorRunRef
set_option linter.unusedVariables false
/- What the laws' texts are put together of. -/
namespace Go.Proofs.YtcbojffcnlkejaaGreatDoor
open Go.RowKit

theorem sadd (A B : Str) (h : A.length + B.length ≤ 9223372036854775000) : ∀ w, (Op.stringOp .add (ByteArray.mk A.toArray) (ByteArray.mk B.toArray)).run Tryz.prog w = .ok (.string ⟨(A ++ B).toArray⟩) w := by
  intro w
  rw [← cat_eq]
  exact run_string_add_sum (w := w) _ _ (by rw [size_list, size_list]; omega)

abbrev indT (ls : List Str) : Str := ls.flatMap (fun x => [32, 32, 32, 32] ++ x ++ [10])
abbrev catT (ls : List Str) : Str := ls.flatMap (fun x => x ++ [10])
def fenceL1 (c : UInt8) : Bool := c == 96 || c == 126
def closeT (ls : List Str) : Bool := ls.any (fun x => x.any fenceL1)

end Go.Proofs.YtcbojffcnlkejaaGreatDoor

/- Functions of this stage's laws: one, name; walked. -/
namespace Go.Proofs.YtcbojffcnlkejaaGreatDoor
open Go.RowKit

set_option maxRecDepth 20000 in
theorem bname_any (i : Nat) (hi : i < 40) (w : World) : Calls Tryz.prog 15 #[.int .i64 (i : Int)] w fun e w' => e = .returned (strV (nmL i)) ∧ Below w.heap.size w w' := by
  obtain ⟨d, hd⟩ : ∃ d : Nat, d = i / 26 := ⟨_, rfl⟩
  obtain ⟨a, ha⟩ : ∃ a : Nat, a = d % 26 := ⟨_, rfl⟩
  obtain ⟨b, hb⟩ : ∃ b : Nat, b = i % 26 := ⟨_, rfl⟩
  have h1 : (i : Int).tdiv 26 = (d : Int) := by rw [Int.tdiv_eq_ediv_of_nonneg (by omega)]; omega
  have h2 : (d : Int).tmod 26 = (a : Int) := by rw [Int.tmod_eq_emod_of_nonneg (by omega)]; omega
  have h3 : (i : Int).tmod 26 = (b : Int) := by rw [Int.tmod_eq_emod_of_nonneg (by omega)]; omega
  have ha2 : (a : Int) < 26 := by omega
  have hd2 : (d : Int) < 26 := by omega
  have hb2 : (b : Int) < 26 := by omega
  have hn : nmL i = [110] ++ [UInt8.ofNat (97 + a), UInt8.ofNat (97 + b)] := by unfold nmL; rw [ha, hd, hb]; rfl
  rw [hn]
  have hlt : ∀ k : Nat, k < 26 → ((UInt8.ofNat (97 + k)).toNat : Int) = 97 + (k : Int) := fun k hk => by rw [UInt8.toNat_ofNat']; omega
  have hcl := conv_lit w [UInt8.ofNat (97 + a), UInt8.ofNat (97 + b)] #[.int .u8 (97 + (a : Int)), .int .u8 (97 + (b : Int))] 2 rfl (by
    show _ = #[Value.int .u8 ((UInt8.ofNat (97 + a)).toNat : Int), Value.int .u8 ((UInt8.ofNat (97 + b)).toNat : Int)]
    rw [hlt a (by omega), hlt b (by omega)])
  have hi2 : (i : Int) < 40 := by omega
  clear hd ha hb hn hlt
  obtain ⟨L, hL⟩ : ∃ L, L = [UInt8.ofNat (97 + a), UInt8.ofNat (97 + b)] := ⟨_, rfl⟩
  rw [← hL] at hcl ⊢
  have hs := sadd [110] L (by rw [hL]; show 1 + 2 ≤ _; omega)
  clear hL
  generalize [110] ++ L = T at *
  go_enter Tryz.func15, Tryz.ntmps15
  go_wp2
  go_ret
  exact ⟨rfl, (Below.refl _ _).alloc (Nat.le_refl _) _⟩

end Go.Proofs.YtcbojffcnlkejaaGreatDoor

/- BlockDefs: definitions are told in their order, and leave nothing behind; walked. -/
namespace Go.Proofs.YtcbojffcnlkejaaGreatDoor
open Go.RowKit
open cur (cell_blk)

theorem and_bits7 (m : Nat) (hm : m < 1000000) (z : Int) : ∃ n : Nat, n ≤ m ∧ bits .and .i64 z (m : Int) = (n : Int) := by
  have h0 : (BitVec.ofInt 64 (m : Int)).toNat = m := by
    rw [BitVec.toNat_ofInt]
    omega
  have h : (BitVec.ofInt 64 z &&& BitVec.ofInt 64 (m : Int)).toNat ≤ m := by
    rw [BitVec.toNat_and]
    exact Nat.le_trans Nat.and_le_right (by omega)
  refine ⟨(BitVec.ofInt 64 z &&& BitVec.ofInt 64 (m : Int)).toNat, h, ?_⟩
  show IntKind.i64.wrap (((BitVec.ofInt 64 z &&& BitVec.ofInt 64 (m : Int)).toNat : Nat) : Int) = _
  rw [IntKind.wrap_i64]
  omega
theorem region_class8 {P : Program} {id : Nat} {Q : Exit → Act → World → Prop} {a : Act} {w : World} {l : List Oper} (C : World → Prop) (hm : P.follows .mixedOrders = true) (hB : Region.lexB .any l.toArray = true) (hC : C w.drew)
    (h : wpQuiet P l.toArray C (fun a' => ∀ w', C w' → Q .normal a' w') l a) : (Code.region id l.toArray true).wp P Q a w :=
  wp_region_quiet (C := C) hm hB hC (by simpa using h)

section
variable (pf : Nat → Nat)
/-- The k-th definition, the first k, their text, what they define. -/
def dqN (i : Nat) : Fin 16 × Fin 40 := (⟨pf i % 16, Nat.mod_lt _ (by decide)⟩, ⟨i % 40, Nat.mod_lt _ (by decide)⟩)
def dsN (k : Nat) : List (Fin 16 × Fin 40) := (List.range k).map (dqN pf)
def txN (k : Nat) : Str := catT ((dsN pf k).map defT)
def wkN (k : Nat) : List Df := ((dsN pf k).map defQ).foldl addD []
theorem ds_next (k : Nat) : dsN pf (k + 1) = dsN pf k ++ [dqN pf k] := by
  unfold dsN
  rw [List.range_succ, List.map_append]
  rfl
theorem tx_next {k : Nat} (hk : k < 40) (hp : pf k ≤ 15) : txN pf (k + 1) = txN pf k ++ [91] ++ nmL (pf k) ++ [93, 58, 32, 47] ++ nmL k ++ [10] := by
  have h1 : pf k % 16 = pf k := by omega
  have h2 : k % 40 = k := by omega
  unfold txN
  rw [ds_next, List.map_append]
  simp [catT, defT, dqN, h1, h2]
theorem wk_next {k : Nat} (hk : k < 40) (hp : pf k ≤ 15) : wkN pf (k + 1) = addD (wkN pf k) (nmL (pf k), 47 :: nmL k, []) := by
  have h1 : pf k % 16 = pf k := by omega
  have h2 : k % 40 = k := by omega
  unfold wkN
  rw [ds_next, List.map_append, List.foldl_append]
  simp [defQ, dqN, h1, h2]
theorem tx_len (k : Nat) : (txN pf k).length ≤ 12 * k := by
  induction k with
  | zero => exact Nat.le_refl _
  | succ k ih =>
    unfold txN at ih ⊢
    rw [ds_next, List.map_append]
    have : (defT (dqN pf k)).length = 11 := rfl
    simp only [catT, List.flatMap_append, List.length_append, List.map_cons, List.map_nil, List.flatMap_cons, List.flatMap_nil, List.length_cons, List.length_nil, this]
    simp only [catT] at ih
    omega
theorem wk_len (k : Nat) : (wkN pf k).length ≤ k := by
  induction k with
  | zero => exact Nat.le_refl _
  | succ k ih =>
    unfold wkN at ih ⊢
    rw [ds_next, List.map_append, List.foldl_append]
    simp only [List.map_cons, List.map_nil, List.foldl_cons, List.foldl_nil, addD]
    split
    · omega
    · rw [List.length_append]; simp only [List.length_cons, List.length_nil]; omega
theorem defsT_eq (e : List Str) : ∀ ds : List (Fin 16 × Fin 40), defsT e ds = ds.map defT ++ e
  | [] => rfl
  | q :: r => by rw [defsT, defsT_eq e r]; rfl
theorem defT_ends (q : Fin 16 × Fin 40) : ∀ c ∈ defT q, notEnd c = true := by
  have hn : ∀ i, ∀ c ∈ nmL i, notEnd c = true := fun i c hc => by
    have := name_letter i c hc
    unfold notEnd
    simp only [Bool.not_eq_true', Bool.or_eq_false_iff, beq_eq_false_iff_ne, ne_eq]
    omega
  intro c hc
  unfold defT at hc
  rcases List.mem_append.1 hc with h | h
  · rcases List.mem_append.1 h with h | h
    · rcases List.mem_cons.1 h with rfl | h
      · decide
      · exact hn _ c h
    · simp only [List.mem_cons, List.not_mem_nil, or_false] at h
      rcases h with rfl | rfl | rfl | rfl <;> decide
  · exact hn _ c h
theorem tx_parse (k : Nat) (text : Bool) : parseL (txN pf k ++ (if text then wordT else [])) = ((if text then .cons { kind := 5, text := wordT } .nil .nil else .nil), wkN pf k) := by
  have hl : lines (txN pf k ++ (if text then wordT else [])) = defsT (if text then [wordT] else []) (dsN pf k) := by
    have := lines_cat [] (by simp) (if text then wordT else []) ((dsN pf k).map defT) (fun x hx => by
      obtain ⟨q, _, rfl⟩ := List.mem_map.1 hx
      exact defT_ends q)
    rw [defsT_eq]
    unfold txN catT
    simp only [List.nil_append, List.map_id'] at this
    rw [this]
    cases text
    · rfl
    · simp only [if_true]
      rw [lines_last wordT (by decide) (by simp)]
  unfold parseL
  rw [hl]
  exact defs_parse (dsN pf k) text
end

theorem row_low {w : World} {b : Nat} {e : TypeId} {z : Nat} {v : Value} {n : Nat} {xs : List Value} (h : w.ownsRow b e z v n xs) : w.ownsRow 0 e z v n xs := by
  refine ⟨h.1, ?_⟩
  rcases h.2 with q | ⟨g, cap, cur, q1, _, q3⟩
  · exact .inl q
  · exact .inr ⟨g, cap, cur, q1, Nat.zero_le _, q3⟩
theorem row_kept {w w' : World} {b : Nat} {e : TypeId} {s : Nat} {v : Value} {n : Nat} {xs : List Value} (h : w.ownsRow b e s v n xs) (hk : ∀ g, v.ownBlock = some g → w'.heap[g]? = w.heap[g]?) : w'.ownsRow b e s v n xs := by
  refine ⟨h.1, ?_⟩
  rcases h.2 with hn | ⟨g, cap, cur, rfl, hb, hg, rest⟩
  · exact .inl hn
  · exact .inr ⟨g, cap, cur, rfl, hb, (hk g rfl).trans hg, rest⟩

theorem mk_ne {a b : Str} (h : a ≠ b) : ((ByteArray.mk a.toArray).toList == (ByteArray.mk b.toArray).toList) = false := by
  rw [ByteArray.toList_eq, ByteArray.toList_eq, list_data, list_data]
  simpa using h

/-- Is the label among the first j? -/
def knownN (d : List Df) (x : Str) (j : Nat) : Bool := (d.take j).any (fun y => y.1 == x)
theorem known_next {d : List Df} {x : Str} {j : Nat} {y : Df} (h : d[j]? = some y) : knownN d x (j + 1) = (knownN d x j || (y.1 == x)) := by
  unfold knownN
  rw [List.take_add_one, h, List.any_append]
  simp

namespace blockDefs

set_option maxHeartbeats 8000000 in
set_option maxRecDepth 60000 in
theorem walk (a0 : Option Addr) (b0 o0 len0 cap0 : Nat) (num0 : Nat → Int) (c1 : Bool) (w : World) (hm : MLen w) (e01 : 0 < len0 → a0 = some ⟨b0, o0, none⟩) (e02 : ∀ i, i < len0 → w.cell? ⟨b0, o0 + i, none⟩ = some (.int .i64 (num0 i))) (e03 : len0 ≤ maxLen) (e04 : ∀ i, -9223372036854775808 ≤ num0 i ∧ num0 i ≤ 9223372036854775807) :
    Calls Tryz.prog 5 #[.slice a0 len0 cap0, .bool c1] w fun e w' => e = .returned (.bool true) ∧ Below w.heap.size w w' := by
  unfold maxLen at e03
  have hblt : 0 < len0 → b0 < w.heap.size := fun h => World.block_lt_of_cell? w ⟨b0, o0 + 0, none⟩ (e02 0 h)
  have E01 := (show Hid _ from e01)
  have E02 := (show Hid _ from e02)
  have HBL := (show Hid _ from hblt)
  clear e01 e02 hblt e04
  obtain ⟨pf, hpf⟩ : ∃ pf : Nat → Nat, ∀ i, pf i ≤ 15 ∧ bits .and .i64 (num0 i) 15 = (pf i : Int) := ⟨fun i => Classical.choose (and_bits7 15 (by omega) (num0 i)), fun i => Classical.choose_spec (and_bits7 15 (by omega) (num0 i))⟩
  have HPf := (show Hid _ from hpf)
  clear hpf
  obtain ⟨n, hn⟩ : ∃ n : Nat, n = min len0 40 := ⟨_, rfl⟩
  have hn40 : n ≤ 40 := by omega
  have hnl : n ≤ len0 := by omega
  have HSh : Hid (Calls Tryz.prog 7 #[] w fun e w' => e = .returned (.bool true) ∧ Below w.heap.size w w') := bshown_any w hm
  have HNm : Hid (∀ i : Nat, i < 40 → ∀ u, Calls Tryz.prog 15 #[.int .i64 (i : Int)] u fun e w' => e = .returned (strV (nmL i)) ∧ Below u.heap.size u w') := fun i hi u => bname_any i hi u
  have HFo : Hid (∀ i : Nat, i < 40 → ∀ u, Calls Tryz.prog 16 #[strV (nmL i)] u fun e w' => e = .returned (strV (nmL i)) ∧ Below u.heap.size u w') := fun i hi u => (run.reffold_any ⟨(nmL i).toArray⟩ u (by rw [size_list]; show 3 ≤ _; omega)).mono fun e w' q => by
    rw [list_data, name_fold ⟨i, hi⟩] at q
    exact q
  go_enter Tryz.func5, Tryz.ntmps5
  go_wp2_with (go_at_call 7; refine Calls.mono HSh.out ?_; rintro e u1 ⟨rfl, hb1⟩; have HB1 := (show Hid _ from hb1); clear hb1)
  have HTl := (show Hid _ from fun k => tx_len pf k)
  have HWl := (show Hid _ from fun k => wk_len pf k)
  have HTn := (show Hid _ from fun k (h : k < 40) => tx_next pf h (HPf.out k).1)
  have HWn := (show Hid _ from fun k (h : k < 40) => wk_next pf h (HPf.out k).1)
  go_loopw [6, 7, 8] (fun s v i wr => ∃ k : Nat, i = .int .i64 (k : Int) ∧ k ≤ n ∧ s = strV (txN pf k) ∧ Hid (wr.ownsRow w.heap.size 41 3 v (wkN pf k).length (defCs (wkN pf k))) ∧ Hid (Below w.heap.size w wr)) (fun _ _ i _ => n - (intOf i).toNat)
  case atStart => exact ⟨0, rfl, Nat.zero_le _, rfl, World.ownsRow_nil _ _ _ _, HB1⟩
  case round =>
    obtain ⟨k, rfl, hk, rfl, HRw, HWr⟩ := hrel
    by_cases hlt : k < n
    · have hlt2 : (k : Int) < (len0 : Int) := by omega
      have hlt4 : (k : Int) < 40 := by omega
      have hao' := E01.out (by omega)
      subst hao'
      obtain ⟨hp15, hp⟩ := HPf.out k
      have hck : wr.cell? ⟨b0, o0 + k, none⟩ = some (.int .i64 (num0 k)) := (HWr.out.cell (p := ⟨b0, o0 + k, none⟩) (HBL.out (by omega))).trans (E02.out k (by omega))
      have HN1 := (show Hid _ from HNm.out (pf k) (by omega))
      have HN2 := (show Hid _ from HNm.out k (by omega))
      have HF := (show Hid _ from HFo.out (pf k) (by omega))
      have hL := HTl.out k
      have hW := HWl.out k
      have HT' := (show Hid _ from HTn.out k (by omega))
      have HW' := (show Hid _ from HWn.out k (by omega))
      generalize txN pf k = TT at *
      generalize wkN pf k = WK at *
      have hk3 : (nmL (pf k)).length = 3 := rfl
      have hn3 : (nmL k).length = 3 := rfl
      generalize nmL (pf k) = KK at *
      obtain ⟨PK, hPK⟩ : ∃ PK : Nat, PK = pf k := ⟨_, rfl⟩
      rw [← hPK] at hp hp15 HN1
      generalize nmL k = NK at *
      have d1 := sadd TT [91] (by simp only [List.length_cons, List.length_nil]; omega)
      have d2 := sadd (TT ++ [91]) KK (by simp only [List.length_append, List.length_cons, List.length_nil]; omega)
      have d3 := sadd (TT ++ [91] ++ KK) [93, 58, 32, 47] (by simp only [List.length_append, List.length_cons, List.length_nil]; omega)
      have d4 := sadd (TT ++ [91] ++ KK ++ [93, 58, 32, 47]) NK (by simp only [List.length_append, List.length_cons, List.length_nil]; omega)
      have d5 := sadd (TT ++ [91] ++ KK ++ [93, 58, 32, 47] ++ NK) [10] (by simp only [List.length_append, List.length_cons, List.length_nil]; omega)
      have d6 := sadd [47] NK (by simp only [List.length_cons, List.length_nil]; omega)
      generalize TT ++ [91] = T1 at *
      generalize T1 ++ KK = T2 at *
      generalize T2 ++ [93, 58, 32, 47] = T3 at *
      generalize T3 ++ NK = T4 at *
      generalize T4 ++ [10] = T5 at *
      have HDS : Hid ([47] ++ NK = 47 :: NK) := rfl
      generalize [47] ++ NK = DS at *
      rw [← HDS.out] at HW'
      have hPK2 : (PK : Int) ≤ 15 := by omega
      clear hPK HDS
      obtain ⟨va, vc, hve, _⟩ := row_slice (row_low HRw.out)
      subst hve
      go_wp2_with (first
        | (go_at_call_of 15 (Value.int .i64 (PK : Int)); refine Calls.mono (HN1.out _) ?_; rintro e u2 ⟨rfl, hb2⟩; have HB2 : Hid (Below wr.heap.size wr u2) := hb2; clear hb2)
        | (go_at_call 15; refine Calls.mono (HN2.out _) ?_; rintro e u3 ⟨rfl, hb3⟩; have HB3 : Hid (Below wr.heap.size wr u3) := HB2.out.trans (hb3.mono HB2.out.size); clear hb3))
      have HR3 : Hid (u3.ownsRow w.heap.size 41 3 (.slice va WK.length vc) WK.length (defCs WK)) := row_kept HRw.out (fun g hg => HB3.out.block g (World.ownsRow.lt HRw.out g hg).2)
      have HW3 : Hid (Below w.heap.size w u3) := HWr.out.trans (HB3.out.mono HWr.out.size)
      have HC3 : Hid (∀ (j : Nat) (y : Df), WK[j]? = some y → ∀ u, Below u3.heap.size u3 u → ∃ g, va = some ⟨g, 0, none⟩ ∧ u.cell? ⟨g, j * 3, none⟩ = some (strV y.1)) := fun j y hy u hu => by
        have hlt := (List.getElem?_eq_some_iff.1 hy).1
        obtain ⟨g', c', he, _, f⟩ := row_at (row_low (row_kept HR3.out (fun g hg => hu.block g (World.ownsRow.lt HR3.out g hg).2))) (by omega)
        cases he
        exact ⟨g', rfl, f _ _ (defCs_at WK j y hy).1⟩
      have HKn := (show Hid _ from fun j y (h : WK[j]? = some y) => known_next (x := KK) h)
      clear HRw HWr HB2 HB3 hck HN1 hp hp15 hPK2
      go_loopw [10, 11] (fun kn i wr2 => ∃ j : Nat, i = .int .i64 (j : Int) ∧ j ≤ WK.length ∧ kn = .bool (knownN WK KK j) ∧ Hid (Below u3.heap.size u3 wr2)) (fun _ i _ => WK.length - (intOf i).toNat)
      case atStart => exact ⟨0, rfl, Nat.zero_le _, rfl, Below.refl _ _⟩
      case round =>
        obtain ⟨j, rfl, hj, rfl, HJ⟩ := hrel
        by_cases hjl : j < WK.length
        · have hjl' : (j : Int) < (WK.length : Int) := by omega
          have hj4 : (j : Int) < 100 := by omega
          have HJL := (show Hid _ from hjl)
          obtain ⟨y, hy⟩ : ∃ y, WK[j]? = some y := ⟨_, List.getElem?_eq_getElem hjl⟩
          obtain ⟨gw, hva, _⟩ := HC3.out j y hy u3 (Below.refl _ _)
          subst hva
          have x0 := fun u : BwW u3 => (show u.wo.cell? ⟨gw, j * 3, none⟩ = some (strV y.1) from by obtain ⟨g', e, q⟩ := HC3.out j y hy u.wo u.is; cases e; exact q)
          have HK' := (show Hid _ from HKn.out j y hy)
          have QF : Hid (∀ u : BwW u3, Calls Tryz.prog 16 #[strV KK] u.wo fun e w' => e = .returned (strV KK) ∧ ∃ u' : BwW u3, w' = u'.wo) := fun u => (HF.out u.wo).mono fun e w' q => ⟨q.1, BwW.of (u.is.trans (q.2.mono u.is.size)), rfl⟩
          have hdr : Below u3.heap.size u3 wr.drew := cur.below_drewN HJ.out 1
          generalize knownN WK KK j = KN at *
          generalize hyk : (y.1 == KK) = YK at HK'
          clear hy
          have hcase : KN = true ∨ (KN = false ∧ y.1 = KK ∧ YK = true) ∨ (KN = false ∧ ((ByteArray.mk y.1.toArray).toList == (ByteArray.mk KK.toArray).toList) = false ∧ YK = false) := by
            cases KN
            · right
              by_cases e : y.1 = KK
              · exact .inl ⟨rfl, e, by rw [← hyk, e]; simp⟩
              · exact .inr ⟨rfl, mk_ne e, by rw [← hyk]; simpa using e⟩
            · exact .inl rfl
          have HYK := (show Hid _ from hyk)
          clear hyk
          generalize y.1 = Y at *
          rcases hcase with hKN | ⟨hKN, hYe, hYK⟩ | ⟨hKN, hYe, hYK⟩
          · subst hKN
            clear x0
            go_wp2
            refine region_class8 (fun w' => ∃ u : BwW u3, w' = u.wo) (by kernel_rfl) (by kernel_rfl) ⟨BwW.of hdr, rfl⟩ ?_
            haveI := BwW.some u3
            repeat (go_big_quiet_step ((go_at_call 16; exact QF.out _)))
            refine wpQuiet_nil ?_
            intro _ hw'
            obtain ⟨u, hu⟩ := hw'
            subst hu
            have HU := (show Hid (Below u3.heap.size u3 u.wo) from u.is)
            go_wp2
            go_roundw
            case rel => exact ⟨j + 1, by go_num, HJL.out, by rw [HK'.out, Bool.true_or], HU⟩
            case measure => have := HJL.out; simp [intOf]; omega
          · subst hKN
            subst hYK
            subst hYe
            go_wp2
            refine region_class8 (fun w' => ∃ u : BwW u3, w' = u.wo) (by kernel_rfl) (by kernel_rfl) ⟨BwW.of hdr, rfl⟩ ?_
            haveI := BwW.some u3
            repeat (go_big_quiet_step ((go_at_call 16; exact QF.out _)))
            refine wpQuiet_nil ?_
            intro _ hw'
            obtain ⟨u, hu⟩ := hw'
            subst hu
            have HU := (show Hid (Below u3.heap.size u3 u.wo) from u.is)
            clear x0
            go_wp2
            go_roundw
            case rel => exact ⟨j + 1, by go_num, HJL.out, by rw [HK'.out, Bool.or_true], HU⟩
            case measure => have := HJL.out; simp [intOf]; omega
          · subst hKN
            subst hYK
            go_wp2
            refine region_class8 (fun w' => ∃ u : BwW u3, w' = u.wo) (by kernel_rfl) (by kernel_rfl) ⟨BwW.of hdr, rfl⟩ ?_
            haveI := BwW.some u3
            repeat (go_big_quiet_step ((go_at_call 16; exact QF.out _)))
            refine wpQuiet_nil ?_
            intro _ hw'
            obtain ⟨u, hu⟩ := hw'
            subst hu
            have HU := (show Hid (Below u3.heap.size u3 u.wo) from u.is)
            clear x0
            go_wp2
            go_roundw
            case rel => exact ⟨j + 1, by go_num, HJL.out, by rw [HK'.out, Bool.or_false] <;> first | rfl | rw [HYK.out], HU⟩
            case measure => have := HJL.out; simp [intOf]; omega
        · have hjl' : ¬ (j : Int) < (WK.length : Int) := by omega
          have hjj : j = WK.length := by omega
          subst hjj
          have HAd : Hid (addD WK (KK, DS, []) = if knownN WK KK WK.length = true then WK else WK ++ [(KK, DS, [])]) := by
            show _ = _
            unfold addD knownN
            rw [List.take_length]
          have HRJ : Hid (wr.ownsRow w.heap.size 41 3 (.slice va WK.length vc) WK.length (defCs WK)) := row_kept HR3.out (fun g hg => HJ.out.block g (World.ownsRow.lt HR3.out g hg).2)
          have HWJ : Hid (Below w.heap.size w wr) := HW3.out.trans (HJ.out.mono HW3.out.size)
          clear HR3 HC3 HKn HJ HW3
          generalize knownN WK KK WK.length = KN at *
          cases KN
          · rw [if_neg (by decide)] at HAd
            obtain ⟨i0, hi, hz0, hz1, hz2⟩ := info_parts infoD
            go_wp2_with (first
              | (go_at_call 16; refine Calls.mono (HF.out _) ?_; rintro e u4 ⟨rfl, hb4⟩; have HB4 : Hid (Below wr.heap.size wr u4) := hb4; clear hb4)
              | (go_at_call 15; refine Calls.mono (HN2.out _) ?_; rintro e u5 ⟨rfl, hb5⟩; have HB5 : Hid (Below wr.heap.size wr u5) := HB4.out.trans (hb5.mono HB4.out.size); have HR5 : Hid (u5.ownsRow w.heap.size 41 3 (.slice va WK.length vc) WK.length (defCs WK)) := row_kept HRJ.out (fun g hg => HB5.out.block g (World.ownsRow.lt HRJ.out g hg).2); clear hb5)
              | (at_builtin; refine wpList_append_own_at _ rfl _ _ 28 rfl w.heap.size 41 i0 (.agg #[.string ⟨#[]⟩, .string ⟨#[]⟩, .string ⟨#[]⟩]) 3 48 Tryz.underlying28 hi hz0 hz1 hz2 rfl (by decide) _ _ _ rfl (World.ownsRow.alloc HR5.out _) ⟨u5.heap.size, 0, none⟩ 1 1 [strV KK, strV DS, .string ⟨#[]⟩] rfl rfl (lit_cells _ _ _) ?c2 ?c3 ?c4 ?c5 ?_))
            case c2 => intro u hu; simp at hu; rcases hu with rfl | rfl | rfl <;> rfl
            case c3 => unfold maxLen; omega
            case c4 => omega
            case c5 => have := (HWJ.out.trans (HB5.out.mono HWJ.out.size)).size; simp; omega
            intro v' w2 hown' hgrow _ hat
            have HO' : Hid (w2.ownsRow w.heap.size 41 3 v' (WK ++ [(KK, DS, [])]).length (defCs (WK ++ [(KK, DS, [])]))) := by
              show World.ownsRow _ _ _ _ _ _ _
              rw [defCs_snoc, List.length_append]
              exact hown'
            have hW5 := HWJ.out.trans (HB5.out.mono HWJ.out.size)
            have HW2 : Hid (Below w.heap.size w w2) := (hW5.alloc hW5.size _).grown hgrow (by have := hW5.size; simp; omega) (fun k hk => (World.ownsRow.lt HR5.out k hk).1)
            clear hown' hgrow hat hW5 HB4 HB5 HR5 HRJ HWJ hi hz0 hz1 hz2
            go_wp2
            go_roundw
            case rel => exact ⟨k + 1, by go_num, by omega, by rw [HT'.out], by show World.ownsRow _ _ _ _ _ _ _; rw [HW'.out, HAd.out]; exact HO'.out, HW2⟩
            case measure => simp [intOf]; omega
          · rw [if_pos rfl] at HAd
            go_wp2
            go_roundw
            case rel => exact ⟨k + 1, by go_num, by omega, by rw [HT'.out], by show World.ownsRow _ _ _ _ _ _ _; rw [HW'.out, HAd.out]; exact HRJ.out, HWJ⟩
            case measure => simp [intOf]; omega
    · have hkn : k = n := by omega
      subst hkn
      have hex : (¬ (k : Int) < (len0 : Int)) ∨ ((k : Int) < (len0 : Int) ∧ ¬ (k : Int) < 40) := by omega
      have hL := HTl.out k
      have HPa : Hid (∀ (T : Str) (p : Bs × List Df), T.length ≤ 1000 → parseL T = p → Calls Tryz.prog 11 #[strV T] wr fun e w' => ∃ v1 v2, e = .returned (.tuple #[v1, v2]) ∧ KidsV w' (fun g => wr.heap.size ≤ g) (fun g => wr.heap.size ≤ g) v1 p.1 ∧ w'.ownsRow 0 41 3 v2 p.2.length (defCs p.2) ∧ Below wr.heap.size wr w') := fun T p hT hp => (bparse_any T (by omega) wr (hm.below HWr.out)).mono fun e w' ⟨v1, v2, q1, q2, q3, _, q5⟩ => ⟨v1, v2, q1, hp ▸ q2, hp ▸ q3, q5⟩
      have e1 := tx_parse pf k false
      have e2 := tx_parse pf k true
      simp only [Bool.false_eq_true, if_false, if_true, List.append_nil] at e1 e2
      have HP1 := (show Hid _ from HPa.out _ _ (by omega) e1)
      have HP2 := (show Hid _ from HPa.out _ _ (by simp only [List.length_append, List.length_cons, List.length_nil]; omega) e2)
      obtain ⟨va, vc, hve, _⟩ := row_slice (row_low HRw.out)
      subst hve
      clear HTl HWl HTn HWn HPf HPa E01 E02 HBL e1 e2 HNm HFo HSh hlt
      generalize txN pf k = TT at *
      generalize wkN pf k = WK at *
      have d1 := sadd TT wordT (by simp only [List.length_cons, List.length_nil]; omega)
      generalize TT ++ wordT = TW at *
      cases c1
      · rcases hex with hex | ⟨hex, hex2⟩
        all_goals
          go_wp2_with (first
            | (go_at_call 11; refine Calls.mono HP1.out ?_; rintro e u2 ⟨v1, v2, rfl, k1, k2, hb2⟩; obtain ⟨xs, r1, _, _⟩ := k1; obtain ⟨ka, kc, rfl, _⟩ := row_slice r1; simp only [Bs.len]; have HB2 : Hid (Below w.heap.size w u2) := HWr.out.trans (hb2.mono HWr.out.size); have HDf := (show Hid _ from bdefs_any WK u2 v2 (.slice va WK.length vc) k2 (row_low (row_kept HRw.out (fun g hg => hb2.block g (World.ownsRow.lt HRw.out g hg).2)))); clear r1 k2 hb2)
            | (go_at_call 13; refine Calls.mono HDf.out ?_; rintro e' u8 ⟨rfl, n8, rfl⟩))
          go_ret
          exact ⟨rfl, cur.below_drewN HB2.out n8⟩
      · rcases hex with hex | ⟨hex, hex2⟩
        all_goals
          go_wp2_with (first
            | (go_at_call 11; refine Calls.mono HP2.out ?_; rintro e u2 ⟨v1, v2, rfl, k1, k2, hb2⟩; obtain ⟨xs, r1, _, y1, y2, y3, rfl, _⟩ := k1; obtain ⟨g, c, rfl, _, q⟩ := row_at r1 (Nat.succ_pos _); simp only [Bs.len]; have HB2 : Hid (Below w.heap.size w u2) := HWr.out.trans (hb2.mono HWr.out.size); have HDf := (show Hid _ from bdefs_any WK u2 v2 (.slice va WK.length vc) k2 (row_low (row_kept HRw.out (fun g hg => hb2.block g (World.ownsRow.lt HRw.out g hg).2)))); have z0 := (fun n : Nat => (show (u2.drewN n).cell? ⟨g, 0, none⟩ = some (.int .i64 5) from q 0 _ rfl)); have z2 := (fun n : Nat => (show (u2.drewN n).cell? ⟨g, 2, none⟩ = some (.string ⟨#[119, 111, 114, 100]⟩) from q 2 _ rfl)); clear r1 k2 hb2 q)
            | (go_at_call 13; refine Calls.mono HDf.out ?_; rintro e' u8 ⟨rfl, n8, rfl⟩))
          go_ret
          exact ⟨rfl, cur.below_drewN HB2.out n8⟩

end blockDefs
end Go.Proofs.YtcbojffcnlkejaaGreatDoor
