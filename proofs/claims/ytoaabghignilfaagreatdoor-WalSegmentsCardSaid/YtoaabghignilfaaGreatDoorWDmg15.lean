/- WalDamage, walked. -/
import Derived.Test.YtoaabghignilfaaGreatDoorWDrops15
import Derived.Test.YtoaabghignilfaaGreatDoorV07
import Derived.Test.YtoaabghignilfaaGreatDoorVRefN
set_option linter.unusedVariables false
namespace Go.Proofs.YtoaabghignilfaaGreatDoor
open Go.RowKit

/-- Rows of bytes that were handed in. -/
def RowsIn (w : World) (a : Option Addr) (n : Nat) (A : Nat → Option Addr) (L C : Nat → Nat) (l : Nat → List UInt8) : Prop :=
  ∀ r, r < n → ∃ x, a = some x ∧ w.cell? (x.add r) = some (.slice (A r) (L r) (C r)) ∧ BRow w (A r) (L r) (C r) (l r) ∧ L r ≤ C r ∧ L r ≤ 140737488355328
theorem RowsIn.below {w w' : World} {a : Option Addr} {n : Nat} {A : Nat → Option Addr} {L C : Nat → Nat} {l : Nat → List UInt8} (h : RowsIn w a n A L C l) (hb : Below w.heap.size w w') : RowsIn w' a n A L C l := fun r hr => by
  obtain ⟨x, h1, h2, h3, h4⟩ := h r hr
  have hlt : (x.add r).block < w.heap.size := World.block_lt_of_cell? w _ h2
  exact ⟨x, h1, by rw [hb.cell hlt]; exact h2, h3.below hb, h4⟩
/-- The record that is made of a row. -/
def cutR (l : Nat → List UInt8) (r : Nat) : Rec := (l r).take 500
theorem cutR_len (l : Nat → List UInt8) (r : Nat) : (cutR l r).length = min 500 (l r).length := by simp [cutR]
def allC (l : Nat → List UInt8) (n : Nat) : Recs := (List.range n).map (cutR l)
theorem allC_succ (l : Nat → List UInt8) (n : Nat) : allC l (n + 1) = allC l n ++ [cutR l n] := by
  unfold allC
  rw [List.range_succ, List.map_append]
  rfl
theorem allC_len (l : Nat → List UInt8) (n : Nat) : (allC l n).length = n := by simp [allC]
theorem allC_at (l : Nat → List UInt8) (n j : Nat) (h : j < n) : (allC l n)[j]? = some (cutR l j) := by simp [allC, h]

/-- Where the record of a number stands. -/
def PosR (G : Gs) (W : Nat) (nm : Nm) (fr : Nat) : Prop := ∃ A x B, G = A ++ x :: B ∧ x.1 ≤ W + 1 ∧ W + 1 < x.1 + x.2.length ∧ nm = nameL x.1 ∧ fr = bulk (x.2.take (W + 1 - x.1))
theorem PosR.more {G : Gs} {g : Nat × Recs} {W : Nat} {nm : Nm} {fr : Nat} (h : PosR (G ++ [g]) W nm fr) (l : Rec) : PosR (addG G g l) W nm fr := by
  obtain ⟨A, x, B, h1, h2, h3, h4, h5⟩ := h
  unfold addG
  split
  · exact ⟨A, x, B ++ [(g.1 + g.2.length, [l])], by rw [h1]; simp, h2, h3, h4, h5⟩
  · rcases List.eq_nil_or_concat B with hB | ⟨B', y, hB⟩
    · subst hB
      obtain ⟨e1, e2⟩ := List.append_inj' h1 rfl
      have e3 : g = x := by simpa using e2
      subst e1 e3
      refine ⟨G, (g.1, g.2 ++ [l]), [], rfl, h2, by simp; omega, h4, ?_⟩
      rw [h5, List.take_append_of_le_length (by omega)]
    · rw [List.concat_eq_append] at hB
      subst hB
      have h1' : G ++ [g] = (A ++ x :: B') ++ [y] := by rw [h1]; simp
      obtain ⟨e1, e2⟩ := List.append_inj' h1' rfl
      have e3 : g = y := by simpa using e2
      subst e1 e3
      exact ⟨A, x, B' ++ [(g.1, g.2 ++ [l])], by simp, h2, h3, h4, h5⟩
theorem PosR.last {G : Gs} {g : Nat × Recs} {W : Nat} (l : Rec) (hW : W + 1 = g.1 + g.2.length) : PosR (addG G g l) W (nameL (if 2048 ≤ bulk g.2 then W + 1 else g.1)) (if 2048 ≤ bulk g.2 then 0 else bulk g.2) := by
  unfold addG
  split
  · refine ⟨G ++ [g], (g.1 + g.2.length, [l]), [], rfl, by simp; omega, by simp; omega, by rw [hW], ?_⟩
    rw [hW]; simp [bulk]
  · refine ⟨G, (g.1, g.2 ++ [l]), [], rfl, by simp; omega, by simp; omega, rfl, ?_⟩
    rw [show W + 1 - g.1 = g.2.length by omega]
    simp
theorem addG_last (G : Gs) (g : Nat × Recs) (l : Rec) : ∃ G' , addG G g l = G' ++ [if 2048 ≤ bulk g.2 then (g.1 + g.2.length, [l]) else (g.1, g.2 ++ [l])] := by
  unfold addG
  split
  · exact ⟨G ++ [g], rfl⟩
  · exact ⟨G, rfl⟩

/-- What stands behind n records. -/
def DmS (w0 : World) (b m p : Nat) (l : Nat → List UInt8) (W n seg at' : Nat) (nm : Nm) (fr : Nat) (w : World) : Prop :=
  ∃ d G g, LgS w0 b m p d ((G ++ [g]).map gSg) NoG w ∧ Str d (G ++ [g]) ∧ d.room = 1099511627776 ∧ headN (G ++ [g]) = 1 ∧ allR (G ++ [g]) = allC l n ∧ (G ++ [g]).length ≤ n + 1 ∧ bulks (G ++ [g]) ≤ n * 508 ∧ seg = g.1 ∧ at' = bulk g.2 ∧ (W < n → PosR (G ++ [g]) W nm fr)
theorem DmS.step {w0 w w' : World} {b m p : Nat} {l : Nat → List UInt8} {W n : Nat} {nm : Nm} {fr : Nat} {d d' : Dk} {G : Gs} {g : Nat × Recs} (h3 : d.room = 1099511627776) (h4 : headN (G ++ [g]) = 1) (h5 : allR (G ++ [g]) = allC l n) (h6 : (G ++ [g]).length ≤ n + 1) (h7 : bulks (G ++ [g]) ≤ n * 508) (h8 : W < n → PosR (G ++ [g]) W nm fr) (hnx : g.1 + g.2.length = n + 1)
    (q1 : LgS w0 b m p d' ((addG G g (cutR l n)).map gSg) NoG w') (q2 : Str d' (addG G g (cutR l n))) (q3 : d'.room = d.room) :
    DmS w0 b m p l W (n + 1) (if 2048 ≤ bulk g.2 then n + 1 else g.1) ((if 2048 ≤ bulk g.2 then 0 else bulk g.2) + 8 + (cutR l n).length) (if n = W then nameL (if 2048 ≤ bulk g.2 then n + 1 else g.1) else nm) (if n = W then (if 2048 ≤ bulk g.2 then 0 else bulk g.2) else fr) w' := by
  obtain ⟨G2, hG2⟩ := addG_last G g (cutR l n)
  have hlen := addG_len G g (cutR l n)
  have hbu := bulks_addG G g (cutR l n)
  have hal := allR_addG G g (cutR l n)
  have hhd := headN_addG G g (cutR l n)
  have hcl := cutR_len l n
  have hpos : W < n + 1 → PosR (addG G g (cutR l n)) W (if n = W then nameL (if 2048 ≤ bulk g.2 then n + 1 else g.1) else nm) (if n = W then (if 2048 ≤ bulk g.2 then 0 else bulk g.2) else fr) := fun hW => by
    by_cases hn : n = W
    · rw [if_pos hn, if_pos hn]
      subst hn
      exact PosR.last (cutR l n) hnx.symm
    · rw [if_neg hn, if_neg hn]
      exact (h8 (by omega)).more (cutR l n)
  rw [hG2] at q1 q2 hlen hbu hal hhd hpos
  refine ⟨d', G2, _, q1, q2, by rw [q3]; exact h3, by rw [hhd]; exact h4, by rw [hal, h5, allC_succ], by omega, by rw [hbu, Nat.add_mul]; omega, ?_, ?_, hpos⟩
  · split
    · omega
    · rfl
  · split
    · first | (simp [bulk]; done) | (simp [bulk]; omega)
    · first | (simp [bulk_append, bulk]; done) | (simp [bulk_append, bulk]; omega)

/-- The same, behind the row's place. -/
def RowsX (w : World) (x : Addr) (n : Nat) (A : Nat → Option Addr) (L C : Nat → Nat) (l : Nat → List UInt8) : Prop :=
  ∀ r, r < n → w.cell? (x.add r) = some (.slice (A r) (L r) (C r)) ∧ BRow w (A r) (L r) (C r) (l r) ∧ L r ≤ C r ∧ L r ≤ 140737488355328
theorem RowsX.below {w w' : World} {x : Addr} {n : Nat} {A : Nat → Option Addr} {L C : Nat → Nat} {l : Nat → List UInt8} (h : RowsX w x n A L C l) (hb : Below w.heap.size w w') : RowsX w' x n A L C l := fun r hr => by
  obtain ⟨h2, h3, h4⟩ := h r hr
  have hlt : (x.add r).block < w.heap.size := World.block_lt_of_cell? w _ h2
  exact ⟨by rw [hb.cell hlt]; exact h2, h3.below hb, h4⟩
theorem RowsIn.x {w : World} {a : Option Addr} {n : Nat} {A : Nat → Option Addr} {L C : Nat → Nat} {l : Nat → List UInt8} (h : RowsIn w a n A L C l) (hn : 0 < n) : ∃ x, a = some x ∧ RowsX w x n A L C l := by
  obtain ⟨x, h1, _⟩ := h 0 hn
  refine ⟨x, h1, fun r hr => ?_⟩
  obtain ⟨y, g1, g2, g3, g4⟩ := h r hr
  have : x = y := Option.some.inj (h1.symm.trans g1)
  subst this
  exact ⟨g2, g3, g4⟩
/-- A record more, of bytes that were handed in. -/
theorem strAppIn {w0 : World} {b m p : Nat} {d : Dk} {G : Gs} {g : Nat × Recs} {w : World} (h : LgS w0 b m p d ((G ++ [g]).map gSg) NoG w) (hs : Str d (G ++ [g])) {a : Option Addr} {n c : Nat} {l : Rec} (hrow : ∀ w', Below w0.heap.size w0 w' → BRow w' a n c l) (hln : l.length = n) (hl : n ≤ 8192) (hn : g.1 + g.2.length ≤ 999999) (hr : bulks (G ++ [g]) + 8200 ≤ d.room) (hs2 : bulks (G ++ [g]) + 8200 ≤ 1099511627776) (hf : (G ++ [g]).length + 1 ≤ 1048576) :
    Calls Tryz.prog 18 #[dptr p, .slice a n c] w fun e w' => ∃ d', e = .returned (.int .i64 0) ∧ LgS w0 b m p d' ((addG G g l).map gSg) NoG w' ∧ Str d' (addG G g l) ∧ d'.room = d.room := by
  obtain ⟨d', e1, e2, e3⟩ := hs.app (l := l) (by omega) hn (by rw [hs.used]; omega) (by rw [hs.used]; omega) (by rw [hs.count]; exact hf)
  refine (appG h (by simp) (fun w' _ hb => hrow w' hb) (by omega) (by rw [lastS_gs, gSg_next]; omega) (by rw [List.length_map]; exact hf) (by rw [hs.used]; exact hs2) (by rw [hs.count]; exact hf)).mono fun e w' r => ?_
  rw [e1] at r
  exact ⟨d', r.1, r.2.1, e2, e3⟩
theorem bulk_mem {G : Gs} {g : Nat × Recs} (h : g ∈ G) : bulk g.2 ≤ bulks G := by
  obtain ⟨A, B, hAB⟩ := List.append_of_mem h
  rw [hAB, bulks_append, bulks_cons]
  omega

theorem allR_append (A B : Gs) : allR (A ++ B) = allR A ++ allR B := by simp [allR]
theorem chain_mid : ∀ {A : Gs} {x : Nat × Recs} {B : Gs}, ChainG (A ++ x :: B) → x.1 = headN (A ++ x :: B) + (allR A).length
  | [], x, B, _ => by simp [headN, allR]
  | [y], x, B, h => by
    have := h.1
    simp [headN, allR] at this ⊢
    omega
  | y :: z :: A, x, B, h => by
    have ih := chain_mid (A := z :: A) (x := x) (B := B) h.2.2
    have h1 := h.1
    rw [allR_cons, List.length_append]
    have e1 : headN (z :: A ++ x :: B) = z.1 := rfl
    rw [e1] at ih
    show x.1 = y.1 + _
    omega
theorem DkS.fresh {w0 : World} {b m : Nat} {d : Dk} {w w' : World} (h : DkS w0 b m d NoG w) (hb : Below w.heap.size w w') : DkS w0 b m d (fun k => w.heap.size ≤ k ∧ k < w'.heap.size) w' :=
  h.own (Fr.of_below _ hb) (fun k hk => hk.elim) (fun k hk => ⟨hk.2, .inr hk.1⟩)
theorem own_setB {w : World} {B g n c : Nat} {bs : List UInt8} (h : OwnB w B (.slice (some ⟨g, 0, none⟩) n c) bs) (p : Nat) (hp : p < bs.length) (x : UInt8) : OwnB (w.setCell ⟨g, p, none⟩ (.int .u8 (x.toNat : Int))) B (.slice (some ⟨g, 0, none⟩) n c) (bs.set p x) := by
  rcases h with ⟨h0, ⟨h1, _⟩ | ⟨g', cap, cur, h1, h2, h3, h4, h5, h6, h7⟩⟩
  · cases h1
  · have e2 : c = cap := congrArg (fun v => match v with | Value.slice _ _ c => c | _ => 0) h1
    have e3 : g = g' := congrArg (fun v => match v with | Value.slice (some a) _ _ => a.block | _ => 0) h1
    subst e2 e3
    refine ⟨by simp [Lib.byteCells], .inr ⟨g, c, _, by rw [h1]; simp, h2, set_blk h3 p _, by simpa using h4, h5, by simpa using h6, ?_⟩⟩
    rw [Array.toList_setIfInBounds, List.length_set, List.take_set, h7]
    simp [Lib.byteCells, List.map_set]
/-- A byte turned is another one. -/
theorem turned (c : UInt8) (t : Nat) (h0 : 0 < t) (h1 : t < 256) : ∃ x : UInt8, bits .xor .u8 ((c.toNat : Nat) : Int) (t : Int) = ((x.toNat : Nat) : Int) ∧ x ≠ c := by
  have hc := c.toNat_lt
  have hlt : c.toNat ^^^ t < 256 := Nat.xor_lt_two_pow (n := 8) hc h1
  refine ⟨UInt8.ofNat (c.toNat ^^^ t), ?_, fun e => ?_⟩
  · have e1 : (UInt8.ofNat (c.toNat ^^^ t)).toNat = c.toNat ^^^ t := by rw [UInt8.toNat_ofNat', Nat.mod_eq_of_lt (by omega)]
    rw [e1]
    exact u8_xor_nat _ _ hc h1
  · have e1 : (UInt8.ofNat (c.toNat ^^^ t)).toNat = c.toNat ^^^ t := by rw [UInt8.toNat_ofNat', Nat.mod_eq_of_lt (by omega)]
    rw [e] at e1
    have e2 : c.toNat ^^^ t = c.toNat ^^^ 0 := by rw [← e1]; simp
    have e3 : t ^^^ c.toNat = 0 ^^^ c.toNat := by rw [Nat.xor_comm t, Nat.xor_comm 0]; exact e2
    have := xor_cancel e3
    omega

theorem Held.short {d : Dk} {E : List (Nm × List UInt8)} (h : Held d E) (hE : ∀ x ∈ E, x.1.length = 10) : ∀ x ∈ d.files, x.1.length ≤ 140737488355328 := fun x hx => by
  have h1 : (x.1, x.2.bs) ∈ fnB d.files := List.mem_map.2 ⟨x, hx, rfl⟩
  rw [h.files] at h1
  have := hE _ h1
  simp only at this
  omega
/-- What the damaged disk is opened as. -/
theorem dmgOpen {d : Dk} {Ga Gb : Gs} {xg : Nat × Recs} {bs : List UInt8} {kk jj pp bl bln fr : Nat} {r : Rec} {xb cc : UInt8} (hs : Str d (Ga ++ xg :: Gb)) (hlt : ∀ x ∈ Ga ++ xg :: Gb, x.1 < 1000000) (hroom : d.room = 1099511627776) (hus : bulks (Ga ++ xg :: Gb) ≤ 100000) (hfew : (Ga ++ xg :: Gb).length + 1 ≤ 1048576) (hkk : xg.2[kk]? = some r) (hr : r.length = bl) (hfr : bulk (xg.2.take kk) = fr) (hbs : framesL xg.1 xg.2 = bs) (hbl : bs.length = bln) (hpp : pp = fr + (4 + jj)) (hj : 4 + jj < 8 + bl) (hle : fr + (8 + bl) ≤ bln) (hcc : bs[pp]? = some cc) (hx : xb ≠ cc) :
    ∃ d1 d2, cutP d (nameL xg.1) 0 = (0, d1) ∧ appendP d1 (nameL xg.1) (bs.set pp xb) = (0, d2) ∧ usedL d1.files + (bs.set pp xb).length ≤ 1099511627776 ∧ d1.files.length + 1 ≤ 1048576 ∧ (∀ x ∈ d2.files, x.1.length ≤ 140737488355328) ∧ usedL d2.files ≤ 1099511627776 ∧ d2.files.length + 1 ≤ 1048576 ∧
      (Gb ≠ [] → ∃ L, openP d2 = (16, d2, L)) ∧ (Gb = [] → ∃ d', openP d2 = (0, d', Ga.map gSg ++ [sgOf xg.1 (xg.2.take kk)])) := by
  have hh := hs.held
  rw [List.map_append, List.map_cons] at hh
  have hh2 : Held d (Ga.map gFile ++ (nameL xg.1, bs) :: Gb.map gFile) := by
    have : gFile xg = (nameL xg.1, bs) := by unfold gFile; rw [hbs]
    rw [this] at hh
    exact hh
  obtain ⟨d1, c1, c2, c3, c4, c5⟩ := hh2.cut 0 (Nat.zero_le _)
  rw [List.take_zero] at c2
  have hu := hs.used
  have hcnt := hs.count
  have hsl : (bs.set pp xb).length = bln := by rw [List.length_set, hbl]
  obtain ⟨d2, e1, e2, e3, e4, e5⟩ := c2.app (mayN_name _) (l := bs.set pp xb) (by rw [c3, hroom, hsl]; omega) (by rw [hsl]; omega)
  rw [List.nil_append] at e2
  have hnum : ∀ x ∈ Ga ++ xg :: Gb, 1 ≤ x.1 ∧ x.1 < 1000000 := fun x hx => ⟨(hs.num x hx).1, hlt x hx⟩
  have hkl := (List.getElem?_eq_some_iff.1 hkk).1
  have hrd : readSg xg.1 (bs.set pp xb) = sgOf xg.1 (xg.2.take kk) := by
    have := read_turned xg.1 xg.2 kk r (hs.small xg (by simp)) hkk (4 + jj) xb (by omega) (by rw [hr]; exact hj) (by
      rw [hfr, hbs, ← hpp, hcc]
      intro e
      exact hx (Option.some.inj e).symm)
    rw [hfr, hbs, ← hpp] at this
    exact this
  obtain ⟨t1, t2⟩ := open_torn (k := kk) e2 hs.chain (fun x hx => ⟨hs.small x (by simp [hx]), (hs.num x (by simp [hx])).2⟩) hnum (by have := hs.num xg (by simp); omega) (by omega) hrd (by rw [hfr, hsl]; omega)
  refine ⟨d1, d2, c1, e1, by rw [hsl]; omega, by omega, e2.short ?_, by omega, by omega, t1, t2⟩
  intro x hx
  rcases List.mem_append.1 hx with hx | hx
  · obtain ⟨y, _, rfl⟩ := List.mem_map.1 hx
    exact nameL_length _
  · rcases List.mem_cons.1 hx with rfl | hx
    · exact nameL_length _
    · obtain ⟨y, _, rfl⟩ := List.mem_map.1 hx
      exact nameL_length _

set_option maxHeartbeats 8000000 in
set_option maxRecDepth 40000 in
theorem wdamage (ra : Option Addr) (rn rc : Nat) (A : Nat → Option Addr) (L C : Nat → Nat) (l : Nat → List UInt8) (hrn : rn ≤ 140737488355328) (a1 : Int) (r1 : -9223372036854775808 ≤ a1 ∧ a1 ≤ 9223372036854775807) (a2 : Int) (r2 : -9223372036854775808 ≤ a2 ∧ a2 ≤ 9223372036854775807) (t : Nat) (ht8 : t < 256) (w : World) (hrows : RowsIn w ra rn A L C l) (ht : Tabs w) :
    Calls Tryz.prog 5 #[.slice ra rn rc, .int .i64 a1, .int .i64 a2, .int .u8 (t : Int)] w fun e w' => e = .returned (.bool true) ∧ Below w.heap.size w w' := by
  have hSh := shown_any15 ht
  have HT : Hid (Tabs w) := ht
  have HRw : Hid (RowsIn w ra rn A L C l) := hrows
  have H1 : Hid (-9223372036854775808 ≤ a1 ∧ a1 ≤ 9223372036854775807) := r1
  have H2 : Hid (-9223372036854775808 ≤ a2 ∧ a2 ≤ 9223372036854775807) := r2
  have Ht : Hid (t < 256) := ht8
  obtain ⟨nn, hnn⟩ : ∃ nn : Nat, min (rn : Int) 30 = (nn : Int) := ⟨min rn 30, by omega⟩
  have HNn : Hid (nn ≤ rn ∧ nn ≤ 30) := by constructor <;> omega
  have brn : (rn : Int) ≤ 140737488355328 := by omega
  clear ht r1 r2 ht8 hrows hrn
  go_enter Tryz.func5, Tryz.ntmps5
  go_wp2_with (fail)
  refine hSh.mono ?_
  rintro e w1 ⟨rfl, hb1⟩
  have HB1 : Hid (Below w.heap.size w w1) := hb1
  clear hSh hb1
  go_wp2_with (fail)
  refine (newG (w0 := w) 1099511627776 (by omega) (G := NoG) HB1.out (fun k hk => hk.elim)).mono ?_
  rintro e w3 ⟨b, m, rfl, hD, _⟩
  have D3 : Hid (DkS w b m (newD 1099511627776) NoG w3) := hD
  clear hD
  go_wp2_with (fail)
  refine (openG D3.out HT.out (fun x hx => by cases hx) (by show usedL [] ≤ _; rw [usedL_nil]; omega) (by show 0 + 1 ≤ _; omega) nd1_e).mono ?_
  rintro e w4 ⟨p, rfl, hL, _⟩
  have HL4 : Hid (LgS w b m p nd1 ([((1, []) : Nat × Recs)].map gSg) NoG w4) := hL
  clear hL D3
  by_cases hn0 : nn = 0
  · subst hn0
    go_wp2_with (fail)
    go_ret
    exact ⟨rfl, HL4.out.bel⟩
  have bnn : (nn : Int) ≤ 30 := by have := HNn.out; omega
  have qn : ((nn : Int) == 0) = false := by simp; omega
  have HNp : Hid (0 < nn) := by show 0 < nn; omega
  obtain ⟨x, hxe, hRX⟩ := HRw.out.x (by have := HNn.out; omega)
  subst hxe
  have HRX : Hid (RowsX w x rn A L C l) := hRX
  clear hn0 hRX HRw
  by_cases ht0 : t = 0
  · subst ht0
    go_wp2_with (fail)
    go_ret
    exact ⟨rfl, HL4.out.bel⟩
  have qt : ((t : Int) == 0) = false := by simp; omega
  have HTt : Hid (0 < t ∧ t < 256) := ⟨by omega, Ht.out⟩
  have bt : (t : Int) ≤ 255 := by have := Ht.out; omega
  clear ht0 Ht
  go_upto_if 64 with fail
  go_cut [1] from 63 to 67 (fun X wx => ∃ x : Int, X = .int .i64 x ∧ Hid (0 ≤ x ∧ x ≤ 9223372036854775807) ∧ Hid (wx = w4))
  case first =>
    by_cases hneg : a1 < 0
    · obtain ⟨x, hx⟩ : ∃ x, x = -(a1 + 1) := ⟨_, rfl⟩
      obtain ⟨e1, e2, e3, e4⟩ := neg_one H1.out.1 hneg hx
      have HX : Hid (0 ≤ x ∧ x ≤ 9223372036854775807) := ⟨e3, e4⟩
      clear hx e3 e4
      go_wp2_with (fail)
      go_meet
      case rel => exact ⟨x, by first | rfl | (rw [e2]) | (simp [e2]), HX, rfl⟩
    · have HX : Hid (0 ≤ a1 ∧ a1 ≤ 9223372036854775807) := ⟨by omega, H1.out.2⟩
      go_wp2_with (fail)
      go_meet
      case rel => exact ⟨a1, rfl, HX, rfl⟩
  case rest =>
    obtain ⟨x1, rfl, HX1, HWc⟩ := hcut
    have hwc := HWc.out
    subst hwc
    clear HWc
    obtain ⟨w5, hw5⟩ : ∃ w5, w5 = wc := ⟨_, rfl⟩
    subst hw5
    obtain ⟨W, hW, eW⟩ := mod_nat HX1.out.1 nn HNp.out
    have HWn : Hid (W < nn) := hW
    have bW : (W : Int) < (nn : Int) := by omega
    have S5 : Hid (DmS w b m p l W 0 1 0 [] 0 w5) := ⟨nd1, [], (1, []), HL4.out, nd1_s.1, nd1_s.2, rfl, rfl, by simp, by simp [bulks, bulk], rfl, rfl, fun h => by omega⟩
    clear hW HL4
    go_wp2_with (fail)
    go_loopw [14, 15, 16, 17, 18] (fun s a nm fr i wr => ∃ (k seg at' : Nat) (N' : Nm) (f' : Nat), s = .int .i64 seg ∧ a = .int .i64 at' ∧ nm = strN N' ∧ fr = .int .i64 f' ∧ i = .int .i64 k ∧ Hid (k ≤ nn) ∧ Hid (DmS w b m p l W k seg at' N' f' wr)) (fun _ _ _ _ i _ => nn - (intOf i).toNat)
    case atStart => exact ⟨0, 1, 0, [], 0, rfl, rfl, rfl, rfl, rfl, Nat.zero_le _, S5⟩
    case round =>
      obtain ⟨k, seg, at', N', f', rfl, rfl, rfl, rfl, rfl, HK, HS⟩ := hrel
      clear S5
      by_cases hkn : k < nn
      · have b1 : (k : Int) < (nn : Int) := by omega
        obtain ⟨d, G, g, g1, g2, g3, g4, g5, g6, g7, g8, g9, g10⟩ := HS.out
        have hnx := chain_next g2.chain
        rw [g4, g5, allC_len] at hnx
        have hbel := g1.bel
        obtain ⟨hcell, hrow, hLC, hLb⟩ := HRX.out.below hbel k (by have := HNn.out; omega)
        have bat : (at' : Int) ≤ 15240 := by
          have := bulk_mem (g := g) (G := G ++ [g]) (by simp)
          rw [← g9] at this
          have h2 := HNn.out
          have : k * 508 ≤ 30 * 508 := Nat.mul_le_mul_right _ (by omega)
          omega
        have bseg : (seg : Int) ≤ 31 := by have := HNn.out; omega
        have HG : Hid (LgS w b m p d ((G ++ [g]).map gSg) NoG wr ∧ Str d (G ++ [g]) ∧ d.room = 1099511627776 ∧ headN (G ++ [g]) = 1 ∧ allR (G ++ [g]) = allC l k ∧ (G ++ [g]).length ≤ k + 1 ∧ bulks (G ++ [g]) ≤ k * 508 ∧ seg = g.1 ∧ at' = bulk g.2 ∧ (W < k → PosR (G ++ [g]) W N' f') ∧ g.1 + g.2.length = k + 1) := ⟨g1, g2, g3, g4, g5, g6, g7, g8, g9, g10, by omega⟩
        have HRr : Hid (BRow wr (A k) (L k) (C k) (l k) ∧ L k ≤ C k) := ⟨hrow, hLC⟩
        have bL : (L k : Int) ≤ 140737488355328 := by omega
        have bnL : (0 : Int) < (rn : Int) := by have := HNn.out; have := HNp.out; omega
        have bkr : (k : Int) < (rn : Int) := by have := HNn.out; omega
        have bkn : k < rn := by have := HNn.out; omega
        clear HS g1 g2 g3 g4 g5 g6 g7 g8 g9 g10 hnx hbel hrow hLC hLb
        go_upto_if 82 with fail
        go_cut [19] from 80 to 84 (fun X wx => ∃ bn : Nat, X = .slice (A k) bn (C k) ∧ Hid (bn = min 500 (L k)) ∧ Hid (wx = wr))
        case first =>
          by_cases h5 : 500 < L k
          · have q5 : (500 : Int) < (L k : Int) := by omega
            have z5 : ∀ u, (Instr.slice 34 (.slice (A k) (L k) (C k)) none (some (.int .i64 500)) none).run Tryz.prog u = .ok (.slice (A k) 500 (C k)) u := fun u => slice_to (A k) (L k) (C k) 500 (by omega) HRr.out.2 u
            go_wp2_with (fail)
            go_meet
            case rel => exact ⟨500, rfl, by show _ = _; omega, rfl⟩
          · have q5 : ¬ (500 : Int) < (L k : Int) := by omega
            go_wp2_with (fail)
            go_meet
            case rel => exact ⟨L k, rfl, by show _ = _; omega, rfl⟩
        case rest =>
          obtain ⟨bn, rfl, HBn, HWc⟩ := hcut
          have hwc := HWc.out
          subst hwc
          clear HWc hcell
          obtain ⟨wa, hwa⟩ : ∃ wa, wa = wc := ⟨_, rfl⟩
          subst hwa
          have bbn : (bn : Int) ≤ 500 := by have := HBn.out; omega
          go_upto_if 86 with fail
          go_cut [14, 15] from 85 to 88 (fun s a wx => ∃ sg at2 : Nat, s = .int .i64 sg ∧ a = .int .i64 at2 ∧ Hid (sg = (if 2048 ≤ at' then k + 1 else seg) ∧ at2 = (if 2048 ≤ at' then 0 else at')) ∧ Hid (wx = wa))
          case first =>
            by_cases h2 : 2048 ≤ at'
            · have q5 : (2048 : Int) ≤ (at' : Int) := by omega
              go_wp2_with (fail)
              go_meet
              case rel => exact ⟨k + 1, 0, by first | rfl | go_num, rfl, ⟨by rw [if_pos h2], by rw [if_pos h2]⟩, rfl⟩
            · have q5 : ¬ (2048 : Int) ≤ (at' : Int) := by omega
              go_wp2_with (fail)
              go_meet
              case rel => exact ⟨seg, at', rfl, rfl, ⟨by rw [if_neg h2], by rw [if_neg h2]⟩, rfl⟩
          case rest =>
            obtain ⟨sg, at2, rfl, rfl, HSg, HWc⟩ := hcut
            have hwc := HWc.out
            subst hwc
            clear HWc
            obtain ⟨wb, hwb⟩ : ∃ wb, wb = wc := ⟨_, rfl⟩
            subst hwb
            have bsg : (sg : Int) ≤ 31 := by have := HSg.out.1; split at this <;> omega
            have ba2 : (at2 : Int) ≤ 2047 := by have := HSg.out.2; split at this <;> omega
            go_upto_if 91 with fail
            go_cut [16, 17] from 89 to 94 (fun nm fr wx => ∃ (N2 : Nm) (f2 : Nat), nm = strN N2 ∧ fr = .int .i64 f2 ∧ Hid (N2 = (if k = W then nameL sg else N') ∧ f2 = (if k = W then at2 else f')) ∧ Hid (Below wb.heap.size wb wx))
            case first =>
              by_cases hkW : k = W
              · have q5 : ((k : Int) == (W : Int)) = true := by simp; omega
                have HkW : Hid (k = W) := hkW
                have hNm := rname_any sg (by omega) wb
                clear hkW
                go_wp2_with (fail)
                refine hNm.mono ?_
                rintro e v1 ⟨rfl, hb1⟩
                have HBv : Hid (Below wb.heap.size wb v1) := hb1
                clear hNm hb1
                go_wp2_with (fail)
                go_meet
                case rel => exact ⟨nameL sg, at2, rfl, rfl, ⟨by rw [if_pos HkW.out], by rw [if_pos HkW.out]⟩, HBv⟩
              · have q5 : ((k : Int) == (W : Int)) = false := by simp; omega
                go_wp2_with (fail)
                go_meet
                case rel => exact ⟨N', f', rfl, rfl, ⟨by rw [if_neg hkW], by rw [if_neg hkW]⟩, Below.refl _ _⟩
            case rest =>
              obtain ⟨N2, f2, rfl, rfl, HN2, HBc⟩ := hcut
              obtain ⟨wd, hwd⟩ : ∃ wd, wd = wc := ⟨_, rfl⟩
              subst hwd
              have hGd := (HG.out.1.same HBc.out).1
              have hcl : (cutR l k).length = bn := by
                rw [cutR_len, HBn.out, HRr.out.1.1]
              have hA := strAppIn hGd HG.out.2.1 (a := A k) (n := bn) (c := C k) (l := cutR l k) (fun w' hb => by
                obtain ⟨_, hrow, hLC, _⟩ := HRX.out.below hb k (by have := HNn.out; omega)
                by_cases h5 : 500 < L k
                · have e5 : bn = 500 := by have := HBn.out; omega
                  rw [e5]
                  exact hrow.pre (by omega)
                · have e5 : bn = L k := by have := HBn.out; omega
                  rw [e5]
                  unfold cutR
                  rw [List.take_of_length_le (by rw [hrow.1]; omega)]
                  exact hrow) hcl (by omega) (by have := HG.out; have := HNn.out; omega) (by
                    have h1 := HG.out
                    have h2 := HNn.out
                    have : k * 508 ≤ 30 * 508 := Nat.mul_le_mul_right _ (by omega)
                    rw [h1.2.2.1]; omega) (by
                    have h1 := HG.out
                    have h2 := HNn.out
                    have : k * 508 ≤ 30 * 508 := Nat.mul_le_mul_right _ (by omega)
                    omega) (by have h1 := HG.out; have h2 := HNn.out; omega)
              obtain ⟨at3, hat3⟩ : ∃ at3, at2 + 8 + bn = at3 := ⟨_, rfl⟩
              obtain ⟨at8, hat8⟩ : ∃ at8, at2 + 8 = at8 := ⟨_, rfl⟩
              have ea0 : (at2 : Int) + 8 = (at8 : Int) := by omega
              have ea : (at8 : Int) + (bn : Int) = (at3 : Int) := by omega
              have ba8 : (at8 : Int) ≤ 2055 := by omega
              have ba3 : (at3 : Int) ≤ 2555 := by omega
              have HA3 : Hid (at2 + 8 + bn = at3 ∧ (cutR l k).length = bn) := ⟨hat3, hcl⟩
              clear hGd hcl hat3 hat8
              go_wp2_with (fail)
              refine hA.mono ?_
              rintro e w6 ⟨d', rfl, q1, q2, q3⟩
              have HS6 : Hid (DmS w b m p l W (k + 1) sg at3 N2 f2 w6) := by
                have h1 := HG.out
                have h2 := HSg.out
                have h3 := HN2.out
                have h4 := HA3.out
                have := DmS.step (w := wd) h1.2.2.1 h1.2.2.2.1 h1.2.2.2.2.1 h1.2.2.2.2.2.1 h1.2.2.2.2.2.2.1 h1.2.2.2.2.2.2.2.2.2.1 h1.2.2.2.2.2.2.2.2.2.2 q1 q2 q3
                rw [← h1.2.2.2.2.2.2.2.2.1, ← h1.2.2.2.2.2.2.2.1, ← h2.1, ← h2.2, ← h3.1, ← h3.2, h4.2, h4.1] at this
                exact this
              clear hA q1 q2 q3
              go_wp2_with (fail)
              go_roundw
              case rel => exact ⟨k + 1, sg, at3, N2, f2, rfl, rfl, rfl, rfl, by first | rfl | go_num, by show k + 1 ≤ nn; omega, HS6⟩
              case measure => simp [intOf]; omega
      · have hk : k = nn := by have := HK.out; omega
        have HS7 : Hid (DmS w b m p l W nn seg at' N' f' wr) := by have := HS.out; rw [hk] at this; exact this
        have b1 : ¬ (k : Int) < (nn : Int) := by omega
        clear HS hkn hk
        obtain ⟨d, G, g, g1, g2, g3, g4, g5, g6, g7, g8, g9, g10⟩ := HS7.out
        obtain ⟨Ga, xg, Gb, p1, p2, p3, p4, p5⟩ := g10 HWn.out
        have hmid := g2.chain
        rw [p1] at hmid
        have hm := chain_mid hmid
        rw [← p1, g4] at hm
        obtain ⟨kk, hkk⟩ : ∃ kk, W + 1 - xg.1 = kk := ⟨_, rfl⟩
        have hrec : xg.2[kk]? = some (cutR l W) := by
          have h1 := allC_at l nn W HWn.out
          rw [← g5, p1, allR_append, allR_cons] at h1
          rw [List.getElem?_append_right (by omega), List.getElem?_append_left (by omega)] at h1
          rw [← h1]
          congr 1
          omega
        rw [hkk] at p5
        have hcl := cutR_len l W
        have hbel := g1.bel
        obtain ⟨hcell, hrow, hLC, hLb⟩ := HRX.out.below hbel W (by have := HNn.out; have := HWn.out; omega)
        rw [hrow.1] at hcl
        obtain ⟨bl, hbl⟩ : ∃ bl, (cutR l W).length = bl := ⟨_, rfl⟩
        have emin : min (L W : Int) 500 = (bl : Int) := by omega
        have bbl : (bl : Int) ≤ 500 := by omega
        obtain ⟨lg, hlg⟩ : ∃ lg, 4 + bl = lg := ⟨_, rfl⟩
        have elg : (4 : Int) + (bl : Int) = (lg : Int) := by omega
        have blg : (lg : Int) ≤ 504 := by omega
        have bWr : (W : Int) < (rn : Int) := by have := HNn.out; have := HWn.out; omega
        have bWn : W < rn := by have := HNn.out; have := HWn.out; omega
        have bL : (L W : Int) ≤ 140737488355328 := by omega
        subst p4 p5 g8
        have HP : Hid (G ++ [g] = Ga ++ xg :: Gb ∧ xg.1 ≤ W + 1 ∧ W + 1 < xg.1 + xg.2.length ∧ W + 1 - xg.1 = kk ∧ xg.2[kk]? = some (cutR l W) ∧ (cutR l W).length = bl ∧ 4 + bl = lg) := ⟨p1, p2, p3, hkk, hrec, hbl, hlg⟩
        have HG : Hid (LgS w b m p d ((G ++ [g]).map gSg) NoG wr ∧ Str d (G ++ [g]) ∧ d.room = 1099511627776 ∧ headN (G ++ [g]) = 1 ∧ allR (G ++ [g]) = allC l nn ∧ (G ++ [g]).length ≤ nn + 1 ∧ bulks (G ++ [g]) ≤ nn * 508) := ⟨g1, g2, g3, g4, g5, g6, g7⟩
        clear HS7 g1 g2 g3 g4 g5 g6 g7 g9 g10 p1 p2 p3 hmid hm hkk hrec hcl hbel hrow hLC hLb hbl hlg
        go_upto_if 112 with fail
        go_cut [2] from 111 to 115 (fun X wx => ∃ x : Int, X = .int .i64 x ∧ Hid (0 ≤ x ∧ x ≤ 9223372036854775807) ∧ Hid (wx = wr))
        case first =>
          by_cases hneg : a2 < 0
          · obtain ⟨y, hy⟩ : ∃ y, y = -(a2 + 1) := ⟨_, rfl⟩
            obtain ⟨e1, e2, e3, e4⟩ := neg_one H2.out.1 hneg hy
            have HX : Hid (0 ≤ y ∧ y ≤ 9223372036854775807) := ⟨e3, e4⟩
            clear hy e3 e4
            go_wp2_with (fail)
            go_meet
            case rel => exact ⟨y, by first | rfl | (rw [e2]) | (simp [e2]), HX, rfl⟩
          · have HX : Hid (0 ≤ a2 ∧ a2 ≤ 9223372036854775807) := ⟨by omega, H2.out.2⟩
            go_wp2_with (fail)
            go_meet
            case rel => exact ⟨a2, rfl, HX, rfl⟩
        case rest =>
          obtain ⟨x2, rfl, HX2, HWc⟩ := hcut
          have hwc := HWc.out
          subst hwc
          clear HWc hcell
          obtain ⟨wa, hwa⟩ : ∃ wa, wa = wc := ⟨_, rfl⟩
          subst hwa
          obtain ⟨jj, hjj, ejj⟩ := mod_nat HX2.out.1 lg (by have := HP.out; omega)
          obtain ⟨fr, hfr⟩ : ∃ fr, bulk (xg.2.take kk) = fr := ⟨_, rfl⟩
          rw [hfr]
          obtain ⟨hfv, hbs⟩ := HG.out.2.1.find (g := xg) (by rw [HP.out.1]; simp)
          obtain ⟨bs, hbse⟩ : ∃ bs, framesL xg.1 xg.2 = bs := ⟨_, rfl⟩
          rw [hbse] at hbs
          have hfa := frames_at xg.1 xg.2 kk (cutR l W) HP.out.2.2.2.2.1
          have hblen : bs.length = bulk xg.2 := by rw [← hbse, framesL_length]
          have hbk := bulk_take_le xg.2 (kk + 1)
          have hbm := bulk_mem (g := xg) (G := G ++ [g]) (by rw [HP.out.1]; simp)
          have hb30 : bulk xg.2 ≤ 15240 := by
            have h1 := HG.out.2.2.2.2.2.2
            have h2 := HNn.out
            have : nn * 508 ≤ 30 * 508 := Nat.mul_le_mul_right _ (by omega)
            omega
          obtain ⟨bln, hbln⟩ : ∃ bln, bs.length = bln := ⟨_, rfl⟩
          obtain ⟨f4, hf4⟩ : ∃ f4, fr + 4 = f4 := ⟨_, rfl⟩
          obtain ⟨pp, hpp⟩ : ∃ pp, f4 + jj = pp := ⟨_, rfl⟩
          have hppl : pp < bln := by have h1 := HP.out; rw [h1.2.2.2.2.2.1] at hfa; omega
          have e41 : (fr : Int) + 4 = (f4 : Int) := by omega
          have e42 : (f4 : Int) + (jj : Int) = (pp : Int) := by omega
          have bf : (fr : Int) ≤ 15240 := by omega
          have bf4 : (f4 : Int) ≤ 15244 := by omega
          have bpp : (pp : Int) < (bln : Int) := by omega
          have bbl2 : (bln : Int) ≤ 15240 := by omega
          have bjj : (jj : Int) ≤ 504 := by omega
          have qpp : ¬ (bln : Int) ≤ (pp : Int) := by omega
          have HB : Hid (bulk (xg.2.take kk) = fr ∧ framesL xg.1 xg.2 = bs ∧ bs.length = bln ∧ pp = fr + (4 + jj) ∧ 4 + jj < 8 + bl ∧ fr + (8 + bl) ≤ bln ∧ bln ≤ 15240 ∧ pp < bln) := by
            have h1 := HP.out
            rw [h1.2.2.2.2.2.1] at hfa
            exact ⟨hfr, hbse, hbln, by omega, by omega, by omega, by omega, hppl⟩
          have hRd := dreadG HG.out.1.dk (nameL xg.1) (by rw [nameL_length]; omega)
          rw [hfv, hbs, hbln] at hRd
          clear hfv hbs hfa hblen hbk hbm hb30 hbln hf4 hpp hfr hbse hppl hjj
          go_wp2_with (fail)
          refine hRd.mono ?_
          rintro e w6 ⟨sa, sc, rfl, hs6, hb6⟩
          have hcap : sa ≠ none := by
            rcases hs6.2 with ⟨_, h0⟩ | ⟨g', cap, cur, h1, _⟩
            · have := HB.out; omega
            · intro e
              have : sa = some ⟨g', 0, none⟩ := congrArg (fun v => match v with | Value.slice a _ _ => a | _ => none) h1
              rw [e] at this; cases this
          obtain ⟨sg, hsg⟩ : ∃ sg, sa = some ⟨sg, 0, none⟩ := by
            rcases hs6.2 with ⟨_, h0⟩ | ⟨g', cap, cur, h1, _⟩
            · have := HB.out; omega
            · exact ⟨g', congrArg (fun v => match v with | Value.slice a _ _ => a | _ => none) h1⟩
          subst hsg
          clear hcap
          have D6 : Hid (DkS w b m d (fun k => wa.heap.size ≤ k ∧ k < w6.heap.size) w6) := HG.out.1.dk.fresh hb6
          have HO6 : Hid (OwnB w6 wa.heap.size (.slice (some ⟨sg, 0, none⟩) bln sc) bs) := hs6
          obtain ⟨cc, hcc⟩ : ∃ cc, bs[pp]? = some cc := ⟨bs[pp]'(by have := HB.out; omega), List.getElem?_eq_getElem _⟩
          have hcell6 : w6.cell? ⟨sg, pp, none⟩ = some (.int .u8 (cc.toNat : Int)) := by
            have := hs6.cells (g := sg) rfl pp (.int .u8 (cc.toNat : Int)) (by simp [Lib.byteCells, hcc])
            rwa [Addr.add_lit, Nat.zero_add] at this
          have hfree6 : w6.frozen? ⟨sg, pp, none⟩ = false := by
            obtain ⟨cur, hcu⟩ := ownB_block hs6 (g := sg) rfl
            exact free_blk hcu pp
          obtain ⟨xb, hxb, hxne⟩ := turned cc t HTt.out.1 HTt.out.2
          obtain ⟨cv, hcv⟩ : ∃ cv, cc.toNat = cv := ⟨_, rfl⟩
          rw [hcv] at hcell6 hxb
          obtain ⟨xv, hxv⟩ : ∃ xv, xb.toNat = xv := ⟨_, rfl⟩
          rw [hxv] at hxb
          have HXb : Hid (bs[pp]? = some cc ∧ xb ≠ cc ∧ xb.toNat = xv) := ⟨hcc, hxne, hxv⟩
          have hNm := rname_any g.1 (by
            have h1 := chain_le HG.out.2.1.chain g (by simp)
            have h2 := HG.out
            have h3 := HNn.out
            rw [h2.2.2.2.1, h2.2.2.2.2.1, allC_len] at h1
            omega)
          have HNm : Hid (∀ u, Calls Tryz.prog 25 #[.int .i64 (g.1 : Int)] u fun e w' => e = .returned (strN (nameL g.1)) ∧ Below u.heap.size u w') := hNm
          obtain ⟨w7, hw7⟩ : ∃ w7, w7 = w6.setCell ⟨sg, pp, none⟩ (.int .u8 (xv : Int)) := ⟨_, rfl⟩
          have hsgb := hs6.lt sg rfl
          have HO7 : Hid (OwnB w7 wa.heap.size (.slice (some ⟨sg, 0, none⟩) bln sc) (bs.set pp xb)) := by
            have := own_setB hs6 pp (by have := HB.out; omega) xb
            rw [hxv] at this
            rw [hw7]; exact this
          have D7 : Hid (DkS w b m d (fun k => wa.heap.size ≤ k ∧ k < w6.heap.size) w7) := by
            have hf7 : Fr (fun k => wa.heap.size ≤ k ∧ k < w6.heap.size) w6 w7 := by rw [hw7]; exact (Fr.refl _ w6).set (p := ⟨sg, pp, none⟩) hsgb _
            exact D6.out.own hf7 (fun k hk => Nat.le_trans HG.out.1.bel.size hk.1) (fun k hk => ⟨by rw [hw7, set_size]; exact hk.2, .inl hk⟩)
          have HSg : Hid (wa.heap.size ≤ sg ∧ sg < w6.heap.size) := hsgb
          clear hRd hs6 hb6 hcc hxne hcv hxv hNm hsgb
          go_wp2_with (fail)
          (try rw [← hw7])
          clear hw7 hcell6 hfree6
          refine (HNm.out _).mono ?_
          rintro e w8 ⟨rfl, hb8⟩
          have D8 := (D7.out.same hb8)
          have HD8 : Hid (DkS w b m d (fun k => wa.heap.size ≤ k ∧ k < w6.heap.size) w8) := D8.1
          have HO8 : Hid (OwnB w8 wa.heap.size (.slice (some ⟨sg, 0, none⟩) bln sc) (bs.set pp xb)) := own_below2 HO7.out hb8
          clear D8 hb8 D6 D7 HO6 HO7
          have hle1 : ∀ y ∈ Ga ++ xg :: Gb, y.1 < 1000000 := fun y hy => by
            have h2 := HG.out
            have h3 := HNn.out
            have h1 := chain_le h2.2.1.chain y (by rw [HP.out.1]; exact hy)
            rw [h2.2.2.2.1, h2.2.2.2.2.1, allC_len] at h1
            omega
          obtain ⟨d1, d2, o1, o2, o3, o4, o5, o6, o7, o8, o9⟩ := dmgOpen (by rw [← HP.out.1]; exact HG.out.2.1) hle1 HG.out.2.2.1 (by rw [← HP.out.1]; have h1 := HG.out.2.2.2.2.2.2; have h2 := HNn.out; have : nn * 508 ≤ 30 * 508 := Nat.mul_le_mul_right _ (by omega); omega) (by rw [← HP.out.1]; have h1 := HG.out.2.2.2.2.2.1; have h2 := HNn.out; omega) HP.out.2.2.2.2.1 HP.out.2.2.2.2.2.1 HB.out.1 HB.out.2.1 HB.out.2.2.1 HB.out.2.2.2.1 HB.out.2.2.2.2.1 HB.out.2.2.2.2.2.1 HXb.out.1 HXb.out.2.1
          have hCu := dcutG HD8.out (nameL xg.1) (by rw [nameL_length]; omega) 0 (by omega)
          rw [o1] at hCu
          have HOo : Hid (appendP d1 (nameL xg.1) (bs.set pp xb) = (0, d2) ∧ usedL d1.files + (bs.set pp xb).length ≤ 1099511627776 ∧ d1.files.length + 1 ≤ 1048576 ∧ (∀ x ∈ d2.files, x.1.length ≤ 140737488355328) ∧ usedL d2.files ≤ 1099511627776 ∧ d2.files.length + 1 ≤ 1048576) := ⟨o2, o3, o4, o5, o6, o7⟩
          clear o1 o2 o3 o4 o5 o6 o7
          by_cases hGb : Gb = []
          · obtain ⟨d3, hOp⟩ := o9 hGb
            have hxg : xg = g := by
              have h1 := HP.out.1
              rw [hGb] at h1
              have := (List.append_inj' h1 rfl).2
              simpa using this.symm
            have HOp : Hid (openP d2 = (0, d3, Ga.map gSg ++ [sgOf g.1 (g.2.take kk)])) := by show _ = _; rw [← hxg]; exact hOp
            have HnW : Hid (((sgOf g.1 (g.2.take kk)).next : Int) - 1 = (W : Int)) := by
              show _ = _
              have h1 := HP.out
              have hkl := (List.getElem?_eq_some_iff.1 h1.2.2.2.2.1).1
              rw [hxg] at h1 hkl
              rw [sgOf_next, List.length_take]
              omega
            rw [hxg]
            rw [hxg] at hCu HOo
            clear o8 o9 hOp hle1 hxg hGb
            go_wp2_with (fail)
            refine hCu.mono ?_
            rintro e w9 ⟨rfl, D9, K9⟩
            have hO9 : OwnB w9 wa.heap.size (.slice (some ⟨sg, 0, none⟩) bln sc) (bs.set pp xb) := ownB_keep HO8.out (fun k hk => by
              obtain rfl : sg = k := Option.some.inj hk
              exact K9.2 _ HSg.out)
            have hr9 : BRow w9 (some ⟨sg, 0, none⟩) bln sc (bs.set pp xb) := by
              have hl : (bs.set pp xb).length = bln := by rw [List.length_set]; exact HB.out.2.2.1
              have := own_brow (w := w9) (B := wa.heap.size) (a := some ⟨sg, 0, none⟩) (cap := sc) (l := bs.set pp xb) (by rw [hl]; exact hO9)
              rwa [hl] at this
            have hAp := dappG D9 (nameL g.1) (by rw [nameL_length]; omega) hr9 HOo.out.2.1 HOo.out.2.2.1
            rw [HOo.out.1] at hAp
            clear hCu D9 K9 hO9 hr9
            go_wp2_with (fail)
            refine hAp.mono ?_
            rintro e w10 ⟨rfl, D10, _⟩
            have HD10 : Hid (DkS w b m d2 (fun k => wa.heap.size ≤ k ∧ k < w6.heap.size) w10) := D10
            clear hAp D10
            go_wp2_with (fail)
            refine (openG HD10.out HT.out HOo.out.2.2.2.1 HOo.out.2.2.2.2.1 HOo.out.2.2.2.2.2 HOp.out).mono ?_
            rintro e w11 ⟨p3, rfl, hL11, _⟩
            have HL11 : Hid (LgS w b m p3 d3 (Ga.map gSg ++ [sgOf g.1 (g.2.take kk)]) (fun k => wa.heap.size ≤ k ∧ k < w6.heap.size) w11) := hL11
            have hLs := lastB hL11
            rw [HnW.out] at hLs
            clear hL11
            go_wp2_with (fail)
            refine hLs.mono ?_
            rintro e w12 ⟨rfl, hb12⟩
            have HB12 : Hid (Below w.heap.size w w12) := HL11.out.bel.trans (hb12.mono HL11.out.bel.size)
            clear hLs hb12
            go_wp2_with (fail)
            go_ret
            exact ⟨rfl, HB12.out⟩
          · obtain ⟨LL, hOp⟩ := o8 hGb
            have HOp : Hid (openP d2 = (16, d2, LL)) := hOp
            have hne : nameL xg.1 ≠ nameL g.1 := by
              obtain ⟨Gb', y, hy⟩ : ∃ Gb' y, Gb = Gb' ++ [y] := ⟨Gb.dropLast, Gb.getLast hGb, (List.dropLast_concat_getLast hGb).symm⟩
              have h1 := HP.out.1
              rw [hy] at h1
              have h1' : G ++ [g] = (Ga ++ xg :: Gb') ++ [y] := by rw [h1]; simp
              have hgy : g = y := by simpa using (List.append_inj' h1' rfl).2
              have hr := HG.out.2.1.chain.rise
              rw [h1'] at hr
              have hlt1 : xg.1 < y.1 := (List.pairwise_append.1 hr).2.2 xg (by simp) y (by simp)
              intro e
              have heq := name_inj (hle1 xg (by simp)) (hle1 g (by rw [hy, hgy]; simp)) e
              have hgy1 : g.1 = y.1 := by rw [hgy]
              omega
            obtain ⟨NA, hNA⟩ : ∃ NA, nameL xg.1 = NA := ⟨_, rfl⟩
            obtain ⟨NB, hNB⟩ : ∃ NB, nameL g.1 = NB := ⟨_, rfl⟩
            rw [hNA, hNB] at hne
            have HNA : Hid (nameL xg.1 = NA ∧ NA.length = 10) := ⟨hNA, by rw [← hNA]; rfl⟩
            rw [hNA] at hCu
            rw [hNA, hNB]
            have q5 : (NA == NB) = false := by simpa using hne
            have q6 : ((⟨NA.toArray⟩ : ByteArray).toList == (⟨NB.toArray⟩ : ByteArray).toList) = false := by
              rw [ByteArray.toList_eq, ByteArray.toList_eq]
              simpa using hne
            clear o8 o9 hOp hle1 hGb hne hNA hNB
            go_wp2_with (fail)
            refine hCu.mono ?_
            rintro e w9 ⟨rfl, D9, K9⟩
            have hO9 : OwnB w9 wa.heap.size (.slice (some ⟨sg, 0, none⟩) bln sc) (bs.set pp xb) := ownB_keep HO8.out (fun k hk => by
              obtain rfl : sg = k := Option.some.inj hk
              exact K9.2 _ HSg.out)
            have hr9 : BRow w9 (some ⟨sg, 0, none⟩) bln sc (bs.set pp xb) := by
              have hl : (bs.set pp xb).length = bln := by rw [List.length_set]; exact HB.out.2.2.1
              have := own_brow (w := w9) (B := wa.heap.size) (a := some ⟨sg, 0, none⟩) (cap := sc) (l := bs.set pp xb) (by rw [hl]; exact hO9)
              rwa [hl] at this
            have hAp := dappG D9 NA (by rw [HNA.out.2]; omega) hr9 HOo.out.2.1 HOo.out.2.2.1
            have hOo1 := HOo.out.1
            rw [HNA.out.1] at hOo1
            rw [hOo1] at hAp
            clear hCu D9 K9 hO9 hr9 hOo1
            go_wp2_with (fail)
            refine hAp.mono ?_
            rintro e w10 ⟨rfl, D10, _⟩
            have HD10 : Hid (DkS w b m d2 (fun k => wa.heap.size ≤ k ∧ k < w6.heap.size) w10) := D10
            clear hAp D10
            go_wp2_with (fail)
            refine (openBadG HD10.out HT.out HOo.out.2.2.2.1 HOo.out.2.2.2.2.1 HOo.out.2.2.2.2.2 HOp.out (by decide)).mono ?_
            rintro e w11 ⟨rfl, hD11, _⟩
            have HB11 : Hid (Below w.heap.size w w11) := hD11.bel
            clear hD11
            go_wp2_with (fail)
            go_ret
            exact ⟨rfl, HB11.out⟩
end Go.Proofs.YtoaabghignilfaaGreatDoor
