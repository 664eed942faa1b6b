/- Several texts in one. -/
import Derived.Test.YtjdijlaoeoikhaaGreatDoorITold
import Derived.Test.YtjdijlaoeoikhaaGreatDoorIApp
import Derived.Test.YtjdijlaoeoikhaaGreatDoorG29
import Derived.Test.YtjdijlaoeoikhaaGreatDoorG27
import Derived.BigRegion
set_option linter.unusedVariables false
/- Package inline: told; walked. -/
namespace Go.Proofs.YtjdijlaoeoikhaaGreatDoor
open Go.RowKit

/-- Parts that lie one behind the other. -/
def PartsAt (w : World) (v : Value) (ps : List Pt) : Prop := ∃ a cap xs, v = .slice a ps.length cap ∧ PartI w (fun _ => True) ps xs ∧ ∀ j u, xs[j]? = some u → ∃ b o, a = some ⟨b, o, none⟩ ∧ w.cell? ⟨b, o + j, none⟩ = some u

theorem TS.below {B b : Nat} {w w' : World} {va : Value} {A : Is} {t : Str8} (h : TS B w b va A t) (hb : Below w.heap.size w w') (hB : B ≤ w.heap.size) : TS B w' b va A t := by
  obtain ⟨h1, xs, h2, h3⟩ := h
  refine ⟨?_, xs, irow_keeps h2 (fun g hg => hb.block g (World.ownsRow.lt h2 g hg).2), kid_below h3 (hb.mono hB)⟩
  rcases h1 with ⟨a1, v, a2, a3, a4⟩ | ⟨a1, v, a2, a3, a4⟩
  · exact .inl ⟨a1, v, blk.blk_below a2 hb, irow_keeps a3 (fun g hg => hb.block g (World.ownsRow.lt a3 g hg).2), a4⟩
  · exact .inr ⟨a1, v, blk.blk_below a2 hb, irow_keeps a3 (fun g hg => hb.block g (World.ownsRow.lt a3 g hg).2), a4⟩

theorem row_slice {w : World} {B n s : Nat} {e : TypeId} {v : Value} {xs : List Value} (h : w.ownsRow B e s v n xs) : ∃ a m c, v = .slice a m c := by
  rcases h.2 with ⟨hv, _⟩ | ⟨g, cap, cur, hv, _⟩
  · exact ⟨_, _, _, hv⟩
  · exact ⟨_, _, _, hv⟩
theorem TS.write {B b : Nat} {w : World} {va : Value} {A : Is} {t : Str8} (h : TS B w b va A t) (s : Str8) (hB : B ≤ w.heap.size) (hl : t.length + s.length ≤ 140737488355328) :
    Calls Tryz.prog 42 #[ptrB b, strW s] w fun e w' => e = .returned (.tuple #[.int .i64 (s.length : Int), .nilIface]) ∧ TS B w' b va A (t ++ s) ∧ Below B w w' := by
  obtain ⟨h1, xs, h2, h3⟩ := h
  obtain ⟨_, p0, v0, hb0⟩ := bld_blk h1
  have h := iws_any B b _ ⟨s.toArray⟩ w h1 (by rw [Lib.byteCells_length, size_list]; exact hl) hB
  rw [size_list] at h
  refine h.mono ?_
  rintro e w' ⟨rfl, q1, q2, q3⟩
  refine ⟨rfl, ⟨.inr ?_, xs, row_others h2 hb0 q3, kid_below h3 q2⟩, q2⟩
  have e : Lib.byteCells t ++ Lib.strCells ⟨s.toArray⟩ = Lib.byteCells (t ++ s) := by simp [Lib.byteCells, Lib.strCells]
  rw [e] at q1
  exact q1

theorem KeptT.cells {b k : Nat} {va : Value} {w w' : World} {cs : Array Value} (h : KeptT b va w w') (hk : w.heap[k]? = some (.cells cs 53 (0, 0))) {x y : Value} (hb : w.heap[b]? = some (.cells #[x, y] 79 (0, 0))) {B n : Nat} {xs : List Value} (hv : w.ownsRow B 32 5 va n xs) : w'.heap[k]? = some (.cells cs 53 (0, 0)) :=
  h k _ hk (fun e => by rw [e, hb] at hk; cases hk) (row_neq hv hk (by decide)) (fun c fz e => by cases e)

/-- What stands in memory and in the slots while a part is put behind what there is, once so many operations are done. -/
def ZT (B bb pp : Nat) (w0 : World) (u3 : Value) (A : Is) (x : Str8) (p : Pt) (kv : Value) (b0 b1 b4 b5 b6 : Bool) (x3 x21 x22 x25 x26 : Value) (w' : World) : Prop :=
  w'.heap[pp]? = some (.cells (iiCells p.i kv ++ dlCells p.d).toArray 53 (0, 0)) ∧ Below B w0 w' ∧ B ≤ w'.heap.size ∧ (b0 = true → x21 = u3) ∧
  (b6 = false → x3 = u3) ∧ (b1 = false → b5 = false ∧ TS B w' bb u3 A x) ∧
  (b1 = true → b5 = false → TS B w' bb x22 (A.addT x) []) ∧
  (b4 = true → b5 = false → ∃ g, x25 = .slice (some ⟨g, 0, none⟩) 1 1 ∧ w'.heap[g]? = some (.cells (iiCells p.i kv).toArray 32 (0, 0)) ∧ (b1 = false → some g ≠ u3.ownBlock) ∧ (b1 = true → some g ≠ x22.ownBlock)) ∧
  (b5 = true → TS B w' bb x26 ((A.addT x).snoc p.i p.kids) []) ∧ (b6 = true → x3 = x26 ∧ b0 = true ∧ b5 = true)
theorem part5 {w : World} {pp : Nat} {p : Pt} {kv : Value} (h : w.heap[pp]? = some (.cells (iiCells p.i kv ++ dlCells p.d).toArray 53 (0, 0))) : w.cell? ⟨pp, 0, none⟩ = some (.int .i64 p.i.kind) ∧ w.cell? ⟨pp, 1, none⟩ = some (strW p.i.text) ∧ w.cell? ⟨pp, 2, none⟩ = some (strW p.i.dest) ∧ w.cell? ⟨pp, 3, none⟩ = some (strW p.i.title) ∧ w.cell? ⟨pp, 4, none⟩ = some kv :=
  ⟨blk.cell_blk h rfl, blk.cell_blk h rfl, blk.cell_blk h rfl, blk.cell_blk h rfl, blk.cell_blk h rfl⟩
theorem KidI.lt {w : World} {S : Nat → Prop} : ∀ (k : Is) (xs : List Value), KidI w S k xs → KidI w (fun g => g < w.heap.size) k xs
  | .nil, _, h => h
  | .cons b k r, xs, ⟨v, ys, zs, h1, h2, h3, h4, h5⟩ => ⟨v, ys, zs, h1, h2, fun g hg => (World.ownsRow.lt h2 g hg).2, KidI.lt k ys h4, KidI.lt r zs h5⟩
theorem TS.grown {B b : Nat} {w w' : World} {va : Value} {A : Is} {t : Str8} (h : TS B w b va A t) (hB : B ≤ w.heap.size) {n : Nat} {xs : List Value} (hrow : w.ownsRow B 32 5 va n xs) (hg : w.grownBy w' va.ownBlock) : Below B w w' ∧ Lib.IsBuilder 79 5 B b (Lib.byteCells t) w' := by
  have hb : Below B w w' := (Below.refl B w).grown hg hB (fun k hk => (hrow.lt k hk).1)
  refine ⟨hb, ?_⟩
  have key : ∀ {p v : Value}, w.heap[b]? = some (.cells #[p, v] 79 (0, 0)) → w'.heap[b]? = some (.cells #[p, v] 79 (0, 0)) := fun hp => (hg.block b (blk.lt_of_block hp) (row_neq hrow hp (by decide))).trans hp
  have key2 : ∀ {v : Value} {m : Nat} {ys : List Value}, w.ownsRow B 5 1 v m ys → w'.ownsRow B 5 1 v m ys := fun hr => irow_keeps hr (fun g hgv => hg.block g (hr.lt g hgv).2 (by
    rcases hr.2 with ⟨hv, _⟩ | ⟨g', cap, cur, hv, _, hg', _⟩
    · rw [hv] at hgv; cases hgv
    · rw [hv] at hgv; cases hgv
      exact row_neq hrow hg' (by decide)))
  rcases h.bld with ⟨a1, v, a2, a3, a4⟩ | ⟨a1, v, a2, a3, a4⟩
  · exact .inl ⟨a1, v, key a2, key2 a3, a4⟩
  · exact .inr ⟨a1, v, key a2, key2 a3, a4⟩
theorem ii_one (b : II) (a : Option Addr) (n c : Nat) : ∀ u ∈ iiCells b (.slice a n c), u.oneCell' = true := by
  intro u hu
  simp only [iiCells, List.mem_cons, List.not_mem_nil, or_false] at hu
  rcases hu with rfl | rfl | rfl | rfl | rfl <;> rfl

def InvT (B bb pp : Nat) (w0 : World) (u3 : Value) (A : Is) (x : Str8) (p : Pt) (ka : Option Addr) (kn kc : Nat) (S0 y8 y9 y11 y12 y15 u17 u18 u19 u20 u27 : Value) (s : Array Bool) (a : Act) (w' : World) : Prop :=
  ∃ x3 x21 x22 x23 x24 x25 x26, a = ⟨#[S0, undef, .slice none 0 0, x3, .pointer (some ⟨bb, 0, none⟩), undef, .pointer (some ⟨pp, 0, none⟩), S0, y8, y9, .bool true, y11, y12, .pointer (some ⟨pp, 0, none⟩), .pointer (some ⟨pp, 0, none⟩), y15, .bool false, u17, u18, u19, u20, x21, x22, x23, x24, x25, x26, u27, undef, undef], []⟩ ∧
    (s.getD 2 false = true → x23 = .pointer (some ⟨pp, 0, none⟩)) ∧
    (s.getD 3 false = true → x24 = .agg (iiCells p.i (.slice ka kn kc)).toArray) ∧
    ZT B bb pp w0 u3 A x p (.slice ka kn kc) (s.getD 0 false) (s.getD 1 false) (s.getD 4 false) (s.getD 5 false) (s.getD 6 false) x3 x21 x22 x25 x26 w' ∧ s.size = 7

set_option maxHeartbeats 8000000 in
set_option maxRecDepth 20000 in
theorem itold_any (ps : List Pt) (N : Nat) (hN : wtL ps ≤ N) (hN2 : N ≤ 4294967296) (v : Value) (w : World) (hp : PartsAt w v ps) :
    Calls Tryz.prog 27 #[v] w fun e w' => ∃ v', e = .returned v' ∧ KidsI w' (fun g => w.heap.size ≤ g) (fun g => g < w.heap.size) v' (toldI [] ps) ∧ Below w.heap.size w w' := by
  obtain ⟨a, cap, xs, rfl, hpart, hcell⟩ := hp
  obtain ⟨B, hB⟩ : ∃ B, B = w.heap.size := ⟨_, rfl⟩
  have hlen := len_wt ps
  go_enter Tryz.func27, Tryz.ntmps27
  go_wp2
  go_loopw [3, 9] (fun va t wr => ∃ (i : Nat) (A : Is) (x : Str8), t = .int .i64 (i : Int) ∧ i ≤ ps.length ∧ Hid (TS B wr w.heap.size va A x) ∧ Hid (Below B w wr) ∧ Hid (toldI [] ps = A.app (toldI x (ps.drop i))) ∧ Hid (A.len ≤ 2 * i ∧ x.length ≤ wtL (ps.take i))) (fun _ t _ => ps.length - (intOf t).toNat)
  case atStart =>
    refine ⟨0, .nil, [], rfl, Nat.zero_le _, ?_, ?_, rfl, ⟨Nat.le_refl _, Nat.zero_le _⟩⟩
    · show TS _ _ _ _ _ _
      rw [hB]
      refine ⟨Lib.fresh_isBuilder _ _ w, [], World.ownsRow_nil _ _ _ _, rfl⟩
    · rw [hB]; exact (Below.refl _ _).alloc (Nat.le_refl _) _
  case round =>
    obtain ⟨i, A, x, rfl, hi, HT, HBl, HE, HN⟩ := hrel
    by_cases hlt : i < ps.length
    · have hlt' : (i : Int) < (ps.length : Int) := by omega
      obtain ⟨p, hp⟩ : ∃ p, ps[i]? = some p := ⟨_, List.getElem?_eq_getElem hlt⟩
      obtain ⟨kv, ys, hc9, hrow, _, hkid⟩ := PartI.nth ps xs i p hpart hp
      obtain ⟨ka, kn, kc, hkv⟩ := row_slice hrow
      have hdrop : ps.drop i = p :: ps.drop (i + 1) := by
        rw [List.drop_eq_getElem_cons hlt]
        congr 1
        exact (List.getElem?_eq_some_iff.1 hp).2
      have hwt : wtL (ps.take (i + 1)) = wtL (ps.take i) + (p.i.text.length + 1) := by
        rw [List.take_add_one, hp, wtL_append]
        show _ + wtL [p] = _
        rw [wtL_one]
      have hwall := wtL_split ps (i + 1)
      obtain ⟨pb, o, rfl, _⟩ := hcell _ _ (hc9 0 _ rfl)
      have key : ∀ j u, (iiCells p.i kv ++ dlCells p.d)[j]? = some u → wr.cell? ⟨pb, o + i * 9 + j, none⟩ = some u := fun j u hu => by
        obtain ⟨b', o', e, hcu⟩ := hcell _ u (hc9 j u hu)
        cases e
        rw [Nat.add_assoc]
        refine (HBl.out.cell ?_).trans hcu
        rw [hB]
        exact World.block_lt_of_cell? w _ hcu
      have x0 := key 0 _ rfl
      have x1 := key 1 _ rfl
      have x2 := key 2 _ rfl
      have x3 := key 3 _ rfl
      have x4 := key 4 _ rfl
      have x5 := key 5 _ rfl
      have x6 := key 6 _ rfl
      have x7 := key 7 _ rfl
      have x8 := key 8 _ rfl
      rw [Nat.add_zero] at x0
      have HBw : Hid (B ≤ wr.heap.size) := Nat.le_trans (by show B ≤ w.heap.size; omega) HBl.out.size
      have HT1 : Hid (∀ o, TS B (wr.alloc o) w.heap.size u3 A x) := fun o => HT.out.below ((Below.refl _ _).alloc (Nat.le_refl _) o) HBw.out
      have HB1 : Hid (∀ o, Below B w (wr.alloc o)) := fun o => HBl.out.alloc HBw.out o
      have HE1 := HE.out
      rw [hdrop] at HE1
      subst hkv
      clear hcell hc9 key hpart HE
      by_cases hk : p.i.kind = 0
      · have HE2 : Hid (toldI [] ps = A.app (toldI (x ++ p.i.text) (ps.drop (i + 1)))) := by show _ = _; rw [← told_text x _ hk]; exact HE1
        have HN2 : Hid (A.len ≤ 2 * (i + 1) ∧ (x ++ p.i.text).length ≤ wtL (ps.take (i + 1))) := by
          have := HN.out
          refine ⟨by omega, ?_⟩
          rw [List.length_append, hwt]
          omega
        have HW : Hid (∀ o, Calls Tryz.prog 42 #[ptrB w.heap.size, strW p.i.text] (wr.alloc o) fun e w' => e = .returned (.tuple #[.int .i64 (p.i.text.length : Int), .nilIface]) ∧ TS B w' w.heap.size u3 A (x ++ p.i.text) ∧ Below B (wr.alloc o) w') := fun o => (HT1.out o).write p.i.text (by have := HBw.out; simp; omega) (by have := HN.out; omega)
        rw [hk] at x0
        clear HE1 hk hwt hwall HN
        go_wp2_with (go_at_call 42; refine Calls.mono (HW.out _) ?_; rintro e u ⟨rfl, hT, hb⟩; have HT2 := (show Hid (TS _ _ _ _ _ _) from hT); have HB2 : Hid (Below B w u) := (HB1.out _).trans hb; clear hT hb)
        go_roundw
        case rel => exact ⟨i + 1, A, x ++ p.i.text, by go_num, by omega, HT2, HB2, HE2, HN2⟩
        case measure => simp [intOf]; omega
      · have hkb : ((p.i.kind : Int) == 0) = false := by simpa using hk
        have HE2 : Hid (toldI [] ps = ((A.addT x).snoc p.i p.kids).app (toldI [] (ps.drop (i + 1)))) := by show _ = _; rw [← told_other A x _ hk]; exact HE1
        have HN2 : Hid (((A.addT x).snoc p.i p.kids).len ≤ 2 * (i + 1) ∧ ([] : Str8).length ≤ wtL (ps.take (i + 1))) := by
          have := HN.out
          have := Is.len_addT A x
          rw [Is.len_snoc]
          exact ⟨by omega, Nat.zero_le _⟩
        have HNA : Hid ((A.addT x).len ≤ 2 * i + 1) := by
          have := HN.out
          have := Is.len_addT A x
          show _ ≤ _
          omega
        have HW : Hid (∀ u : World, TS B u w.heap.size u3 A x → B ≤ u.heap.size → Calls Tryz.prog 43 #[u3, ptrB w.heap.size] u fun e w' => ∃ v', e = .returned v' ∧ TS B w' w.heap.size v' (A.addT x) [] ∧ Below B u w' ∧ KeptT w.heap.size u3 u w' ∧ (∀ g, v'.ownBlock = some g → u3.ownBlock = some g ∨ u.heap.size ≤ g)) := fun u h1 h2 => iwt_any h1 (by have := HN.out; omega) h2
        clear HE1 hk hwt hwall HN
        have HKr : Hid (∀ w2, Below B w w2 → w2.ownsRow 0 32 5 (.slice ka kn kc) p.kids.len ys) := fun w2 hb2 => irow_keeps hrow (fun g hg => hb2.block g (by rw [hB]; exact (hrow.lt g hg).2))
        have HKl : Hid (∀ g, (Value.slice ka kn kc).ownBlock = some g → g < B) := fun g hg => by rw [hB]; exact (hrow.lt g hg).2
        have HKk : Hid (KidI w (· < B) p.kids ys) := by show KidI _ _ _ _; rw [hB]; exact KidI.lt _ _ hkid
        obtain ⟨i0, hi0, hz⟩ := Option.map_eq_some_iff.1 infoII
        have hz0 := congrArg (·.1) hz
        have hz1 := congrArg (·.2.1) hz
        have hz2 := congrArg (·.2.2) hz
        simp only at hz0 hz1 hz2
        clear hrow hkid hz
        go_wp2
        generalize hwr0 : wr = wr0 at *
        clear hwr0
        refine region_inv (InvT B w.heap.size wr0.heap.size w u3 A x p ka kn kc (.slice (some ⟨pb, o, none⟩) ps.length cap) (.int .i64 (ps.length : Int)) (.int .i64 (i : Int)) (.pointer (some ⟨pb, o + i * 9, none⟩)) (.agg #[.int .i64 p.i.kind, strW p.i.text, strW p.i.dest, strW p.i.title, .slice ka kn kc, .int .u8 p.d.sign.toNat, .int .i64 p.d.number, .bool p.d.opens, .bool p.d.closes]) (.int .i64 p.i.kind) u17 u18 u19 u20 u27) (by kernel_rfl) ?start ?step ?fin
        case start =>
          refine ⟨_, _, _, _, _, _, _, rfl, fun q => (noflag q).elim, fun q => (noflag q).elim, ?_, by simp⟩
          rw [noflag8, noflag8, noflag8, noflag8, noflag8]
          exact ⟨Array.getElem?_push_size, Below.drew (HB1.out _), by have := HBw.out; simp; omega, fun q => (by cases q), fun _ => rfl, fun _ => ⟨rfl, (HT1.out _).below (Below.drew (Below.refl _ _)) (by have := HBw.out; simp; omega)⟩, fun q => (by cases q), fun q => (by cases q), fun q => (by cases q), fun q => (by cases q)⟩
        case step =>
          intro s a wr i K inv hi hK
          have hin : i < 7 := by
            obtain ⟨_, o, ho, _⟩ := mem_ready.1 hi
            exact (Array.getElem?_eq_some_iff.1 ho).1
          obtain ⟨x3, x21, x22, x23, x24, x25, x26, rfl, h2, h3, hZ, hsz⟩ := inv
          have hu := (mem_ready.1 hi).1
          have hcase : i = 0 ∨ i = 1 ∨ i = 2 ∨ i = 3 ∨ i = 4 ∨ i = 5 ∨ i = 6 := by omega
          clear hin
          rcases hcase with rfl | rfl | rfl | rfl | rfl | rfl | rfl
          · obtain ⟨z1, z2, z3, z4, z5, z6, z7, z8, z9, z10⟩ := hZ
            have f6 : s.getD 6 false = false := by
              cases hq : s.getD 6 false with
              | false => rfl
              | true => have := (z10 hq).2.1; rw [getD_both hu] at this; cases this
            have e3 := z5 f6
            refine wpOp_val rfl rfl (v := x3) (w' := wr) (by kernel_rfl) (hK _ _ ⟨_, _, _, _, _, _, _, rfl, fun q => h2 (flag_ne (by decide) q), fun q => h3 (flag_ne (by decide) q), ?_, by rw [Array.size_setIfInBounds]; exact hsz⟩)
            rw [flag_set hu, flag_same (i := 0) (k := 1) (by decide), flag_same (i := 0) (k := 4) (by decide), flag_same (i := 0) (k := 5) (by decide), flag_same (i := 0) (k := 6) (by decide)]
            exact ⟨z1, z2, z3, fun _ => e3, z5, z6, z7, z8, z9, fun q => ⟨(z10 q).1, rfl, (z10 q).2.2⟩⟩
          · obtain ⟨z1, z2, z3, z4, z5, z6, z7, z8, z9, z10⟩ := hZ
            have e0 := z4 (ready_dep hi rfl (by kernel_rfl))
            subst e0
            have f1 := getD_both hu
            rw [f1] at z6 z7 z8
            obtain ⟨f5, hT⟩ := z6 rfl
            rw [f5] at z7 z8 z9 z10
            obtain ⟨xs, hrow, hkid⟩ := hT.all
            obtain ⟨hBb, q0, q1, hbb⟩ := bld_blk hT.bld
            refine wpOp_call (R := fun v' w' => TS B w' w.heap.size v' (A.addT x) [] ∧ Below B wr w' ∧ KeptT w.heap.size x21 wr w' ∧ (∀ g, v'.ownBlock = some g → x21.ownBlock = some g ∨ wr.heap.size ≤ g)) rfl rfl (by kernel_rfl) (HW.out wr hT z3) ?_
            rintro v' w2 ⟨r1, r2, r3, r4⟩
            refine hK _ _ ⟨_, _, _, _, _, _, _, rfl, fun q => h2 (flag_ne (by decide) q), fun q => h3 (flag_ne (by decide) q), ?_, by rw [Array.size_setIfInBounds]; exact hsz⟩
            rw [flag_same (i := 1) (k := 0) (by decide), flag_set hu, flag_same (i := 1) (k := 4) (by decide), flag_same (i := 1) (k := 5) (by decide), flag_same (i := 1) (k := 6) (by decide)]
            rw [f5]
            refine ⟨r3.cells z1 hbb hrow, z2.trans r2, Nat.le_trans z3 r2.size, z4, z5, fun q => (by cases q), fun _ _ => r1, fun q4 _ => ?_, fun q => (by cases q), fun q => z10 q⟩
            obtain ⟨g, g1, g2, g3, _⟩ := z8 q4 rfl
            refine ⟨g, g1, r3 g _ g2 (fun e => ?_) (g3 rfl) (fun c fz e => by cases e), fun q => (by cases q), fun _ e => ?_⟩
            · rw [e, hbb] at g2; cases g2
            · rcases r4 g e.symm with q | q
              · exact g3 rfl q.symm
              · have := blk.lt_of_block g2; omega
          · exact wpOp_val rfl rfl (v := .pointer (some ⟨wr0.heap.size, 0, none⟩)) (w' := wr) (by kernel_rfl) (hK _ _ ⟨_, _, _, _, _, _, _, rfl, fun _ => rfl, fun q => h3 (flag_ne (by decide) q), by rw [flag_same (i := 2) (k := 0) (by decide), flag_same (i := 2) (k := 1) (by decide), flag_same (i := 2) (k := 4) (by decide), flag_same (i := 2) (k := 5) (by decide), flag_same (i := 2) (k := 6) (by decide)]; exact hZ, by rw [Array.size_setIfInBounds]; exact hsz⟩)
          · have e2 := h2 (ready_dep hi rfl (by kernel_rfl))
            subst e2
            exact wpOp_val rfl rfl (v := .agg (iiCells p.i (.slice ka kn kc)).toArray) (w' := wr) (by obtain ⟨c0, c1, c2, c3, c4⟩ := part5 hZ.1; go_simp; rfl) (hK _ _ ⟨_, _, _, _, _, _, _, rfl, fun q => h2 (flag_ne (by decide) q), fun _ => rfl, by rw [flag_same (i := 3) (k := 0) (by decide), flag_same (i := 3) (k := 1) (by decide), flag_same (i := 3) (k := 4) (by decide), flag_same (i := 3) (k := 5) (by decide), flag_same (i := 3) (k := 6) (by decide)]; exact hZ, by rw [Array.size_setIfInBounds]; exact hsz⟩)
          · have e3 := h3 (ready_dep hi rfl (by kernel_rfl))
            subst e3
            obtain ⟨z1, z2, z3, z4, z5, z6, z7, z8, z9, z10⟩ := hZ
            have f4 := getD_both hu
            refine wpOp_val rfl rfl (v := .slice (some ⟨wr.heap.size, 0, none⟩) 1 1) (w' := wr.alloc (.cells (iiCells p.i (.slice ka kn kc)).toArray 32)) (by kernel_rfl) (hK _ _ ⟨_, _, _, _, _, _, _, rfl, fun q => h2 (flag_ne (by decide) q), fun q => h3 (flag_ne (by decide) q), ?_, by rw [Array.size_setIfInBounds]; exact hsz⟩)
            rw [flag_same (i := 4) (k := 0) (by decide), flag_same (i := 4) (k := 1) (by decide), flag_set hu, flag_same (i := 4) (k := 5) (by decide), flag_same (i := 4) (k := 6) (by decide)]
            have hal : Below wr.heap.size wr (wr.alloc (.cells (iiCells p.i (.slice ka kn kc)).toArray 32)) := (Below.refl _ _).alloc (Nat.le_refl _) _
            refine ⟨blk.blk_below z1 hal, z2.trans (hal.mono z3), Nat.le_trans z3 hal.size, z4, z5, fun q => ⟨(z6 q).1, (z6 q).2.below hal z3⟩, fun q1 q5 => (z7 q1 q5).below hal z3, fun _ q5 => ⟨wr.heap.size, rfl, Array.getElem?_push_size, fun q1 e => ?_, fun q1 e => ?_⟩, fun q => (z9 q).below hal z3, z10⟩
            · obtain ⟨xs, hrow, _⟩ := (z6 q1).2.all
              have := (hrow.lt _ e.symm).2
              omega
            · obtain ⟨xs, hrow, _⟩ := (z7 q1 q5).all
              have := (hrow.lt _ e.symm).2
              omega
          · obtain ⟨z1, z2, z3, z4, z5, z6, z7, z8, z9, z10⟩ := hZ
            have f5 := getD_both hu
            have q1 := ready_dep (j := 1) hi rfl (by kernel_rfl)
            have q4 := ready_dep (j := 4) hi rfl (by kernel_rfl)
            rw [f5] at z6 z7 z8 z9 z10
            rw [q1] at z6 z7 z8
            rw [q4] at z8
            have hT := z7 rfl rfl
            obtain ⟨g, g1, g2, _, g4⟩ := z8 rfl rfl
            subst g1
            obtain ⟨xs, hrow, hkid⟩ := hT.all
            refine wpOp_append rfl rfl (.tmp 22) (.tmp 25) 25 rfl B 32 i0 _ 5 80 Tryz.underlying25 hi0 hz0 hz1 hz2 rfl (by decide) x22 (A.addT x).len xs rfl hrow ⟨g, 0, none⟩ 1 1 (iiCells p.i (.slice ka kn kc)) rfl rfl (blk_cells g2) (ii_one _ _ _ _) (by have := HNA.out; unfold maxLen; omega) (by have := HNA.out; omega) z3 ?_
            intro v' w2 r1 r2 r3
            obtain ⟨k1, k2⟩ := hT.grown z3 hrow r2
            refine hK _ _ ⟨_, _, _, _, _, _, _, rfl, fun q => h2 (flag_ne (by decide) q), fun q => h3 (flag_ne (by decide) q), ?_, by rw [Array.size_setIfInBounds]; exact hsz⟩
            rw [flag_same (i := 5) (k := 0) (by decide), flag_same (i := 5) (k := 1) (by decide), flag_same (i := 5) (k := 4) (by decide), flag_set hu, flag_same (i := 5) (k := 6) (by decide)]
            rw [q1, q4]
            refine ⟨(r2.block _ (blk.lt_of_block z1) (row_neq hrow z1 (by decide))).trans z1, z2.trans k1, Nat.le_trans z3 k1.size, z4, z5, fun q => (by cases q), fun _ q => (by cases q), fun _ q => (by cases q), fun _ => ⟨k2, _, ?_, KidI.snoc (HKr.out w2 (z2.trans k1)) HKl.out (kid_below HKk.out (z2.trans k1)) _ _ (kid_below hkid k1)⟩, fun q => (by have := (z10 q).2.2; cases this)⟩
            rw [Is.len_snoc]
            exact r1
          · obtain ⟨z1, z2, z3, z4, z5, z6, z7, z8, z9, z10⟩ := hZ
            have q5 := ready_dep (j := 5) hi rfl (by kernel_rfl)
            have q0 := ready_dep (j := 0) hi rfl (by kernel_rfl)
            refine wpOp_val rfl rfl (v := x26) (w' := wr) (by kernel_rfl) (hK _ _ ⟨_, _, _, _, _, _, _, rfl, fun q => h2 (flag_ne (by decide) q), fun q => h3 (flag_ne (by decide) q), ?_, by rw [Array.size_setIfInBounds]; exact hsz⟩)
            rw [flag_same (i := 6) (k := 0) (by decide), flag_same (i := 6) (k := 1) (by decide), flag_same (i := 6) (k := 4) (by decide), flag_same (i := 6) (k := 5) (by decide), flag_set hu]
            exact ⟨z1, z2, z3, z4, fun q => (by cases q), z6, z7, z8, z9, fun _ => ⟨rfl, q0, q5⟩⟩
        case fin =>
          intro s a wr inv hr
          obtain ⟨x3, x21, x22, x23, x24, x25, x26, rfl, h2, h3, hZ, hsz⟩ := inv
          have hd := all_done (by kernel_rfl) hsz hr
          have e2 := h2 (hd 2 (by decide))
          have e3 := h3 (hd 3 (by decide))
          rw [hd 0 (by decide), hd 1 (by decide), hd 4 (by decide), hd 5 (by decide), hd 6 (by decide)] at hZ
          subst e2
          subst e3
          obtain ⟨z1, z2, z3, z4, z5, z6, z7, z8, z9, z10⟩ := hZ
          have e3 := (z10 rfl).1
          subst e3
          have HT2 := (show Hid (TS _ _ _ _ _ _) from z9 rfl)
          have HB2 := (show Hid (Below _ _ _) from z2)
          clear z1 z2 z3 z4 z5 z6 z7 z8 z9 z10
          (try simp only [Exit.inBlock, Exit.then])
          go_wp2
          go_roundw
          case rel =>
            exact ⟨i + 1, _, [], by go_num, by omega, HT2, HB2, HE2, HN2⟩
          case measure => simp [intOf]; omega

    · have hge : ¬ (i : Int) < (ps.length : Int) := by omega
      have hi' : i = ps.length := by omega
      have HE2 : Hid (toldI [] ps = A.addT x) := by
        have := HE.out
        rw [hi', List.drop_length, told_end] at this
        exact this
      have HW : Hid (Calls Tryz.prog 43 #[u3, ptrB w.heap.size] wr fun e w' => ∃ v', e = .returned v' ∧ TS B w' w.heap.size v' (A.addT x) [] ∧ Below B wr w' ∧ KeptT w.heap.size u3 wr w' ∧ (∀ g, v'.ownBlock = some g → u3.ownBlock = some g ∨ wr.heap.size ≤ g)) := iwt_any HT.out (by have := HN.out; omega) (Nat.le_trans (by omega) HBl.out.size)
      clear HE hi' HN
      go_wp2_with (go_at_call 43; refine Calls.mono HW.out ?_; rintro e u ⟨v', rfl, hT, hb, _⟩)
      go_ret
      obtain ⟨_, ys, r1, r2⟩ := hT
      rw [← HE2.out] at r1 r2
      subst hB
      exact ⟨v', rfl, ⟨ys, irow_keeps ⟨r1.1, r1.2.imp id (fun ⟨g, c, cu, a1, a2, a3⟩ => ⟨g, c, cu, a1, Nat.zero_le _, a3⟩)⟩ (fun _ _ => rfl), fun g hg => (r1.lt g hg).1, r2⟩, HBl.out.trans hb⟩

end Go.Proofs.YtjdijlaoeoikhaaGreatDoor

/- Package inline: a sentence in memory. -/
namespace Go.Proofs.YtjdijlaoeoikhaaGreatDoor
open Go.RowKit

/-- Rows of inlines stay. -/
def KeepI (w w' : World) : Prop := ∀ (g : Nat) (cur : Array Value), w.heap[g]? = some (.cells cur 32 (0, 0)) → w'.heap[g]? = some (.cells cur 32 (0, 0))
theorem KeepI.refl (w : World) : KeepI w w := fun _ _ h => h
theorem KeepI.trans {a b c : World} (h : KeepI a b) (k : KeepI b c) : KeepI a c := fun g cur hg => k g cur (h g cur hg)
theorem KeepI.of_below {w w' : World} (h : Below w.heap.size w w') : KeepI w w' := fun g cur hg => blk.blk_below hg h
theorem KeepI.set {a w : World} (h : KeepI a w) {b : Nat} {cs : Array Value} {T : TypeId} (hb : w.heap[b]? = some (.cells cs T (0, 0))) (hT : T ≠ 32) (i : Nat) (u : Value) : KeepI a (w.setCell ⟨b, i, none⟩ u) := fun g cur hg => by
  have h1 := h g cur hg
  rw [Below.heap_setCell _ _ _ _ (fun e => ?_)]
  · exact h1
  · have e' : g = b := e
    rw [e', hb] at h1
    exact hT (by injection (Option.some.inj h1))
theorem KeepI.grown {a w w' : World} (h : KeepI a w) {v : Value} (hg : w.grownBy w' v.ownBlock) {B n s : Nat} {T : TypeId} {xs : List Value} (hr : w.ownsRow B T s v n xs) (hT : 32 ≠ T) : KeepI a w' := fun g cur hgc => by
  have h1 := h g cur hgc
  rw [hg.block g (blk.lt_of_block h1) (row_neq hr h1 hT)]
  exact h1
theorem irow_keepI {w w' : World} {B s n : Nat} {v : Value} {xs : List Value} (h : w.ownsRow B 32 s v n xs) (hk : KeepI w w') : w'.ownsRow B 32 s v n xs := by
  refine ⟨h.1, ?_⟩
  rcases h.2 with hn | ⟨g, cap, cur, rfl, hb, hg, rest⟩
  · exact .inl hn
  · exact .inr ⟨g, cap, cur, rfl, hb, hk g cur hg, rest⟩
theorem KidI.stay {w w' : World} {S S' : Nat → Prop} (hS : ∀ g, S g → S' g) (hk : KeepI w w') : ∀ (k : Is) (xs : List Value), KidI w S k xs → KidI w' S' k xs
  | .nil, _, h => h
  | .cons b k r, xs, ⟨v, ys, zs, h1, h2, h3, h4, h5⟩ => ⟨v, ys, zs, h1, irow_keepI h2 hk, fun g hg => hS g (h3 g hg), KidI.stay hS hk k ys h4, KidI.stay hS hk r zs h5⟩
theorem PartI.stay {w w' : World} {S : Nat → Prop} (hk : KeepI w w') : ∀ (ps : List Pt) (xs : List Value), PartI w S ps xs → PartI w' (fun _ => True) ps xs
  | [], _, h => h
  | p :: r, xs, ⟨v, ys, zs, h1, h2, h3, h4, h5⟩ => ⟨v, ys, zs, h1, irow_keepI h2 hk, fun _ _ => trivial, KidI.stay (fun _ _ => trivial) hk p.kids ys h4, PartI.stay hk r zs h5⟩

/-- A row that is cut off behind its first ones. -/
theorem row_cut {w : World} {B s n c : Nat} {e : TypeId} {a : Option Addr} {xs : List Value} (h : w.ownsRow B e s (.slice a n c) n xs) {m : Nat} (hm : m ≤ n) : w.ownsRow B e s (.slice a m c) m (xs.take (m * s)) := by
  obtain ⟨h1, h2⟩ := h
  have hms : m * s ≤ n * s := Nat.mul_le_mul_right s hm
  refine ⟨by rw [List.length_take, h1]; omega, ?_⟩
  rcases h2 with ⟨hv, h0⟩ | ⟨g, cap, cur, hv, hb, hg, hn, hc, hsz, ht⟩
  · cases hv
    have : m = 0 := by omega
    subst this
    exact .inl ⟨rfl, rfl⟩
  · cases hv
    refine .inr ⟨g, c, cur, rfl, hb, hg, by omega, hc, hsz, ?_⟩
    rw [← ht, List.take_take]
    congr 1
    omega
theorem row_len {w : World} {B s n : Nat} {e : TypeId} {v : Value} {xs : List Value} (h : w.ownsRow B e s v n xs) : ∃ a c, v = .slice a n c := by
  rcases h.2 with ⟨hv, h0⟩ | ⟨g, cap, cur, hv, _⟩
  · rw [h0]; exact ⟨_, _, hv⟩
  · exact ⟨_, _, hv⟩
theorem row_cap {w : World} {B s n c : Nat} {e : TypeId} {a : Option Addr} {xs : List Value} (h : w.ownsRow B e s (.slice a n c) n xs) : n ≤ c ∧ c ≤ 9223372036854775807 := by
  rcases h.2 with ⟨hv, h0⟩ | ⟨g, cap, cur, hv, _, _, hn, hc, _⟩
  · cases hv; exact ⟨Nat.le_refl _, Nat.zero_le _⟩
  · cases hv
    unfold maxLen at hc
    exact ⟨hn, hc⟩
/-- The cells of a row from one of its elements on. -/
theorem row_cell {w : World} {B s n c : Nat} {e : TypeId} {a : Option Addr} {xs : List Value} (h : w.ownsRow B e s (.slice a n c) n xs) {j : Nat} {u : Value} (hj : xs[j]? = some u) : ∃ g, a = some ⟨g, 0, none⟩ ∧ g < w.heap.size ∧ w.cell? ⟨g, j, none⟩ = some u := by
  obtain ⟨h1, h2⟩ := h
  rcases h2 with ⟨hv, h0⟩ | ⟨g, cap, cur, hv, hb, hg, hn, hc, hsz, ht⟩
  · subst h0
    rw [Nat.zero_mul] at h1
    rw [List.length_eq_zero_iff.1 h1] at hj
    cases hj
  · cases hv
    refine ⟨g, rfl, blk.lt_of_block hg, blk.cell_blk hg ?_⟩
    rw [← ht] at hj
    have hlt : j < n * s := by
      have := (List.getElem?_eq_some_iff.1 hj).1
      rw [List.length_take] at this
      omega
    rw [List.getElem?_take_of_lt hlt, Array.getElem?_toList] at hj
    exact hj

def opCells (os : List Nat) : List Value := os.map (fun (k : Nat) => Value.int .i64 (k : Int))
/-- A sentence, in blocks from B on; G: other blocks that stay. -/
structure SnR (G : Nat → Obj → Prop) (B : Nat) (w : World) (sb : Nat) (vp vo : Value) (xs : List Value) (s : Sn) : Prop where
  blk : w.heap[sb]? = some (.cells #[vp, vo] 56 (0, 0))
  base : B ≤ sb
  row : w.ownsRow B 53 9 vp s.parts.length xs
  part : PartI w (fun _ => True) s.parts xs
  ops : w.ownsRow B 3 1 vo s.openers.length (opCells s.openers)
  gst : ∀ g o, G g o → w.heap[g]? = some o ∧ g ≠ sb ∧ some g ≠ vp.ownBlock ∧ some g ≠ vo.ownBlock

theorem SnR.below {G : Nat → Obj → Prop} {B sb : Nat} {w w' : World} {vp vo : Value} {xs : List Value} {s : Sn} (h : SnR G B w sb vp vo xs s) (hb : Below w.heap.size w w') : SnR G B w' sb vp vo xs s :=
  ⟨blk.blk_below h.blk hb, h.base, irow_keeps h.row (fun g hg => hb.block g (h.row.lt g hg).2), PartI.stay (KeepI.of_below hb) _ _ h.part, irow_keeps h.ops (fun g hg => hb.block g (h.ops.lt g hg).2), fun g o hg => ⟨blk.blk_below (h.gst g o hg).1 hb, (h.gst g o hg).2⟩⟩

theorem PartsAt.below {w w' : World} {v : Value} {ps : List Pt} (h : PartsAt w v ps) (hb : Below w.heap.size w w') : PartsAt w' v ps := by
  obtain ⟨a, cap, xs, h1, h2, h3⟩ := h
  refine ⟨a, cap, xs, h1, PartI.stay (KeepI.of_below hb) _ _ h2, fun j u hj => ?_⟩
  obtain ⟨b, o, e, hc⟩ := h3 j u hj
  exact ⟨b, o, e, (hb.cell (World.block_lt_of_cell? w _ hc)).trans hc⟩

/-- What openerFor wants. -/
theorem SnR.look {G : Nat → Obj → Prop} {B sb N M : Nat} {w : World} {vp vo : Value} {xs : List Value} {s : Sn} (h : SnR G B w sb vp vo xs s) (ho : s.Ok N M) (hN : N ≤ 4294967296) (hM : M ≤ 4294967296) : SnC w sb s := by
  obtain ⟨a1, c1, rfl⟩ := row_len h.row
  obtain ⟨a2, c2, rfl⟩ := row_len h.ops
  refine ⟨a1, c1, a2, c2, h.blk, by have := ho.len; omega, fun i k hk => ?_⟩
  obtain ⟨p, hp, _⟩ := ho.ops k (List.mem_of_getElem? hk)
  have hkl := (List.getElem?_eq_some_iff.1 hp).1
  refine ⟨hkl, ?_⟩
  obtain ⟨ob, rfl, hob, e0⟩ := row_cell h.ops (j := i) (u := .int .i64 (k : Int)) (by rw [opCells, List.getElem?_map, hk]; rfl)
  obtain ⟨v, ys, hc, _⟩ := PartI.nth _ _ k p h.part hp
  obtain ⟨pb, rfl, hpb, _⟩ := row_cell h.row (hc 5 _ rfl)
  refine ⟨ob, pb, rfl, rfl, hob, hpb, e0, fun d hd => ?_⟩
  have hd' : d = p.d := by rw [hd, List.getD_eq_getElem?_getD, hp]; rfl
  subst hd'
  have key : ∀ j u, (iiCells p.i v ++ dlCells p.d)[j]? = some u → w.cell? ⟨pb, k * 9 + j, none⟩ = some u := fun j u hu => by
    obtain ⟨g, e, _, hcu⟩ := row_cell h.row (hc j u hu)
    cases e
    exact hcu
  exact ⟨Nat.le_trans (ho.num p (List.mem_of_getElem? hp)) (by omega), key 5 _ rfl, key 6 _ rfl, key 7 _ rfl, key 8 _ rfl⟩

/-- The parts from one on, as told wants them. -/
theorem SnR.from {G : Nat → Obj → Prop} {B sb : Nat} {w : World} {a : Option Addr} {c : Nat} {vo : Value} {xs : List Value} {s : Sn} (h : SnR G B w sb (.slice a s.parts.length c) vo xs s) {k : Nat} (hk : k < s.parts.length) : ∃ pb, a = some ⟨pb, 0, none⟩ ∧ PartsAt w (.slice (some ⟨pb, (k + 1) * 9, none⟩) (s.parts.length - (k + 1)) (c - (k + 1))) (s.parts.drop (k + 1)) := by
  have h1 := (PartI.take s.parts xs (k + 1) h.part).2
  have hxl : xs.length = s.parts.length * 9 := h.row.1
  obtain ⟨u, hu⟩ : ∃ u, xs[0]? = some u := ⟨_, List.getElem?_eq_getElem (by omega)⟩
  obtain ⟨pb, rfl, _, _⟩ := row_cell h.row hu
  refine ⟨pb, rfl, _, _, xs.drop ((k + 1) * 9), by rw [List.length_drop], h1, fun j u hj => ?_⟩
  rw [List.getElem?_drop] at hj
  obtain ⟨g, e, _, hc⟩ := row_cell h.row hj
  cases e
  exact ⟨pb, _, rfl, hc⟩

end Go.Proofs.YtjdijlaoeoikhaaGreatDoor

/- A row from one of its parts on. -/
namespace Go.Proofs.YtjdijlaoeoikhaaGreatDoor
open Go.RowKit

set_option maxHeartbeats 2000000 in
theorem part_from (pb n c : Nat) (k : Nat) (h1 : k ≤ n) (h2 : n ≤ c) (h3 : c ≤ 9223372036854775807) :
    ∃ X, (∀ w', (Instr.slice 42 (.slice (some ⟨pb, 0, none⟩) n c) (some (.int .i64 (k : Int))) none none).run Tryz.prog w' = .ok X w') ∧ ((c ≠ k ∧ X = .slice (some ⟨pb, k * 9, none⟩) (n - k) (c - k)) ∨ (n = k ∧ X = .slice (some ⟨pb, 0, none⟩) 0 0)) := by
  have g1 : (k : Int) ≤ (n : Int) := by omega
  have g2 : (k : Int) ≤ (c : Int) := by omega
  have g3 : (n : Int) ≤ (c : Int) := by omega
  have g4 : (c : Int) ≤ 9223372036854775807 := by omega
  by_cases hc : c = k
  · have hn : n = k := by omega
    subst hc
    subst hn
    refine ⟨_, fun w' => ?_, .inr ⟨rfl, rfl⟩⟩
    go_simp
  · refine ⟨_, fun w' => ?_, .inl ⟨hc, rfl⟩⟩
    have g5 : ¬ (c : Int) = (k : Int) := by omega
    go_simp

theorem SnR.tail {G : Nat → Obj → Prop} {B sb : Nat} {w : World} {a : Option Addr} {c : Nat} {vo : Value} {xs : List Value} {s : Sn} (h : SnR G B w sb (.slice a s.parts.length c) vo xs s) {k : Nat} (hk : k < s.parts.length) :
    ∃ pb X, a = some ⟨pb, 0, none⟩ ∧ pb < w.heap.size ∧ (∀ w', (Instr.slice 42 (.slice (some ⟨pb, 0, none⟩) s.parts.length c) (some (.int .i64 ((k : Int) + 1))) none none).run Tryz.prog w' = .ok X w') ∧ PartsAt w X (s.parts.drop (k + 1)) := by
  obtain ⟨pb, rfl, hat⟩ := h.from hk
  have hr := h.row
  obtain ⟨hcn, hcm⟩ : s.parts.length ≤ c ∧ c ≤ 9223372036854775807 := by
    rcases hr.2 with ⟨hv, _⟩ | ⟨g, cap, cur, hv, _, _, hn, hc, _⟩
    · cases hv
    · cases hv
      unfold maxLen at hc
      exact ⟨hn, hc⟩
  obtain ⟨X, h1, h2⟩ := part_from pb s.parts.length c (k + 1) (by omega) hcn hcm
  refine ⟨pb, X, rfl, (hr.lt pb rfl).2, h1, ?_⟩
  rcases h2 with ⟨_, rfl⟩ | ⟨hn, rfl⟩
  · exact hat
  · have hd : s.parts.drop (k + 1) = [] := List.drop_of_length_le (by omega)
    rw [hd]
    exact ⟨_, _, [], rfl, rfl, fun j u hj => by cases hj⟩

end Go.Proofs.YtjdijlaoeoikhaaGreatDoor

/- append as a step of a region that draws its order, onto a row of one's own. -/
namespace Go.Proofs.YtjdijlaoeoikhaaGreatDoor
open Go.RowKit

theorem step_app {P : Program} {ops : Array Oper} {o : Oper} {a : Act} {w : World} {K : Act → World → Prop} {Q : Exit → Act → World → Prop} {E : Prop}
    (hg : o.guard = none) (s x : Operand) (t : TypeId) (hop : o.op = Op.call { callee := Callee.builtin Builtin.append, args := #[s, x], argTypes := #[t, t] })
    (B : Nat) (e : TypeId) (i : TypeInfo) (z : Value) (size bytes : Nat) (h1 : P.underlying t = some (.slice e)) (h2 : P.info? e = some i) (h3 : i.zero = some z) (h4 : i.size = size) (h5 : i.bytes = bytes) (h6 : z.cells.size = size) (h7 : 0 < size)
    (v : Value) (n : Nat) (xs : List Value) (hs : a.eval s = v) (hown : w.ownsRow B e size v n xs) (hB : B ≤ w.heap.size)
    (ad : Addr) (c : Nat) (news : List Value) (hx : a.eval x = .slice (some ad) 1 c) (hn : news.length = size) (hc : ∀ j u, news[j]? = some u → w.cell? (ad.add j) = some u) (h1c : ∀ u ∈ news, u.oneCell' = true)
    (b1 : n + 1 ≤ maxLen) (b2 : (n + 1) * bytes ≤ 140737488355328)
    (hK : ∀ g c' w', w'.ownsRow B e size (.slice (some ⟨g, 0, none⟩) (n + 1) c') (n + 1) (xs ++ news) → w.grownBy w' v.ownBlock → (v.ownBlock = some g ∨ g = w.heap.size) → K (a.put o.dst (.slice (some ⟨g, 0, none⟩) (n + 1) c')) w') :
    if Region.wanted o (yielded ops a.tmps) = true then Oper.wp P o a w K Q else E := by
  have hw : Region.wanted o (yielded ops a.tmps) = true := by simp [Region.wanted, hg]
  rw [if_pos hw]
  obtain ⟨v', w', hrun, r1, r2, _, r4⟩ := run_append_own_at (P := P) w B t o.type e i z size bytes h1 h2 h3 h4 h5 h6 h7 v n xs hown ad 1 c news (by omega) hc h1c b1 b2 hB
  unfold Oper.wp
  simp [execOp, hop, resolve, invoke, builtin, hs, hx, hrun, Result.andThen]
  have r1' := r1
  rcases r1.2 with ⟨_, q⟩ | ⟨g, cap, cur, rfl, _⟩
  · omega
  · refine hK g cap w' r1' r2 ?_
    rcases r4 with q | q
    · exact .inl q.symm
    · exact .inr (Option.some.inj q)

theorem infoPt : (Tryz.prog.info? 53).map (fun i => (i.zero, i.size, i.bytes)) = some (some (.agg #[.int .i64 0, .string ⟨#[]⟩, .string ⟨#[]⟩, .string ⟨#[]⟩, .slice none 0 0, .int .u8 0, .int .i64 0, .bool false, .bool false]), 9, 104) := by kernel_rfl
theorem infoInt : (Tryz.prog.info? 3).map (fun i => (i.zero, i.size, i.bytes)) = some (some (.int .i64 0), 1, 8) := by kernel_rfl
theorem pt_one (b : II) (a : Option Addr) (n c : Nat) (d : Dl) : ∀ u ∈ iiCells b (.slice a n c) ++ dlCells d, u.oneCell' = true := by
  intro u hu
  simp only [iiCells, dlCells, List.cons_append, List.nil_append, List.mem_cons, List.not_mem_nil, or_false] at hu
  rcases hu with rfl | rfl | rfl | rfl | rfl | rfl | rfl | rfl | rfl <;> rfl

/-- The sentence's block is written over, nothing else. -/
theorem SnR.reset {G : Nat → Obj → Prop} {B sb : Nat} {w w' : World} {vp vo vp' vo' : Value} {xs xs' : List Value} {s : Sn} (h : SnR G B w sb vp vo xs s) {ps : List Pt} {os : List Nat} (hb : w'.heap[sb]? = some (.cells #[vp', vo'] 56 (0, 0))) (hk : ∀ g, g ≠ sb → w'.heap[g]? = w.heap[g]?)
    (h1 : w.ownsRow B 53 9 vp' ps.length xs') (h2 : PartI w (fun _ => True) ps xs') (h3 : w.ownsRow B 3 1 vo' os.length (opCells os)) (h4 : vp'.ownBlock = vp.ownBlock) (h5 : vo'.ownBlock = vo.ownBlock) : SnR G B w' sb vp' vo' xs' ⟨ps, os⟩ := by
  refine ⟨hb, h.base, irow_keeps h1 (fun g hg => hk g (fun e => ?_)), PartI.stay (fun g cur hg => ?_) _ _ h2, irow_keeps h3 (fun g hg => hk g (fun e => ?_)), fun g o hg => ?_⟩
  · exact row_neq h1 h.blk (by decide) (by rw [hg, e])
  · rw [hk g (fun e => by rw [e, h.blk] at hg; cases hg)]; exact hg
  · exact row_neq h3 h.blk (by decide) (by rw [hg, e])
  · have q := h.gst g o hg
    rw [h4, h5]
    exact ⟨(hk g q.2.1).trans q.1, q.2⟩
theorem set2_other {w : World} {sb g : Nat} {x y : Value} (h : g ≠ sb) : ((w.setCell ⟨sb, 0, none⟩ x).setCell ⟨sb, 1, none⟩ y).heap[g]? = w.heap[g]? := by
  rw [Below.heap_setCell _ _ _ _ (by simpa using h), Below.heap_setCell _ _ _ _ (by simpa using h)]
theorem opCells_take (os : List Nat) (i : Nat) : (opCells os).take (i * 1) = opCells (os.take i) := by rw [Nat.mul_one, opCells, opCells, List.map_take]
/-- A part that was put behind the others: the parts' row has grown, and the sentence's block has it. -/
theorem SnR.pushed {G : Nat → Obj → Prop} {B sb : Nat} {w w' : World} {vp vo vp' : Value} {xs : List Value} {s : Sn} (h : SnR G B w sb vp vo xs s) (hB : B ≤ w.heap.size) {p : Pt} {kv : Value} {ys : List Value} (hr : w'.ownsRow B 53 9 vp' (s.parts.length + 1) (xs ++ (iiCells p.i kv ++ dlCells p.d))) (hg : w.grownBy w' vp.ownBlock) (hat : ∀ g, vp'.ownBlock = some g → vp.ownBlock = some g ∨ g = w.heap.size)
    (hk : w.ownsRow 0 32 5 kv p.kids.len ys) (hkid : KidI w (fun _ => True) p.kids ys) : SnR G B (w'.setCell ⟨sb, 0, none⟩ vp') sb vp' vo (xs ++ (iiCells p.i kv ++ dlCells p.d)) ⟨s.parts ++ [p], s.openers⟩ ∧ Below B w (w'.setCell ⟨sb, 0, none⟩ vp') ∧ KeepI w (w'.setCell ⟨sb, 0, none⟩ vp') := by
  have hsb : w'.heap[sb]? = some (.cells #[vp, vo] 56 (0, 0)) := (hg.block sb (blk.lt_of_block h.blk) (row_neq h.row h.blk (by decide))).trans h.blk
  have hki : KeepI w w' := (KeepI.refl w).grown hg h.row (by decide)
  have hki2 : KeepI w (w'.setCell ⟨sb, 0, none⟩ vp') := hki.set hsb (by decide) 0 vp'
  have hbl : Below B w w' := (Below.refl B w).grown hg hB (fun k hk => (h.row.lt k hk).1)
  refine ⟨⟨blk.set_blk hsb 0 vp', h.base, ?_, ?_, ?_, fun g o hgo => ?_⟩, blk.below_set hbl h.base, hki2⟩
  · show World.ownsRow _ _ _ _ _ (s.parts ++ [p]).length _
    rw [List.length_append]
    exact irow_keeps hr (fun g hgv => Below.heap_setCell _ _ _ _ (fun e => row_neq hr hsb (by decide) (by rw [hgv]; exact congrArg some (show sb = g from e.symm))))
  · exact PartI.snoc (irow_keepI hk hki2) (fun _ _ => trivial) (KidI.stay (fun _ _ => trivial) hki2 _ _ hkid) _ _ (PartI.stay hki2 _ _ h.part)
  · refine irow_keeps h.ops (fun g hgv => ?_)
    rw [Below.heap_setCell _ _ _ _ (fun e => row_neq h.ops h.blk (by decide) (by rw [hgv]; exact congrArg some (show sb = g from e.symm)))]
    refine hg.block g (h.ops.lt g hgv).2 ?_
    rcases h.ops.2 with ⟨hv, _⟩ | ⟨g', cap, cur, hv, _, hg', _⟩
    · rw [hv] at hgv; cases hgv
    · rw [hv] at hgv
      cases hgv
      exact row_neq h.row hg' (by decide)
  · have q := h.gst g o hgo
    refine ⟨?_, q.2.1, fun e => ?_, q.2.2.2⟩
    · rw [Below.heap_setCell _ _ _ _ (by simpa using q.2.1)]
      exact (hg.block g (blk.lt_of_block q.1) q.2.2.1).trans q.1
    · rcases hat g e.symm with x | x
      · exact q.2.2.1 x.symm
      · have := blk.lt_of_block q.1; omega
theorem part_kept {W u : World} {o : Obj} {v X : Value} {b sb : Nat} {x : Obj} (hg : (W.drew.alloc o).grownBy u v.ownBlock) (hb : W.heap[b]? = some x) (hne : some b ≠ v.ownBlock) (hsb : b ≠ sb) : (u.setCell ⟨sb, 0, none⟩ X).heap[b]? = some x := by
  have h1 : (W.drew.alloc o).heap[b]? = some x := blk.blk_below (w := W) hb (Below.alloc (Below.drew (Below.refl _ _)) (Nat.le_refl _) o)
  rw [Below.heap_setCell _ _ _ _ (by simpa using hsb)]
  exact (hg.block b (blk.lt_of_block h1) hne).trans h1
/-- An opener that was put behind the others. -/
theorem SnR.opened {G : Nat → Obj → Prop} {B sb : Nat} {w w' : World} {vp vo vo' : Value} {xs : List Value} {s : Sn} (h : SnR G B w sb vp vo xs s) (hB : B ≤ w.heap.size) {k : Nat} (hr : w'.ownsRow B 3 1 vo' (s.openers.length + 1) (opCells s.openers ++ [.int .i64 (k : Int)])) (hg : w.grownBy w' vo.ownBlock) (hat : ∀ g, vo'.ownBlock = some g → vo.ownBlock = some g ∨ g = w.heap.size) : SnR G B (w'.setCell ⟨sb, 1, none⟩ vo') sb vp vo' xs ⟨s.parts, s.openers ++ [k]⟩ ∧ Below B w (w'.setCell ⟨sb, 1, none⟩ vo') ∧ KeepI w (w'.setCell ⟨sb, 1, none⟩ vo') := by
  have hsb : w'.heap[sb]? = some (.cells #[vp, vo] 56 (0, 0)) := (hg.block sb (blk.lt_of_block h.blk) (row_neq h.ops h.blk (by decide))).trans h.blk
  have hki : KeepI w w' := (KeepI.refl w).grown hg h.ops (by decide)
  have hki2 : KeepI w (w'.setCell ⟨sb, 1, none⟩ vo') := hki.set hsb (by decide) 1 vo'
  have hbl : Below B w w' := (Below.refl B w).grown hg hB (fun k hk => (h.ops.lt k hk).1)
  refine ⟨⟨blk.set_blk hsb 1 vo', h.base, ?_, PartI.stay hki2 _ _ h.part, ?_, fun g o hgo => ?_⟩, blk.below_set hbl h.base, hki2⟩
  · refine irow_keeps h.row (fun g hgv => ?_)
    rw [Below.heap_setCell _ _ _ _ (fun e => row_neq h.row h.blk (by decide) (by rw [hgv]; exact congrArg some (show sb = g from e.symm)))]
    refine hg.block g (h.row.lt g hgv).2 ?_
    rcases h.row.2 with ⟨hv, _⟩ | ⟨g', cap, cur, hv, _, hg', _⟩
    · rw [hv] at hgv; cases hgv
    · rw [hv] at hgv
      cases hgv
      exact row_neq h.ops hg' (by decide)
  · show World.ownsRow _ _ _ _ _ (s.openers ++ [k]).length (opCells (s.openers ++ [k]))
    rw [List.length_append, opCells, List.map_append]
    exact irow_keeps hr (fun g hgv => Below.heap_setCell _ _ _ _ (fun e => row_neq hr hsb (by decide) (by rw [hgv]; exact congrArg some (show sb = g from e.symm))))
  · have q := h.gst g o hgo
    refine ⟨?_, q.2.1, q.2.2.1, fun e => ?_⟩
    · rw [Below.heap_setCell _ _ _ _ (by simpa using q.2.1)]
      exact (hg.block g (blk.lt_of_block q.1) q.2.2.2).trans q.1
    · rcases hat g e.symm with x | x
      · exact q.2.2.2 x.symm
      · have := blk.lt_of_block q.1; omega

theorem Sn.used_is {s : Sn} {i k : Nat} {p : Pt} (hi : s.openers[i]? = some k) (hp : s.parts[k]? = some p) (left : Nat) : s.used i left = if 2 ≤ p.i.text.length ∧ 2 ≤ left then 2 else 1 := by
  have e1 : s.openers.getD i 0 = k := by rw [List.getD_eq_getElem?_getD, hi]; rfl
  have e2 : s.parts.getD k ⟨{}, .nil, {}⟩ = p := by rw [List.getD_eq_getElem?_getD, hp]; rfl
  unfold Sn.used
  simp only [e1, e2]


end Go.Proofs.YtjdijlaoeoikhaaGreatDoor
