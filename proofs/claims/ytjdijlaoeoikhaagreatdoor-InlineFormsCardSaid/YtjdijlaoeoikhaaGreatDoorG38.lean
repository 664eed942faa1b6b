/- Several texts in one. -/
import Derived.Test.YtjdijlaoeoikhaaGreatDoorITake1
import Derived.Test.YtjdijlaoeoikhaaGreatDoorITake2
import Derived.Test.YtjdijlaoeoikhaaGreatDoorG31
import Derived.Test.YtjdijlaoeoikhaaGreatDoorG08
import Derived.Test.YtjdijlaoeoikhaaGreatDoorG29
import Derived.Test.YtjdijlaoeoikhaaGreatDoorG28
import Derived.Test.YtjdijlaoeoikhaaGreatDoorG27
import Derived.Test.YtjdijlaoeoikhaaGreatDoorG07
set_option linter.unusedVariables false
/- Package inline: emphasized; walked. -/
namespace Go.Proofs.YtjdijlaoeoikhaaGreatDoor
open Go.RowKit

theorem itake_any {G : Nat → Obj → Prop} {B sb N M : Nat} {w : World} {vp vo : Value} {xs : List Value} {s : Sn} (h : SnR G B w sb vp vo xs s) (ho : s.Ok N M) (p : Pt) (hN : N + wtP p ≤ 4294967296) (hM : M ≤ 4294967296) (hpn : p.d.number ≤ M) (ka : Option Addr) (kn kc : Nat) {ys : List Value} (hrow : w.ownsRow 0 32 5 (.slice ka kn kc) p.kids.len ys) (hlow : ∀ g, (Value.slice ka kn kc).ownBlock = some g → g < B) (hkid : KidI w (· < B) p.kids ys) :
    Calls Tryz.prog 26 #[ptrB sb, .agg (iiCells p.i (.slice ka kn kc) ++ dlCells p.d).toArray] w fun e w' => e = .returned (.tuple #[]) ∧ (∃ vp' vo' xs', SnR G B w' sb vp' vo' xs' (s.take p)) ∧ Below B w w' := by
  cases hcl : p.d.closes with
  | false => exact itake_stay h ho p hN hM hpn hcl ka kn kc hrow hlow hkid
  | true => exact itake_close h ho p hN hM hpn hcl ka kn kc hrow hlow hkid

theorem SnR.parts {G : Nat → Obj → Prop} {B sb : Nat} {w : World} {vp vo : Value} {xs : List Value} {s : Sn} (h : SnR G B w sb vp vo xs s) : PartsAt w vp s.parts := by
  obtain ⟨a, c, rfl⟩ := row_len h.row
  refine ⟨a, c, xs, rfl, h.part, fun j u hj => ?_⟩
  obtain ⟨g, rfl, _, hc⟩ := row_cell h.row hj
  exact ⟨g, 0, rfl, by rw [Nat.zero_add]; exact hc⟩

set_option maxHeartbeats 8000000 in
set_option maxRecDepth 20000 in
theorem iemph_any (ps : List Pt) (M : Nat) (hN : wtL ps ≤ 4294967296) (hM : M ≤ 4294967296) (hd : ∀ p ∈ ps, p.d.number ≤ M) (v : Value) (w : World) (hp : PartsAt w v ps) :
    Calls Tryz.prog 17 #[v] w fun e w' => ∃ v', e = .returned v' ∧ (∃ ys, w'.ownsRow 0 32 5 v' (emphI ps).len ys ∧ KidI w' (fun _ => True) (emphI ps) ys) ∧ Below w.heap.size w w' := by
  obtain ⟨a, cap, xs, rfl, hpart, hcell⟩ := hp
  obtain ⟨B, hB⟩ : ∃ B, B = w.heap.size := ⟨_, rfl⟩
  have hlen := len_wt ps
  go_enter Tryz.func17, Tryz.ntmps17
  go_wp2
  go_loopw [8] (fun t wr => ∃ (i : Nat), t = .int .i64 (i : Int) ∧ i ≤ ps.length ∧ Hid (∃ vp vo xs, SnR (fun _ _ => False) B wr w.heap.size vp vo xs ((ps.take i).foldl Sn.take {})) ∧ Hid (((ps.take i).foldl Sn.take {}).Ok (wtL (ps.take i)) M) ∧ Hid (Below B w wr)) (fun t _ => ps.length - (intOf t).toNat)
  case atStart =>
    refine ⟨0, rfl, Nat.zero_le _, ⟨.slice none 0 0, .slice none 0 0, [], heap_alloc_new w _, by omega, World.ownsRow_nil _ _ _ _, rfl, World.ownsRow_nil _ _ _ _, fun g o hg => hg.elim⟩, Sn.Ok.first M, ?_⟩
    show Below _ _ _
    rw [hB]
    exact (Below.refl _ _).alloc (Nat.le_refl _) _
  case round =>
    obtain ⟨i, rfl, hi, HS, HO, HBl⟩ := hrel
    have HBw : Hid (B ≤ wr.heap.size) := Nat.le_trans (by show B ≤ w.heap.size; omega) HBl.out.size
    by_cases hlt : i < ps.length
    · have hlt' : (i : Int) < (ps.length : Int) := by omega
      obtain ⟨p, hp⟩ : ∃ p, ps[i]? = some p := ⟨_, List.getElem?_eq_getElem hlt⟩
      obtain ⟨kv, ys, hc9, hrow, _, hkid⟩ := PartI.nth ps xs i p hpart hp
      obtain ⟨ka, kn, kc, hkv⟩ := row_slice hrow
      have htake : ps.take (i + 1) = ps.take i ++ [p] := by rw [List.take_add_one, hp]; rfl
      have hwt : wtL (ps.take (i + 1)) = wtL (ps.take i) + wtP p := by rw [htake, wtL_append, wtL_one]; rfl
      have hwall := wtL_split ps (i + 1)
      obtain ⟨pb, o, rfl, _⟩ := hcell _ _ (hc9 0 _ rfl)
      have key : ∀ j u, (iiCells p.i kv ++ dlCells p.d)[j]? = some u → wr.cell? ⟨pb, o + i * 9 + j, none⟩ = some u := fun j u hu => by
        obtain ⟨b', o', e, hcu⟩ := hcell _ u (hc9 j u hu)
        cases e
        rw [Nat.add_assoc]
        refine (HBl.out.cell ?_).trans hcu
        rw [hB]
        exact World.block_lt_of_cell? w _ hcu
      have x0 := key 0 _ rfl
      have x1 := key 1 _ rfl
      have x2 := key 2 _ rfl
      have x3 := key 3 _ rfl
      have x4 := key 4 _ rfl
      have x5 := key 5 _ rfl
      have x6 := key 6 _ rfl
      have x7 := key 7 _ rfl
      have x8 := key 8 _ rfl
      rw [Nat.add_zero] at x0
      subst hkv
      obtain ⟨vp, vo, xs1, hS⟩ := HS.out
      have HTk : Hid (∀ o, Calls Tryz.prog 26 #[ptrB w.heap.size, .agg #[.int .i64 p.i.kind, strW p.i.text, strW p.i.dest, strW p.i.title, .slice ka kn kc, .int .u8 p.d.sign.toNat, .int .i64 p.d.number, .bool p.d.opens, .bool p.d.closes]] (wr.alloc o) fun e w' => e = .returned (.tuple #[]) ∧ (∃ vp' vo' xs', SnR (fun _ _ => False) B w' w.heap.size vp' vo' xs' ((ps.take (i + 1)).foldl Sn.take {})) ∧ Below B w w') := fun o => by
        have hal := (Below.refl wr.heap.size wr).alloc (Nat.le_refl _) o
        have hbo : Below B w (wr.alloc o) := HBl.out.alloc HBw.out o
        refine (itake_any (hS.below hal) HO.out p (by omega) hM (hd p (List.mem_of_getElem? hp)) ka kn kc (irow_keeps hrow (fun g hg => hbo.block g (by rw [hB]; exact (hrow.lt g hg).2))) (fun g hg => by rw [hB]; exact (hrow.lt g hg).2) (kid_below (w := w) (by rw [hB]; exact KidI.lt _ _ hkid) hbo)).mono ?_
        rintro e w' ⟨h1, h2, h3⟩
        refine ⟨h1, ?_, hbo.trans h3⟩
        rw [htake, List.foldl_append]
        exact h2
      have HO2 : Hid (((ps.take (i + 1)).foldl Sn.take {}).Ok (wtL (ps.take (i + 1))) M) := by
        show Sn.Ok _ _ _
        rw [hwt, htake, List.foldl_append]
        exact HO.out.take p (hd p (List.mem_of_getElem? hp))
      clear hcell hc9 key hpart HS hS HO hrow hkid hwt hwall htake
      go_wp2_with (go_at_call 26; refine Calls.mono (HTk.out _) ?_; rintro e u ⟨rfl, hT, hb⟩; have HT2 := (show Hid (∃ vp vo xs, SnR _ _ _ _ vp vo xs _) from hT); have HB2 := (show Hid (Below _ _ _) from hb); clear hT hb)
      go_roundw
      case rel => exact ⟨i + 1, by go_num, by omega, HT2, HO2, HB2⟩
      case measure => simp [intOf]; omega
    · have hge : ¬ (i : Int) < (ps.length : Int) := by omega
      have hi' : i = ps.length := by omega
      obtain ⟨vp, vo, xs1, hS⟩ := HS.out
      rw [hi', List.take_length] at hS
      have hO := HO.out
      rw [hi', List.take_length] at hO
      have c0 := blk.cell_blk hS.blk (i := 0) rfl
      have HT : Hid (Calls Tryz.prog 27 #[vp] wr fun e w' => ∃ v', e = .returned v' ∧ KidsI w' (fun g => wr.heap.size ≤ g) (fun g => g < wr.heap.size) v' (toldI [] (ps.foldl Sn.take {}).parts) ∧ Below wr.heap.size wr w') := itold_any _ (wtL ps) hO.wt (by omega) vp wr hS.parts
      obtain ⟨va, vn, vc, rfl⟩ := row_slice hS.row
      clear hcell hpart HS hS hO
      go_wp2_with (go_at_call 27; refine Calls.mono HT.out ?_; rintro e u ⟨v', rfl, hv, hb⟩)
      go_ret
      obtain ⟨ys, r1, _, r2⟩ := hv
      refine ⟨v', rfl, ⟨ys, r1, KidI.stay (fun _ _ => trivial) (KeepI.refl _) _ _ r2⟩, ?_⟩
      rw [← hB]
      exact HBl.out.trans (hb.mono HBw.out)

end Go.Proofs.YtjdijlaoeoikhaaGreatDoor

/- Package inline: a reader in memory. -/
namespace Go.Proofs.YtjdijlaoeoikhaaGreatDoor
open Go.RowKit

def oCells : List Op → List Value
  | [] => []
  | o :: r => .int .i64 (o.kind : Int) :: .int .i64 (o.part : Int) :: .int .i64 (o.start : Int) :: oCells r
theorem oCells_append : ∀ a b : List Op, oCells (a ++ b) = oCells a ++ oCells b
  | [], b => rfl
  | o :: a, b => by simp only [List.cons_append, oCells, oCells_append a b]
theorem oCells_take : ∀ (os : List Op) (i : Nat), (oCells os).take (i * 3) = oCells (os.take i)
  | os, 0 => by simp [oCells]
  | [], i + 1 => by simp [oCells]
  | o :: os, i + 1 => by
    have e : (i + 1) * 3 = i * 3 + 3 := by omega
    rw [e]
    simp only [oCells, List.take_succ_cons, oCells_take os i]
theorem oCells_nth : ∀ (os : List Op) (i : Nat) (o : Op), os[i]? = some o → (oCells os)[i * 3]? = some (.int .i64 (o.kind : Int)) ∧ (oCells os)[i * 3 + 1]? = some (.int .i64 (o.part : Int)) ∧ (oCells os)[i * 3 + 2]? = some (.int .i64 (o.start : Int))
  | [], i, o, h => by cases h
  | p :: os, 0, o, h => by
    have : p = o := by simpa using h
    subst this
    exact ⟨rfl, rfl, rfl⟩
  | p :: os, i + 1, o, h => by
    have ih := oCells_nth os i o (by simpa using h)
    have e : (i + 1) * 3 = i * 3 + 3 := by omega
    rw [e]
    simp only [oCells]
    exact ih

/-- What a reader's block holds. -/
def rdCells (l : Str8) (r : Rd) (vp vo : Value) (m : Nat) : List Value := [strW l, .int .i64 (r.at0 : Int), .int .i64 (r.frm : Int), vp, vo, .int .i64 (r.inactive : Int), .map (some m)]
structure RdR (G : Nat → Obj → Prop) (B : Nat) (l : Str8) (m n : Nat) (look : Str8 → Option Df8) (w : World) (rb : Nat) (vp vo : Value) (xs : List Value) (r : Rd) : Prop where
  blk : w.heap[rb]? = some (.cells (rdCells l r vp vo m).toArray 45 (0, 0))
  base : B ≤ rb
  row : w.ownsRow B 53 9 vp r.parts.length xs
  part : PartI w (fun _ => True) r.parts xs
  ops : w.ownsRow B 71 3 vo r.openers.length (oCells r.openers)
  map : MapD w m n look
  gst : ∀ g o, G g o → w.heap[g]? = some o ∧ g ≠ rb ∧ some g ≠ vp.ownBlock ∧ some g ≠ vo.ownBlock
theorem mapd_blk {w : World} {m n : Nat} {look : Str8 → Option Df8} (h : MapD w m n look) : ∃ es c, w.heap[m]? = some (.map es c) := by
  obtain ⟨D, ⟨es, clock, h1, _⟩, _⟩ := h
  exact ⟨_, _, h1⟩
theorem RdR.below {G : Nat → Obj → Prop} {B m n rb : Nat} {l : Str8} {look : Str8 → Option Df8} {w w' : World} {vp vo : Value} {xs : List Value} {r : Rd} (h : RdR G B l m n look w rb vp vo xs r) (hb : Below w.heap.size w w') : RdR G B l m n look w' rb vp vo xs r :=
  ⟨blk.blk_below h.blk hb, h.base, irow_keeps h.row (fun g hg => hb.block g (h.row.lt g hg).2), PartI.stay (KeepI.of_below hb) _ _ h.part, irow_keeps h.ops (fun g hg => hb.block g (h.ops.lt g hg).2), mapd_below h.map hb, fun g o hg => ⟨blk.blk_below (h.gst g o hg).1 hb, (h.gst g o hg).2⟩⟩
/-- The reader's block is written over, nothing else. -/
theorem RdR.reset {G : Nat → Obj → Prop} {B m n rb : Nat} {l : Str8} {look : Str8 → Option Df8} {w w' : World} {vp vo vp' vo' : Value} {xs xs' : List Value} {r r' : Rd} (h : RdR G B l m n look w rb vp vo xs r) (hb : w'.heap[rb]? = some (.cells (rdCells l r' vp' vo' m).toArray 45 (0, 0))) (hk : ∀ g, g ≠ rb → w'.heap[g]? = w.heap[g]?)
    (h1 : w.ownsRow B 53 9 vp' r'.parts.length xs') (h2 : PartI w (fun _ => True) r'.parts xs') (h3 : w.ownsRow B 71 3 vo' r'.openers.length (oCells r'.openers)) (h4 : vp'.ownBlock = vp.ownBlock) (h5 : vo'.ownBlock = vo.ownBlock) : RdR G B l m n look w' rb vp' vo' xs' r' := by
  refine ⟨hb, h.base, irow_keeps h1 (fun g hg => hk g (fun e => ?_)), PartI.stay (fun g cur hg => ?_) _ _ h2, irow_keeps h3 (fun g hg => hk g (fun e => ?_)), mapd_same h.map (hk m (fun e => ?_)), fun g o hg => ?_⟩
  · exact row_neq h1 h.blk (by decide) (by rw [hg, e])
  · rw [hk g (fun e => by rw [e, h.blk] at hg; cases hg)]; exact hg
  · exact row_neq h3 h.blk (by decide) (by rw [hg, e])
  · obtain ⟨es, c, q⟩ := mapd_blk h.map
    rw [e, h.blk] at q
    cases q
  · have q := h.gst g o hg
    rw [h4, h5]
    exact ⟨(hk g q.2.1).trans q.1, q.2⟩
theorem set1_other {w : World} {rb g j : Nat} {x : Value} (h : g ≠ rb) : (w.setCell ⟨rb, j, none⟩ x).heap[g]? = w.heap[g]? := Below.heap_setCell _ _ _ _ (by simpa using h)
/-- Numbers of the reader's are written over. -/
theorem RdR.num {G : Nat → Obj → Prop} {B m n rb : Nat} {l : Str8} {look : Str8 → Option Df8} {w : World} {vp vo : Value} {xs : List Value} {r : Rd} (h : RdR G B l m n look w rb vp vo xs r) :
    (∀ a : Nat, RdR G B l m n look (w.setCell ⟨rb, 1, none⟩ (.int .i64 (a : Int))) rb vp vo xs { r with at0 := a }) ∧ (∀ a : Nat, RdR G B l m n look (w.setCell ⟨rb, 2, none⟩ (.int .i64 (a : Int))) rb vp vo xs { r with frm := a }) ∧ (∀ a : Nat, RdR G B l m n look (w.setCell ⟨rb, 5, none⟩ (.int .i64 (a : Int))) rb vp vo xs { r with inactive := a }) :=
  ⟨fun a => h.reset (blk.set_blk h.blk 1 _) (fun g hg => set1_other hg) h.row h.part h.ops rfl rfl, fun a => h.reset (blk.set_blk h.blk 2 _) (fun g hg => set1_other hg) h.row h.part h.ops rfl rfl, fun a => h.reset (blk.set_blk h.blk 5 _) (fun g hg => set1_other hg) h.row h.part h.ops rfl rfl⟩
/-- A part that was put behind the others. -/
theorem RdR.pushed {G : Nat → Obj → Prop} {B m n rb : Nat} {l : Str8} {look : Str8 → Option Df8} {w w' : World} {vp vo vp' : Value} {xs : List Value} {r : Rd} (h : RdR G B l m n look w rb vp vo xs r) (hB : B ≤ w.heap.size) {p : Pt} {kv : Value} {ys : List Value} (hr : w'.ownsRow B 53 9 vp' (r.parts.length + 1) (xs ++ (iiCells p.i kv ++ dlCells p.d))) (hg : w.grownBy w' vp.ownBlock) (hat : ∀ g, vp'.ownBlock = some g → vp.ownBlock = some g ∨ g = w.heap.size)
    (hk : w.ownsRow 0 32 5 kv p.kids.len ys) (hkid : KidI w (fun _ => True) p.kids ys) : RdR G B l m n look (w'.setCell ⟨rb, 3, none⟩ vp') rb vp' vo (xs ++ (iiCells p.i kv ++ dlCells p.d)) { r with parts := r.parts ++ [p] } ∧ Below B w (w'.setCell ⟨rb, 3, none⟩ vp') ∧ KeepI w (w'.setCell ⟨rb, 3, none⟩ vp') := by
  have hsb : w'.heap[rb]? = some (.cells (rdCells l r vp vo m).toArray 45 (0, 0)) := (hg.block rb (blk.lt_of_block h.blk) (row_neq h.row h.blk (by decide))).trans h.blk
  have hki : KeepI w w' := (KeepI.refl w).grown hg h.row (by decide)
  have hki2 : KeepI w (w'.setCell ⟨rb, 3, none⟩ vp') := hki.set hsb (by decide) 3 vp'
  have hbl : Below B w w' := (Below.refl B w).grown hg hB (fun k hk => (h.row.lt k hk).1)
  refine ⟨⟨blk.set_blk hsb 3 vp', h.base, ?_, ?_, ?_, ?_, fun g o hgo => ?_⟩, blk.below_set hbl h.base, hki2⟩
  · show World.ownsRow _ _ _ _ _ (r.parts ++ [p]).length _
    rw [List.length_append]
    exact irow_keeps hr (fun g hgv => Below.heap_setCell _ _ _ _ (fun e => row_neq hr hsb (by decide) (by rw [hgv]; exact congrArg some (show rb = g from e.symm))))
  · exact PartI.snoc (irow_keepI hk hki2) (fun _ _ => trivial) (KidI.stay (fun _ _ => trivial) hki2 _ _ hkid) _ _ (PartI.stay hki2 _ _ h.part)
  · refine irow_keeps h.ops (fun g hgv => ?_)
    rw [Below.heap_setCell _ _ _ _ (fun e => row_neq h.ops h.blk (by decide) (by rw [hgv]; exact congrArg some (show rb = g from e.symm)))]
    refine hg.block g (h.ops.lt g hgv).2 ?_
    rcases h.ops.2 with ⟨hv, _⟩ | ⟨g', cap, cur, hv, _, hg', _⟩
    · rw [hv] at hgv; cases hgv
    · rw [hv] at hgv
      cases hgv
      exact row_neq h.row hg' (by decide)
  · obtain ⟨es, c, hm⟩ := mapd_blk h.map
    refine mapd_same h.map ?_
    rw [Below.heap_setCell _ _ _ _ (fun e => ?_)]
    · refine hg.block m (blk.lt_of_block hm) (fun e => ?_)
      rcases h.row.2 with ⟨hv, _⟩ | ⟨g', cap, cur, hv, _, hg', _⟩
      · rw [hv] at e; cases e
      · rw [hv] at e
        cases e
        rw [hm] at hg'
        cases hg'
    · have e' : m = rb := e
      rw [e', h.blk] at hm
      cases hm
  · have q := h.gst g o hgo
    refine ⟨?_, q.2.1, fun e => ?_, q.2.2.2⟩
    · rw [Below.heap_setCell _ _ _ _ (by simpa using q.2.1)]
      exact (hg.block g (blk.lt_of_block q.1) q.2.2.1).trans q.1
    · rcases hat g e.symm with x | x
      · exact q.2.2.1 x.symm
      · have := blk.lt_of_block q.1; omega
/-- A block that was just made, as a guest. -/
def GstR (G : Nat → Obj → Prop) (pw : Nat) (x : Obj) : Nat → Obj → Prop := fun g o => G g o ∨ (g = pw ∧ o = x)
theorem RdR.guest {G : Nat → Obj → Prop} {B m n rb : Nat} {l : Str8} {look : Str8 → Option Df8} {w : World} {vp vo : Value} {xs : List Value} {r : Rd} (h : RdR G B l m n look w rb vp vo xs r) (cs : Array Value) (t : TypeId) : RdR (GstR G w.heap.size (.cells cs t (0, 0))) B l m n look (w.alloc (.cells cs t)) rb vp vo xs r := by
  have q := h.below (w' := w.alloc (.cells cs t)) ((Below.refl _ _).alloc (Nat.le_refl _) _)
  refine ⟨q.blk, q.base, q.row, q.part, q.ops, q.map, fun g o hg => ?_⟩
  rcases hg with hg | ⟨rfl, rfl⟩
  · exact q.gst g o hg
  · refine ⟨heap_alloc_new w _, fun e => ?_, fun e => ?_, fun e => ?_⟩
    · have := blk.lt_of_block h.blk; omega
    · have := (h.row.lt _ e.symm).2; omega
    · have := (h.ops.lt _ e.symm).2; omega
theorem RdR.own {G : Nat → Obj → Prop} {B m n rb pw : Nat} {l : Str8} {look : Str8 → Option Df8} {w : World} {vp vo : Value} {xs : List Value} {r : Rd} {x : Obj} (h : RdR (GstR G pw x) B l m n look w rb vp vo xs r) : w.heap[pw]? = some x := (h.gst pw _ (.inr ⟨rfl, rfl⟩)).1
theorem RdR.alone {G : Nat → Obj → Prop} {B m n rb pw : Nat} {l : Str8} {look : Str8 → Option Df8} {w : World} {vp vo : Value} {xs : List Value} {r : Rd} {x : Obj} (h : RdR (GstR G pw x) B l m n look w rb vp vo xs r) : RdR G B l m n look w rb vp vo xs r :=
  ⟨h.blk, h.base, h.row, h.part, h.ops, h.map, fun g o hg => h.gst g o (.inl hg)⟩
theorem KeepI.rd {G : Nat → Obj → Prop} {B m n rb : Nat} {l : Str8} {look : Str8 → Option Df8} {a w : World} {vp vo : Value} {xs : List Value} {r : Rd} (h : RdR G B l m n look w rb vp vo xs r) (hk : KeepI a w) (j : Nat) (u : Value) : KeepI a (w.setCell ⟨rb, j, none⟩ u) := hk.set h.blk (by decide) j u

/-- The reader's cells. -/
theorem RdR.c {G : Nat → Obj → Prop} {B m n rb : Nat} {l : Str8} {look : Str8 → Option Df8} {w : World} {vp vo : Value} {xs : List Value} {r : Rd} (h : RdR G B l m n look w rb vp vo xs r) : w.cell? ⟨rb, 0, none⟩ = some (strW l) ∧ w.cell? ⟨rb, 1, none⟩ = some (.int .i64 (r.at0 : Int)) ∧ w.cell? ⟨rb, 2, none⟩ = some (.int .i64 (r.frm : Int)) ∧ w.cell? ⟨rb, 3, none⟩ = some vp ∧ w.cell? ⟨rb, 4, none⟩ = some vo ∧ w.cell? ⟨rb, 5, none⟩ = some (.int .i64 (r.inactive : Int)) ∧ w.cell? ⟨rb, 6, none⟩ = some (.map (some m)) :=
  ⟨blk.cell_blk h.blk rfl, blk.cell_blk h.blk rfl, blk.cell_blk h.blk rfl, blk.cell_blk h.blk rfl, blk.cell_blk h.blk rfl, blk.cell_blk h.blk rfl, blk.cell_blk h.blk rfl⟩
theorem RdR.f {G : Nat → Obj → Prop} {B m n rb : Nat} {l : Str8} {look : Str8 → Option Df8} {w : World} {vp vo : Value} {xs : List Value} {r : Rd} (h : RdR G B l m n look w rb vp vo xs r) (j : Nat) : w.frozen? ⟨rb, j, none⟩ = false := blk.free_blk h.blk j

end Go.Proofs.YtjdijlaoeoikhaaGreatDoor

/- Package inline: endText; walked. -/
namespace Go.Proofs.YtjdijlaoeoikhaaGreatDoor
open Go.RowKit

theorem sub_is (l : Str8) (a b : Nat) (h1 : a ≤ b) (h2 : b ≤ l.length) (hl : l.length ≤ 140737488351232) : ∀ w', (Instr.slice 9 (.string ⟨l.toArray⟩) (some (.int .i64 (a : Int))) (some (.int .i64 (b : Int))) none).run Tryz.prog w' = .ok (.string ⟨((l.take b).drop a).toArray⟩) w' := fun w' => by
  have x2 : (ByteArray.mk l.toArray).extract a b = ⟨((l.take b).drop a).toArray⟩ := by
    rw [extract_eq, list_data, List.drop_take]
  have e1 : ((ByteArray.mk l.toArray).size : Int) = (l.length : Int) := by rw [size_list]
  have g1 : (a : Int) ≤ (b : Int) := by omega
  have g2 : (b : Int) ≤ ((ByteArray.mk l.toArray).size : Int) := by omega
  go_simp

set_option maxHeartbeats 4000000 in
set_option maxRecDepth 20000 in
theorem iend_any {G : Nat → Obj → Prop} {B m n rb : Nat} {l : Str8} {look : Str8 → Option Df8} {w : World} {vp vo : Value} {xs : List Value} {r : Rd} (h : RdR G B l m n look w rb vp vo xs r) (ho : r.Ok l) (hl : l.length ≤ 1073741824) :
    Calls Tryz.prog 16 #[ptrB rb] w fun e w' => e = .returned (.tuple #[]) ∧ (∃ vp' xs', RdR G B l m n look w' rb vp' vo xs' (r.endText l)) ∧ Below B w w' ∧ KeepI w w' := by
  have hBw : B ≤ w.heap.size := Nat.le_trans h.base (Nat.le_of_lt (blk.lt_of_block h.blk))
  have HR : Hid (∀ u : BwI w, RdR G B l m n look u.wo rb vp vo xs r) := fun u => h.below u.is
  have c0 := fun u : BwI w => (HR.out u).c.1
  have c1 := fun u : BwI w => (HR.out u).c.2.1
  have c2 := fun u : BwI w => (HR.out u).c.2.2.1
  have ha := ho.at0
  have hf := ho.frm
  have hpl := ho.len.1
  obtain ⟨a1, k1, rfl⟩ := row_len h.row
  obtain ⟨i0, hi0, hz⟩ := Option.map_eq_some_iff.1 infoPt
  have hz0 := congrArg (·.1) hz
  have hz1 := congrArg (·.2.1) hz
  have hz2 := congrArg (·.2.2) hz
  simp only at hz0 hz1 hz2
  clear hz
  by_cases hlt : r.frm < r.at0
  · have hlt' : (r.frm : Int) < (r.at0 : Int) := by omega
    obtain ⟨T, HT⟩ : ∃ T, Hid (T = (l.take r.at0).drop r.frm) := ⟨_, rfl⟩
    have o1 : ∀ w', (Instr.slice 9 (.string ⟨l.toArray⟩) (some (.int .i64 (r.frm : Int))) (some (.int .i64 (r.at0 : Int))) none).run Tryz.prog w' = .ok (.string ⟨T.toArray⟩) w' := fun w' => by rw [HT.out]; exact sub_is l _ _ hf ha (by omega) w'
    have HE : Hid (r.endText l = { r with parts := r.parts ++ [{ i := { text := T } }], frm := r.at0 }) := by show _ = _; unfold Rd.endText; rw [if_pos hlt, HT.out]
    go_enter Tryz.func16, Tryz.ntmps16
    go_wp2
    refine region_classI (fun w' => ∃ u : BwI w, w' = u.wo) (by kernel_rfl) (by kernel_rfl) (BwI.first w) ?_
    haveI := BwI.some w
    repeat (go_big_quiet_step (first | exact rfl))
    refine wpQuiet_nil ?_
    intro _ hw'
    obtain ⟨u, hu⟩ := hw'
    subst hu
    (try simp only [Exit.then])
    go_wp2
    refine region_classI (fun w' => ∃ u : BwI w, w' = u.wo) (by kernel_rfl) (by kernel_rfl) ⟨BwI.of (w := u.wo.drew) (u.is.trans ⟨rfl, rfl, rfl, Nat.le_refl _, fun _ _ => rfl⟩), rfl⟩ ?_
    repeat (go_big_quiet_step (first | exact rfl))
    refine wpQuiet_nil ?_
    intro _ hw'
    obtain ⟨u2, hu2⟩ := hw'
    subst hu2
    have hR2 := HR.out u2
    have HB2 : Hid (Below w.heap.size w u2.wo) := u2.is
    generalize u2.wo = V at *
    clear c0 c1 c2 HR
    have d3 := hR2.c.2.2.2.1
    have d3' := fun o => (hR2.below ((Below.refl V.heap.size V).alloc (Nat.le_refl _) o)).c.2.2.2.1
    have HBV : Hid (B ≤ V.heap.size) := Nat.le_trans hBw HB2.out.size
    have HRV := (show Hid (RdR _ _ _ _ _ _ _ _ _ _ _ _) from hR2)
    have HRA : Hid (∀ o, RdR G B l m n look (V.alloc o) rb _ vo xs r) := fun o => hR2.below ((Below.refl V.heap.size V).alloc (Nat.le_refl _) o)
    (try simp only [Exit.then])
    go_wp2_with (at_builtin; refine wpList_append_own_at _ rfl _ _ 42 rfl B 53 i0 _ 9 104 Tryz.underlying42 hi0 hz0 hz1 hz2 rfl (by decide) _ _ _ rfl (World.ownsRow.alloc HRV.out.row _) ⟨V.heap.size, 0, none⟩ 1 1 (iiCells { text := T } (.slice none 0 0) ++ dlCells {}) rfl rfl (lit_cells V (iiCells { text := T } (.slice none 0 0) ++ dlCells {}) _) (pt_one _ _ _ _ _) ?c3 ?c4 ?c5 ?_)
    case c3 => unfold maxLen; omega
    case c4 => omega
    case c5 => have := HBV.out; simp; omega
    intro vp3 w3 hown3 hgrow3 _ hat3
    obtain ⟨pa, pn, pc, rfl⟩ := row_slice hown3
    have hA := HRA.out (.cells (iiCells { text := T } (.slice none 0 0) ++ dlCells {}).toArray 53)
    have hP := RdR.pushed (p := { i := { text := T } }) hA (by have := HBV.out; simp; omega) hown3 hgrow3 (fun g hg => by rcases hat3 with q | q <;> rw [q] at hg; exact .inl hg; exact .inr (by have := Option.some.inj hg; simp; omega)) (World.ownsRow_nil _ _ _ _) rfl
    have hsw : w3.heap[rb]? = some (.cells (rdCells l r (.slice a1 r.parts.length k1) vo m).toArray 45 (0, 0)) := (hgrow3.block rb (blk.lt_of_block hA.blk) (row_neq hA.row hA.blk (by decide))).trans hA.blk
    have q0 := blk.cell_blk hsw (i := 3) rfl
    have q1 := blk.free_blk hsw 3
    have e1 := hP.1.c.2.1
    have e2 := hP.1.c.2.2.1
    have e3 := hP.1.f 2
    have HP := (show Hid _ from hP)
    have HB3 : Hid (Below B w (w3.setCell ⟨rb, 3, none⟩ (.slice pa pn pc))) := (HB2.out.mono hBw).trans (((Below.refl _ _).alloc HBV.out _).trans hP.2.1)
    have HK3 : Hid (KeepI w (w3.setCell ⟨rb, 3, none⟩ (.slice pa pn pc))) := (KeepI.of_below HB2.out).trans ((KeepI.of_below ((Below.refl V.heap.size V).alloc (Nat.le_refl _) _)).trans hP.2.2)
    clear hP hsw hA hown3 hgrow3 d3 d3'
    go_wp2
    go_end0
    refine ⟨rfl, ⟨_, _, by rw [HE.out]; exact HP.out.1.num.2.1 r.at0⟩, blk.below_set HB3.out h.base, KeepI.rd HP.out.1 HK3.out _ _⟩
  · have hge : ¬ (r.frm : Int) < (r.at0 : Int) := by omega
    have HE : Hid (r.endText l = { r with frm := r.at0 }) := by show _ = _; unfold Rd.endText; rw [if_neg hlt, List.append_nil]
    go_enter Tryz.func16, Tryz.ntmps16
    go_wp2
    refine region_classI (fun w' => ∃ u : BwI w, w' = u.wo) (by kernel_rfl) (by kernel_rfl) (BwI.first w) ?_
    haveI := BwI.some w
    repeat (go_big_quiet_step (first | exact rfl))
    refine wpQuiet_nil ?_
    intro _ hw'
    obtain ⟨u, hu⟩ := hw'
    subst hu
    have hR2 := HR.out u
    have HB2 : Hid (Below w.heap.size w u.wo) := u.is
    generalize u.wo = V at *
    clear c0 c1 c2 HR
    have e1 := hR2.c.2.1
    have e2 := hR2.c.2.2.1
    have e3 := hR2.f 2
    (try simp only [Exit.then])
    go_wp2
    go_end0
    exact ⟨rfl, ⟨_, _, by rw [HE.out]; exact hR2.num.2.1 r.at0⟩, blk.below_set (HB2.out.mono hBw) h.base, KeepI.rd hR2 (KeepI.of_below HB2.out) _ _⟩

end Go.Proofs.YtjdijlaoeoikhaaGreatDoor

/- Package inline: add; walked. -/
namespace Go.Proofs.YtjdijlaoeoikhaaGreatDoor
open Go.RowKit

set_option maxHeartbeats 8000000 in
set_option maxRecDepth 20000 in
theorem iadd_any {G : Nat → Obj → Prop} {B m n rb : Nat} {l : Str8} {look : Str8 → Option Df8} {w : World} {vp vo : Value} {xs : List Value} {r : Rd} (h : RdR G B l m n look w rb vp vo xs r) (ho : r.Ok l) (hl : l.length ≤ 1073741824) (p : Pt) (size : Nat) (hs : r.at0 + size ≤ l.length) (ka : Option Addr) (kn kc : Nat) {ys : List Value} (hrow : w.ownsRow 0 32 5 (.slice ka kn kc) p.kids.len ys) (hkid : KidI w (fun _ => True) p.kids ys) :
    Calls Tryz.prog 33 #[ptrB rb, .agg (iiCells p.i (.slice ka kn kc) ++ dlCells p.d).toArray, .int .i64 (size : Int)] w fun e w' => e = .returned (.tuple #[]) ∧ (∃ vp' xs', RdR G B l m n look w' rb vp' vo xs' (r.add l p size)) ∧ Below B w w' := by
  have hBw : B ≤ w.heap.size := Nat.le_trans h.base (Nat.le_of_lt (blk.lt_of_block h.blk))
  have hg := h.guest (iiCells p.i (.slice ka kn kc) ++ dlCells p.d).toArray 53
  have HE : Hid (Calls Tryz.prog 16 #[ptrB rb] (w.alloc (.cells (iiCells p.i (.slice ka kn kc) ++ dlCells p.d).toArray 53)) _) := iend_any hg ho hl
  have hoe := ho.endText
  have hpl := hoe.len.1
  have hfe : (r.endText l).frm = r.at0 := rfl
  have hae : (r.endText l).at0 = r.at0 := rfl
  have hsi : (r.at0 : Int) + (size : Int) ≤ (l.length : Int) := by omega
  have hli : (l.length : Int) ≤ 1073741824 := by omega
  obtain ⟨i0, hi0, hz⟩ := Option.map_eq_some_iff.1 infoPt
  have hz0 := congrArg (·.1) hz
  have hz1 := congrArg (·.2.1) hz
  have hz2 := congrArg (·.2.2) hz
  simp only at hz0 hz1 hz2
  have hbs := h.base
  have HKw : Hid (w.ownsRow 0 32 5 (.slice ka kn kc) p.kids.len ys ∧ KidI w (fun _ => True) p.kids ys) := ⟨hrow, hkid⟩
  clear hz hg h hrow hkid
  go_enter Tryz.func33, Tryz.ntmps33
  go_wp2_with (go_at_call 16; refine Calls.mono HE.out ?_; rintro e V ⟨rfl, ⟨vp1, xs1, hR⟩, hb, hk⟩; obtain ⟨a1, k1, hv1⟩ := row_len hR.row; subst hv1; have HRV := (show Hid (RdR _ _ _ _ _ _ _ _ _ _ _ _) from hR); have HOv := (show Hid _ from hR.own); have HBV : Hid (Below B w V) := ((Below.refl _ _).alloc hBw _).trans hb; have HKv := (show Hid (World.ownsRow V 0 32 5 (.slice ka kn kc) p.kids.len ys ∧ KidI V (fun _ => True) p.kids ys) from ⟨irow_keepI HKw.out.1 ((KeepI.of_below ((Below.refl w.heap.size w).alloc (Nat.le_refl _) _)).trans hk), KidI.stay (fun _ _ => trivial) ((KeepI.of_below ((Below.refl w.heap.size w).alloc (Nat.le_refl _) _)).trans hk) _ _ HKw.out.2⟩); clear hR hb hk)
  have a50 : V.drew.cell? ⟨rb, 3, none⟩ = some (.slice a1 (r.endText l).parts.length k1) := HRV.out.c.2.2.2.1
  have a51 : ∀ o, (V.alloc o).drew.cell? ⟨rb, 3, none⟩ = some (.slice a1 (r.endText l).parts.length k1) := fun o => (HRV.out.below (Below.drew ((Below.refl _ _).alloc (Nat.le_refl _) o))).c.2.2.2.1
  have b50 := blk.cell_blk (w := V.drew) HOv.out (i := 0) rfl
  have b51 := blk.cell_blk (w := V.drew) HOv.out (i := 1) rfl
  have b52 := blk.cell_blk (w := V.drew) HOv.out (i := 2) rfl
  have b53 := blk.cell_blk (w := V.drew) HOv.out (i := 3) rfl
  have b54 := blk.cell_blk (w := V.drew) HOv.out (i := 4) rfl
  have b55 := blk.cell_blk (w := V.drew) HOv.out (i := 5) rfl
  have b56 := blk.cell_blk (w := V.drew) HOv.out (i := 6) rfl
  have b57 := blk.cell_blk (w := V.drew) HOv.out (i := 7) rfl
  have b58 := blk.cell_blk (w := V.drew) HOv.out (i := 8) rfl
  simp only [List.getElem_toArray, iiCells, dlCells, List.cons_append, List.nil_append, List.getElem_cons_zero, List.getElem_cons_succ] at b50 b51 b52 b53 b54 b55 b56 b57 b58
  have HR5 : Hid (V.drew.ownsRow B 53 9 (.slice a1 (r.endText l).parts.length k1) ((r.endText l).parts.length) (xs1)) := HRV.out.row
  have HBW5 : Hid (B ≤ V.heap.size) := Nat.le_trans HRV.out.base (Nat.le_of_lt (blk.lt_of_block HRV.out.blk))
  have HSW5 : Hid (RdR _ B l m n look (V.drew.alloc (.cells (iiCells p.i (.slice ka kn kc) ++ dlCells p.d).toArray 53)) rb _ _ _ _) := HRV.out.below (Below.alloc (Below.drew (Below.refl _ _)) (Nat.le_refl _) _)
  have HKA5 : Hid (KeepI V (V.drew.alloc (.cells (iiCells p.i (.slice ka kn kc) ++ dlCells p.d).toArray 53))) := KeepI.of_below (Below.alloc (Below.drew (Below.refl V.heap.size V)) (Nat.le_refl _) (.cells (iiCells p.i (.slice ka kn kc) ++ dlCells p.d).toArray 53))
  have HKW5 : Hid (World.ownsRow (V.drew.alloc (.cells (iiCells p.i (.slice ka kn kc) ++ dlCells p.d).toArray 53)) 0 32 5 _ _ _ ∧ KidI (V.drew.alloc (.cells (iiCells p.i (.slice ka kn kc) ++ dlCells p.d).toArray 53)) (fun _ => True) _ _) := ⟨irow_keepI HKv.out.1 HKA5.out, KidI.stay (fun _ _ => trivial) HKA5.out _ _ HKv.out.2⟩
  go_region_law (refine step_app rfl (.tmp 12) (.tmp 14) 42 rfl B 53 i0 _ 9 104 Tryz.underlying42 hi0 hz0 hz1 hz2 rfl (by decide) (.slice a1 (r.endText l).parts.length k1) ((r.endText l).parts.length) (xs1) (by first | rfl | simp [Act.eval, Act.put]) (World.ownsRow.alloc (w := V.drew) HR5.out _) (by have := HBW5.out; simp; omega) ⟨V.heap.size, 0, none⟩ _ (iiCells p.i (.slice ka kn kc) ++ dlCells p.d) (by first | rfl | simp [Act.eval, Act.put]) rfl (lit_cells V.drew (iiCells p.i (.slice ka kn kc) ++ dlCells p.d) _) (pt_one _ _ _ _ _) (by unfold maxLen; omega) (by omega) ?_; intro g5 c5 u5 hown5 hgrow5 hat5; have hP5 := RdR.pushed (p := p) HSW5.out (by have := HBW5.out; simp; omega) hown5 hgrow5 (fun g hg => by cases hg; exact hat5) HKW5.out.1 HKW5.out.2; have hsw5 : u5.heap[rb]? = some (.cells (rdCells l (r.endText l) (.slice a1 (r.endText l).parts.length k1) (vo) m).toArray 45 (0, 0)) := (hgrow5.block rb (blk.lt_of_block HSW5.out.blk) (row_neq HSW5.out.row HSW5.out.blk (by decide))).trans HSW5.out.blk; have q50 := blk.cell_blk hsw5 (i := 3) rfl; have q51 := blk.free_blk hsw5 3; have HP5 := (show Hid _ from hP5); have e1 := hP5.1.c.2.1; have e1' := hP5.1.f 1; clear hP5 hown5 hgrow5 hsw5 hat5)
  all_goals
    have HRW := (show Hid (RdR _ _ _ _ _ _ _ _ _ _ _ _) from HP5.out.1.alone)
    have HBW : Hid (Below B w (u5.setCell ⟨rb, 3, none⟩ (.slice (some ⟨g5, 0, none⟩) ((r.endText l).parts.length + 1) c5))) := HBV.out.trans (((Below.drew (Below.refl _ _)).alloc HBW5.out _).trans HP5.out.2.1)
    clear a50 a51 b50 b51 b52 b53 b54 b55 b56 b57 b58 HR5 HSW5 HKA5 HKW5 HP5
    have f1 := HRW.out.num.1 (r.at0 + size)
    have e2 := f1.c.2.1
    have e3 := f1.c.2.2.1
    have e4 := f1.f 2
    have hsum : ((r.at0 + size : Nat) : Int) = (r.at0 : Int) + (size : Int) := by omega
    rw [hsum] at e2 e3 e4 f1
    have HF := (show Hid (RdR _ _ _ _ _ _ _ _ _ _ _ _) from f1.num.2.1 (r.at0 + size))
    rw [hsum] at HF
    clear f1 hsum
    (try simp only [Exit.then])
    go_wp2
    go_end0
    exact ⟨rfl, ⟨_, _, HF.out⟩, blk.below_set (blk.below_set HBW.out hbs) hbs⟩

end Go.Proofs.YtjdijlaoeoikhaaGreatDoor

/- Package inline: addText, addBreak, readBackslash; walked. -/
namespace Go.Proofs.YtjdijlaoeoikhaaGreatDoor
open Go.RowKit

/-- What a call leaves of the reader. -/
def LeftR (G : Nat → Obj → Prop) (B : Nat) (l : Str8) (m n : Nat) (look : Str8 → Option Df8) (w : World) (rb : Nat) (r' : Rd) (e : Ending) (w' : World) : Prop := e = .returned (.tuple #[]) ∧ (∃ vp' vo' xs', RdR G B l m n look w' rb vp' vo' xs' r') ∧ Below B w w'

set_option maxHeartbeats 2000000 in
theorem iaddt_any {G : Nat → Obj → Prop} {B m n rb : Nat} {l : Str8} {look : Str8 → Option Df8} {w : World} {vp vo : Value} {xs : List Value} {r : Rd} (h : RdR G B l m n look w rb vp vo xs r) (ho : r.Ok l) (hl : l.length ≤ 1073741824) (t : Str8) (size : Nat) (hs : r.at0 + size ≤ l.length) :
    Calls Tryz.prog 37 #[ptrB rb, strW t, .int .i64 (size : Int)] w fun e w' => e = .returned (.tuple #[]) ∧ (∃ vp' xs', RdR G B l m n look w' rb vp' vo xs' (r.add l { i := { text := t } } size)) ∧ Below B w w' := by
  have HA : Hid (Calls Tryz.prog 33 #[ptrB rb, .agg #[.int .i64 0, strW t, .string ⟨#[]⟩, .string ⟨#[]⟩, .slice none 0 0, .int .u8 0, .int .i64 0, .bool false, .bool false], .int .i64 (size : Int)] w _) := iadd_any h ho hl { i := { text := t } } size hs none 0 0 (ys := []) (World.ownsRow_nil _ _ _ _) rfl
  clear h
  go_enter Tryz.func37, Tryz.ntmps37
  go_wp2_with (go_at_call 33; refine Calls.mono HA.out ?_; rintro e u ⟨rfl, h1, h2⟩)
  go_end0
  exact ⟨rfl, h1, h2⟩

theorem blank_is : (fun b => ([32] : Str8).contains b) = (· == 32) := by
  funext b
  rw [List.contains_cons]
  simp

set_option maxHeartbeats 2000000 in
set_option maxRecDepth 20000 in
theorem ibreak_any {G : Nat → Obj → Prop} {B m n rb : Nat} {l : Str8} {look : Str8 → Option Df8} {w : World} {vp vo : Value} {xs : List Value} {r : Rd} (h : RdR G B l m n look w rb vp vo xs r) (ho : r.Ok l) (hl : l.length ≤ 1073741824) (kind ahead : Nat) (hs : r.at0 + ahead + 1 ≤ l.length) :
    Calls Tryz.prog 29 #[ptrB rb, .int .i64 (kind : Int), .int .i64 (ahead : Int)] w fun e w' => LeftR G B l m n look w rb (r.addBreak l kind ahead) e w' := by
  have hBw : B ≤ w.heap.size := Nat.le_trans h.base (Nat.le_of_lt (blk.lt_of_block h.blk))
  have HR : Hid (∀ u : BwI w, RdR G B l m n look u.wo rb vp vo xs r) := fun u => h.below u.is
  have HBu : Hid (∀ u : BwI w, Below B w u.wo) := fun u => u.is.mono hBw
  have c0 := fun u : BwI w => (HR.out u).c.1
  have c1 := fun u : BwI w => (HR.out u).c.2.1
  have hbs := h.base
  have hli : (l.length : Int) ≤ 1073741824 := by omega
  obtain ⟨T, HT⟩ : ∃ T, Hid (T = l.drop (r.at0 + ahead + 1)) := ⟨_, rfl⟩
  obtain ⟨k, HK⟩ : ∃ k, Hid (k = rowI (· == 32) T) := ⟨_, rfl⟩
  have hkl : r.at0 + ahead + 1 + k ≤ l.length := by
    have := rowI_le (· == 32) T
    rw [← HK.out, HT.out, List.length_drop] at this
    omega
  have o1 := from_is l (r.at0 + ahead + 1) hs (by omega)
  have hc : ((r.at0 + ahead + 1 : Nat) : Int) = (r.at0 : Int) + ((ahead : Int) + 1) := by omega
  rw [hc, ← HT.out] at o1
  have HRow : Hid (∀ u : BwI w, Calls Tryz.prog 31 #[strI T, .string ⟨#[32]⟩] u.wo fun e w' => e = .returned (.int .i64 (k : Int)) ∧ ∃ u' : BwI w, w' = u'.wo) := fun u => by
    rw [HK.out]
    exact (irow_any T (by rw [HT.out, List.length_drop]; omega) [32] (by decide) (by decide) (· == 32) blank_is u.wo).mono fun e w' q => ⟨q.1, BwI.of (u.is.trans (q.2.mono u.is.size)), rfl⟩
  have HE : Hid (r.addBreak l kind ahead = r.add l { i := { kind := kind } } (ahead + 1 + k)) := by
    show _ = _
    rw [HK.out, HT.out]
    unfold Rd.addBreak
    rfl
  have HA : Hid (∀ u : BwI w, Calls Tryz.prog 33 #[ptrB rb, .agg #[.int .i64 (kind : Int), .string ⟨#[]⟩, .string ⟨#[]⟩, .string ⟨#[]⟩, .slice none 0 0, .int .u8 0, .int .i64 0, .bool false, .bool false], .int .i64 ((ahead : Int) + 1 + (k : Int))] u.wo fun e w' => e = .returned (.tuple #[]) ∧ (∃ vp' xs', RdR G B l m n look w' rb vp' vo xs' (r.addBreak l kind ahead)) ∧ Below B u.wo w') := fun u => by
    have q := iadd_any (HR.out u) ho hl { i := { kind := kind } } (ahead + 1 + k) (by omega) none 0 0 (ys := []) (World.ownsRow_nil _ _ _ _) rfl
    rw [← HE.out] at q
    have e : ((ahead + 1 + k : Nat) : Int) = (ahead : Int) + 1 + (k : Int) := by omega
    rw [e] at q
    exact q
  have hs1 : (r.at0 : Int) + ((ahead : Int) + 1) ≤ (l.length : Int) := by omega
  have hs2 : (ahead : Int) + 1 + (k : Int) ≤ (l.length : Int) := by omega
  clear h HE HT HK hc hs hkl
  go_enter Tryz.func29, Tryz.ntmps29
  go_wp2
  refine region_classI (fun w' => ∃ u : BwI w, w' = u.wo) (by kernel_rfl) (by kernel_rfl) (BwI.first w) ?_
  haveI := BwI.some w
  repeat (go_big_quiet_step (first | (go_at_call 31; exact HRow.out _) | exact rfl))
  refine wpQuiet_nil ?_
  intro _ hw'
  obtain ⟨u, hu⟩ := hw'
  subst hu
  have HB := (show Hid _ from HBu.out u)
  (try simp only [Exit.then])
  go_wp2_with (go_at_call 33; refine Calls.mono (HA.out u) ?_; rintro e u2 ⟨rfl, h1, h2⟩)
  go_end0
  obtain ⟨vp', xs', h1⟩ := h1
  exact ⟨rfl, ⟨_, _, _, h1⟩, HB.out.trans h2⟩

theorem bsl_nil (l : Str8) (r : Rd) (df : List Df8) (hd : l.drop r.at0 = [92]) : r.step l df = r.pass 1 := by
  unfold Rd.step
  rw [hd]
  rfl
theorem bsl_cons (l : Str8) (r : Rd) (df : List Df8) (b : UInt8) (t : Str8) (hd : l.drop r.at0 = 92 :: b :: t) : r.step l df = if b = 10 then r.addBreak l 2 1 else if markN b.toNat = true then { r.endText l with frm := r.at0 + 1, at0 := r.at0 + 2 } else r.pass 1 := by
  unfold Rd.step
  rw [hd]
  rfl
theorem drop_next {l : Str8} {i : Nat} {c : UInt8} {t : Str8} (h : l.drop i = c :: t) : l.drop (i + 1) = t ∧ i < l.length ∧ i + 1 + t.length = l.length := by
  have hlt : i < l.length := by
    rcases Nat.lt_or_ge i l.length with q | q
    · exact q
    · rw [List.drop_of_length_le q] at h; cases h
  have e := congrArg List.length h
  rw [List.length_drop, List.length_cons] at e
  refine ⟨?_, hlt, by omega⟩
  rw [← List.drop_drop, h]
  rfl

set_option maxHeartbeats 4000000 in
set_option maxRecDepth 20000 in
theorem ibsl_any {G : Nat → Obj → Prop} {B m n rb : Nat} {l : Str8} {look : Str8 → Option Df8} {w : World} {vp vo : Value} {xs : List Value} {r : Rd} (h : RdR G B l m n look w rb vp vo xs r) (ho : r.Ok l) (hl : l.length ≤ 1073741824) (df : List Df8) {T : Str8} (hd : l.drop r.at0 = 92 :: T) :
    Calls Tryz.prog 18 #[ptrB rb] w fun e w' => LeftR G B l m n look w rb (r.step l df) e w' := by
  have hBw : B ≤ w.heap.size := Nat.le_trans h.base (Nat.le_of_lt (blk.lt_of_block h.blk))
  have HR : Hid (∀ u : BwI w, RdR G B l m n look u.wo rb vp vo xs r) := fun u => h.below u.is
  have HBu : Hid (∀ u : BwI w, Below B w u.wo) := fun u => u.is.mono hBw
  have c0 := fun u : BwI w => (HR.out u).c.1
  have c1 := fun u : BwI w => (HR.out u).c.2.1
  have hbs := h.base
  have hli : (l.length : Int) ≤ 1073741824 := by omega
  obtain ⟨hT, hat, hlen⟩ := drop_next hd
  have o1 := from_is l (r.at0 + 1) (by omega) (by omega)
  have hc : ((r.at0 + 1 : Nat) : Int) = (r.at0 : Int) + 1 := by omega
  rw [hc, hT] at o1
  have hati : (r.at0 : Int) + 1 ≤ (l.length : Int) := by omega
  cases T with
  | nil =>
    rw [bsl_nil l r df hd]
    have HH : Hid (∀ w, Calls Tryz.prog 28 #[.string ⟨#[]⟩, .string ⟨#[10]⟩] w fun e w' => e = .returned (.bool false) ∧ w' = w) := fun w => ihas_any [] 10 w
    clear h hd hT
    go_enter Tryz.func18, Tryz.ntmps18
    go_wp2
    refine region_classI (fun w' => ∃ u : BwI w, w' = u.wo) (by kernel_rfl) (by kernel_rfl) (BwI.first w) ?_
    haveI := BwI.some w
    repeat (go_big_quiet_step (first | exact rfl))
    refine wpQuiet_nil ?_
    intro _ hw'
    obtain ⟨u, hu⟩ := hw'
    subst hu
    have hRV := HR.out u
    have HBV := (show Hid (Below _ _ _) from HBu.out u)
    generalize u.wo = V at *
    clear HR HBu c0 c1
    have e1 := hRV.c.2.1
    have e2 := hRV.f 1
    have HF := (show Hid (RdR _ _ _ _ _ _ _ _ _ _ _ _) from hRV.num.1 (r.at0 + 1))
    have hsum : ((r.at0 + 1 : Nat) : Int) = (r.at0 : Int) + 1 := by omega
    rw [hsum] at HF
    clear hRV hsum
    (try simp only [Exit.then])
    go_wp2_with (go_at_call 28; refine Calls.mono (HH.out _) ?_; rintro e w1 ⟨rfl, hw⟩; subst w1)
    go_end0
    exact ⟨rfl, ⟨_, _, _, HF.out⟩, blk.below_set HBV.out hbs⟩
  | cons b T0 =>
    rw [bsl_cons l r df b T0 hd]
    have hati2 : (r.at0 : Int) + 2 ≤ (l.length : Int) := by have : (b :: T0).length = T0.length + 1 := rfl; omega
    by_cases hb : b = 10
    · subst hb
      rw [if_pos rfl]
      have HH : Hid (∀ w, Calls Tryz.prog 28 #[.string ⟨(10 :: T0 : Str8).toArray⟩, .string ⟨#[10]⟩] w fun e w' => e = .returned (.bool true) ∧ w' = w) := fun w => by have := ihas_any (10 :: T0) 10 w; exact this
      have HA : Hid (∀ u : BwI w, Calls Tryz.prog 29 #[ptrB rb, .int .i64 2, .int .i64 1] u.wo fun e w' => LeftR G B l m n look u.wo rb (r.addBreak l 2 1) e w') := fun u => ibreak_any (HR.out u) ho hl 2 1 (by omega)
      clear h hd hT
      go_enter Tryz.func18, Tryz.ntmps18
      go_wp2
      refine region_classI (fun w' => ∃ u : BwI w, w' = u.wo) (by kernel_rfl) (by kernel_rfl) (BwI.first w) ?_
      haveI := BwI.some w
      repeat (go_big_quiet_step (first | exact rfl))
      refine wpQuiet_nil ?_
      intro _ hw'
      obtain ⟨u, hu⟩ := hw'
      subst hu
      have HB := (show Hid _ from HBu.out u)
      (try simp only [Exit.then])
      go_wp2_with (first
        | (go_at_call 28; refine Calls.mono (HH.out _) ?_; rintro e w1 ⟨rfl, hw⟩; subst w1)
        | (go_at_call 29; refine Calls.mono (HA.out u) ?_; rintro e u2 ⟨rfl, h1, h2⟩))
      go_end0
      exact ⟨rfl, h1, HB.out.trans h2⟩
    · rw [if_neg hb]
      have hbb : ((b :: T0).head? == some 10) = false := by simpa using hb
      have HH : Hid (∀ w, Calls Tryz.prog 28 #[.string ⟨(b :: T0 : Str8).toArray⟩, .string ⟨#[10]⟩] w fun e w' => e = .returned (.bool false) ∧ w' = w) := fun w => by have := ihas_any (b :: T0) 10 w; rw [hbb] at this; exact this
      have HM : Hid (∀ w, Calls Tryz.prog 30 #[.int .u8 (b.toNat : Int)] w fun e w' => e = .returned (.bool (markN b.toNat)) ∧ w' = w) := fun w => esc.mark_any b.toNat w
      have HE : Hid (∀ u : BwI w, Calls Tryz.prog 16 #[ptrB rb] u.wo fun e w' => e = .returned (.tuple #[]) ∧ (∃ vp' xs', RdR G B l m n look w' rb vp' vo xs' (r.endText l)) ∧ Below B u.wo w' ∧ KeepI u.wo w') := fun u => iend_any (HR.out u) ho hl
      have hne : (b :: T0 : Str8).isEmpty = false := rfl
      cases hm : markN b.toNat with
      | false =>
        rw [if_neg (by decide)]
        rw [hm] at HM
        clear h hd hT hb hbb HE hm
        go_enter Tryz.func18, Tryz.ntmps18
        go_wp2
        refine region_classI (fun w' => ∃ u : BwI w, w' = u.wo) (by kernel_rfl) (by kernel_rfl) (BwI.first w) ?_
        haveI := BwI.some w
        repeat (go_big_quiet_step (first | exact rfl))
        refine wpQuiet_nil ?_
        intro _ hw'
        obtain ⟨u, hu⟩ := hw'
        subst hu
        have hRV := HR.out u
        have HBV := (show Hid (Below _ _ _) from HBu.out u)
        generalize u.wo = V at *
        clear HR HBu c0 c1
        have e1 := hRV.c.2.1
        have e2 := hRV.f 1
        have HF := (show Hid (RdR _ _ _ _ _ _ _ _ _ _ _ _) from hRV.num.1 (r.at0 + 1))
        have hsum : ((r.at0 + 1 : Nat) : Int) = (r.at0 : Int) + 1 := by omega
        rw [hsum] at HF
        clear hRV hsum
        (try simp only [Exit.then])
        go_wp2_with (first
          | (go_at_call 28; refine Calls.mono (HH.out _) ?_; rintro e w1 ⟨rfl, hw⟩; subst w1)
          | (go_at_call 30; refine Calls.mono (HM.out _) ?_; rintro e w1 ⟨rfl, hw⟩; subst w1))
        go_end0
        exact ⟨rfl, ⟨_, _, _, HF.out⟩, blk.below_set HBV.out hbs⟩
      | true =>
        rw [if_pos rfl]
        rw [hm] at HM
        clear h hd hT hb hbb hm
        go_enter Tryz.func18, Tryz.ntmps18
        go_wp2
        refine region_classI (fun w' => ∃ u : BwI w, w' = u.wo) (by kernel_rfl) (by kernel_rfl) (BwI.first w) ?_
        haveI := BwI.some w
        repeat (go_big_quiet_step (first | exact rfl))
        refine wpQuiet_nil ?_
        intro _ hw'
        obtain ⟨u, hu⟩ := hw'
        subst hu
        have HB := (show Hid _ from HBu.out u)
        (try simp only [Exit.then])
        go_wp2_with (first
          | (go_at_call 28; refine Calls.mono (HH.out _) ?_; rintro e w1 ⟨rfl, hw⟩; subst w1)
          | (go_at_call 30; refine Calls.mono (HM.out _) ?_; rintro e w1 ⟨rfl, hw⟩; subst w1)
          | (go_at_call 16; refine Calls.mono (HE.out u) ?_; rintro e V ⟨rfl, ⟨vp1, xs1, hRV⟩, hbV, _⟩; have e1 : V.cell? ⟨rb, 1, none⟩ = some (.int .i64 (r.at0 : Int)) := hRV.c.2.1; have e2 := hRV.c.2.2.1; have e3 := hRV.f 2; have hR2 := hRV.num.2.1 (r.at0 + 1); have e4 : (V.setCell ⟨rb, 2, none⟩ (.int .i64 ((r.at0 + 1 : Nat) : Int))).cell? ⟨rb, 1, none⟩ = some (.int .i64 (r.at0 : Int)) := hR2.c.2.1; have e5 := hR2.f 1; have hF := hR2.num.1 (r.at0 + 2); have hs1 : ((r.at0 + 1 : Nat) : Int) = (r.at0 : Int) + 1 := (by omega); have hs2 : ((r.at0 + 2 : Nat) : Int) = (r.at0 : Int) + 2 := (by omega); rw [hs1] at e4 e5; rw [hs1, hs2] at hF; have HF := (show Hid (RdR _ _ _ _ _ _ _ _ _ _ _ _) from hF); have HBV : Hid (Below B w V) := HB.out.trans hbV; clear hRV hR2 hF hs1 hs2 hbV))
        go_end0
        exact ⟨rfl, ⟨_, _, _, HF.out⟩, blk.below_set (blk.below_set HBV.out hbs) hbs⟩

end Go.Proofs.YtjdijlaoeoikhaaGreatDoor
