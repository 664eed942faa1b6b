/- Several texts in one. -/
import Derived.Test.YtjdijlaoeoikhaaGreatDoorG27
import Derived.Maps.Views
import Derived.Maps.OwnSet
import Derived.Maps.Own
set_option linter.unusedVariables false
/- A map of definitions by labels: made, looked up, written. -/
namespace Go.Proofs.YtjdijlaoeoikhaaGreatDoor
open Go.RowKit

abbrev dfCell (d : Df8) : Value := .agg #[.string ⟨d.1.toArray⟩, .string ⟨d.2.1.toArray⟩, .string ⟨d.2.2.toArray⟩]
def dfD (d : Df8) : DataW Unit := .agg [.lit (.string d.1), .lit (.string d.2.1), .lit (.string d.2.2)]
/-- What a definition reads as. -/
def dfElem (v : Value) : Option (DataW Unit × List MemPlace) := match v with
  | .agg ⟨[.string a, .string b, .string c]⟩ => some (.agg [.lit (.string a.data.toList), .lit (.string b.data.toList), .lit (.string c.data.toList)], [])
  | _ => none
theorem dfElem_is (d : Df8) : dfElem (dfCell d) = some (dfD d, []) := rfl
theorem dfElem_inv {v : Value} {d : Df8} {ps : List MemPlace} (h : dfElem v = some (dfD d, ps)) : v = dfCell d := by
  unfold dfElem at h
  split at h
  · rename_i a b c
    obtain ⟨x, y, z⟩ := d
    have h1 := (Prod.mk.inj (Option.some.inj h)).1
    unfold dfD at h1
    simp only [DataW.agg.injEq, List.cons.injEq, DataW.lit.injEq, Lit.string.injEq, and_true] at h1
    obtain ⟨rfl, rfl, rfl⟩ := h1
    rfl
  · cases h

/-- Block m is a map of at most n definitions; this is what it has at a label. -/
def MapD (w : World) (m n : Nat) (look : Str8 → Option Df8) : Prop := ∃ D : DataW Unit, w.ownsMap Tryz.prog 9 dfElem m n D ∧ (∀ l, Maps.has D (.string l) = (look l).isSome) ∧ ∀ l, D.atKey (.string l) (dfD ([], [], [])) = dfD ((look l).getD ([], [], []))

theorem mapd_made (w : World) : MapD (w.alloc (.map #[] 0)) w.heap.size 0 (fun _ => none) := ⟨.map [], World.ownsMap_made w Tryz.prog _ _, fun _ => rfl, fun _ => rfl⟩

theorem mapd_below {w w' : World} {m n : Nat} {look : Str8 → Option Df8} (h : MapD w m n look) (hb : Below w.heap.size w w') : MapD w' m n look := by
  obtain ⟨D, ⟨es, clock, h1, h2, h3, h4⟩, h5, h6⟩ := h
  exact ⟨D, ⟨es, clock, blk.blk_below h1 hb, h2, h3, h4⟩, h5, h6⟩

theorem mapd_key (l : Str8) (hl : l.length ≤ 1099511627776) : keyOf Tryz.prog 9 (.string ⟨l.toArray⟩) = some (.string l) := by
  rw [Go.WideMaps.keyOf_string_mk Tryz.underlying9 (by rw [size_list]; unfold maxLen; omega), list_data]

theorem mapd_look {w : World} {m n : Nat} {look : Str8 → Option Df8} (h : MapD w m n look) (l : Str8) (hl : l.length ≤ 1099511627776) :
    (Instr.lookup 40 (.map (some m)) (.string ⟨l.toArray⟩) true).run Tryz.prog w = .ok (.tuple #[dfCell ((look l).getD ([], [], [])), .bool (look l).isSome]) w := by
  obtain ⟨D, h1, h2, h3⟩ := h
  obtain ⟨v, ps, hrun, hv⟩ := h1.look_ok (t := 40) (e := 35) (Maps.string_keyed Tryz.underlying9) Tryz.underlying40 (z := dfCell ([], [], [])) (by kernel_rfl) (dfElem_is ([], [], [])) (mapd_key l hl)
  rw [h3 l] at hv
  rw [hrun, h2 l, dfElem_inv hv]

theorem mapd_put {w w' : World} {m n : Nat} {look : Str8 → Option Df8} {D : DataW Unit} {d : Df8} (hD : w'.ownsMap Tryz.prog 9 dfElem m (n + 1) (D.put (.string d.1) (dfD d))) (hm : Maps.IsMap D) (h2 : ∀ l, Maps.has D (.string l) = (look l).isSome) (h3 : ∀ l, D.atKey (.string l) (dfD ([], [], [])) = dfD ((look l).getD ([], [], []))) :
    MapD w' m (n + 1) (fun l => if l = d.1 then some d else look l) := by
  refine ⟨_, hD, fun l => ?_, fun l => ?_⟩
  · show _ = (if l = d.1 then some d else look l).isSome
    by_cases hx : l = d.1
    · rw [hx, Maps.has_put_same (k := .string d.1) hm trivial, if_pos rfl]; rfl
    · rw [Maps.has_put_other (by intro e; cases e; exact hx rfl), h2 l, if_neg hx]
  · show _ = dfD ((if l = d.1 then some d else look l).getD ([], [], []))
    by_cases hx : l = d.1
    · rw [hx, Maps.atKey_put_same (k := .string d.1) hm trivial, if_pos rfl]; rfl
    · rw [Maps.atKey_put_other (by intro e; cases e; exact hx rfl), h3 l, if_neg hx]

end Go.Proofs.YtjdijlaoeoikhaaGreatDoor

/- Package inline: byLabel; walked. -/
namespace Go.Proofs.YtjdijlaoeoikhaaGreatDoor
open Go.RowKit

theorem mapd_same {w w' : World} {m n : Nat} {look : Str8 → Option Df8} (h : MapD w m n look) (hb : w'.heap[m]? = w.heap[m]?) : MapD w' m n look := by
  obtain ⟨D, ⟨es, clock, h1, h2, h3, h4⟩, h5, h6⟩ := h
  exact ⟨D, ⟨es, clock, hb.trans h1, h2, h3, h4⟩, h5, h6⟩

theorem mk_hint (k : Int) (w : World) : (Instr.makeMap 40 (some (.int .i64 k))).run Tryz.prog w = .ok (.map (some w.heap.size)) (w.alloc (.map #[] 0)) := by kernel_rfl

/-- Definitions that lie one behind the other. -/
def DefsAt (w : World) (v : Value) (ds : List Df8) : Prop := ∃ a cap, v = .slice a ds.length cap ∧ ∀ i q, ds[i]? = some q → ∃ b o, a = some ⟨b, o, none⟩ ∧ b < w.heap.size ∧ w.cell? ⟨b, o + i * 3, none⟩ = some (strW q.1) ∧ w.cell? ⟨b, o + i * 3 + 1, none⟩ = some (strW q.2.1) ∧ w.cell? ⟨b, o + i * 3 + 2, none⟩ = some (strW q.2.2)

def firstD (ds : List Df8) (l : Str8) : Option Df8 := ds.find? (fun d => d.1 == l)
theorem firstD_more (ds : List Df8) (i : Nat) (q : Df8) (h : ds[i]? = some q) (l : Str8) : firstD (ds.take (i + 1)) l = (firstD (ds.take i) l).or (if q.1 == l then some q else none) := by
  unfold firstD
  rw [List.take_add_one, h, List.find?_append]
  congr 1
  show List.find? _ [q] = _
  rw [List.find?_cons]
  cases q.1 == l <;> rfl

theorem lookD {w : World} {m n : Nat} {look : Str8 → Option Df8} (h : MapD w m n look) (l : Str8) (hl : l.length ≤ 1099511627776) {ops : Array Oper} {rest : List Oper} {o : Oper} {a : Act} {Q : Exit → Act → World → Prop} (hg : o.guard = none) (M X : Operand) (ho : o.op = Op.lookup 40 M X true) (hM : a.eval M = .map (some m)) (hX : a.eval X = .string ⟨l.toArray⟩)
    (hk : wpList Tryz.prog ops Q rest (a.put o.dst (.tuple #[dfCell ((look l).getD ([], [], [])), .bool (look l).isSome])) w) : wpList Tryz.prog ops Q (o :: rest) a w := by
  obtain ⟨D, h1, h2, h3⟩ := h
  refine wpList_lookup_own_ok w hg M X 40 ho 9 35 (Maps.string_keyed Tryz.underlying9) Tryz.underlying40 dfElem (z := dfCell ([], [], [])) (by kernel_rfl) _ _ (dfElem_is ([], [], [])) m n D hM h1 _ _ hX (mapd_key l hl) ?_
  intro v ps hv
  rw [h3 l] at hv
  rw [dfElem_inv hv, h2 l]
  exact hk

set_option maxHeartbeats 4000000 in
set_option maxRecDepth 20000 in
theorem ibyl_any (ds : List Df8) (hn : ds.length ≤ 1099511627776) (hls : ∀ d ∈ ds, d.1.length ≤ 1099511627776) (w : World) (v : Value) (hd : DefsAt w v ds) :
    Calls Tryz.prog 14 #[v] w fun e w' => e = .returned (.map (some w.heap.size)) ∧ (∃ n, n ≤ ds.length ∧ MapD w' w.heap.size n (firstD ds)) ∧ Below w.heap.size w w' := by
  obtain ⟨a, cap, rfl, hcs⟩ := hd
  have hmm := mk_hint
  go_enter Tryz.func14, Tryz.ntmps14
  go_wp2
  go_loopw [13] (fun t wr => ∃ i : Nat, t = .int .i64 (i : Int) ∧ i ≤ ds.length ∧ Hid (∃ n, n ≤ i ∧ MapD wr w.heap.size n (firstD (ds.take i))) ∧ Hid (Below w.heap.size w wr)) (fun t _ => ds.length - (intOf t).toNat)
  case atStart => exact ⟨0, rfl, Nat.zero_le _, ⟨0, Nat.le_refl _, mapd_made w⟩, (Below.refl _ _).alloc (Nat.le_refl _) _⟩
  case round =>
    obtain ⟨i, rfl, hi, HM, HB⟩ := hrel
    by_cases hlt : i < ds.length
    · have hlt' : (i : Int) < (ds.length : Int) := by omega
      obtain ⟨q, hq⟩ : ∃ q, ds[i]? = some q := ⟨_, List.getElem?_eq_getElem hlt⟩
      obtain ⟨b, o, rfl, hb, c0, c1, c2⟩ := hcs i q hq
      rename_i wr _
      have x0 : wr.cell? ⟨b, o + i * 3, none⟩ = _ := (HB.out.cell hb).trans c0
      have x1 : wr.cell? ⟨b, o + i * 3 + 1, none⟩ = _ := (HB.out.cell hb).trans c1
      have x2 : wr.cell? ⟨b, o + i * 3 + 2, none⟩ = _ := (HB.out.cell hb).trans c2
      obtain ⟨n, hni, hM⟩ := HM.out
      have hql : q.1.length ≤ 1099511627776 := hls q (List.mem_of_getElem? hq)
      have hlk := fun o : Obj => mapd_look (mapd_below hM ((Below.refl _ _).alloc (Nat.le_refl _) o)) q.1 hql
      have hB' := fun o1 o2 : Obj => show Hid (Below w.heap.size w ((wr.alloc o1).alloc o2)) from (HB.out.alloc HB.out.size o1).alloc (Nat.le_trans HB.out.size (by simp)) o2
      cases hF : firstD (ds.take i) q.1 with
      | some d0 =>
        rw [hF] at hlk
        have HX : Hid (∀ o1 o2 : Obj, MapD ((wr.alloc o1).alloc o2) w.heap.size n (firstD (ds.take (i + 1)))) := fun o1 o2 => by
          have he : firstD (ds.take (i + 1)) = firstD (ds.take i) := by
            funext l
            rw [firstD_more ds i q hq l]
            by_cases hl : q.1 = l
            · subst hl
              rw [hF]
              rfl
            · rw [if_neg (by simpa using hl), Option.or_none]
          rw [he]
          have h1 := mapd_below hM ((Below.refl _ _).alloc (Nat.le_refl _) o1)
          exact mapd_below h1 ((Below.refl _ _).alloc (Nat.le_refl _) o2)
        clear hM hcs hF hq hls HM
        go_wp2
        go_roundw
        case rel => exact ⟨i + 1, by go_num, by omega, ⟨n, by omega, HX.out _ _⟩, hB' _ _⟩
        case measure => simp [intOf]; omega
      | none =>
        rw [hF] at hlk
        obtain ⟨D, hO, h2, h3⟩ := hM
        have HO : Hid (∀ o1 o2 : Obj, ((wr.alloc o1).alloc o2).ownsMap Tryz.prog 9 dfElem w.heap.size n D) := fun o1 o2 => (hO.alloc o1).alloc o2
        have HX : Hid (∀ w', w'.ownsMap Tryz.prog 9 dfElem w.heap.size (n + 1) (D.put (.string q.1) (dfD q)) → MapD w' w.heap.size (n + 1) (firstD (ds.take (i + 1)))) := fun w' hw' => by
          have he : firstD (ds.take (i + 1)) = fun l => if l = q.1 then some q else firstD (ds.take i) l := by
            funext l
            rw [firstD_more ds i q hq l]
            by_cases hl : l = q.1
            · subst hl
              rw [hF, if_pos rfl]
              simp
            · rw [if_neg hl, if_neg (by simpa using fun e => hl e.symm), Option.or_none]
          rw [he]
          exact mapd_put (w := w) hw' hO.isMap h2 h3
        have HK := (show Hid _ from mapd_key q.1 hql)
        clear hO h2 h3 hcs hF hq hls HM
        go_wp2_with (at_mapUpdate; refine wpList_mapUpdate_own _ rfl _ _ _ 40 rfl 9 35 (Maps.string_keyed Tryz.underlying9) Tryz.underlying40 dfElem w.heap.size n D rfl (HO.out _ _) (by unfold maxLen; omega) _ _ _ rfl rfl HK.out (dfD q) [] (dfElem_is q) ?_; intro w1 hown1 hgrow1)
        go_roundw
        case rel => exact ⟨i + 1, by go_num, by omega, ⟨n + 1, by omega, HX.out _ hown1⟩, (hB' _ _).out.grown hgrow1 (hB' _ _).out.size (fun j hj => by cases hj; exact Nat.le_refl _)⟩
        case measure => simp [intOf]; omega
    · have hge : ¬ (i : Int) < (ds.length : Int) := by omega
      go_wp2
      go_ret
      have he : i = ds.length := by omega
      subst he
      have hm := HM.out
      rw [List.take_length] at hm
      exact ⟨rfl, hm, HB.out⟩

end Go.Proofs.YtjdijlaoeoikhaaGreatDoor
