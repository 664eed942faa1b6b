/- Several texts in one. -/
import Derived.Test.YtcbojffcnlkejaaGreatDoorG33
import Derived.Test.YtcbojffcnlkejaaGreatDoorBAsserts
set_option linter.unusedVariables false
/- A container takes in a part. -/
namespace Go.Proofs.YtcbojffcnlkejaaGreatDoor
open Go.RowKit
open cur (cell_blk free_blk set_blk blk_below)

theorem PartV.keeps {w w' : World} {A S : Nat → Prop} {b : Nat} {p : Part} {v : Value} (h : PartV w A S b p v) (hb : A b) (hk : ∀ g, g < w.heap.size → A g ∨ S g → w'.heap[g]? = w.heap[g]?) : PartV w' A S b p v :=
  ⟨(hk b (lt_of_block h.1) (.inl hb)).trans h.1, partV.keeps (fun _ q => q) (fun _ q => q) (fun g l q => hk g l (.inl q)) (fun g l q => hk g l (.inr q)) h.2⟩

/-- What a part hands on as kids. -/
theorem told_kids {w : World} {A S : Nat → Prop} {b : Nat} {p : Part} {v : Value} (h : PartV w A S b p v) : ∃ ys, w.ownsRow 0 34 8 (toldR p v) (toldK p).len ys ∧ (∀ g, (toldR p v).ownBlock = some g → A g) ∧ KidC w S (toldK p) ys := by
  have nil : ∃ ys, w.ownsRow 0 34 8 (.slice none 0 0) 0 ys ∧ (∀ g, (Value.slice none 0 0).ownBlock = some g → A g) ∧ KidC w S .nil ys := ⟨[], World.ownsRow_nil _ _ _ _, fun g hg => (by cases hg), rfl⟩
  cases p with
  | doc x => exact h.2
  | quote x => exact h.2
  | list x m => exact h.2
  | item x n => exact h.2
  | _ => exact nil

theorem kids_hold (x : Box) (p : Part) : (x.hold p).kids = if toldO p then x.kids.snoc (toldB p) (toldK p) else x.kids := by
  unfold Box.hold
  rw [told_eq p]
  cases toldO p <;> rfl

/-- What is left of a world when a box has taken a part in. -/
def HeldW (w : World) (A S : Nat → Prop) (b : Nat) (x' : Box) (ex : List Value) (t : TypeId) (w' : World) : Prop :=
  ∃ v' xs, w'.heap[b]? = some (.cells (boxL x' v' ex).toArray t (0, 0)) ∧ w'.ownsRow 0 34 8 v' x'.kids.len xs ∧ KidC w' S x'.kids xs ∧ (∀ g, v'.ownBlock = some g → A g ∨ w.heap.size ≤ g) ∧ Fr A w w'

theorem bhold_part {w : World} {A S A' S' : Nat → Prop} {b bp : Nat} {x : Box} {p : Part} {v vp : Value} {ex : List Value} {t : TypeId} (h : w.heap[b]? = some (.cells (boxL x v ex).toArray t (0, 0))) (hk : KidsV w A S v x.kids) (hA : A b) (ht : t ≠ 34)
    (hp : PartV w A' S' bp p vp) (hbp : A' bp) (hpo : p.ok 1099511627776) (hd : ∀ g, A' g ∨ S' g ∨ S g → ¬ A g) (hx : x.last ≤ 1099511627776) (hkl : x.kids.len ≤ 1099511627776) :
    Calls Tryz.prog 225 #[ptrV b, partI p bp] w fun e w' => e = .returned (.tuple #[]) ∧ HeldW w A (fun g => S g ∨ A' g ∨ S' g) b (x.hold p) ex t w' := by
  obtain ⟨xs, hrow, hown, hkc⟩ := hk
  obtain ⟨a, c, rfl, hc⟩ := row_slice hrow
  have hnb : ∀ g, A' g ∨ S' g → g ≠ b := fun g hg e => hd g (hg.elim .inl (fun q => .inr (.inl q))) (e ▸ hA)
  obtain ⟨ak, nk, ck, hkv⟩ : ∃ ak nk ck, toldR p vp = .slice ak nk ck := by
    obtain ⟨ys, q, _⟩ := told_kids hp
    obtain ⟨a, c, e, _⟩ := row_slice q
    exact ⟨a, _, c, e⟩
  have HT : ∀ u, Fr (fun g => g = b) w u → Calls Tryz.prog (toldF p) #[ptrV bp] u fun e w' => e = .returned (toldV (toldB p) (.slice ak nk ck) (toldO p)) ∧ Below u.heap.size u w' := by
    intro u hu
    rw [← hkv]
    exact btold_any (PartV.keeps hp hbp (fun g hl hg => hu.block g hl (hnb g hg))) hpo
  refine (bhold_any h (fun w => mth_lines p bp w) (fun w => mth_told p bp w) (fun args w => cf_told p args w) (blines_part hp) HT hrow ht hkl hx hpo.1 hpo.2.1).mono ?_
  rintro e w' ⟨rfl, v', h1, h2, h3, h4⟩
  have hF : Fr A w w' := h4.mono (fun k q => q.elim (fun e => e ▸ hA) (hown k))
  refine ⟨rfl, v', xs ++ (if toldO p = true then biCells (toldB p) (.slice ak nk ck) else []), h1, ?_, ?_, fun g hg => (h3 g hg).imp (hown g) id, hF⟩
  · rw [kids_hold]
    cases q : toldO p
    · simpa [q] using h2
    · rw [q] at h2
      rw [if_pos rfl, Bs.len_snoc]
      simpa using h2
  · rw [kids_hold]
    obtain ⟨ys, y1, y2, y3⟩ := told_kids hp
    have hKC := KidC.keeps (S' := fun g => S g ∨ A' g ∨ S' g) (w' := w') (fun g q => .inl q) (fun g hl q => hF.block g hl (hd g (.inr (.inr q)))) x.kids xs hkc
    cases q : toldO p
    · simpa using hKC
    · rw [if_pos rfl]
      simp only [if_true]
      rw [← hkv]
      exact KidC.snoc (row_keeps y1 (fun g hg => hF.block g (World.ownsRow.lt y1 g hg).2 (hd g (.inl (y2 g hg))))) (fun g hg => .inr (.inl (y2 g hg))) (KidC.keeps (fun g q => .inr (.inr q)) (fun g hl q => hF.block g hl (hd g (.inr (.inl q)))) _ _ y3) x.kids xs hKC

end Go.Proofs.YtcbojffcnlkejaaGreatDoor

/- A list takes an item in. -/
namespace Go.Proofs.YtcbojffcnlkejaaGreatDoor
open Go.RowKit
open cur (cell_blk free_blk set_blk blk_below)

theorem box_gap {w : World} {b : Nat} {x : Box} {v : Value} {ex : List Value} {t : TypeId} (h : w.heap[b]? = some (.cells (boxL x v ex).toArray t (0, 0))) : (w.setCell ⟨b, 4, none⟩ (.bool true)).heap[b]? = some (.cells (boxL { x with gap := true } v ex).toArray t (0, 0)) := by
  rw [set_blk h 4 _]
  simp

set_option maxHeartbeats 2000000 in
set_option maxRecDepth 8000 in
theorem blhold_part {w : World} {A S A' S' : Nat → Prop} {b bp : Nat} {x y : Box} {wd : Nat} {v vp : Value} {ex : List Value} (h : w.heap[b]? = some (.cells (boxL x v ex).toArray 143 (0, 0))) (hk : KidsV w A S v x.kids) (hA : A b)
    (hp : PartV w A' S' bp (.item y wd) vp) (hbp : A' bp) (hpo : (Part.item y wd).ok 1099511627776) (hd : ∀ g, A' g ∨ S' g ∨ S g → ¬ A g) (hx : x.last ≤ 1099511627776) (hkl : x.kids.len ≤ 1099511627776) :
    Calls Tryz.prog 242 #[ptrV b, partI (.item y wd) bp] w fun e w' => e = .returned (.tuple #[]) ∧ HeldW w A (fun g => S g ∨ A' g ∨ S' g) b { x.hold (.item y wd) with gap := (x.hold (.item y wd)).gap || y.gap } ex 143 w' := by
  have HB : Hid (Calls Tryz.prog 225 #[ptrV b, partI (.item y wd) bp] w fun e w' => e = .returned (.tuple #[]) ∧ HeldW w A (fun g => S g ∨ A' g ∨ S' g) b (x.hold (.item y wd)) ex 143 w') := bhold_part h hk hA (by decide) hp hbp hpo hd hx hkl
  have ta := fun w => as_item1 y wd bp w
  have hbA : ¬ A bp := hd bp (.inl hbp)
  have hb0 := hp.1
  simp only [partI, partP] at HB ta ⊢
  have HDi : Hid (∀ g, S g ∨ A' g ∨ S' g → g ≠ b) := fun g hg e => hd g (by rcases hg with q | q | q; exact .inr (.inr q); exact .inl q; exact .inr (.inl q)) (e ▸ hA)
  clear h hk hp hpo hd hx hkl
  generalize x.hold (.item y wd) = x' at *
  cases hyg : y.gap
  · go_enter Tryz.func242, Tryz.ntmps242
    go_wp2_with (go_at_call 225; refine HB.out.mono ?_; rintro e u ⟨rfl, hu⟩; have hb1 : u.heap[bp]? = _ := (by obtain ⟨_, _, _, _, _, _, hF⟩ := hu; exact hF.keeps hb0 hbA); have c4 := cell_blk hb1 (i := 4) rfl; simp only [partCs, List.getElem_toArray, List.getElem_cons_zero, List.getElem_cons_succ, hyg] at c4; have HU := (show Hid _ from hu); clear hu hb1)
    go_end0
    refine ⟨rfl, ?_⟩
    rw [Bool.or_false]
    exact HU.out
  · go_enter Tryz.func242, Tryz.ntmps242
    go_wp2_with (go_at_call 225; refine HB.out.mono ?_; rintro e u ⟨rfl, hu⟩; have hb1 : u.heap[bp]? = _ := (by obtain ⟨_, _, _, _, _, _, hF⟩ := hu; exact hF.keeps hb0 hbA); have c4 := cell_blk hb1 (i := 4) rfl; simp only [partCs, List.getElem_toArray, List.getElem_cons_zero, List.getElem_cons_succ, hyg] at c4; obtain ⟨v', xs, k1, k2⟩ := hu; have d4 := cell_blk k1 (i := 4) rfl; have f4 := free_blk k1 4; simp only [List.getElem_toArray, List.getElem_cons_zero, List.getElem_cons_succ] at d4; have HU := (show Hid _ from k2); have HK := (show Hid _ from k1); clear hb1 k1 k2)
    go_end0
    refine ⟨rfl, v', xs, ?_, ?_, ?_, HU.out.2.2.1, HU.out.2.2.2.set hA 4 _⟩
    · rw [Bool.or_true]
      exact box_gap HK.out
    · exact row_keeps HU.out.1 (fun g hg => Below.heap_setCell _ _ _ _ (by
        intro e
        have e : g = b := e
        subst e
        obtain ⟨cu, q⟩ := row_block HU.out.1 hg
        rw [HK.out] at q
        cases q))
    · exact KidC.keeps (fun _ q => q) (fun g _ hg => Below.heap_setCell _ _ _ _ (by simpa using HDi.out g hg)) _ _ HU.out.2.1

end Go.Proofs.YtcbojffcnlkejaaGreatDoor

/- Whatever container it is: it takes a part in. -/
namespace Go.Proofs.YtcbojffcnlkejaaGreatDoor
open Go.RowKit
open cur (cell_blk free_blk set_blk blk_below)

def holdF : Part → FuncId
  | .list _ _ => 242
  | _ => 225
theorem mth_hold (c : Part) (hc : c.isC = true) (b : Nat) (w : World) : (method 345 (partP c) (ptrV b) "scriptorium/block.hold").run Tryz.prog w = .ok (holdF c, ptrV b) w := by
  cases c <;> first | (cases hc; done) | kernel_rfl
theorem cf_hold (c : Part) (args : Array Value) (w : World) : (callFunc (holdF c) args).run Tryz.prog w = .ok (.enter (holdF c) args) w := by
  cases c <;> kernel_rfl

/-- What is left of a world when a container has taken a part in. -/
def HeldC (w : World) (A S : Nat → Prop) (b : Nat) (c' : Part) (w' : World) : Prop :=
  ∃ v' xs, w'.heap[b]? = some (.cells (partCs c' v').toArray (partT c') (0, 0)) ∧ w'.ownsRow 0 34 8 v' (toldK c').len xs ∧ KidC w' S (toldK c') xs ∧ (∀ g, v'.ownBlock = some g → A g ∨ w.heap.size ≤ g) ∧ Fr A w w'

theorem bholdC_any {w : World} {A S A' S' : Nat → Prop} {b bp : Nat} {c p : Part} {vp : Value} (hc : c.isC = true) (hl : c.isList = true → p.isItem = true) (h : PartR w A S b c) (hp : PartV w A' S' bp p vp) (hbp : A' bp) (hpo : p.ok 1099511627776) (hco : c.ok 1099511627776) (hd : ∀ g, A' g ∨ S' g ∨ S g → ¬ A g) :
    Calls Tryz.prog (holdF c) #[ptrV b, partI p bp] w fun e w' => e = .returned (.tuple #[]) ∧ HeldC w A (fun g => S g ∨ A' g ∨ S' g) b (c.hold p) w' := by
  obtain ⟨hA, v, h1, h2⟩ := h
  cases c with
  | doc x => exact bhold_part (t := 52) (ex := []) h1 h2 hA (by decide) hp hbp hpo hd hco.2.1 hco.2.2.2.1
  | quote x => exact bhold_part (t := 124) (ex := []) h1 h2 hA (by decide) hp hbp hpo hd hco.2.1 hco.2.2.2.1
  | item x n => exact bhold_part (t := 145) (ex := [.int .i64 (n : Int)]) h1 h2 hA (by decide) hp hbp hpo hd hco.2.1 hco.2.2.2.1
  | list x m =>
    cases p with
    | item y wd => exact blhold_part (ex := [.int .u8 (m.sign.toNat : Int), .int .i64 (m.size : Int), .int .i64 (m.number : Int), .bool m.parts]) h1 h2 hA hp hbp hpo hd hco.2.1 hco.2.2.2.1
    | _ => exact absurd (hl rfl) (by simp [Part.isItem])
  | _ => cases hc

end Go.Proofs.YtcbojffcnlkejaaGreatDoor
