/- Several texts in one. -/
import Derived.Test.YtjdijlaoeoikhaaGreatDoorIDelOf
import Derived.Test.YtjdijlaoeoikhaaGreatDoorG24
import Derived.Test.YtjdijlaoeoikhaaGreatDoorQKDest
import Derived.Test.YtjdijlaoeoikhaaGreatDoorG18
set_option linter.unusedVariables false
/- Package inline: fit, gap, gapAndTitle; walked. -/
namespace Go.Proofs.YtjdijlaoeoikhaaGreatDoor
open Go.RowKit

set_option maxHeartbeats 2000000 in
set_option maxRecDepth 20000 in
theorem ifit_any (o c : Dl) (ho : o.number ≤ 140737488351232) (hc : c.number ≤ 140737488351232) (w : World) :
    Calls Tryz.prog 64 #[.agg (dlCells o).toArray, .agg (dlCells c).toArray] w fun e w' => e = .returned (.bool (fitI o c)) ∧ Below w.heap.size w w' := by
  obtain ⟨s1, n1, p1, q1⟩ := o
  obtain ⟨s2, n2, p2, q2⟩ := c
  simp only at ho hc
  have hv : fitI ⟨s1, n1, p1, q1⟩ ⟨s2, n2, p2, q2⟩ = ((s1 == s2) && ((!q1 && !p2) || (n1 + n2) % 3 != 0 || n2 % 3 == 0)) := rfl
  rw [hv]
  clear hv
  unfold dlCells
  simp only
  obtain ⟨a, ha⟩ : ∃ a : Nat, a = (n1 + n2) % 3 := ⟨_, rfl⟩
  obtain ⟨b, hb⟩ : ∃ b : Nat, b = n2 % 3 := ⟨_, rfl⟩
  have t1 : ((n1 : Int) + (n2 : Int)).tmod 3 = (a : Int) := by rw [Int.tmod_eq_emod_of_nonneg (by omega)]; omega
  have t2 : (n2 : Int).tmod 3 = (b : Int) := by rw [Int.tmod_eq_emod_of_nonneg (by omega)]; omega
  rw [← ha, ← hb]
  have hn1 : (n1 : Int) ≤ 140737488351232 := by omega
  have hn2 : (n2 : Int) ≤ 140737488351232 := by omega
  clear ha hb ho hc
  by_cases hs : s1 = s2
  · subst hs
    have he : (s1 == s1) = true := by simp
    rw [he, Bool.true_and]
    clear he
    cases q1 <;> cases p2 <;> rcases Nat.eq_zero_or_pos a with h1 | h1 <;> rcases Nat.eq_zero_or_pos b with h2 | h2
    all_goals
      first | subst h1 | (have g1 : ¬ (a : Int) = 0 := by omega
                          have g1' : (a != 0) = true := by simp; omega
                          rw [g1'])
      first | subst h2 | (have g2 : ¬ (b : Int) = 0 := by omega
                          have g2b : ((b : Int) == 0) = false := by simpa using g2
                          have g2' : (b == 0) = false := by simp; omega
                          rw [g2'])
      go_enter Tryz.func64, Tryz.ntmps64
      go_wp2
      go_ret
      exact ⟨rfl, by first | exact Below.refl _ _ | exact (Below.refl _ _).alloc (Nat.le_refl _) _ | exact ((Below.refl _ _).alloc (Nat.le_refl _) _).alloc (by simp) _⟩
  · have hne : ¬ (s1.toNat : Int) = (s2.toNat : Int) := fun e => hs (UInt8.toNat_inj.1 (by omega))
    have he : (s1 == s2) = false := by simpa using hs
    rw [he, Bool.false_and]
    go_enter Tryz.func64, Tryz.ntmps64
    go_wp2
    go_ret
    exact ⟨rfl, by first | exact Below.refl _ _ | exact (Below.refl _ _).alloc (Nat.le_refl _) _ | exact ((Below.refl _ _).alloc (Nat.le_refl _) _).alloc (by simp) _⟩

end Go.Proofs.YtjdijlaoeoikhaaGreatDoor

/- Package inline: gap, gapAndTitle; walked. -/
namespace Go.Proofs.YtjdijlaoeoikhaaGreatDoor
open Go.RowKit

theorem has_one (l : Str8) (b : UInt8) : Lib.hasPrefix l [b] = (l.head? == some b) := by
  cases l with
  | nil => rfl
  | cons a t =>
    rw [Bool.eq_iff_iff]
    simp [Lib.hasPrefix]
    exact eq_comm
theorem ihas_any (l : Str8) (b : UInt8) (w : World) : Calls Tryz.prog 28 #[strI l, .string ⟨#[b]⟩] w fun e w' => e = .returned (.bool (l.head? == some b)) ∧ w' = w := by
  have := Tryz.strings_HasPrefix ⟨l.toArray⟩ ⟨#[b]⟩ w
  rw [list_data] at this
  have e : Lib.hasPrefix l (ByteArray.mk #[b]).data.toList = (l.head? == some b) := has_one l b
  rw [e] at this
  exact this
theorem from_is (l : Str8) (k : Nat) (hk : k ≤ l.length) (hl : l.length ≤ 140737488351232) : ∀ w', (Instr.slice 9 (.string ⟨l.toArray⟩) (some (.int .i64 (k : Int))) none none).run Tryz.prog w' = .ok (.string ⟨(l.drop k).toArray⟩) w' := fun w' => by
  have x2 : (ByteArray.mk l.toArray).extract k (ByteArray.mk l.toArray).size = ⟨(l.drop k).toArray⟩ := by
    rw [extract_eq, list_data, size_list, List.take_of_length_le (by rw [List.length_drop]; omega)]
  rw [run_slice_string_from_if w' 9 _ .i64 (k : Int) Tryz.underlying9, if_pos (by rw [size_list]; omega), Int.toNat_natCast, x2]
theorem rowI_le (p : UInt8 → Bool) (l : Str8) : rowI p l ≤ l.length := (List.takeWhile_prefix (p := p) (l := l)).length_le
abbrev blkB (b : UInt8) : Bool := b == 32 || b == 9
theorem blk_is : (fun b => ([32, 9] : Str8).contains b) = blkB := by
  funext b
  rw [List.contains_cons, List.contains_cons]
  simp [blkB]

set_option maxHeartbeats 2000000 in
set_option maxRecDepth 20000 in
theorem igap_any (l : Str8) (hl : l.length ≤ 140737488351232) (w : World) :
    Calls Tryz.prog 97 #[strI l] w fun e w' => e = .returned (.int .i64 (gapI l : Int)) ∧ Below w.heap.size w w' := by
  have HR : Hid (∀ (t : Str8) w, t.length ≤ l.length → Calls Tryz.prog 31 #[strI t, strI [32, 9]] w fun e w' => e = .returned (.int .i64 (rowI blkB t : Int)) ∧ Below w.heap.size w w') := fun t w ht => irow_any t (by omega) [32, 9] (by decide) (by decide) blkB blk_is w
  obtain ⟨k, hk⟩ : ∃ k, k = rowI blkB l := ⟨_, rfl⟩
  have hkl : k ≤ l.length := by rw [hk]; exact rowI_le _ _
  have hv : gapI l = if (l.drop k).head? = some 10 then k + 1 + rowI blkB (l.drop (k + 1)) else k := by rw [hk]; rfl
  have HR1 : Hid (∀ w, Calls Tryz.prog 31 #[.string ⟨l.toArray⟩, .string ⟨#[32, 9]⟩] w fun e w' => e = .returned (.int .i64 (k : Int)) ∧ Below w.heap.size w w') := fun w => by rw [hk]; exact HR.out l w (Nat.le_refl _)
  have HH : Hid (∀ w, Calls Tryz.prog 28 #[.string ⟨(l.drop k).toArray⟩, .string ⟨#[10]⟩] w fun e w' => e = .returned (.bool ((l.drop k).head? == some 10)) ∧ w' = w) := fun w => ihas_any (l.drop k) 10 w
  have o1 := from_is l k hkl hl
  have hki : (k : Int) ≤ (l.length : Int) := by omega
  have hli : (l.length : Int) ≤ 140737488351232 := by omega
  by_cases h10 : (l.drop k).head? = some 10
  · rw [if_pos h10] at hv
    have hb : ((l.drop k).head? == some 10) = true := by rw [h10]; rfl
    rw [hb] at HH
    have hk1 : k + 1 ≤ l.length := by
      rcases Nat.lt_or_ge k l.length with h | h
      · exact h
      · rw [List.drop_of_length_le h] at h10; cases h10
    have o2 := from_is l (k + 1) hk1 hl
    have HR2 : Hid (∀ w, Calls Tryz.prog 31 #[.string ⟨(l.drop (k + 1)).toArray⟩, .string ⟨#[32, 9]⟩] w fun e w' => e = .returned (.int .i64 (rowI blkB (l.drop (k + 1)) : Int)) ∧ Below w.heap.size w w') := fun w => HR.out (l.drop (k + 1)) w (by rw [List.length_drop]; omega)
    have hr2 := rowI_le blkB (l.drop (k + 1))
    rw [List.length_drop] at hr2
    generalize rowI blkB (l.drop (k + 1)) = m at *
    rw [hv]
    have hc1 : ((k + 1 : Nat) : Int) = (k : Int) + 1 := by omega
    rw [hc1] at o2
    have hmi : (k : Int) + 1 + (m : Int) ≤ (l.length : Int) := by omega
    generalize l.drop (k + 1) = T2 at *
    generalize l.drop k = T1 at *
    clear hk hv hb h10 HR hkl hk1 hr2
    go_enter Tryz.func97, Tryz.ntmps97
    go_wp2_with (first
      | (go_at_call_of 31 (strI l); refine Calls.mono (HR1.out _) ?_; rintro e w1 ⟨rfl, hb1⟩; have HB1 := (show Hid _ from hb1); clear hb1)
      | (go_at_call 31; refine Calls.mono (HR2.out _) ?_; rintro e w2 ⟨rfl, hb2⟩; have HB2 : Hid (Below w.heap.size w w2) := HB1.out.trans (hb2.mono HB1.out.size); clear hb2)
      | (go_at_call 28; refine (HH.out _).mono ?_; rintro e w3 ⟨rfl, hw⟩; subst w3))
    go_ret
    exact ⟨ret_int (by omega), HB2.out⟩
  · rw [if_neg h10] at hv
    have hb : ((l.drop k).head? == some 10) = false := by simpa using h10
    rw [hb] at HH
    rw [hv]
    generalize l.drop k = T1 at *
    clear hk hv hb h10 HR hkl
    go_enter Tryz.func97, Tryz.ntmps97
    go_wp2_with (first
      | (go_at_call 31; refine Calls.mono (HR1.out _) ?_; rintro e w1 ⟨rfl, hb1⟩; have HB1 := (show Hid _ from hb1); clear hb1)
      | (go_at_call 28; refine (HH.out _).mono ?_; rintro e w3 ⟨rfl, hw⟩; subst w3))
    go_ret
    exact ⟨rfl, HB1.out⟩

end Go.Proofs.YtjdijlaoeoikhaaGreatDoor

/- Package inline: gapAndTitle; walked. -/
namespace Go.Proofs.YtjdijlaoeoikhaaGreatDoor
open Go.RowKit

theorem gapI_le (l : Str8) : gapI l ≤ l.length := by
  unfold gapI
  simp only
  split
  · rename_i h
    have h1 := rowI_le (fun b => b == 32 || b == 9) (l.drop (rowI (fun b => b == 32 || b == 9) l + 1))
    rw [List.length_drop] at h1
    have h2 : rowI (fun b => b == 32 || b == 9) l < l.length := by
      rcases Nat.lt_or_ge (rowI (fun b => b == 32 || b == 9) l) l.length with q | q
      · exact q
      · rw [List.drop_of_length_le q] at h; cases h
    omega
  · exact rowI_le _ _

set_option maxHeartbeats 2000000 in
set_option maxRecDepth 20000 in
theorem igt_any (l : Str8) (hl : l.length ≤ 140737488351232) (w : World) :
    Calls Tryz.prog 99 #[strI l] w fun e w' => e = .returned (.tuple #[.string ⟨(gapTitle l).1.toArray⟩, .int .i64 ((gapTitle l).2 : Int)]) ∧ Below w.heap.size w w' := by
  have HG : Hid (∀ w, Calls Tryz.prog 97 #[strI l] w fun e w' => e = .returned (.int .i64 (gapI l : Int)) ∧ Below w.heap.size w w') := fun w => igap_any l hl w
  have hgl := gapI_le l
  have o1 := from_is l (gapI l) hgl hl
  have hzl : (lnk.pairL (lnk.titleL (l.drop (gapI l)))).2 ≤ 140737488351232 := by
    cases ht : lnk.titleL (l.drop (gapI l)) with
    | none => exact Nat.zero_le _
    | some q =>
      obtain ⟨a, b⟩ := q
      have := (lnk.title_pos ht).2
      rw [List.length_drop] at this
      show b ≤ _
      omega
  obtain ⟨v, z, hvz, hz47, HT⟩ : ∃ (v : Str8) (z : Nat), lnk.pairL (lnk.titleL (l.drop (gapI l))) = (v, z) ∧ z ≤ 140737488351232 ∧ Hid (∀ w, Calls Tryz.prog 131 #[.string ⟨(l.drop (gapI l)).toArray⟩] w fun e w' => e = .returned (.tuple #[.string ⟨v.toArray⟩, .int .i64 (z : Int)]) ∧ Below w.heap.size w w') :=
    ⟨_, _, rfl, hzl, fun w => lnk.ktitle_at ⟨(l.drop (gapI l)).toArray⟩ (by rw [size_list, List.length_drop]; omega) _ _ hzl (show lnk.pairL (lnk.titleL (ByteArray.mk (l.drop (gapI l)).toArray).data.toList) = _ from by rw [list_data]; rfl) w⟩
  have hv : gapTitle l = if gapI l = 0 ∨ z = 0 then ([], 0) else (v, gapI l + z) := by
    unfold gapTitle
    cases ht : lnk.titleL (l.drop (gapI l)) with
    | none =>
      rw [ht] at hvz
      have hz : z = 0 := (congrArg Prod.snd hvz).symm
      rw [if_pos (.inr hz)]
    | some q =>
      rw [ht] at hvz
      obtain ⟨a, b⟩ := q
      have h1 : a = v := congrArg Prod.fst hvz
      have h2 : b = z := congrArg Prod.snd hvz
      subst h1
      subst h2
      rfl
  rw [hv]
  clear hv hvz hzl
  have hgi : (gapI l : Int) ≤ (l.length : Int) := by omega
  have hli : (l.length : Int) ≤ 140737488351232 := by omega
  have hzi : (z : Int) ≤ 140737488351232 := by omega
  rcases Nat.eq_zero_or_pos (gapI l) with h1 | h1
  · rw [if_pos (.inl h1)]
    rw [h1, List.drop_zero] at HT
    have HG0 : Hid (∀ w, Calls Tryz.prog 97 #[strI l] w fun e w' => e = .returned (.int .i64 0) ∧ Below w.heap.size w w') := fun w => by have := HG.out w; rw [h1] at this; exact this
    have o0 : ∀ w', (Instr.slice 9 (.string ⟨l.toArray⟩) (some (.int .i64 0)) none none).run Tryz.prog w' = .ok (.string ⟨l.toArray⟩) w' := fun w' => by have := from_is l 0 (Nat.zero_le _) hl w'; exact this
    clear o1 hgi h1 hgl HG
    go_enter Tryz.func99, Tryz.ntmps99
    go_wp2_with (first
      | (go_at_call 97; refine Calls.mono (HG0.out _) ?_; rintro e w1 ⟨rfl, hb1⟩; have HB1 := (show Hid _ from hb1); clear hb1)
      | (go_at_call 131; refine Calls.mono (HT.out _) ?_; rintro e w2 ⟨rfl, hb2⟩; have HB2 : Hid (Below w.heap.size w w2) := HB1.out.trans (hb2.mono HB1.out.size); clear hb2))
    go_ret2
    exact ⟨rfl, HB2.out⟩
  · generalize l.drop (gapI l) = T at *
    generalize gapI l = g at *
    have g1 : ¬ (g : Int) = 0 := by omega
    have g1b : ((g : Int) == 0) = false := by simpa using g1
    rcases Nat.eq_zero_or_pos z with h2 | h2
    · subst h2
      rw [if_pos (.inr rfl)]
      go_enter Tryz.func99, Tryz.ntmps99
      go_wp2_with (first
        | (go_at_call 97; refine Calls.mono (HG.out _) ?_; rintro e w1 ⟨rfl, hb1⟩; have HB1 := (show Hid _ from hb1); clear hb1)
        | (go_at_call 131; refine Calls.mono (HT.out _) ?_; rintro e w2 ⟨rfl, hb2⟩; have HB2 : Hid (Below w.heap.size w w2) := HB1.out.trans (hb2.mono HB1.out.size); clear hb2))
      go_ret2
      exact ⟨rfl, HB2.out⟩
    · have g2 : ¬ (z : Int) = 0 := by omega
      have g2b : ((z : Int) == 0) = false := by simpa using g2
      rw [if_neg (by omega)]
      have hs : ((g + z : Nat) : Int) = (g : Int) + (z : Int) := by omega
      rw [hs]
      go_enter Tryz.func99, Tryz.ntmps99
      go_wp2_with (first
        | (go_at_call 97; refine Calls.mono (HG.out _) ?_; rintro e w1 ⟨rfl, hb1⟩; have HB1 := (show Hid _ from hb1); clear hb1)
        | (go_at_call 131; refine Calls.mono (HT.out _) ?_; rintro e w2 ⟨rfl, hb2⟩; have HB2 : Hid (Below w.heap.size w w2) := HB1.out.trans (hb2.mono HB1.out.size); clear hb2))
      go_ret2
      exact ⟨rfl, HB2.out⟩

end Go.Proofs.YtjdijlaoeoikhaaGreatDoor

/- Package inline: inPlace; walked. -/
namespace Go.Proofs.YtjdijlaoeoikhaaGreatDoor
open Go.RowKit

/-- A block of three cells, each of which may be written. -/
def Blk3 (w : World) (b : Nat) (t : TypeId) (x y z : Value) : Prop := w.heap[b]? = some (.cells #[x, y, z] t (0, 0))
theorem Blk3.below {w w' : World} {b : Nat} {t : TypeId} {x y z : Value} (h : Blk3 w b t x y z) (hb : Below w.heap.size w w') : Blk3 w' b t x y z := blk.blk_below h hb
theorem Blk3.new (w : World) (t : TypeId) (x y z : Value) : Blk3 (w.alloc (.cells #[x, y, z] t)) w.heap.size t x y z := by
  show (w.heap.push _)[w.heap.size]? = _
  exact Array.getElem?_push_size
theorem Blk3.c {w : World} {b : Nat} {t : TypeId} {x y z : Value} (h : Blk3 w b t x y z) : w.cell? ⟨b, 0, none⟩ = some x ∧ w.cell? ⟨b, 1, none⟩ = some y ∧ w.cell? ⟨b, 2, none⟩ = some z := ⟨blk.cell_blk h rfl, blk.cell_blk h rfl, blk.cell_blk h rfl⟩
theorem Blk3.s {w : World} {b : Nat} {t : TypeId} {x y z : Value} (h : Blk3 w b t x y z) (x' y' z' : Value) : Blk3 (((w.setCell ⟨b, 0, none⟩ x').setCell ⟨b, 1, none⟩ y').setCell ⟨b, 2, none⟩ z') b t x' y' z' := blk.set_blk (blk.set_blk (blk.set_blk h 0 x') 1 y') 2 z'
theorem Blk3.f {w : World} {b : Nat} {t : TypeId} {x y z : Value} (h : Blk3 w b t x y z) (i : Nat) : w.frozen? ⟨b, i, none⟩ = false := blk.free_blk h i

abbrev dfV (p : (Str8 × Str8) × Nat) : Value := .tuple #[.agg #[.string ⟨#[]⟩, .string ⟨p.1.1.toArray⟩, .string ⟨p.1.2.toArray⟩], .int .i64 (p.2 : Int)]
def placeV (o : Option ((Str8 × Str8) × Nat)) : (Str8 × Str8) × Nat := o.getD (([], []), 0)

set_option maxHeartbeats 2000000 in
set_option maxRecDepth 20000 in
theorem iplace_no (l : Str8) (h : (l.head? == some 40) = false) (w : World) :
    Calls Tryz.prog 61 #[strI l] w fun e w' => e = .returned (dfV (([], []), 0)) ∧ Below w.heap.size w w' := by
  have HH : Hid (∀ w, Calls Tryz.prog 28 #[strI l, .string ⟨#[40]⟩] w fun e w' => e = .returned (.bool false) ∧ w' = w) := fun w => by have := ihas_any l 40 w; rw [h] at this; exact this
  have hB := Blk3.new w 35 (.string ⟨#[]⟩) (.string ⟨#[]⟩) (.string ⟨#[]⟩)
  have f0 := hB.f 0
  have f1 := hB.f 1
  have f2 := hB.f 2
  have c0 := hB.c.1
  have c1 := hB.c.2.1
  have c2 := hB.c.2.2
  go_enter Tryz.func61, Tryz.ntmps61
  go_wp2_with (go_at_call 28; refine Calls.mono (HH.out _) ?_; rintro e w1 ⟨rfl, hw⟩; subst w1)
  (try simp only [Exit.inBlock, Exit.then])
  have d0 := (hB.s (.string ⟨#[]⟩) (.string ⟨#[]⟩) (.string ⟨#[]⟩)).c.1
  have d1 := (hB.s (.string ⟨#[]⟩) (.string ⟨#[]⟩) (.string ⟨#[]⟩)).c.2.1
  have d2 := (hB.s (.string ⟨#[]⟩) (.string ⟨#[]⟩) (.string ⟨#[]⟩)).c.2.2
  refine bodyPost_ret (v := dfV (([], []), 0)) ?_ rfl ⟨rfl, ?_⟩
  · rw [results_cell_tmp rfl]
    go_simp
  · exact (Below.refl _ _).alloc (Nat.le_refl _) _

/-- A call that keeps all below the world it begins with. -/
def Kept (f : FuncId) (xs : Array Value) (v : Value) : Prop := ∀ w, Calls Tryz.prog f xs w fun e w' => e = .returned v ∧ Below w.heap.size w w'
def KeptI (W : World) (f : FuncId) (xs : Array Value) (v : Value) : Prop := ∀ u : BwI W, Calls Tryz.prog f xs u.wo fun e w' => e = .returned v ∧ ∃ u' : BwI W, w' = u'.wo
theorem Kept.at {f : FuncId} {xs : Array Value} {v : Value} (h : Kept f xs v) (W : World) : KeptI W f xs v := fun u => (h u.wo).mono fun e w' q => ⟨q.1, BwI.of (u.is.trans (q.2.mono u.is.size)), rfl⟩

set_option maxHeartbeats 1000000 in
set_option maxRecDepth 20000 in
theorem iplace_walk (l T1 T2 T3 T4 T5 D V : Str8) (g z y k : Nat) (w : World)
    (hg : 1 + g ≤ 140737488351232) (hz : 1 + g + z ≤ 140737488351232) (hy : 1 + g + z + y ≤ 140737488351232) (hk : 1 + g + z + y + k ≤ 140737488351232)
    (h1 : (l.head? == some 40) = true)
    (o1 : ∀ w', (Instr.slice 9 (.string ⟨l.toArray⟩) (some (.int .i64 1)) none none).run Tryz.prog w' = .ok (.string ⟨T1.toArray⟩) w')
    (o2 : ∀ w', (Instr.slice 9 (.string ⟨l.toArray⟩) (some (.int .i64 (1 + (g : Int)))) none none).run Tryz.prog w' = .ok (.string ⟨T2.toArray⟩) w')
    (o3 : ∀ w', (Instr.slice 9 (.string ⟨l.toArray⟩) (some (.int .i64 (1 + (g : Int) + (z : Int)))) none none).run Tryz.prog w' = .ok (.string ⟨T3.toArray⟩) w')
    (o4 : ∀ w', (Instr.slice 9 (.string ⟨l.toArray⟩) (some (.int .i64 (1 + (g : Int) + (z : Int) + (y : Int)))) none none).run Tryz.prog w' = .ok (.string ⟨T4.toArray⟩) w')
    (o5 : ∀ w', (Instr.slice 9 (.string ⟨l.toArray⟩) (some (.int .i64 (1 + (g : Int) + (z : Int) + (y : Int) + (k : Int)))) none none).run Tryz.prog w' = .ok (.string ⟨T5.toArray⟩) w')
    (G1 : Kept 97 #[strI T1] (.int .i64 (g : Int)))
    (K2 : Kept 98 #[strI T2] (.tuple #[.string ⟨D.toArray⟩, .int .i64 (z : Int)]))
    (K3 : Kept 99 #[strI T3] (.tuple #[.string ⟨V.toArray⟩, .int .i64 (y : Int)]))
    (G4 : Kept 97 #[strI T4] (.int .i64 (k : Int)))
    (hz0 : 0 < z) :
    Calls Tryz.prog 61 #[strI l] w fun e w' => e = .returned (dfV (if (T5.head? == some 41) = true then ((D, V), 1 + g + z + y + k + 1) else (([], []), 0))) ∧ Below w.heap.size w w' := by
  have HH : Hid (∀ w, Calls Tryz.prog 28 #[strI l, .string ⟨#[40]⟩] w fun e w' => e = .returned (.bool true) ∧ w' = w) := fun w => by have := ihas_any l 40 w; rw [h1] at this; exact this
  obtain ⟨q, hq⟩ : ∃ q, q = (T5.head? == some 41) := ⟨_, rfl⟩
  have HE : Hid (∀ w, Calls Tryz.prog 28 #[strI T5, .string ⟨#[41]⟩] w fun e w' => e = .returned (.bool q) ∧ w' = w) := fun w => by have := ihas_any T5 41 w; rw [← hq] at this; exact this
  rw [← hq]
  clear hq h1
  obtain ⟨W1, hW1⟩ : ∃ W1, W1 = w.alloc (.cells #[.string ⟨#[]⟩, .string ⟨#[]⟩, .string ⟨#[]⟩] 35) := ⟨_, rfl⟩
  have HB1 : Hid (Below w.heap.size w W1) := by show Below _ _ _; rw [hW1]; exact (Below.refl _ _).alloc (Nat.le_refl _) _
  have hB0 := Blk3.new w 35 (.string ⟨#[]⟩) (.string ⟨#[]⟩) (.string ⟨#[]⟩)
  rw [← hW1] at hB0
  have HBu : Hid (∀ u : BwI W1, Blk3 u.wo w.heap.size 35 (.string ⟨#[]⟩) (.string ⟨#[]⟩) (.string ⟨#[]⟩)) := fun u => hB0.below u.is
  have f0 := fun u => (HBu.out u).f 0
  have f1 := fun u => (HBu.out u).f 1
  have f2 := fun u => (HBu.out u).f 2
  have c0 := fun u => (HBu.out u).c.1
  have c1 := fun u => (HBu.out u).c.2.1
  have c2 := fun u => (HBu.out u).c.2.2
  have QG1 : Hid (KeptI W1 97 #[strI T1] (.int .i64 (g : Int))) := G1.at W1
  have QK2 : Hid (KeptI W1 98 #[strI T2] (.tuple #[.string ⟨D.toArray⟩, .int .i64 (z : Int)])) := K2.at W1
  have QK3 : Hid (KeptI W1 99 #[strI T3] (.tuple #[.string ⟨V.toArray⟩, .int .i64 (y : Int)])) := K3.at W1
  have QG4 : Hid (KeptI W1 97 #[strI T4] (.int .i64 (k : Int))) := G4.at W1
  obtain ⟨u0, hu0⟩ : ∃ u : BwI W1, w.alloc (.cells #[.string ⟨#[]⟩, .string ⟨#[]⟩, .string ⟨#[]⟩] 35) = u.wo := ⟨BwI.of (Below.refl _ _), hW1.symm⟩
  have HU : Hid (∀ u : BwI W1, Below w.heap.size w u.wo) := fun u => HB1.out.trans (u.is.mono HB1.out.size)
  clear G1 K2 K3 G4 hB0 HB1
  have hs : ((1 + g + z + y + k + 1 : Nat) : Int) = 1 + (g : Int) + (z : Int) + (y : Int) + (k : Int) + 1 := by omega
  have hzp : (z : Int) > 0 := by omega
  cases q
  · rw [if_neg (by decide)]
    go_enter Tryz.func61, Tryz.ntmps61
    go_wp2_with (first
      | (go_at_call 28; first
          | (have := u4; refine Calls.mono (HE.out _) ?_; rintro e w1 ⟨rfl, hw⟩; subst w1; clear this)
          | (refine Calls.mono (HH.out _) ?_; rintro e w1 ⟨rfl, hw⟩; subst w1))
      | (go_at_call 97; first
          | (have := u2; refine Calls.mono (QG4.out _) ?_; rintro e w1 ⟨rfl, u4, hw⟩; subst w1; clear this)
          | (refine Calls.mono (QG1.out _) ?_; rintro e w1 ⟨rfl, u1, hw⟩; subst w1))
      | (go_at_call 98; refine Calls.mono (QK2.out _) ?_; rintro e w1 ⟨rfl, u2, hw⟩; subst w1)
      | (go_at_call 99; refine Calls.mono (QK3.out _) ?_; rintro e w1 ⟨rfl, u3, hw⟩; subst w1))
    (try simp only [Exit.inBlock, Exit.then])
    have hB3 := (HBu.out u4).s (.string ⟨#[]⟩) (.string ⟨#[]⟩) (.string ⟨#[]⟩)
    have d0 := hB3.c.1
    have d1 := hB3.c.2.1
    have d2 := hB3.c.2.2
    refine bodyPost_ret (v := .tuple #[.agg #[.string ⟨#[]⟩, .string ⟨#[]⟩, .string ⟨#[]⟩], .int .i64 0]) ?_ rfl ⟨?_, ?_⟩
    · rw [results_cell_tmp rfl]
      go_simp
    · first | rfl | (show _ = Ending.returned (dfV ((_, _), _)); unfold dfV; simp only; rw [hs])
    · exact blk.below_set (blk.below_set (blk.below_set (HU.out u4) (Nat.le_refl _)) (Nat.le_refl _)) (Nat.le_refl _)
  · rw [if_pos rfl]
    go_enter Tryz.func61, Tryz.ntmps61
    go_wp2_with (first
      | (go_at_call 28; first
          | (have := u4; refine Calls.mono (HE.out _) ?_; rintro e w1 ⟨rfl, hw⟩; subst w1; clear this)
          | (refine Calls.mono (HH.out _) ?_; rintro e w1 ⟨rfl, hw⟩; subst w1))
      | (go_at_call 97; first
          | (have := u2; refine Calls.mono (QG4.out _) ?_; rintro e w1 ⟨rfl, u4, hw⟩; subst w1; clear this)
          | (refine Calls.mono (QG1.out _) ?_; rintro e w1 ⟨rfl, u1, hw⟩; subst w1))
      | (go_at_call 98; refine Calls.mono (QK2.out _) ?_; rintro e w1 ⟨rfl, u2, hw⟩; subst w1)
      | (go_at_call 99; refine Calls.mono (QK3.out _) ?_; rintro e w1 ⟨rfl, u3, hw⟩; subst w1))
    (try simp only [Exit.inBlock, Exit.then])
    have hB3 := (HBu.out u4).s (.string ⟨#[]⟩) (.string ⟨D.toArray⟩) (.string ⟨V.toArray⟩)
    have d0 := hB3.c.1
    have d1 := hB3.c.2.1
    have d2 := hB3.c.2.2
    refine bodyPost_ret (v := .tuple #[.agg #[.string ⟨#[]⟩, .string ⟨D.toArray⟩, .string ⟨V.toArray⟩], .int .i64 (1 + (g : Int) + (z : Int) + (y : Int) + (k : Int) + 1)]) ?_ rfl ⟨?_, ?_⟩
    · rw [results_cell_tmp rfl]
      go_simp
    · first | rfl | (show _ = Ending.returned (dfV ((_, _), _)); unfold dfV; simp only; rw [hs])
    · exact blk.below_set (blk.below_set (blk.below_set (HU.out u4) (Nat.le_refl _)) (Nat.le_refl _)) (Nat.le_refl _)

set_option maxHeartbeats 1000000 in
set_option maxRecDepth 20000 in
theorem iplace_walk0 (l T1 T2 T5 D : Str8) (g k : Nat) (w : World)
    (hg : 1 + g ≤ 140737488351232) (hk : 1 + g + k ≤ 140737488351232)
    (h1 : (l.head? == some 40) = true)
    (o1 : ∀ w', (Instr.slice 9 (.string ⟨l.toArray⟩) (some (.int .i64 1)) none none).run Tryz.prog w' = .ok (.string ⟨T1.toArray⟩) w')
    (o2 : ∀ w', (Instr.slice 9 (.string ⟨l.toArray⟩) (some (.int .i64 (1 + (g : Int)))) none none).run Tryz.prog w' = .ok (.string ⟨T2.toArray⟩) w')
    (o5 : ∀ w', (Instr.slice 9 (.string ⟨l.toArray⟩) (some (.int .i64 (1 + (g : Int) + (k : Int)))) none none).run Tryz.prog w' = .ok (.string ⟨T5.toArray⟩) w')
    (G1 : Kept 97 #[strI T1] (.int .i64 (g : Int)))
    (K2 : Kept 98 #[strI T2] (.tuple #[.string ⟨D.toArray⟩, .int .i64 0]))
    (G4 : Kept 97 #[strI T2] (.int .i64 (k : Int)))
    :
    Calls Tryz.prog 61 #[strI l] w fun e w' => e = .returned (dfV (if (T5.head? == some 41) = true then ((D, []), 1 + g + k + 1) else (([], []), 0))) ∧ Below w.heap.size w w' := by
  have HH : Hid (∀ w, Calls Tryz.prog 28 #[strI l, .string ⟨#[40]⟩] w fun e w' => e = .returned (.bool true) ∧ w' = w) := fun w => by have := ihas_any l 40 w; rw [h1] at this; exact this
  obtain ⟨q, hq⟩ : ∃ q, q = (T5.head? == some 41) := ⟨_, rfl⟩
  have HE : Hid (∀ w, Calls Tryz.prog 28 #[strI T5, .string ⟨#[41]⟩] w fun e w' => e = .returned (.bool q) ∧ w' = w) := fun w => by have := ihas_any T5 41 w; rw [← hq] at this; exact this
  rw [← hq]
  clear hq h1
  obtain ⟨W1, hW1⟩ : ∃ W1, W1 = w.alloc (.cells #[.string ⟨#[]⟩, .string ⟨#[]⟩, .string ⟨#[]⟩] 35) := ⟨_, rfl⟩
  have HB1 : Hid (Below w.heap.size w W1) := by show Below _ _ _; rw [hW1]; exact (Below.refl _ _).alloc (Nat.le_refl _) _
  have hB0 := Blk3.new w 35 (.string ⟨#[]⟩) (.string ⟨#[]⟩) (.string ⟨#[]⟩)
  rw [← hW1] at hB0
  have HBu : Hid (∀ u : BwI W1, Blk3 u.wo w.heap.size 35 (.string ⟨#[]⟩) (.string ⟨#[]⟩) (.string ⟨#[]⟩)) := fun u => hB0.below u.is
  have f0 := fun u => (HBu.out u).f 0
  have f1 := fun u => (HBu.out u).f 1
  have f2 := fun u => (HBu.out u).f 2
  have c0 := fun u => (HBu.out u).c.1
  have c1 := fun u => (HBu.out u).c.2.1
  have c2 := fun u => (HBu.out u).c.2.2
  have QG1 : Hid (KeptI W1 97 #[strI T1] (.int .i64 (g : Int))) := G1.at W1
  have QK2 : Hid (KeptI W1 98 #[strI T2] (.tuple #[.string ⟨D.toArray⟩, .int .i64 0])) := K2.at W1
  have QG4 : Hid (KeptI W1 97 #[strI T2] (.int .i64 (k : Int))) := G4.at W1
  obtain ⟨u0, hu0⟩ : ∃ u : BwI W1, w.alloc (.cells #[.string ⟨#[]⟩, .string ⟨#[]⟩, .string ⟨#[]⟩] 35) = u.wo := ⟨BwI.of (Below.refl _ _), hW1.symm⟩
  have HU : Hid (∀ u : BwI W1, Below w.heap.size w u.wo) := fun u => HB1.out.trans (u.is.mono HB1.out.size)
  clear G1 K2 G4 hB0 HB1
  have hs : ((1 + g + k + 1 : Nat) : Int) = 1 + (g : Int) + (k : Int) + 1 := by omega
  cases q
  · rw [if_neg (by decide)]
    go_enter Tryz.func61, Tryz.ntmps61
    go_wp2_with (first
      | (go_at_call 28; first
          | (have := u4; refine Calls.mono (HE.out _) ?_; rintro e w1 ⟨rfl, hw⟩; subst w1; clear this)
          | (refine Calls.mono (HH.out _) ?_; rintro e w1 ⟨rfl, hw⟩; subst w1))
      | (go_at_call 97; first
          | (have := u2; refine Calls.mono (QG4.out _) ?_; rintro e w1 ⟨rfl, u4, hw⟩; subst w1; clear this)
          | (refine Calls.mono (QG1.out _) ?_; rintro e w1 ⟨rfl, u1, hw⟩; subst w1))
      | (go_at_call 98; refine Calls.mono (QK2.out _) ?_; rintro e w1 ⟨rfl, u2, hw⟩; subst w1))
    (try simp only [Exit.inBlock, Exit.then])
    have hB3 := (HBu.out u4).s (.string ⟨#[]⟩) (.string ⟨#[]⟩) (.string ⟨#[]⟩)
    have d0 := hB3.c.1
    have d1 := hB3.c.2.1
    have d2 := hB3.c.2.2
    refine bodyPost_ret (v := .tuple #[.agg #[.string ⟨#[]⟩, .string ⟨#[]⟩, .string ⟨#[]⟩], .int .i64 0]) ?_ rfl ⟨?_, ?_⟩
    · rw [results_cell_tmp rfl]
      go_simp
    · first | rfl | (show _ = Ending.returned (dfV ((_, _), _)); unfold dfV; simp only; rw [hs])
    · exact blk.below_set (blk.below_set (blk.below_set (HU.out u4) (Nat.le_refl _)) (Nat.le_refl _)) (Nat.le_refl _)
  · rw [if_pos rfl]
    go_enter Tryz.func61, Tryz.ntmps61
    go_wp2_with (first
      | (go_at_call 28; first
          | (have := u4; refine Calls.mono (HE.out _) ?_; rintro e w1 ⟨rfl, hw⟩; subst w1; clear this)
          | (refine Calls.mono (HH.out _) ?_; rintro e w1 ⟨rfl, hw⟩; subst w1))
      | (go_at_call 97; first
          | (have := u2; refine Calls.mono (QG4.out _) ?_; rintro e w1 ⟨rfl, u4, hw⟩; subst w1; clear this)
          | (refine Calls.mono (QG1.out _) ?_; rintro e w1 ⟨rfl, u1, hw⟩; subst w1))
      | (go_at_call 98; refine Calls.mono (QK2.out _) ?_; rintro e w1 ⟨rfl, u2, hw⟩; subst w1))
    (try simp only [Exit.inBlock, Exit.then])
    have hB3 := (HBu.out u4).s (.string ⟨#[]⟩) (.string ⟨D.toArray⟩) (.string ⟨#[]⟩)
    have d0 := hB3.c.1
    have d1 := hB3.c.2.1
    have d2 := hB3.c.2.2
    refine bodyPost_ret (v := .tuple #[.agg #[.string ⟨#[]⟩, .string ⟨D.toArray⟩, .string ⟨#[]⟩], .int .i64 (1 + (g : Int) + (k : Int) + 1)]) ?_ rfl ⟨?_, ?_⟩
    · rw [results_cell_tmp rfl]
      go_simp
    · first | rfl | (show _ = Ending.returned (dfV ((_, _), _)); unfold dfV; simp only; rw [hs])
    · exact blk.below_set (blk.below_set (blk.below_set (HU.out u4) (Nat.le_refl _)) (Nat.le_refl _)) (Nat.le_refl _)

end Go.Proofs.YtjdijlaoeoikhaaGreatDoor

/- Package inline: inPlace; its contract. -/
namespace Go.Proofs.YtjdijlaoeoikhaaGreatDoor
open Go.RowKit

theorem gapTitle_le (l : Str8) : (gapTitle l).2 ≤ l.length := by
  unfold gapTitle
  cases ht : lnk.titleL (l.drop (gapI l)) with
  | none => exact Nat.zero_le _
  | some q =>
    obtain ⟨a, b⟩ := q
    have h1 := (lnk.title_pos ht).2
    have h2 := gapI_le l
    rw [List.length_drop] at h1
    show (if gapI l = 0 ∨ b = 0 then (([], 0) : Str8 × Nat) else (a, gapI l + b)).2 ≤ _
    split
    · exact Nat.zero_le _
    · show gapI l + b ≤ _
      omega

theorem iplace_any (l : Str8) (hl : l.length ≤ 140737488351000) (w : World) :
    Calls Tryz.prog 61 #[strI l] w fun e w' => e = .returned (dfV (placeV (inPlace l))) ∧ Below w.heap.size w w' := by
  by_cases h40 : ∃ t, l = 40 :: t
  · obtain ⟨t, rfl⟩ := h40
    have hh : ((40 :: t : Str8).head? == some 40) = true := rfl
    obtain ⟨g, hg⟩ : ∃ g, g = gapI t := ⟨_, rfl⟩
    have hgl := gapI_le t
    rw [← hg] at hgl
    have hlen : (40 :: t : Str8).length = t.length + 1 := rfl
    obtain ⟨D, z, hd, hzl⟩ : ∃ (D : Str8) (z : Nat), lnk.pairL (lnk.destL ((40 :: t : Str8).drop (1 + g))) = (D, z) ∧ z ≤ ((40 :: t : Str8).drop (1 + g)).length := by
      cases hq : lnk.destL ((40 :: t : Str8).drop (1 + g)) with
      | none => exact ⟨[], 0, rfl, Nat.zero_le _⟩
      | some q =>
        obtain ⟨a, b⟩ := q
        exact ⟨a, b, rfl, (lnk.dest_pos hq).2⟩
    have hdd : (lnk.destL ((40 :: t : Str8).drop (1 + g))).getD ([], 0) = (D, z) := by
      rw [← hd]
      cases lnk.destL ((40 :: t : Str8).drop (1 + g)) <;> rfl
    rw [List.length_drop] at hzl
    have G1 : Kept 97 #[strI t] (.int .i64 (g : Int)) := fun w => by rw [hg]; exact igap_any t (by omega) w
    have K2 : Kept 98 #[strI ((40 :: t : Str8).drop (1 + g))] (.tuple #[.string ⟨D.toArray⟩, .int .i64 (z : Int)]) := fun w =>
      lnk.kdest_at ⟨((40 :: t : Str8).drop (1 + g)).toArray⟩ (by rw [size_list, List.length_drop]; omega) D z (by omega) (show lnk.pairL (lnk.destL (ByteArray.mk ((40 :: t : Str8).drop (1 + g)).toArray).data.toList) = _ from by rw [list_data]; exact hd) w
    have o1 := from_is (40 :: t) 1 (by omega) (by omega)
    have o2 := from_is (40 :: t) (1 + g) (by omega) (by omega)
    have e2 : ((1 + g : Nat) : Int) = 1 + (g : Int) := by omega
    rw [e2] at o2
    rcases Nat.eq_zero_or_pos z with hz | hz
    · subst hz
      obtain ⟨k, hk⟩ : ∃ k, k = gapI ((40 :: t : Str8).drop (1 + g)) := ⟨_, rfl⟩
      have hkl := gapI_le ((40 :: t : Str8).drop (1 + g))
      rw [← hk, List.length_drop] at hkl
      have G4 : Kept 97 #[strI ((40 :: t : Str8).drop (1 + g))] (.int .i64 (k : Int)) := fun w => by rw [hk]; exact igap_any _ (by rw [List.length_drop]; omega) w
      have o5 := from_is (40 :: t) (1 + g + k) (by omega) (by omega)
      have e5 : ((1 + g + k : Nat) : Int) = 1 + (g : Int) + (k : Int) := by omega
      rw [e5] at o5
      have hv : placeV (inPlace (40 :: t)) = if ((((40 :: t : Str8).drop (1 + g + k)).head? == some 41) = true) then ((D, []), 1 + g + k + 1) else (([], []), 0) := by
        have : inPlace (40 :: t) = if ((40 :: t : Str8).drop (1 + g + k)).head? = some 41 then some ((D, []), 1 + g + k + 1) else none := by
          unfold inPlace
          simp only [← hg, hdd, Nat.lt_irrefl, if_false, Nat.add_zero, ← hk]
        rw [this]
        by_cases hc : ((40 :: t : Str8).drop (1 + g + k)).head? = some 41
        · rw [if_pos hc, if_pos (by rw [hc]; rfl)]; rfl
        · rw [if_neg hc, if_neg (by simpa using hc)]; rfl
      rw [hv]
      exact iplace_walk0 (40 :: t) t _ _ D g k w (by omega) (by omega) hh o1 o2 o5 G1 K2 G4
    · obtain ⟨V, y, hy⟩ : ∃ V y, gapTitle ((40 :: t : Str8).drop (1 + g + z)) = (V, y) := ⟨_, _, rfl⟩
      have hyl := gapTitle_le ((40 :: t : Str8).drop (1 + g + z))
      rw [hy, List.length_drop] at hyl
      have hyl' : y ≤ (40 :: t : Str8).length - (1 + g + z) := hyl
      clear hyl
      obtain ⟨k, hk⟩ : ∃ k, k = gapI ((40 :: t : Str8).drop (1 + g + z + y)) := ⟨_, rfl⟩
      have hkl := gapI_le ((40 :: t : Str8).drop (1 + g + z + y))
      rw [← hk, List.length_drop] at hkl
      have K3 : Kept 99 #[strI ((40 :: t : Str8).drop (1 + g + z))] (.tuple #[.string ⟨V.toArray⟩, .int .i64 (y : Int)]) := fun w => by
        have := igt_any ((40 :: t : Str8).drop (1 + g + z)) (by rw [List.length_drop]; omega) w
        rw [hy] at this
        exact this
      have G4 : Kept 97 #[strI ((40 :: t : Str8).drop (1 + g + z + y))] (.int .i64 (k : Int)) := fun w => by rw [hk]; exact igap_any _ (by rw [List.length_drop]; omega) w
      have o3 := from_is (40 :: t) (1 + g + z) (by omega) (by omega)
      have o4 := from_is (40 :: t) (1 + g + z + y) (by omega) (by omega)
      have o5 := from_is (40 :: t) (1 + g + z + y + k) (by omega) (by omega)
      have e3 : ((1 + g + z : Nat) : Int) = 1 + (g : Int) + (z : Int) := by omega
      have e4 : ((1 + g + z + y : Nat) : Int) = 1 + (g : Int) + (z : Int) + (y : Int) := by omega
      have e5 : ((1 + g + z + y + k : Nat) : Int) = 1 + (g : Int) + (z : Int) + (y : Int) + (k : Int) := by omega
      rw [e3] at o3
      rw [e4] at o4
      rw [e5] at o5
      have hv : placeV (inPlace (40 :: t)) = if ((((40 :: t : Str8).drop (1 + g + z + y + k)).head? == some 41) = true) then ((D, V), 1 + g + z + y + k + 1) else (([], []), 0) := by
        have : inPlace (40 :: t) = if ((40 :: t : Str8).drop (1 + g + z + y + k)).head? = some 41 then some ((D, V), 1 + g + z + y + k + 1) else none := by
          unfold inPlace
          simp only [← hg, hdd, hz, if_true, hy, ← hk]
        rw [this]
        by_cases hc : ((40 :: t : Str8).drop (1 + g + z + y + k)).head? = some 41
        · rw [if_pos hc, if_pos (by rw [hc]; rfl)]; rfl
        · rw [if_neg hc, if_neg (by simpa using hc)]; rfl
      rw [hv]
      exact iplace_walk (40 :: t) t _ _ _ _ D V g z y k w (by omega) (by omega) (by omega) (by omega) hh o1 o2 o3 o4 o5 G1 K2 K3 G4 hz
  · have hn : inPlace l = none := by
      cases l with
      | nil => rfl
      | cons b t =>
        unfold inPlace
        split
        · rename_i u hu
          exact absurd ⟨u, hu⟩ h40
        · rfl
    rw [hn]
    refine iplace_no l ?_ w
    cases l with
    | nil => rfl
    | cons b t =>
      have hb : b ≠ 40 := fun e => h40 ⟨t, by rw [e]⟩
      simpa using hb

end Go.Proofs.YtjdijlaoeoikhaaGreatDoor

/- Package inline: openerFor; walked. -/
namespace Go.Proofs.YtjdijlaoeoikhaaGreatDoor
open Go.RowKit

/-- A sentence's block, and what its openers lead to. -/
def SnC (w : World) (sb : Nat) (s : Sn) : Prop := ∃ a1 c1 a2 c2, w.heap[sb]? = some (.cells #[.slice a1 s.parts.length c1, .slice a2 s.openers.length c2] 56 (0, 0)) ∧ s.openers.length ≤ 140737488351232 ∧
  ∀ i k, s.openers[i]? = some k → k < s.parts.length ∧ ∃ ob pb, a2 = some ⟨ob, 0, none⟩ ∧ a1 = some ⟨pb, 0, none⟩ ∧ ob < w.heap.size ∧ pb < w.heap.size ∧ w.cell? ⟨ob, i, none⟩ = some (.int .i64 (k : Int)) ∧
    ∀ d : Dl, d = (s.parts.getD k ⟨{}, .nil, {}⟩).d → d.number ≤ 140737488351232 ∧ w.cell? ⟨pb, k * 9 + 5, none⟩ = some (.int .u8 (d.sign.toNat : Int)) ∧ w.cell? ⟨pb, k * 9 + 6, none⟩ = some (.int .i64 (d.number : Int)) ∧ w.cell? ⟨pb, k * 9 + 7, none⟩ = some (.bool d.opens) ∧ w.cell? ⟨pb, k * 9 + 8, none⟩ = some (.bool d.closes)

def openV : Option Nat → Int
  | some i => (i : Int)
  | none => -1

set_option maxHeartbeats 4000000 in
set_option maxRecDepth 20000 in
theorem iopen_any (s : Sn) (c : Dl) (hcn : c.number ≤ 140737488351232) (sb : Nat) (w : World) (hs : SnC w sb s) :
    Calls Tryz.prog 40 #[.pointer (some ⟨sb, 0, none⟩), .agg (dlCells c).toArray] w fun e w' => e = .returned (.int .i64 (openV (s.openerF c s.openers.length))) ∧ Below w.heap.size w w' := by
  obtain ⟨a1, c1, a2, c2, hb, hno, hall⟩ := hs
  have hsb := blk.lt_of_block hb
  obtain ⟨W1, hW1⟩ : ∃ W1, W1 = w.alloc (.cells #[.int .u8 (c.sign.toNat : Int), .int .i64 (c.number : Int), .bool c.opens, .bool c.closes] 51) := ⟨_, rfl⟩
  have hb1 : Below w.heap.size w W1 := by rw [hW1]; exact (Below.refl _ _).alloc (Nat.le_refl _) _
  have HU : Hid (∀ u : BwI W1, Below w.heap.size w u.wo) := fun u => hb1.trans (u.is.mono hb1.size)
  have hB0 := Blk4.new w 51 (.int .u8 (c.sign.toNat : Int)) (.int .i64 (c.number : Int)) (.bool c.opens) (.bool c.closes)
  rw [← hW1] at hB0
  have y0 : ∀ u : BwI W1, u.wo.cell? ⟨w.heap.size, 0, none⟩ = _ := fun u => (hB0.below u.is).c.1
  have y1 : ∀ u : BwI W1, u.wo.cell? ⟨w.heap.size, 1, none⟩ = _ := fun u => (hB0.below u.is).c.2.1
  have y2 : ∀ u : BwI W1, u.wo.cell? ⟨w.heap.size, 2, none⟩ = _ := fun u => (hB0.below u.is).c.2.2.1
  have y3 : ∀ u : BwI W1, u.wo.cell? ⟨w.heap.size, 3, none⟩ = _ := fun u => (hB0.below u.is).c.2.2.2
  have z0 : ∀ u : BwI W1, u.wo.cell? ⟨sb, 0, none⟩ = some (.slice a1 s.parts.length c1) := fun u => ((HU.out u).cell hsb).trans (blk.cell_blk hb rfl)
  have z1 : ∀ u : BwI W1, u.wo.cell? ⟨sb, 1, none⟩ = some (.slice a2 s.openers.length c2) := fun u => ((HU.out u).cell hsb).trans (blk.cell_blk hb rfl)
  have HF : Hid (∀ (d : Dl) (u : BwI W1), d.number ≤ 140737488351232 → Calls Tryz.prog 64 #[.agg #[.int .u8 (d.sign.toNat : Int), .int .i64 (d.number : Int), .bool d.opens, .bool d.closes], .agg #[.int .u8 (c.sign.toNat : Int), .int .i64 (c.number : Int), .bool c.opens, .bool c.closes]] u.wo fun e w' => e = .returned (.bool (fitI d c)) ∧ ∃ u' : BwI W1, w' = u'.wo) := fun d u hd => (ifit_any d c hd hcn u.wo).mono fun e w' q => ⟨q.1, BwI.of (u.is.trans (q.2.mono u.is.size)), rfl⟩
  obtain ⟨u0, hu0⟩ : ∃ u : BwI W1, w.alloc (.cells #[.int .u8 (c.sign.toNat : Int), .int .i64 (c.number : Int), .bool c.opens, .bool c.closes] 51) = u.wo := ⟨BwI.of (Below.refl _ _), hW1.symm⟩
  have hnoi : (s.openers.length : Int) ≤ 140737488351232 := by omega
  clear hB0 hb hcn hW1
  unfold dlCells
  go_enter Tryz.func40, Tryz.ntmps40
  go_wp2
  go_loopw [5] (fun t wr => ∃ (m : Nat) (z : Int), t = .int .i64 z ∧ z = (m : Int) - 1 ∧ m ≤ s.openers.length ∧ Hid (s.openerF c s.openers.length = s.openerF c m) ∧ ∃ u : BwI W1, wr = u.wo) (fun t _ => (intOf t + 1).toNat)
  case atStart => exact ⟨s.openers.length, _, rfl, rfl, Nat.le_refl _, rfl, u0, rfl⟩
  case round =>
    obtain ⟨m, z, rfl, hz, hm, H, u, rfl⟩ := hrel
    cases m with
    | zero =>
      have hz' : z = -1 := by omega
      subst hz'
      clear hz
      go_wp2
      go_ret
      exact ⟨by rw [H.out]; rfl, HU.out u⟩
    | succ k =>
      have hz' : z = (k : Int) := by omega
      subst hz'
      clear hz
      obtain ⟨q, hq⟩ : ∃ q, s.openers[k]? = some q := ⟨_, List.getElem?_eq_getElem (by omega)⟩
      obtain ⟨hqp, ob, pb, rfl, rfl, hob, hpb, e0, hd⟩ := hall k q hq
      obtain ⟨d, hdd⟩ : ∃ d, d = (s.parts.getD q ⟨{}, .nil, {}⟩).d := ⟨_, rfl⟩
      obtain ⟨hdn, e5, e6, e7, e8⟩ := hd d hdd
      have hstep : s.openerF c (k + 1) = if fitI d c = true then some k else s.openerF c k := by
        have : s.openers.getD k 0 = q := by rw [List.getD_eq_getElem?_getD, hq]; rfl
        rw [hdd, ← this]; rfl
      have x0 : ∀ u : BwI W1, u.wo.cell? ⟨ob, k, none⟩ = _ := fun u => ((HU.out u).cell hob).trans e0
      have x5 : ∀ u : BwI W1, u.wo.cell? ⟨pb, q * 9 + 5, none⟩ = _ := fun u => ((HU.out u).cell hpb).trans e5
      have x6 : ∀ u : BwI W1, u.wo.cell? ⟨pb, q * 9 + 6, none⟩ = _ := fun u => ((HU.out u).cell hpb).trans e6
      have x7 : ∀ u : BwI W1, u.wo.cell? ⟨pb, q * 9 + 7, none⟩ = _ := fun u => ((HU.out u).cell hpb).trans e7
      have x8 : ∀ u : BwI W1, u.wo.cell? ⟨pb, q * 9 + 8, none⟩ = _ := fun u => ((HU.out u).cell hpb).trans e8
      have QF : Hid (∀ u : BwI W1, Calls Tryz.prog 64 #[.agg #[.int .u8 (d.sign.toNat : Int), .int .i64 (d.number : Int), .bool d.opens, .bool d.closes], .agg #[.int .u8 (c.sign.toNat : Int), .int .i64 (c.number : Int), .bool c.opens, .bool c.closes]] u.wo fun e w' => e = .returned (.bool (fitI d c)) ∧ ∃ u' : BwI W1, w' = u'.wo) := fun u => HF.out d u hdn
      have HS := (show Hid _ from hstep)
      have hki : (k : Int) < (s.openers.length : Int) := by omega
      have hqi : (q : Int) < (s.parts.length : Int) := by omega
      clear hstep hall e0 e5 e6 e7 e8 hd hq hdd HF
      generalize hfv : fitI d c = fv at *
      go_wp2
      refine region_classI (fun w' => ∃ u : BwI W1, w' = u.wo) (by kernel_rfl) (by kernel_rfl) ⟨BwI.of (w := u.wo.drew) (u.is.trans ⟨rfl, rfl, rfl, Nat.le_refl _, fun _ _ => rfl⟩), rfl⟩ ?_
      haveI := BwI.some W1
      repeat (go_big_quiet_step (first
        | (go_at_call 64; exact QF.out _)
        | exact rfl))
      refine wpQuiet_nil ?_
      intro _ hw'
      obtain ⟨u', hu'⟩ := hw'
      subst hu'
      (try simp only [Exit.then])
      cases fv with
      | true =>
        have HV : Hid (openV (s.openerF c s.openers.length) = (k : Int)) := by show _ = _; rw [H.out, HS.out]; rfl
        clear HS H hfv
        go_wp2
        go_ret
        exact ⟨by rw [HV.out]; rfl, HU.out _⟩
      | false =>
        have HV : Hid (s.openerF c s.openers.length = s.openerF c k) := by show _ = _; rw [H.out, HS.out]; rfl
        clear HS H hfv
        go_wp2
        go_roundw
        case rel => exact ⟨k, _, rfl, rfl, by omega, HV.out, _, rfl⟩
        case measure => simp [intOf]

end Go.Proofs.YtjdijlaoeoikhaaGreatDoor
