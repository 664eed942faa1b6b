/- Package inline: delimitersOf; walked. -/
import Derived.Test.YtjdijlaoeoikhaaGreatDoorG25
import Derived.Test.YtjdijlaoeoikhaaGreatDoorG08
import Derived.Deep.Quiet
import Derived.Laws.ResultCell
import Derived.BigQuiet
set_option linter.unusedVariables false
namespace Go.Proofs.YtjdijlaoeoikhaaGreatDoor
open Go.RowKit

/-- A world that is as w0 below its end. -/
def BwI (w0 : World) : Type := { u : World // Below w0.heap.size w0 u }
def BwI.of {w0 w : World} (h : Below w0.heap.size w0 w) : BwI w0 := ⟨w, h⟩
def BwI.wo {w0 : World} (u : BwI w0) : World := u.1
theorem BwI.is {w0 : World} (u : BwI w0) : Below w0.heap.size w0 u.wo := u.2
theorem BwI.first (w0 : World) : ∃ u : BwI w0, w0.drew = u.wo := ⟨BwI.of (w := w0.drew) ⟨rfl, rfl, rfl, Nat.le_refl _, fun _ _ => rfl⟩, rfl⟩
theorem BwI.some (w0 : World) : Nonempty (BwI w0) := ⟨BwI.of (Below.refl _ _)⟩
theorem region_classI {P : Program} {id : Nat} {Q : Exit → Act → World → Prop} {a : Act} {w : World} {l : List Oper} (C : World → Prop) (hm : P.follows .mixedOrders = true) (hB : Region.lexB .any l.toArray = true) (hC : C w.drew)
    (h : wpQuiet P l.toArray C (fun a' => ∀ w', C w' → Q .normal a' w') l a) : (Code.region id l.toArray true).wp P Q a w :=
  wp_region_quiet (C := C) hm hB hC (by simpa using h)
/-- A block of four cells, each of which may be written. -/
def Blk4 (w : World) (b : Nat) (t : TypeId) (x y z v : Value) : Prop := w.heap[b]? = some (.cells #[x, y, z, v] t (0, 0))
theorem Blk4.below {w w' : World} {b : Nat} {t : TypeId} {x y z v : Value} (h : Blk4 w b t x y z v) (hb : Below w.heap.size w w') : Blk4 w' b t x y z v := blk.blk_below h hb
theorem Blk4.new (w : World) (t : TypeId) (x y z v : Value) : Blk4 (w.alloc (.cells #[x, y, z, v] t)) w.heap.size t x y z v := by
  show (w.heap.push _)[w.heap.size]? = _
  exact Array.getElem?_push_size
theorem Blk4.c {w : World} {b : Nat} {t : TypeId} {x y z v : Value} (h : Blk4 w b t x y z v) : w.cell? ⟨b, 0, none⟩ = some x ∧ w.cell? ⟨b, 1, none⟩ = some y ∧ w.cell? ⟨b, 2, none⟩ = some z ∧ w.cell? ⟨b, 3, none⟩ = some v := ⟨blk.cell_blk h rfl, blk.cell_blk h rfl, blk.cell_blk h rfl, blk.cell_blk h rfl⟩
theorem Blk4.s {w : World} {b : Nat} {t : TypeId} {x y z v : Value} (h : Blk4 w b t x y z v) (x' y' z' v' : Value) : Blk4 ((((w.setCell ⟨b, 0, none⟩ x').setCell ⟨b, 1, none⟩ y').setCell ⟨b, 2, none⟩ z').setCell ⟨b, 3, none⟩ v') b t x' y' z' v' := blk.set_blk (blk.set_blk (blk.set_blk (blk.set_blk h 0 x') 1 y') 2 z') 3 v'
theorem Blk4.f {w : World} {b : Nat} {t : TypeId} {x y z v : Value} (h : Blk4 w b t x y z v) (i : Nat) : w.frozen? ⟨b, i, none⟩ = false := blk.free_blk h i
theorem results_cell1 {fn : Func} {p : Tmp} {ty : TypeId} (h : fn.results = #[.cell p ty]) (tmps : Array Value) (P : Program) (w : World) :
    (results fn tmps).run P w = ((asAddr (tmps.getD p undef)).run P w).andThen fun a w₁ => (loadVar ty a).run P w₁ := by
  simp only [results, h]
  simp [Sem.run_bind, Result.andThen]
theorem drewN_below (w : World) (n : Nat) : Below w.heap.size w (w.drewN n) := ⟨rfl, rfl, rfl, Nat.le_refl _, fun _ _ => rfl⟩

set_option maxHeartbeats 4000000 in
set_option maxRecDepth 40000 in
theorem idelim_any (l : Str8) (hl : l.length ≤ 140737488351232) (start stop : Nat) (h1 : start < stop) (h2 : stop ≤ l.length) (w : World) (hT : Lib.Utf8Tabs 1 2 w) (h3 : 3 ≤ w.heap.size) :
    Calls Tryz.prog 38 #[strI l, .int .i64 (start : Int), .int .i64 (stop : Int)] w fun e w' => e = .returned (.agg (dlCells (delimI l start stop)).toArray) ∧ Below w.heap.size w w' := by
  have x1 : (ByteArray.mk l.toArray).extract 0 start = ⟨(l.take start).toArray⟩ := by rw [extract_eq, list_data]; rfl
  have x2 : (ByteArray.mk l.toArray).extract stop (ByteArray.mk l.toArray).size = ⟨(l.drop stop).toArray⟩ := by
    rw [extract_eq, list_data, size_list, List.take_of_length_le (by rw [List.length_drop]; omega)]
  have o1 : ∀ w', (Instr.slice 9 (.string ⟨l.toArray⟩) none (some (.int .i64 (start : Int))) none).run Tryz.prog w' = .ok (.string ⟨(l.take start).toArray⟩) w' := fun w' => by
    rw [run_slice_string_to_if w' 9 _ .i64 (start : Int) Tryz.underlying9, if_pos (by rw [size_list]; omega), Int.toNat_natCast, x1]
  have o2 : ∀ w', (Instr.slice 9 (.string ⟨l.toArray⟩) (some (.int .i64 (stop : Int))) none none).run Tryz.prog w' = .ok (.string ⟨(l.drop stop).toArray⟩) w' := fun w' => by
    rw [run_slice_string_from_if w' 9 _ .i64 (stop : Int) Tryz.underlying9, if_pos (by rw [size_list]; omega), Int.toNat_natCast, x2]
  have hsz : start < (ByteArray.mk l.toArray).size := by rw [size_list]; omega
  obtain ⟨b, hb⟩ : ∃ b, b = l.getD start 0 := ⟨_, rfl⟩
  have hby : (ByteArray.mk l.toArray)[start]'hsz = b := by rw [byte_at, list_data, hb]
  have HL : Hid (∀ u, Below w.heap.size w u → Calls Tryz.prog 57 #[strI (l.take start)] u fun e w' => e = .returned (.int .i32 (lastI (l.take start) : Int)) ∧ Below u.heap.size u w') := fun u hu => ilast_any (l.take start) (by rw [List.length_take]; omega) u (u8_below hT hu h3)
  have HF : Hid (∀ u, Below w.heap.size w u → Calls Tryz.prog 58 #[strI (l.drop stop)] u fun e w' => e = .returned (.int .i32 (firstI (l.drop stop) : Int)) ∧ Below u.heap.size u w') := fun u hu => ifirst_any (l.drop stop) u (u8_below hT hu h3)
  have HFl : Hid (∀ (far near : Nat) w, Calls Tryz.prog 59 #[.int .i32 (far : Int), .int .i32 (near : Int)] w fun e w' => e = .returned (.bool (flanksI far near)) ∧ w' = w) := fun far near w => iflanks_any far near w
  have HP : Hid (∀ (r : Nat) w, Calls Tryz.prog 60 #[.int .i32 (r : Int)] w fun e w' => e = .returned (.bool (punctN r)) ∧ w' = w) := fun r w => by rw [← punct_is]; exact run.punct_any _ w
  have hD : delimI l start stop = if b = 95 then { sign := b, number := stop - start, opens := flanksI (lastI (l.take start)) (firstI (l.drop stop)) && (!flanksI (firstI (l.drop stop)) (lastI (l.take start)) || punctN (lastI (l.take start))), closes := flanksI (firstI (l.drop stop)) (lastI (l.take start)) && (!flanksI (lastI (l.take start)) (firstI (l.drop stop)) || punctN (firstI (l.drop stop))) } else { sign := b, number := stop - start, opens := flanksI (lastI (l.take start)) (firstI (l.drop stop)), closes := flanksI (firstI (l.drop stop)) (lastI (l.take start)) } := by rw [hb]; rfl
  generalize delimI l start stop = D at *
  have HD := (show Hid _ from hD)
  clear hD hb
  have i1 : (start : Int) < (stop : Int) := by omega
  have i2 : (stop : Int) ≤ (l.length : Int) := by omega
  have i3 : (start : Int) ≤ (l.length : Int) := by omega
  have hll : (ByteArray.mk l.toArray).size = l.length := size_list l
  have i4 : (stop : Int) ≤ ((ByteArray.mk l.toArray).size : Int) := by omega
  have i5 : (start : Int) ≤ ((ByteArray.mk l.toArray).size : Int) := by omega
  generalize lastI (l.take start) = A at *
  generalize firstI (l.drop stop) = F at *
  have hnum : ((stop - start : Nat) : Int) = (stop : Int) - (start : Int) := by omega
  obtain ⟨W1, hW1⟩ : ∃ W1, W1 = w.alloc (.cells #[.int .u8 0, .int .i64 0, .bool false, .bool false] 51) := ⟨_, rfl⟩
  have HB1 : Hid (Below w.heap.size w W1) := by show Below _ _ _; rw [hW1]; exact (Below.refl _ _).alloc (Nat.le_refl _) _
  have QL : Hid (∀ u : BwI W1, Calls Tryz.prog 57 #[strI (l.take start)] u.wo fun e w' => e = .returned (.int .i32 (A : Int)) ∧ ∃ u' : BwI W1, w' = u'.wo) := fun u => (HL.out u.wo (HB1.out.trans (u.is.mono HB1.out.size))).mono fun e w' q => ⟨q.1, BwI.of (u.is.trans (q.2.mono u.is.size)), rfl⟩
  have QF : Hid (∀ u : BwI W1, Calls Tryz.prog 58 #[strI (l.drop stop)] u.wo fun e w' => e = .returned (.int .i32 (F : Int)) ∧ ∃ u' : BwI W1, w' = u'.wo) := fun u => (HF.out u.wo (HB1.out.trans (u.is.mono HB1.out.size))).mono fun e w' q => ⟨q.1, BwI.of (u.is.trans (q.2.mono u.is.size)), rfl⟩
  have QX : Hid (∀ (U : World) (far near k : Nat), Calls Tryz.prog 59 #[.int .i32 (far : Int), .int .i32 (near : Int)] (U.drewN k) fun e w' => e = .returned (.bool (flanksI far near)) ∧ ∃ m, w' = U.drewN m) := fun U far near k => (HFl.out far near _).mono fun e w' q => ⟨q.1, k, q.2⟩
  have QP : Hid (∀ (U : World) (r k : Nat), Calls Tryz.prog 60 #[.int .i32 (r : Int)] (U.drewN k) fun e w' => e = .returned (.bool (punctN r)) ∧ ∃ m, w' = U.drewN m) := fun U r k => (HP.out r _).mono fun e w' q => ⟨q.1, k, q.2⟩
  clear HL HF
  have HW1 := (show Hid _ from hW1)
  go_enter Tryz.func38, Tryz.ntmps38
  go_wp2
  rw [← hW1]
  refine region_classI (fun w' => ∃ u : BwI W1, w' = u.wo) (by kernel_rfl) (by kernel_rfl) (BwI.first W1) ?_
  haveI := BwI.some W1
  repeat (go_big_quiet_step (first
    | (go_at_call 57; exact QL.out _)
    | (go_at_call 58; exact QF.out _)
    | exact rfl))
  refine wpQuiet_nil ?_
  intro _ hw'
  obtain ⟨u, hu⟩ := hw'
  subst hu
  have HU := (show Hid (Below W1.heap.size W1 u.wo) from u.is)
  have hB0 : Blk4 u.wo w.heap.size 51 (.int .u8 0) (.int .i64 0) (.bool false) (.bool false) := by
    have := Blk4.new w 51 (.int .u8 0) (.int .i64 0) (.bool false) (.bool false)
    rw [← HW1.out] at this
    exact this.below u.is
  generalize u.wo = V at *
  clear QL QF
  have hBA : ∀ o, Blk4 (V.alloc o) w.heap.size 51 (.int .u8 0) (.int .i64 0) (.bool false) (.bool false) := fun o => hB0.below ((Below.refl _ _).alloc (Nat.le_refl _) o)
  have HBA := (show Hid _ from hBA)
  have f0 := fun o => (hBA o).f 0
  have f1 := fun o => (hBA o).f 1
  have f2 := fun o => (hBA o).f 2
  have f3 := fun o => (hBA o).f 3
  have c0 := fun o => (hBA o).c.1
  have c1 := fun o => (hBA o).c.2.1
  have c2 := fun o => (hBA o).c.2.2.1
  have c3 := fun o => (hBA o).c.2.2.2
  have HV : Hid (Below w.heap.size w V) := HB1.out.trans (HU.out.mono HB1.out.size)
  clear hBA hB0 hW1 HW1
  by_cases h95 : b = 95
  · subst h95
    rw [if_pos rfl] at HD
    cases hL : flanksI A F <;> cases hR : flanksI F A
    all_goals
      go_wp2_with (first
        | (go_at_call 59; refine (HFl.out _ _ _).mono ?_; rintro e w1 ⟨rfl, hw⟩; subst w1)
        | (go_at_call 60; refine (HP.out _ _).mono ?_; rintro e w1 ⟨rfl, hw⟩; subst w1))
      (try simp only [Exit.inBlock, Exit.then])
      have d0 := fun o x y z v => ((HBA.out o).s x y z v).c.1
      have d1 := fun o x y z v => ((HBA.out o).s x y z v).c.2.1
      have d2 := fun o x y z v => ((HBA.out o).s x y z v).c.2.2.1
      have d3 := fun o x y z v => ((HBA.out o).s x y z v).c.2.2.2
      refine bodyPost_ret (v := .agg (dlCells D).toArray) ?_ rfl ⟨rfl, ?_⟩
      · rw [results_cell1 rfl, HD.out]
        go_simp
        unfold dlCells
        simp only
        rw [hnum]
        try rfl
      · exact blk.below_set (blk.below_set (blk.below_set (blk.below_set (HV.out.alloc HV.out.size _) (Nat.le_refl _)) (Nat.le_refl _)) (Nat.le_refl _)) (Nat.le_refl _)
  · rw [if_neg h95] at HD
    have hbb : ((b.toNat : Int) == 95) = false := by
      have : ¬ (b.toNat : Int) = 95 := fun e => h95 (UInt8.toNat_inj.1 (by show b.toNat = 95; omega))
      simpa using this
    go_wp2_with (first
      | (go_at_call 59; refine (HFl.out _ _ _).mono ?_; rintro e w1 ⟨rfl, hw⟩; subst w1))
    (try simp only [Exit.inBlock, Exit.then])
    have d0 := fun o x y z v => ((HBA.out o).s x y z v).c.1
    have d1 := fun o x y z v => ((HBA.out o).s x y z v).c.2.1
    have d2 := fun o x y z v => ((HBA.out o).s x y z v).c.2.2.1
    have d3 := fun o x y z v => ((HBA.out o).s x y z v).c.2.2.2
    refine bodyPost_ret (v := .agg (dlCells D).toArray) ?_ rfl ⟨rfl, ?_⟩
    · rw [results_cell1 rfl, HD.out]
      go_simp
      unfold dlCells
      simp only
      rw [hnum]
      try rfl
    · exact blk.below_set (blk.below_set (blk.below_set (blk.below_set (HV.out.alloc HV.out.size _) (Nat.le_refl _)) (Nat.le_refl _)) (Nat.le_refl _)) (Nat.le_refl _)

end Go.Proofs.YtjdijlaoeoikhaaGreatDoor
