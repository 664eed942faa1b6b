/- SpanComments, walked: what stands in a comment, an instruction, a declaration, does not matter. -/
import Derived.Test.YtkbanlhjeedeeaaDoorSWithout
set_option linter.unusedVariables false
namespace Go.Proofs.YtkbanlhjeedeeaaDoor.spanComments
open Go.RowKit

/-- The answers at one text. -/
structure Row (s1 x : ByteArray) : Prop where
  sz : x.size ≤ 1100
  pos : 1 ≤ x.size
  r1 : ∀ w, ML w → Calls Tryd.prog 16 #[.string (x ++ s1)] w fun e w' => e = .returned (.int .i64 (x.size : Int)) ∧ ∃ n, w' = w.drewN n
  r2 : ∀ w, ML w → Calls Tryd.prog 16 #[.string (x.extract 0 (x.size - 1))] w fun e w' => e = .returned (.int .i64 0) ∧ ∃ n, w' = w.drewN n
  r3 : ∀ w, Calls Tryd.prog 14 #[.string x] w fun e w' => e = .returned (.int .i64 0) ∧ ∃ n, w' = w.drewN n

theorem row_of {s1 x : ByteArray} {p : List UInt8} {c : UInt8} (hx : x.data.toList = p ++ [c]) (hl : p.length ≤ 1099) (h1 : s1.size ≤ 1048576) (ha : rawN (p ++ [c] ++ s1.data.toList) = p.length + 1) (hb : rawN p = 0) (hc : tagN (p ++ [c]) = 0) : Row s1 x := by
  have hs : x.size = p.length + 1 := by rw [← len_data, hx]; simp
  refine ⟨by omega, by omega, fun w hm => ?_, fun w hm => ?_, fun w => ?_⟩
  · have := raw_any (x ++ s1) (by rw [ByteArray.size_append]; omega) w hm
    rw [app_data, hx, ha] at this
    rw [hs]
    exact this
  · have h2 : (x.extract 0 (x.size - 1)).data.toList = p := by rw [ext_to, hx, hs]; simp
    have := raw_any (x.extract 0 (x.size - 1)) (by rw [ByteArray.size_extract]; omega) w hm
    rw [h2, hb] at this
    exact this
  · have := tag_any x (by omega) w
    rw [hx, hc] at this
    exact this

theorem calm_of {l : List UInt8} (h : Lacks [45, 62, 63, 93] l) : Calm l := fun c hc => ⟨h c hc 45 (by simp), h c hc 62 (by simp), h c hc 63 (by simp), h c hc 93 (by simp)⟩

theorem raw_tag0 {c : UInt8} {t : List UInt8} (h1 : c ≠ 47) (h2 : letterB c = false) : tagN (60 :: c :: t) = 0 := by
  have := tag_no c t h1 h2
  simp only [tagN, this]

theorem rows {s1 T L : ByteArray} (h1 : s1.size ≤ 1048576) (hT : T = ByteArray.mk #[32] ++ L) (hL : Lacks [45, 62, 63, 93] L.data.toList) (hl : L.size ≤ 1000) :
    Row s1 (ByteArray.mk #[60, 33, 45, 45] ++ T ++ ByteArray.mk #[45, 45, 62]) ∧ Row s1 (ByteArray.mk #[60, 63] ++ T ++ ByteArray.mk #[63, 62]) ∧ Row s1 (ByteArray.mk #[60, 33, 65] ++ T ++ ByteArray.mk #[62]) ∧ Row s1 (ByteArray.mk #[60, 33, 91, 67, 68, 65, 84, 65, 91] ++ T ++ ByteArray.mk #[93, 93, 62]) := by
  obtain ⟨a1, a2, a3, a4⟩ := com_whole (calm_of hL) s1.data.toList
  obtain ⟨b1, b2, b3, b4⟩ := com_cut (calm_of hL)
  have hll : L.data.toList.length ≤ 1000 := by rw [len_data]; exact hl
  have eT : T.data.toList = 32 :: L.data.toList := by rw [hT, app_data]; rfl
  generalize L.data.toList = l at *
  refine ⟨row_of (p := [60, 33, 45, 45] ++ (32 :: l) ++ [45, 45]) (c := 62) ?_ (by simp; omega) h1 ?_ b1 (raw_tag0 (by decide) (by decide)), row_of (p := [60, 63] ++ (32 :: l) ++ [63]) (c := 62) ?_ (by simp; omega) h1 ?_ b2 (raw_tag0 (by decide) (by decide)), row_of (p := [60, 33, 65] ++ (32 :: l)) (c := 62) ?_ (by simp; omega) h1 ?_ b3 (raw_tag0 (by decide) (by decide)), row_of (p := [60, 33, 91, 67, 68, 65, 84, 65, 91] ++ (32 :: l) ++ [93, 93]) (c := 62) ?_ (by simp; omega) h1 ?_ b4 (raw_tag0 (by decide) (by decide))⟩
  · rw [app_data, app_data, eT] <;> simp
  · rw [show ([60, 33, 45, 45] ++ (32 :: l) ++ [45, 45] ++ [62] ++ s1.data.toList : List UInt8) = [60, 33, 45, 45] ++ (32 :: l) ++ ([45, 45, 62] ++ s1.data.toList) by simp, a1]; simp
  · rw [app_data, app_data, eT] <;> simp
  · rw [show ([60, 63] ++ (32 :: l) ++ [63] ++ [62] ++ s1.data.toList : List UInt8) = [60, 63] ++ (32 :: l) ++ ([63, 62] ++ s1.data.toList) by simp, a2]; simp
  · rw [app_data, app_data, eT] <;> simp
  · rw [show ([60, 33, 65] ++ (32 :: l) ++ [62] ++ s1.data.toList : List UInt8) = [60, 33, 65] ++ (32 :: l) ++ ([62] ++ s1.data.toList) by simp, a3]; simp
  · rw [app_data, app_data, eT] <;> simp
  · rw [show ([60, 33, 91, 67, 68, 65, 84, 65, 91] ++ (32 :: l) ++ [93, 93] ++ [62] ++ s1.data.toList : List UInt8) = [60, 33, 91, 67, 68, 65, 84, 65, 91] ++ (32 :: l) ++ ([93, 93, 62] ++ s1.data.toList) by simp, a4]; simp

set_option maxHeartbeats 4000000 in
set_option maxRecDepth 4000 in
theorem walk (s0 : ByteArray) (w0 : s0.size ≤ 1048576) (s1 : ByteArray) (w1 : s1.size ≤ 1048576) (w : World) (hm : ML w) :
    Calls Tryd.prog 7 #[.string s0, .string s1] w fun e w' => e = .returned (.bool true) ∧ Below w.heap.size w w' := by
  have HS := (show Hid _ from ans_shown w)
  have h0 := Fwd.start hm
  have HW : Hid (∀ w', Fwd w w' → Calls Tryd.prog 19 #[.string s0, .string ⟨#[45, 62, 63, 93]⟩, .int .i64 1000] w' fun e w2 => ∃ L : ByteArray, e = .returned (.string L) ∧ Lacks [45, 62, 63, 93] L.data.toList ∧ L.size ≤ 1000 ∧ Fwd w w2) := fun w' h => by
    refine (without_any s0 ⟨#[45, 62, 63, 93]⟩ (by omega) (by decide) 1000 (by decide) w' h.1).mono ?_
    rintro e w2 ⟨l, rfl, h1, h2, h3⟩
    exact ⟨⟨l.toArray⟩, rfl, by rw [list_data]; exact h1, by rw [size_list]; exact h2, h.below h3⟩
  have z1 : (s1.size : Int) ≤ 1048576 := by omega
  have W1 := (show Hid _ from w1)
  clear w0 w1 hm
  go_enter Tryd.func7, Tryd.ntmps7
  go_wp2_with (go_at_call 9; refine (HS.out _ h0).mono ?_; rintro e wa ⟨rfl, h1⟩)
  clear h0
  go_wp2_with (go_at_call 19; refine (HW.out _ h1).mono ?_; rintro e wb ⟨L, rfl, hla, hll, h2⟩)
  clear h1
  obtain ⟨r1, r2, r3, r4⟩ := rows W1.out rfl hla hll
  have RR : Hid (Row s1 _ ∧ Row s1 _ ∧ Row s1 _ ∧ Row s1 _) := ⟨r1, r2, r3, r4⟩
  clear r1 r2 r3 r4 hla
  go_wp2
  obtain ⟨O, hO⟩ : ∃ O, O = Obj.cells #[Value.string (ByteArray.mk #[60, 33, 45, 45] ++ (ByteArray.mk #[32] ++ L) ++ ByteArray.mk #[45, 45, 62]), Value.string (ByteArray.mk #[60, 63] ++ (ByteArray.mk #[32] ++ L) ++ ByteArray.mk #[63, 62]), Value.string (ByteArray.mk #[60, 33, 65] ++ (ByteArray.mk #[32] ++ L) ++ ByteArray.mk #[62]), Value.string (ByteArray.mk #[60, 33, 91, 67, 68, 65, 84, 65, 91] ++ (ByteArray.mk #[32] ++ L) ++ ByteArray.mk #[93, 93, 62])] 9 := ⟨_, rfl⟩
  rw [← hO]
  have HX : Hid (∀ k, k < 4 → ∃ x, (∀ n, ((wb.alloc O).drewN n).cell? ⟨wb.heap.size, k, none⟩ = some (.string x)) ∧ Row s1 x) := by
    intro k hk
    have hcell : ∀ (n j : Nat) (u : Value), ([Value.string (ByteArray.mk #[60, 33, 45, 45] ++ (ByteArray.mk #[32] ++ L) ++ ByteArray.mk #[45, 45, 62]), Value.string (ByteArray.mk #[60, 63] ++ (ByteArray.mk #[32] ++ L) ++ ByteArray.mk #[63, 62]), Value.string (ByteArray.mk #[60, 33, 65] ++ (ByteArray.mk #[32] ++ L) ++ ByteArray.mk #[62]), Value.string (ByteArray.mk #[60, 33, 91, 67, 68, 65, 84, 65, 91] ++ (ByteArray.mk #[32] ++ L) ++ ByteArray.mk #[93, 93, 62])] : List Value)[j]? = some u → ((wb.alloc O).drewN n).cell? ⟨wb.heap.size, j, none⟩ = some u := fun n j u hj => by
      have := lit_cells wb _ 9 j u hj
      have hadd : (⟨wb.heap.size, 0, none⟩ : Addr).add j = ⟨wb.heap.size, j, none⟩ := by unfold Addr.add; split <;> simp_all
      rw [hadd] at this
      rw [hO]
      exact this
    obtain ⟨r1, r2, r3, r4⟩ := RR.out
    match k, hk with
    | 0, _ => exact ⟨_, fun n => hcell n 0 _ rfl, r1⟩
    | 1, _ => exact ⟨_, fun n => hcell n 1 _ rfl, r2⟩
    | 2, _ => exact ⟨_, fun n => hcell n 2 _ rfl, r3⟩
    | 3, _ => exact ⟨_, fun n => hcell n 3 _ rfl, r4⟩
  have HF : Hid (Fwd w (wb.alloc O)) := h2.below ((Below.refl _ _).alloc (Nat.le_refl _) _)
  clear hO RR h2 HW HS
  go_loopw [8] (fun i wr => ∃ (k : Nat), i = .int .i64 (k : Int) ∧ k ≤ 4 ∧ Hid (∃ n, wr = (wb.alloc O).drewN n)) (fun i _ => 4 - (intOf i).toNat)
  case atStart => exact ⟨0, rfl, by omega, 0, rfl⟩
  case round =>
    obtain ⟨k, rfl, hk, hwr⟩ := hrel
    by_cases hk4 : k < 4
    · obtain ⟨x, hcell, R⟩ := HX.out k hk4
      have g1 : (k : Int) < 4 := by omega
      have c1 : wr.cell? ⟨wb.heap.size, k, none⟩ = some (.string x) := by obtain ⟨n, hn⟩ := hwr.out; rw [hn]; exact hcell n
      have hml : ML wr := by obtain ⟨n, hn⟩ := hwr.out; rw [hn]; exact HF.out.1
      have Q1 : Hid (∀ m, Calls Tryd.prog 16 #[.string (x ++ s1)] (wr.drewN m) fun e w' => e = .returned (.int .i64 (x.size : Int)) ∧ ∃ n, w' = (wr.drewN m).drewN n) := fun m => R.r1 _ (hml.drewN m)
      obtain ⟨y, hy⟩ : ∃ y, x.size - 1 = y := ⟨_, rfl⟩
      have Q2 : Hid (∀ m, Calls Tryd.prog 16 #[.string (x.extract 0 y)] (wr.drewN m) fun e w' => e = .returned (.int .i64 0) ∧ ∃ n, w' = (wr.drewN m).drewN n) := fun m => by rw [← hy]; exact R.r2 _ (hml.drewN m)
      have Q3 : Hid (∀ m, Calls Tryd.prog 14 #[.string x] (wr.drewN m) fun e w' => e = .returned (.int .i64 0) ∧ ∃ n, w' = (wr.drewN m).drewN n) := fun m => R.r3 _
      have x1 : (x.size : Int) ≤ 1100 := by have := R.sz; omega
      have x2 : (1 : Int) ≤ (x.size : Int) := by have := R.pos; omega
      have x3 : ∀ w, (Op.stringOp .add x s1).run Tryd.prog w = .ok (.string (x ++ s1)) w := fun w => run_string_add_sum (w := w) x s1 (by omega)
      have x4 : IntKind.i64.wrap ((x.size : Int) - 1) = (y : Int) := by
        rw [IntKind.wrap_i64]
        have := R.pos
        have := R.sz
        omega
      have x5 : ∀ w, (Instr.slice 9 (.string x) none (some (.int .i64 (y : Int))) none).run Tryd.prog w = .ok (.string (x.extract 0 y)) w := fun w => by
        have := R.pos
        rw [run_slice_string_to_if w 9 x .i64 (y : Int) Tryd.underlying9, if_pos (by omega), Int.toNat_natCast]
      clear R HX hcell hml hy
      go_wp2
      go_quiet (first
        | (go_at_call_of 16 (Value.string (x ++ s1)); exact Calls.quiet_of (Q1.out _))
        | (go_at_call_of 16 (Value.string (x.extract 0 y)); exact Calls.quiet_of (Q2.out _))
        | (go_at_call 14; exact Calls.quiet_of (Q3.out _)))
      go_wp2
      go_roundw
      case rel => exact ⟨k + 1, by go_num, by omega, by obtain ⟨n, hn⟩ := hwr.out; exact ⟨_, by rw [hn, World.drewN_drewN]⟩⟩
      case measure => simp [intOf]; omega
    · go_wp2
      go_ret
      exact ⟨rfl, by obtain ⟨n, hn⟩ := hwr.out; rw [hn]; exact (HF.out.drewN n).2⟩

end Go.Proofs.YtkbanlhjeedeeaaDoor.spanComments
