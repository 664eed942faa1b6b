/- Package leaf: rows of bytes of a kind, and of one byte; walked. -/
import Derived.Test.YtcbojffcnlkejaaGreatDoorSKinds
import Derived.Test.YtcbojffcnlkejaaGreatDoorG08
set_option linter.unusedVariables false
namespace Go.Proofs.YtcbojffcnlkejaaGreatDoor
open Go.RowKit

/-- A function of the program that tells a kind of bytes, with what it has caught, in the worlds of a class. -/
def LKind (g : Nat) (cap : Array Value) (C : World → Prop) (p : UInt8 → Bool) : Prop :=
  (∀ args w, (callFunc g args).run Tryz.prog w = .ok (.enter g args) w) ∧ ∀ (c : UInt8) (w : World), C w → Calls Tryz.prog g (#[.int .u8 (c.toNat : Int)] ++ cap) w fun e w' => e = .returned (.bool (p c)) ∧ w' = w

theorem ldigit_kind : LKind 113 #[] (fun _ => True) digitB := by
  refine ⟨enters_of Tryz.func113 (by kernel_rfl) rfl, fun c w _ => ?_⟩
  have hc : c.toNat < 48 ∨ (48 ≤ c.toNat ∧ c.toNat ≤ 57) ∨ 57 < c.toNat := by omega
  have HD : Hid (digitB c = digN c.toNat) := rfl
  rcases hc with h | ⟨h, h'⟩ | h
  all_goals
    go_enter Tryz.func113, Tryz.ntmps113
    go_wp2
    go_ret
    exact ⟨ret_bool (by rw [HD.out]; unfold digN; rw [Bool.eq_iff_iff]; simp; omega), rfl⟩

theorem lrun_kind (ad : Addr) (x : UInt8) : LKind 90 #[.pointer (some ad)] (fun w => w.cell? ad = some (.int .u8 (x.toNat : Int))) (· == x) := by
  refine ⟨enters_of Tryz.func90 (by kernel_rfl) rfl, fun c w hw => ?_⟩
  have HD : Hid ((c == x) = decide ((c.toNat : Int) = (x.toNat : Int))) := by
    show _ = _
    rw [Bool.eq_iff_iff]
    simp
    constructor
    · rintro rfl; rfl
    · intro h; exact UInt8.toNat_inj.1 (by omega)
  go_enter Tryz.func90, Tryz.ntmps90
  go_wp2
  go_ret
  exact ⟨ret_bool (by rw [HD.out]; rw [Bool.eq_iff_iff]; simp), rfl⟩

theorem row_cons (p : UInt8 → Bool) (b : UInt8) (t : List UInt8) : rowN p (b :: t) = if p b = true then rowN p t + 1 else 0 := by
  unfold rowN
  rw [List.takeWhile_cons]
  split <;> simp

set_option maxHeartbeats 1000000 in
/-- row: how many bytes of a kind a text begins with. -/
theorem lrow_any {g : Nat} {cap : Array Value} {C : World → Prop} {p : UInt8 → Bool} (hk : LKind g cap C p) (s : ByteArray) (hs : s.size ≤ 9223372036854775000) (w : World) (hw : C w) :
    Calls Tryz.prog 89 #[.string s, .func (.func g) #[] cap] w fun e w' => e = .returned (.int .i64 (rowN p s.data.toList : Int)) ∧ w' = w := by
  obtain ⟨hen, hcall⟩ := hk
  have HC := (show Hid _ from fun c => hcall c w hw)
  clear hcall
  go_enter Tryz.func89, Tryz.ntmps89
  go_wp2
  go_loop [8] (fun A => ∃ l' : List UInt8, A = .int .i64 (pos s l' : Int) ∧ Hid (Suf s l') ∧ Hid (pos s l' + rowN p l' = rowN p s.data.toList)) (fun A => s.size - (intOf A).toNat)
  case atStart => exact ⟨s.data.toList, by rw [pos_whole]; rfl, Suf.whole s, by show _ = _; rw [pos_whole, Nat.zero_add]⟩
  case round =>
    obtain ⟨l', rfl, h1, h2⟩ := hrel
    cases l' with
    | nil =>
      have hp : pos s [] = s.size := pos_nil s
      go_wp2
      go_ret
      exact ⟨ret_int (by rw [← h2.out, pos_nil]; rfl), rfl⟩
    | cons b t =>
      have hlt := h1.out.lt
      have hb := h1.out.byte hlt
      have hle : (pos s (b :: t) : Int) + 1 ≤ (s.size : Int) := by omega
      have hsu := (show Hid _ from h1.out.succ)
      have HR := (show Hid _ from row_cons p b t)
      cases hpb : p b
      · go_wp2_with (go_at_fn g; refine (HC.out _).mono ?_; rintro e w1 ⟨rfl, hw1⟩; subst w1)
        go_ret
        refine ⟨ret_int ?_, rfl⟩
        rw [← h2.out, HR.out, hpb]
        rfl
      · go_wp2_with (go_at_fn g; refine (HC.out _).mono ?_; rintro e w1 ⟨rfl, hw1⟩; subst w1)
        go_round
        case rel =>
          refine ⟨t, ?_, h1.out.tail, ?_⟩
          · rw [hsu.out]; go_num
          · show _ = _
            have e := h2.out
            have e2 := hsu.out
            rw [HR.out, hpb, if_pos rfl] at e
            omega
        case measure => simp [intOf]; omega

/-- run: how many of a byte a text begins with. -/
theorem lrun_any (s : ByteArray) (hs : s.size ≤ 9223372036854775000) (c : UInt8) (w : World) :
    Calls Tryz.prog 64 #[.string s, .int .u8 (c.toNat : Int)] w fun e w' => e = .returned (.int .i64 (runB c s.data.toList : Int)) ∧ Below w.heap.size w w' := by
  have hc : ∀ X : World, X = w.alloc (.cells #[.int .u8 (c.toNat : Int)] 5) → X.cell? ⟨w.heap.size, 0, none⟩ = some (.int .u8 (c.toNat : Int)) := fun X hX => by
    rw [hX]
    exact lit_cells w [.int .u8 (c.toNat : Int)] 5 0 _ rfl
  have HC := (show Hid _ from hc)
  clear hc
  go_enter Tryz.func64, Tryz.ntmps64
  go_wp2_with (go_at_call 89; refine (lrow_any (lrun_kind _ c) s hs _ (HC.out _ rfl)).mono ?_; rintro e w1 ⟨rfl, hw1⟩; subst w1)
  go_ret
  exact ⟨rfl, (Below.refl _ _).alloc (Nat.le_refl _) _⟩

end Go.Proofs.YtcbojffcnlkejaaGreatDoor
