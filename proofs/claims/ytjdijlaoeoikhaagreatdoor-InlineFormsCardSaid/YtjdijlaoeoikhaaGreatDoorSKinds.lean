/- Bytes and rows of bytes in package span: letter, letterOrDigit, has, the kinds of bytes, IndexByte, row, all. -/
import Derived.Test.YtjdijlaoeoikhaaGreatDoorG06
import Derived.Lib.Bytealg
import Derived.Shelf.Abstract
set_option linter.unusedVariables false
namespace Go.Proofs.YtjdijlaoeoikhaaGreatDoor
open Go.RowKit

def letN (c : Nat) : Bool := (decide (97 ≤ c) && decide (c ≤ 122)) || (decide (65 ≤ c) && decide (c ≤ 90))
def digN (c : Nat) : Bool := decide (48 ≤ c) && decide (c ≤ 57)
def ldN (c : Nat) : Bool := letN c || digN c

theorem letB (c : UInt8) : letterB c = letN c.toNat := rfl
theorem digB (c : UInt8) : digitB c = digN c.toNat := rfl
theorem eqN (c : UInt8) (n : Nat) (hn : n < 256) : (c == n.toUInt8) = decide (c.toNat = n) := by
  have h1 : n.toUInt8.toNat = n := by simp; omega
  rw [Bool.eq_iff_iff, beq_iff_eq, decide_eq_true_eq]
  constructor
  · rintro rfl; exact h1
  · intro h; apply UInt8.toNat_inj.1; rw [h1]; exact h

theorem letter_any (c : Nat) (w : World) :
    Calls Tryz.prog 53 #[.int .u8 (c : Int)] w fun e w' => e = .returned (.bool (letN c)) ∧ w' = w := by
  have hc : c < 65 ∨ (65 ≤ c ∧ c ≤ 90) ∨ (90 < c ∧ c < 97) ∨ (97 ≤ c ∧ c ≤ 122) ∨ 122 < c := by omega
  rcases hc with h | ⟨h, h'⟩ | ⟨h, h'⟩ | ⟨h, h'⟩ | h
  all_goals
    go_enter Tryz.func53, Tryz.ntmps53
    go_wp2
    go_ret
    exact ⟨ret_bool (by unfold letN; rw [Bool.eq_iff_iff]; simp; omega), rfl⟩

theorem ld_any (c : Nat) (w : World) :
    Calls Tryz.prog 112 #[.int .u8 (c : Int)] w fun e w' => e = .returned (.bool (ldN c)) ∧ w' = w := by
  have hl : letN c = ((decide (97 ≤ c) && decide (c ≤ 122)) || (decide (65 ≤ c) && decide (c ≤ 90))) := rfl
  have hc : c < 48 ∨ (48 ≤ c ∧ c ≤ 57) ∨ (57 < c ∧ c < 65) ∨ (65 ≤ c ∧ c ≤ 90) ∨ (90 < c ∧ c < 97) ∨ (97 ≤ c ∧ c ≤ 122) ∨ 122 < c := by omega
  rcases hc with h | ⟨h, h'⟩ | ⟨h, h'⟩ | ⟨h, h'⟩ | ⟨h, h'⟩ | ⟨h, h'⟩ | h
  all_goals
    first
      | have hl2 : letN c = true := by rw [hl, Bool.eq_iff_iff]; simp; omega
      | have hl2 : letN c = false := by rw [hl, Bool.eq_iff_iff]; simp; omega
    clear hl
    go_enter Tryz.func112, Tryz.ntmps112
    go_wp2_with (go_at_call 53; refine (letter_any _ _).mono ?_; rintro e w' ⟨rfl, rfl⟩)
    go_ret
    exact ⟨ret_bool (by unfold ldN digN; rw [hl2, Bool.eq_iff_iff]; simp; try omega), rfl⟩

/-- The entry for which the model stands in. -/
theorem index_entry (s : ByteArray) (c : Int) (w : World) : (callFunc 111 #[.string s, .int .u8 c]).run Tryz.prog w = .ok (.value (.int .i64 (Lib.indexByte s.data.toList c.toNat.toUInt8))) w := by
  rw [run_callFunc_extern (e := Extern.BytealgIndexByte.indexByte) Tryz.func111 (by kernel_rfl) (by kernel_rfl) (by kernel_rfl) (by kernel_rfl), Lib.run_indexByteString]
  rfl

theorem stringslite_any (s : ByteArray) (c : Int) (w : World) :
    Calls Tryz.prog 78 #[.string s, .int .u8 c] w fun e w' => e = .returned (.int .i64 (Lib.indexByte s.data.toList c.toNat.toUInt8)) ∧ w' = w := by
  have hx := index_entry s c
  go_enter Tryz.func78, Tryz.ntmps78
  go_wp2
  go_ret
  exact ⟨rfl, rfl⟩

theorem indexByte_any (s : ByteArray) (c : Int) (w : World) :
    Calls Tryz.prog 49 #[.string s, .int .u8 c] w fun e w' => e = .returned (.int .i64 (Lib.indexByte s.data.toList c.toNat.toUInt8)) ∧ w' = w := by
  go_enter Tryz.func49, Tryz.ntmps49
  go_wp2_with (go_at_call 78; refine (stringslite_any _ _ _).mono ?_; rintro e w' ⟨rfl, rfl⟩)
  go_ret
  exact ⟨rfl, rfl⟩

theorem back8 (c : UInt8) : (c.toNat : Int).toNat.toUInt8 = c := by simp

theorem idx_neg (l : List UInt8) (c : UInt8) : c ∉ l → Lib.indexByte l c = -1 := by
  induction l with
  | nil => intro _; rfl
  | cons b t ih =>
    intro h
    simp only [List.mem_cons, not_or] at h
    unfold Lib.indexByte
    rw [ih h.2, if_neg (by simpa using fun e => h.1 e.symm)]
    rfl
theorem idx_pos (l : List UInt8) (c : UInt8) : c ∈ l → ∃ k : Nat, Lib.indexByte l c = k ∧ k < l.length := by
  induction l with
  | nil => intro h; cases h
  | cons b t ih =>
    intro h
    unfold Lib.indexByte
    by_cases hb : b = c
    · rw [if_pos (by rw [hb]; simp)]; exact ⟨0, rfl, by simp⟩
    · rw [if_neg (by simpa using hb)]
      rcases List.mem_cons.1 h with e | h
      · exact absurd e.symm hb
      · obtain ⟨k, hk, hl⟩ := ih h
        rw [hk, if_neg (by simp)]
        exact ⟨k + 1, by omega, by simp; omega⟩

/-- Is a byte in a text of the program's? As IndexByte tells. -/
theorem among_any (s : ByteArray) (c : UInt8) (w : World) :
    Calls Tryz.prog 49 #[.string s, .int .u8 (c.toNat : Int)] w fun e w' => (∃ k : Int, e = .returned (.int .i64 k) ∧ (s.data.toList.elem c = true → 0 ≤ k) ∧ (s.data.toList.elem c = false → k < 0)) ∧ w' = w := by
  refine (indexByte_any s c.toNat w).mono ?_
  rintro e w' ⟨rfl, rfl⟩
  rw [back8]
  refine ⟨⟨_, rfl, fun h => ?_, fun h => ?_⟩, rfl⟩
  · obtain ⟨k, hk, _⟩ := idx_pos _ _ (List.elem_iff.1 h)
    rw [hk]; omega
  · rw [idx_neg _ _ (fun hm => by rw [List.elem_iff.2 hm] at h; cases h)]; omega

/-! ### Kinds of bytes -/

/-- A function of the program that tells a kind of bytes. -/
def Kind (g : Nat) (p : UInt8 → Bool) : Prop :=
  (∀ args w, (callFunc g args).run Tryz.prog w = .ok (.enter g args) w) ∧ ∀ (c : UInt8) (w : World), Calls Tryz.prog g #[.int .u8 (c.toNat : Int)] w fun e w' => e = .returned (.bool (p c)) ∧ w' = w

theorem accent_kind : Kind 74 (· == 96) := by
  refine ⟨enters_of Tryz.func74 (by kernel_rfl) rfl, fun c w => ?_⟩
  have he := eqN c 96 (by omega)
  go_enter Tryz.func74, Tryz.ntmps74
  go_wp2
  go_ret
  exact ⟨ret_bool (by show _ = (c == Nat.toUInt8 96); rw [he, Bool.eq_iff_iff]; simp; omega), rfl⟩

theorem name_kind : Kind 141 nameC := by
  refine ⟨enters_of Tryz.func141 (by kernel_rfl) rfl, fun c w => ?_⟩
  have he := eqN c 45 (by omega)
  have hn : nameC c = (ldN c.toNat || c == Nat.toUInt8 45) := rfl
  rw [he] at hn
  have HN := (show Hid _ from hn)
  clear he hn
  cases hl : ldN c.toNat <;> by_cases h45 : c.toNat = 45
  all_goals
    go_enter Tryz.func141, Tryz.ntmps141
    go_wp2_with (go_at_call 112; refine (ld_any _ _).mono ?_; rintro e w' ⟨rfl, rfl⟩)
    go_ret
    exact ⟨ret_bool (by rw [HN.out, hl]; simp [h45]; try omega), rfl⟩

theorem part_kind : Kind 114 nameC := by
  refine ⟨enters_of Tryz.func114 (by kernel_rfl) rfl, fun c w => ?_⟩
  have he := eqN c 45 (by omega)
  have hn : nameC c = (ldN c.toNat || c == Nat.toUInt8 45) := rfl
  rw [he] at hn
  have HN := (show Hid _ from hn)
  clear he hn
  cases hl : ldN c.toNat <;> by_cases h45 : c.toNat = 45
  all_goals
    go_enter Tryz.func114, Tryz.ntmps114
    go_wp2_with (go_at_call 112; refine (ld_any _ _).mono ?_; rintro e w' ⟨rfl, rfl⟩)
    go_ret
    exact ⟨ret_bool (by rw [HN.out, hl]; simp [h45]; try omega), rfl⟩

/-- As a kind that asks letterOrDigit first, then a text. -/
theorem kind_text (l : List UInt8) (c : UInt8) (b : Bool) (k : Int) (h1 : l.elem c = true → 0 ≤ k) (h2 : l.elem c = false → k < 0) : (decide (0 ≤ k)) = l.elem c := by
  cases h : l.elem c
  · have := h2 h; simp; omega
  · have := h1 h; simp; omega

theorem attr_mem (c : UInt8) : attrC c = (ldN c.toNat || [95, 46, 58, 45].elem c) := by
  unfold attrC ldN
  rw [letB, digB]
  simp only [List.elem_cons, List.elem_nil, Bool.or_assoc]
  cases letN c.toNat <;> cases digN c.toNat <;> simp <;> (cases c == 95 <;> cases c == 46 <;> cases c == 58 <;> cases c == 45 <;> rfl)

set_option maxHeartbeats 1000000 in
theorem attr_kind : Kind 143 attrC := by
  refine ⟨enters_of Tryz.func143 (by kernel_rfl) rfl, fun c w => ?_⟩
  have HN := (show Hid _ from attr_mem c)
  cases hl : ldN c.toNat
  · go_enter Tryz.func143, Tryz.ntmps143
    go_wp2_with (first
      | (go_at_call 112; refine (ld_any _ _).mono ?_; rintro e w' ⟨rfl, rfl⟩)
      | (go_at_call 49; refine (among_any _ _ _).mono ?_; rintro e w' ⟨⟨k, rfl, h1, h2⟩, rfl⟩))
    go_ret
    exact ⟨ret_bool (by rw [HN.out, hl, Bool.false_or]; exact kind_text _ _ true k h1 h2), rfl⟩
  · go_enter Tryz.func143, Tryz.ntmps143
    go_wp2_with (go_at_call 112; refine (ld_any _ _).mono ?_; rintro e w' ⟨rfl, rfl⟩)
    go_ret
    exact ⟨ret_bool (by rw [HN.out, hl, Bool.true_or]), rfl⟩

theorem mail_mem (c : UInt8) : mailC c = (ldN c.toNat || [46, 33, 35, 36, 37, 38, 39, 42, 43, 47, 61, 63, 94, 95, 123, 124, 125, 126, 45, 96].elem c) := rfl

set_option maxHeartbeats 1000000 in
theorem mail_kind : Kind 82 mailC := by
  refine ⟨enters_of Tryz.func82 (by kernel_rfl) rfl, fun c w => ?_⟩
  have HN := (show Hid _ from mail_mem c)
  cases hl : ldN c.toNat
  · go_enter Tryz.func82, Tryz.ntmps82
    go_wp2_with (first
      | (go_at_call 112; refine (ld_any _ _).mono ?_; rintro e w' ⟨rfl, rfl⟩)
      | (go_at_call 49; refine (among_any _ _ _).mono ?_; rintro e w' ⟨⟨k, rfl, h1, h2⟩, rfl⟩))
    go_ret
    exact ⟨ret_bool (by rw [HN.out, hl, Bool.false_or]; exact kind_text _ _ true k h1 h2), rfl⟩
  · go_enter Tryz.func82, Tryz.ntmps82
    go_wp2_with (go_at_call 112; refine (ld_any _ _).mono ?_; rintro e w' ⟨rfl, rfl⟩)
    go_ret
    exact ⟨ret_bool (by rw [HN.out, hl, Bool.true_or]), rfl⟩

theorem unq_mem (c : UInt8) : unqC c = !([9, 10, 32, 34, 39, 61, 60, 62, 96].elem c) := by
  unfold unqC
  simp only [List.elem_cons, List.elem_nil, Bool.or_assoc]
  cases c == 9 <;> cases c == 10 <;> cases c == 32 <;> cases c == 34 <;> cases c == 39 <;> cases c == 61 <;> cases c == 60 <;> cases c == 62 <;> cases c == 96 <;> rfl

set_option maxHeartbeats 1000000 in
theorem unq_kind : Kind 154 unqC := by
  refine ⟨enters_of Tryz.func154 (by kernel_rfl) rfl, fun c w => ?_⟩
  have HN := (show Hid _ from unq_mem c)
  go_enter Tryz.func154, Tryz.ntmps154
  go_wp2_with (go_at_call 49; refine (among_any _ _ _).mono ?_; rintro e w' ⟨⟨k, rfl, h1, h2⟩, rfl⟩)
  go_ret
  refine ⟨ret_bool ?_, rfl⟩
  have h3 := kind_text _ _ true k h1 h2
  rw [HN.out]
  show _ = !(List.elem c [9, 10, 32, 34, 39, 61, 60, 62, 96])
  rw [show List.elem c [9, 10, 32, 34, 39, 61, 60, 62, 96] = decide (0 ≤ k) from h3.symm]
  by_cases hk : 0 ≤ k <;> simp [hk] <;> omega

theorem sch_mem (c : UInt8) : schC c = (ldN c.toNat || decide (c.toNat = 43) || decide (c.toNat = 46) || decide (c.toNat = 45)) := by
  have h1 := eqN c 43 (by omega)
  have h2 := eqN c 46 (by omega)
  have h3 := eqN c 45 (by omega)
  rw [← h1, ← h2, ← h3]
  rfl

set_option maxHeartbeats 1000000 in
theorem scheme_kind : Kind 80 schC := by
  refine ⟨enters_of Tryz.func80 (by kernel_rfl) rfl, fun c w => ?_⟩
  have HN := (show Hid _ from sch_mem c)
  have hc : (c.toNat = 43 ∨ c.toNat = 46 ∨ c.toNat = 45) ∨ (¬ c.toNat = 43 ∧ ¬ c.toNat = 46 ∧ ¬ c.toNat = 45) := by omega
  cases hl : ldN c.toNat
  all_goals
    rcases hc with (h | h | h) | ⟨h, h', h''⟩
    all_goals
      go_enter Tryz.func80, Tryz.ntmps80
      go_wp2_with (go_at_call 112; refine (ld_any _ _).mono ?_; rintro e w' ⟨rfl, rfl⟩)
      go_ret
      exact ⟨ret_bool (by rw [HN.out, hl, Bool.eq_iff_iff]; simp <;> omega), rfl⟩

theorem link_mem (c : UInt8) : linkC c = (decide (32 < c.toNat) && !decide (c.toNat = 127) && !decide (c.toNat = 60) && !decide (c.toNat = 62)) := by
  have h1 := eqN c 127 (by omega)
  have h2 := eqN c 60 (by omega)
  have h3 := eqN c 62 (by omega)
  rw [← h1, ← h2, ← h3]
  rfl

set_option maxHeartbeats 1000000 in
theorem place_kind : Kind 81 linkC := by
  refine ⟨enters_of Tryz.func81 (by kernel_rfl) rfl, fun c w => ?_⟩
  have HN := (show Hid _ from link_mem c)
  have hc : c.toNat ≤ 32 ∨ (32 < c.toNat ∧ (c.toNat = 127 ∨ c.toNat = 60 ∨ c.toNat = 62)) ∨ (32 < c.toNat ∧ ¬ c.toNat = 127 ∧ ¬ c.toNat = 60 ∧ ¬ c.toNat = 62) := by omega
  rcases hc with h | ⟨h, h' | h' | h'⟩ | ⟨h, h', h'', h3⟩
  all_goals
    go_enter Tryz.func81, Tryz.ntmps81
    go_wp2
    go_ret
    exact ⟨ret_bool (by rw [HN.out, Bool.eq_iff_iff]; simp <;> omega), rfl⟩

/-! ### Rows -/

set_option maxHeartbeats 1000000 in
/-- row: where the bytes of a kind that stand at a place end. -/
theorem row_any {g : Nat} {p : UInt8 → Bool} (hk : Kind g p) (s : ByteArray) (hs : s.size ≤ 9223372036854775000) (l : List UInt8) (hl : Suf s l) (w : World) :
    Calls Tryz.prog 73 #[.string s, .int .i64 (pos s l : Int), .func (.func g) #[] #[]] w fun e w' => e = .returned (.int .i64 (pos s (l.dropWhile p) : Int)) ∧ w' = w := by
  obtain ⟨hen, hcall⟩ := hk
  go_enter Tryz.func73, Tryz.ntmps73
  go_wp2
  go_loop [1] (fun A => ∃ l' : List UInt8, A = .int .i64 (pos s l' : Int) ∧ Hid (Suf s l') ∧ Hid (l'.dropWhile p = l.dropWhile p)) (fun A => s.size - (intOf A).toNat)
  case atStart => exact ⟨l, rfl, hl, rfl⟩
  case round =>
    obtain ⟨l', rfl, h1, h2⟩ := hrel
    cases l' with
    | nil =>
      have hp : pos s [] = s.size := pos_nil s
      go_wp2
      go_ret
      exact ⟨ret_int (by rw [← h2.out]; exact congrArg _ (pos_nil s).symm), rfl⟩
    | cons b t =>
      have hlt := h1.out.lt
      have hb := h1.out.byte hlt
      have hle : (pos s (b :: t) : Int) + 1 ≤ (s.size : Int) := by omega
      cases hpb : p b
      · go_wp2_with (go_at_fn g; refine (hcall _ _).mono ?_; rintro e w' ⟨rfl, rfl⟩)
        go_ret
        refine ⟨ret_int ?_, rfl⟩
        rw [← h2.out, List.dropWhile_cons, hpb]
        rfl
      · go_wp2_with (go_at_fn g; refine (hcall _ _).mono ?_; rintro e w' ⟨rfl, rfl⟩)
        go_round
        case rel =>
          refine ⟨t, ?_, h1.out.tail, ?_⟩
          · rw [h1.out.succ]; go_num
          · show t.dropWhile p = _
            rw [← h2.out, List.dropWhile_cons, hpb]
            rfl
        case measure => simp [intOf]; omega

end Go.Proofs.YtjdijlaoeoikhaaGreatDoor
