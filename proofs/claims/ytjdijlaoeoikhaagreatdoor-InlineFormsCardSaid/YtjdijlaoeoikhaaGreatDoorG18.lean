/- Several texts in one. -/
import Derived.Test.YtjdijlaoeoikhaaGreatDoorG06
import Derived.Test.YtjdijlaoeoikhaaGreatDoorG04
import Derived.Test.YtjdijlaoeoikhaaGreatDoorG17
import Derived.Test.YtjdijlaoeoikhaaGreatDoorG10
import Derived.Deep.QuietTactic
import Derived.BigQuiet
import Derived.Deep.RegionWith
set_option linter.unusedVariables false
/- Package link: a byte at a place, a step, what is enclosed; walked. -/
namespace Go.Proofs.YtjdijlaoeoikhaaGreatDoor.lnk
open Go.RowKit

def hdB (l : List UInt8) (c : UInt8) : Bool := match l with
  | [] => false
  | b :: _ => b == c

theorem khas_any (s : ByteArray) (l : List UInt8) (hl : Suf s l) (z : Int) (hz : z = (pos s l : Int)) (c : UInt8) (y : Int) (hy : y = (c.toNat : Int)) (w : World) :
    Calls Tryz.prog 127 #[.string s, .int .i64 z, .int .u8 y] w fun e w' => e = .returned (.bool (hdB l c)) ∧ w' = w := by
  subst hz
  subst hy
  cases l with
  | nil =>
    have hp : pos s [] = s.size := pos_nil s
    go_enter Tryz.func127, Tryz.ntmps127
    go_wp2
    go_ret
    exact ⟨rfl, rfl⟩
  | cons b t =>
    have hlt := hl.lt
    have hb := hl.byte hlt
    go_enter Tryz.func127, Tryz.ntmps127
    go_wp2
    go_ret
    refine ⟨ret_bool ?_, rfl⟩
    show _ = (b == c)
    rw [Bool.eq_iff_iff]
    simp only [beq_iff_eq]
    constructor
    · intro h; exact UInt8.toNat_inj.1 (by omega)
    · rintro rfl; rfl

theorem kmark_any (c : UInt8) (w : World) :
    Calls Tryz.prog 30 #[.int .u8 (c.toNat : Int)] w fun e w' => e = .returned (.bool (markN c.toNat)) ∧ w' = w := esc.mark_any c.toNat w

/-- How many bytes to go on by. -/
def stepL : List UInt8 → Nat
  | b :: c :: _ => if b = 92 ∧ markN c.toNat = true then 2 else 1
  | _ => 1

set_option maxHeartbeats 1000000 in
theorem kstep_any (s : ByteArray) (hs : s.size ≤ 9223372036854775000) (b : UInt8) (t : List UInt8) (hl : Suf s (b :: t)) (w : World) :
    Calls Tryz.prog 129 #[.string s, .int .i64 (pos s (b :: t) : Int)] w fun e w' => e = .returned (.int .i64 (stepL (b :: t) : Int)) ∧ w' = w := by
  have hlt := hl.lt
  have hb := hl.byte hlt
  by_cases h92 : b = 92
  · subst h92
    have hc : ((92 : UInt8).toNat : Int) = 92 := rfl
    have hn := (show Hid _ from hl.succ)
    cases t with
    | nil =>
      have hp : ¬ (pos s [92] : Int) + 1 < (s.size : Int) := by have := hl.sum; simp at this; omega
      go_enter Tryz.func129, Tryz.ntmps129
      go_wp2
      go_ret
      exact ⟨rfl, rfl⟩
    | cons c u =>
      have hlt2 := hl.tail.lt
      have hb2 := hl.tail.byte hlt2
      have e2 := hl.succ
      have hlt3 : pos s (92 :: c :: u) + 1 < s.size := by omega
      have hb3 : s[pos s (92 :: c :: u) + 1] = c := by rw [← hb2]; congr 1; exact e2.symm
      have hp : (pos s (92 :: c :: u) : Int) + 1 < (s.size : Int) := by omega
      have hp2 : 0 ≤ (pos s (92 :: c :: u) : Int) + 1 := by omega
      clear hb2 hlt2 hn e2
      have HS : Hid (stepL (92 :: c :: u) = if markN c.toNat = true then 2 else 1) := by show _ = _; simp [stepL]
      cases hm : markN c.toNat
      all_goals
        rw [hm] at HS
        have HM := (show Hid _ from fun w => kmark_any c w)
        rw [hm] at HM
        clear hm
        go_enter Tryz.func129, Tryz.ntmps129
        go_wp2_with (go_at_call 30; refine (HM.out _).mono ?_; rintro e w' ⟨rfl, rfl⟩)
        go_ret
        exact ⟨ret_int (by rw [HS.out]; rfl), rfl⟩
  · have hn : ¬ (b.toNat : Int) = 92 := by intro h; exact h92 (UInt8.toNat_inj.1 (by show _ = 92; omega))
    have hn2 : ((b.toNat : Int) == 92) = false := by simpa using hn
    have HS : Hid (stepL (b :: t) = 1) := by
      show _ = _
      cases t with
      | nil => rfl
      | cons c u => simp only [stepL]; rw [if_neg (fun x => h92 x.1)]
    go_enter Tryz.func129, Tryz.ntmps129
    go_wp2
    go_ret
    exact ⟨ret_int (by rw [HS.out]; rfl), rfl⟩

/-! ### A byte among some -/

theorem back8 (c : UInt8) : (c.toNat : Int).toNat.toUInt8 = c := by simp

theorem idx_neg (l : List UInt8) (c : UInt8) : c ∉ l → Lib.indexByte l c = -1 := by
  induction l with
  | nil => intro _; rfl
  | cons b t ih =>
    intro h
    simp only [List.mem_cons, not_or] at h
    unfold Lib.indexByte
    rw [ih h.2, if_neg (by simpa using fun e => h.1 e.symm)]
    rfl
theorem idx_pos (l : List UInt8) (c : UInt8) : c ∈ l → ∃ k : Nat, Lib.indexByte l c = k ∧ k < l.length := by
  induction l with
  | nil => intro h; cases h
  | cons b t ih =>
    intro h
    unfold Lib.indexByte
    by_cases hb : b = c
    · rw [if_pos (by rw [hb]; simp)]; exact ⟨0, rfl, by simp⟩
    · rw [if_neg (by simpa using hb)]
      rcases List.mem_cons.1 h with e | h
      · exact absurd e.symm hb
      · obtain ⟨k, hk, hl⟩ := ih h
        rw [hk, if_neg (by simp)]
        exact ⟨k + 1, by omega, by simp; omega⟩


/-- Is a byte in a text of the program's? As IndexByte tells. -/
theorem kamong_any (s : ByteArray) (c : UInt8) (w : World) :
    Calls Tryz.prog 49 #[.string s, .int .u8 (c.toNat : Int)] w fun e w' => (∃ k : Int, e = .returned (.int .i64 k) ∧ (s.data.toList.elem c = true → 0 ≤ k) ∧ (s.data.toList.elem c = false → k < 0)) ∧ w' = w := by
  refine (esc.indexByte_any s c.toNat w).mono ?_
  rintro e w' ⟨rfl, rfl⟩
  rw [back8]
  refine ⟨⟨_, rfl, fun h => ?_, fun h => ?_⟩, rfl⟩
  · obtain ⟨k, hk, _⟩ := idx_pos _ _ (List.elem_iff.1 h)
    omega
  · rw [idx_neg _ _ (fun x => by rw [List.elem_iff.2 x] at h; cases h)]
    omega

end Go.Proofs.YtjdijlaoeoikhaaGreatDoor.lnk

/- Package link: enclosed, inside; walked. -/
namespace Go.Proofs.YtjdijlaoeoikhaaGreatDoor.lnk
open Go.RowKit

theorem scan_bad {stop : UInt8} {bad : UInt8 → Bool} {b : UInt8} (h1 : b ≠ stop) (h2 : bad b = true) : ∀ t, scanU stop bad (b :: t) = none
  | [] => by simp [scanU, h1]
  | c :: t => by simp [scanU, h1, h2]

theorem scan_step {stop : UInt8} {bad : UInt8 → Bool} {b : UInt8} (h1 : b ≠ stop) (h2 : bad b = false) : ∀ t, scanU stop bad (b :: t) = scanU stop bad ((b :: t).drop (stepL (b :: t)))
  | [] => by simp [scanU, h1, stepL]
  | c :: t => by
    by_cases h3 : b = 92 ∧ markN c.toNat = true
    · rw [scan_two h1 h2 h3]
      simp only [stepL]
      rw [if_pos h3]
      rfl
    · rw [scan_next h1 h2 h3]
      simp only [stepL]
      rw [if_neg h3]
      rfl

theorem step_le : ∀ (b : UInt8) (t : List UInt8), 1 ≤ stepL (b :: t) ∧ stepL (b :: t) ≤ (b :: t).length
  | b, [] => by simp [stepL]
  | b, c :: t => by
    simp only [stepL]
    split <;> simp

theorem pos_drop {s : ByteArray} {l : List UInt8} (h : Suf s l) {n : Nat} (hn : n ≤ l.length) : pos s (l.drop n) = pos s l + n := by
  have := h.le
  unfold pos
  rw [List.length_drop]
  omega

set_option maxHeartbeats 2000000 in
set_option maxRecDepth 8000 in
theorem kencl_any (s : ByteArray) (hs : s.size ≤ 9223372036854775000) (first last : UInt8) (x y : Int) (hx : x = (first.toNat : Int)) (hy : y = (last.toNat : Int)) (never : ByteArray) (bad : UInt8 → Bool) (hb : ∀ b, never.data.toList.elem b = bad b) (w : World) :
    Calls Tryz.prog 100 #[.string s, .int .u8 x, .int .u8 y, .string never] w fun e w' => e = .returned (.int .i64 (enclL first last bad s.data.toList : Int)) ∧ w' = w := by
  subst hx
  subst hy
  have HB : Hid (∀ b, never.data.toList.elem b = bad b) := hb
  clear hb
  cases hl : s.data.toList with
  | nil =>
    have H0 := (show Hid _ from fun w => khas_any s [] (Suf.nil s) 0 (by rw [pos_nil]; have := len_data s; rw [hl] at this; simp at this; omega) first _ rfl w)
    clear hl
    go_enter Tryz.func100, Tryz.ntmps100
    go_wp2_with (go_at_call 127; refine (H0.out _).mono ?_; rintro e w' ⟨rfl, rfl⟩)
    go_ret
    exact ⟨rfl, rfl⟩
  | cons a t =>
    have hw : Suf s (a :: t) := Suf.head hl
    have hp0 : pos s (a :: t) = 0 := pos_of (p := []) hl
    have H0 := (show Hid _ from fun w => khas_any s (a :: t) hw 0 (by rw [hp0]; rfl) first _ rfl w)
    have HE : Hid (enclL first last bad (a :: t) = if a = first then (match scanU last bad t with
      | none => 0
      | some r => t.length - r.length + 1) else 0) := rfl
    have HL : Hid (s.size = t.length + 1) := by show _ = _; rw [← len_data, hl]; rfl
    by_cases ha : a = first
    · have hh : hdB (a :: t) first = true := by simp [hdB, ha]
      rw [hh] at H0
      have HW : Hid (Suf s t) := hw.tail
      have HP : Hid (pos s t = 1) := by show _ = _; rw [hw.succ, hp0]
      have HF : Hid (enclL first last bad (a :: t) = match scanU last bad t with
        | none => 0
        | some r => t.length - r.length + 1) := by show _ = _; rw [HE.out, if_pos ha]
      clear hl hp0 hh ha HE
      go_enter Tryz.func100, Tryz.ntmps100
      go_wp2_with (go_at_call 127; refine (H0.out _).mono ?_; rintro e w' ⟨rfl, hw'⟩; subst w')
      go_loopw [9] (fun A wr => ∃ l' : List UInt8, A = .int .i64 (pos s l' : Int) ∧ Hid (wr = w) ∧ Hid (Suf s l') ∧ Hid (scanU last bad t = scanU last bad l')) (fun A _ => s.size - (intOf A).toNat)
      case atStart => exact ⟨t, by rw [HP.out]; rfl, rfl, HW.out, rfl⟩
      case round =>
        obtain ⟨l', rfl, hbw, h1, h2⟩ := hrel
        cases l' with
        | nil =>
          have hp : pos s [] = s.size := pos_nil s
          go_wp2
          go_ret
          refine ⟨ret_int ?_, hbw.out⟩
          rw [HF.out, h2.out]
          rfl
        | cons b u =>
          have hlt := h1.out.lt
          have hbb := h1.out.byte hlt
          by_cases hstop : b = last
          · subst hstop
            have hle : (pos s (b :: u) : Int) + 1 ≤ (s.size : Int) := by omega
            go_wp2
            go_ret
            refine ⟨ret_int ?_, hbw.out⟩
            rw [HF.out, h2.out, scan_one]
            have e1 := h1.out.sum
            have e2 := HL.out
            simp only [List.length_cons] at e1
            show (pos s (b :: u) : Int) + 1 = ((t.length - u.length + 1 : Nat) : Int)
            omega
          · have q : ((b.toNat : Int) == (last.toNat : Int)) = false := by
              rw [beq_eq_false_iff_ne]
              intro h
              exact hstop (UInt8.toNat_inj.1 (by omega))
            cases hbad : bad b
            · have HI : Hid (never.data.toList.elem b = false) := by show _ = _; rw [HB.out, hbad]
              have HS := (show Hid _ from fun w => kstep_any s hs b u h1.out w)
              have hst := step_le b u
              have e1 := h1.out.sum
              have HN : Hid (scanU last bad t = scanU last bad ((b :: u).drop (stepL (b :: u)))) := h2.out.trans (scan_step hstop hbad u)
              have HD : Hid (pos s ((b :: u).drop (stepL (b :: u))) = pos s (b :: u) + stepL (b :: u)) := pos_drop h1.out hst.2
              generalize stepL (b :: u) = k at *
              clear hbad hstop
              have hk1 : (pos s (b :: u) : Int) + (k : Int) ≤ (s.size : Int) := by omega
              have hk2 : 1 ≤ (k : Int) := by omega
              go_wp2_with (first
                | (go_at_call 49; refine (kamong_any _ _ _).mono ?_; rintro e w' ⟨⟨i, rfl, _, hi⟩, rfl⟩; have hi2 := hi HI.out; clear hi)
                | (go_at_call 129; refine (HS.out _).mono ?_; rintro e w' ⟨rfl, rfl⟩))
              go_roundw
              case rel =>
                refine ⟨(b :: u).drop k, ?_, hbw, h1.out.drop k, HN⟩
                rw [HD.out]
                go_num
              case measure => simp [intOf]; omega
            · have HI : Hid (never.data.toList.elem b = true) := by show _ = _; rw [HB.out, hbad]
              go_wp2_with (go_at_call 49; refine (kamong_any _ _ _).mono ?_; rintro e w' ⟨⟨i, rfl, hi, _⟩, rfl⟩; have hi2 := hi HI.out; clear hi)
              go_ret
              refine ⟨ret_int ?_, hbw.out⟩
              rw [HF.out, h2.out, scan_bad hstop hbad]
              rfl
    · have hh : hdB (a :: t) first = false := by simp [hdB, ha]
      rw [hh] at H0
      have HF : Hid (enclL first last bad (a :: t) = 0) := by show _ = _; rw [HE.out, if_neg ha]
      clear hl hp0 hh ha HE HL
      go_enter Tryz.func100, Tryz.ntmps100
      go_wp2_with (go_at_call 127; refine (H0.out _).mono ?_; rintro e w' ⟨rfl, rfl⟩)
      go_ret
      exact ⟨ret_int (by rw [HF.out]; rfl), rfl⟩

/-- What stands between, unescaped. -/
theorem kinside_any (s : ByteArray) (hs : s.size ≤ 9223372036854775000) (n : Nat) (hm : n ≤ 140737488351232) (hn : n ≤ s.size) (h2 : n = 0 ∨ 2 ≤ n) (w : World) :
    Calls Tryz.prog 128 #[.string s, .int .i64 (n : Int)] w fun e w' => e = .returned (.string ⟨(if n = 0 then [] else unesc ((s.data.toList.drop 1).take (n - 2))).toArray⟩) ∧ Below w.heap.size w w' := by
  rcases h2 with rfl | h2
  · go_enter Tryz.func128, Tryz.ntmps128
    go_wp2
    go_ret
    exact ⟨rfl, Below.refl _ _⟩
  · have hx : s.extract 1 (n - 1) = ⟨((s.data.toList.drop 1).take (n - 2)).toArray⟩ := by rw [extract_eq, show n - 1 - 1 = n - 2 by omega]
    have hz : (s.extract 1 (n - 1)).size ≤ 140737488351232 := by rw [ByteArray.size_extract]; omega
    have HU := (show Hid _ from fun w => esc.unesc_any (s.extract 1 (n - 1)) w hz)
    have HV : Hid ((s.extract 1 (n - 1)).data.toList = (s.data.toList.drop 1).take (n - 2)) := by show _ = _; rw [hx]
    rw [HV.out] at HU
    have hq : ((n : Int) == 0) = false := by simp; omega
    have hq2 : (n : Int) - 1 = ((n - 1 : Nat) : Int) := by omega
    have hq3 : 1 ≤ n - 1 := by omega
    have hq4 : n - 1 ≤ s.size := by omega
    rw [if_neg (by omega)]
    clear hx hz HV
    generalize unesc ((s.data.toList.drop 1).take (n - 2)) = U at *
    go_enter Tryz.func128, Tryz.ntmps128
    go_wp2_with (go_at_call 130; refine (HU.out _).mono ?_; rintro e w' ⟨rfl, hb⟩)
    go_ret
    exact ⟨rfl, hb⟩

end Go.Proofs.YtjdijlaoeoikhaaGreatDoor.lnk

/- Package link: spaces, Label; walked. -/
namespace Go.Proofs.YtjdijlaoeoikhaaGreatDoor.lnk
open Go.RowKit

theorem nil_text (x : ByteArray) (b : Bool) (h : x.data.toList.isEmpty = b) : x.toList.isEmpty = b := by rw [ByteArray.toList_eq]; exact h

theorem iterPos_of {w : World} {k : Nat} {s : ByteArray} {pos : Nat} (h : w.heap[k]? = some (.stringIter s pos)) : w.iterPos k = pos := by simp [World.iterPos, h]

set_option maxHeartbeats 2000000 in
set_option maxRecDepth 8000 in
theorem kidx_any (l : List UInt8) (b : Bool) (hb : Hid ((runes l).all spaceN = b)) (w : World) :
    Calls Tryz.prog 147 #[.string ⟨l.toArray⟩, .func (.func 95) #[] #[], .bool false] w fun e w' => (∃ k : Int, e = .returned (.int .i64 k) ∧ Hid (b = true → k = -1) ∧ Hid (b = false → 0 ≤ k ∧ k < (l.length : Int))) ∧ Below w.heap.size w w' := by
  go_enter Tryz.func147, Tryz.ntmps147
  go_wp2
  go_loopw [] (fun wr => ∃ pos : Nat, Hid (wr.heap[w.heap.size]? = some (.stringIter ⟨l.toArray⟩ pos)) ∧ Hid (Below w.heap.size w wr) ∧ Hid ((runes (l.drop pos)).all spaceN = b)) (fun wr => l.length - wr.iterPos w.heap.size)
  case atStart => exact ⟨0, World.iter_heap w _ 0, (Below.refl _ _).alloc (Nat.le_refl _) _, hb⟩
  case round =>
    obtain ⟨pos, hit, hbw, hal⟩ := hrel
    have hsz : w.heap.size < wr.heap.size := (Array.getElem?_eq_some_iff.1 hit.out).1
    by_cases hp : pos < l.length
    · have hok := dc_ok (l.drop pos) (run.drop_ne hp)
      have hst := runes_cons (l.drop pos) (run.drop_ne hp)
      have hnx : ∀ ty, (Instr.next (.pointer (some ⟨w.heap.size, 0, none⟩)) true ty).run Tryz.prog wr = _ := fun ty => Lib.run_next_any_at wr w.heap.size ⟨l.toArray⟩ pos ty hit.out (by rw [size_list]; exact hp)
      rw [decode_at, list_data] at hnx
      generalize hr : (dc (l.drop pos)).1 = r at *
      generalize hn : (dc (l.drop pos)).2 = n at *
      have HI := (show Hid _ from Lib.iterAt_heap wr w.heap.size ⟨l.toArray⟩ pos (pos + n) hit.out)
      have HW := (show Hid _ from Lib.below_iterAt hbw.out (k := w.heap.size) (Nat.le_refl _) ⟨l.toArray⟩ (pos + n))
      obtain ⟨hr1, hn1, hn2⟩ := hok
      rw [List.length_drop] at hn2
      rw [List.drop_drop] at hst
      have HA := hal.out
      rw [hst, List.all_cons] at HA
      have HS := (show Hid _ from fun w => run.space_any (r : Int) w)
      rw [run.space_nat r] at HS
      clear hst hr hn
      cases hsp : spaceN r
      · rw [hsp] at HS HA
        have HF : Hid (b = false) := HA.symm
        clear HA hsp
        go_wp2_with (go_at_call 95; refine (HS.out _).mono ?_; rintro e w' ⟨rfl, hw'⟩; subst w')
        go_ret
        exact ⟨⟨_, rfl, (fun h => absurd (HF.out.symm.trans h) (by decide)), (fun _ => ⟨by omega, by omega⟩)⟩, HW.out⟩
      · rw [hsp, Bool.true_and] at HA
        rw [hsp] at HS
        have HF : Hid ((runes (l.drop (pos + n))).all spaceN = b) := HA
        clear HA hsp
        go_wp2_with (go_at_call 95; refine (HS.out _).mono ?_; rintro e w' ⟨rfl, hw'⟩; subst w')
        go_roundw
        case rel => exact ⟨pos + n, HI.out, HW.out, HF.out⟩
        case measure => rw [iterPos_of hit.out, iterPos_of HI.out]; omega
    · have hnx : ∀ ty, (Instr.next (.pointer (some ⟨w.heap.size, 0, none⟩)) true ty).run Tryz.prog wr = _ := fun ty => Lib.run_next_end_at wr w.heap.size ⟨l.toArray⟩ pos ty hit.out (by rw [size_list]; exact hp)
      have HF : Hid (b = true) := by
        have := hal.out
        rw [List.drop_eq_nil_of_le (by omega), runes_nil] at this
        exact this.symm
      go_wp2
      go_ret
      exact ⟨⟨_, rfl, (fun _ => rfl), (fun h => absurd (HF.out.symm.trans h) (by decide))⟩, hbw.out⟩

theorem ktrimf_any (l : List UInt8) (b : Bool) (hb : Hid ((runes l).all spaceN = b)) (hs : l.length ≤ 9223372036854775000) (w : World) :
    Calls Tryz.prog 132 #[.string ⟨l.toArray⟩, .func (.func 95) #[] #[]] w fun e w' => (∃ x : ByteArray, e = .returned (.string x) ∧ Hid (x.toList.isEmpty = b)) ∧ Below w.heap.size w w' := by
  have HX := (show Hid _ from fun w => kidx_any l b hb w)
  have hz : (ByteArray.mk l.toArray).size = l.length := size_list l
  cases b
  · go_enter Tryz.func132, Tryz.ntmps132
    go_wp2_with (go_at_call 147; refine (HX.out _).mono ?_; rintro e w' ⟨⟨k, rfl, _, hk⟩, hbw⟩; obtain ⟨hk1, hk2⟩ := hk.out rfl; obtain ⟨j, rfl⟩ := Int.eq_ofNat_of_zero_le hk1; have hk3 : j < l.length := by omega)
    go_ret
    refine ⟨⟨_, rfl, nil_text _ _ ?_⟩, hbw⟩
    rw [extract_eq]
    cases hl : List.take (l.length - j) (List.drop j (ByteArray.mk l.toArray).data.toList) with
    | nil =>
      have := congrArg List.length hl
      simp at this
      omega
    | cons a t => rfl
  · go_enter Tryz.func132, Tryz.ntmps132
    go_wp2_with (go_at_call 147; refine (HX.out _).mono ?_; rintro e w' ⟨⟨k, rfl, hk, _⟩, hbw⟩; have hk1 := hk.out rfl; subst hk1)
    go_ret
    exact ⟨⟨_, rfl, nil_text _ _ rfl⟩, hbw⟩

theorem kspaces_any (l : List UInt8) (b : Bool) (hb : Hid ((runes l).all spaceN = b)) (hs : l.length ≤ 9223372036854775000) (w : World) :
    Calls Tryz.prog 101 #[.string ⟨l.toArray⟩] w fun e w' => e = .returned (.bool b) ∧ Below w.heap.size w w' := by
  have HX := (show Hid _ from fun w => ktrimf_any l b hb hs w)
  cases b
  all_goals
    go_enter Tryz.func101, Tryz.ntmps101
    go_wp2_with (go_at_call 132; refine (HX.out _).mono ?_; rintro e w' ⟨⟨x, rfl, hx⟩, hbw⟩; have hx1 := hx.out)
    go_ret
    exact ⟨rfl, hbw⟩

end Go.Proofs.YtjdijlaoeoikhaaGreatDoor.lnk

/- Package link: Label; walked. -/
namespace Go.Proofs.YtjdijlaoeoikhaaGreatDoor.lnk
open Go.RowKit

theorem ext_take (s : ByteArray) (k : Nat) : (s.extract 0 k).data.toList = s.data.toList.take k := by
  rw [extract_eq]
  simp

theorem two_none {v : List UInt8} {z : Nat} (h : Hid ((v, z) = (([] : List UInt8), 0))) : Ending.returned (.tuple #[.string ⟨#[]⟩, .int .i64 0]) = .returned (.tuple #[.string ⟨v.toArray⟩, .int .i64 (z : Int)]) := by
  have := h.out
  cases this
  rfl
theorem two_some {v x : List UInt8} {z m : Nat} {a : ByteArray} {k : Int} (h : Hid ((v, z) = (x, m))) (ha : a = ⟨x.toArray⟩) (hk : k = (m : Int)) : Ending.returned (.tuple #[.string a, .int .i64 k]) = .returned (.tuple #[.string ⟨v.toArray⟩, .int .i64 (z : Int)]) := by
  have := h.out
  cases this
  rw [ha, hk]

set_option maxHeartbeats 1000000 in
set_option maxRecDepth 8000 in
theorem klabel_at (s : ByteArray) (hs : s.size ≤ 9223372036854775000) (v : List UInt8) (z : Nat) (h : Hid (pairL (labelL s.data.toList) = (v, z))) (w : World) :
    Calls Tryz.prog 62 #[.string s] w fun e w' => e = .returned (.tuple #[.string ⟨v.toArray⟩, .int .i64 (z : Int)]) ∧ Below w.heap.size w w' := by
  obtain ⟨q, hm1⟩ : ∃ q : ByteArray, (s.size ≤ 1001 ∧ q = s) ∨ (1001 < s.size ∧ q = s.extract 0 1001) := by
    by_cases hc : s.size ≤ 1001
    · exact ⟨s, .inl ⟨hc, rfl⟩⟩
    · exact ⟨_, .inr ⟨by omega, rfl⟩⟩
  have et : q.data.toList = s.data.toList.take 1001 := by
    rcases hm1 with ⟨h1, h2⟩ | ⟨h1, h2⟩
    · rw [h2, List.take_of_length_le (by rw [len_data]; omega)]
    · rw [h2, ext_take]
  have hz0 : q.size ≤ 9223372036854775000 := by rw [← len_data, et, List.length_take]; omega
  have HE := (show Hid _ from fun w => kencl_any q hz0 91 93 91 93 rfl rfl ⟨#[91]⟩ (· == 91) (fun b => by rw [Bool.eq_iff_iff]; simp) w)
  rw [et] at HE
  have hl2 := encl_two 91 93 (· == 91) (s.data.toList.take 1001)
  have hle := encl_le 91 93 (· == 91) (s.data.toList.take 1001)
  have HL := h.out
  rw [label_code] at HL
  rw [List.length_take, len_data] at hle
  generalize enclL 91 93 (· == 91) (s.data.toList.take 1001) = n at *
  have hn : n ≤ s.size := by omega
  clear et hz0 hle h
  by_cases h0 : n = 0
  · subst h0
    rw [if_pos (.inl rfl)] at HL
    have HV : Hid ((v, z) = (([] : List UInt8), 0)) := HL.symm
    clear HL hl2
    rcases hm1 with ⟨h1, rfl⟩ | ⟨h1, rfl⟩
    all_goals
      go_enter Tryz.func62, Tryz.ntmps62
      go_wp2_with (go_at_call 100; refine (HE.out _).mono ?_; rintro e w' ⟨rfl, hw'⟩; subst w')
      go_ret2
      exact ⟨two_none HV, Below.refl _ _⟩
  · have h2 : 2 ≤ n := by omega
    have hq : ((n : Int) == 0) = false := by simp; omega
    have hq2 : (n : Int) - 1 = ((n - 1 : Nat) : Int) := by omega
    have hq3 : 1 ≤ n - 1 := by omega
    have hq4 : n - 1 ≤ s.size := by omega
    have hx : s.extract 1 (n - 1) = ⟨((s.data.toList.drop 1).take (n - 2)).toArray⟩ := by rw [extract_eq, show n - 1 - 1 = n - 2 by omega]
    have hu : ((s.data.toList.drop 1).take (n - 2)).length ≤ 9223372036854775000 := by rw [List.length_take]; omega
    generalize (s.data.toList.drop 1).take (n - 2) = U at *
    obtain ⟨b, hb⟩ : ∃ b, (runes U).all spaceN = b := ⟨_, rfl⟩
    have HS := (show Hid _ from fun w => kspaces_any U b hb hu w)
    rw [← hx] at HS
    rw [hb] at HL
    have HX := (show Hid _ from hx)
    clear hx hb hu hl2 hn h0
    cases b
    · rw [if_neg (by rintro (x | x); omega; cases x)] at HL
      have HV : Hid ((v, z) = (U, n)) := HL.symm
      clear HL
      rcases hm1 with ⟨h1, rfl⟩ | ⟨h1, rfl⟩
      all_goals
        go_enter Tryz.func62, Tryz.ntmps62
        go_wp2_with (first
          | (go_at_call 100; refine (HE.out _).mono ?_; rintro e w' ⟨rfl, hw'⟩; subst w')
          | (go_at_call 101; refine (HS.out _).mono ?_; rintro e w1 ⟨rfl, hb1⟩))
        go_ret2
        exact ⟨two_some HV HX.out rfl, hb1⟩
    · rw [if_pos (.inr rfl)] at HL
      have HV : Hid ((v, z) = (([] : List UInt8), 0)) := HL.symm
      clear HL
      rcases hm1 with ⟨h1, rfl⟩ | ⟨h1, rfl⟩
      all_goals
        go_enter Tryz.func62, Tryz.ntmps62
        go_wp2_with (first
          | (go_at_call 100; refine (HE.out _).mono ?_; rintro e w' ⟨rfl, hw'⟩; subst w')
          | (go_at_call 101; refine (HS.out _).mono ?_; rintro e w1 ⟨rfl, hb1⟩))
        go_ret2
        exact ⟨two_none HV, hb1⟩

end Go.Proofs.YtjdijlaoeoikhaaGreatDoor.lnk
