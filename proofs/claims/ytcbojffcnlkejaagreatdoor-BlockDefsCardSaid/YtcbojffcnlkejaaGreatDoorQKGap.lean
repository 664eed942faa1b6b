/- Package link: row, gap, lineEnd; walked. -/
import Derived.Test.YtcbojffcnlkejaaGreatDoorQKDest
import Derived.Test.YtcbojffcnlkejaaGreatDoorShelf
import Derived.Shelf.Strings.SlTrimAscii
set_option linter.unusedVariables false
namespace Go.Proofs.YtcbojffcnlkejaaGreatDoor.lnk
open Go.RowKit

theorem below_next {w0 w w' : World} (h : Below w0.heap.size w0 w) (hb : Below w.heap.size w w') : Below w0.heap.size w0 w' := h.trans (hb.mono h.size)

theorem ktl_at (s cs : ByteArray) (hcs : cs.size < 100) (ha : cs.data.toList.all (fun b => decide (b.toNat < 128)) = true) (r : ByteArray) (hr : r = ⟨(Lib.trimLeftS s.data.toList cs.data.toList).toArray⟩) (w : World) :
    Calls Tryz.prog 175 #[.string s, .string cs] w fun e w' => e = .returned (.string r) ∧ Below w.heap.size w w' := by
  rw [hr]
  exact Go.Proofs.Any.strings_TrimLeft_laid Tryz.lays161 (by kernel_rfl) s cs w (by omega) (Go.Proofs.ascii_of_all ha)

theorem krow_any (s : ByteArray) (hs : s.size ≤ 9223372036854775000) (cs : ByteArray) (hcs : cs.size < 100) (ha : cs.data.toList.all (fun b => decide (b.toNat < 128)) = true) (p : UInt8 → Bool) (hp : (fun b => cs.data.toList.contains b) = p) (w : World) :
    Calls Tryz.prog 142 #[.string s, .string cs] w fun e w' => e = .returned (.int .i64 (pos s (s.data.toList.dropWhile p) : Int)) ∧ Below w.heap.size w w' := by
  obtain ⟨r, hr⟩ : ∃ r : ByteArray, r = ⟨(Lib.trimLeftS s.data.toList cs.data.toList).toArray⟩ := ⟨_, rfl⟩
  have HT := (show Hid _ from fun w => ktl_at s cs hcs ha r hr w)
  have hz : r.size = (s.data.toList.dropWhile p).length := by rw [hr, size_list, ← hp]; rfl
  have hz2 : (s.data.toList.dropWhile p).length ≤ s.size := by rw [← len_data]; exact dw_len _ _
  have HP : Hid ((pos s (s.data.toList.dropWhile p) : Int) = (s.size : Int) - (r.size : Int)) := by show _ = _; unfold pos; omega
  have hz3 : (r.size : Int) ≤ (s.size : Int) := by omega
  clear hr hz hz2
  go_enter Tryz.func142, Tryz.ntmps142
  go_wp2_with (go_at_call 175; refine (HT.out _).mono ?_; rintro e w1 ⟨rfl, hb1⟩)
  go_ret
  exact ⟨ret_int HP.out.symm, hb1⟩

theorem ext_from (s : ByteArray) (k : Nat) : (s.extract k s.size).data.toList = s.data.toList.drop k := by rw [extract_end]
theorem ext_size (s : ByteArray) (k : Nat) : (s.extract k s.size).size ≤ s.size := by rw [ByteArray.size_extract]; omega
theorem gapC_is : (fun b => (ByteArray.mk #[32, 9]).data.toList.contains b) = gapC := rfl

set_option maxHeartbeats 1000000 in
theorem kgap_any (s : ByteArray) (hs : s.size ≤ 9223372036854775000) (w : World) :
    Calls Tryz.prog 120 #[.string s] w fun e w' => e = .returned (.int .i64 (pos s (gapL 0 s.data.toList) : Int)) ∧ Below w.heap.size w w' := by
  have HR := (show Hid _ from fun w => krow_any s hs ⟨#[32, 9]⟩ (by decide) (by decide) gapC gapC_is w)
  have HG := (show Hid _ from gap_rows s.data.toList)
  have hsuf : Suf s (s.data.toList.dropWhile gapC) := (Suf.whole s).dw _
  generalize s.data.toList.dropWhile gapC = t at *
  have HH := (show Hid _ from fun w => khas_any s t hsuf _ rfl 10 10 rfl w)
  have HE : Hid (hdB t 10 = false → gapL 0 s.data.toList = t) := by
    intro h
    rw [HG.out]
    cases t with
    | nil => rfl
    | cons b u =>
      have hb : ¬ b = 10 := by simpa [hdB] using h
      simp only
      rw [if_neg hb]
  have hpl := pos_le s t
  cases h10 : hdB t 10
  · rw [h10] at HH
    have HF := (show Hid _ from HE.out h10)
    clear h10
    go_enter Tryz.func120, Tryz.ntmps120
    go_wp2_with (first
      | (go_at_call 142; refine (HR.out _).mono ?_; rintro e w1 ⟨rfl, hb1⟩)
      | (go_at_call 144; refine (HH.out _).mono ?_; rintro e w' ⟨rfl, hw'⟩; subst w'))
    go_ret
    exact ⟨ret_int (by rw [HF.out]), hb1⟩
  · rw [h10] at HH
    cases t with
    | nil => cases h10
    | cons b u =>
      have hb : b = 10 := by simpa [hdB] using h10
      have hlt := hsuf.lt
      have hsu := hsuf.succ
      have HF : Hid (gapL 0 s.data.toList = u.dropWhile gapC) := by show _ = _; rw [HG.out]; simp only; rw [if_pos hb]
      have hx : s.extract (pos s (b :: u) + 1) s.size = ⟨u.toArray⟩ := by rw [← hsu]; exact hsuf.tail.ext
      have HR2 := (show Hid _ from fun w => krow_any (s.extract (pos s (b :: u) + 1) s.size) (by have := ext_size s (pos s (b :: u) + 1); omega) ⟨#[32, 9]⟩ (by decide) (by decide) gapC gapC_is w)
      have hP : pos (s.extract (pos s (b :: u) + 1) s.size) ((s.extract (pos s (b :: u) + 1) s.size).data.toList.dropWhile gapC) = u.length - (u.dropWhile gapC).length := by
        rw [hx]
        unfold pos
        rw [size_list]
      rw [hP] at HR2
      have hu := hsuf.tail.sum
      have hdl := dw_len gapC u
      have HS : Hid ((pos s (u.dropWhile gapC) : Int) = (pos s (b :: u) : Int) + 1 + ((u.length - (u.dropWhile gapC).length : Nat) : Int)) := by
        show _ = _
        have : pos s (u.dropWhile gapC) = s.size - (u.dropWhile gapC).length := rfl
        omega
      generalize hj : u.length - (u.dropWhile gapC).length = j at *
      have hj2 : (pos s (b :: u) : Int) + 1 + (j : Int) ≤ (s.size : Int) := by omega
      have hj3 : (pos s (b :: u) : Int) + 1 ≤ (s.size : Int) := by omega
      generalize hq : s.extract (pos s (b :: u) + 1) s.size = q at HR2
      clear hj hP hx h10 hb hu hdl hsu
      go_enter Tryz.func120, Tryz.ntmps120
      go_wp2_with (first
        | (go_at_call_of 142 (Value.string s); refine (HR.out _).mono ?_; rintro e w1 ⟨rfl, hb1⟩)
        | (go_at_call_of 142 (Value.string q); refine (HR2.out _).mono ?_; rintro e w2 ⟨rfl, hb2⟩)
        | (go_at_call 144; refine (HH.out _).mono ?_; rintro e w' ⟨rfl, hw'⟩; subst w'))
      go_ret
      exact ⟨ret_int (by rw [HF.out, HS.out]), below_next hb1 hb2⟩

end Go.Proofs.YtcbojffcnlkejaaGreatDoor.lnk
