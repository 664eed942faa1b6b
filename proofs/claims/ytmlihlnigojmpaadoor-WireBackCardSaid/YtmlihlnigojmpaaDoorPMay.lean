/- Bounds and groups: which may be. -/
import Derived.Test.YtmlihlnigojmpaaDoorPNums
set_option linter.unusedVariables false
namespace Go.Proofs.YtmlihlnigojmpaaDoor
open Go.RowKit

def inB (n lo hi : Int) : Bool := decide (lo ≤ n) && decide (n ≤ hi)
set_option maxHeartbeats 2000000 in
theorem within_any (n lo hi : Int) (w : World) : Calls Tryd.prog 50 #[.int .i64 n, .int .i64 lo, .int .i64 hi] w fun e w' => e = .returned (.bool (inB n lo hi)) ∧ w' = w := by
  obtain ⟨R, hR⟩ : ∃ R, inB n lo hi = R := ⟨_, rfl⟩
  rw [hR]
  by_cases h1 : lo ≤ n
  · by_cases h2 : n ≤ hi
    · have : R = true := by rw [← hR]; unfold inB; simp [h1, h2]
      subst this
      clear hR
      go_enter Tryd.func50, Tryd.ntmps50
      go_wp2
      go_ret
      exact ⟨rfl, rfl⟩
    · have : R = false := by rw [← hR]; unfold inB; simp [h2]
      subst this
      clear hR
      go_enter Tryd.func50, Tryd.ntmps50
      go_wp2
      go_ret
      exact ⟨rfl, rfl⟩
  · have : R = false := by rw [← hR]; unfold inB; simp [h1]
    subst this
    clear hR
    go_enter Tryd.func50, Tryd.ntmps50
    go_wp2
    go_ret
    exact ⟨rfl, rfl⟩
set_option maxHeartbeats 2000000 in
theorem isNode_any (n : Int) (w : World) : Calls Tryd.prog 49 #[.int .i64 n] w fun e w' => e = .returned (.bool (inB n 1 5)) ∧ w' = w := by
  have h1 := within_any n 1 5 w
  obtain ⟨R, hR⟩ : ∃ R, inB n 1 5 = R := ⟨_, rfl⟩
  rw [hR] at h1 ⊢
  clear hR
  go_enter Tryd.func49, Tryd.ntmps49
  go_wp2_with (fail)
  refine h1.mono ?_
  rintro e w1 ⟨rfl, hw⟩
  subst hw
  clear h1
  go_wp2
  go_ret
  exact ⟨rfl, rfl⟩
/-- Rows of numbers of any sign that may be read. -/
def NRow (w : World) (a : Option Addr) (zs : List Int) : Prop := ∀ (j : Nat) (z : Int), zs[j]? = some z → ∃ g o, a = some ⟨g, o, none⟩ ∧ w.cell? ⟨g, o + j, none⟩ = some (.int .i64 z)
theorem NRow.below {w w' : World} {a : Option Addr} {zs : List Int} (h : NRow w a zs) (hb : Below w.heap.size w w') : NRow w' a zs := fun j z hj => by
  obtain ⟨g, o, h1, h2⟩ := h j z hj
  exact ⟨g, o, h1, by rw [hb.cell (World.block_lt_of_cell? w _ h2)]; exact h2⟩
abbrev natI (l : List Nat) : List Int := l.map Int.ofNat
theorem NRow.nat {w : World} {a : Option Addr} {zs : List Nat} (h : NRow w a (natI zs)) : IRow w a zs := fun j z hj => by
  obtain ⟨g, o, h1, h2⟩ := h j (z : Int) (by rw [List.getElem?_map, hj]; rfl)
  exact ⟨_, h1, by rw [show (⟨g, o, none⟩ : Addr).add j = ⟨g, o + j, none⟩ from by unfold Addr.add; split <;> simp_all]; exact h2⟩
def groupF : Int → List Int → Bool
  | _, [] => true
  | last, z :: r => inB z (last + 1) 5 && groupF z r
def groupB (zs : List Int) : Bool := groupF 0 zs && !zs.isEmpty
theorem groupF_nat : ∀ (zs : List Int) (last : Int), 0 ≤ last → groupF last zs = true → ∃ ns : List Nat, zs = natI ns ∧ (∀ z ∈ ns, 1 ≤ z ∧ z ≤ 5) ∧ (last : Int) + ns.length ≤ max last 5
  | [], last, h0, _ => ⟨[], rfl, (fun z hz => by cases hz), by simp; omega⟩
  | z :: r, last, h0, h => by
    simp only [groupF, Bool.and_eq_true] at h
    obtain ⟨h1, h2⟩ := h
    unfold inB at h1
    simp at h1
    obtain ⟨ns, e1, e2, e3⟩ := groupF_nat r z (by omega) h2
    refine ⟨z.toNat :: ns, ?_, ?_, ?_⟩
    · show z :: r = Int.ofNat z.toNat :: natI ns
      rw [← e1]
      congr 1
      show z = (z.toNat : Int)
      omega
    · intro y hy
      rcases List.mem_cons.1 hy with rfl | hy
      · omega
      · exact e2 y hy
    · simp only [List.length_cons]
      omega
theorem groupB_nat {zs : List Int} (h : groupB zs = true) : ∃ ns : List Nat, zs = natI ns ∧ (∀ z ∈ ns, 1 ≤ z ∧ z ≤ 5) ∧ ns.length ≤ 5 ∧ ns ≠ [] := by
  unfold groupB at h
  simp only [Bool.and_eq_true] at h
  obtain ⟨ns, e1, e2, e3⟩ := groupF_nat zs 0 (by omega) h.1
  refine ⟨ns, e1, e2, by omega, fun e => ?_⟩
  rw [e1, e] at h
  simp at h

set_option maxHeartbeats 4000000 in
set_option maxRecDepth 20000 in
theorem isGroup_any {w : World} {a : Option Addr} {n c : Nat} {zs : List Int} (h : NRow w a zs) (hn : zs.length = n) (hn2 : n ≤ 140737488355328) : Calls Tryd.prog 70 #[.slice a n c] w fun e w' => e = .returned (.bool (groupB zs)) ∧ w' = w := by
  obtain ⟨R, hR⟩ : ∃ R, groupB zs = R := ⟨_, rfl⟩
  rw [hR]
  have HR : Hid (groupB zs = R) := hR
  have HZ : Hid (NRow w a zs ∧ zs.length = n) := ⟨h, hn⟩
  have HW : Hid (∀ n, Calls Tryd.prog 49 #[.int .i64 n] w fun e w' => e = .returned (.bool (inB n 1 5)) ∧ w' = w) := fun n => isNode_any n w
  have bn : (n : Int) ≤ 140737488355328 := by omega
  clear h hn hn2 hR
  go_enter Tryd.func70, Tryd.ntmps70
  go_wp2_with (fail)
  go_loopw [3, 8] (fun la i wr => Hid (wr = w) ∧ ∃ (last : Int) (j : Nat), la = .int .i64 last ∧ i = .int .i64 (j : Int) ∧ j ≤ n ∧ Hid (0 ≤ last ∧ last ≤ 5 ∧ groupF 0 zs = groupF last (zs.drop j))) (fun _ i _ => n - (intOf i).toNat)
  case atStart => exact ⟨rfl, 0, 0, rfl, rfl, Nat.zero_le _, by omega, by omega, rfl⟩
  case round =>
    obtain ⟨HWr, last, j, rfl, rfl, hj, HL⟩ := hrel
    obtain rfl : w = wr := HWr.out.symm
    by_cases hlt : j < n
    · obtain ⟨z, hz⟩ : ∃ z, zs[j]? = some z := ⟨zs[j]'(by have := HZ.out.2; omega), List.getElem?_eq_getElem _⟩
      obtain ⟨g, o, hx, hc⟩ := HZ.out.1 j z hz
      subst hx
      have hdr : zs.drop j = z :: zs.drop (j + 1) := by
        have hl := (List.getElem?_eq_some_iff.1 hz).1
        rw [List.drop_eq_getElem_cons hl]
        congr 1
        exact (List.getElem?_eq_some_iff.1 hz).2
      have bl0 : 0 ≤ last := HL.out.1
      have bl5 : last ≤ 5 := HL.out.2.1
      have hW := HW.out z
      obtain ⟨B, hB⟩ : ∃ B, inB z 1 5 = B := ⟨_, rfl⟩
      rw [hB] at hW
      have HS : Hid (groupF last (zs.drop j) = (inB z (last + 1) 5 && groupF z (zs.drop (j + 1)))) := by show _ = _; rw [hdr, groupF]
      have HB : Hid (inB z 1 5 = B) := hB
      clear hz hdr hB
      go_wp2_with (fail)
      refine hW.mono ?_
      rintro e w1 ⟨rfl, hw⟩
      subst hw
      clear hW
      cases B with
      | false =>
        have HE : Hid (R = false) := by
          have h1 : inB z (last + 1) 5 = false := by
            have h2 := HB.out
            unfold inB at h2 ⊢
            simp at h2 ⊢
            intro h3
            exact h2 (by omega)
          show R = false
          rw [← HR.out]; unfold groupB; rw [HL.out.2.2, HS.out, h1]; simp
        clear HB HL HS
        go_wp2
        go_ret
        exact ⟨by rw [HE.out]; rfl, rfl⟩
      | true =>
        by_cases hle : z ≤ last
        · have HE : Hid (R = false) := by
            have h1 : inB z (last + 1) 5 = false := by
              unfold inB
              simp
              intro h3
              omega
            show R = false
            rw [← HR.out]; unfold groupB; rw [HL.out.2.2, HS.out, h1]; simp
          clear HB HL HS
          go_wp2
          go_ret
          exact ⟨by rw [HE.out]; rfl, rfl⟩
        · have HE : Hid (0 ≤ z ∧ z ≤ 5 ∧ groupF 0 zs = groupF z (zs.drop (j + 1))) := by
            have h1 := HB.out
            unfold inB at h1
            simp at h1
            have h2 : inB z (last + 1) 5 = true := by
              unfold inB
              simp
              omega
            exact ⟨by omega, h1.2, by rw [HL.out.2.2, HS.out, h2]; simp⟩
          clear HB HL HS bl0 bl5
          go_wp2
          go_roundw
          case rel => exact ⟨by first | rfl | trivial, z, j + 1, rfl, by first | rfl | go_num, by omega, HE⟩
          case measure => simp [intOf]; omega
    · have hjn : j = n := by omega
      subst hjn
      have h2 : groupF 0 zs = true := by
        rw [HL.out.2.2, List.drop_of_length_le (by have := HZ.out.2; omega)]
        rfl
      by_cases h0 : j = 0
      · have hz0 : zs = [] := List.eq_nil_of_length_eq_zero (by have := HZ.out.2; omega)
        have HE : Hid (R = false) := by
          show R = false
          rw [← HR.out]; unfold groupB; rw [hz0]; rfl
        subst h0
        clear h2 hz0 HL HR
        go_wp2
        go_ret
        exact ⟨by rw [HE.out]; rfl, rfl⟩
      · have HE : Hid (R = true) := by
          show R = true
          rw [← HR.out]; unfold groupB; rw [h2]
          have : zs ≠ [] := fun e => h0 (by have := HZ.out.2; rw [e] at this; simpa using this.symm)
          simp [this]
        have q1 : (0 : Int) < (j : Int) := by omega
        have HJ0 : Hid (j ≠ 0) := h0
        clear h2 HL HR h0
        go_wp2
        go_ret
        refine ⟨?_, rfl⟩
        rw [HE.out]
        have d1 : decide (0 < j) = true := by have := HJ0.out; simp; omega
        show Ending.returned (.bool (decide (0 < j))) = _
        rw [d1]

/-- May an entry of this term, kind, so many bytes and these nodes be? -/
def mayEB (t k : Int) (dn : Nat) (zs : List Int) : Bool :=
  inB t 1 999999 && (if k = 0 then decide (dn = 0) && zs.isEmpty else if k = 1 then decide (dn ≤ 8000) && zs.isEmpty else if k = 2 then decide (dn = 0) && groupB zs else false)
end Go.Proofs.YtmlihlnigojmpaaDoor
