/- Rows of bytes and numbers that came in. -/
import Derived.Test.YtblohegdlcpipaaZBytes
import Derived.OpenShut
import Derived.ProofKit
import Derived.SizedLaws
set_option linter.unusedVariables false
namespace Go.Proofs.Ytblohegdlcpipaa
open Go.RowKit Go.ChangeShapes Go.WideShapes Go.ChangeAt

theorem u64_range {n : Int} (h : (Lit.int .u64 n).wf = true) : 0 ≤ n ∧ n < 18446744073709551616 := by
  simp only [Lit.wf, Bool.and_eq_true, decide_eq_true_eq] at h
  have h1 : (0 : Int) ≤ n := h.1
  have h2 : n ≤ 18446744073709551615 := h.2
  omega
theorem u8_range {n : Int} (h : (Lit.int .u8 n).wf = true) : 0 ≤ n ∧ n < 256 := by
  simp only [Lit.wf, Bool.and_eq_true, decide_eq_true_eq] at h
  have h1 : (0 : Int) ≤ n := h.1
  have h2 : n ≤ 255 := h.2
  omega

theorem open_bytes {H : Type} {enc : TypeId × Value → H} {W : World} {base fuel : Nat} {a : Option Addr} {len cap : Nat} {x : DataW H × List MemPlace}
    (h : DataW.trod enc Try.prog W base (fun _ => true) true fuel 32 [.slice a len cap] = some x) (hw : ∀ n ∈ DataW.weights Try.prog 32 x.1, n ≤ reachBytes) : ∃ l, BRow W a len cap l ∧ len ≤ cap ∧ len ≤ 140737488351232 := by
  rcases open_ints Try.underlying32 Try.underlying5 (by kernel_rfl) h with ⟨hcs, _⟩ | ⟨y, l, c, zs, hcs, _, hl, hm, hz, hx, hcell, hwz⟩
  · simp at hcs
    obtain ⟨rfl, rfl, rfl⟩ := hcs
    exact ⟨[], ⟨rfl, .inl ⟨rfl, rfl, rfl⟩⟩, Nat.le_refl _, by omega⟩
  · simp at hcs
    obtain ⟨rfl, rfl, rfl⟩ := hcs
    have hz' : zs.length = cap := by simpa using hz
    have hd : x.1 = .slice (lits .u8 (zs.take len)) (lits .u8 (zs.drop len)) := by rw [hx]
    have hlen : (zs.take len).length = len := by rw [List.length_take]; omega
    refine ⟨(zs.take len).map (fun z => UInt8.ofNat z.toNat), ⟨by rw [List.length_map, hlen], .inr ⟨y, rfl, fun j hj => ?_⟩⟩, hl, ?_⟩
    · rw [List.length_map, hlen] at hj
      have h1 := hcell j (by omega)
      have hjz : j < zs.length := by omega
      have h2 : zs.getD j 0 = zs[j] := by simp [List.getD_eq_getElem?_getD, hjz]
      have hw := u8_range (hwz zs[j] (List.getElem_mem hjz))
      rw [h1, h2]
      simp only [List.getElem_map, List.getElem_take]
      congr 2
      rw [UInt8.toNat_ofNat']
      omega
    · have hb : Try.prog.bytesOf 5 = 1 := by kernel_rfl
      have := hw ((lits .u8 (zs.take len) : List (DataW H)).length + (lits .u8 (zs.drop len) : List (DataW H)).length) (by
        rw [hd]
        simp [DataW.weights, Try.underlying32, hb])
      simp [lits] at this
      unfold reachBytes at this
      omega
end Go.Proofs.Ytblohegdlcpipaa
