/- SpanFront, walked: what stands behind does not matter. -/
import Derived.Test.YtkbanlhjeedeeaaDoorSFwd
set_option linter.unusedVariables false
namespace Go.Proofs.YtkbanlhjeedeeaaDoor.spanFront
open Go.RowKit

/-- The strings that the law makes of a text that is cut off. -/
theorem cut_size (s t : ByteArray) (hs : s.size ≤ 1048576) (ht : t.size ≤ 1048576) (n : Nat) : (s.extract 0 n).size ≤ 1048576 ∧ (s.extract 0 n ++ t).size ≤ 2097152 ∧ (s.extract 0 n ++ ByteArray.mk #[120] ++ t).size ≤ 2097153 := by
  have h1 : (s.extract 0 n).size ≤ s.size := by rw [ByteArray.size_extract]; omega
  refine ⟨by omega, ?_, ?_⟩
  · rw [ByteArray.size_append]; omega
  · rw [ByteArray.size_append, ByteArray.size_append]
    have : (ByteArray.mk #[120]).size = 1 := rfl
    omega

structure CodeF (w0 : World) (s t : ByteArray) (A : ByteArray) (n : Nat) : Prop where
  le : n ≤ s.size
  c : Ans w0 10 #[.string s] (.tuple #[.string A, .int .i64 (n : Int)])
  c1 : 0 < n → Ans w0 10 #[.string (s.extract 0 n)] (.tuple #[.string A, .int .i64 (n : Int)])
  c2 : 0 < n → Ans w0 10 #[.string (s.extract 0 n ++ ByteArray.mk #[120] ++ t)] (.tuple #[.string A, .int .i64 (n : Int)])
theorem codeF (w0 : World) (s t : ByteArray) (hs : s.size ≤ 1048576) (ht : t.size ≤ 1048576) : ∃ A n, CodeF w0 s t A n := by
  cases h : codeL s.data.toList with
  | none => exact ⟨⟨#[]⟩, 0, Nat.zero_le _, ans_code w0 (by omega) h, fun h => by omega, fun h => by omega⟩
  | some x =>
    obtain ⟨a, n⟩ := x
    obtain ⟨h1, h2, h3, h4⟩ := code_front h
    obtain ⟨z1, z2, z3⟩ := cut_size s t hs ht n
    refine ⟨⟨a.toArray⟩, n, by rwa [len_data] at h1, ans_code w0 (by omega) h, fun _ => ?_, fun _ => ?_⟩
    · exact ans_code w0 (s := s.extract 0 n) (o := some (a, n)) (by omega) (by rw [ext_to]; exact h3)
    · have e : (s.extract 0 n ++ ByteArray.mk #[120] ++ t).data.toList = s.data.toList.take n ++ 120 :: t.data.toList := by
        rw [app_data, app_data, ext_to, show (ByteArray.mk #[120]).data.toList = [120] from rfl, List.append_assoc, List.cons_append, List.nil_append]
      have h5 := (congrArg codeL e).trans (h4 t.data.toList)
      have h6 : (s.extract 0 n ++ ByteArray.mk #[120] ++ t).size < 4294967281 := Nat.lt_of_le_of_lt z3 (by decide)
      have h7 := ans_code w0 h6 h5
      exact h7

structure TagF (w0 : World) (s t : ByteArray) (n r : Nat) : Prop where
  len : n ≤ s.size
  ler : r ≤ s.size
  lnr : n ≤ r
  c : Ans w0 14 #[.string s] (.int .i64 (n : Int))
  c1 : 0 < n → Ans w0 14 #[.string (s.extract 0 n)] (.int .i64 (n : Int))
  c2 : 0 < n → Ans w0 14 #[.string (s.extract 0 n ++ t)] (.int .i64 (n : Int))
  nr : 0 < n → r = n
  d : Ans w0 16 #[.string s] (.int .i64 (r : Int))
  d1 : 0 < r → Ans w0 16 #[.string (s.extract 0 r)] (.int .i64 (r : Int))
  d2 : 0 < r → Ans w0 16 #[.string (s.extract 0 r ++ t)] (.int .i64 (r : Int))
  hd : 0 < r → ∀ h : 0 < s.size, s[0] = 60
  la : 0 < r → ∀ h : r - 1 < s.size, s[r - 1] = 62
theorem tagF (w0 : World) (s t : ByteArray) (hs : s.size ≤ 1048576) (ht : t.size ≤ 1048576) : ∃ n r, TagF w0 s t n r := by
  have hl := len_data s
  obtain ⟨z1, z2, z3⟩ := cut_size s t hs ht (tagN s.data.toList)
  obtain ⟨y1, y2, y3⟩ := cut_size s t hs ht (rawN s.data.toList)
  have hle := tagN_le s.data.toList
  have hrle := rawN_le s.data.toList
  refine ⟨tagN s.data.toList, rawN s.data.toList, by omega, by omega, ?_, ans_tag w0 (by omega) rfl, fun h => ?_, fun h => ?_, fun h => rawN_tag h, ans_raw w0 (by omega) rfl, fun h => ?_, fun h => ?_, fun h h2 => ?_, fun h h2 => ?_⟩
  · by_cases h : 0 < tagN s.data.toList
    · rw [rawN_tag h]; exact Nat.le_refl _
    · omega
  · have := (tagN_front h).2.2 []
    rw [List.append_nil] at this
    exact ans_tag w0 (by omega) (by rw [ext_to]; exact this)
  · exact ans_tag w0 (by omega) (by rw [app_data, ext_to]; exact (tagN_front h).2.2 _)
  · have := (rawN_front h).2.2.2 []
    rw [List.append_nil] at this
    exact ans_raw w0 (by omega) (by rw [ext_to]; exact this)
  · exact ans_raw w0 (by omega) (by rw [app_data, ext_to]; exact (rawN_front h).2.2.2 _)
  · have h3 := (rawN_front h).2.1
    rw [first_byte s h2] at h3
    exact Option.some.inj h3
  · have h3 := (rawN_front h).2.2.1
    have h4 : (s.data.toList.take (rawN s.data.toList)).length = rawN s.data.toList := by rw [List.length_take]; omega
    rw [List.getLast?_eq_getElem?, h4, List.getElem?_take_of_lt (by omega), List.getElem?_eq_getElem (by omega)] at h3
    exact Option.some.inj h3

structure AutoF (w0 : World) (s t : ByteArray) (D U : ByteArray) (k : Nat) : Prop where
  le : k ≤ s.size
  c : Ans w0 12 #[.string s] (.tuple #[.string D, .string U, .int .i64 (k : Int)])
  c1 : 0 < k → Ans w0 12 #[.string (s.extract 0 k ++ t)] (.tuple #[.string D, .string U, .int .i64 (k : Int)])
  two : 0 < k → 2 ≤ k
  mid : 0 < k → s.extract 1 (k - 1) = U
  non : k = 0 → D = ⟨#[]⟩ ∧ U = ⟨#[]⟩
theorem autoF (w0 : World) (s t : ByteArray) (hs : s.size ≤ 1048576) (ht : t.size ≤ 1048576) : ∃ D U k, AutoF w0 s t D U k := by
  cases h : autoL s.data.toList with
  | none => exact ⟨⟨#[]⟩, ⟨#[]⟩, 0, Nat.zero_le _, ans_auto w0 (by omega) h, fun h => by omega, fun h => by omega, fun h => by omega, fun _ => ⟨rfl, rfl⟩⟩
  | some x =>
    obtain ⟨d, u, k⟩ := x
    obtain ⟨h1, h2, h3, h4⟩ := auto_front h
    obtain ⟨z1, z2, z3⟩ := cut_size s t hs ht k
    refine ⟨⟨d.toArray⟩, ⟨u.toArray⟩, k, by rwa [len_data] at h1, ans_auto w0 (by omega) h, fun _ => ?_, fun _ => by omega, fun _ => ?_, fun h0 => by omega⟩
    · exact ans_auto w0 (s := s.extract 0 k ++ t) (o := some (d, u, k)) (by omega) (by rw [app_data, ext_to]; exact h4 _)
    · rw [extract_eq, show k - 1 - 1 = u.length by omega, h3]

end Go.Proofs.YtkbanlhjeedeeaaDoor.spanFront
