/- The document's Clean, of any bytes. -/
import Derived.Test.YtnpboadefhannaaRefFirst2
set_option linter.unusedVariables false
namespace Go.Proofs.Ytnpboadefhannaa
open Go.RowKit

/-- What a call owns stays while nothing that was there turns. -/
theorem own_stays {w w' : World} {B : Nat} {e : TypeId} {v : Value} {n : Nat} {xs : List Value} (h : w.ownsRow B e 1 v n xs) (hb : Below w.heap.size w w') : w'.ownsRow B e 1 v n xs := by
  refine ⟨h.1, ?_⟩
  rcases h.2 with hn | ⟨g, cap, cur, hv, hB, hgg, rest⟩
  · exact .inl hn
  · exact .inr ⟨g, cap, cur, hv, hB, (hb.block g (Array.getElem?_eq_some_iff.1 hgg).1).trans hgg, rest⟩

theorem mk_data (s : ByteArray) : ByteArray.mk s.data.toList.toArray = s := by apply ByteArray.ext; simp

theorem below_grown0 {w0 w w' : World} {B : Nat} {e : TypeId} {v : Value} {n : Nat} {xs : List Value} (hb : Below B w0 w) (hB : B ≤ w.heap.size) (h : w.ownsRow B e 1 v n xs) (hg : w.grownBy w' v.ownBlock) : Below B w0 w' :=
  hb.grown hg hB (fun k hk => (h.lt k hk).1)

set_option maxHeartbeats 4000000 in
set_option maxRecDepth 100000 in
theorem refclean_any (ao : Option Addr) (len cap : Nat) (s : ByteArray) (w : World) (hsm : s.size ≤ 1073741824) (hin : BytesIn w ao len cap s.data.toList) :
    Calls Try.prog 12 #[.slice ao len cap] w fun e w' => e = .returned (.string ⟨(clean s.data.toList).toArray⟩) ∧ Below w.heap.size w w' := by
  obtain ⟨i0, hi, hz0, hz1, hz2⟩ := info_parts info5
  have hc1 := hin.2 w (Below.refl _ _)
  rw [mk_data] at hc1
  clear hin
  go_enter Try.func12, Try.ntmps12
  go_wp2
  clear hc1
  go_loopw [3, 5] (fun v ti wr => ∃ (p : Nat) (acc : List UInt8), wr.ownsRow w.heap.size 5 1 v acc.length (Lib.byteCells acc) ∧ ti = .int .i64 p ∧ p ≤ s.size ∧ acc.length ≤ 4 * p ∧ Below w.heap.size w wr ∧ Hid (acc ++ clean (s.data.toList.drop p) = clean s.data.toList)) (fun _ ti _ => s.size - (intOf ti).toNat)
  case atStart => exact ⟨0, [], World.ownsRow_nil _ _ _ _, rfl, by omega, by simp, Below.refl _ _, rfl⟩
  case round =>
    obtain ⟨p, acc, hown, rfl, hp, hal, hbw, HA⟩ := hrel
    have hsz := hbw.size
    by_cases hlt : p < s.size
    · have hdn : s.data.toList.drop p ≠ [] := drop_ne (by rw [len_data]; exact hlt)
      have hok := dc_ok (s.data.toList.drop p) hdn
      have hst := clean_step (s.data.toList.drop p) hdn
      have hfst := first_at s p wr hlt hsm
      rw [List.length_drop, len_data] at hok
      rw [List.drop_drop] at hst
      generalize hr : (dc (s.data.toList.drop p)).1 = r at *
      generalize hn : (dc (s.data.toList.drop p)).2 = n at *
      obtain ⟨hr1, hn1, hn2⟩ := hok
      have HN : Hid (acc ++ (enc (cleanR r) ++ clean (s.data.toList.drop (p + n))) = clean s.data.toList) := by rw [← hst]; exact HA
      have hel := enc_len (cleanR r)
      have hcase : (r = 0 ∧ cleanR r = 65533) ∨ (r ≠ 0 ∧ cleanR r = r) := by
        by_cases h0 : r = 0
        · left; exact ⟨h0, by rw [h0]; rfl⟩
        · right; exact ⟨h0, cleanR_of r h0⟩
      have hokr := cleanR_ok r hr1
      have hput := put_any (cleanR r) hokr wr
      generalize hce : cleanR r = c at *
      clear hst hr hn HA hdn hce
      have hsl := size_list (enc c)
      have tail : ∀ (w2 : World) (hb2 : Below wr.heap.size wr w2) (v2 : Value) (w3 : World), w3.ownsRow w.heap.size 5 1 v2 (acc.length + (ByteArray.mk (enc c).toArray).size) (Lib.byteCells acc ++ Lib.strCells ⟨(enc c).toArray⟩) → Below w.heap.size w w3 →
          ∃ (p1 : Nat) (acc1 : List UInt8), w3.ownsRow w.heap.size 5 1 v2 acc1.length (Lib.byteCells acc1) ∧ p1 = p + n ∧ acc1.length ≤ 4 * p1 ∧ Hid (acc1 ++ clean (s.data.toList.drop p1) = clean s.data.toList) := by
        intro w2 hb2 v2 w3 h1 h2
        refine ⟨p + n, acc ++ enc c, ?_, rfl, ?_, ?_⟩
        · rw [List.length_append, Lib.byteCells_append]
          rw [size_list] at h1
          exact h1
        · rw [List.length_append]; omega
        · show (acc ++ enc c) ++ _ = _
          rw [List.append_assoc]; exact HN.out
      have HT := (show Hid _ from tail)
      clear tail HN
      rcases hcase with ⟨h0, hc0⟩ | ⟨h0, hc0⟩
      · subst h0
        subst hc0
        have hq : ((0 : Int) == 0) = true := rfl
        go_wp2_with (first | (go_at_call 11; refine hfst.mono ?_; rintro e w' ⟨rfl, rfl⟩) | (go_at_call 23; refine hput.mono ?_))
        rintro e w2 ⟨rfl, hb2⟩
        have hown2 := own_stays hown hb2
        have hbw2 := hbw.trans (hb2.mono hsz)
        have hsz2 := hbw2.size
        go_wp2_with (at_builtin; refine Lib.wpList_append_own_string _ rfl _ _ 22 9 rfl w.heap.size 5 i0 Try.underlying22 Try.underlying9 hi hz0 hz1 hz2 _ _ _ rfl hown2 _ rfl ?c1 ?c2 hsz2 ?_)
        case c1 => unfold maxLen; omega
        case c2 => omega
        intro v3 w3 hown3 hgrow _
        have hbw3 := below_grown0 hbw2 hsz2 hown2 hgrow
        obtain ⟨p1, acc1, k1, k2, k3, k4⟩ := HT.out w2 hb2 v3 w3 hown3 hbw3
        go_wp2
        go_roundw
        case rel => exact ⟨p1, acc1, k1, by subst k2; go_num, by omega, k3, hbw3, k4⟩
        case measure => simp [intOf]; omega
      · subst hc0
        have hq : ((c : Int) == 0) = false := by simp; omega
        go_wp2_with (first | (go_at_call 11; refine hfst.mono ?_; rintro e w' ⟨rfl, rfl⟩) | (go_at_call 23; refine hput.mono ?_))
        rintro e w2 ⟨rfl, hb2⟩
        have hown2 := own_stays hown hb2
        have hbw2 := hbw.trans (hb2.mono hsz)
        have hsz2 := hbw2.size
        go_wp2_with (at_builtin; refine Lib.wpList_append_own_string _ rfl _ _ 22 9 rfl w.heap.size 5 i0 Try.underlying22 Try.underlying9 hi hz0 hz1 hz2 _ _ _ rfl hown2 _ rfl ?c1 ?c2 hsz2 ?_)
        case c1 => unfold maxLen; omega
        case c2 => omega
        intro v3 w3 hown3 hgrow _
        have hbw3 := below_grown0 hbw2 hsz2 hown2 hgrow
        obtain ⟨p1, acc1, k1, k2, k3, k4⟩ := HT.out w2 hb2 v3 w3 hown3 hbw3
        go_wp2
        go_roundw
        case rel => exact ⟨p1, acc1, k1, by subst k2; go_num, by omega, k3, hbw3, k4⟩
        case measure => simp [intOf]; omega
    · have hcv := own_string hown
      have hacc := HA.out
      rw [List.drop_eq_nil_of_le (by rw [len_data]; omega), clean_nil, List.append_nil] at hacc
      rw [hacc] at hcv
      clear hown HA hacc
      go_wp2
      go_ret
      exact ⟨rfl, hbw⟩

end Go.Proofs.Ytnpboadefhannaa
