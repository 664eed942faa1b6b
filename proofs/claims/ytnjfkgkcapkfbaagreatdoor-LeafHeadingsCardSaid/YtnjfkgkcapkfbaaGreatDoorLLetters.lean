/- letters, of the laws of layer 5: letters, and single blanks between them; walked. -/
import Derived.Test.YtnjfkgkcapkfbaaGreatDoorLMany
import Derived.Laws.OwnMore
set_option linter.unusedVariables false
namespace Go.Proofs.YtnjfkgkcapkfbaaGreatDoor
open Go.RowKit
open Go.Proofs.YtnjfkgkcapkfbaaGreatDoor.esc (OwnB own_push byteCells_one)

/-- Small letters and blanks, no blank first. -/
def Lets (l : List UInt8) : Prop := (∀ c ∈ l, (97 ≤ c.toNat ∧ c.toNat ≤ 122) ∨ c = 32) ∧ l.head? ≠ some 32

theorem lets_nil : Lets [] := ⟨fun c hc => absurd hc (by simp), by simp⟩
theorem lets_push {l : List UInt8} (h : Lets l) {c : UInt8} (hc : (97 ≤ c.toNat ∧ c.toNat ≤ 122) ∨ (c = 32 ∧ l ≠ [])) : Lets (l ++ [c]) := by
  refine ⟨fun x hx => ?_, ?_⟩
  · rw [List.mem_append] at hx
    rcases hx with hx | hx
    · exact h.1 x hx
    · rw [List.mem_singleton] at hx
      subst hx
      rcases hc with hc | ⟨hc, _⟩
      · exact .inl hc
      · exact .inr hc
  · cases l with
    | nil =>
      rcases hc with hc | ⟨_, hc⟩
      · intro e
        have : c = 32 := Option.some.inj e
        subst this
        exact absurd hc.1 (by decide)
      · exact absurd rfl hc
    | cons b t => exact h.2
theorem lets_front {l : List UInt8} (h : Lets l) : Lets l.dropLast := by
  refine ⟨fun x hx => h.1 x (by rw [List.dropLast_eq_take] at hx; exact List.mem_of_mem_take hx), ?_⟩
  cases l with
  | nil => simp
  | cons b t =>
    cases t with
    | nil => simp
    | cons d u => exact h.2

theorem lown_slice {w : World} {B : Nat} {v : Value} {l : List UInt8} (h : OwnB w B v l) (hl : l ≠ []) : ∃ g cap, v = .slice (some ⟨g, 0, none⟩) l.length cap ∧ l.length ≤ cap ∧ cap ≤ maxLen := by
  rcases h.2 with ⟨rfl, hn⟩ | ⟨g, cap, cur, rfl, _, _, h1, h2, _⟩
  · exact absurd (List.length_eq_zero_iff.1 hn) hl
  · exact ⟨g, cap, rfl, h1, h2⟩
theorem lown_len {w : World} {B : Nat} {v : Value} {l : List UInt8} (h : OwnB w B v l) : ∃ a c, v = .slice a l.length c := by
  rcases h.2 with ⟨rfl, hn⟩ | ⟨g, cap, cur, rfl, _⟩
  · exact ⟨none, 0, by rw [hn]⟩
  · exact ⟨_, _, rfl⟩
theorem lown_nil {w : World} {B : Nat} {v : Value} (h : OwnB w B v []) : ∃ a c, v = .slice a 0 c := by
  rcases h.2 with ⟨rfl, hn⟩ | ⟨g, cap, cur, rfl, _⟩
  · exact ⟨none, 0, rfl⟩
  · exact ⟨_, _, rfl⟩
theorem lown_last {w : World} {B g cap : Nat} {l : List UInt8} {c : UInt8} (h : OwnB w B (.slice (some ⟨g, 0, none⟩) l.length cap) l) (hc : l.getLast? = some c) : w.cell? ⟨g, l.length - 1, none⟩ = some (.int .u8 (c.toNat : Int)) := by
  have hl : l ≠ [] := by intro e; rw [e] at hc; cases hc
  have h0 : 0 < l.length := List.length_pos_iff.2 hl
  rw [h.cellAt (l.length - 1) (by omega)]
  unfold Lib.byteCells
  rw [List.getElem?_map]
  rw [List.getLast?_eq_getElem?] at hc
  rw [hc]
  rfl
theorem lown_cut {w : World} {B g cap : Nat} {l : List UInt8} (h : OwnB w B (.slice (some ⟨g, 0, none⟩) l.length cap) l) (hl : l ≠ []) : OwnB w B (.slice (some ⟨g, 0, none⟩) (l.length - 1) cap) l.dropLast := by
  have h0 : 0 < l.length := List.length_pos_iff.2 hl
  refine ⟨by simp [Lib.byteCells], ?_⟩
  rcases h.2 with ⟨e, hn⟩ | ⟨g', cap', cur, e, hB, hg, h1, h2, h3, h4⟩
  · cases e
  · cases e
    refine .inr ⟨g, cap, cur, by rw [List.length_dropLast], hB, hg, by rw [List.length_dropLast]; omega, h2, h3, ?_⟩
    rw [List.length_dropLast, List.dropLast_eq_take]
    have := congrArg (List.take ((l.length - 1) * 1)) h4
    rw [List.take_take, Nat.min_eq_left (by omega)] at this
    rw [this]
    unfold Lib.byteCells
    rw [Nat.mul_one, List.map_take]

def lenOfV : Value → Nat
  | .slice _ n _ => n
  | _ => 0

set_option maxHeartbeats 8000000 in
set_option maxRecDepth 8000 in
theorem letters_any (s : ByteArray) (hs : (s.size : Int) ≤ 140737488351232) (w : World) :
    Calls Tryz.prog 16 #[.string s, .int .i64 300] w fun e w' => ∃ l : List UInt8, e = .returned (.string ⟨l.toArray⟩) ∧ Lets l ∧ l.getLast? ≠ some 32 ∧ l.length ≤ 300 ∧ Below w.heap.size w w' := by
  obtain ⟨i0, hi, hz0, hz1, hz2⟩ := info_parts info5
  go_enter Tryz.func16, Tryz.ntmps16
  go_wp2
  go_loopw [5, 6] (fun v i wr => ∃ (k : Nat) (l : List UInt8), i = .int .i64 (k : Int) ∧ k ≤ s.size ∧ l.length ≤ 300 ∧ OwnB wr w.heap.size v l ∧ Hid (Lets l) ∧ Hid (Below w.heap.size w wr)) (fun _ i _ => s.size - (intOf i).toNat)
  case atStart => exact ⟨0, [], rfl, by omega, by simp, World.ownsRow_nil _ _ _ _, lets_nil, Below.refl _ _⟩
  case round =>
    obtain ⟨k, l, rfl, hk, hll, hown, hla, hbw⟩ := hrel
    have hsz := hbw.out.size
    by_cases hgo : k < s.size ∧ l.length < 300
    · obtain ⟨hks, hlm⟩ := hgo
      have g1 : (k : Int) < (s.size : Int) := by omega
      have g2 : (l.length : Int) < 300 := by omega
      obtain ⟨c, hc⟩ : ∃ c, s[k] = c := ⟨_, rfl⟩
      have hcase : (97 ≤ c.toNat ∧ c.toNat ≤ 122) ∨ (c = 32) ∨ (c.toNat < 97 ∧ c ≠ 32) ∨ (122 < c.toNat) := by
        by_cases h : c = 32
        · exact .inr (.inl h)
        · rcases Nat.lt_or_ge c.toNat 97 with h1 | h1
          · exact .inr (.inr (.inl ⟨h1, h⟩))
          · rcases Nat.lt_or_ge 122 c.toNat with h2 | h2
            · exact .inr (.inr (.inr h2))
            · exact .inl ⟨h1, h2⟩
      rcases hcase with ⟨c1, c2⟩ | rfl | ⟨c1, c2⟩ | c1
      · obtain ⟨ad, cp, rfl⟩ := lown_len hown
        have HP : Hid (Lets (l ++ [c])) := lets_push hla.out (.inl ⟨c1, c2⟩)
        have t1 : (97 : Int) ≤ (c.toNat : Int) := by omega
        have t2 : (c.toNat : Int) ≤ 122 := by omega
        go_wp2_with (at_builtin; refine wpList_append_own _ rfl _ _ 29 rfl w.heap.size 5 i0 (.int .u8 0) 1 1 Tryz.underlying29 hi hz0 hz1 hz2 rfl (by decide) _ _ _ rfl (hown.alloc _) ⟨wr.heap.size, 0, none⟩ 1 1 [.int .u8 (c.toNat : Int)] rfl rfl (lit_cells _ _ _) ?c2 ?c3 ?c4 ?c5 ?_)
        case c2 => first | rfl | (intro u hu; simp at hu; subst hu; rfl)
        case c3 => unfold maxLen; omega
        case c4 => omega
        case c5 => first | omega | (simp; omega)
        intro v' w2 hown' hgrow _
        have R1 := own_push (l := [c]) hown' rfl (byteCells_one _)
        have R2 := below_grown hbw.out hsz hown hgrow
        go_wp2
        go_roundw
        case rel => exact ⟨k + 1, l ++ [c], by go_num, by omega, by simp; omega, R1, HP.out, R2⟩
        case measure => simp [intOf]; omega
      · cases hlast : l.getLast? with
        | none =>
          have hnil : l = [] := by simpa using hlast
          subst hnil
          obtain ⟨ad, cp, rfl⟩ := lown_nil hown
          go_wp2
          go_roundw
          case rel => exact ⟨k + 1, [], by go_num, by omega, hll, hown, hla, hbw⟩
          case measure => simp [intOf]; omega
        | some b =>
          have hne : l ≠ [] := by intro e; rw [e] at hlast; cases hlast
          obtain ⟨g, cp, rfl, hc1, hc2⟩ := lown_slice hown hne
          have h0 : 0 < l.length := List.length_pos_iff.2 hne
          have hcell := lown_last hown hlast
          obtain ⟨n, hn⟩ : ∃ n, l.length = n + 1 := ⟨l.length - 1, by omega⟩
          have HN := (show Hid _ from hn)
          rw [show l.length - 1 = n by omega] at hcell
          unfold maxLen at hc2
          clear hlast
          by_cases h32 : b = 32
          · subst h32
            have HOW := (show Hid _ from hown)
            rw [hn] at hown g2 hc1 ⊢
            clear hn h0
            go_wp2
            go_roundw
            case rel => exact ⟨k + 1, l, by go_num, by omega, hll, by rw [← HN.out]; exact HOW.out, hla, hbw⟩
            case measure => simp [intOf]; omega
          · have q : ¬ (b.toNat : Int) = 32 := fun e => h32 (UInt8.toNat_inj.1 (by show b.toNat = 32; omega))
            have q2 : ((b.toNat : Int) != 32) = true := by simpa using q
            have HP : Hid (Lets (l ++ [32])) := lets_push hla.out (.inr ⟨rfl, hne⟩)
            have HOW := (show Hid _ from hown)
            rw [hn] at hown g2 hc1 hlm ⊢
            clear hn h0
            go_wp2_with (at_builtin; refine wpList_append_own _ rfl _ _ 29 rfl w.heap.size 5 i0 (.int .u8 0) 1 1 Tryz.underlying29 hi hz0 hz1 hz2 rfl (by decide) _ _ _ rfl (hown.alloc _) ⟨wr.heap.size, 0, none⟩ 1 1 [.int .u8 32] rfl rfl (lit_cells _ _ _) ?c2 ?c3 ?c4 ?c5 ?_)
            case c2 => first | rfl | (intro u hu; simp at hu; subst hu; rfl)
            case c3 => unfold maxLen; omega
            case c4 => omega
            case c5 => first | omega | (simp; omega)
            intro v' w2 hown' hgrow _
            have R1 := own_push (l := [32]) hown' rfl (byteCells_one _)
            have R2 := below_grown hbw.out hsz hown hgrow
            go_wp2
            go_roundw
            case rel => exact ⟨k + 1, l ++ [32], by go_num, by omega, by have := HN.out; simp; omega, R1, HP.out, R2⟩
            case measure => simp [intOf]; omega
      · obtain ⟨ad, cp, rfl⟩ := lown_len hown
        have t1 : ¬ (97 : Int) ≤ (c.toNat : Int) := by omega
        have t2 : ¬ (c.toNat : Int) = 32 := fun e => c2 (UInt8.toNat_inj.1 (by show c.toNat = 32; omega))
        have t3 : ((c.toNat : Int) == 32) = false := by rw [beq_eq_false_iff_ne]; exact t2
        go_wp2
        go_roundw
        case rel => exact ⟨k + 1, l, by go_num, by omega, hll, hown, hla, hbw⟩
        case measure => simp [intOf]; omega
      · obtain ⟨ad, cp, rfl⟩ := lown_len hown
        have t1 : (97 : Int) ≤ (c.toNat : Int) := by omega
        have t4 : ¬ (c.toNat : Int) ≤ 122 := by omega
        have t2 : ¬ (c.toNat : Int) = 32 := by omega
        have t3 : ((c.toNat : Int) == 32) = false := by rw [beq_eq_false_iff_ne]; exact t2
        go_wp2
        go_roundw
        case rel => exact ⟨k + 1, l, by go_num, by omega, hll, hown, hla, hbw⟩
        case measure => simp [intOf]; omega
    · obtain ⟨ad, cp, rfl⟩ := lown_len hown
      have hst : s.size ≤ k ∨ (k < s.size ∧ 300 ≤ l.length) := by omega
      clear hgo
      rcases hst with h1 | ⟨h1, h2⟩
      · have g1 : ¬ (k : Int) < (s.size : Int) := by omega
        go_wp2
        go_loopw [5] (fun v wq => ∃ l' : List UInt8, l'.length ≤ 300 ∧ OwnB wq w.heap.size v l' ∧ Hid (Lets l') ∧ Hid (Below w.heap.size w wq)) (fun v _ => lenOfV v)
        case atStart => exact ⟨l, hll, hown, hla, hbw⟩
        case round =>
          clear hown hla hbw hll
          obtain ⟨l', hll, hown, hla, hbw⟩ := hrel
          cases hlast : l'.getLast? with
          | none =>
            have hnil : l' = [] := by simpa using hlast
            subst hnil
            obtain ⟨ad, cp, rfl⟩ := lown_nil hown
            have hconv := own_string hown
            go_wp2
            go_ret
            exact ⟨[], rfl, hla.out, by simp, by simp, hbw.out⟩
          | some b =>
            have hne : l' ≠ [] := by intro e; rw [e] at hlast; cases hlast
            obtain ⟨g, cp, rfl, hc1, hc2⟩ := lown_slice hown hne
            have h0 : 0 < l'.length := List.length_pos_iff.2 hne
            have hcell := lown_last hown hlast
            have hconv := own_string hown
            have hcut := lown_cut hown hne
            obtain ⟨n, hn⟩ : ∃ n, l'.length = n + 1 := ⟨l'.length - 1, by omega⟩
            have HN := (show Hid _ from hn)
            rw [show l'.length - 1 = n by omega] at hcell hcut
            have HO := (show Hid _ from hcut)
            have HLA := (show Hid _ from hlast)
            unfold maxLen at hc2
            rw [hn] at hconv hc1
            rw [hn]
            clear hcut hlast hn h0
            by_cases h32 : b = 32
            · subst h32
              go_wp2
              go_roundw
              case rel => exact ⟨l'.dropLast, by rw [List.length_dropLast]; omega, HO.out, lets_front hla.out, hbw⟩
              case measure => simp [lenOfV]
            · have q : ¬ (b.toNat : Int) = 32 := fun e => h32 (UInt8.toNat_inj.1 (by show b.toNat = 32; omega))
              have q2 : ((b.toNat : Int) == 32) = false := by rw [beq_eq_false_iff_ne]; exact q
              go_wp2
              go_ret
              exact ⟨l', rfl, hla.out, by rw [HLA.out]; intro e; exact h32 (Option.some.inj e), hll, hbw.out⟩
      · have g1 : (k : Int) < (s.size : Int) := by omega
        have g2 : ¬ (l.length : Int) < 300 := by omega
        have g3 : decide ((l.length : Int) < 300) = false := by simpa using g2
        go_wp2
        go_loopw [5] (fun v wq => ∃ l' : List UInt8, l'.length ≤ 300 ∧ OwnB wq w.heap.size v l' ∧ Hid (Lets l') ∧ Hid (Below w.heap.size w wq)) (fun v _ => lenOfV v)
        case atStart => exact ⟨l, hll, hown, hla, hbw⟩
        case round =>
          clear hown hla hbw hll
          obtain ⟨l', hll, hown, hla, hbw⟩ := hrel
          cases hlast : l'.getLast? with
          | none =>
            have hnil : l' = [] := by simpa using hlast
            subst hnil
            obtain ⟨ad, cp, rfl⟩ := lown_nil hown
            have hconv := own_string hown
            go_wp2
            go_ret
            exact ⟨[], rfl, hla.out, by simp, by simp, hbw.out⟩
          | some b =>
            have hne : l' ≠ [] := by intro e; rw [e] at hlast; cases hlast
            obtain ⟨g, cp, rfl, hc1, hc2⟩ := lown_slice hown hne
            have h0 : 0 < l'.length := List.length_pos_iff.2 hne
            have hcell := lown_last hown hlast
            have hconv := own_string hown
            have hcut := lown_cut hown hne
            obtain ⟨n, hn⟩ : ∃ n, l'.length = n + 1 := ⟨l'.length - 1, by omega⟩
            have HN := (show Hid _ from hn)
            rw [show l'.length - 1 = n by omega] at hcell hcut
            have HO := (show Hid _ from hcut)
            have HLA := (show Hid _ from hlast)
            unfold maxLen at hc2
            rw [hn] at hconv hc1
            rw [hn]
            clear hcut hlast hn h0
            by_cases h32 : b = 32
            · subst h32
              go_wp2
              go_roundw
              case rel => exact ⟨l'.dropLast, by rw [List.length_dropLast]; omega, HO.out, lets_front hla.out, hbw⟩
              case measure => simp [lenOfV]
            · have q : ¬ (b.toNat : Int) = 32 := fun e => h32 (UInt8.toNat_inj.1 (by show b.toNat = 32; omega))
              have q2 : ((b.toNat : Int) == 32) = false := by rw [beq_eq_false_iff_ne]; exact q
              go_wp2
              go_ret
              exact ⟨l', rfl, hla.out, by rw [HLA.out]; intro e; exact h32 (Option.some.inj e), hll, hbw.out⟩

end Go.Proofs.YtnjfkgkcapkfbaaGreatDoor
