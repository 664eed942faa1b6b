/- formed, of the laws of layer 8, in a link: false; walked. -/
import Derived.Test.YtjdijlaoeoikhaaGreatDoorH02
set_option linter.unusedVariables false
namespace Go.Proofs.YtjdijlaoeoikhaaGreatDoor
open Go.RowKit

set_option maxHeartbeats 8000000 in
set_option maxRecDepth 20000 in
theorem iformed_false (n : Nat) (ih : FormIH n) (I : Is) (v : Value) (w : World) (hn : I.size = n) (hf : Fm false false I) (hr : InRow w I v) :
    Calls Tryz.prog 8 #[v, .bool false] w fun e w' => e = .returned (.bool true) ∧ Below w.heap.size w w' := by
  obtain ⟨a, cp, hv, hcap⟩ := form_start hr
  subst hv
  have HE : Hid (∀ (u : World) (j : Nat), Below w.heap.size w u → j < I.len → ∃ kd tx ds tt k ak ck g, a = some ⟨g, 0, none⟩ ∧ FormAt n false u g j kd tx ds tt k ak ck ∧ (0 < j → kd = 0 → ∃ pk : Nat, pk ≠ 0 ∧ pk ≤ 8 ∧ u.cell? ⟨g, (j - 1) * 5, none⟩ = some (.int .i64 (pk : Int)))) := fun u j hu hj => form_at hn hf (hr.keep hu) j hj
  have IH := (show Hid (FormIH n) from ih)
  clear hf hr hn ih
  generalize I.len = L at *
  clear I
  go_enter Tryz.func8, Tryz.ntmps8
  go_wp2
  go_loopw [5] (fun i wr => ∃ (j : Nat), i = .int .i64 (j : Int) ∧ j ≤ L ∧ Hid (Below w.heap.size w wr)) (fun i _ => L - (intOf i).toNat)
  case atStart => exact ⟨0, rfl, Nat.zero_le _, Below.refl _ _⟩
  case round =>
    obtain ⟨j, rfl, hj, HB⟩ := hrel
    by_cases hlt : j < L
    · have hji : (j : Int) < (L : Int) := by omega
      obtain ⟨kd, tx, ds, tt, k, ak, ck, g, hga, hat, hprev⟩ := HE.out _ j HB.out hlt
      subst hga
      clear HE
      obtain ⟨q0, q1, q2, q3, q4, hrk, hsz, hel, hfk⟩ := hat
      have hkd : kd = 0 ∨ kd = 1 ∨ kd = 2 ∨ kd = 3 ∨ kd = 4 ∨ kd = 5 ∨ kd = 6 ∨ kd = 7 ∨ kd = 8 := by have : kd ≤ 8 := hel.kd; omega
      have hjz : j = 0 ∨ 0 < j := by omega
      rcases hkd with rfl | rfl | rfl | rfl | rfl | rfl | rfl | rfl | rfl
      · rcases hjz with rfl | hjp
        · as_aux_lemma =>
            have htx : tx ≠ [] := hel.ne (show (0 : Nat) = 0 ∨ 0 = 8 by decide)
            have htb : (tx == []) = false := by simpa using htx
            clear htx
            have hdd := hel.ld (show (0 : Nat) ≠ 6 by decide) (show (0 : Nat) ≠ 7 by decide)
            obtain rfl : ds = [] := hdd.1
            obtain rfl : tt = [] := hdd.2
            clear hdd
            obtain rfl : k = .nil := hel.ks (show (0 : Nat) < 4 ∨ 7 < 0 by decide)
            change _ = some (Value.slice ak 0 ck) at q4
            change InRow _ .nil (Value.slice ak 0 ck) at hrk
            have HR : Hid (∀ o, InRow (World.alloc _ o) .nil (Value.slice ak 0 ck)) := fun o => hrk.keep ((Below.refl _ _).alloc (Nat.le_refl _) o)
            have HIH : Hid (∀ u, InRow u .nil (Value.slice ak 0 ck) → Calls Tryz.prog 8 #[(Value.slice ak 0 ck), .bool false] u fun e w' => e = .returned (.bool true) ∧ Below u.heap.size u w') := fun u hu => IH.out .nil false _ u hsz hfk hu
            have HBA : Hid (∀ o, Below w.heap.size w (World.alloc _ o)) := fun o => HB.out.alloc HB.out.size o
            clear hprev
            simp only [Nat.zero_mul, Nat.zero_add] at q0 q1 q2 q3 q4
            clear hel hfk hsz hrk IH HB
            go_wp2_with (first | (go_at_call 8; refine Calls.mono (HIH.out _ (HR.out _)) ?_; rintro e u2 ⟨rfl, hb2⟩; have HU2 := (show Hid (Below w.heap.size w u2) from (HBA.out _).trans (hb2.mono (HBA.out _).size)); clear hb2))
            all_goals
              go_roundw
              case rel => exact ⟨0 + 1, by go_num, by omega, HU2⟩
              case measure => (simp [intOf]) <;> omega
        · as_aux_lemma =>
            have htx : tx ≠ [] := hel.ne (show (0 : Nat) = 0 ∨ 0 = 8 by decide)
            have htb : (tx == []) = false := by simpa using htx
            clear htx
            have hdd := hel.ld (show (0 : Nat) ≠ 6 by decide) (show (0 : Nat) ≠ 7 by decide)
            obtain rfl : ds = [] := hdd.1
            obtain rfl : tt = [] := hdd.2
            clear hdd
            obtain rfl : k = .nil := hel.ks (show (0 : Nat) < 4 ∨ 7 < 0 by decide)
            change _ = some (Value.slice ak 0 ck) at q4
            change InRow _ .nil (Value.slice ak 0 ck) at hrk
            have HR : Hid (∀ o, InRow (World.alloc _ o) .nil (Value.slice ak 0 ck)) := fun o => hrk.keep ((Below.refl _ _).alloc (Nat.le_refl _) o)
            have HIH : Hid (∀ u, InRow u .nil (Value.slice ak 0 ck) → Calls Tryz.prog 8 #[(Value.slice ak 0 ck), .bool false] u fun e w' => e = .returned (.bool true) ∧ Below u.heap.size u w') := fun u hu => IH.out .nil false _ u hsz hfk hu
            have HBA : Hid (∀ o, Below w.heap.size w (World.alloc _ o)) := fun o => HB.out.alloc HB.out.size o
            obtain ⟨pk, hp1, hp2, hpc⟩ := hprev hjp rfl
            have hpi : ((pk : Int) == 0) = false := by simp; omega
            obtain ⟨j0, rfl⟩ : ∃ j0, j = j0 + 1 := ⟨j - 1, by omega⟩
            rw [Nat.add_sub_cancel] at hpc
            have hpa := fun o => al8f hpc o
            have hz : (0 : Int) < (((j0 + 1) : Nat) : Int) := by omega
            clear hel hfk hsz hrk IH HB
            go_wp2_with (first | (go_at_call 8; refine Calls.mono (HIH.out _ (HR.out _)) ?_; rintro e u2 ⟨rfl, hb2⟩; have HU2 := (show Hid (Below w.heap.size w u2) from (HBA.out _).trans (hb2.mono (HBA.out _).size)); clear hb2))
            all_goals
              go_roundw
              case rel => exact ⟨(j0 + 1) + 1, by go_num, by omega, HU2⟩
              case measure => (simp [intOf]) <;> omega
      · clear hjz
        as_aux_lemma =>
          obtain rfl : tx = [] := hel.tx (show (1 : Nat) ≠ 0 by decide) (show (1 : Nat) ≠ 3 by decide) (show (1 : Nat) ≠ 8 by decide)
          have hdd := hel.ld (show (1 : Nat) ≠ 6 by decide) (show (1 : Nat) ≠ 7 by decide)
          obtain rfl : ds = [] := hdd.1
          obtain rfl : tt = [] := hdd.2
          clear hdd
          obtain rfl : k = .nil := hel.ks (show (1 : Nat) < 4 ∨ 7 < 1 by decide)
          change _ = some (Value.slice ak 0 ck) at q4
          change InRow _ .nil (Value.slice ak 0 ck) at hrk
          have HR : Hid (∀ o, InRow (World.alloc _ o) .nil (Value.slice ak 0 ck)) := fun o => hrk.keep ((Below.refl _ _).alloc (Nat.le_refl _) o)
          have HIH : Hid (∀ u, InRow u .nil (Value.slice ak 0 ck) → Calls Tryz.prog 8 #[(Value.slice ak 0 ck), .bool false] u fun e w' => e = .returned (.bool true) ∧ Below u.heap.size u w') := fun u hu => IH.out .nil false _ u hsz hfk hu
          have HBA : Hid (∀ o, Below w.heap.size w (World.alloc _ o)) := fun o => HB.out.alloc HB.out.size o
          clear hprev
          clear hel hfk hsz hrk IH HB
          go_wp2_with (first | (go_at_call 8; refine Calls.mono (HIH.out _ (HR.out _)) ?_; rintro e u2 ⟨rfl, hb2⟩; have HU2 := (show Hid (Below w.heap.size w u2) from (HBA.out _).trans (hb2.mono (HBA.out _).size)); clear hb2))
          all_goals
            go_roundw
            case rel => exact ⟨j + 1, by go_num, by omega, HU2⟩
            case measure => (simp [intOf]) <;> omega
      · clear hjz
        as_aux_lemma =>
          obtain rfl : tx = [] := hel.tx (show (2 : Nat) ≠ 0 by decide) (show (2 : Nat) ≠ 3 by decide) (show (2 : Nat) ≠ 8 by decide)
          have hdd := hel.ld (show (2 : Nat) ≠ 6 by decide) (show (2 : Nat) ≠ 7 by decide)
          obtain rfl : ds = [] := hdd.1
          obtain rfl : tt = [] := hdd.2
          clear hdd
          obtain rfl : k = .nil := hel.ks (show (2 : Nat) < 4 ∨ 7 < 2 by decide)
          change _ = some (Value.slice ak 0 ck) at q4
          change InRow _ .nil (Value.slice ak 0 ck) at hrk
          have HR : Hid (∀ o, InRow (World.alloc _ o) .nil (Value.slice ak 0 ck)) := fun o => hrk.keep ((Below.refl _ _).alloc (Nat.le_refl _) o)
          have HIH : Hid (∀ u, InRow u .nil (Value.slice ak 0 ck) → Calls Tryz.prog 8 #[(Value.slice ak 0 ck), .bool false] u fun e w' => e = .returned (.bool true) ∧ Below u.heap.size u w') := fun u hu => IH.out .nil false _ u hsz hfk hu
          have HBA : Hid (∀ o, Below w.heap.size w (World.alloc _ o)) := fun o => HB.out.alloc HB.out.size o
          clear hprev
          clear hel hfk hsz hrk IH HB
          go_wp2_with (first | (go_at_call 8; refine Calls.mono (HIH.out _ (HR.out _)) ?_; rintro e u2 ⟨rfl, hb2⟩; have HU2 := (show Hid (Below w.heap.size w u2) from (HBA.out _).trans (hb2.mono (HBA.out _).size)); clear hb2))
          all_goals
            go_roundw
            case rel => exact ⟨j + 1, by go_num, by omega, HU2⟩
            case measure => (simp [intOf]) <;> omega
      · clear hjz
        as_aux_lemma =>
          have hdd := hel.ld (show (3 : Nat) ≠ 6 by decide) (show (3 : Nat) ≠ 7 by decide)
          obtain rfl : ds = [] := hdd.1
          obtain rfl : tt = [] := hdd.2
          clear hdd
          obtain rfl : k = .nil := hel.ks (show (3 : Nat) < 4 ∨ 7 < 3 by decide)
          change _ = some (Value.slice ak 0 ck) at q4
          change InRow _ .nil (Value.slice ak 0 ck) at hrk
          have HR : Hid (∀ o, InRow (World.alloc _ o) .nil (Value.slice ak 0 ck)) := fun o => hrk.keep ((Below.refl _ _).alloc (Nat.le_refl _) o)
          have HIH : Hid (∀ u, InRow u .nil (Value.slice ak 0 ck) → Calls Tryz.prog 8 #[(Value.slice ak 0 ck), .bool false] u fun e w' => e = .returned (.bool true) ∧ Below u.heap.size u w') := fun u hu => IH.out .nil false _ u hsz hfk hu
          have HBA : Hid (∀ o, Below w.heap.size w (World.alloc _ o)) := fun o => HB.out.alloc HB.out.size o
          clear hprev
          clear hel hfk hsz hrk IH HB
          go_wp2_with (first | (go_at_call 8; refine Calls.mono (HIH.out _ (HR.out _)) ?_; rintro e u2 ⟨rfl, hb2⟩; have HU2 := (show Hid (Below w.heap.size w u2) from (HBA.out _).trans (hb2.mono (HBA.out _).size)); clear hb2))
          all_goals
            go_roundw
            case rel => exact ⟨j + 1, by go_num, by omega, HU2⟩
            case measure => (simp [intOf]) <;> omega
      · clear hjz
        as_aux_lemma =>
          obtain rfl : tx = [] := hel.tx (show (4 : Nat) ≠ 0 by decide) (show (4 : Nat) ≠ 3 by decide) (show (4 : Nat) ≠ 8 by decide)
          have hdd := hel.ld (show (4 : Nat) ≠ 6 by decide) (show (4 : Nat) ≠ 7 by decide)
          obtain rfl : ds = [] := hdd.1
          obtain rfl : tt = [] := hdd.2
          clear hdd
          obtain ⟨KL, hKL⟩ : ∃ KL, KL = k.len := ⟨_, rfl⟩
          rw [← hKL] at q4 hrk
          have hKp : 0 < KL := by rw [hKL]; exact len_pos (hel.em (show (4 : Nat) = 4 ∨ 4 = 5 by decide))
          have hKi : ¬ (KL : Int) = 0 := by omega
          clear hKL
          have HR : Hid (∀ o, InRow (World.alloc _ o) k (Value.slice ak KL ck)) := fun o => hrk.keep ((Below.refl _ _).alloc (Nat.le_refl _) o)
          have HIH : Hid (∀ u, InRow u k (Value.slice ak KL ck) → Calls Tryz.prog 8 #[(Value.slice ak KL ck), .bool false] u fun e w' => e = .returned (.bool true) ∧ Below u.heap.size u w') := fun u hu => IH.out k false _ u hsz hfk hu
          have HBA : Hid (∀ o, Below w.heap.size w (World.alloc _ o)) := fun o => HB.out.alloc HB.out.size o
          clear hprev
          clear hel hfk hsz hrk IH HB
          go_wp2_with (first | (go_at_call 8; refine Calls.mono (HIH.out _ (HR.out _)) ?_; rintro e u2 ⟨rfl, hb2⟩; have HU2 := (show Hid (Below w.heap.size w u2) from (HBA.out _).trans (hb2.mono (HBA.out _).size)); clear hb2))
          all_goals
            go_roundw
            case rel => exact ⟨j + 1, by go_num, by omega, HU2⟩
            case measure => (simp [intOf]) <;> omega
      · clear hjz
        as_aux_lemma =>
          obtain rfl : tx = [] := hel.tx (show (5 : Nat) ≠ 0 by decide) (show (5 : Nat) ≠ 3 by decide) (show (5 : Nat) ≠ 8 by decide)
          have hdd := hel.ld (show (5 : Nat) ≠ 6 by decide) (show (5 : Nat) ≠ 7 by decide)
          obtain rfl : ds = [] := hdd.1
          obtain rfl : tt = [] := hdd.2
          clear hdd
          obtain ⟨KL, hKL⟩ : ∃ KL, KL = k.len := ⟨_, rfl⟩
          rw [← hKL] at q4 hrk
          have hKp : 0 < KL := by rw [hKL]; exact len_pos (hel.em (show (5 : Nat) = 4 ∨ 5 = 5 by decide))
          have hKi : ¬ (KL : Int) = 0 := by omega
          clear hKL
          have HR : Hid (∀ o, InRow (World.alloc _ o) k (Value.slice ak KL ck)) := fun o => hrk.keep ((Below.refl _ _).alloc (Nat.le_refl _) o)
          have HIH : Hid (∀ u, InRow u k (Value.slice ak KL ck) → Calls Tryz.prog 8 #[(Value.slice ak KL ck), .bool false] u fun e w' => e = .returned (.bool true) ∧ Below u.heap.size u w') := fun u hu => IH.out k false _ u hsz hfk hu
          have HBA : Hid (∀ o, Below w.heap.size w (World.alloc _ o)) := fun o => HB.out.alloc HB.out.size o
          clear hprev
          clear hel hfk hsz hrk IH HB
          go_wp2_with (first | (go_at_call 8; refine Calls.mono (HIH.out _ (HR.out _)) ?_; rintro e u2 ⟨rfl, hb2⟩; have HU2 := (show Hid (Below w.heap.size w u2) from (HBA.out _).trans (hb2.mono (HBA.out _).size)); clear hb2))
          all_goals
            go_roundw
            case rel => exact ⟨j + 1, by go_num, by omega, HU2⟩
            case measure => (simp [intOf]) <;> omega
      · clear hjz
        as_aux_lemma =>
          obtain rfl : tx = [] := hel.tx (show (6 : Nat) ≠ 0 by decide) (show (6 : Nat) ≠ 3 by decide) (show (6 : Nat) ≠ 8 by decide)
          obtain ⟨KL, hKL⟩ : ∃ KL, KL = k.len := ⟨_, rfl⟩
          rw [← hKL] at q4 hrk
          clear hKL
          have HR : Hid (∀ o, InRow (World.alloc _ o) k (Value.slice ak KL ck)) := fun o => hrk.keep ((Below.refl _ _).alloc (Nat.le_refl _) o)
          have HIH : Hid (∀ u, InRow u k (Value.slice ak KL ck) → Calls Tryz.prog 8 #[(Value.slice ak KL ck), .bool true] u fun e w' => e = .returned (.bool true) ∧ Below u.heap.size u w') := fun u hu => IH.out k true _ u hsz hfk hu
          have HBA : Hid (∀ o, Below w.heap.size w (World.alloc _ o)) := fun o => HB.out.alloc HB.out.size o
          clear hprev
          clear hel hfk hsz hrk IH HB
          go_wp2_with (first | (go_at_call 8; refine Calls.mono (HIH.out _ (HR.out _)) ?_; rintro e u2 ⟨rfl, hb2⟩; have HU2 := (show Hid (Below w.heap.size w u2) from (HBA.out _).trans (hb2.mono (HBA.out _).size)); clear hb2))
          all_goals
            go_roundw
            case rel => exact ⟨j + 1, by go_num, by omega, HU2⟩
            case measure => (simp [intOf]) <;> omega
      · clear hjz
        as_aux_lemma =>
          obtain rfl : tx = [] := hel.tx (show (7 : Nat) ≠ 0 by decide) (show (7 : Nat) ≠ 3 by decide) (show (7 : Nat) ≠ 8 by decide)
          obtain ⟨KL, hKL⟩ : ∃ KL, KL = k.len := ⟨_, rfl⟩
          rw [← hKL] at q4 hrk
          clear hKL
          have HR : Hid (∀ o, InRow (World.alloc _ o) k (Value.slice ak KL ck)) := fun o => hrk.keep ((Below.refl _ _).alloc (Nat.le_refl _) o)
          have HIH : Hid (∀ u, InRow u k (Value.slice ak KL ck) → Calls Tryz.prog 8 #[(Value.slice ak KL ck), .bool false] u fun e w' => e = .returned (.bool true) ∧ Below u.heap.size u w') := fun u hu => IH.out k false _ u hsz hfk hu
          have HBA : Hid (∀ o, Below w.heap.size w (World.alloc _ o)) := fun o => HB.out.alloc HB.out.size o
          clear hprev
          clear hel hfk hsz hrk IH HB
          go_wp2_with (first | (go_at_call 8; refine Calls.mono (HIH.out _ (HR.out _)) ?_; rintro e u2 ⟨rfl, hb2⟩; have HU2 := (show Hid (Below w.heap.size w u2) from (HBA.out _).trans (hb2.mono (HBA.out _).size)); clear hb2))
          all_goals
            go_roundw
            case rel => exact ⟨j + 1, by go_num, by omega, HU2⟩
            case measure => (simp [intOf]) <;> omega
      · clear hjz
        as_aux_lemma =>
          have htx : tx ≠ [] := hel.ne (show (8 : Nat) = 0 ∨ 8 = 8 by decide)
          have htb : (tx == []) = false := by simpa using htx
          clear htx
          have hdd := hel.ld (show (8 : Nat) ≠ 6 by decide) (show (8 : Nat) ≠ 7 by decide)
          obtain rfl : ds = [] := hdd.1
          obtain rfl : tt = [] := hdd.2
          clear hdd
          obtain rfl : k = .nil := hel.ks (show (8 : Nat) < 4 ∨ 7 < 8 by decide)
          change _ = some (Value.slice ak 0 ck) at q4
          change InRow _ .nil (Value.slice ak 0 ck) at hrk
          have HR : Hid (∀ o, InRow (World.alloc _ o) .nil (Value.slice ak 0 ck)) := fun o => hrk.keep ((Below.refl _ _).alloc (Nat.le_refl _) o)
          have HIH : Hid (∀ u, InRow u .nil (Value.slice ak 0 ck) → Calls Tryz.prog 8 #[(Value.slice ak 0 ck), .bool false] u fun e w' => e = .returned (.bool true) ∧ Below u.heap.size u w') := fun u hu => IH.out .nil false _ u hsz hfk hu
          have HBA : Hid (∀ o, Below w.heap.size w (World.alloc _ o)) := fun o => HB.out.alloc HB.out.size o
          clear hprev
          clear hel hfk hsz hrk IH HB
          go_wp2_with (first | (go_at_call 8; refine Calls.mono (HIH.out _ (HR.out _)) ?_; rintro e u2 ⟨rfl, hb2⟩; have HU2 := (show Hid (Below w.heap.size w u2) from (HBA.out _).trans (hb2.mono (HBA.out _).size)); clear hb2))
          all_goals
            go_roundw
            case rel => exact ⟨j + 1, by go_num, by omega, HU2⟩
            case measure => (simp [intOf]) <;> omega
    · have hji : ¬ (j : Int) < (L : Int) := by omega
      clear HE IH
      go_wp2
      go_ret
      exact ⟨rfl, HB.out⟩
end Go.Proofs.YtjdijlaoeoikhaaGreatDoor
