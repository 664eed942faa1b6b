/- Links as package span finds them, over plain lists: the first sign, a place, an address; the same as told. -/
import Derived.Test.YtegjpfhpkkffiaaDoorSCode
import Derived.Test.YtegjpfhpkkffiaaDoorPlainTags
import Derived.Lib.SplitLaws
set_option linter.unusedVariables false
namespace Go.Proofs.YtegjpfhpkkffiaaDoor

theorem part_first (c : UInt8) : ∀ u : List UInt8, c ∉ u ∨ ∃ h v, u = h ++ c :: v ∧ c ∉ h
  | [] => .inl (by simp)
  | b :: t => by
    by_cases hb : b = c
    · exact .inr ⟨[], t, by rw [hb]; rfl, by simp⟩
    · rcases part_first c t with h | ⟨h, v, e, hh⟩
      · left; simp only [List.mem_cons, not_or]; exact ⟨fun e => hb e.symm, h⟩
      · refine .inr ⟨b :: h, v, by rw [e]; rfl, ?_⟩
        simp only [List.mem_cons, not_or]; exact ⟨fun e => hb e.symm, hh⟩

theorem ne_tw {c : UInt8} {h : List UInt8} (hh : c ∉ h) (v : List UInt8) : (h ++ c :: v).takeWhile (· != c) = h ∧ (h ++ c :: v).dropWhile (· != c) = c :: v :=
  tw_all (· != c) h c v (fun x hx => by simp only [bne_iff_ne]; intro e; exact hh (e ▸ hx)) (by simp)
theorem ne_dw {c : UInt8} {u : List UInt8} (hu : c ∉ u) : u.dropWhile (· != c) = [] := by
  have := dw_nil (· != c) u
  rw [show u.all (· != c) = true from List.all_eq_true.2 fun x hx => by simp only [bne_iff_ne]; intro e; exact hu (e ▸ hx)] at this
  simpa using this

/-- The first byte of a text that is not of a kind. -/
theorem bad_first (p : UInt8 → Bool) : ∀ (h y : List UInt8), h.all p = false → ∃ b r, (h ++ y).dropWhile p = b :: r ∧ b ∈ h ∧ p b = false
  | [], y, e => by cases e
  | c :: t, y, e => by
    rw [List.cons_append, List.dropWhile_cons]
    cases hc : p c
    · exact ⟨c, t ++ y, by simp, by simp, hc⟩
    · rw [List.all_cons, hc, Bool.true_and] at e
      obtain ⟨b, r, h1, h2, h3⟩ := bad_first p t y e
      exact ⟨b, r, by simpa using h1, List.mem_cons_of_mem _ h2, h3⟩

def headLet (l : List UInt8) : Bool := match l with
  | [] => false
  | c :: _ => letterB c

/-- A place: of a scheme h and what stands behind the sign. -/
def placeQ (h v : List UInt8) : Bool := decide (2 ≤ h.length) && decide (h.length ≤ 32) && headLet h && h.all schC && v.all linkC
def placeP (u : List UInt8) : Bool := match u.dropWhile (· != 58) with
  | [] => false
  | _ :: v => placeQ (u.takeWhile (· != 58)) v

theorem placeP_of {h v : List UInt8} (hh : 58 ∉ h) : placeP (h ++ 58 :: v) = placeQ h v := by
  unfold placeP
  rw [(ne_tw hh v).1, (ne_tw hh v).2]
theorem placeP_no {u : List UInt8} (hu : 58 ∉ u) : placeP u = false := by
  unfold placeP
  rw [ne_dw hu]

theorem sch_link {c : UInt8} (h : schC c = true) : linkC c = true := by
  unfold schC letterB digitB at h
  unfold linkC
  simp only [Bool.or_eq_true, Bool.and_eq_true, decide_eq_true_eq, beq_iff_eq] at h
  simp only [Bool.and_eq_true, decide_eq_true_eq, bne_iff_ne, ne_eq]
  have e43 : (43 : UInt8).toNat = 43 := rfl
  refine ⟨⟨⟨?_, ?_⟩, ?_⟩, ?_⟩
  · rcases h with (((h | h) | rfl) | rfl) | rfl
    · omega
    · omega
    · decide
    · decide
    · decide
  all_goals
    rintro rfl
    revert h
    decide
theorem let_sch {c : UInt8} (h : letterB c = true) : schC c = true := by unfold schC; rw [h]; rfl

theorem place_all {u : List UInt8} (h : placeP u = true) : u.all linkC = true := by
  rcases part_first 58 u with hn | ⟨hd, v, rfl, hh⟩
  · rw [placeP_no hn] at h; cases h
  · rw [placeP_of hh] at h
    unfold placeQ at h
    simp only [Bool.and_eq_true] at h
    rw [List.all_append, List.all_cons, h.2]
    rw [show hd.all linkC = true from List.all_eq_true.2 fun x hx => sch_link (List.all_eq_true.1 h.1.2 x hx)]
    rfl

theorem place_sch {u : List UInt8} (hl : u.all linkC = true) : placeP u = schOk u := by
  rcases part_first 58 u with hn | ⟨hd, v, rfl, hh⟩
  · rw [placeP_no hn]
    unfold schOk
    cases h : ((u.drop (schK u)).head? == some 58)
    · simp
    · exfalso
      have h' : (u.drop (schK u)).head? = some 58 := by simpa using h
      exact hn (List.mem_of_mem_drop (List.mem_of_head? h'))
  · rw [placeP_of hh]
    rw [List.all_append, List.all_cons, Bool.and_eq_true, Bool.and_eq_true] at hl
    unfold placeQ
    rw [hl.2.2, Bool.and_true]
    unfold schOk
    cases hd with
    | nil => simp [schK, letterB]
    | cons c g =>
      have hk : schK (c :: g ++ 58 :: v) = if letterB c = true then 1 + ((g ++ 58 :: v).takeWhile schC).length else 0 := rfl
      rw [hk]
      cases hc : letterB c
      · simp [headLet, hc]
      · rw [if_pos rfl]
        cases hg : g.all schC
        · obtain ⟨b, r, h1, h2, h3⟩ := bad_first schC g (58 :: v) hg
          have hdr : (g ++ 58 :: v).drop ((g ++ 58 :: v).takeWhile schC).length = b :: r := by
            have e := List.takeWhile_append_dropWhile (p := schC) (l := g ++ 58 :: v)
            rw [h1] at e
            have h5 : ((g ++ 58 :: v).takeWhile schC ++ b :: r).drop ((g ++ 58 :: v).takeWhile schC).length = b :: r := by simp
            rw [e] at h5
            exact h5
          rw [Nat.add_comm, List.cons_append, List.drop_succ_cons, hdr]
          have hb : ¬ b = 58 := fun e => hh (List.mem_cons_of_mem _ (e ▸ h2))
          simp [hb, hg]
        · have htw := (tw_all schC g 58 v (fun x hx => List.all_eq_true.1 hg x hx) (by decide)).1
          rw [htw, Nat.add_comm, List.cons_append, List.drop_succ_cons]
          simp [headLet, hc, hg, let_sch hc]

/-! ### Addresses -/

def splitD : List UInt8 → List (List UInt8)
  | [] => [[]]
  | b :: t => if b = 46 then [] :: splitD t else match splitD t with
    | [] => [[b]]
    | x :: xs => (b :: x) :: xs

theorem splitD_cons (l : List UInt8) : ∃ x xs, splitD l = x :: xs := by
  cases l with
  | nil => exact ⟨[], [], rfl⟩
  | cons b t =>
    simp only [splitD]
    split
    · exact ⟨_, _, rfl⟩
    · split
      · exact ⟨_, _, rfl⟩
      · exact ⟨_, _, rfl⟩

theorem idx46_ne {b : UInt8} (h : b ≠ 46) (t : List UInt8) : Lib.index (b :: t) [46] = if Lib.index t [46] == -1 then -1 else Lib.index t [46] + 1 := by
  rw [show Lib.index (b :: t) [46] = if List.isPrefixOf [46] (b :: t) then 0 else if Lib.index t [46] == -1 then -1 else Lib.index t [46] + 1 from rfl, if_neg]
  simp [List.isPrefixOf]; exact fun e => h e.symm
theorem idx46_eq (t : List UInt8) : Lib.index (46 :: t) [46] = 0 := by
  rw [show Lib.index (46 :: t) [46] = if List.isPrefixOf [46] (46 :: t) then 0 else if Lib.index t [46] == -1 then -1 else Lib.index t [46] + 1 from rfl, if_pos]
  simp [List.isPrefixOf]

theorem split_ne {b : UInt8} (h : b ≠ 46) (t : List UInt8) (k : Nat) {x : List UInt8} {xs : List (List UInt8)} (e : Lib.splitK [46] 0 k t = x :: xs) : Lib.splitK [46] 0 k (b :: t) = (b :: x) :: xs := by
  cases k with
  | zero =>
    simp only [Lib.splitK] at e ⊢
    cases e; rfl
  | succ k =>
    have hge := Lib.index_ge t [46]
    simp only [Lib.splitK] at e ⊢
    rw [idx46_ne h]
    by_cases hi : Lib.index t [46] = -1
    · rw [hi] at e ⊢
      simp at e ⊢
      exact ⟨e.1, e.2⟩
    · have h1 : (Lib.index t [46] == -1) = false := by rw [beq_eq_false_iff_ne]; exact hi
      rw [h1] at e ⊢
      have h2 : ((Lib.index t [46] + 1) == -1) = false := by rw [beq_eq_false_iff_ne]; omega
      simp only [Bool.false_eq_true, if_false, h2] at e ⊢
      rw [show (Lib.index t [46] + 1).toNat = (Lib.index t [46]).toNat + 1 by omega]
      simp only [Nat.add_zero, List.length_singleton, List.take_succ_cons, List.drop_succ_cons] at e ⊢
      cases e
      rfl

theorem split_all : ∀ (l : List UInt8) (k : Nat), l.count 46 ≤ k → Lib.splitK [46] 0 k l = splitD l
  | [], k, _ => by
    cases k with
    | zero => rfl
    | succ k => rfl
  | b :: t, k, h => by
    by_cases hb : b = 46
    · subst hb
      rw [List.count_cons_self] at h
      match k with
      | 0 => omega
      | k + 1 =>
        simp only [Lib.splitK]
        rw [idx46_eq]
        show [] :: Lib.splitK [46] 0 k t = _
        rw [split_all t k (by omega)]
        simp [splitD]
    · obtain ⟨x, xs, e⟩ := splitD_cons t
      have e2 := split_all t k (by rw [List.count_cons_of_ne hb] at h; exact h)
      rw [split_ne hb t k (e2.trans e)]
      simp only [splitD]
      rw [if_neg hb, e]

def partP (p : List UInt8) : Bool := partOk p && p.all nameC

theorem parts_split : ∀ (v acc x : List UInt8) (xs : List (List UInt8)), acc.all nameC = true → splitD v = x :: xs → partsL acc v = (partP (acc ++ x) && xs.all partP)
  | [], acc, x, xs, ha, e => by
    simp only [splitD] at e
    cases e
    simp only [partsL, partP, List.append_nil, ha, List.all_nil, Bool.and_true]
  | b :: t, acc, x, xs, ha, e => by
    obtain ⟨y, ys, ey⟩ := splitD_cons t
    simp only [splitD] at e
    by_cases hb : b = 46
    · rw [if_pos hb] at e
      cases e
      simp only [partsL]
      rw [if_pos hb, parts_split t [] y ys rfl ey, ey]
      simp [partP, ha]
    · rw [if_neg hb, ey] at e
      cases e
      simp only [partsL]
      rw [if_neg hb]
      cases hn : (letterB b || digitB b || b == 45)
      · have : nameC b = false := hn
        rw [Bool.false_and]
        symm
        simp [partP, this]
      · have hnb : nameC b = true := hn
        rw [Bool.true_and, parts_split t (acc ++ [b]) y xs (by simp [List.all_append, ha, hnb]) ey, List.append_assoc]
        rfl

theorem parts_all (v : List UInt8) : (splitD v).all partP = partsL [] v := by
  obtain ⟨x, xs, e⟩ := splitD_cons v
  rw [parts_split v [] x xs rfl e, e]
  rfl

def mailP (u : List UInt8) : Bool := match u.dropWhile (· != 64) with
  | [] => false
  | _ :: v => !(u.takeWhile (· != 64)).isEmpty && (u.takeWhile (· != 64)).all mailC && (splitD v).all partP

theorem mailP_of {h v : List UInt8} (hh : 64 ∉ h) : mailP (h ++ 64 :: v) = (!h.isEmpty && h.all mailC && (splitD v).all partP) := by
  unfold mailP
  rw [(ne_tw hh v).1, (ne_tw hh v).2]
theorem mailP_no {u : List UInt8} (hu : 64 ∉ u) : mailP u = false := by
  unfold mailP
  rw [ne_dw hu]

theorem mail_same (u : List UInt8) : mailP u = mailL u := by
  rcases part_first 64 u with hn | ⟨h, v, rfl, hh⟩
  · rw [mailP_no hn]
    unfold mailL
    have e := List.takeWhile_append_dropWhile (p := mailC) (l := u)
    cases hd : u.dropWhile mailC with
    | nil => rfl
    | cons b v =>
      have hb : ¬ b = 64 := by
        rintro rfl
        rw [hd] at e
        exact hn (by rw [← e]; simp)
      simp [hb]
  · rw [mailP_of hh, parts_all]
    unfold mailL
    cases ha : h.all mailC
    · obtain ⟨b, r, h1, h2, h3⟩ := bad_first mailC h (64 :: v) ha
      rw [h1]
      have hb : ¬ b = 64 := fun e => hh (e ▸ h2)
      simp [hb]
    · obtain ⟨e1, e2⟩ := tw_all mailC h 64 v (fun x hx => List.all_eq_true.1 ha x hx) (by decide)
      rw [e1, e2]
      simp

theorem name_link {c : UInt8} (h : nameC c = true) : linkC c = true := by
  apply sch_link
  unfold nameC at h
  unfold schC
  cases h1 : letterB c <;> cases h2 : digitB c <;> cases h3 : c == 45 <;> simp_all
theorem mail_link {c : UInt8} (h : mailC c = true) : linkC c = true := by
  unfold mailC at h
  rw [Bool.or_eq_true] at h
  rcases h with h | h
  · apply name_link
    unfold nameC
    rw [h]; rfl
  · have hm := List.elem_iff.1 h
    simp only [List.mem_cons, List.not_mem_nil, or_false] at hm
    rcases hm with rfl | rfl | rfl | rfl | rfl | rfl | rfl | rfl | rfl | rfl | rfl | rfl | rfl | rfl | rfl | rfl | rfl | rfl | rfl | rfl <;> decide

theorem parts_link : ∀ (v acc : List UInt8), partsL acc v = true → v.all linkC = true
  | [], _, _ => rfl
  | b :: t, acc, h => by
    simp only [partsL] at h
    rw [List.all_cons]
    by_cases hb : b = 46
    · rw [if_pos hb, Bool.and_eq_true] at h
      rw [hb, parts_link t [] h.2]
      rfl
    · rw [if_neg hb, Bool.and_eq_true] at h
      rw [parts_link t _ h.2, name_link h.1]
      rfl

theorem mail_all {u : List UInt8} (h : mailP u = true) : u.all linkC = true := by
  rcases part_first 64 u with hn | ⟨hd, v, rfl, hh⟩
  · rw [mailP_no hn] at h; cases h
  · rw [mailP_of hh, parts_all] at h
    simp only [Bool.and_eq_true] at h
    rw [List.all_append, List.all_cons, parts_link v [] h.2, show hd.all linkC = true from List.all_eq_true.2 fun x hx => mail_link (List.all_eq_true.1 h.1.2 x hx)]
    rfl

/-- Auto, as the code goes: no sign. -/
theorem auto_none {t : List UInt8} (h : 62 ∉ t) : autoL (60 :: t) = none := by
  simp only [autoL, if_true]
  have e := List.takeWhile_append_dropWhile (p := linkC) (l := t)
  cases hd : t.dropWhile linkC with
  | nil => rfl
  | cons b r =>
    have hb : ¬ b = 62 := by
      rintro rfl
      rw [hd] at e
      exact h (by rw [← e]; simp)
    simp [hb]
theorem auto_code {u : List UInt8} (hu : 62 ∉ u) (y : List UInt8) : autoL (60 :: (u ++ 62 :: y)) = if placeP u = true then some (u, u, u.length + 2) else if mailP u = true then some ([109, 97, 105, 108, 116, 111, 58] ++ u, u, u.length + 2) else none := by
  cases ha : u.all linkC
  · have h1 : ¬ placeP u = true := fun h => by rw [place_all h] at ha; cases ha
    have h2 : ¬ mailP u = true := fun h => by rw [mail_all h] at ha; cases ha
    rw [if_neg h1, if_neg h2]
    obtain ⟨b, r, e1, e2, e3⟩ := bad_first linkC u (62 :: y) ha
    simp only [autoL, if_true]
    rw [e1]
    have hb : ¬ b = 62 := fun e => hu (e ▸ e2)
    simp [hb]
  · rw [auto_of u y (fun x hx => List.all_eq_true.1 ha x hx), place_sch ha, mail_same]

end Go.Proofs.YtegjpfhpkkffiaaDoor
