/- Several texts in one. -/
import Derived.Test.YtjdijlaoeoikhaaGreatDoorG40
import Derived.Test.YtjdijlaoeoikhaaGreatDoorG01
import Derived.Lib.SplitLaws
set_option linter.unusedVariables false
/- Links as package span finds them, over plain lists: the first sign, a place, an address; the same as told. -/
namespace Go.Proofs.YtjdijlaoeoikhaaGreatDoor

theorem part_first (c : UInt8) : ∀ u : List UInt8, c ∉ u ∨ ∃ h v, u = h ++ c :: v ∧ c ∉ h
  | [] => .inl (by simp)
  | b :: t => by
    by_cases hb : b = c
    · exact .inr ⟨[], t, by rw [hb]; rfl, by simp⟩
    · rcases part_first c t with h | ⟨h, v, e, hh⟩
      · left; simp only [List.mem_cons, not_or]; exact ⟨fun e => hb e.symm, h⟩
      · refine .inr ⟨b :: h, v, by rw [e]; rfl, ?_⟩
        simp only [List.mem_cons, not_or]; exact ⟨fun e => hb e.symm, hh⟩

theorem ne_tw {c : UInt8} {h : List UInt8} (hh : c ∉ h) (v : List UInt8) : (h ++ c :: v).takeWhile (· != c) = h ∧ (h ++ c :: v).dropWhile (· != c) = c :: v :=
  tw_all (· != c) h c v (fun x hx => by simp only [bne_iff_ne]; intro e; exact hh (e ▸ hx)) (by simp)
theorem ne_dw {c : UInt8} {u : List UInt8} (hu : c ∉ u) : u.dropWhile (· != c) = [] := by
  have := dw_nil (· != c) u
  rw [show u.all (· != c) = true from List.all_eq_true.2 fun x hx => by simp only [bne_iff_ne]; intro e; exact hu (e ▸ hx)] at this
  simpa using this

/-- The first byte of a text that is not of a kind. -/
theorem bad_first (p : UInt8 → Bool) : ∀ (h y : List UInt8), h.all p = false → ∃ b r, (h ++ y).dropWhile p = b :: r ∧ b ∈ h ∧ p b = false
  | [], y, e => by cases e
  | c :: t, y, e => by
    rw [List.cons_append, List.dropWhile_cons]
    cases hc : p c
    · exact ⟨c, t ++ y, by simp, by simp, hc⟩
    · rw [List.all_cons, hc, Bool.true_and] at e
      obtain ⟨b, r, h1, h2, h3⟩ := bad_first p t y e
      exact ⟨b, r, by simpa using h1, List.mem_cons_of_mem _ h2, h3⟩

def headLet (l : List UInt8) : Bool := match l with
  | [] => false
  | c :: _ => letterB c

/-- A place: of a scheme h and what stands behind the sign. -/
def placeQ (h v : List UInt8) : Bool := decide (2 ≤ h.length) && decide (h.length ≤ 32) && headLet h && h.all schC && v.all linkC
def placeP (u : List UInt8) : Bool := match u.dropWhile (· != 58) with
  | [] => false
  | _ :: v => placeQ (u.takeWhile (· != 58)) v

theorem placeP_of {h v : List UInt8} (hh : 58 ∉ h) : placeP (h ++ 58 :: v) = placeQ h v := by
  unfold placeP
  rw [(ne_tw hh v).1, (ne_tw hh v).2]
theorem placeP_no {u : List UInt8} (hu : 58 ∉ u) : placeP u = false := by
  unfold placeP
  rw [ne_dw hu]

theorem sch_link {c : UInt8} (h : schC c = true) : linkC c = true := by
  unfold schC letterB digitB at h
  unfold linkC
  simp only [Bool.or_eq_true, Bool.and_eq_true, decide_eq_true_eq, beq_iff_eq] at h
  simp only [Bool.and_eq_true, decide_eq_true_eq, bne_iff_ne, ne_eq]
  have e43 : (43 : UInt8).toNat = 43 := rfl
  refine ⟨⟨⟨?_, ?_⟩, ?_⟩, ?_⟩
  · rcases h with (((h | h) | rfl) | rfl) | rfl
    · omega
    · omega
    · decide
    · decide
    · decide
  all_goals
    rintro rfl
    revert h
    decide
theorem let_sch {c : UInt8} (h : letterB c = true) : schC c = true := by unfold schC; rw [h]; rfl

theorem place_all {u : List UInt8} (h : placeP u = true) : u.all linkC = true := by
  rcases part_first 58 u with hn | ⟨hd, v, rfl, hh⟩
  · rw [placeP_no hn] at h; cases h
  · rw [placeP_of hh] at h
    unfold placeQ at h
    simp only [Bool.and_eq_true] at h
    rw [List.all_append, List.all_cons, h.2]
    rw [show hd.all linkC = true from List.all_eq_true.2 fun x hx => sch_link (List.all_eq_true.1 h.1.2 x hx)]
    rfl

theorem place_sch {u : List UInt8} (hl : u.all linkC = true) : placeP u = schOk u := by
  rcases part_first 58 u with hn | ⟨hd, v, rfl, hh⟩
  · rw [placeP_no hn]
    unfold schOk
    cases h : ((u.drop (schK u)).head? == some 58)
    · simp
    · exfalso
      have h' : (u.drop (schK u)).head? = some 58 := by simpa using h
      exact hn (List.mem_of_mem_drop (List.mem_of_head? h'))
  · rw [placeP_of hh]
    rw [List.all_append, List.all_cons, Bool.and_eq_true, Bool.and_eq_true] at hl
    unfold placeQ
    rw [hl.2.2, Bool.and_true]
    unfold schOk
    cases hd with
    | nil => simp [schK, letterB]
    | cons c g =>
      have hk : schK (c :: g ++ 58 :: v) = if letterB c = true then 1 + ((g ++ 58 :: v).takeWhile schC).length else 0 := rfl
      rw [hk]
      cases hc : letterB c
      · simp [headLet, hc]
      · rw [if_pos rfl]
        cases hg : g.all schC
        · obtain ⟨b, r, h1, h2, h3⟩ := bad_first schC g (58 :: v) hg
          have hdr : (g ++ 58 :: v).drop ((g ++ 58 :: v).takeWhile schC).length = b :: r := by
            have e := List.takeWhile_append_dropWhile (p := schC) (l := g ++ 58 :: v)
            rw [h1] at e
            have h5 : ((g ++ 58 :: v).takeWhile schC ++ b :: r).drop ((g ++ 58 :: v).takeWhile schC).length = b :: r := by simp
            rw [e] at h5
            exact h5
          rw [Nat.add_comm, List.cons_append, List.drop_succ_cons, hdr]
          have hb : ¬ b = 58 := fun e => hh (List.mem_cons_of_mem _ (e ▸ h2))
          simp [hb, hg]
        · have htw := (tw_all schC g 58 v (fun x hx => List.all_eq_true.1 hg x hx) (by decide)).1
          rw [htw, Nat.add_comm, List.cons_append, List.drop_succ_cons]
          simp [headLet, hc, hg, let_sch hc]

/-! ### Addresses -/

def splitD : List UInt8 → List (List UInt8)
  | [] => [[]]
  | b :: t => if b = 46 then [] :: splitD t else match splitD t with
    | [] => [[b]]
    | x :: xs => (b :: x) :: xs

theorem splitD_cons (l : List UInt8) : ∃ x xs, splitD l = x :: xs := by
  cases l with
  | nil => exact ⟨[], [], rfl⟩
  | cons b t =>
    simp only [splitD]
    split
    · exact ⟨_, _, rfl⟩
    · split
      · exact ⟨_, _, rfl⟩
      · exact ⟨_, _, rfl⟩

theorem idx46_ne {b : UInt8} (h : b ≠ 46) (t : List UInt8) : Lib.index (b :: t) [46] = if Lib.index t [46] == -1 then -1 else Lib.index t [46] + 1 := by
  rw [show Lib.index (b :: t) [46] = if List.isPrefixOf [46] (b :: t) then 0 else if Lib.index t [46] == -1 then -1 else Lib.index t [46] + 1 from rfl, if_neg]
  simp [List.isPrefixOf]; exact fun e => h e.symm
theorem idx46_eq (t : List UInt8) : Lib.index (46 :: t) [46] = 0 := by
  rw [show Lib.index (46 :: t) [46] = if List.isPrefixOf [46] (46 :: t) then 0 else if Lib.index t [46] == -1 then -1 else Lib.index t [46] + 1 from rfl, if_pos]
  simp [List.isPrefixOf]

theorem split_ne {b : UInt8} (h : b ≠ 46) (t : List UInt8) (k : Nat) {x : List UInt8} {xs : List (List UInt8)} (e : Lib.splitK [46] 0 k t = x :: xs) : Lib.splitK [46] 0 k (b :: t) = (b :: x) :: xs := by
  cases k with
  | zero =>
    simp only [Lib.splitK] at e ⊢
    cases e; rfl
  | succ k =>
    have hge := Lib.index_ge t [46]
    simp only [Lib.splitK] at e ⊢
    rw [idx46_ne h]
    by_cases hi : Lib.index t [46] = -1
    · rw [hi] at e ⊢
      simp at e ⊢
      exact ⟨e.1, e.2⟩
    · have h1 : (Lib.index t [46] == -1) = false := by rw [beq_eq_false_iff_ne]; exact hi
      rw [h1] at e ⊢
      have h2 : ((Lib.index t [46] + 1) == -1) = false := by rw [beq_eq_false_iff_ne]; omega
      simp only [Bool.false_eq_true, if_false, h2] at e ⊢
      rw [show (Lib.index t [46] + 1).toNat = (Lib.index t [46]).toNat + 1 by omega]
      simp only [Nat.add_zero, List.length_singleton, List.take_succ_cons, List.drop_succ_cons] at e ⊢
      cases e
      rfl

theorem split_all : ∀ (l : List UInt8) (k : Nat), l.count 46 ≤ k → Lib.splitK [46] 0 k l = splitD l
  | [], k, _ => by
    cases k with
    | zero => rfl
    | succ k => rfl
  | b :: t, k, h => by
    by_cases hb : b = 46
    · subst hb
      rw [List.count_cons_self] at h
      match k with
      | 0 => omega
      | k + 1 =>
        simp only [Lib.splitK]
        rw [idx46_eq]
        show [] :: Lib.splitK [46] 0 k t = _
        rw [split_all t k (by omega)]
        simp [splitD]
    · obtain ⟨x, xs, e⟩ := splitD_cons t
      have e2 := split_all t k (by rw [List.count_cons_of_ne hb] at h; exact h)
      rw [split_ne hb t k (e2.trans e)]
      simp only [splitD]
      rw [if_neg hb, e]

def partP (p : List UInt8) : Bool := partOk p && p.all nameC

theorem parts_split : ∀ (v acc x : List UInt8) (xs : List (List UInt8)), acc.all nameC = true → splitD v = x :: xs → partsL acc v = (partP (acc ++ x) && xs.all partP)
  | [], acc, x, xs, ha, e => by
    simp only [splitD] at e
    cases e
    simp only [partsL, partP, List.append_nil, ha, List.all_nil, Bool.and_true]
  | b :: t, acc, x, xs, ha, e => by
    obtain ⟨y, ys, ey⟩ := splitD_cons t
    simp only [splitD] at e
    by_cases hb : b = 46
    · rw [if_pos hb] at e
      cases e
      simp only [partsL]
      rw [if_pos hb, parts_split t [] y ys rfl ey, ey]
      simp [partP, ha]
    · rw [if_neg hb, ey] at e
      cases e
      simp only [partsL]
      rw [if_neg hb]
      cases hn : (letterB b || digitB b || b == 45)
      · have : nameC b = false := hn
        rw [Bool.false_and]
        symm
        simp [partP, this]
      · have hnb : nameC b = true := hn
        rw [Bool.true_and, parts_split t (acc ++ [b]) y xs (by simp [List.all_append, ha, hnb]) ey, List.append_assoc]
        rfl

theorem parts_all (v : List UInt8) : (splitD v).all partP = partsL [] v := by
  obtain ⟨x, xs, e⟩ := splitD_cons v
  rw [parts_split v [] x xs rfl e, e]
  rfl

def mailP (u : List UInt8) : Bool := match u.dropWhile (· != 64) with
  | [] => false
  | _ :: v => !(u.takeWhile (· != 64)).isEmpty && (u.takeWhile (· != 64)).all mailC && (splitD v).all partP

theorem mailP_of {h v : List UInt8} (hh : 64 ∉ h) : mailP (h ++ 64 :: v) = (!h.isEmpty && h.all mailC && (splitD v).all partP) := by
  unfold mailP
  rw [(ne_tw hh v).1, (ne_tw hh v).2]
theorem mailP_no {u : List UInt8} (hu : 64 ∉ u) : mailP u = false := by
  unfold mailP
  rw [ne_dw hu]

theorem mail_same (u : List UInt8) : mailP u = mailL u := by
  rcases part_first 64 u with hn | ⟨h, v, rfl, hh⟩
  · rw [mailP_no hn]
    unfold mailL
    have e := List.takeWhile_append_dropWhile (p := mailC) (l := u)
    cases hd : u.dropWhile mailC with
    | nil => rfl
    | cons b v =>
      have hb : ¬ b = 64 := by
        rintro rfl
        rw [hd] at e
        exact hn (by rw [← e]; simp)
      simp [hb]
  · rw [mailP_of hh, parts_all]
    unfold mailL
    cases ha : h.all mailC
    · obtain ⟨b, r, h1, h2, h3⟩ := bad_first mailC h (64 :: v) ha
      rw [h1]
      have hb : ¬ b = 64 := fun e => hh (e ▸ h2)
      simp [hb]
    · obtain ⟨e1, e2⟩ := tw_all mailC h 64 v (fun x hx => List.all_eq_true.1 ha x hx) (by decide)
      rw [e1, e2]
      simp

theorem name_link {c : UInt8} (h : nameC c = true) : linkC c = true := by
  apply sch_link
  unfold nameC at h
  unfold schC
  cases h1 : letterB c <;> cases h2 : digitB c <;> cases h3 : c == 45 <;> simp_all
theorem mail_link {c : UInt8} (h : mailC c = true) : linkC c = true := by
  unfold mailC at h
  rw [Bool.or_eq_true] at h
  rcases h with h | h
  · apply name_link
    unfold nameC
    rw [h]; rfl
  · have hm := List.elem_iff.1 h
    simp only [List.mem_cons, List.not_mem_nil, or_false] at hm
    rcases hm with rfl | rfl | rfl | rfl | rfl | rfl | rfl | rfl | rfl | rfl | rfl | rfl | rfl | rfl | rfl | rfl | rfl | rfl | rfl | rfl <;> decide

theorem parts_link : ∀ (v acc : List UInt8), partsL acc v = true → v.all linkC = true
  | [], _, _ => rfl
  | b :: t, acc, h => by
    simp only [partsL] at h
    rw [List.all_cons]
    by_cases hb : b = 46
    · rw [if_pos hb, Bool.and_eq_true] at h
      rw [hb, parts_link t [] h.2]
      rfl
    · rw [if_neg hb, Bool.and_eq_true] at h
      rw [parts_link t _ h.2, name_link h.1]
      rfl

theorem mail_all {u : List UInt8} (h : mailP u = true) : u.all linkC = true := by
  rcases part_first 64 u with hn | ⟨hd, v, rfl, hh⟩
  · rw [mailP_no hn] at h; cases h
  · rw [mailP_of hh, parts_all] at h
    simp only [Bool.and_eq_true] at h
    rw [List.all_append, List.all_cons, parts_link v [] h.2, show hd.all linkC = true from List.all_eq_true.2 fun x hx => mail_link (List.all_eq_true.1 h.1.2 x hx)]
    rfl

/-- Auto, as the code goes: no sign. -/
theorem auto_none {t : List UInt8} (h : 62 ∉ t) : autoL (60 :: t) = none := by
  simp only [autoL, if_true]
  have e := List.takeWhile_append_dropWhile (p := linkC) (l := t)
  cases hd : t.dropWhile linkC with
  | nil => rfl
  | cons b r =>
    have hb : ¬ b = 62 := by
      rintro rfl
      rw [hd] at e
      exact h (by rw [← e]; simp)
    simp [hb]
theorem auto_code {u : List UInt8} (hu : 62 ∉ u) (y : List UInt8) : autoL (60 :: (u ++ 62 :: y)) = if placeP u = true then some (u, u, u.length + 2) else if mailP u = true then some ([109, 97, 105, 108, 116, 111, 58] ++ u, u, u.length + 2) else none := by
  cases ha : u.all linkC
  · have h1 : ¬ placeP u = true := fun h => by rw [place_all h] at ha; cases ha
    have h2 : ¬ mailP u = true := fun h => by rw [mail_all h] at ha; cases ha
    rw [if_neg h1, if_neg h2]
    obtain ⟨b, r, e1, e2, e3⟩ := bad_first linkC u (62 :: y) ha
    simp only [autoL, if_true]
    rw [e1]
    have hb : ¬ b = 62 := fun e => hu (e ▸ e2)
    simp [hb]
  · rw [auto_of u y (fun x hx => List.all_eq_true.1 ha x hx), place_sch ha, mail_same]

end Go.Proofs.YtjdijlaoeoikhaaGreatDoor

/- Links in package span, walked: all, place, part, mail, Auto. -/
namespace Go.Proofs.YtjdijlaoeoikhaaGreatDoor
open Go.RowKit

theorem all_any {g : Nat} {p : UInt8 → Bool} (hk : Kind g p) (s : ByteArray) (hs : s.size ≤ 9223372036854775000) (b : Bool) (hb : s.data.toList.all p = b) (w : World) :
    Calls Tryz.prog 79 #[.string s, .func (.func g) #[] #[]] w fun e w' => e = .returned (.bool b) ∧ w' = w := by
  have h0 : (pos s s.data.toList : Int) = 0 := by rw [pos_whole]; rfl
  have hrow : Hid (∀ w, Calls Tryz.prog 73 #[.string s, .int .i64 0, .func (.func g) #[] #[]] w fun e w' => e = .returned (.int .i64 (pos s (s.data.toList.dropWhile p) : Int)) ∧ w' = w) := fun w => by
    have := row_any hk s hs _ (Suf.whole s) w
    rwa [h0] at this
  have HB : Hid (b = ((s.data.toList.dropWhile p).isEmpty)) := by rw [dw_nil]; exact hb.symm
  have HS : Hid (Suf s (s.data.toList.dropWhile p)) := (Suf.whole s).dw p
  clear hb h0
  go_enter Tryz.func79, Tryz.ntmps79
  go_wp2_with (go_at_call 73; refine (hrow.out _).mono ?_; rintro e w1 ⟨rfl, hw⟩; subst w1)
  go_ret
  refine ⟨ret_bool ?_, rfl⟩
  rw [HB.out]
  have h1 := HS.out.sum
  cases hd : s.data.toList.dropWhile p with
  | nil => simp [pos_nil]
  | cons a t =>
    rw [hd] at h1
    simp only [List.length_cons] at h1
    rw [Bool.eq_iff_iff]
    simp
    omega

theorem idx_first {c : UInt8} {h : List UInt8} (hh : c ∉ h) (v : List UInt8) : Lib.indexByte (h ++ c :: v) c = (h.length : Int) := by
  induction h with
  | nil => simp [Lib.indexByte]
  | cons b t ih =>
    simp only [List.mem_cons, not_or] at hh
    rw [List.cons_append]
    unfold Lib.indexByte
    rw [ih hh.2, if_neg (by simpa using fun e => hh.1 e.symm), if_neg (by simp)]
    simp

theorem index_at (s : ByteArray) (c : UInt8) (y : Int) (hy : y = (c.toNat : Int)) (z : Int) (hz : Lib.indexByte s.data.toList c = z) (w : World) :
    Calls Tryz.prog 49 #[.string s, .int .u8 y] w fun e w' => e = .returned (.int .i64 z) ∧ w' = w := by
  subst hy
  have := indexByte_any s c.toNat w
  rw [back8, hz] at this
  exact this

theorem ext_head {s : ByteArray} {h r : List UInt8} (e : s.data.toList = h ++ r) : s.extract 0 h.length = ⟨h.toArray⟩ := by
  rw [extract_eq, e]
  simp
theorem ext_tail {s : ByteArray} {h r : List UInt8} {c : UInt8} (e : s.data.toList = h ++ c :: r) : s.extract (h.length + 1) s.size = ⟨r.toArray⟩ := by
  rw [extract_end, e]
  have : h ++ c :: r = (h ++ [c]) ++ r := by simp
  rw [this, List.drop_left' (by simp)]

set_option maxHeartbeats 4000000 in
theorem place_any (s : ByteArray) (hs : s.size ≤ 9223372036854775000) (w : World) :
    Calls Tryz.prog 50 #[.string s] w fun e w' => e = .returned (.bool (placeP s.data.toList)) ∧ w' = w := by
  have hlen := len_data s
  rcases part_first 58 s.data.toList with hn | ⟨h, v, hu, hh⟩
  · have HI := (show Hid _ from fun w => index_at s 58 58 rfl (-1) (idx_neg _ _ hn) w)
    have HE := (show Hid _ from placeP_no hn)
    go_enter Tryz.func50, Tryz.ntmps50
    go_wp2_with (go_at_call 49; refine (HI.out _).mono ?_; rintro e w1 ⟨rfl, hw⟩; subst w1)
    go_ret
    exact ⟨ret_bool (by rw [HE.out]), rfl⟩
  · have HI := (show Hid _ from fun w => index_at s 58 58 rfl (h.length : Int) (by rw [hu]; exact idx_first hh v) w)
    have HE : Hid (placeP s.data.toList = placeQ h v) := by rw [hu]; exact placeP_of hh
    have hsz : h.length + 1 + v.length = s.size := by rw [← hlen, hu]; simp; omega
    have h1 := ext_head hu
    have h2 := ext_tail hu
    have hb1 : (h.length : Int) + 1 ≤ (s.size : Int) := by omega
    have HS1 : Hid (∀ b, h.all schC = b → ∀ w, Calls Tryz.prog 79 #[.string (s.extract 0 h.length), .func (.func 80) #[] #[]] w fun e w' => e = .returned (.bool b) ∧ w' = w) := fun b hb w => by rw [h1]; exact all_any scheme_kind _ (by rw [size_list]; omega) b (by rw [list_data]; exact hb) w
    have HS2 : Hid (∀ b, v.all linkC = b → ∀ w, Calls Tryz.prog 79 #[.string (s.extract (h.length + 1) s.size), .func (.func 81) #[] #[]] w fun e w' => e = .returned (.bool b) ∧ w' = w) := fun b hb w => by rw [h2]; exact all_any place_kind _ (by rw [size_list]; omega) b (by rw [list_data]; exact hb) w
    clear h1 h2
    have hc : h.length < 2 ∨ 32 < h.length ∨ (2 ≤ h.length ∧ h.length ≤ 32) := by omega
    rcases hc with hc | hc | ⟨hc, hc'⟩
    · have HF : Hid (placeQ h v = false) := by show _ = _; unfold placeQ; rw [decide_eq_false (by omega)]; rfl
      have t1 : (h.length : Int) < 2 := by omega
      clear hu
      go_enter Tryz.func50, Tryz.ntmps50
      go_wp2_with (go_at_call 49; refine (HI.out _).mono ?_; rintro e w1 ⟨rfl, hw⟩; subst w1)
      go_ret
      exact ⟨ret_bool (by rw [HE.out, HF.out]), rfl⟩
    · have HF : Hid (placeQ h v = false) := by show _ = _; unfold placeQ; rw [decide_eq_false (p := h.length ≤ 32) (by omega)]; simp
      have t1 : ¬ (h.length : Int) < 2 := by omega
      have t2 : (32 : Int) < (h.length : Int) := by omega
      clear hu
      go_enter Tryz.func50, Tryz.ntmps50
      go_wp2_with (go_at_call 49; refine (HI.out _).mono ?_; rintro e w1 ⟨rfl, hw⟩; subst w1)
      go_ret
      exact ⟨ret_bool (by rw [HE.out, HF.out]), rfl⟩
    · have t1 : ¬ (h.length : Int) < 2 := by omega
      have t2 : ¬ (32 : Int) < (h.length : Int) := by omega
      have t1' : decide ((h.length : Int) < 2) = false := by simpa using t1
      have t2' : decide ((32 : Int) < (h.length : Int)) = false := by simpa using t2
      obtain ⟨c, hhd, hb0⟩ : ∃ c, headLet h = letN c.toNat ∧ s.data.toList.getD 0 0 = c := by
        cases h with
        | nil => simp at hc
        | cons c g => exact ⟨c, rfl, by rw [hu]; rfl⟩
      have h0s : 0 < s.size := by omega
      have hb : s[0] = c := by rw [byte_at s 0 h0s]; exact hb0
      have HQ : Hid (placeQ h v = (letN c.toNat && h.all schC && v.all linkC)) := by
        show _ = _
        unfold placeQ
        rw [decide_eq_true hc, decide_eq_true hc', hhd]
        rfl
      clear hu hb0 hhd
      cases hlet : letN c.toNat
      · go_enter Tryz.func50, Tryz.ntmps50
        go_wp2_with (first
          | (go_at_call 49; refine (HI.out _).mono ?_; rintro e w1 ⟨rfl, hw⟩; subst w1)
          | (go_at_call 53; refine (letter_any _ _).mono ?_; rintro e w1 ⟨rfl, hw⟩; subst w1))
        go_ret
        exact ⟨ret_bool (by rw [HE.out, HQ.out, hlet]; rfl), rfl⟩
      · cases hsch : h.all schC
        · have HS1 := (show Hid _ from HS1.out _ hsch)
          go_enter Tryz.func50, Tryz.ntmps50
          go_wp2_with (first
            | (go_at_call 49; refine (HI.out _).mono ?_; rintro e w1 ⟨rfl, hw⟩; subst w1)
            | (go_at_call 53; refine (letter_any _ _).mono ?_; rintro e w1 ⟨rfl, hw⟩; subst w1)
            | (go_at_call 79; refine (HS1.out _).mono ?_; rintro e w1 ⟨rfl, hw⟩; subst w1))
          go_ret
          exact ⟨ret_bool (by rw [HE.out, HQ.out, hlet, hsch]; rfl), rfl⟩
        · have HS1 := (show Hid _ from HS1.out _ hsch)
          obtain ⟨b2, hb2⟩ : ∃ b, v.all linkC = b := ⟨_, rfl⟩
          have HS2 := (show Hid _ from HS2.out _ hb2)
          have HB2 := (show Hid _ from hb2)
          clear hb2
          go_enter Tryz.func50, Tryz.ntmps50
          go_wp2_with (first
            | (go_at_call 49; refine (HI.out _).mono ?_; rintro e w1 ⟨rfl, hw⟩; subst w1)
            | (go_at_call 53; refine (letter_any _ _).mono ?_; rintro e w1 ⟨rfl, hw⟩; subst w1)
            | (go_at_call_of 79 (Value.string (s.extract 0 h.length)); refine (HS1.out _).mono ?_; rintro e w1 ⟨rfl, hw⟩; subst w1)
            | (go_at_call 79; refine (HS2.out _).mono ?_; rintro e w1 ⟨rfl, hw⟩; subst w1))
          go_ret
          exact ⟨ret_bool (by rw [HE.out, HQ.out, hlet, hsch, HB2.out]; rfl), rfl⟩

theorem last_byte (s : ByteArray) (h : 0 < s.size) : s.data.toList.getLast? = some (s[s.size - 1]'(by omega)) := by
  rw [List.getLast?_eq_getElem?, len_data, List.getElem?_eq_getElem (by rw [len_data]; omega)]
  rfl
theorem first_byte (s : ByteArray) (h : 0 < s.size) : s.data.toList.head? = some (s[0]'h) := by
  rw [List.head?_eq_getElem?, List.getElem?_eq_getElem (by rw [len_data]; omega)]
  rfl

set_option maxHeartbeats 4000000 in
theorem part_any (s : ByteArray) (hs : s.size ≤ 9223372036854775000) (w : World) :
    Calls Tryz.prog 84 #[.string s] w fun e w' => e = .returned (.bool (partP s.data.toList)) ∧ w' = w := by
  have hlen := len_data s
  rcases Nat.eq_zero_or_pos s.size with h0 | h0
  · have HF : Hid (partP s.data.toList = false) := by
      have : s.data.toList = [] := List.eq_nil_of_length_eq_zero (by omega)
      rw [this]; rfl
    have t1 : (s.size : Int) < 1 := by omega
    go_enter Tryz.func84, Tryz.ntmps84
    go_wp2
    go_ret
    exact ⟨ret_bool (by rw [HF.out]), rfl⟩
  · have t1 : ¬ (s.size : Int) < 1 := by omega
    have hfi := first_byte s h0
    have hla := last_byte s h0
    have hne : s.data.toList.isEmpty = false := by
      cases hd : s.data.toList with
      | nil => rw [hd] at hlen; simp at hlen; omega
      | cons a t => rfl
    by_cases h63 : 63 < s.size
    · have HF : Hid (partP s.data.toList = false) := by
        show _ = _
        unfold partP partOk
        rw [decide_eq_false (p := s.data.toList.length ≤ 63) (by omega)]
        simp
      have t2 : (63 : Int) < (s.size : Int) := by omega
      clear hfi hla hne
      go_enter Tryz.func84, Tryz.ntmps84
      go_wp2
      go_ret
      exact ⟨ret_bool (by rw [HF.out]), rfl⟩
    · have t2 : ¬ (63 : Int) < (s.size : Int) := by omega
      have t1' : decide ((s.size : Int) < 1) = false := by simpa using t1
      have t2' : decide ((63 : Int) < (s.size : Int)) = false := by simpa using t2
      obtain ⟨a, ha⟩ : ∃ a, s[0]'h0 = a := ⟨_, rfl⟩
      obtain ⟨z, hz⟩ : ∃ z, s[s.size - 1]'(by omega) = z := ⟨_, rfl⟩
      have HQ : Hid (partP s.data.toList = (!decide (a.toNat = 45) && !decide (z.toNat = 45) && s.data.toList.all nameC)) := by
        show _ = _
        unfold partP partOk
        rw [hne, decide_eq_true (p := s.data.toList.length ≤ 63) (by omega), hfi, hla, ha, hz]
        have e1 := eqN a 45 (by omega)
        have e2 := eqN z 45 (by omega)
        rw [← e1, ← e2]
        rfl
      obtain ⟨b2, hb2⟩ : ∃ b, s.data.toList.all nameC = b := ⟨_, rfl⟩
      have HA := (show Hid _ from fun w => all_any part_kind s hs b2 hb2 w)
      rw [hb2] at HQ
      clear hb2
      clear hfi hla hne
      by_cases ha45 : a.toNat = 45
      · have t3 : (a.toNat : Int) = 45 := by omega
        go_enter Tryz.func84, Tryz.ntmps84
        go_wp2
        go_ret
        exact ⟨ret_bool (by rw [HQ.out, decide_eq_true ha45]; rfl), rfl⟩
      · have t3 : ¬ (a.toNat : Int) = 45 := by omega
        have t3' : ((a.toNat : Int) == 45) = false := by rw [beq_eq_false_iff_ne]; exact t3
        by_cases hz45 : z.toNat = 45
        · have t4 : (z.toNat : Int) = 45 := by omega
          go_enter Tryz.func84, Tryz.ntmps84
          go_wp2
          go_ret
          exact ⟨ret_bool (by rw [HQ.out, decide_eq_true hz45]; simp), rfl⟩
        · have t4 : ¬ (z.toNat : Int) = 45 := by omega
          have t4' : ((z.toNat : Int) == 45) = false := by rw [beq_eq_false_iff_ne]; exact t4
          go_enter Tryz.func84, Tryz.ntmps84
          go_wp2_with (go_at_call 79; refine (HA.out _).mono ?_; rintro e w1 ⟨rfl, hw⟩; subst w1)
          go_ret
          exact ⟨ret_bool (by rw [HQ.out, decide_eq_false ha45, decide_eq_false hz45]; rfl), rfl⟩

theorem splits {s : ByteArray} : ((Lib.splitB ⟨#[46]⟩ 0 (Lib.countB s ⟨#[46]⟩) s).map (·.data.toList)) = splitD s.data.toList := by
  rw [Lib.splitB_data]
  refine split_all _ _ ?_
  show _ ≤ Lib.count s.data.toList [46]
  rw [Lib.count_one]
  exact Nat.le_refl _

theorem split_sizes : ∀ (k : Nat) (s : ByteArray), ∀ x ∈ Lib.splitB ⟨#[46]⟩ 0 k s, x.size ≤ s.size
  | 0, s, x, h => by
    simp only [Lib.splitB, List.mem_cons, List.not_mem_nil, or_false] at h
    rw [h]; exact Nat.le_refl _
  | k + 1, s, x, h => by
    simp only [Lib.splitB] at h
    split at h
    · simp only [List.mem_cons, List.not_mem_nil, or_false] at h
      rw [h]; exact Nat.le_refl _
    · rcases List.mem_cons.1 h with h | h
      · rw [h, ByteArray.size_extract]; omega
      · have := split_sizes k _ x h
        rw [ByteArray.size_extract] at this
        omega

set_option maxHeartbeats 4000000 in
theorem mail_any (s : ByteArray) (hs : s.size < 4294967281) (w : World) (hm : ML w) :
    Calls Tryz.prog 51 #[.string s] w fun e w' => e = .returned (.bool (mailP s.data.toList)) ∧ Below w.heap.size w w' := by
  have hlen := len_data s
  rcases part_first 64 s.data.toList with hn | ⟨h, v, hu, hh⟩
  · have HI := (show Hid _ from fun w => index_at s 64 64 rfl (-1) (idx_neg _ _ hn) w)
    have HE := (show Hid _ from mailP_no hn)
    go_enter Tryz.func51, Tryz.ntmps51
    go_wp2_with (go_at_call 49; refine (HI.out _).mono ?_; rintro e w1 ⟨rfl, hw⟩; subst w1)
    go_ret
    exact ⟨ret_bool (by rw [HE.out]), Below.refl _ _⟩
  · have HI := (show Hid _ from fun w => index_at s 64 64 rfl (h.length : Int) (by rw [hu]; exact idx_first hh v) w)
    have HE : Hid (mailP s.data.toList = (!h.isEmpty && h.all mailC && (splitD v).all partP)) := by rw [hu]; exact mailP_of hh
    have hsz : h.length + 1 + v.length = s.size := by rw [← hlen, hu]; simp; omega
    have h1 := ext_head hu
    have h2 := ext_tail hu
    have hb1 : (h.length : Int) + 1 ≤ (s.size : Int) := by omega
    rcases Nat.eq_zero_or_pos h.length with h0 | h0
    · have hh0 : h = [] := List.eq_nil_of_length_eq_zero h0
      subst hh0
      have t1 : ((0 : Nat) : Int) < 1 := by omega
      go_enter Tryz.func51, Tryz.ntmps51
      go_wp2_with (go_at_call 49; refine (HI.out _).mono ?_; rintro e w1 ⟨rfl, hw⟩; subst w1)
      go_ret
      exact ⟨ret_bool (by rw [HE.out]; rfl), Below.refl _ _⟩
    · have hne : h.isEmpty = false := by
        cases h with
        | nil => simp at h0
        | cons a t => rfl
      have t1 : ¬ (h.length : Int) < 1 := by omega
      have t1' : decide ((h.length : Int) < 1) = false := by simpa using t1
      obtain ⟨b1, hb1'⟩ : ∃ b, h.all mailC = b := ⟨_, rfl⟩
      have HS1 : Hid (∀ w, Calls Tryz.prog 79 #[.string (s.extract 0 h.length), .func (.func 82) #[] #[]] w fun e w' => e = .returned (.bool b1) ∧ w' = w) := fun w => by rw [h1]; exact all_any mail_kind _ (by rw [size_list]; omega) b1 (by rw [list_data]; exact hb1') w
      rw [hne, hb1'] at HE
      clear hb1' hne
      cases b1
      · clear hs hsz hm h1 h2 hu hlen
        go_enter Tryz.func51, Tryz.ntmps51
        go_wp2_with (first
          | (go_at_call 49; refine (HI.out _).mono ?_; rintro e w1 ⟨rfl, hw⟩; subst w1)
          | (go_at_call 79; refine (HS1.out _).mono ?_; rintro e w1 ⟨rfl, hw⟩; subst w1))
        go_ret
        exact ⟨ret_bool (by rw [HE.out]; rfl), Below.refl _ _⟩
      · obtain ⟨V, hV⟩ : ∃ V : ByteArray, V = s.extract (h.length + 1) s.size := ⟨_, rfl⟩
        have hVd : V.data.toList = v := (congrArg (fun x : ByteArray => x.data.toList) (hV.trans h2)).trans (list_data v)
        have hVs : V.size ≤ s.size := by rw [hV, ByteArray.size_extract]; omega
        obtain ⟨P, hP⟩ : ∃ P, P = Lib.splitB ⟨#[46]⟩ 0 (Lib.countB V ⟨#[46]⟩) V := ⟨_, rfl⟩
        have hPm : P.map (·.data.toList) = splitD v := by rw [hP, splits, hVd]
        have hPl : P.length = Lib.countB V ⟨#[46]⟩ + 1 := by rw [hP]; exact Lib.splitB_all ⟨#[46]⟩ (by decide) 0 _ V rfl
        have hPs : ∀ x ∈ P, x.size ≤ s.size := fun x hx => Nat.le_trans (split_sizes _ _ x (hP ▸ hx)) hVs
        have hPc : P.length ≤ s.size + 1 := by have := Lib.countB_le ⟨#[46]⟩ (by decide) V.size V (Nat.le_refl _); omega
        have HSP : Hid (∀ w, ML w → Calls Tryz.prog 83 #[.string (s.extract (h.length + 1) s.size), .string ⟨#[46]⟩] w fun e w' => e = .returned (.slice (some ⟨w.heap.size, 0, none⟩) P.length P.length) ∧ w' = w.alloc (.cells (P.map Value.string).toArray 9)) := fun w ⟨m, hm⟩ => by
          rw [← hV, hPl, hP]
          exact Tryz.strings_Split V ⟨#[46]⟩ m w (Nat.lt_of_le_of_lt hVs hs) hm (by decide)
        rw [← hPm] at HE
        have HPS := (show Hid _ from hPs)
        clear hV hVd hVs hPm hP hPl hPs h1 h2 hu
        go_enter Tryz.func51, Tryz.ntmps51
        go_wp2_with (first
          | (go_at_call 49; refine (HI.out _).mono ?_; rintro e w1 ⟨rfl, hw⟩; subst w1)
          | (go_at_call 79; refine (HS1.out _).mono ?_; rintro e w1 ⟨rfl, hw⟩; subst w1)
          | (go_at_call 83; refine (HSP.out _ hm).mono ?_; rintro e w1 ⟨rfl, hw⟩; subst w1))
        obtain ⟨O, hO⟩ : ∃ O, O = Obj.cells (P.map Value.string).toArray 9 := ⟨_, rfl⟩
        have HO := (show Hid _ from hO)
        rw [← hO]
        clear hO HSP HI HS1
        go_loop [23] (fun I => ∃ k : Nat, I = .int .i64 (k : Int) ∧ k ≤ P.length ∧ Hid (∀ x ∈ P.take k, partP x.data.toList = true)) (fun I => P.length - (intOf I).toNat)
        case atStart => exact ⟨0, rfl, Nat.zero_le _, fun x hx => by simp at hx⟩
        case round =>
          obtain ⟨k, rfl, hk, hok⟩ := hrel
          by_cases hlt : k < P.length
          · obtain ⟨x, hx⟩ : ∃ x, P[k] = x := ⟨_, rfl⟩
            have hxm : x ∈ P := hx ▸ List.getElem_mem hlt
            have hcell : (w.alloc O).cell? ⟨w.heap.size, k, none⟩ = some (.string x) := by
              have := lit_cells w (P.map Value.string) 9 k (.string x) (by rw [List.getElem?_map, List.getElem?_eq_getElem hlt, hx]; rfl)
              rw [← HO.out] at this
              have hadd : (⟨w.heap.size, 0, none⟩ : Addr).add k = ⟨w.heap.size, k, none⟩ := by unfold Addr.add; split <;> simp_all
              rwa [hadd] at this
            have hpt := (show Hid _ from fun w => part_any x (by have := HPS.out x hxm; omega) w)
            have g1 : (k : Int) < (P.length : Int) := by omega
            have HX := (show Hid _ from hx)
            clear hx
            cases hpx : partP x.data.toList
            · go_wp2_with (go_at_call 84; refine (hpt.out _).mono ?_; rintro e w1 ⟨rfl, hw⟩; subst w1)
              go_ret
              refine ⟨ret_bool ?_, (Below.refl _ _).alloc (Nat.le_refl _) _⟩
              rw [HE.out]
              simp only [Bool.not_false, Bool.true_and]
              symm
              rw [Bool.eq_false_iff]
              intro h
              have := List.all_eq_true.1 h _ (List.mem_map_of_mem hxm)
              rw [hpx] at this
              cases this
            · go_wp2_with (go_at_call 84; refine (hpt.out _).mono ?_; rintro e w1 ⟨rfl, hw⟩; subst w1)
              go_round
              case rel =>
                refine ⟨k + 1, by go_num, by omega, fun y hy => ?_⟩
                rw [List.take_succ_eq_append_getElem hlt, List.mem_append] at hy
                rcases hy with hy | hy
                · exact hok.out y hy
                · simp only [List.mem_cons, List.not_mem_nil, or_false] at hy
                  rw [hy, HX.out]; exact hpx
              case measure => simp [intOf]; omega
          · go_wp2
            go_ret
            refine ⟨ret_bool ?_, (Below.refl _ _).alloc (Nat.le_refl _) _⟩
            rw [HE.out]
            simp only [Bool.not_false, Bool.true_and]
            symm
            rw [List.all_eq_true]
            intro y hy
            obtain ⟨x, hx, rfl⟩ := List.mem_map.1 hy
            exact hok.out x (by rw [List.take_of_length_le (by omega)]; exact hx)

end Go.Proofs.YtjdijlaoeoikhaaGreatDoor
