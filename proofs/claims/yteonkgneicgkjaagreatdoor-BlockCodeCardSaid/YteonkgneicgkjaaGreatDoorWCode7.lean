/- BlockCode: four blanks ahead of all lines make them code; walked. -/
import Derived.Test.YteonkgneicgkjaaGreatDoorG50
import Derived.Test.YteonkgneicgkjaaGreatDoorPlainCode
import Derived.Laws.Strings3
set_option linter.unusedVariables false
namespace Go.Proofs.YteonkgneicgkjaaGreatDoor
open Go.RowKit

theorem sadd (A B : Str) (h : A.length + B.length ≤ 9223372036854775000) : ∀ w, (Op.stringOp .add (ByteArray.mk A.toArray) (ByteArray.mk B.toArray)).run Tryz.prog w = .ok (.string ⟨(A ++ B).toArray⟩) w := by
  intro w
  rw [← cat_eq]
  exact run_string_add_sum (w := w) _ _ (by rw [size_list, size_list]; omega)

/-- What the lines of a text are like. -/
theorem lines_ok (l : Str) : (∀ x ∈ lines l, ∀ c ∈ x, notEnd c = true) ∧ (∀ x ∈ lines l, x.length ≤ l.length) ∧ (lines l).length ≤ l.length := by
  have key : ∀ (f i : Nat), ∀ x ∈ linesF l f i, (∀ c ∈ x, notEnd c = true) ∧ x.length ≤ l.length := by
    intro f
    induction f with
    | zero => intro i x hx; cases hx
    | succ f ih =>
      intro i x hx
      simp only [linesF] at hx
      split at hx
      · rcases List.mem_cons.1 hx with q | q
        · subst q
          constructor
          · intro c hc
            exact List.all_eq_true.1 (List.all_takeWhile (p := notEnd) (l := l.drop i)) c hc
          · have h1 := (List.takeWhile_prefix (p := notEnd) (l := l.drop i)).length_le
            rw [List.length_drop] at h1
            omega
        · exact ih _ x q
      · cases hx
  exact ⟨fun x hx => (key _ _ x hx).1, fun x hx => (key _ _ x hx).2, linesF_le l _ _⟩

theorem beh_of_spaces : ∀ (x : Str), (∀ c ∈ x, c ≠ 9) → spacesL x = false → beh x ≠ []
  | [], _, h => by cases h
  | a :: t, h9, h => by
    unfold beh
    split
    · rename_i hb
      have ha : a = 32 := by
        rcases (isB_iff a).1 hb with q | q
        · exact q
        · exact absurd q (h9 a (List.mem_cons_self ..))
      subst ha
      exact beh_of_spaces t (fun c hc => h9 c (List.mem_cons_of_mem _ hc)) (by simpa [spacesL] using h)
    · simp

theorem quoted_ok {ls : List Str} (h : quotedL ls = true) : ∀ x ∈ ls, ∀ c ∈ x, c ≠ 9 := by
  intro x hx c hc
  unfold quotedL at h
  have := List.all_eq_true.1 (List.all_eq_true.1 h x hx) c hc
  simpa using this

abbrev indT (ls : List Str) : Str := ls.flatMap (fun x => [32, 32, 32, 32] ++ x ++ [10])
abbrev catT (ls : List Str) : Str := ls.flatMap (fun x => x ++ [10])
def fenceL1 (c : UInt8) : Bool := c == 96 || c == 126
def closeT (ls : List Str) : Bool := ls.any (fun x => x.any fenceL1)

theorem catT_len : ∀ (ls : List Str) (m : Nat), (∀ x ∈ ls, x.length ≤ m) → (catT ls).length ≤ ls.length * (m + 1) ∧ (indT ls).length ≤ ls.length * (m + 5)
  | [], m, _ => by simp
  | x :: r, m, h => by
    obtain ⟨h1, h2⟩ := catT_len r m (fun y hy => h y (List.mem_cons_of_mem _ hy))
    have h3 := h x (List.mem_cons_self ..)
    have e1 : (catT (x :: r)).length = x.length + 1 + (catT r).length := by simp [catT]; omega
    have e2 : (indT (x :: r)).length = x.length + 5 + (indT r).length := by simp [indT]; omega
    rw [e1, e2, List.length_cons, Nat.succ_mul, Nat.succ_mul]
    omega

/-- Both texts of the law, parsed. -/
theorem code_first7 {w : World} {v1 v2 : Value} {u : Str} {A S : Nat → Prop} (hk : KidsV w A S v1 (.cons { kind := 6, text := u } .nil .nil)) (hd : w.ownsRow 0 40 3 v2 ([] : List Df).length (defCs [])) :
    ∃ g c a2 c2, v1 = .slice (some ⟨g, 0, none⟩) 1 c ∧ v2 = .slice a2 0 c2 ∧ w.cell? ⟨g, 0, none⟩ = some (.int .i64 6) ∧ w.cell? ⟨g, 2, none⟩ = some (strV u) ∧ w.cell? ⟨g, 3, none⟩ = some (.string ⟨#[]⟩) := by
  obtain ⟨xs, hrow, _, y1, y2, y3, rfl, _⟩ := hk
  obtain ⟨g, c, rfl, _, q⟩ := row_at hrow (Nat.succ_pos _)
  obtain ⟨a2, c2, rfl, _⟩ := row_slice hd
  exact ⟨g, c, a2, c2, rfl, rfl, q 0 _ rfl, q 2 _ rfl, q 3 _ rfl⟩
theorem code_second7 {w : World} {v1 v2 : Value} {u : Str} {A S : Nat → Prop} (hk : KidsV w A S v1 (.cons { kind := 6, text := u, info := infoT } .nil (.cons { kind := 5, text := [122] } .nil .nil))) (hd : w.ownsRow 0 40 3 v2 ([] : List Df).length (defCs [])) :
    ∃ g c a2 c2, v1 = .slice (some ⟨g, 0, none⟩) 2 c ∧ v2 = .slice a2 0 c2 ∧ w.cell? ⟨g, 0, none⟩ = some (.int .i64 6) ∧ w.cell? ⟨g, 2, none⟩ = some (strV u) ∧ w.cell? ⟨g, 3, none⟩ = some (.string ⟨#[105, 110, 102, 111]⟩) ∧ w.cell? ⟨g, 10, none⟩ = some (.string ⟨#[122]⟩) := by
  obtain ⟨xs, hrow, _, y1, y2, y3, rfl, _, _, _, z1, z2, z3, rfl, _⟩ := hk
  obtain ⟨g, c, rfl, _, q⟩ := row_at hrow (Nat.succ_pos _)
  obtain ⟨a2, c2, rfl, _⟩ := row_slice hd
  exact ⟨g, c, a2, c2, rfl, rfl, q 0 _ rfl, q 2 _ rfl, q 3 _ rfl, q 10 _ rfl⟩

theorem ind_next {ls : List Str} {k : Nat} {z : Str} (h : ls[k]? = some z) : indT (ls.take (k + 1)) = indT (ls.take k) ++ [32, 32, 32, 32] ++ z ++ [10] := by
  rw [List.take_add_one, h]
  simp [indT]
theorem cat_next {ls : List Str} {k : Nat} {z : Str} (h : ls[k]? = some z) : catT (ls.take (k + 1)) = catT (ls.take k) ++ z ++ [10] := by
  rw [List.take_add_one, h]
  simp [catT]
theorem close_next {ls : List Str} {k : Nat} {z : Str} (h : ls[k]? = some z) : closeT (ls.take (k + 1)) = (closeT (ls.take k) || z.any fenceL1) := by
  rw [List.take_add_one, h]
  simp [closeT]
theorem any_next {z : Str} {j : Nat} (h : j < z.length) : (z.take (j + 1)).any fenceL1 = ((z.take j).any fenceL1 || fenceL1 z[j]) := by
  rw [List.take_add_one, List.getElem?_eq_getElem h, List.any_append]
  simp only [Option.toList_some, List.any_cons, List.any_nil, Bool.or_false]

namespace blockCode

set_option maxHeartbeats 8000000 in
set_option maxRecDepth 60000 in
theorem walk (s0 : ByteArray) (w0 : s0.size ≤ 140737488351232) (c1 : Bool) (w : World) (hm : MLen w) :
    Calls Tryz.prog 6 #[.string s0, .bool c1] w fun e w' => e = .returned (.bool true) ∧ Below w.heap.size w w' := by
  have hs0 : Value.string s0 = strV s0.data.toList := by show _ = Value.string ⟨s0.data⟩; rfl
  rw [hs0]
  have hl0 : s0.data.toList.length ≤ 140737488351232 := by rw [len_data]; exact w0
  generalize s0.data.toList = l0 at *
  clear hs0
  have hlk : (l0.take 4096).length ≤ 4096 := by rw [List.length_take]; omega
  have HSh : Hid (Calls Tryz.prog 9 #[] w fun e w' => e = .returned (.bool true) ∧ Below w.heap.size w w') := bshown_any w hm
  have HSo : Hid (∀ w, Calls Tryz.prog 10 #[strV l0] w fun e w' => e = .returned (strV (l0.take 4096)) ∧ w' = w) := fun w => bshort_any l0 hl0 w
  obtain ⟨ok1, ok2, ok3⟩ := lines_ok (l0.take 4096)
  have HLi : Hid (∀ w, Calls Tryz.prog 11 #[.string ⟨(l0.take 4096).toArray⟩] w fun e w' => ∃ (a : Option Addr) (cp : Nat), e = .returned (.slice a (lines (l0.take 4096)).length cp) ∧ w'.ownsRow 0 9 1 (.slice a (lines (l0.take 4096)).length cp) (lines (l0.take 4096)).length (strCs (lines (l0.take 4096))) ∧ Below w.heap.size w w') := fun w => (run.lines_any ⟨(l0.take 4096).toArray⟩ w (by rw [size_list]; omega)).mono fun e w' q => by
    rw [list_data] at q
    obtain ⟨v, q1, q2, q3⟩ := q
    rcases q2.2 with ⟨e1, e2⟩ | ⟨g, cap, cu, e1, e2, e3⟩
    · exact ⟨none, 0, by rw [q1, e1, e2], ⟨q2.1, .inl ⟨by rw [e2], e2⟩⟩, q3⟩
    · exact ⟨some ⟨g, 0, none⟩, cap, by rw [q1, e1], ⟨q2.1, .inr ⟨g, cap, cu, rfl, Nat.zero_le _, e3⟩⟩, q3⟩
  generalize l0.take 4096 = l1 at *
  generalize hls : lines l1 = ls at *
  have hlen : ls.length ≤ 4096 := by omega
  have hmx : ∀ x ∈ ls, x.length ≤ 4096 := fun x hx => Nat.le_trans (ok2 x hx) hlk
  have HQ : Hid (∀ w v, w.ownsRow 0 9 1 v ls.length (strCs ls) → Calls Tryz.prog 15 #[v] w fun e w' => e = .returned (.bool (quotedL ls)) ∧ w' = w) := fun w v q => bquoted_any ls (by omega) (fun x hx => by have := hmx x hx; omega) w q
  have HSp : Hid (∀ x ∈ ls, ∀ w, Calls Tryz.prog 17 #[strV x] w fun e w' => e = .returned (.bool (spacesL x)) ∧ w' = w) := fun x hx w => bspaces_any x (by have := hmx x hx; omega) w
  clear hls ok2 ok3 hl0 w0 hlk
  rcases Nat.eq_zero_or_pos ls.length with hz | hz
  · have hnil : ls = [] := List.length_eq_zero_iff.1 hz
    subst hnil
    clear hz
    go_enter Tryz.func6, Tryz.ntmps6
    go_wp2_with (first
      | (go_at_call 9; refine Calls.mono HSh.out ?_; rintro e u1 ⟨rfl, hb1⟩)
      | (go_at_call 10; refine (HSo.out _).mono ?_; rintro e u2 ⟨rfl, hw⟩; subst u2)
      | (go_at_call 11; refine (HLi.out _).mono ?_; rintro e u3 ⟨la, lc, rfl, hrow, hb3⟩; have HRow := (show Hid _ from hrow); clear hrow)
      | (go_at_call 15; refine (HQ.out _ _ HRow.out).mono ?_; rintro e u4 ⟨rfl, hw⟩; subst u4))
    go_ret
    exact ⟨rfl, below_next hb1 hb3⟩
  · obtain ⟨n, hn⟩ : ∃ n, ls.length = n + 1 := ⟨ls.length - 1, by omega⟩
    obtain ⟨x, hx⟩ : ∃ x, ls[0]? = some x := ⟨_, List.getElem?_eq_getElem (by omega)⟩
    obtain ⟨y, hy⟩ : ∃ y, ls[n]? = some y := ⟨_, List.getElem?_eq_getElem (by omega)⟩
    have hzi : ¬ (ls.length : Int) = 0 := by omega
    have hzb : ((ls.length : Int) == 0) = false := by simpa using hzi
    have hni : (ls.length : Int) - 1 = (n : Int) := by omega
    have hnl : (n : Int) < (ls.length : Int) := by omega
    have hpl : (0 : Int) < (ls.length : Int) := by omega
    have HSx : Hid (∀ w, Calls Tryz.prog 17 #[strV x] w fun e w' => e = .returned (.bool (spacesL x)) ∧ w' = w) := HSp.out x (List.mem_of_getElem? hx)
    have HSy : Hid (∀ w, Calls Tryz.prog 17 #[strV y] w fun e w' => e = .returned (.bool (spacesL y)) ∧ w' = w) := HSp.out y (List.mem_of_getElem? hy)
    have HN : Hid (ls.length = n + 1) := hn
    cases hq : quotedL ls
    · rw [hq] at HQ
      clear hn
      go_enter Tryz.func6, Tryz.ntmps6
      go_wp2_with (first
        | (go_at_call 9; refine Calls.mono HSh.out ?_; rintro e u1 ⟨rfl, hb1⟩)
        | (go_at_call 10; refine (HSo.out _).mono ?_; rintro e u2 ⟨rfl, hw⟩; subst u2)
        | (go_at_call 11; refine (HLi.out _).mono ?_; rintro e u3 ⟨la, lc, rfl, hrow, hb3⟩; have HRow := (show Hid _ from hrow); clear hrow)
        | (go_at_call 15; refine (HQ.out _ _ HRow.out).mono ?_; rintro e u4 ⟨rfl, hw⟩; subst u4))
      go_ret
      exact ⟨rfl, below_next hb1 hb3⟩
    · rw [hq] at HQ
      cases hsx : spacesL x
      · rw [hsx] at HSx
        cases hsy : spacesL y
        · rw [hsy] at HSy
          clear hn
          have ok4 := catT_len ls 4096 hmx
          have hb1 : ∀ k, (indT (ls.take k)).length ≤ 20000000 ∧ (catT (ls.take k)).length ≤ 20000000 := fun k => by
            have q := catT_len (ls.take k) 4096 (fun x hx => hmx x (List.mem_of_mem_take hx))
            have q2 : (ls.take k).length ≤ 4096 := by rw [List.length_take]; omega
            have q3 : (ls.take k).length * 4097 ≤ 4096 * 4097 := Nat.mul_le_mul_right _ q2
            have q4 : (ls.take k).length * 4101 ≤ 4096 * 4101 := Nat.mul_le_mul_right _ q2
            omega
          have HBd := (show Hid _ from hb1)
          have hq9 := quoted_ok hq
          have hbx := beh_of_spaces x (hq9 x (List.mem_of_getElem? hx)) hsx
          have hby := beh_of_spaces y (hq9 y (List.mem_of_getElem? hy)) hsy
          have HP1 : Hid (∀ w, MLen w → Calls Tryz.prog 12 #[strV (indT ls)] w fun e w' => ∃ g c a2 c2, e = .returned (.tuple #[.slice (some ⟨g, 0, none⟩) 1 c, .slice a2 0 c2]) ∧ w'.cell? ⟨g, 0, none⟩ = some (.int .i64 6) ∧ w'.cell? ⟨g, 2, none⟩ = some (strV (catT ls)) ∧ w'.cell? ⟨g, 3, none⟩ = some (.string ⟨#[]⟩) ∧ Below w.heap.size w w') := fun w hM => by
            have hbb := (hb1 ls.length).1
            rw [List.take_length] at hbb
            refine (bparse_any (indT ls) (by omega) w hM).mono ?_
            rintro e w' ⟨v1, v2, rfl, k1, k2, _, k4⟩
            have hcp := code_parse ls x y (by rw [List.head?_eq_getElem?]; exact hx) (by rw [List.getLast?_eq_getElem?, HN.out]; exact hy) hbx hby ok1
            rw [hcp] at k1 k2
            obtain ⟨g, c, a2, c2, rfl, rfl, e1, e2, e3⟩ := code_first7 k1 k2
            exact ⟨g, c, a2, c2, rfl, e1, e2, e3, k4⟩
          have HP2 : Hid (∀ (cc : UInt8) w, (cc = 96 ∨ cc = 126) → MLen w → Calls Tryz.prog 12 #[strV ([cc, cc, cc] ++ [32, 105, 110, 102, 111, 10] ++ catT ls ++ [cc, cc, cc] ++ [10, 122])] w fun e w' => (closeT ls = true → ∃ v1 v2, e = .returned (.tuple #[v1, v2])) ∧ (closeT ls = false → ∃ g c a2 c2, e = .returned (.tuple #[.slice (some ⟨g, 0, none⟩) 2 c, .slice a2 0 c2]) ∧ w'.cell? ⟨g, 0, none⟩ = some (.int .i64 6) ∧ w'.cell? ⟨g, 2, none⟩ = some (strV (catT ls)) ∧ w'.cell? ⟨g, 3, none⟩ = some (.string ⟨#[105, 110, 102, 111]⟩) ∧ w'.cell? ⟨g, 10, none⟩ = some (.string ⟨#[122]⟩)) ∧ Below w.heap.size w w') := fun cc w hcc hM => by
            have hbb := (hb1 ls.length).2
            rw [List.take_length] at hbb
            refine (bparse_any _ (by simp only [List.length_append, List.length_cons, List.length_nil]; omega) w hM).mono ?_
            rintro e w' ⟨v1, v2, rfl, k1, k2, _, k4⟩
            refine ⟨fun _ => ⟨v1, v2, rfl⟩, fun hcl => ?_, k4⟩
            have hne : ∀ x ∈ ls, ∀ b ∈ x, b ≠ cc := by
              intro x hx b hb e
              subst e
              have : closeT ls = true := by
                unfold closeT
                refine List.any_eq_true.2 ⟨x, hx, List.any_eq_true.2 ⟨b, hb, ?_⟩⟩
                rcases hcc with q | q <;> rw [q] <;> rfl
              rw [hcl] at this
              cases this
            have hfp := fence_parse hcc ls ok1 hne
            have hte : [cc, cc, cc] ++ [32, 105, 110, 102, 111, 10] ++ catT ls ++ [cc, cc, cc] ++ [10, 122] = fenceB cc ++ [10] ++ (ls.flatMap (fun x => x ++ [10]) ++ ([cc, cc, cc] ++ [10] ++ [122])) := by simp
            rw [hte, hfp] at k1 k2
            obtain ⟨g, c, a2, c2, rfl, rfl, e1, e2, e3, e4⟩ := code_second7 k1 k2
            exact ⟨g, c, a2, c2, rfl, e1, e2, e3, e4⟩
          clear hb1 hbx hby ok1 ok4 hq9
          go_enter Tryz.func6, Tryz.ntmps6
          go_wp2_with (first
            | (go_at_call 9; refine Calls.mono HSh.out ?_; rintro e u1 ⟨rfl, hb1⟩)
            | (go_at_call 10; refine (HSo.out _).mono ?_; rintro e u2 ⟨rfl, hw⟩; subst u2)
            | (go_at_call 11; refine (HLi.out _).mono ?_; rintro e u3 ⟨la, lc, rfl, hrow, hb3⟩; obtain ⟨g, cp, he, _, hcell⟩ := row_at hrow (by have := HN.out; omega); cases he; have x0 := hcell 0 (strV x) (by rw [List.getElem?_map, hx]; rfl); have xn := hcell n (strV y) (by rw [List.getElem?_map, hy]; rfl); have HRow := (show Hid _ from hrow); have HCe := (show Hid _ from hcell); clear hrow hcell)
            | (go_at_call 15; refine (HQ.out _ _ HRow.out).mono ?_; rintro e u4 ⟨rfl, hw⟩; subst u4)
            | (go_at_call_of 17 (strV x); refine (HSx.out _).mono ?_; rintro e u5 ⟨rfl, hw⟩; subst u5)
            | (go_at_call 17; refine (HSy.out _).mono ?_; rintro e u6 ⟨rfl, hw⟩; subst u6))
          go_loopw [8, 9, 10, 11] (fun t u cl i wr => ∃ k : Nat, i = .int .i64 (k : Int) ∧ k ≤ ls.length ∧ t = strV (indT (ls.take k)) ∧ u = strV (catT (ls.take k)) ∧ cl = .bool (closeT (ls.take k)) ∧ wr = u3) (fun _ _ _ i _ => ls.length - (intOf i).toNat)
          case atStart => exact ⟨0, rfl, Nat.zero_le _, rfl, rfl, rfl, rfl⟩
          case round =>
            obtain ⟨k, rfl, hk, rfl, rfl, rfl, hw⟩ := hrel
            subst hw
            by_cases hlt : k < ls.length
            · have hlt' : (k : Int) < (ls.length : Int) := by omega
              have hk1 : (k : Int) < 1099511627776 := by omega
              obtain ⟨z, hzk⟩ : ∃ z, ls[k]? = some z := ⟨_, List.getElem?_eq_getElem hlt⟩
              have hck := HCe.out k (strV z) (by rw [List.getElem?_map, hzk]; rfl)
              have hzl := hmx z (List.mem_of_getElem? hzk)
              obtain ⟨hbI, hbC⟩ := HBd.out k
              have HI : Hid (indT (ls.take (k + 1)) = indT (ls.take k) ++ [32, 32, 32, 32] ++ z ++ [10]) := ind_next hzk
              have HC : Hid (catT (ls.take (k + 1)) = catT (ls.take k) ++ z ++ [10]) := cat_next hzk
              have HL : Hid (closeT (ls.take (k + 1)) = (closeT (ls.take k) || z.any fenceL1)) := close_next hzk
              generalize indT (ls.take k) = TT at *
              generalize catT (ls.take k) = UU at *
              generalize closeT (ls.take k) = CC at *
              have a1 := sadd TT [32, 32, 32, 32] (by simp only [List.length_cons, List.length_nil]; omega)
              have a2 := sadd (TT ++ [32, 32, 32, 32]) z (by simp only [List.length_append, List.length_cons, List.length_nil]; omega)
              have a3 := sadd (TT ++ [32, 32, 32, 32] ++ z) [10] (by simp only [List.length_append, List.length_cons, List.length_nil]; omega)
              have b1 := sadd UU z (by omega)
              have b2 := sadd (UU ++ z) [10] (by simp only [List.length_append, List.length_cons, List.length_nil]; omega)
              generalize hT2 : TT ++ [32, 32, 32, 32] = T2 at *
              generalize hT3 : T2 ++ z = T3 at *
              generalize hT4 : T3 ++ [10] = T4 at *
              generalize hU2 : UU ++ z = U2 at *
              generalize hU3 : U2 ++ [10] = U3 at *
              have HT4 : Hid (T4 = indT (ls.take (k + 1))) := by show _ = _; rw [HI.out]
              have HU3 : Hid (U3 = catT (ls.take (k + 1))) := by show _ = _; rw [HC.out]
              clear hT2 hT3 hT4 hU2 hU3 hbI hbC
              go_wp2
              go_loopw [10, 12] (fun cl j wr2 => ∃ jj : Nat, j = .int .i64 (jj : Int) ∧ jj ≤ z.length ∧ cl = .bool (CC || (z.take jj).any fenceL1) ∧ wr2 = wr) (fun _ j _ => z.length - (intOf j).toNat)
              case atStart => exact ⟨0, rfl, Nat.zero_le _, by simp, rfl⟩
              case round =>
                obtain ⟨j, rfl, hj, rfl, hw2⟩ := hrel
                subst hw2
                by_cases hjl : j < z.length
                · have hjl' : (j : Int) < (z.length : Int) := by omega
                  have HA : Hid ((CC || (z.take (j + 1)).any fenceL1) = ((CC || (z.take j).any fenceL1) || fenceL1 z[j])) := by show _ = _; rw [any_next hjl, Bool.or_assoc]
                  generalize (CC || (z.take j).any fenceL1) = FF at *
                  cases FF
                  · have hsz : j < (ByteArray.mk z.toArray).size := by rw [size_list]; exact hjl
                    have hbyz : (ByteArray.mk z.toArray)[j]'hsz = z[j] := by
                      rw [byte_at, list_data, List.getD_eq_getElem?_getD, List.getElem?_eq_getElem hjl]
                      rfl
                    have HF : Hid (fenceL1 z[j] = (((z[j].toNat : Int) == 96) || ((z[j].toNat : Int) == 126))) := by
                      show _ = _
                      unfold fenceL1
                      rw [Bool.eq_iff_iff]
                      simp only [Bool.or_eq_true, beq_iff_eq]
                      constructor
                      · rintro (q | q)
                        · left; rw [q]; rfl
                        · right; rw [q]; rfl
                      · rintro (q | q)
                        · left; exact UInt8.toNat_inj.1 (by show z[j].toNat = 96; omega)
                        · right; exact UInt8.toNat_inj.1 (by show z[j].toNat = 126; omega)
                    cases h96 : ((z[j].toNat : Int) == 96)
                    · cases h126 : ((z[j].toNat : Int) == 126)
                      · go_wp2
                        go_roundw
                        case rel => exact ⟨j + 1, by go_num, by omega, by rw [HA.out, HF.out, h96, h126]; rfl, by first | rfl | trivial⟩
                        case measure => simp [intOf]; omega
                      · go_wp2
                        go_roundw
                        case rel => exact ⟨j + 1, by go_num, by omega, by rw [HA.out, HF.out, h96, h126]; rfl, by first | rfl | trivial⟩
                        case measure => simp [intOf]; omega
                    · go_wp2
                      go_roundw
                      case rel => exact ⟨j + 1, by go_num, by omega, by rw [HA.out, HF.out, h96]; rfl, by first | rfl | trivial⟩
                      case measure => simp [intOf]; omega
                  · go_wp2
                    go_roundw
                    case rel => exact ⟨j + 1, by go_num, by omega, by rw [HA.out]; rfl, by first | rfl | trivial⟩
                    case measure => simp [intOf]; omega
                · have hge : ¬ (j : Int) < (z.length : Int) := by omega
                  have hje : z.take j = z := List.take_of_length_le (by omega)
                  go_wp2
                  go_roundw
                  case rel => exact ⟨k + 1, by go_num, by omega, by rw [HT4.out], by rw [HU3.out], by rw [HL.out]; try rw [hje], by first | rfl | trivial⟩
                  case measure => simp [intOf]; omega
            · have hge : ¬ (k : Int) < (ls.length : Int) := by omega
              have htk : ls.take k = ls := List.take_of_length_le (by omega)
              rw [htk]
              have hMu : MLen wr := hm.below (below_next hb1 hb3)
              have HF1 := (show Hid _ from HP1.out wr hMu)
              have HWr : Hid (Below w.heap.size w wr) := below_next hb1 hb3
              have hbb := (HBd.out ls.length).2
              rw [List.take_length] at hbb
              clear HSp HQ HSx HSy HLi HSo HSh hmx hx hy hni hnl hpl hzi hzb HCe HRow x0 xn HN hsx hsy hq HP1 HBd hlen hz
              cases c1
              · have d1 := sadd [96, 96, 96] [32, 105, 110, 102, 111, 10] (by decide)
                have d2 := sadd [96, 96, 96, 32, 105, 110, 102, 111, 10] (catT ls) (by simp only [List.length_cons, List.length_nil]; omega)
                have d3 := sadd ([96, 96, 96, 32, 105, 110, 102, 111, 10] ++ catT ls) [96, 96, 96] (by simp only [List.length_append, List.length_cons, List.length_nil]; omega)
                have d4 := sadd ([96, 96, 96, 32, 105, 110, 102, 111, 10] ++ catT ls ++ [96, 96, 96]) [10, 122] (by simp only [List.length_append, List.length_cons, List.length_nil]; omega)
                have HF2 : Hid (∀ w, MLen w → Calls Tryz.prog 12 #[strV ([96, 96, 96, 32, 105, 110, 102, 111, 10] ++ catT ls ++ [96, 96, 96] ++ [10, 122])] w fun e w' => (closeT ls = true → ∃ v1 v2, e = .returned (.tuple #[v1, v2])) ∧ (closeT ls = false → ∃ g c a2 c2, e = .returned (.tuple #[.slice (some ⟨g, 0, none⟩) 2 c, .slice a2 0 c2]) ∧ w'.cell? ⟨g, 0, none⟩ = some (.int .i64 6) ∧ w'.cell? ⟨g, 2, none⟩ = some (strV (catT ls)) ∧ w'.cell? ⟨g, 3, none⟩ = some (.string ⟨#[105, 110, 102, 111]⟩) ∧ w'.cell? ⟨g, 10, none⟩ = some (.string ⟨#[122]⟩)) ∧ Below w.heap.size w w') := fun w hM => HP2.out 96 w (.inl rfl) hM
                generalize hD2 : [96, 96, 96, 32, 105, 110, 102, 111, 10] ++ catT ls = D2 at *
                generalize hD3 : D2 ++ [96, 96, 96] = D3 at *
                generalize hD4 : D3 ++ [10, 122] = D4 at *
                clear hD2 hD3 hD4 HP2
                generalize closeT ls = CL at *
                simp only [strV] at *
                generalize ByteArray.mk (catT ls).toArray = CT at *
                generalize ByteArray.mk (indT ls).toArray = IT at *
                generalize ByteArray.mk D2.toArray = E2 at *
                generalize ByteArray.mk D3.toArray = E3 at *
                generalize ByteArray.mk D4.toArray = E4 at *
                cases CL
                · go_wp2_with (first
                    | (go_at_call_of 12 (Value.string IT); refine Calls.mono HF1.out ?_; rintro e u7 ⟨g7, c7, a7, b7, rfl, e1, e2, e3, hb7⟩; have HF3 := (show Hid _ from HF2.out u7 (hm.below (HWr.out.trans (hb7.mono HWr.out.size)))); have HB7 := (show Hid _ from hb7); clear hb7)
                    | (go_at_call 12; refine Calls.mono HF3.out ?_; rintro e u8 ⟨f1, f2, hb8⟩; obtain ⟨g8, c8, a8, b8, rfl, e4, e5, e6, e7⟩ := f2 (by trivial); have HB8 := (show Hid _ from hb8); clear hb8 f1 f2 e1 e2 e3))
                  go_ret
                  exact ⟨rfl, below_next (HWr.out.trans (HB7.out.mono HWr.out.size)) HB8.out⟩
                · go_wp2_with (first
                    | (go_at_call_of 12 (Value.string IT); refine Calls.mono HF1.out ?_; rintro e u7 ⟨g7, c7, a7, b7, rfl, e1, e2, e3, hb7⟩; have HF3 := (show Hid _ from HF2.out u7 (hm.below (HWr.out.trans (hb7.mono HWr.out.size)))); have HB7 := (show Hid _ from hb7); clear hb7)
                    | (go_at_call 12; refine Calls.mono HF3.out ?_; rintro e u8 ⟨f1, f2, hb8⟩; obtain ⟨v1, v2, rfl⟩ := f1 (by trivial); have HB8 := (show Hid _ from hb8); clear hb8 f1 f2 e1 e2 e3))
                  go_ret
                  exact ⟨rfl, below_next (HWr.out.trans (HB7.out.mono HWr.out.size)) HB8.out⟩
              · have d1 := sadd [126, 126, 126] [32, 105, 110, 102, 111, 10] (by decide)
                have d2 := sadd [126, 126, 126, 32, 105, 110, 102, 111, 10] (catT ls) (by simp only [List.length_cons, List.length_nil]; omega)
                have d3 := sadd ([126, 126, 126, 32, 105, 110, 102, 111, 10] ++ catT ls) [126, 126, 126] (by simp only [List.length_append, List.length_cons, List.length_nil]; omega)
                have d4 := sadd ([126, 126, 126, 32, 105, 110, 102, 111, 10] ++ catT ls ++ [126, 126, 126]) [10, 122] (by simp only [List.length_append, List.length_cons, List.length_nil]; omega)
                have HF2 : Hid (∀ w, MLen w → Calls Tryz.prog 12 #[strV ([126, 126, 126, 32, 105, 110, 102, 111, 10] ++ catT ls ++ [126, 126, 126] ++ [10, 122])] w fun e w' => (closeT ls = true → ∃ v1 v2, e = .returned (.tuple #[v1, v2])) ∧ (closeT ls = false → ∃ g c a2 c2, e = .returned (.tuple #[.slice (some ⟨g, 0, none⟩) 2 c, .slice a2 0 c2]) ∧ w'.cell? ⟨g, 0, none⟩ = some (.int .i64 6) ∧ w'.cell? ⟨g, 2, none⟩ = some (strV (catT ls)) ∧ w'.cell? ⟨g, 3, none⟩ = some (.string ⟨#[105, 110, 102, 111]⟩) ∧ w'.cell? ⟨g, 10, none⟩ = some (.string ⟨#[122]⟩)) ∧ Below w.heap.size w w') := fun w hM => HP2.out 126 w (.inr rfl) hM
                generalize hD2 : [126, 126, 126, 32, 105, 110, 102, 111, 10] ++ catT ls = D2 at *
                generalize hD3 : D2 ++ [126, 126, 126] = D3 at *
                generalize hD4 : D3 ++ [10, 122] = D4 at *
                clear hD2 hD3 hD4 HP2
                generalize closeT ls = CL at *
                simp only [strV] at *
                generalize ByteArray.mk (catT ls).toArray = CT at *
                generalize ByteArray.mk (indT ls).toArray = IT at *
                generalize ByteArray.mk D2.toArray = E2 at *
                generalize ByteArray.mk D3.toArray = E3 at *
                generalize ByteArray.mk D4.toArray = E4 at *
                cases CL
                · go_wp2_with (first
                    | (go_at_call_of 12 (Value.string IT); refine Calls.mono HF1.out ?_; rintro e u7 ⟨g7, c7, a7, b7, rfl, e1, e2, e3, hb7⟩; have HF3 := (show Hid _ from HF2.out u7 (hm.below (HWr.out.trans (hb7.mono HWr.out.size)))); have HB7 := (show Hid _ from hb7); clear hb7)
                    | (go_at_call 12; refine Calls.mono HF3.out ?_; rintro e u8 ⟨f1, f2, hb8⟩; obtain ⟨g8, c8, a8, b8, rfl, e4, e5, e6, e7⟩ := f2 (by trivial); have HB8 := (show Hid _ from hb8); clear hb8 f1 f2 e1 e2 e3))
                  go_ret
                  exact ⟨rfl, below_next (HWr.out.trans (HB7.out.mono HWr.out.size)) HB8.out⟩
                · go_wp2_with (first
                    | (go_at_call_of 12 (Value.string IT); refine Calls.mono HF1.out ?_; rintro e u7 ⟨g7, c7, a7, b7, rfl, e1, e2, e3, hb7⟩; have HF3 := (show Hid _ from HF2.out u7 (hm.below (HWr.out.trans (hb7.mono HWr.out.size)))); have HB7 := (show Hid _ from hb7); clear hb7)
                    | (go_at_call 12; refine Calls.mono HF3.out ?_; rintro e u8 ⟨f1, f2, hb8⟩; obtain ⟨v1, v2, rfl⟩ := f1 (by trivial); have HB8 := (show Hid _ from hb8); clear hb8 f1 f2 e1 e2 e3))
                  go_ret
                  exact ⟨rfl, below_next (HWr.out.trans (HB7.out.mono HWr.out.size)) HB8.out⟩
        · rw [hsy] at HSy
          clear hn
          go_enter Tryz.func6, Tryz.ntmps6
          go_wp2_with (first
            | (go_at_call 9; refine Calls.mono HSh.out ?_; rintro e u1 ⟨rfl, hb1⟩)
            | (go_at_call 10; refine (HSo.out _).mono ?_; rintro e u2 ⟨rfl, hw⟩; subst u2)
            | (go_at_call 11; refine (HLi.out _).mono ?_; rintro e u3 ⟨la, lc, rfl, hrow, hb3⟩; obtain ⟨g, cp, he, _, hcell⟩ := row_at hrow (by have := HN.out; omega); cases he; have x0 := hcell 0 (strV x) (by rw [List.getElem?_map, hx]; rfl); have xn := hcell n (strV y) (by rw [List.getElem?_map, hy]; rfl); have HRow := (show Hid _ from hrow); have HCe := (show Hid _ from hcell); clear hrow hcell)
            | (go_at_call 15; refine (HQ.out _ _ HRow.out).mono ?_; rintro e u4 ⟨rfl, hw⟩; subst u4)
            | (go_at_call_of 17 (strV x); refine (HSx.out _).mono ?_; rintro e u5 ⟨rfl, hw⟩; subst u5)
            | (go_at_call 17; refine (HSy.out _).mono ?_; rintro e u6 ⟨rfl, hw⟩; subst u6))
          go_ret
          exact ⟨rfl, below_next hb1 hb3⟩
      · rw [hsx] at HSx
        clear hn
        go_enter Tryz.func6, Tryz.ntmps6
        go_wp2_with (first
          | (go_at_call 9; refine Calls.mono HSh.out ?_; rintro e u1 ⟨rfl, hb1⟩)
          | (go_at_call 10; refine (HSo.out _).mono ?_; rintro e u2 ⟨rfl, hw⟩; subst u2)
          | (go_at_call 11; refine (HLi.out _).mono ?_; rintro e u3 ⟨la, lc, rfl, hrow, hb3⟩; obtain ⟨g, cp, he, _, hcell⟩ := row_at hrow (by have := HN.out; omega); cases he; have x0 := hcell 0 (strV x) (by rw [List.getElem?_map, hx]; rfl); have xn := hcell n (strV y) (by rw [List.getElem?_map, hy]; rfl); have HRow := (show Hid _ from hrow); have HCe := (show Hid _ from hcell); clear hrow hcell)
          | (go_at_call 15; refine (HQ.out _ _ HRow.out).mono ?_; rintro e u4 ⟨rfl, hw⟩; subst u4)
          | (go_at_call_of 17 (strV x); refine (HSx.out _).mono ?_; rintro e u5 ⟨rfl, hw⟩; subst u5))
        go_ret
        exact ⟨rfl, below_next hb1 hb3⟩

end blockCode
end Go.Proofs.YteonkgneicgkjaaGreatDoor
