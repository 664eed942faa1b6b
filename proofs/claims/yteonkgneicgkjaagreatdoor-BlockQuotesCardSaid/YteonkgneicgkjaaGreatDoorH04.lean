
/- Several texts in one. -/
import Derived.Test.YteonkgneicgkjaaGreatDoorG50
import Derived.Test.YteonkgneicgkjaaGreatDoorH01
import Derived.Laws.Strings3
import Derived.Test.YteonkgneicgkjaaGreatDoorH03
set_option linter.unusedVariables false
/- What the laws' texts are put together of. -/
namespace Go.Proofs.YteonkgneicgkjaaGreatDoor
open Go.RowKit

theorem sadd (A B : Str) (h : A.length + B.length ≤ 9223372036854775000) : ∀ w, (Op.stringOp .add (ByteArray.mk A.toArray) (ByteArray.mk B.toArray)).run Tryz.prog w = .ok (.string ⟨(A ++ B).toArray⟩) w := by
  intro w
  rw [← cat_eq]
  exact run_string_add_sum (w := w) _ _ (by rw [size_list, size_list]; omega)

/-- What the lines of a text are like. -/
theorem lines_ok (l : Str) : (∀ x ∈ lines l, ∀ c ∈ x, notEnd c = true) ∧ (∀ x ∈ lines l, x.length ≤ l.length) ∧ (lines l).length ≤ l.length := by
  have key : ∀ (f i : Nat), ∀ x ∈ linesF l f i, (∀ c ∈ x, notEnd c = true) ∧ x.length ≤ l.length := by
    intro f
    induction f with
    | zero => intro i x hx; cases hx
    | succ f ih =>
      intro i x hx
      simp only [linesF] at hx
      split at hx
      · rcases List.mem_cons.1 hx with q | q
        · subst q
          constructor
          · intro c hc
            exact List.all_eq_true.1 (List.all_takeWhile (p := notEnd) (l := l.drop i)) c hc
          · have h1 := (List.takeWhile_prefix (p := notEnd) (l := l.drop i)).length_le
            rw [List.length_drop] at h1
            omega
        · exact ih _ x q
      · cases hx
  exact ⟨fun x hx => (key _ _ x hx).1, fun x hx => (key _ _ x hx).2, linesF_le l _ _⟩

theorem quoted_ok {ls : List Str} (h : quotedL ls = true) : ∀ x ∈ ls, ∀ c ∈ x, c ≠ 9 := by
  intro x hx c hc
  unfold quotedL at h
  have := List.all_eq_true.1 (List.all_eq_true.1 h x hx) c hc
  simpa using this

abbrev indT (ls : List Str) : Str := ls.flatMap (fun x => [32, 32, 32, 32] ++ x ++ [10])
abbrev catT (ls : List Str) : Str := ls.flatMap (fun x => x ++ [10])
def fenceL1 (c : UInt8) : Bool := c == 96 || c == 126
def closeT (ls : List Str) : Bool := ls.any (fun x => x.any fenceL1)

end Go.Proofs.YteonkgneicgkjaaGreatDoor

/- BlockQuotes: what is quoted is what it is; walked. -/
namespace Go.Proofs.YteonkgneicgkjaaGreatDoor
open Go.RowKit
open cur (cell_blk)

theorem cost_at (l : Str) : ∀ (f i : Nat), costL (linesF l f i) ≤ 300 * (l.length - i)
  | 0, i => Nat.zero_le _
  | f + 1, i => by
    simp only [linesF]
    split
    · rename_i h
      have h1 := next_gt h
      have h2 := cost_at l f (nextAt l i)
      have h3 : ((l.drop i).takeWhile notEnd).length ≤ nextAt l i - i := by
        have : i + ((l.drop i).takeWhile notEnd).length = stopAt l i := rfl
        have h4 : nextAt l i = stopAt l i + endAt l (stopAt l i) := rfl
        omega
      simp only [costL]
      omega
    · exact Nat.zero_le _
theorem cost_lines (l : Str) : costL (lines l) ≤ 300 * l.length := cost_at l (l.length - 0) 0

abbrev quoT (ls : List Str) : Str := ls.flatMap (fun x => [62, 32] ++ x ++ [10])
theorem quoT_len : ∀ (ls : List Str) (m : Nat), (∀ x ∈ ls, x.length ≤ m) → (quoT ls).length ≤ ls.length * (m + 3)
  | [], m, _ => by simp
  | x :: r, m, h => by
    have h1 := quoT_len r m (fun y hy => h y (List.mem_cons_of_mem _ hy))
    have h3 := h x (List.mem_cons_self ..)
    have e1 : (quoT (x :: r)).length = x.length + 3 + (quoT r).length := by simp [quoT]; omega
    rw [e1, List.length_cons, Nat.succ_mul]
    omega
theorem quo_next {ls : List Str} {k : Nat} {z : Str} (h : ls[k]? = some z) : quoT (ls.take (k + 1)) = quoT (ls.take k) ++ [62, 32] ++ z ++ [10] := by
  rw [List.take_add_one, h]
  simp [quoT]
theorem quo_parse (l : Str) (hl : l.length ≤ 4096) (hne : lines l ≠ []) (h9 : ∀ x ∈ lines l, ∀ c ∈ x, c ≠ 9) (hd : (parseL l).1.deep ≤ 22) : parseL (quoT (lines l)) = (.cons { kind := 1 } (parseL l).1 .nil, (parseL l).2) := by
  obtain ⟨o1, o2, o3⟩ := lines_ok l
  have hlq : lines (quoT (lines l)) = (lines l).map qL := by
    have := lines_cat [62, 32] (by decide) [] (lines l) o1
    rw [List.append_nil] at this
    rw [this, show lines ([] : Str) = [] from rfl, List.append_nil]
    rfl
  have hc := cost_lines l
  have := quotes_parse (lines l) hne (fun x hx => by have := o2 x hx; omega) (by omega) h9 hd
  unfold parseL
  rw [hlq]
  exact this
theorem par_deep (l : Str) (hl : l.length ≤ 4096) : (parseL l).1.deep ≤ 24 := by
  obtain ⟨o1, o2, o3⟩ := lines_ok l
  have hc := cost_lines l
  exact parse_deep (lines l) (fun x hx => by have := o2 x hx; omega) (by omega)

/-- One Quote, as it lies in memory. -/
theorem quo_cells {w : World} {v1 : Value} {k : Bs} {A S : Nat → Prop} (hk : KidsV w A S v1 (.cons { kind := 1 } k .nil)) :
    ∃ g c v, v1 = .slice (some ⟨g, 0, none⟩) 1 c ∧ w.cell? ⟨g, 0, none⟩ = some (.int .i64 1) ∧ w.cell? ⟨g, 7, none⟩ = some v ∧ KidsV w S S v k := by
  obtain ⟨xs, hrow, _, y1, y2, y3, rfl, r1, r2, r3, _⟩ := hk
  obtain ⟨g, c, rfl, _, q⟩ := row_at hrow (Nat.succ_pos _)
  exact ⟨g, c, y1, rfl, q 0 _ rfl, q 7 _ rfl, ⟨y2, r1, r2, r3⟩⟩

namespace blockQuotes

set_option maxHeartbeats 8000000 in
set_option maxRecDepth 60000 in
theorem walk (s0 : ByteArray) (w0 : s0.size ≤ 140737488351232) (w : World) (hm : MLen w) :
    Calls Tryz.prog 4 #[.string s0] w fun e w' => e = .returned (.bool true) ∧ Below w.heap.size w w' := by
  have hs0 : Value.string s0 = strV s0.data.toList := by show _ = Value.string ⟨s0.data⟩; rfl
  rw [hs0]
  have hl0 : s0.data.toList.length ≤ 140737488351232 := by rw [len_data]; exact w0
  generalize s0.data.toList = l0 at *
  clear hs0
  have hlk : (l0.take 4096).length ≤ 4096 := by rw [List.length_take]; omega
  have HSh : Hid (Calls Tryz.prog 9 #[] w fun e w' => e = .returned (.bool true) ∧ Below w.heap.size w w') := bshown_any w hm
  have HSo : Hid (∀ w, Calls Tryz.prog 10 #[strV l0] w fun e w' => e = .returned (strV (l0.take 4096)) ∧ w' = w) := fun w => bshort_any l0 hl0 w
  obtain ⟨ok1, ok2, ok3⟩ := lines_ok (l0.take 4096)
  have HLi : Hid (∀ w, Calls Tryz.prog 11 #[.string ⟨(l0.take 4096).toArray⟩] w fun e w' => ∃ (a : Option Addr) (cp : Nat), e = .returned (.slice a (lines (l0.take 4096)).length cp) ∧ w'.ownsRow 0 9 1 (.slice a (lines (l0.take 4096)).length cp) (lines (l0.take 4096)).length (strCs (lines (l0.take 4096))) ∧ Below w.heap.size w w') := fun w => (run.lines_any ⟨(l0.take 4096).toArray⟩ w (by rw [size_list]; omega)).mono fun e w' q => by
    rw [list_data] at q
    obtain ⟨v, q1, q2, q3⟩ := q
    rcases q2.2 with ⟨e1, e2⟩ | ⟨g, cap, cu, e1, e2, e3⟩
    · exact ⟨none, 0, by rw [q1, e1, e2], ⟨q2.1, .inl ⟨by rw [e2], e2⟩⟩, q3⟩
    · exact ⟨some ⟨g, 0, none⟩, cap, by rw [q1, e1], ⟨q2.1, .inr ⟨g, cap, cu, rfl, Nat.zero_le _, e3⟩⟩, q3⟩
  generalize l0.take 4096 = l1 at *
  have HPs : Hid (∀ u, MLen u → Calls Tryz.prog 12 #[strV l1] u fun e w' => ∃ v1 v2, e = .returned (.tuple #[v1, v2]) ∧ KidsV w' (fun g => u.heap.size ≤ g) (fun g => u.heap.size ≤ g) v1 (parseL l1).1 ∧ w'.ownsRow 0 40 3 v2 (parseL l1).2.length (defCs (parseL l1).2) ∧ Below u.heap.size u w') := fun u hM => (bparse_any l1 (by omega) u hM).mono fun e w' ⟨v1, v2, q1, q2, q3, _, q5⟩ => ⟨v1, v2, q1, q2, q3, q5⟩
  have HDp := (show Hid _ from par_deep l1 hlk)
  have HQp : Hid (lines l1 ≠ [] → (∀ x ∈ lines l1, ∀ c ∈ x, c ≠ 9) → (parseL l1).1.deep ≤ 22 → parseL (quoT (lines l1)) = (.cons { kind := 1 } (parseL l1).1 .nil, (parseL l1).2)) := fun a b c => quo_parse l1 hlk a b c
  generalize hls : lines l1 = ls at *
  have hlen : ls.length ≤ 4096 := by omega
  have hmx : ∀ x ∈ ls, x.length ≤ 4096 := fun x hx => Nat.le_trans (ok2 x hx) hlk
  have HQ : Hid (∀ w v, w.ownsRow 0 9 1 v ls.length (strCs ls) → Calls Tryz.prog 15 #[v] w fun e w' => e = .returned (.bool (quotedL ls)) ∧ w' = w) := fun w v q => bquoted_any ls (by omega) (fun x hx => by have := hmx x hx; omega) w q
  clear hls ok2 ok3 hl0 w0 hlk ok1
  rcases Nat.eq_zero_or_pos ls.length with hz | hz
  · have hnil : ls = [] := List.length_eq_zero_iff.1 hz
    subst hnil
    clear hz
    go_enter Tryz.func4, Tryz.ntmps4
    go_wp2_with (first
      | (go_at_call 9; refine Calls.mono HSh.out ?_; rintro e u1 ⟨rfl, hb1⟩)
      | (go_at_call 10; refine (HSo.out _).mono ?_; rintro e u2 ⟨rfl, hw⟩; subst u2)
      | (go_at_call 11; refine (HLi.out _).mono ?_; rintro e u3 ⟨la, lc, rfl, hrow, hb3⟩; have HRow := (show Hid _ from hrow); clear hrow)
      | (go_at_call 15; refine (HQ.out _ _ HRow.out).mono ?_; rintro e u4 ⟨rfl, hw⟩; subst u4))
    go_ret
    exact ⟨rfl, below_next hb1 hb3⟩
  · have hzi : ¬ (ls.length : Int) = 0 := by omega
    have hzb : ((ls.length : Int) == 0) = false := by simpa using hzi
    cases hq : quotedL ls
    · rw [hq] at HQ
      go_enter Tryz.func4, Tryz.ntmps4
      go_wp2_with (first
        | (go_at_call 9; refine Calls.mono HSh.out ?_; rintro e u1 ⟨rfl, hb1⟩)
        | (go_at_call 10; refine (HSo.out _).mono ?_; rintro e u2 ⟨rfl, hw⟩; subst u2)
        | (go_at_call 11; refine (HLi.out _).mono ?_; rintro e u3 ⟨la, lc, rfl, hrow, hb3⟩; have HRow := (show Hid _ from hrow); clear hrow)
        | (go_at_call 15; refine (HQ.out _ _ HRow.out).mono ?_; rintro e u4 ⟨rfl, hw⟩; subst u4))
      go_ret
      exact ⟨rfl, below_next hb1 hb3⟩
    · rw [hq] at HQ
      have hq9 := quoted_ok hq
      have hne : ls ≠ [] := fun e => by rw [e] at hz; simp at hz
      have hbd : ∀ k, (quoT (ls.take k)).length ≤ 20000000 := fun k => by
        have q := quoT_len (ls.take k) 4096 (fun x hx => hmx x (List.mem_of_mem_take hx))
        have q2 : (ls.take k).length ≤ 4096 := by rw [List.length_take]; omega
        have q3 : (ls.take k).length * 4099 ≤ 4096 * 4099 := Nat.mul_le_mul_right _ q2
        omega
      have HBd := (show Hid _ from hbd)
      have HPt : Hid (∀ u, MLen u → Calls Tryz.prog 12 #[strV (quoT ls)] u fun e w' => ∃ v1 v2, e = .returned (.tuple #[v1, v2]) ∧ ((parseL l1).1.deep ≤ 22 → KidsV w' (fun g => u.heap.size ≤ g) (fun g => u.heap.size ≤ g) v1 (.cons { kind := 1 } (parseL l1).1 .nil) ∧ w'.ownsRow 0 40 3 v2 (parseL l1).2.length (defCs (parseL l1).2)) ∧ Below u.heap.size u w') := fun u hM => by
        have hb := hbd ls.length
        rw [List.take_length] at hb
        refine (bparse_any (quoT ls) (by omega) u hM).mono ?_
        rintro e w' ⟨v1, v2, q1, q2, q3, _, q5⟩
        refine ⟨v1, v2, q1, fun hd => ?_, q5⟩
        rw [HQp.out hne hq9 hd] at q2 q3
        exact ⟨q2, q3⟩
      clear hbd hq9 HQp hq hne
      go_enter Tryz.func4, Tryz.ntmps4
      go_wp2_with (first
        | (go_at_call 9; refine Calls.mono HSh.out ?_; rintro e u1 ⟨rfl, hb1⟩)
        | (go_at_call 10; refine (HSo.out _).mono ?_; rintro e u2 ⟨rfl, hw⟩; subst u2)
        | (go_at_call 11; refine (HLi.out _).mono ?_; rintro e u3 ⟨la, lc, rfl, hrow, hb3⟩; have HRow := (show Hid _ from hrow); clear hrow)
        | (go_at_call 15; refine (HQ.out _ _ HRow.out).mono ?_; rintro e u4 ⟨rfl, hw⟩; subst u4))
      have HB3 : Hid (Below w.heap.size w u3) := below_next hb1 hb3
      clear hb1 hb3 HSh HSo HLi HQ hzi hzb
      go_loopw [6, 7] (fun t i wr => ∃ k : Nat, i = .int .i64 (k : Int) ∧ k ≤ ls.length ∧ t = strV (quoT (ls.take k)) ∧ wr = u3) (fun _ i _ => ls.length - (intOf i).toNat)
      case atStart => exact ⟨0, rfl, Nat.zero_le _, rfl, rfl⟩
      case round =>
        obtain ⟨k, rfl, hk, rfl, hw⟩ := hrel
        subst hw
        by_cases hlt : k < ls.length
        · have hlt' : (k : Int) < (ls.length : Int) := by omega
          have hk1 : (k : Int) < 1099511627776 := by omega
          obtain ⟨z, hzk⟩ : ∃ z, ls[k]? = some z := ⟨_, List.getElem?_eq_getElem hlt⟩
          obtain ⟨g, cp, hge, _, hcell⟩ := row_at HRow.out (by omega)
          cases hge
          have hck := hcell k (strV z) (by rw [List.getElem?_map, hzk]; rfl)
          have hzl := hmx z (List.mem_of_getElem? hzk)
          have hbI := HBd.out k
          have HI : Hid (quoT (ls.take (k + 1)) = quoT (ls.take k) ++ [62, 32] ++ z ++ [10]) := quo_next hzk
          generalize quoT (ls.take k) = TT at *
          have a1 := sadd TT [62, 32] (by simp only [List.length_cons, List.length_nil]; omega)
          have a2 := sadd (TT ++ [62, 32]) z (by simp only [List.length_append, List.length_cons, List.length_nil]; omega)
          have a3 := sadd (TT ++ [62, 32] ++ z) [10] (by simp only [List.length_append, List.length_cons, List.length_nil]; omega)
          generalize hT2 : TT ++ [62, 32] = T2 at *
          generalize hT3 : T2 ++ z = T3 at *
          generalize hT4 : T3 ++ [10] = T4 at *
          have HT4 : Hid (T4 = quoT (ls.take (k + 1))) := by show _ = _; rw [HI.out]
          clear hT2 hT3 hT4 hbI hcell hzk
          go_wp2
          go_roundw
          case rel => exact ⟨k + 1, by go_num, by omega, by rw [HT4.out], by first | rfl | trivial⟩
          case measure => simp [intOf]; omega
        · have hge : ¬ (k : Int) < (ls.length : Int) := by omega
          have htk : ls.take k = ls := List.take_of_length_le (by omega)
          rw [htk]
          have HF1 := (show Hid _ from HPs.out wr (hm.below HB3.out))
          have HDq := HDp.out
          clear HRow HBd hmx hlen htk HPs hz
          generalize parseL l1 = PP at *
          obtain ⟨KK, DD⟩ := PP
          simp only at HF1 HPt HDq HDp
          generalize hIT : strV l1 = IT at *
          generalize hTT : strV (quoT ls) = TT at *
          have hdd : (22 : Int) < (KK.deep : Int) ∨ KK.deep ≤ 22 := by omega
          rcases hdd with hdd | hdd
          · have hdg : (23 : Int) ≤ (KK.deep : Int) := by omega
            go_wp2_with (first
              | (go_at_call_of 12 IT; refine Calls.mono HF1.out ?_; rintro e' u5 ⟨v1, v2, rfl, k1, k2, hb5⟩; have HB5 : Hid (Below w.heap.size w u5) := HB3.out.trans (hb5.mono HB3.out.size); have HF2 := (show Hid _ from HPt.out u5 (hm.below HB5.out)); have HK1 := (show Hid _ from k1); clear k1 k2 hb5)
              | (go_at_call 12; refine Calls.mono HF2.out ?_; rintro e' u6 ⟨v3, v4, rfl, k3, hb6⟩; have HB6 : Hid (Below w.heap.size w u6) := HB5.out.trans (hb6.mono HB5.out.size); have HDe := (show Hid _ from bdeep_any KK.size KK (Nat.le_refl _) (by omega) u6 v1 _ _ (KidsV.keeps HK1.out (fun _ q => q) (fun _ q => q) (fun g hg _ => hb6.block g hg) (fun g hg _ => hb6.block g hg))); clear k3 hb6)
              | (go_at_call 16; refine Calls.mono HDe.out ?_; rintro e' u7 ⟨rfl, hu7⟩; subst u7))
            go_ret
            exact ⟨rfl, HB6.out⟩
          · have hdg : ¬ (23 : Int) ≤ (KK.deep : Int) := by omega
            go_wp2_with (first
              | (go_at_call_of 12 IT; refine Calls.mono HF1.out ?_; rintro e' u5 ⟨v1, v2, rfl, k1, k2, hb5⟩; have HB5 : Hid (Below w.heap.size w u5) := HB3.out.trans (hb5.mono HB3.out.size); have HF2 := (show Hid _ from HPt.out u5 (hm.below HB5.out)); have HK1 := (show Hid _ from k1); have HK2 := (show Hid _ from k2); clear k1 k2 hb5)
              | (go_at_call 12; refine Calls.mono HF2.out ?_; rintro e' u6 ⟨v3, v4, rfl, k3, hb6⟩; obtain ⟨k3, k4⟩ := k3 hdd; have HB6 : Hid (Below w.heap.size w u6) := HB5.out.trans (hb6.mono HB5.out.size); have HK3 := (show Hid _ from KidsV.keeps HK1.out (fun _ q => q) (fun _ q => q) (fun g hg _ => hb6.block g hg) (fun g hg _ => hb6.block g hg)); have HDe := (show Hid _ from bdeep_any KK.size KK (Nat.le_refl _) (by omega) u6 v1 _ _ HK3.out); have HDf := (show Hid _ from bdefs_any DD u6 v2 v4 (row_keeps HK2.out (fun g hg => hb6.block g (World.ownsRow.lt HK2.out g hg).2)) k4); obtain ⟨g9, c9, v9, rfl, y0, y7, k9⟩ := quo_cells k3; have HK9 := (show Hid _ from k9); have z0 := (fun n : Nat => (show (u6.drewN n).cell? ⟨g9, 0, none⟩ = _ from y0)); have z7 := (fun n : Nat => (show (u6.drewN n).cell? ⟨g9, 7, none⟩ = _ from y7)); clear k3 k4 hb6 k9 y0 y7)
              | (go_at_call 16; refine Calls.mono HDe.out ?_; rintro e' u7 ⟨rfl, hu7⟩; subst u7)
              | (go_at_call 14; refine Calls.mono HDf.out ?_; rintro e' u8 ⟨rfl, n8, rfl⟩; have HSa := (show Hid _ from bsame_any KK.size KK (Nat.le_refl _) (u6.drewN n8) v9 v1 _ _ _ _ (KidsV.keeps HK9.out (fun _ q => q) (fun _ q => q) (fun _ _ _ => rfl) (fun _ _ _ => rfl)) (KidsV.keeps HK3.out (fun _ q => q) (fun _ q => q) (fun _ _ _ => rfl) (fun _ _ _ => rfl))))
              | (go_at_call 13; refine Calls.mono HSa.out ?_; rintro e' u9 ⟨rfl, hb9⟩; have HB9 : Hid (Below w.heap.size w u9) := (cur.below_drewN HB6.out n8).trans (hb9.mono HB6.out.size); clear hb9))
            go_ret
            exact ⟨rfl, HB9.out⟩

end blockQuotes
end Go.Proofs.YteonkgneicgkjaaGreatDoor
