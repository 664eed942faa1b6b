/- Several texts in one. -/
import Derived.Test.YtcbojffcnlkejaaGreatDoorBInner
import Derived.Test.YtcbojffcnlkejaaGreatDoorBAsserts
set_option linter.unusedVariables false
/- Is a paragraph open? -/
namespace Go.Proofs.YtcbojffcnlkejaaGreatDoor
open Go.RowKit
open cur (cell_blk free_blk set_blk blk_below)

set_option maxHeartbeats 2000000 in
set_option maxRecDepth 8000 in
theorem bhasPara_any {w : World} {r : Nat} {own : Nat → Nat} {N : Nat} {bs : List Nat} {vo vd vm : Value} {s : St} (h : RepR w r own N bs vo vd vm s) {p : Part} {b n : Nat} (hn : s.opens.length = n + 1) (hp : s.opens[n]? = some p) (hb : bs[n]? = some b) (hz : n ≤ 1099511627776) :
    Calls Tryz.prog 46 #[ptrV r] w fun e w' => e = .returned (.bool p.isPara) ∧ ∃ m, w' = w.drewN m := by
  have HI : Hid (Calls Tryz.prog 23 #[ptrV r] w fun e w' => e = .returned (partI p b) ∧ ∃ m, w' = w.drewN m) := binner_any h hn hp hb hz
  have ta := fun w => as_para p b w
  simp only [partI] at HI
  generalize partP p = T at *
  generalize p.isPara = ip at *
  clear h hn hp hb hz
  go_enter Tryz.func46, Tryz.ntmps46
  go_wp2_with (go_at_call 23; refine HI.out.mono ?_; rintro e u ⟨rfl, m, rfl⟩)
  go_ret
  exact ⟨rfl, _, rfl⟩

end Go.Proofs.YtcbojffcnlkejaaGreatDoor

/- Is the open paragraph close; is there room. -/
namespace Go.Proofs.YtcbojffcnlkejaaGreatDoor
open Go.RowKit
open cur (cell_blk free_blk set_blk blk_below)

theorem drew_add (w : World) (n m : Nat) : (w.drewN n).drewN m = w.drewN (n + m) := by
  show ({ w with drawn := w.drawn + n + m } : World) = { w with drawn := w.drawn + (n + m) }
  rw [Nat.add_assoc]

theorem RepR.drewN {w : World} {r : Nat} {own : Nat → Nat} {N : Nat} {bs : List Nat} {vo vd vm : Value} {s : St} (h : RepR w r own N bs vo vd vm s) (n : Nat) : RepR (w.drewN n) r own N bs vo vd vm s := h.keeps fun _ _ _ => rfl

/-- The row of what is open, as a slice. -/
theorem RepR.row {w : World} {r : Nat} {own : Nat → Nat} {N : Nat} {bs : List Nat} {vo vd vm : Value} {s : St} (h : RepR w r own N bs vo vd vm s) : ∃ a c, vo = .slice a s.opens.length c ∧ s.opens.length ≤ c := by
  rcases h.opens.2 with ⟨rfl, q⟩ | ⟨g, cap, cur, rfl, hb, hc, hn, rest⟩
  · exact ⟨none, 0, by rw [q], by omega⟩
  · exact ⟨_, cap, rfl, hn⟩

set_option maxHeartbeats 2000000 in
theorem bisClose_any {w : World} {r : Nat} {own : Nat → Nat} {N : Nat} {bs : List Nat} {vo vd vm : Value} {s : St} (h : RepR w r own N bs vo vd vm s) {p : Part} {b n : Nat} (hn : s.opens.length = n + 1) (hp : s.opens[n]? = some p) (hb : bs[n]? = some b) (hz : n ≤ 1099511627776) :
    Calls Tryz.prog 49 #[ptrV r] w fun e w' => e = .returned (.bool (p.isPara && s.on == s.opens.length)) ∧ ∃ m, w' = w.drewN m := by
  have HP : Hid (∀ k, Calls Tryz.prog 46 #[ptrV r] (w.drewN k) fun e w' => e = .returned (.bool p.isPara) ∧ ∃ m, w' = w.drewN m) := fun k => (bhasPara_any (h.drewN k) hn hp hb hz).mono fun _ w' ⟨q, m, e⟩ => ⟨q, k + m, by rw [e, drew_add]⟩
  obtain ⟨a, c, rfl, hc⟩ := h.row
  have c0 := cell_blk h.rd (i := 0) rfl
  have c1 := cell_blk h.rd (i := 1) rfl
  simp only [List.getElem_toArray, List.getElem_cons_zero, List.getElem_cons_succ] at c0 c1
  have hq : ((s.on : Int) == (s.opens.length : Int)) = (s.on == s.opens.length) := by
    rw [Bool.eq_iff_iff, beq_iff_eq, beq_iff_eq]
    omega
  rw [← hq]
  clear h hn hp hb hq
  generalize p.isPara = ip at *
  generalize s.opens.length = len at *
  generalize s.on = on at *
  cases ip
  · go_enter Tryz.func49, Tryz.ntmps49
    go_wp2
    go_quiet ((go_at_call 46; exact HP.out _))
    go_wp2
    go_ret
    exact ⟨rfl, _, rfl⟩
  · go_enter Tryz.func49, Tryz.ntmps49
    go_wp2
    go_quiet ((go_at_call 46; exact HP.out _))
    go_wp2
    go_ret
    exact ⟨rfl, _, rfl⟩

end Go.Proofs.YtcbojffcnlkejaaGreatDoor

/- Is there room for one more Quote or Item? -/
namespace Go.Proofs.YtcbojffcnlkejaaGreatDoor
open Go.RowKit
open cur (cell_blk free_blk set_blk blk_below)

theorem deep_next {l : List Part} {k : Nat} {p : Part} (h : l[k]? = some p) : (l.take (k + 1)).countP Part.isDeep = (l.take k).countP Part.isDeep + (if p.isDeep then 1 else 0) := by
  rw [List.take_add_one, h, List.countP_append]
  simp [List.countP_cons]
theorem deep_is (p : Part) : (p.isQuote || p.isItem) = p.isDeep := by cases p <;> rfl

set_option maxHeartbeats 4000000 in
theorem broom_any {w : World} {r : Nat} {own : Nat → Nat} {N : Nat} {bs : List Nat} {vo vd vm : Value} {s : St} (h : RepR w r own N bs vo vd vm s) (hon : s.on ≤ s.opens.length) (hn : s.opens ≠ []) (hz : s.opens.length ≤ 1099511627776) :
    Calls Tryz.prog 37 #[ptrV r] w fun e w' => e = .returned (.bool s.room) ∧ ∃ m, w' = w.drewN m := by
  have hlen := List.length_pos_iff.2 hn
  have hrow := h.opens
  obtain ⟨g, c, cur, hv, hc, hcap⟩ : ∃ g c cur, vo = .slice (some ⟨g, 0, none⟩) s.opens.length c ∧ w.heap[g]? = some (.cells cur 66 (0, 0)) ∧ s.opens.length ≤ c := by
    rcases hrow.2 with ⟨_, q⟩ | ⟨g, cap, cur, rfl, _, hg, hn, _⟩
    · omega
    · exact ⟨g, cap, cur, rfl, hg, hn⟩
  subst hv
  have hcell : ∀ k p b, s.opens[k]? = some p → bs[k]? = some b → w.cell? ⟨g, k, none⟩ = some (partI p b) := by
    intro k p b hp hb
    have q := hrow.cells (g := g) rfl k (partI p b) (zip_at hb hp)
    have he : (⟨g, 0, none⟩ : Addr).add k = ⟨g, k, none⟩ := by
      unfold Addr.add
      split
      · rename_i q; subst q; rfl
      · simp
    rwa [he] at q
  have HC := (show Hid _ from hcell)
  have HL := (show Hid _ from h.len)
  have c0 := cell_blk h.rd (i := 0) rfl
  have c1 := cell_blk h.rd (i := 1) rfl
  simp only [List.getElem_toArray, List.getElem_cons_zero, List.getElem_cons_succ] at c0 c1
  have i1 : (s.on : Int) ≤ (c : Int) := by omega
  have i2 : (s.on : Int) ≤ (s.opens.length : Int) := by omega
  have hr : s.room = decide (((s.opens.take s.on).countP Part.isDeep : Int) < 24) := by
    unfold St.room
    rw [Bool.eq_iff_iff, decide_eq_true_eq, decide_eq_true_eq]
    omega
  rw [hr]
  clear h hrow hn hc hr hcell
  go_enter Tryz.func37, Tryz.ntmps37
  go_wp2
  go_quiet (fail)
  go_wp2
  go_loopw [3, 16] (fun d t wr => ∃ k : Nat, t = .int .i64 (k : Int) ∧ k ≤ s.on ∧ d = .int .i64 (((s.opens.take k).countP Part.isDeep : Nat) : Int) ∧ ∃ m, wr = w.drewN m) (fun _ t _ => s.on - (intOf t).toNat)
  case atStart => exact ⟨0, rfl, Nat.zero_le _, by simp, _, rfl⟩
  case round =>
    obtain ⟨k, rfl, hk, rfl, m, rfl⟩ := hrel
    have hcnt : (s.opens.take k).countP Part.isDeep ≤ 1099511627776 := Nat.le_trans List.countP_le_length (by rw [List.length_take]; omega)
    by_cases hlt : k < s.on
    · obtain ⟨p, hp⟩ : ∃ p, s.opens[k]? = some p := ⟨_, List.getElem?_eq_getElem (by omega)⟩
      obtain ⟨b, hb⟩ : ∃ b, bs[k]? = some b := ⟨_, List.getElem?_eq_getElem (by rw [HL.out]; omega)⟩
      have hc := HC.out k p b hp hb
      have tq := fun w => as_quote p b w
      have ti := fun w => as_item p b w
      have hd := deep_next hp
      have hq := deep_is p
      simp only [partI] at hc
      generalize partP p = T at *
      generalize p.isQuote = iq at *
      generalize p.isItem = ii at *
      generalize p.isDeep = dd at *
      have hlt' : (k : Int) < (s.on : Int) := by omega
      have HD := (show Hid _ from hd)
      have hk1 : (k : Int) < 1099511627776 := by omega
      clear hd hp hb HC
      generalize hcv : (s.opens.take k).countP Part.isDeep = cv at *
      clear hcv
      cases iq
      · cases ii
        · have hdd : dd = false := by rw [← hq]; rfl
          subst hdd
          go_wp2
          go_roundw
          case rel => exact ⟨k + 1, by go_num, by omega, by rw [HD.out]; simp, _, rfl⟩
          case measure => simp [intOf]; omega
        · have hdd : dd = true := by rw [← hq]; rfl
          subst hdd
          go_wp2
          go_roundw
          case rel => exact ⟨k + 1, by go_num, by omega, by rw [HD.out]; simp, _, rfl⟩
          case measure => simp [intOf]; omega
      · have hdd : dd = true := by rw [← hq]; rfl
        subst hdd
        go_wp2
        go_roundw
        case rel => exact ⟨k + 1, by go_num, by omega, by rw [HD.out]; simp, _, rfl⟩
        case measure => simp [intOf]; omega
    · have hke : k = s.on := by omega
      subst hke
      have hge : ¬ (s.on : Int) < (s.on : Int) := by omega
      go_wp2
      go_ret
      exact ⟨rfl, _, rfl⟩

end Go.Proofs.YtcbojffcnlkejaaGreatDoor
