/- Several texts in one. -/
import Derived.Test.YtcbojffcnlkejaaGreatDoorG49
import Derived.Test.YtcbojffcnlkejaaGreatDoorG22
import Derived.Test.YtcbojffcnlkejaaGreatDoorG04
set_option linter.unusedVariables false
/- A text is read. -/
namespace Go.Proofs.YtcbojffcnlkejaaGreatDoor
open Go.RowKit
open cur (cell_blk free_blk set_blk blk_below Cur cptr Oth)

/-- What lines may add. -/
def linesK : List Str → Nat
  | [] => 0
  | l :: r => lineK (4 * l.length) + linesK r
theorem linesK_at (l : Str) : ∀ (f i : Nat), linesK (linesF l f i) ≤ 144 * (l.length - i)
  | 0, i => Nat.zero_le _
  | f + 1, i => by
    simp only [linesF]
    split
    · rename_i h
      have h1 := next_gt h
      have h2 := linesK_at l f (nextAt l i)
      have h3 : ((l.drop i).takeWhile notEnd).length ≤ nextAt l i - i := by
        have : i + ((l.drop i).takeWhile notEnd).length = stopAt l i := rfl
        have h4 : nextAt l i = stopAt l i + endAt l (stopAt l i) := rfl
        omega
      simp only [linesK, lineK]
      omega
    · exact Nat.zero_le _
theorem linesK_le (l : Str) : linesK (lines l) ≤ 144 * l.length := by
  have := linesK_at l (l.length - 0) 0
  exact this

theorem leave_one : ∀ (k B N : Nat) (s : St), s.opens.length = k → Wf B N s → s.on = 1 → s.leave.opens.length = 1 := by
  intro k
  induction k with
  | zero =>
    intro B N s hk h h1
    have := h.on
    omega
  | succ k ih =>
    intro B N s hk h h1
    by_cases hlt : s.on < s.opens.length
    · obtain ⟨N2, w2, _, e2, o2, _⟩ := close_last h (by omega)
      rw [leave_next hlt e2]
      exact ih B N2 s.close (by omega) w2 (by rw [o2]; omega)
    · rw [leave_stop hlt]
      omega

abbrev parseL (l : Str) : Bs × List Df := St.parse htmlL endsX (lines l)

/-- The world in which a reader was just made. -/
abbrev startW (w : World) : World := ((w.alloc (.cells #[.int .i64 0, .int .i64 0, .slice none 0 0, .bool false, .bool false] 52)).alloc (.cells #[.iface 46 (.pointer (some ⟨w.heap.size, 0, none⟩))] 66)).alloc (.cells #[.slice (some ⟨w.heap.size + 1, 0, none⟩) 1 1, .int .i64 0, .slice none 0 0, .map none] 58)
def startO (n g : Nat) : Nat := if g = n then 2 else if g = n + 1 ∨ g = n + 2 then 1 else 0

theorem start_below (w : World) : Below w.heap.size w (startW w) := ((((Below.refl _ _).alloc (Nat.le_refl _) _).alloc (by simp) _).alloc (by simp; omega) _)
theorem start_good (w : World) : Good (startW w) (w.heap.size + 2) (startO w.heap.size) 1 St.start := by
  have e0 : (startW w).heap[w.heap.size]? = some (.cells #[.int .i64 0, .int .i64 0, .slice none 0 0, .bool false, .bool false] 52 (0, 0)) := by
    have h1 := new_blk w #[.int .i64 0, .int .i64 0, .slice none 0 0, .bool false, .bool false] 52
    exact blk_below (blk_below h1 ((Below.refl _ _).alloc (Nat.le_refl _) _)) ((Below.refl _ _).alloc (Nat.le_refl _) _)
  have e1 : (startW w).heap[w.heap.size + 1]? = some (.cells #[.iface 46 (.pointer (some ⟨w.heap.size, 0, none⟩))] 66 (0, 0)) := by
    have h1 := new_blk (w.alloc (.cells #[.int .i64 0, .int .i64 0, .slice none 0 0, .bool false, .bool false] 52)) #[.iface 46 (.pointer (some ⟨w.heap.size, 0, none⟩))] 66
    have h2 := blk_below h1 ((Below.refl _ _).alloc (Nat.le_refl _) (.cells #[.slice (some ⟨w.heap.size + 1, 0, none⟩) 1 1, .int .i64 0, .slice none 0 0, .map none] 58))
    simpa using h2
  have e2 : (startW w).heap[w.heap.size + 2]? = some (.cells #[.slice (some ⟨w.heap.size + 1, 0, none⟩) 1 1, .int .i64 0, .slice none 0 0, .map none] 58 (0, 0)) := by
    have h1 := new_blk ((w.alloc (.cells #[.int .i64 0, .int .i64 0, .slice none 0 0, .bool false, .bool false] 52)).alloc (.cells #[.iface 46 (.pointer (some ⟨w.heap.size, 0, none⟩))] 66)) #[.slice (some ⟨w.heap.size + 1, 0, none⟩) 1 1, .int .i64 0, .slice none 0 0, .map none] 58
    simpa using h1
  refine ⟨0, ⟨[w.heap.size], .slice (some ⟨w.heap.size + 1, 0, none⟩) 1 1, .slice none 0 0, .map none, ⟨e2, ?_, ?_, ?_, ?_, rfl, ?_⟩⟩, ?_⟩
  · unfold startO
    rw [if_neg (by omega), if_pos (.inr rfl)]
  · exact ⟨rfl, .inr ⟨_, 1, _, rfl, Nat.zero_le _, e1, Nat.le_refl _, by decide, rfl, rfl⟩⟩
  · intro g hg
    cases hg
    unfold startO
    rw [if_neg (by simp), if_pos (.inl rfl)]
  · exact ⟨World.ownsRow_nil _ _ _ _, fun g hg => (by cases hg), .inl ⟨rfl, rfl⟩⟩
  · intro i b p hb hp
    have hi : i = 0 := by
      have := (List.getElem?_eq_some_iff.1 hb).1
      simpa using this
    subst hi
    cases hb
    cases hp
    refine ⟨?_, .slice none 0 0, e0, partV_none rfl rfl⟩
    show startO w.heap.size w.heap.size = 2
    unfold startO
    rw [if_pos rfl]
  · refine ⟨⟨_, rfl⟩, ?_, ?_, ?_, ?_, ?_⟩
    · intro i p _ hi
      simp [St.start] at hi
    · intro i p q _ hq
      simp [St.start] at hq
    · intro i p hp
      have hi : i = 0 := by
        have := (List.getElem?_eq_some_iff.1 hp).1
        simpa [St.start] using this
      subst hi
      cases hp
      exact ⟨Nat.zero_le _, Nat.zero_le _, trivial⟩
    · exact Nat.le_refl _
    · exact Nat.zero_le _
theorem start_old (n g : Nat) (h : g < n) : startO n g = 0 := by
  unfold startO
  rw [if_neg (by omega), if_neg (by omega)]

/-- A text, read up to a line. -/
structure ParseAt (w : World) (r : Nat) (l : Str) (vl : Value) (RA : St) (k : Nat) (s : St) (own : Nat → Nat) (B : Nat) (wr : World) : Prop where
  good : Good wr r own B s
  old : ∀ g, g < w.heap.size → own g = 0
  below : Below w.heap.size w wr
  row : wr.ownsRow 0 9 1 vl (lines l).length (strCs (lines l))
  rowo : ∀ g, vl.ownBlock = some g → own g = 0
  all : St.readAll htmlL endsX k s ((lines l).drop k) = RA
  bound : B + linesK ((lines l).drop k) ≤ 1 + linesK (lines l)
  num : k ≤ B
  len : k ≤ (lines l).length
  since : ∀ q, s.opens.getLast? = some q → q.since k

set_option maxHeartbeats 4000000 in
set_option maxRecDepth 40000 in
theorem bparse_any (l : Str) (hs : l.length ≤ 134217728) (w : World) (hM : MLen w) :
    Calls Tryz.prog 11 #[strV l] w fun e w' => ∃ v1 v2, e = .returned (.tuple #[v1, v2]) ∧ KidsV w' (fun g => w.heap.size ≤ g) (fun g => w.heap.size ≤ g) v1 (parseL l).1 ∧ w'.ownsRow 0 41 3 v2 (parseL l).2.length (defCs (parseL l).2) ∧ (∀ g, v2.ownBlock = some g → w.heap.size ≤ g) ∧ Below w.heap.size w w' := by
  have HLi : Hid (∀ w, Calls Tryz.prog 8 #[.string ⟨l.toArray⟩] w fun e w' => ∃ (a : Option Addr) (cp : Nat), e = .returned (.slice a (lines l).length cp) ∧ w'.ownsRow w.heap.size 9 1 (.slice a (lines l).length cp) (lines l).length (strCs (lines l)) ∧ Below w.heap.size w w') := fun w => (run.lines_any ⟨l.toArray⟩ w (by rw [size_list]; omega)).mono fun e w' q => by
    rw [list_data] at q
    obtain ⟨v, q1, q2, q3⟩ := q
    rcases q2.2 with ⟨e1, e2⟩ | ⟨g, cap, cu, e1, _⟩
    · exact ⟨none, 0, by rw [q1, e1, e2], by rw [e2] at q2 ⊢; exact e1 ▸ q2, q3⟩
    · exact ⟨some ⟨g, 0, none⟩, cap, by rw [q1, e1], e1 ▸ q2, q3⟩
  have HG0 : Hid (Good (startW w) (w.heap.size + 2) (startO w.heap.size) 1 St.start) := start_good w
  have HB0 : Hid (Below w.heap.size w (startW w)) := start_below w
  have hW0s : (startW w).heap.size = w.heap.size + 3 := by simp
  have hKb := linesK_le l
  have HSt : Hid (∀ u v, u.ownsRow (startW w).heap.size 9 1 v (lines l).length (strCs (lines l)) → Below (startW w).heap.size (startW w) u → ParseAt w (w.heap.size + 2) l v (St.readAll htmlL endsX 0 St.start (lines l)) 0 St.start (clip (startO w.heap.size) (startW w)) 1 u) := fun u v q1 q2 => by
    refine ⟨((start_good w).clip).below q2, fun g hg => ?_, (start_below w).trans (q2.mono (by omega)), ⟨q1.1, ?_⟩, fun g hg => clip_new (World.ownsRow.lt q1 g hg).1, rfl, Nat.le_refl _, Nat.zero_le _, Nat.zero_le _, fun q hq => ?_⟩
    · rw [clip_old (by omega)]
      exact start_old _ _ hg
    · rcases q1.2 with z | ⟨g, cap, cu, z1, z2, z3⟩
      · exact .inl z
      · exact .inr ⟨g, cap, cu, z1, Nat.zero_le _, z3⟩
    · have : q = .doc { first := 0, last := 0 } := by simpa [St.start] using hq.symm
      rw [this]
      trivial
  go_enter Tryz.func11, Tryz.ntmps11
  go_wp2_with (go_at_call 8; refine (HLi.out _).mono ?_; rintro e u ⟨la, lc, rfl, hl1, hl2⟩; have HP0 := (show Hid _ from HSt.out u _ hl1 hl2); clear hl1 hl2)
  clear HSt HG0 HB0 HLi hW0s
  generalize hr : w.heap.size + 2 = r at *
  go_loopw [17] (fun t wr => ∃ (k : Nat) (s : St) (own : Nat → Nat) (B : Nat), t = .int .i64 (k : Int) ∧ Hid (ParseAt w r l (.slice la (lines l).length lc) (St.readAll htmlL endsX 0 St.start (lines l)) k s own B wr)) (fun t _ => (lines l).length - (intOf t).toNat)
  case atStart => exact ⟨0, St.start, _, 1, rfl, HP0.out⟩
  case round =>
    obtain ⟨k, s, own, B, rfl, HP⟩ := hrel
    by_cases hlt : k < (lines l).length
    · have hlt' : (k : Int) < ((lines l).length : Int) := by omega
      have hk1 : (k : Int) < 1099511627776 := by have := HP.out.num; have := HP.out.bound; omega
      obtain ⟨x, hx⟩ : ∃ x, (lines l)[k]? = some x := ⟨_, List.getElem?_eq_getElem hlt⟩
      have hdr : (lines l).drop k = x :: (lines l).drop (k + 1) := by
        obtain ⟨h1, h2⟩ := List.getElem?_eq_some_iff.1 hx
        rw [List.drop_eq_getElem_cons h1, h2]
      have hbd := HP.out.bound
      rw [hdr] at hbd
      simp only [linesK, lineK] at hbd
      obtain ⟨g, rfl⟩ : ∃ g, la = some ⟨g, 0, none⟩ := by
        rcases HP.out.row.2 with ⟨_, q⟩ | ⟨g, cap, cu, q, _⟩
        · omega
        · cases q; exact ⟨g, rfl⟩
      have hcell := HP.out.row.cells (g := g) rfl k (strV x) (by rw [List.getElem?_map, hx]; rfl)
      have he : (⟨g, 0, none⟩ : Addr).add k = ⟨g, k, none⟩ := by
        unfold Addr.add
        split
        · rename_i q; subst q; rfl
        · simp
      rw [he] at hcell
      have HNew : Hid (Calls Tryz.prog 21 #[.string ⟨x.toArray⟩] wr fun e w' => ∃ c, e = .returned (cptr c) ∧ Calls Tryz.prog 20 #[ptrV r, lnV c k] w' fun e w' => e = .returned (.tuple #[]) ∧ ∃ s2 own2 B2, ParseAt w r l (.slice (some ⟨g, 0, none⟩) (lines l).length lc) (St.readAll htmlL endsX 0 St.start (lines l)) (k + 1) s2 own2 B2 w') := by
        refine (cur.new_at ⟨x.toArray⟩ wr (by rw [size_list]; omega)).mono ?_
        rintro e u ⟨c, rfl, hcl, hcu, hbu⟩
        rw [list_data] at hcu
        refine ⟨c, rfl, ?_⟩
        have hwl := HP.out.below.size
        have hML : MLen u := (hM.below HP.out.below).below hbu
        have h0l := hM.lt
        refine (bread_any (L := 4 * x.length) ((HP.out.good.clip).below hbu) (by simp only [lineK]; omega) hcu (clip_new hcl) HP.out.num (Nat.le_refl _) (by omega) hML (by rw [clip_old (by omega)]; exact HP.out.old 0 h0l) (by omega) HP.out.since).mono ?_
        rintro e w' ⟨rfl, ⟨own2, z1, z2⟩, z3⟩
        have holdg : ∀ g, clip own wr g ≠ 0 ∨ g = c → w.heap.size ≤ g := fun g q => by
          rcases q with q | q
          · rcases Nat.lt_or_ge g w.heap.size with q2 | q2
            · exact absurd (by rw [clip_old (by omega)]; exact HP.out.old g q2) q
            · exact q2
          · omega
        refine ⟨rfl, s.read' k x, own2, B + lineK (4 * x.length), z1, fun g hg => ?_, ?_, ?_, fun g hg => ?_, ?_, ?_, ?_, by omega, z3⟩
        · exact z2.2 g (by have := hbu.size; omega) (by rw [clip_old (by omega)]; exact HP.out.old g hg)
        · exact (HP.out.below.trans (hbu.mono hwl)).trans (Fr.below z2.1 (by have := hbu.size; omega) holdg)
        · refine row_keeps HP.out.row (fun i hi => ?_)
          have hlt2 := (World.ownsRow.lt HP.out.row i hi).2
          rw [z2.1.block i (by have := hbu.size; omega) (fun q => ?_)]
          · exact hbu.block i hlt2
          · rcases q with q | q
            · exact q (by rw [clip_old hlt2]; exact HP.out.rowo i hi)
            · omega
        · have hlt2 := (World.ownsRow.lt HP.out.row g hg).2
          exact z2.2 g (by have := hbu.size; omega) (by rw [clip_old hlt2]; exact HP.out.rowo g hg)
        · have := HP.out.all
          rw [hdr] at this
          exact this
        · simp only [lineK]; omega
        · have := HP.out.num
          simp only [lineK]; omega
      clear hdr hbd he hx
      go_wp2_with (first
        | (go_at_call 21; refine Calls.mono HNew.out ?_; rintro e u2 ⟨c, rfl, hrd⟩; have HRd := (show Hid _ from hrd); clear hrd)
        | (go_at_call 20; refine Calls.mono HRd.out ?_; rintro e u3 ⟨rfl, s2, own2, B2, hp2⟩))
      go_roundw
      case rel => exact ⟨k + 1, s2, own2, B2, by go_num, hp2⟩
      case measure => simp [intOf]; omega
    · have hke : k = (lines l).length := by have := HP.out.len; omega
      have hge : ¬ (k : Int) < ((lines l).length : Int) := by omega
      have hRA : St.readAll htmlL endsX 0 St.start (lines l) = s := by
        have q := HP.out.all
        rw [List.drop_eq_nil_of_le (by omega)] at q
        exact q.symm
      obtain ⟨N, ⟨bs, vo, vd, vm, hR⟩, hW⟩ := HP.out.good
      have hlen1 : 1 ≤ s.opens.length := by
        obtain ⟨y, hy⟩ := hW.doc
        have := (List.getElem?_eq_some_iff.1 hy).1
        omega
      have hbB : B ≤ 549755813888 := by have := HP.out.bound; omega
      have hrw : w.heap.size ≤ r := by omega
      have hG1 : Good (wr.setCell ⟨r, 1, none⟩ (.int .i64 ((1 : Nat) : Int))) r own B { s with on := 1 } := ⟨N, ⟨bs, vo, vd, vm, on_rep hR 1⟩, hW.onTo 1 hlen1⟩
      have hB1 : Below w.heap.size w (wr.setCell ⟨r, 1, none⟩ (.int .i64 ((1 : Nat) : Int))) := below_set HP.out.below hrw
      have HLv : Hid (Calls Tryz.prog 22 #[ptrV r] (wr.setCell ⟨r, 1, none⟩ (.int .i64 1)) fun e u => e = .returned (.tuple #[]) ∧ ∃ (own2 : Nat → Nat) (N2 b : Nat) (bs2 : List Nat) (vo2 vd2 vm2 va : Value) (y : Box), RepR u r own2 N2 bs2 vo2 vd2 vm2 (St.leave { s with on := 1 }) ∧ (St.leave { s with on := 1 }).opens = [.doc y] ∧ bs2[0]? = some b ∧ u.heap[b]? = some (.cells (partCs (.doc y) va).toArray 52 (0, 0)) ∧ KidsV u (fun g => w.heap.size ≤ g) (fun g => w.heap.size ≤ g) va y.kids ∧ u.ownsRow 0 41 3 vd2 (St.leave { s with on := 1 }).defs.length (defCs (St.leave { s with on := 1 }).defs) ∧ (∀ g, vd2.ownBlock = some g → w.heap.size ≤ g) ∧ Below w.heap.size w u) := by
        refine (bleave_any hG1 hbB (Nat.le_refl _)).mono ?_
        rintro e u ⟨rfl, own2, ⟨N2, ⟨bs2, vo2, vd2, vm2, hR2⟩, hW2⟩, hS2⟩
        have hl1 := leave_one _ B N { s with on := 1 } rfl (hW.onTo 1 hlen1) rfl
        obtain ⟨y, hy⟩ := hW2.doc
        have hop : (St.leave { s with on := 1 }).opens = [.doc y] := by
          obtain ⟨a, ha⟩ := List.length_eq_one_iff.1 hl1
          rw [ha] at hy ⊢
          simp at hy
          rw [hy]
        obtain ⟨b, hb, hbo, va, hva, hV⟩ := hR2.at hy
        have hold : ∀ g, g < w.heap.size → own2 g = 0 := fun g hg => hS2.2 g (Nat.lt_of_lt_of_le hg hB1.size) (HP.out.old g hg)
        have hge : ∀ g, own2 g ≠ 0 → w.heap.size ≤ g := fun g q => by
          rcases Nat.lt_or_ge g w.heap.size with q2 | q2
          · exact absurd (hold g q2) q
          · exact q2
        refine ⟨rfl, own2, N2, b, bs2, vo2, vd2, vm2, va, y, hR2, hop, hb, hva, ?_, hR2.defs.1, fun g hg => hge g ?_, hB1.trans (Fr.below hS2.1 hB1.size ?_)⟩
        · exact KidsV.keeps (w := u) (w' := u) hV (fun g (q : own2 g = 2 * 0 + 2) => hge g (by omega)) (fun g (q : own2 g = 2 * 0 + 3) => hge g (by omega)) (fun _ _ _ => rfl) (fun _ _ _ => rfl)
        · have q : own2 g = 1 := hR2.defs.2.1 g hg
          omega
        · intro g q
          rcases Nat.lt_or_ge g w.heap.size with q2 | q2
          · exact absurd (HP.out.old g q2) q
          · exact q2
      have HQ : Hid (parseL l = ((match (St.leave { s with on := 1 }).opens with | .doc b :: _ => b.kids | _ => .nil), (St.leave { s with on := 1 }).defs)) := by
        show _ = _
        unfold parseL St.parse
        rw [hRA]
        rfl
      have r1 := free_blk hR.rd 1
      have q1 := cell_blk hR.rd (i := 1) rfl
      simp only [List.getElem_toArray, List.getElem_cons_zero, List.getElem_cons_succ] at q1
      clear hR hW hG1 hB1 hRA HP0
      generalize St.leave { s with on := 1 } = S at *
      have mt := fun (b : Nat) w => mth_told (.doc { first := 0, last := 0 }) b w
      have ct := fun args w => cf_told (.doc { first := 0, last := 0 }) args w
      simp only [partP, toldF] at mt ct
      go_wp2_with (first
        | (go_at_call 22; refine Calls.mono HLv.out ?_; rintro e u2 ⟨rfl, own2, N2, b, bs2, vo2, vd2, vm2, va, y, hR2, hop, hb2, hva, hkids, hdefs, hdo, hbel⟩; have HIn : Hid (Calls Tryz.prog 23 #[ptrV r] u2 fun e w' => e = .returned (.iface 46 (ptrV b)) ∧ ∃ m, w' = u2.drewN m) := binner_any hR2 (n := 0) (p := .doc y) (by rw [hop]; rfl) (by rw [hop]; rfl) hb2 (by decide); obtain ⟨ka, kc, hkv⟩ : ∃ a c, va = .slice a y.kids.len c := (by obtain ⟨xs, hrow, _⟩ := hkids; obtain ⟨a, c, e, _⟩ := row_slice hrow; exact ⟨a, c, e⟩); subst hkv; have HTo : Hid (∀ m, Calls Tryz.prog 226 #[ptrV b] (u2.drewN m) fun e w' => e = .returned (toldV {} (.slice ka y.kids.len kc) true) ∧ Below u2.heap.size u2 w') := (fun m => (btold_doc (w := u2.drewN m) hva).mono fun e w' q => ⟨q.1, (cur.below_drewN (Below.refl _ u2) m).trans q.2⟩); have HRd := (show Hid _ from hR2.rd); have HKi := (show Hid _ from hkids); have HDe := (show Hid _ from hdefs); have HDo := (show Hid _ from hdo); have HBe := (show Hid _ from hbel); have HOp := (show Hid _ from hop); clear hR2 hop hb2 hva hkids hdefs hdo hbel)
        | (go_at_call 23; refine Calls.mono HIn.out ?_; rintro e u3 ⟨rfl, mm, rfl⟩)
        | (go_at_call 226; refine (HTo.out _).mono ?_; rintro e u4 ⟨rfl, hb4⟩; have HB5 : Hid (Below u2.heap.size u2 (u4.alloc (.cells #[.int .i64 0, .int .i64 0, .string ⟨#[]⟩, .string ⟨#[]⟩, .bool false, .bool false, .int .i64 0, .slice ka y.kids.len kc] 34))) := hb4.alloc hb4.size _; have n7 := cell_blk (new_blk u4 #[.int .i64 0, .int .i64 0, .string ⟨#[]⟩, .string ⟨#[]⟩, .bool false, .bool false, .int .i64 0, .slice ka y.kids.len kc] 34) (i := 7) rfl; have n2 := cell_blk (blk_below HRd.out HB5.out) (i := 2) rfl; simp only [List.getElem_toArray, List.getElem_cons_zero, List.getElem_cons_succ] at n7 n2; clear hb4))
      go_quiet (fail)
      go_wp2
      have hfin : Below u2.heap.size u2 ((u4.alloc (.cells #[.int .i64 0, .int .i64 0, .string ⟨#[]⟩, .string ⟨#[]⟩, .bool false, .bool false, .int .i64 0, .slice ka y.kids.len kc] 34)).drewN nq) := cur.below_drewN HB5.out nq
      go_ret2
      rw [HQ.out, HOp.out]
      exact ⟨_, _, rfl, KidsV.keeps HKi.out (fun _ q => q) (fun _ q => q) (fun g hg _ => hfin.block g hg) (fun g hg _ => hfin.block g hg), row_keeps HDe.out (fun g hg => hfin.block g (World.ownsRow.lt HDe.out g hg).2), HDo.out, HBe.out.trans (hfin.mono HBe.out.size)⟩

end Go.Proofs.YtcbojffcnlkejaaGreatDoor

/- The text that each law reads first, read. -/
namespace Go.Proofs.YtcbojffcnlkejaaGreatDoor

abbrev shownT : Str := [35, 32, 97, 10, 45, 32, 98, 10, 10, 32, 32, 99, 10, 10, 91, 120, 93, 58, 32, 121, 10, 62, 32, 100, 10, 101]
def shownB : Bs := .cons { kind := 4, level := 1, text := [97] } .nil (.cons { kind := 2 } (.cons { kind := 3 } (.cons { kind := 5, text := [98] } .nil (.cons { kind := 5, text := [99] } .nil .nil)) .nil) (.cons { kind := 1 } (.cons { kind := 5, text := [100, 10, 101] } .nil .nil) .nil))
set_option maxRecDepth 100000 in
theorem shown_parse : parseL shownT = (shownB, [([120], [121], [])]) := by
  decide +kernel

end Go.Proofs.YtcbojffcnlkejaaGreatDoor

/- What the laws of this stage show first; walked. -/
namespace Go.Proofs.YtcbojffcnlkejaaGreatDoor
open Go.RowKit

/-- The cells of a row that is not empty. -/
theorem row_at {w : World} {e : TypeId} {z : Nat} {v : Value} {n : Nat} {xs : List Value} (h : w.ownsRow 0 e z v n xs) (hn : 0 < n) : ∃ g cap, v = .slice (some ⟨g, 0, none⟩) n cap ∧ n ≤ cap ∧ ∀ j u, xs[j]? = some u → w.cell? ⟨g, j, none⟩ = some u := by
  rcases h.2 with ⟨_, q⟩ | ⟨g, cap, cu, rfl, _, hg, hnc, _⟩
  · omega
  · refine ⟨g, cap, rfl, hnc, fun j u hu => ?_⟩
    have q := h.cells (g := g) rfl j u hu
    have he : (⟨g, 0, none⟩ : Addr).add j = ⟨g, j, none⟩ := by
      unfold Addr.add
      split
      · rename_i q; subst q; rfl
      · simp
    rwa [he] at q

set_option maxHeartbeats 4000000 in
set_option maxRecDepth 40000 in
theorem bshown_any (w : World) (hM : MLen w) :
    Calls Tryz.prog 7 #[] w fun e w' => e = .returned (.bool true) ∧ Below w.heap.size w w' := by
  have HP := (show Hid _ from bparse_any shownT (by decide) w hM)
  rw [shown_parse] at HP
  go_enter Tryz.func7, Tryz.ntmps7
  go_wp2_with (go_at_call 11; refine Calls.mono HP.out ?_; rintro e u ⟨v1, v2, rfl, hk, hd, _, hb⟩; obtain ⟨xs, hrow, _, hkc⟩ := hk; obtain ⟨a1, b1, c1, rfl, _, _, _, a2, b2, c2, rfl, hr2, _, hk2, a3, b3, c3, rfl, hr3, _, hk3, hc3⟩ := hkc; subst hc3; obtain ⟨i1, j1, l1, rfl, hr4, _, hk4, hl1⟩ := hk2; subst hl1; obtain ⟨i2, j2, l2, rfl, hr5, _, hk5, hl2⟩ := hk3; subst hl2; obtain ⟨g1, p1, rfl, _, q1⟩ := row_at hrow (by decide); obtain ⟨g2, p2, rfl, _, q2⟩ := row_at hr2 (by decide); obtain ⟨g3, p3, rfl, _, q3⟩ := row_at hr3 (by decide); obtain ⟨g4, p4, rfl, _, q4⟩ := row_at hr4 (by decide); obtain ⟨g5, p5, rfl, _, q5⟩ := row_at hd (by decide); have x0 := q1 0 _ rfl; have x2 := q1 2 _ rfl; have x8 := q1 8 _ rfl; have x13 := q1 13 _ rfl; have x15 := q1 15 _ rfl; have x16 := q1 16 _ rfl; have x23 := q1 23 _ rfl; have y7 := q2 7 _ rfl; have z2 := q3 2 _ rfl; have d0 := q5 0 _ rfl; have d1 := q5 1 _ rfl; clear q1 q2 q3 q4 q5 hrow hr2 hr3 hr4 hr5 hd hk4 hk5)
  go_ret
  exact ⟨rfl, hb⟩

end Go.Proofs.YtcbojffcnlkejaaGreatDoor

/- Functions of this stage's laws: short, quoted, spaces; walked. -/
namespace Go.Proofs.YtcbojffcnlkejaaGreatDoor
open Go.RowKit

theorem bshort_any (l : Str) (hs : l.length ≤ 140737488351232) (w : World) :
    Calls Tryz.prog 9 #[strV l] w fun e w' => e = .returned (strV (l.take 4096)) ∧ w' = w := by
  by_cases h : 4096 < l.length
  · have hi : (4096 : Int) < (l.length : Int) := by omega
    have hi2 : (4096 : Int) ≤ (l.length : Int) := by omega
    have hx : (ByteArray.mk l.toArray).extract 0 4096 = ⟨(l.take 4096).toArray⟩ := by
      rw [extract_eq, list_data]
      rfl
    go_enter Tryz.func9, Tryz.ntmps9
    go_wp2
    go_ret
    exact ⟨rfl, rfl⟩
  · have hi : ¬ (4096 : Int) < (l.length : Int) := by omega
    have hx : l.take 4096 = l := List.take_of_length_le (by omega)
    rw [hx]
    go_enter Tryz.func9, Tryz.ntmps9
    go_wp2
    go_ret
    exact ⟨rfl, rfl⟩

/-- Blanks alone. -/
def spacesL (l : Str) : Bool := l.all (· == 32)
/-- No tab in any line. -/
def quotedL (ls : List Str) : Bool := ls.all (fun l => l.all (· != 9))
set_option maxHeartbeats 1000000 in
theorem bquoted_any (ls : List Str) (hs : ls.length ≤ 1099511627776) (hz : ∀ x ∈ ls, x.length ≤ 140737488351232) {v : Value} (w : World) (hrow : w.ownsRow 0 9 1 v ls.length (strCs ls)) :
    Calls Tryz.prog 10 #[v] w fun e w' => e = .returned (.bool (quotedL ls)) ∧ w' = w := by
  obtain ⟨va, vc, rfl, _⟩ := row_slice hrow
  go_enter Tryz.func10, Tryz.ntmps10
  go_wp2
  go_loopw [3] (fun t wr => ∃ k : Nat, t = .int .i64 (k : Int) ∧ k ≤ ls.length ∧ wr = w ∧ Hid (quotedL (ls.drop k) = quotedL ls)) (fun t _ => ls.length - (intOf t).toNat)
  case atStart => exact ⟨0, rfl, Nat.zero_le _, rfl, rfl⟩
  case round =>
    obtain ⟨k, rfl, hk, hw, HS⟩ := hrel
    subst hw
    by_cases hlt : k < ls.length
    · have hlt' : (k : Int) < (ls.length : Int) := by omega
      have hk1 : (k : Int) < 1099511627776 := by omega
      obtain ⟨g, cp, he, _, hcell⟩ := row_at hrow (by omega)
      cases he
      have hd : ls.drop k = ls[k] :: ls.drop (k + 1) := List.drop_eq_getElem_cons hlt
      have hck := hcell k (strV ls[k]) (by rw [List.getElem?_map, List.getElem?_eq_getElem hlt]; rfl)
      have hzk := hz ls[k] (List.getElem_mem hlt)
      have HD : Hid (quotedL (ls.drop k) = (ls[k].all (· != 9) && quotedL (ls.drop (k + 1)))) := by show _ = _; rw [hd]; rfl
      clear hcell hd
      generalize ls[k] = x at *
      go_wp2
      go_loopw [4] (fun t wr2 => ∃ j : Nat, t = .int .i64 (j : Int) ∧ j ≤ x.length ∧ wr2 = wr ∧ Hid ((x.drop j).all (· != 9) = x.all (· != 9))) (fun t _ => x.length - (intOf t).toNat)
      case atStart => exact ⟨0, rfl, Nat.zero_le _, rfl, rfl⟩
      case round =>
        obtain ⟨j, rfl, hj, hw2, HX⟩ := hrel
        subst hw2
        by_cases hjl : j < x.length
        · have hjl' : (j : Int) < (x.length : Int) := by omega
          have hxd : x.drop j = x[j] :: x.drop (j + 1) := List.drop_eq_getElem_cons hjl
          have hsz : j < (ByteArray.mk x.toArray).size := by rw [size_list]; exact hjl
          have hby : (ByteArray.mk x.toArray)[j]'hsz = x[j] := by
            rw [byte_at, list_data, List.getD_eq_getElem?_getD, List.getElem?_eq_getElem hjl]
            rfl
          have HY : Hid ((x.drop j).all (· != 9) = ((x[j] != 9) && (x.drop (j + 1)).all (· != 9))) := by show _ = _; rw [hxd]; rfl
          clear hxd
          by_cases hb : x[j] = 9
          · have hv : (((x[j]).toNat : Int) == 9) = true := by rw [hb]; rfl
            have hv2 : ((x[j]).toNat : Int) = 9 := by rw [hb]; rfl
            have hq : quotedL ls = false := by
              rw [← HS.out, HD.out, ← HX.out, HY.out, hb]
              rfl
            go_wp2
            go_ret
            exact ⟨ret_bool (by first | rfl | rw [hq]), rfl⟩
          · have hne : ¬ (((ByteArray.mk x.toArray)[j]'hsz).toNat : Int) = 9 := by
              rw [hby]
              intro e
              exact hb (UInt8.toNat_inj.1 (by show x[j].toNat = 9; omega))
            have hv : (((x[j]).toNat : Int) == 9) = false := by rw [hby] at hne; simpa using hne
            have hb2 : (x[j] != 9) = true := by simpa using hb
            go_wp2
            go_roundw
            case rel => exact ⟨j + 1, by go_num, by omega, by first | rfl | trivial, by
              have := HX.out
              rw [HY.out, hb2, Bool.true_and] at this
              exact this⟩
            case measure => simp [intOf]; omega
        · have hge : ¬ (j : Int) < (x.length : Int) := by omega
          have hxa : x.all (· != 9) = true := by
            rw [← HX.out, List.drop_eq_nil_of_le (by omega)]
            rfl
          go_wp2
          go_roundw
          case rel => exact ⟨k + 1, by go_num, by omega, by first | rfl | trivial, by
            have := HS.out
            rw [HD.out, hxa, Bool.true_and] at this
            exact this⟩
          case measure => simp [intOf]; omega
    · have hge : ¬ (k : Int) < (ls.length : Int) := by omega
      have hq : quotedL ls = true := by
        rw [← HS.out, List.drop_eq_nil_of_le (by omega)]
        rfl
      go_wp2
      go_ret
      exact ⟨ret_bool (by first | rfl | rw [hq]), rfl⟩

end Go.Proofs.YtcbojffcnlkejaaGreatDoor
