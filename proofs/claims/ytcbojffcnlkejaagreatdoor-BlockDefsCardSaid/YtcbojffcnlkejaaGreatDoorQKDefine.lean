/- Package link: Define; walked. -/
import Derived.Test.YtcbojffcnlkejaaGreatDoorG38
import Derived.Laws.ResultCell
set_option linter.unusedVariables false
namespace Go.Proofs.YtcbojffcnlkejaaGreatDoor.lnk
open Go.RowKit

theorem cell_blk {w : World} {b : Nat} {cs : Array Value} {t : TypeId} (h : w.heap[b]? = some (.cells cs t (0, 0))) {i : Nat} {v : Value} (hi : cs[i]? = some v) : w.cell? ⟨b, i, none⟩ = some v := by
  simp [World.cell?, h, hi]
theorem free_blk {w : World} {b : Nat} {cs : Array Value} {t : TypeId} (h : w.heap[b]? = some (.cells cs t (0, 0))) (i : Nat) : w.frozen? ⟨b, i, none⟩ = false := by
  simp [World.frozen?, h]
theorem lt_of_block {w : World} {b : Nat} {o : Obj} (h : w.heap[b]? = some o) : b < w.heap.size := (Array.getElem?_eq_some_iff.1 h).1
theorem blk_below {w w' : World} {b : Nat} {o : Obj} (h : w.heap[b]? = some o) (hb : Below w.heap.size w w') : w'.heap[b]? = some o := (hb.block b (lt_of_block h)).trans h

theorem set_blk {w : World} {b : Nat} {cs : Array Value} {t : TypeId} (h : w.heap[b]? = some (.cells cs t (0, 0))) (i : Nat) (u : Value) : (w.setCell ⟨b, i, none⟩ u).heap[b]? = some (.cells (cs.setIfInBounds i u) t (0, 0)) := by
  have hlt := lt_of_block h
  have h' : w.heap[b] = .cells cs t (0, 0) := by simpa [Array.getElem?_eq_getElem hlt] using h
  show (w.heap.modify b _)[b]? = _
  rw [Array.getElem?_eq_getElem (by simpa using hlt), Array.getElem_modify_self, h']
  rfl
theorem below_set {B b i : Nat} {w0 w : World} {u : Value} (h : Below B w0 w) (hB : B ≤ b) : Below B w0 (w.setCell ⟨b, i, none⟩ u) :=
  h.trans ⟨rfl, rfl, rfl, by simp [World.setCell], fun k hk => Below.heap_setCell _ _ _ _ (by simp; omega)⟩

/-- A block of three cells, each of which may be written. -/
def Blk3 (w : World) (b : Nat) (t : TypeId) (x y z : Value) : Prop := w.heap[b]? = some (.cells #[x, y, z] t (0, 0))
theorem Blk3.below {w w' : World} {b : Nat} {t : TypeId} {x y z : Value} (h : Blk3 w b t x y z) (hb : Below w.heap.size w w') : Blk3 w' b t x y z := blk_below h hb
theorem Blk3.new (w : World) (t : TypeId) (x y z : Value) : Blk3 (w.alloc (.cells #[x, y, z] t)) w.heap.size t x y z := by
  show (w.heap.push _)[w.heap.size]? = _
  exact Array.getElem?_push_size
theorem Blk3.c0 {w : World} {b : Nat} {t : TypeId} {x y z : Value} (h : Blk3 w b t x y z) : w.cell? ⟨b, 0, none⟩ = some x := cell_blk h rfl
theorem Blk3.c1 {w : World} {b : Nat} {t : TypeId} {x y z : Value} (h : Blk3 w b t x y z) : w.cell? ⟨b, 1, none⟩ = some y := cell_blk h rfl
theorem Blk3.c2 {w : World} {b : Nat} {t : TypeId} {x y z : Value} (h : Blk3 w b t x y z) : w.cell? ⟨b, 2, none⟩ = some z := cell_blk h rfl
theorem Blk3.s0 {w : World} {b : Nat} {t : TypeId} {x y z : Value} (h : Blk3 w b t x y z) (u : Value) : Blk3 (w.setCell ⟨b, 0, none⟩ u) b t u y z := set_blk h 0 u
theorem Blk3.s1 {w : World} {b : Nat} {t : TypeId} {x y z : Value} (h : Blk3 w b t x y z) (u : Value) : Blk3 (w.setCell ⟨b, 1, none⟩ u) b t x u z := set_blk h 1 u
theorem Blk3.s2 {w : World} {b : Nat} {t : TypeId} {x y z : Value} (h : Blk3 w b t x y z) (u : Value) : Blk3 (w.setCell ⟨b, 2, none⟩ u) b t x y u := set_blk h 2 u
theorem Blk3.f {w : World} {b : Nat} {t : TypeId} {x y z : Value} (h : Blk3 w b t x y z) (i : Nat) : w.frozen? ⟨b, i, none⟩ = false := free_blk h i

abbrev defV (q : List UInt8 × List UInt8 × List UInt8) : Value := .agg #[.string ⟨q.1.toArray⟩, .string ⟨q.2.1.toArray⟩, .string ⟨q.2.2.toArray⟩]

theorem def_below {w w1 : World} {o : Obj} (h : Below (w.alloc o).heap.size (w.alloc o) w1) : Below w.heap.size w w1 := ((Below.refl _ _).alloc (Nat.le_refl _) _).trans (h.mono (by simp))

set_option maxHeartbeats 2000000 in
set_option maxRecDepth 8000 in
theorem kdefine_none (s : ByteArray) (hs : s.size ≤ 140737488351232) (v : List UInt8) (h : definedL s.data.toList = (v, 0)) (w : World) :
    Calls Tryz.prog 85 #[.string s] w fun e w' => e = .returned (.tuple #[defV ([], [], []), .int .i64 0]) ∧ Below w.heap.size w w' := by
  have HD := (show Hid _ from fun w => kdefined_at s (by omega) v 0 h w)
  clear h
  go_enter Tryz.func85, Tryz.ntmps85
  go_wp2_with (go_at_call 119; refine (HD.out _).mono ?_; rintro e w1 ⟨rfl, hb1⟩; have hB := (Blk3.new w 41 _ _ _).below hb1; have f0 := hB.f 0; have f1 := hB.f 1; have f2 := hB.f 2; have c0 := hB.c0; have c1 := hB.c1; have c2 := hB.c2)
  (try simp only [Exit.inBlock, Exit.then])
  have hB3 := ((hB.s0 (.string ⟨#[]⟩)).s1 (.string ⟨#[]⟩)).s2 (.string ⟨#[]⟩)
  have d0 := hB3.c0
  have d1 := hB3.c1
  have d2 := hB3.c2
  refine bodyPost_ret (v := .tuple #[defV ([], [], []), .int .i64 0]) ?_ rfl ⟨rfl, ?_⟩
  · rw [results_cell_tmp rfl]
    go_simp
  · exact below_set (below_set (below_set (def_below hb1) (Nat.le_refl _)) (Nat.le_refl _)) (Nat.le_refl _)

theorem def_val {a b c x y z : List UInt8} {n : Int} {m : Nat} (h : Hid (((a, b, c), m) = ((x, y, z), n.toNat))) (hn : 0 ≤ n) : Ending.returned (.tuple #[.agg #[.string ⟨x.toArray⟩, .string ⟨y.toArray⟩, .string ⟨z.toArray⟩], .int .i64 n]) = .returned (.tuple #[defV (a, b, c), .int .i64 (m : Int)]) := by
  have := h.out
  cases this
  rw [Int.toNat_of_nonneg hn]

set_option maxHeartbeats 4000000 in
set_option maxRecDepth 8000 in
theorem kdefine_at (s : ByteArray) (hs : s.size ≤ 140737488351232) (a b c : List UInt8) (m : Nat) (h : Hid (defR s.data.toList = ((a, b, c), m))) (w : World) :
    Calls Tryz.prog 85 #[.string s] w fun e w' => e = .returned (.tuple #[defV (a, b, c), .int .i64 (m : Int)]) ∧ Below w.heap.size w w' := by
  obtain ⟨u, i, hd⟩ : ∃ u i, definedL s.data.toList = (u, i) := ⟨_, _, rfl⟩
  by_cases hi : i = 0
  · subst hi
    have hn : defR s.data.toList = noDef := by unfold defR; rw [defined_zero hd]
    rw [hn] at h
    have h' := h.out
    cases h'
    exact kdefine_none s hs u hd w
  obtain ⟨hil, hu, _⟩ := defined_some hd hi
  have hc := h.out
  rw [def_code hd hi] at hc
  rw [len_data] at hil
  have HD := (show Hid _ from fun w => kdefined_at s (by omega) u i hd w)
  have HF := (show Hid _ from fun w => run.fold_any u w (by omega))
  clear h hd
  obtain ⟨q1, hq1⟩ : ∃ q1, s.extract i s.size = q1 := ⟨_, rfl⟩
  have l1 : q1.data.toList = s.data.toList.drop i := by rw [← hq1, ext_from]
  have z1 : q1.size = s.size - i := by rw [← hq1, ByteArray.size_extract]; omega
  have HG := (show Hid _ from fun w => kgap_any q1 (by omega) w)
  rw [l1] at HG
  have hts : (s.data.toList.drop i).length = s.size - i := by rw [List.length_drop, len_data]
  obtain ⟨p, hp⟩ := gap_suf 0 (s.data.toList.drop i)
  have hpl := congrArg List.length hp
  rw [List.length_append, hts] at hpl
  have hpos : pos q1 (gapL 0 (s.data.toList.drop i)) = p.length := by unfold pos; omega
  rw [hpos] at HG
  rw [hts] at hc
  have l2' : s.data.toList.drop (i + p.length) = gapL 0 (s.data.toList.drop i) := by
    rw [← List.drop_drop]
    conv => lhs; rw [hp]
    exact List.drop_left' rfl
  generalize gapL 0 (s.data.toList.drop i) = g at *
  generalize hj : p.length = j at *
  have hjg : s.size - i - g.length = j := by omega
  rw [hjg] at hc
  obtain ⟨q2, hq2⟩ : ∃ q2, s.extract (i + j) s.size = q2 := ⟨_, rfl⟩
  have l2 : q2.data.toList = g := by rw [← hq2, ext_from, l2']
  have z2 : q2.size ≤ s.size := by rw [← hq2]; exact ext_size ..
  obtain ⟨d, k, hde⟩ : ∃ d k, pairL (destL g) = (d, k) := ⟨_, _, rfl⟩
  have hkg : k ≤ g.length := by
    cases hT : destL g with
    | none => rw [hT] at hde; rw [← (Prod.mk.inj hde).2]; exact Nat.zero_le _
    | some xm => rw [hT] at hde; rw [← (Prod.mk.inj hde).2]; exact (dest_pos hT).2
  have HE := (show Hid _ from fun w => kdest_at q2 (by omega) d k (by omega) (by show _ = _; rw [l2]; exact hde) w)
  rw [hde] at hc
  obtain ⟨q3, hq3⟩ : ∃ q3, s.extract (i + j + k) s.size = q3 := ⟨_, rfl⟩
  have l3 : q3.data.toList = g.drop k := by rw [← hq3, ext_from, ← List.drop_drop, l2']
  have z3 : q3.size ≤ s.size := by rw [← hq3]; exact ext_size ..
  obtain ⟨x, n, f, ht⟩ : ∃ x n f, tailL (g.drop k) = (x, n, f) := ⟨_, _, _, rfl⟩
  have HT := (show Hid _ from fun w => ktail_at q3 (by omega) x n f (by show _ = _; rw [l3]; exact ht) w)
  have hng : n ≤ g.length - k := by have := tail_le (g.drop k); rw [ht, List.length_drop] at this; exact this
  rw [ht] at hc
  have hi0 : ((i : Int) == 0) = false := by rw [beq_eq_false_iff_ne]; omega
  have r1 : (i : Int) ≤ (s.size : Int) := by omega
  have r2 : (i : Int) + (j : Int) ≤ (s.size : Int) := by omega
  have r3 : (i : Int) + (j : Int) + (k : Int) ≤ (s.size : Int) := by omega
  have r4 : (i : Int) + (j : Int) + (k : Int) + (n : Int) ≤ (s.size : Int) := by omega
  clear l1 z1 l2 z2 l3 z3 hde ht hts hp hpl hpos l2' hjg hj hil hkg hng hu hi
  by_cases hk : k = 0
  · have HV : Hid (((a, b, c), m) = ((([] : List UInt8), ([] : List UInt8), ([] : List UInt8)), (0 : Int).toNat)) := by rw [if_pos (.inl hk)] at hc; exact hc.symm
    subst hk
    clear hc
    go_enter Tryz.func85, Tryz.ntmps85
    go_wp2_with (first
      | (go_at_call 119; refine (HD.out _).mono ?_; rintro e w1 ⟨rfl, hb1⟩)
      | (go_at_call 120; refine (HG.out _).mono ?_; rintro e w2 ⟨rfl, hb2⟩)
      | (go_at_call 121; refine (HE.out _).mono ?_; rintro e w3 ⟨rfl, hb3⟩; have hB := (((Blk3.new w 41 (.string ⟨#[]⟩) (.string ⟨#[]⟩) (.string ⟨#[]⟩)).below hb1).below hb2).below hb3; have f0 := hB.f 0; have f1 := hB.f 1; have f2 := hB.f 2; have c0 := hB.c0; have c1 := hB.c1; have c2 := hB.c2))
    (try simp only [Exit.inBlock, Exit.then])
    have hB3 := ((hB.s0 (.string ⟨#[]⟩)).s1 (.string ⟨#[]⟩)).s2 (.string ⟨#[]⟩)
    have d0 := hB3.c0
    have d1 := hB3.c1
    have d2 := hB3.c2
    refine bodyPost_ret (v := .tuple #[.agg #[(.string ⟨#[]⟩), (.string ⟨#[]⟩), (.string ⟨#[]⟩)], .int .i64 (0)]) ?_ rfl ⟨?_, ?_⟩
    · rw [results_cell_tmp rfl]
      go_simp
    · exact def_val HV (Int.le_refl _)
    · exact below_set (below_set (below_set (below_next (below_next (def_below hb1) hb2) hb3) (Nat.le_refl _)) (Nat.le_refl _)) (Nat.le_refl _)
  · have hk0 : ((k : Int) == 0) = false := by rw [beq_eq_false_iff_ne]; omega
    cases f
    · have HV : Hid (((a, b, c), m) = ((([] : List UInt8), ([] : List UInt8), ([] : List UInt8)), (0 : Int).toNat)) := by rw [if_pos (.inr rfl)] at hc; exact hc.symm
      clear hc hk
      go_enter Tryz.func85, Tryz.ntmps85
      go_wp2_with (first
        | (go_at_call 119; refine (HD.out _).mono ?_; rintro e w1 ⟨rfl, hb1⟩)
        | (go_at_call 120; refine (HG.out _).mono ?_; rintro e w2 ⟨rfl, hb2⟩)
        | (go_at_call 121; refine (HE.out _).mono ?_; rintro e w3 ⟨rfl, hb3⟩)
        | (go_at_call 122; refine (HT.out _).mono ?_; rintro e w4 ⟨rfl, hb4⟩; have hB := ((((Blk3.new w 41 (.string ⟨#[]⟩) (.string ⟨#[]⟩) (.string ⟨#[]⟩)).below hb1).below hb2).below hb3).below hb4; have f0 := hB.f 0; have f1 := hB.f 1; have f2 := hB.f 2; have c0 := hB.c0; have c1 := hB.c1; have c2 := hB.c2))
      (try simp only [Exit.inBlock, Exit.then])
      have hB3 := ((hB.s0 (.string ⟨#[]⟩)).s1 (.string ⟨#[]⟩)).s2 (.string ⟨#[]⟩)
      have d0 := hB3.c0
      have d1 := hB3.c1
      have d2 := hB3.c2
      refine bodyPost_ret (v := .tuple #[.agg #[(.string ⟨#[]⟩), (.string ⟨#[]⟩), (.string ⟨#[]⟩)], .int .i64 (0)]) ?_ rfl ⟨?_, ?_⟩
      · rw [results_cell_tmp rfl]
        go_simp
      · exact def_val HV (Int.le_refl _)
      · exact below_set (below_set (below_set (below_next (below_next (below_next (def_below hb1) hb2) hb3) hb4) (Nat.le_refl _)) (Nat.le_refl _)) (Nat.le_refl _)
    · have HV : Hid (((a, b, c), m) = ((fold u, d, x), ((i : Int) + (j : Int) + (k : Int) + (n : Int)).toNat)) := by
        rw [if_neg (by rintro (y | y); exact hk y; cases y)] at hc
        show _ = _
        rw [← hc]
        congr 1
      clear hc hk
      go_enter Tryz.func85, Tryz.ntmps85
      go_wp2_with (first
        | (go_at_call 119; refine (HD.out _).mono ?_; rintro e w1 ⟨rfl, hb1⟩)
        | (go_at_call 120; refine (HG.out _).mono ?_; rintro e w2 ⟨rfl, hb2⟩)
        | (go_at_call 121; refine (HE.out _).mono ?_; rintro e w3 ⟨rfl, hb3⟩)
        | (go_at_call 122; refine (HT.out _).mono ?_; rintro e w4 ⟨rfl, hb4⟩)
        | (go_at_call 123; refine (HF.out _).mono ?_; rintro e w5 ⟨rfl, hb5⟩; have hB := (((((Blk3.new w 41 (.string ⟨#[]⟩) (.string ⟨#[]⟩) (.string ⟨#[]⟩)).below hb1).below hb2).below hb3).below hb4).below hb5; have f0 := hB.f 0; have f1 := hB.f 1; have f2 := hB.f 2; have c0 := hB.c0; have c1 := hB.c1; have c2 := hB.c2))
      (try simp only [Exit.inBlock, Exit.then])
      have hB3 := ((hB.s0 (.string ⟨(fold u).toArray⟩)).s1 (.string ⟨d.toArray⟩)).s2 (.string ⟨x.toArray⟩)
      have d0 := hB3.c0
      have d1 := hB3.c1
      have d2 := hB3.c2
      refine bodyPost_ret (v := .tuple #[.agg #[(.string ⟨(fold u).toArray⟩), (.string ⟨d.toArray⟩), (.string ⟨x.toArray⟩)], .int .i64 ((i : Int) + (j : Int) + (k : Int) + (n : Int))]) ?_ rfl ⟨?_, ?_⟩
      · rw [results_cell_tmp rfl]
        go_simp
      · exact def_val HV (by omega)
      · exact below_set (below_set (below_set (below_next (below_next (below_next (below_next (def_below hb1) hb2) hb3) hb4) hb5) (Nat.le_refl _)) (Nat.le_refl _)) (Nat.le_refl _)

end Go.Proofs.YtcbojffcnlkejaaGreatDoor.lnk
