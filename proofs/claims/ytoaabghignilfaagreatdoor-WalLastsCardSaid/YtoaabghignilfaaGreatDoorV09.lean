/- Several texts in one. -/
import Derived.Test.YtoaabghignilfaaGreatDoorVStr
import Derived.Test.YtoaabghignilfaaGreatDoorV08
set_option linter.unusedVariables false
/- A log, and a row of texts of a law's own beside it. -/
namespace Go.Proofs.YtoaabghignilfaaGreatDoor
open Go.RowKit

theorem info_str : (Tryz.prog.info? 9).map (fun i => (i.zero, i.size, i.bytes)) = some (some (.string ⟨#[]⟩), 1, 16) := by kernel_rfl
structure AlS (w0 : World) (b m p : Nat) (d : Dk) (L : List Sg) (v : Value) (xs : List Nm) (w : World) : Prop where
  lg : LgS w0 b m p d L (fun k => v.ownBlock = some k) w
  own : OwnS w w0.heap.size v xs
theorem AlS.kps {w0 : World} {b m p p' : Nat} {d d' : Dk} {L L' : List Sg} {v : Value} {xs : List Nm} {w w' : World} (h : AlS w0 b m p d L v xs w) (hl : LgS w0 b m p' d' L' (fun k => v.ownBlock = some k) w') (hk : Kps (fun k => v.ownBlock = some k) w w') : AlS w0 b m p' d' L' v xs w' := ⟨hl, h.own.keep (fun g hg => hk.2 g hg)⟩
theorem AlS.below {w0 : World} {b m p : Nat} {d : Dk} {L : List Sg} {v : Value} {xs : List Nm} {w w' : World} (h : AlS w0 b m p d L v xs w) (hb : Below w.heap.size w w') : AlS w0 b m p d L v xs w' :=
  h.kps (h.lg.same hb).1 (h.lg.same hb).2
/-- A text more. -/
def PushedS (w : World) (v : Value) (xs : List Nm) (x : Nm) (B : Nat) (vo : Value) (w2 : World) : Prop := OwnS w2 B vo (xs ++ [x]) ∧ w.grownBy w2 v.ownBlock ∧ ∀ g, vo.ownBlock = some g → v.ownBlock = some g ∨ w.heap.size ≤ g
theorem append_text {w : World} {B : Nat} {v : Value} {xs : List Nm} (h : OwnS w B v xs) (hB : B ≤ w.heap.size) (y : Addr) (c : Nat) (x : Nm) (hx : w.cell? y = some (strN x)) (hl : xs.length + 1 ≤ 1048577) (ty : TypeId) :
    ∃ vo w2, (Builtin.append_ #[46, 46] ty #[v, .slice (some y) 1 c]).run Tryz.prog w = .ok vo w2 ∧ PushedS w v xs x B vo w2 := by
  obtain ⟨i0, hi, hz0, hz1, hz2⟩ := info_parts info_str
  obtain ⟨vo, w2, hr, h4, h5, _, h6⟩ := run_append_own_at (P := Tryz.prog) w B 46 ty 9 i0 (.string ⟨#[]⟩) 1 16 Tryz.underlying46 hi hz0 hz1 hz2 rfl (by decide) v xs.length (nmCells xs) h y 1 c [strN x] rfl
    (by
      intro j u hj
      have hj0 : j = 0 := by
        have := (List.getElem?_eq_some_iff.1 hj).1
        simpa using this
      subst hj0
      simp at hj
      rw [← hj, Addr.add_zero']
      exact hx)
    (by intro u hu; simp at hu; rw [hu]; rfl) (by unfold maxLen; omega) (by omega) hB
  refine ⟨vo, w2, hr, ?_, h5, ?_⟩
  · show w2.ownsRow _ _ _ _ (xs ++ [x]).length _
    rw [List.length_append, (show nmCells (xs ++ [x]) = nmCells xs ++ [strN x] from List.map_append)]
    exact h4
  · intro g hg
    rcases h6 with e | e
    · exact .inl (e ▸ hg)
    · rw [e] at hg
      exact .inr (by have := Option.some.inj hg; omega)
theorem AlS.push {w0 : World} {b m p : Nat} {d : Dk} {L : List Sg} {v vo : Value} {xs : List Nm} {x : Nm} {w w2 : World} (h : AlS w0 b m p d L v xs w) (hp : PushedS w v xs x w0.heap.size vo w2) : AlS w0 b m p d L vo (xs ++ [x]) w2 := by
  obtain ⟨h1, h2, h3⟩ := hp
  refine ⟨h.lg.own (G' := fun k => vo.ownBlock = some k) ⟨h2.os, h2.tape, h2.output, h2.size, fun k hk hn => h2.block k hk (fun e => hn e.symm)⟩ (fun k hk => (h.own.lt hk).1) (fun k hk => ⟨(h1.lt hk).2, h3 k hk⟩), h1⟩
/-- The first texts. -/
theorem ownS_take {w : World} {B : Nat} {a : Option Addr} {n c : Nat} {xs : List Nm} (h : OwnS w B (.slice a n c) xs) (k : Nat) (hk : k ≤ xs.length) (hne : xs ≠ []) : OwnS w B (.slice a k c) (xs.take k) := by
  have hl : (xs.take k).length = k := by rw [List.length_take]; omega
  rcases h.2 with ⟨_, h0⟩ | ⟨g, cap, cur, hv, hB, hg, h1, h2, h3, h4⟩
  · exact absurd (List.eq_nil_of_length_eq_zero h0) hne
  · have ea : a = some ⟨g, 0, none⟩ := congrArg (fun v => match v with | Value.slice a _ _ => a | _ => a) hv
    have ec : c = cap := congrArg (fun v => match v with | Value.slice _ _ c => c | _ => c) hv
    subst ea ec
    refine ⟨by simp [nmCells], .inr ⟨g, c, cur, by rw [hl], hB, hg, by omega, h2, h3, ?_⟩⟩
    rw [hl]
    have e1 : nmCells (xs.take k) = (nmCells xs).take k := by simp [nmCells, List.map_take]
    rw [e1, ← h4, List.take_take, Nat.mul_one, Nat.mul_one, Nat.min_eq_left hk]
theorem AlS.cut {w0 : World} {b m p : Nat} {d : Dk} {L : List Sg} {a : Option Addr} {n c : Nat} {xs : List Nm} {w : World} (h : AlS w0 b m p d L (.slice a n c) xs w) (k : Nat) (hk : k ≤ xs.length) (hne : xs ≠ []) : AlS w0 b m p d L (.slice a k c) (xs.take k) w := by
  obtain ⟨S, T, vs, q, h1, h2, h3⟩ := h.lg
  exact ⟨⟨S, T, vs, q, h1, h2, fun j hj => h3 j (ob_same hj)⟩, ownS_take h.own k hk hne⟩
end Go.Proofs.YtoaabghignilfaaGreatDoor

/- A log whose disk's power may fail, beside a row of texts: the calls. -/
namespace Go.Proofs.YtoaabghignilfaaGreatDoor
open Go.RowKit

/-- What there is: the records xs, in the log and in the row v; so many are sure. -/
def LaS (w0 : World) (b m p S : Nat) (v : Value) (xs : List Nm) (n : Nat) (R : Recs) (w : World) : Prop :=
  ∃ d G g la, AlS w0 b m p d ((G ++ [g]).map gSg) v xs w ∧ StrL d G g la ∧ Sure G g la S ∧ d.room = 1099511627776 ∧ headN (G ++ [g]) = 1 ∧ allR (G ++ [g]) = R ∧ bulks (G ++ [g]) ≤ n * 8200 ∧ (G ++ [g]).length ≤ n + 1
/-- Power failed: of the records R a beginning lasts, of at least S. -/
def LaF (w0 : World) (b m S : Nat) (v : Value) (xs : List Nm) (n : Nat) (R : Recs) (w : World) : Prop :=
  ∃ d G g s, DkS w0 b m d (fun k => v.ownBlock = some k) w ∧ OwnS w w0.heap.size v xs ∧ Fallen d G g s ∧ Sure G g s.length S ∧ d.room = 1099511627776 ∧ headN (G ++ [g]) = 1 ∧ allR (G ++ [g]) <+: R ∧ bulks (G ++ [g]) ≤ n * 8200 ∧ (G ++ [g]).length ≤ n + 1

theorem StrL.next {d : Dk} {G : Gs} {g : Nat × Recs} {la : Nat} (h : StrL d G g la) (h1 : headN (G ++ [g]) = 1) : g.1 + g.2.length = 1 + (allR (G ++ [g])).length := by
  have := chain_next h.chain
  omega
theorem laApp {w0 : World} {b m p S n : Nat} {v : Value} {xs : List Nm} {R : Recs} {w : World} (h : LaS w0 b m p S v xs n R w) {a : Option Addr} {ln c : Nat} {l : Rec} (hrow : ∀ w', Below w0.heap.size w0 w' → BRow w' a ln c l) (hln : l.length = ln) (hl : ln ≤ 8192) (hn : n ≤ 100) (hR : R.length ≤ 100) :
    Calls Tryz.prog 18 #[dptr p, .slice a ln c] w fun e w' => (e = .returned (.int .i64 0) ∧ LaS w0 b m p S v xs (n + 1) (R ++ [l]) w') ∨ (e = .returned (.int .i64 13) ∧ LaF w0 b m S v xs (n + 1) (R ++ [l]) w') := by
  obtain ⟨d, G, g, la, g1, g2, g3, g4, g5, g6, g7, g8⟩ := h
  have hnx := g2.next g5
  rw [g6] at hnx
  obtain ⟨u1, u2⟩ := g2.used
  have hb : n * 8200 ≤ 100 * 8200 := Nat.mul_le_mul_right _ hn
  have hA := appG g1.lg (by simp) (fun w' _ hb' => hrow w' hb') (by omega) (by rw [lastS_gs, gSg_next]; omega) (by rw [List.length_map]; omega) (by rw [u1]; omega) (by rw [u2]; omega)
  have hbu := bulks_addG G g l
  have hal := allR_addG G g l
  have hhd := headN_addG G g l
  have hle := addG_len G g l
  refine hA.mono fun e w' r => ?_
  rcases g2.app g3 (l := l) (by omega) (by omega) (by rw [u1, g4]; omega) (by rw [u1]; omega) (by rw [u2]; omega) with ⟨d', G', g', la', q1, q2, q3, q4, q5⟩ | ⟨d', L', G', g', s, q1, q2, q3, q4, q5⟩
  · rw [q1] at r
    left
    rw [← q4] at hbu hal hhd hle
    exact ⟨r.1, d', G', g', la', g1.kps r.2.1 r.2.2, q2, q3, by rw [q5]; exact g4, by rw [hhd]; exact g5, by rw [hal, g6], by rw [hbu]; omega, by omega⟩
  · rw [q1] at r
    right
    refine ⟨r.1, d', G', g', s, r.2.1.dk, g1.own.keep (fun k hk => r.2.2.2 k hk), q2, q3, by rw [q5]; exact g4, ?_⟩
    rcases q4 with q4 | q4
    · rw [q4]
      have hz : bulks (G ++ [g]) ≤ (n + 1) * 8200 := Nat.le_trans g7 (Nat.mul_le_mul_right _ (by omega))
      exact ⟨g5, by rw [g6]; exact List.prefix_append R [l], hz, by omega⟩
    · rw [q4]
      exact ⟨by rw [hhd]; exact g5, by rw [hal, g6]; exact List.prefix_refl _, by rw [hbu]; omega, by omega⟩
theorem laSync {w0 : World} {b m p S n : Nat} {v : Value} {xs : List Nm} {R : Recs} {w : World} (h : LaS w0 b m p S v xs n R w) :
    Calls Tryz.prog 19 #[dptr p] w fun e w' => (e = .returned (.int .i64 0) ∧ LaS w0 b m p R.length v xs n R w') ∨ (e = .returned (.int .i64 13) ∧ LaF w0 b m S v xs n R w') := by
  obtain ⟨d, G, g, la, g1, g2, g3, g4, g5, g6, g7, g8⟩ := h
  have hlg := g1.lg
  rw [List.map_append] at hlg
  refine (syncG (s := gSg g) (L := G.map gSg) hlg).mono fun e w' r => ?_
  have hnum : (gSg g).num = g.1 := rfl
  rw [hnum] at r
  rcases g2.sync with ⟨d', c1, c2, c3, _⟩ | ⟨d', s, c1, c2, c3, c4⟩
  · rw [c1] at r
    left
    have hl2 := r.2.1
    have e2 : G.map gSg ++ [gSg g] = (G ++ [g]).map gSg := by rw [List.map_append]; rfl
    rw [e2] at hl2
    refine ⟨r.1, d', G, g, bulk g.2, g1.kps hl2 r.2.2, c2, ?_, by rw [c3]; exact g4, g5, g6, g7, g8⟩
    have := Sure.all G g
    rw [← g6, show allR (G ++ [g]) = allR G ++ g.2 by simp [allR], List.length_append]
    exact this
  · rw [c1] at r
    right
    exact ⟨r.1, d', G, g, s, r.2.1.dk, g1.own.keep (fun k hk => r.2.2.2 k hk), c2, g3.mono c3, by rw [c4]; exact g4, g5, by rw [g6]; exact List.prefix_refl _, g7, g8⟩
/-- Started, and opened: a beginning of the records, of at least so many as were sure; all of it lasts. -/
theorem laStart {w0 : World} {b m S n : Nat} {v : Value} {xs : List Nm} {R : Recs} {w : World} (h : LaF w0 b m S v xs n R w) : Calls Tryz.prog 21 #[dptr b] w fun e w' => e = .returned (.tuple #[]) ∧ ∃ d G g s, DkS w0 b m (startD d) (fun k => v.ownBlock = some k) w' ∧ OwnS w' w0.heap.size v xs ∧ Fallen d G g s ∧ Sure G g s.length S ∧ d.room = 1099511627776 ∧ headN (G ++ [g]) = 1 ∧ allR (G ++ [g]) <+: R ∧ bulks (G ++ [g]) ≤ n * 8200 ∧ (G ++ [g]).length ≤ n + 1 := by
  obtain ⟨d, G, g, s, g1, g2, g3, g4, g5, g6, g7, g8, g9⟩ := h
  exact (startG g1).mono fun e w' r => ⟨r.1, d, G, g, s, r.2.1, g2.keep (fun k hk => r.2.2.2 k hk), g3, g4, g5, g6, g7, g8, g9⟩
def LaI (w0 : World) (b m p S : Nat) (v : Value) (xs : List Nm) (n : Nat) (R : Recs) (w : World) : Prop :=
  ∃ d G g la, AlS w0 b m p d ((G ++ [g]).map gSg) v xs w ∧ StrL d G g la ∧ Sure G g la S ∧ d.room = 1099511627776 ∧ headN (G ++ [g]) = 1 ∧ allR (G ++ [g]) = R ∧ bulks (G ++ [g]) ≤ n * 8200 ∧ (G ++ [g]).length ≤ n + 1 ∧ d.ahead < 0
theorem laOpen {w0 : World} {b m S n : Nat} {v : Value} {xs : List Nm} {R : Recs} {w : World} {d : Dk} {G : Gs} {g : Nat × Recs} {s : List UInt8} (ht : Tabs w0) (g1 : DkS w0 b m (startD d) (fun k => v.ownBlock = some k) w) (g2 : OwnS w w0.heap.size v xs) (g3 : Fallen d G g s) (g4 : Sure G g s.length S) (g5 : d.room = 1099511627776) (g6 : headN (G ++ [g]) = 1) (g7 : allR (G ++ [g]) <+: R) (g8 : bulks (G ++ [g]) ≤ n * 8200) (g9 : (G ++ [g]).length ≤ n + 1) (hn : n ≤ 100) :
    Calls Tryz.prog 16 #[dptr b] w fun e w' => ∃ p R', e = .returned (.tuple #[dptr p, .int .i64 0]) ∧ R' <+: R ∧ S ≤ R'.length ∧ LaI w0 b m p R'.length v xs n R' w' := by
  obtain ⟨k, d', k1, k2, k3, k4, k5, k6⟩ := g3.open
  have hb : n * 8200 ≤ 100 * 8200 := Nat.mul_le_mul_right _ hn
  have hE : Held (startD d) (G.map gFile ++ (nameL g.1, s) :: []) := ⟨{ rises := g3.ok.rises, lasts := g3.ok.lasts, fits := g3.ok.fits, room := g3.ok.room, ahead := (by show (-1 : Int) ≤ -1 ∧ (-1 : Int) ≤ _; omega), keep := g3.ok.keep, few := g3.ok.few, small := g3.ok.small }, rfl, (by show (-1 : Int) < 0; omega), by
    show fnB d.files = _
    rw [g3.files]
    unfold fnB
    rw [List.map_append]
    have := fnB_lFile G
    unfold fnB at this
    rw [this]
    rfl⟩
  have hsl : s.length ≤ bulk g.2 := by have := g3.pre.length_le; rwa [framesL_length] at this
  have hbl : bulks (G ++ [g]) = bulks G + bulk g.2 := by rw [bulks_append, bulks_one]
  have hus : usedL d.files ≤ bulks (G ++ [g]) := by
    rw [usedL_fnB]
    have := hE.files
    have h2 : fnB d.files = G.map gFile ++ (nameL g.1, s) :: [] := this
    rw [h2, List.map_append, List.sum_append, hbl]
    have h3 : ((G.map gFile).map fun p => p.2.length).sum = bulks G := by
      unfold bulks
      rw [List.map_map]
      congr 1
      apply List.map_congr_left
      intro x _
      simp [gFile, framesL_length]
    rw [h3]
    simp
    exact hsl
  have hcnt : d.files.length = (G ++ [g]).length := by rw [g3.files]; simp
  refine (openG g1 ht (fun x hx => ?_) (by show usedL d.files ≤ _; omega) (by show d.files.length + 1 ≤ _; omega) k3).mono fun e w' r => ?_
  · have hx2 : x.1 ∈ d.files.map (·.1) := List.mem_map_of_mem hx
    rw [g3.files, List.map_append] at hx2
    rcases List.mem_append.1 hx2 with hx2 | hx2
    · obtain ⟨y, hy, he⟩ := List.mem_map.1 hx2
      obtain ⟨z, _, rfl⟩ := List.mem_map.1 hy
      rw [← he]
      show (nameL z.1).length ≤ _
      rw [nameL_length]; omega
    · simp at hx2
      rw [hx2, nameL_length]; omega
  · obtain ⟨p, r1, r2, r3⟩ := r
    have hap : allR (G ++ [(g.1, g.2.take k)]) = allR G ++ g.2.take k := by simp [allR]
    have hag : allR (G ++ [g]) = allR G ++ g.2 := by simp [allR]
    have htk : (g.2.take k).length = k := by rw [List.length_take]; omega
    have hpre : allR G ++ g.2.take k <+: R := by
      rw [hag] at g7
      refine List.IsPrefix.trans ?_ g7
      exact (List.prefix_append_right_inj (allR G)).2 (List.take_prefix k g.2)
    obtain ⟨j, j1, j2, j3⟩ := g4
    have hjk := k2 j j1 j2
    refine ⟨p, allR G ++ g.2.take k, r1, hpre, by rw [List.length_append, htk]; omega, d', G, (g.1, g.2.take k), bulk (g.2.take k), ⟨r2, g2.keep (fun q hq => r3.2 q hq)⟩, k4, ?_, by rw [k5]; exact g5, ?_, hap, ?_, by simpa using g9, k6⟩
    · have := Sure.all G (g.1, g.2.take k)
      rw [List.length_append]
      exact this
    · cases G with
      | nil => exact g6
      | cons x G => exact g6
    · rw [bulks_append, bulks_one]
      have := bulk_take_le g.2 k
      show bulks G + bulk (g.2.take k) ≤ _
      omega

/-! ### behind an Open: the disk is not armed -/
theorem LaI.la {w0 : World} {b m p S n : Nat} {v : Value} {xs : List Nm} {R : Recs} {w : World} (h : LaI w0 b m p S v xs n R w) : LaS w0 b m p S v xs n R w := by
  obtain ⟨d, G, g, la, g1, g2, g3, g4, g5, g6, g7, g8, g9⟩ := h
  exact ⟨d, G, g, la, g1, g2, g3, g4, g5, g6, g7, g8⟩
theorem StrL.str {d : Dk} {G : Gs} {g : Nat × Recs} {la : Nat} (h : StrL d G g la) (hid : d.ahead < 0) : Str d (G ++ [g]) := by
  refine { ok := h.ok, up := h.up, idle := hid, files := ?_, chain := h.chain, ne := by simp, small := h.small, num := fun x hx => by have := h.num x hx; omega }
  rw [h.files]
  unfold fnB
  rw [List.map_append, List.map_append]
  have := fnB_lFile G
  unfold fnB at this
  rw [this]
  rfl
theorem laLast {w0 : World} {b m p S n : Nat} {v : Value} {xs : List Nm} {R : Recs} {w : World} (h : LaS w0 b m p S v xs n R w) : Calls Tryz.prog 23 #[dptr p] w fun e w' => e = .returned (.int .i64 (R.length : Int)) ∧ LaS w0 b m p S v xs n R w' ∧ Below w.heap.size w w' := by
  obtain ⟨d, G, g, la, g1, g2, g3, g4, g5, g6, g7, g8⟩ := h
  have hnx := g2.next g5
  rw [g6] at hnx
  obtain ⟨S', T, vs, q, h1, h2, h3⟩ := g1.lg
  have h2' : q.map (·.1) = G.map gSg ++ [gSg g] := by rw [h2, List.map_append]; rfl
  obtain ⟨q', y, rfl, h4, h5⟩ := snoc_of h2'
  refine (lastn_any h1.lg).mono fun e w' r => ⟨?_, ⟨d, G, g, la, g1.below r.2, g2, g3, g4, g5, g6, g7, g8⟩, r.2⟩
  rw [r.1, h5, gSg_next, hnx]
  congr 2
  omega
theorem LaI.below {w0 : World} {b m p S n : Nat} {v : Value} {xs : List Nm} {R : Recs} {w w' : World} (h : LaI w0 b m p S v xs n R w) (hb : Below w.heap.size w w') : LaI w0 b m p S v xs n R w' := by
  obtain ⟨d, G, g, la, g1, g2, g3, g4, g5, g6, g7, g8, g9⟩ := h
  exact ⟨d, G, g, la, g1.below hb, g2, g3, g4, g5, g6, g7, g8, g9⟩
theorem laFirst {w0 : World} {b m p S n : Nat} {v : Value} {xs : List Nm} {R : Recs} {w : World} (h : LaS w0 b m p S v xs n R w) : Calls Tryz.prog 22 #[dptr p] w fun e w' => e = .returned (.int .i64 1) ∧ w' = w := by
  obtain ⟨d, G, g, la, g1, g2, g3, g4, g5, g6, g7, g8⟩ := h
  obtain ⟨x, r, hx⟩ : ∃ x r, G ++ [g] = x :: r := by
    cases hG : G ++ [g] with
    | nil => simp at hG
    | cons x r => exact ⟨x, r, rfl⟩
  have hlg := g1.lg
  rw [hx] at hlg g5
  refine (firstG (s := gSg x) (L := r.map gSg) hlg).mono fun e w' q => ⟨?_, q.2⟩
  have e1 : x.1 = 1 := g5
  rw [q.1, show (gSg x).num = x.1 from rfl, e1]
  rfl
theorem laGet {w0 : World} {b m p S n : Nat} {v : Value} {xs : List Nm} {R : Recs} {w : World} (h : LaI w0 b m p S v xs n R w) (hn : n ≤ 100) (i : Nat) (h1 : 1 ≤ i) (h2 : i ≤ R.length) : Calls Tryz.prog 24 #[dptr p, .int .i64 (i : Int)] w fun e w' => ∃ a c r, R[i - 1]? = some r ∧ e = .returned (.tuple #[.slice a r.length c, .int .i64 0]) ∧ BRow w' a r.length c r ∧ Below w.heap.size w w' := by
  obtain ⟨d, G, g, la, g1, g2, g3, g4, g5, g6, g7, g8, g9⟩ := h
  have hb : n * 8200 ≤ 100 * 8200 := Nat.mul_le_mul_right _ hn
  have := strGet g1.lg.weak (g2.str g9) i (by rw [g5]; exact h1) (by rw [g5, g6]; omega) (by omega)
  rw [g5, g6] at this
  exact this
theorem laSyncI {w0 : World} {b m p S n : Nat} {v : Value} {xs : List Nm} {R : Recs} {w : World} (h : LaI w0 b m p S v xs n R w) : Calls Tryz.prog 19 #[dptr p] w fun e w' => e = .returned (.int .i64 0) ∧ LaS w0 b m p R.length v xs n R w' := by
  obtain ⟨d, G, g, la, g1, g2, g3, g4, g5, g6, g7, g8, g9⟩ := h
  have hlg := g1.lg
  rw [List.map_append] at hlg
  refine (syncG (s := gSg g) (L := G.map gSg) hlg).mono fun e w' r => ?_
  have hnum : (gSg g).num = g.1 := rfl
  rw [hnum] at r
  rcases g2.sync with ⟨d', c1, c2, c3, _⟩ | ⟨d', s, c1, c2, c3, c4⟩
  · rw [c1] at r
    have hl2 := r.2.1
    have e2 : G.map gSg ++ [gSg g] = (G ++ [g]).map gSg := by rw [List.map_append]; rfl
    rw [e2] at hl2
    refine ⟨r.1, d', G, g, bulk g.2, g1.kps hl2 r.2.2, c2, ?_, by rw [c3]; exact g4, g5, g6, g7, g8⟩
    have := Sure.all G g
    rw [← g6, show allR (G ++ [g]) = allR G ++ g.2 by simp [allR], List.length_append]
    exact this
  · obtain ⟨f1, _⟩ := g2.find
    rw [sync_idle f1 g9] at c1
    cases c1
end Go.Proofs.YtoaabghignilfaaGreatDoor

/- A log whose disk's power may fail, beside a row of texts: the disk is armed, a text more, a row cut. -/
namespace Go.Proofs.YtoaabghignilfaaGreatDoor
open Go.RowKit

theorem StrL.arm {d : Dk} {G : Gs} {g : Nat × Recs} {la : Nat} (h : StrL d G g la) (after : Int) (ha : after ≤ 9223372036854775807) (keep : Nat) (hk : keep < 18446744073709551616) : StrL (armD d after keep) G g la ∧ (armD d after keep).room = d.room := by
  unfold armD
  rw [if_pos h.up]
  refine ⟨{ ok := { rises := h.ok.rises, lasts := h.ok.lasts, fits := h.ok.fits, room := h.ok.room, ahead := ?_, keep := hk, few := h.ok.few, small := h.ok.small }, up := h.up, files := h.files, chain := h.chain, small := h.small, num := h.num, lasts := h.lasts }, rfl⟩
  show (-1 : Int) ≤ (if after < -1 then -1 else after) ∧ (if after < -1 then -1 else after) ≤ (9223372036854775807 : Int)
  split <;> omega
theorem laArm {w0 : World} {b m p S n : Nat} {v : Value} {xs : List Nm} {R : Recs} {w : World} (h : LaS w0 b m p S v xs n R w) (after : Int) (ha : -9223372036854775808 ≤ after ∧ after ≤ 9223372036854775807) (keep : Nat) (hk : keep < 18446744073709551616) :
    Calls Tryz.prog 17 #[dptr b, .int .i64 after, .int .u64 (keep : Int)] w fun e w' => e = .returned (.tuple #[]) ∧ LaS w0 b m p S v xs n R w' := by
  obtain ⟨d, G, g, la, g1, g2, g3, g4, g5, g6, g7, g8⟩ := h
  obtain ⟨a1, a2⟩ := g2.arm after ha.2 keep hk
  exact (armG g1.lg after ha keep hk).mono fun e w' r => ⟨r.1, _, G, g, la, g1.kps r.2.1 r.2.2, a1, g3, by rw [a2]; exact g4, g5, g6, g7, g8⟩
theorem laUp {w0 : World} {b m S n : Nat} {v : Value} {xs : List Nm} {R : Recs} {w : World} (h : LaF w0 b m S v xs n R w) : Calls Tryz.prog 20 #[dptr b] w fun e w' => e = .returned (.bool false) ∧ w' = w := by
  obtain ⟨d, G, g, s, g1, g2, g3, g4, g5, g6, g7, g8, g9⟩ := h
  refine (dupG g1).mono fun e w' r => ?_
  rw [g3.off] at r
  exact r
theorem LaS.bel {w0 : World} {b m p S n : Nat} {v : Value} {xs : List Nm} {R : Recs} {w : World} (h : LaS w0 b m p S v xs n R w) : Below w0.heap.size w0 w := by
  obtain ⟨d, G, g, la, g1, g2⟩ := h
  exact g1.lg.bel
theorem LaF.bel {w0 : World} {b m S n : Nat} {v : Value} {xs : List Nm} {R : Recs} {w : World} (h : LaF w0 b m S v xs n R w) : Below w0.heap.size w0 w := by
  obtain ⟨d, G, g, s, g1, g2⟩ := h
  exact g1.bel
theorem LaS.below {w0 : World} {b m p S n : Nat} {v : Value} {xs : List Nm} {R : Recs} {w w' : World} (h : LaS w0 b m p S v xs n R w) (hb : Below w.heap.size w w') : LaS w0 b m p S v xs n R w' := by
  obtain ⟨d, G, g, la, g1, g2, g3, g4, g5, g6, g7, g8⟩ := h
  exact ⟨d, G, g, la, g1.below hb, g2, g3, g4, g5, g6, g7, g8⟩
theorem LaF.below {w0 : World} {b m S n : Nat} {v : Value} {xs : List Nm} {R : Recs} {w w' : World} (h : LaF w0 b m S v xs n R w) (hb : Below w.heap.size w w') : LaF w0 b m S v xs n R w' := by
  obtain ⟨d, G, g, s, g1, g2, g3⟩ := h
  exact ⟨d, G, g, s, (g1.same hb).1, own_below g2 hb, g3⟩
theorem LaS.own {w0 : World} {b m p S n : Nat} {v : Value} {xs : List Nm} {R : Recs} {w : World} (h : LaS w0 b m p S v xs n R w) : OwnS w w0.heap.size v xs := by
  obtain ⟨d, G, g, la, g1, g2⟩ := h
  exact g1.own
theorem LaF.own {w0 : World} {b m S n : Nat} {v : Value} {xs : List Nm} {R : Recs} {w : World} (h : LaF w0 b m S v xs n R w) : OwnS w w0.heap.size v xs := by
  obtain ⟨d, G, g, s, g1, g2, g3⟩ := h
  exact g2
theorem LaI.own {w0 : World} {b m p S n : Nat} {v : Value} {xs : List Nm} {R : Recs} {w : World} (h : LaI w0 b m p S v xs n R w) : OwnS w w0.heap.size v xs := by
  obtain ⟨d, G, g, la, g1, g2⟩ := h
  exact g1.own
theorem LaS.push {w0 : World} {b m p S n : Nat} {v vo : Value} {xs : List Nm} {x : Nm} {R : Recs} {w w2 : World} (h : LaS w0 b m p S v xs n R w) (hp : PushedS w v xs x w0.heap.size vo w2) : LaS w0 b m p S vo (xs ++ [x]) n R w2 := by
  obtain ⟨d, G, g, la, g1, g2, g3⟩ := h
  exact ⟨d, G, g, la, g1.push hp, g2, g3⟩
theorem LaF.push {w0 : World} {b m S n : Nat} {v vo : Value} {xs : List Nm} {x : Nm} {R : Recs} {w w2 : World} (h : LaF w0 b m S v xs n R w) (hp : PushedS w v xs x w0.heap.size vo w2) : LaF w0 b m S vo (xs ++ [x]) n R w2 := by
  obtain ⟨d, G, g, s, g1, g2, g3⟩ := h
  obtain ⟨h1, h2, h3⟩ := hp
  exact ⟨d, G, g, s, g1.own (G' := fun k => vo.ownBlock = some k) ⟨h2.os, h2.tape, h2.output, h2.size, fun k hk hn => h2.block k hk (fun e => hn e.symm)⟩ (fun k hk => (g2.lt hk).1) (fun k hk => ⟨(h1.lt hk).2, h3 k hk⟩), h1, g3⟩
theorem LaI.cut {w0 : World} {b m p S n c len : Nat} {a : Option Addr} {xs : List Nm} {R : Recs} {w : World} (h : LaI w0 b m p S (.slice a len c) xs n R w) (k : Nat) (hk : k ≤ xs.length) (hne : xs ≠ []) : LaI w0 b m p S (.slice a k c) (xs.take k) n R w := by
  obtain ⟨d, G, g, la, g1, g2⟩ := h
  exact ⟨d, G, g, la, g1.cut k hk hne, g2⟩
theorem laStart0 {w0 : World} {b m p : Nat} {w : World} (h : LgS w0 b m p nd1 ([((1, []) : Nat × Recs)].map gSg) NoG w) : LaS w0 b m p 0 (.slice none 0 0) [] 0 [] w := by
  obtain ⟨S, T, vs, q, h1, h2, h3⟩ := h
  refine ⟨nd1, [], (1, []), 0, ⟨⟨S, T, vs, q, h1, h2, fun k hk => by cases hk⟩, ⟨rfl, .inl ⟨rfl, rfl⟩⟩⟩, ?_, ⟨0, Nat.le_refl _, by simp [bulk], by simp [allR]⟩, nd1_s.2, rfl, rfl, by simp [bulks, bulk], by simp⟩
  have hs := nd1_s.1
  exact { ok := hs.ok, up := hs.up, files := by kernel_rfl, chain := trivial, small := hs.small, num := fun x hx => by rw [List.mem_singleton.1 hx]; show 1 ≤ 1 ∧ 1 + 0 ≤ 999999; omega, lasts := Nat.zero_le _ }
/-- '&' with a number. -/
theorem and_bits (m : Nat) (hm : m < 1000000) (z : Int) : ∃ n : Nat, n ≤ m ∧ bits .and .i64 z (m : Int) = (n : Int) := by
  have h : (BitVec.ofInt 64 z &&& BitVec.ofInt 64 (m : Int)).toNat ≤ m := by
    rw [BitVec.toNat_and]
    refine Nat.le_trans Nat.and_le_right ?_
    rw [BitVec.toNat_ofInt]
    omega
  refine ⟨(BitVec.ofInt 64 z &&& BitVec.ofInt 64 (m : Int)).toNat, h, ?_⟩
  show IntKind.i64.wrap (((BitVec.ofInt 64 z &&& BitVec.ofInt 64 (m : Int)).toNat : Nat) : Int) = _
  rw [IntKind.wrap_i64]
  omega
end Go.Proofs.YtoaabghignilfaaGreatDoor
