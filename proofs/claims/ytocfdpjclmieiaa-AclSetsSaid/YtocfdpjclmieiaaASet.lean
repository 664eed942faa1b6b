/- Set; walked. -/
import Derived.Test.YtocfdpjclmieiaaAMay
import Derived.Test.YtocfdpjclmieiaaPlainAcl2
import Derived.Maps.AppendAt
import Derived.Laws.AppendOwnNone
set_option linter.unusedVariables false
namespace Go.Proofs.Ytocfdpjclmieiaa
open Go.RowKit

def grCs : List GrA → List Value
  | [] => []
  | q :: r => strA q.tenant :: strA q.who :: .int .i64 q.right :: grCs r
theorem grCs_app : ∀ (a b : List GrA), grCs (a ++ b) = grCs a ++ grCs b
  | [], b => rfl
  | p :: r, b => by
    show strA p.tenant :: strA p.who :: _ :: grCs (r ++ b) = _
    rw [grCs_app r b]
    rfl
theorem grCs_len : ∀ a : List GrA, (grCs a).length = a.length * 3
  | [] => rfl
  | p :: r => by
    show (grCs r).length + 1 + 1 + 1 = (r.length + 1) * 3
    rw [grCs_len r]
    omega
theorem grCs_at : ∀ (d : List GrA) (j : Nat) (u : Value), (grCs d)[j]? = some u → ∃ g, d[j / 3]? = some g ∧ ((j % 3 = 0 ∧ u = strA g.tenant) ∨ (j % 3 = 1 ∧ u = strA g.who) ∨ (j % 3 = 2 ∧ u = .int .i64 g.right))
  | [], j, u, h => by cases h
  | p :: r, 0, u, h => ⟨p, rfl, .inl ⟨rfl, by cases h; rfl⟩⟩
  | p :: r, 1, u, h => ⟨p, rfl, .inr (.inl ⟨rfl, by cases h; rfl⟩)⟩
  | p :: r, 2, u, h => ⟨p, rfl, .inr (.inr ⟨rfl, by cases h; rfl⟩)⟩
  | p :: r, j + 3, u, h => by
    obtain ⟨g, h1, h2⟩ := grCs_at r j u h
    refine ⟨g, ?_, ?_⟩
    · rw [show (j + 3) / 3 = j / 3 + 1 by omega]; exact h1
    · rw [show (j + 3) % 3 = j % 3 by omega]; exact h2
theorem grCs_one : ∀ (d : List GrA), ∀ u ∈ grCs d, u.oneCell' = true
  | [], u, h => by cases h
  | p :: r, u, h => by
    simp only [grCs, List.mem_cons] at h
    rcases h with rfl | rfl | rfl | h
    · rfl
    · rfl
    · rfl
    · exact grCs_one r u h
/-- The cells of a row of grants, one behind the other. -/
theorem grs_cells {w : World} {b o n cap : Nat} {l : List GrA} (h : GrsAt w (.slice (some ⟨b, o, none⟩) n cap) l) (k m : Nat) : ∀ j u, (grCs ((l.drop k).take m))[j]? = some u → w.cell? ((⟨b, o + k * 3, none⟩ : Addr).add j) = some u := by
  intro j u hj
  obtain ⟨a, cp, hv, hc⟩ := h
  cases hv
  obtain ⟨g, hg, hu⟩ := grCs_at _ j u hj
  have hlt := (List.getElem?_eq_some_iff.1 hg).1
  rw [List.length_take] at hlt
  rw [List.getElem?_take_of_lt (by omega), List.getElem?_drop] at hg
  obtain ⟨b', o', ha, hbw, c0, c1, c2⟩ := hc _ g hg
  cases ha
  have hadd : (⟨b, o + k * 3, none⟩ : Addr).add j = ⟨b, o + k * 3 + j, none⟩ := by unfold Addr.add; split <;> simp_all
  rw [hadd]
  rcases hu with ⟨e, rfl⟩ | ⟨e, rfl⟩ | ⟨e, rfl⟩
  · rw [show o + k * 3 + j = o + (k + j / 3) * 3 by omega]; exact c0
  · rw [show o + k * 3 + j = o + (k + j / 3) * 3 + 1 by omega]; exact c1
  · rw [show o + k * 3 + j = o + (k + j / 3) * 3 + 2 by omega]; exact c2
theorem info11G : (Try.prog.info? 33).map (fun i => (i.zero, i.size, i.bytes)) = some (some (.agg #[.string ⟨#[]⟩, .string ⟨#[]⟩, .int .i64 0]), 3, 40) := by kernel_rfl
theorem arow_len {w : World} {B s n : Nat} {e : TypeId} {v : Value} {xs : List Value} (h : w.ownsRow B e s v n xs) : ∃ a c, v = .slice a n c := by
  rcases h.2 with ⟨hv, h0⟩ | ⟨g, cap, cur, hv, _⟩
  · rw [h0]; exact ⟨_, _, hv⟩
  · exact ⟨_, _, hv⟩
/-- A slice of grants from a place on. -/
theorem grants_from (b o n c : Nat) (kI : Int) (k : Nat) (hk : kI = (k : Int)) (h1 : k ≤ n) (h2 : n ≤ c) (h3 : c ≤ 9223372036854775807) :
    ∃ ad c', (∀ w', (Instr.slice 22 (.slice (some ⟨b, o, none⟩) n c) (some (.int .i64 kI)) none none).run Try.prog w' = .ok (.slice (some ad) (n - k) c') w') ∧ (n = k ∨ ad = ⟨b, o + k * 3, none⟩) := by
  subst hk
  have g1 : (k : Int) ≤ (n : Int) := by omega
  have g2 : (k : Int) ≤ (c : Int) := by omega
  have g3 : (n : Int) ≤ (c : Int) := by omega
  have g4 : (c : Int) ≤ 9223372036854775807 := by omega
  by_cases hc : c = k
  · have hn : n = k := by omega
    subst hc
    subst hn
    refine ⟨⟨b, o, none⟩, 0, fun w' => ?_, .inl rfl⟩
    rw [Nat.sub_self]
    go_simp
  · refine ⟨⟨b, o + k * 3, none⟩, c - k, fun w' => ?_, .inr rfl⟩
    have g5 : ¬ (c : Int) = (k : Int) := by omega
    go_simp

set_option maxHeartbeats 4000000 in
set_option maxRecDepth 8000 in
theorem aset_bad (l : List GrA) (hle : Lens l) (g : GrA) (hg : g.who.length ≤ 9223372036854775000) (v : Value) (w : World) (hv : GrsAt w v l) (hb : rightA l = false ∨ fitsA g 0 = false) : Calls Try.prog 16 #[v, aggA g] w fun e w' => e = .returned (.tuple #[.slice none 0 0, .int .i64 1]) ∧ Below w.heap.size w w' := by
  have HA : Hid (∀ o, Below w.heap.size w (w.alloc o)) := fun o => (Below.refl _ _).alloc (Nat.le_refl _) o
  have HR : Hid (∀ u, Below w.heap.size w u → Calls Try.prog 11 #[v] u fun e w' => e = .returned (.bool (rightA l)) ∧ Below u.heap.size u w') := fun u hu => aright_any l hle v u (hv.below hu)
  have HF0 : Hid (∀ u, Calls Try.prog 22 #[aggA g, .int .i64 0] u fun e w' => e = .returned (.bool (fitsA g 0)) ∧ Below u.heap.size u w') := fun u => afits_any g hg 0 u
  obtain ⟨t, h, r⟩ := g
  have HF : Hid (∀ u, Calls Try.prog 22 #[.agg #[strA t, strA h, .int .i64 r], .int .i64 0] u fun e w' => e = .returned (.bool (fitsA ⟨t, h, r⟩ 0)) ∧ Below u.heap.size u w') := HF0
  obtain ⟨a, cap, rfl, _⟩ := hv
  clear HF0
  generalize fitsA ⟨t, h, r⟩ 0 = f1 at *
  generalize rightA l = r1 at *
  cases r1
  · clear hb
    go_enter Try.func16, Try.ntmps16
    go_wp2_with (go_at_call 11; refine Calls.mono (HR.out _ (HA.out _)) ?_; rintro e u1 ⟨rfl, hb1⟩; have HB1 := (show Hid (Below w.heap.size w u1) from (HA.out _).trans (hb1.mono (HA.out _).size)); clear hb1)
    go_ret2
    exact ⟨rfl, HB1.out⟩
  · obtain rfl : f1 = false := by rcases hb with e | e; cases e; exact e
    clear hb
    go_enter Try.func16, Try.ntmps16
    go_wp2_with (first | (go_at_call 11; refine Calls.mono (HR.out _ (HA.out _)) ?_; rintro e u1 ⟨rfl, hb1⟩; have HB1 := (show Hid (Below w.heap.size w u1) from (HA.out _).trans (hb1.mono (HA.out _).size)); have hk := blk_belowA (blk_new w _ _) hb1; have x0 : u1.cell? ⟨w.heap.size, 0, none⟩ = some (strA t) := cell_blkA hk (i := 0) rfl; have x1 : u1.cell? ⟨w.heap.size, 1, none⟩ = some (strA h) := cell_blkA hk (i := 1) rfl; have x2 : u1.cell? ⟨w.heap.size, 2, none⟩ = some (.int .i64 r) := cell_blkA hk (i := 2) rfl; clear hb1 hk) | (go_at_call 22; refine Calls.mono (HF.out _) ?_; rintro e u2 ⟨rfl, hb2⟩; have HB2 := (show Hid (Below w.heap.size w u2) from HB1.out.trans (hb2.mono HB1.out.size)); clear hb2))
    go_ret2
    exact ⟨rfl, HB2.out⟩

set_option maxHeartbeats 4000000 in
set_option maxRecDepth 8000 in
theorem aset_ok (l : List GrA) (hle : Lens l) (g : GrA) (hg : g.who.length ≤ 9223372036854775000) (a : Option Addr) (cap : Nat) (hcap : l.length ≤ cap ∧ cap ≤ 9223372036854775807) (hshape : (a = none ∧ l = [] ∧ cap = 0) ∨ ∃ b o, a = some ⟨b, o, none⟩) (w : World) (hv : GrsAt w (.slice a l.length cap) l) (hr : rightA l = true) (hf : fitsA g 0 = true) : Calls Try.prog 16 #[.slice a l.length cap, aggA g] w fun e w' => (if errA l g = 0 then ∃ v', e = .returned (.tuple #[v', .int .i64 0]) ∧ w'.ownsRow w.heap.size 33 3 v' (setL l g).length (grCs (setL l g)) else e = .returned (.tuple #[.slice none 0 0, .int .i64 (errA l g)])) ∧ Below w.heap.size w w' := by
  have HA : Hid (∀ o, Below w.heap.size w (w.alloc o)) := fun o => (Below.refl _ _).alloc (Nat.le_refl _) o
  obtain ⟨h64, _, hasc⟩ := right_asc hr
  have HR : Hid (∀ u, Below w.heap.size w u → Calls Try.prog 11 #[.slice a l.length cap] u fun e w' => e = .returned (.bool true) ∧ Below u.heap.size u w') := fun u hu => by have := aright_any l hle _ u (hv.below hu); rw [hr] at this; exact this
  have HF0 : Hid (∀ u, Calls Try.prog 22 #[aggA g, .int .i64 0] u fun e w' => e = .returned (.bool true) ∧ Below u.heap.size u w') := fun u => by have := afits_any g hg 0 u; rw [hf] at this; exact this
  have HS0 : Hid (∀ u, Below w.heap.size w u → Calls Try.prog 26 #[.slice a l.length cap, aggA g, ordV] u fun e w' => e = .returned (.tuple #[.int .i64 (posL l g : Int), .bool (hasL l g)]) ∧ Below u.heap.size u w') := fun u hu => asearch_any l h64 hasc g _ u (hv.below hu)
  have hpl := pos_le l g
  have HE : Hid (errA l g = if g.right ≠ 0 ∧ hasL l g = false ∧ l.length = 64 then 11 else 0) := by show _ = _; unfold errA; rw [if_neg (by rw [hr, hf]; simp)]
  have HSL : Hid (setL l g = l.take (posL l g) ++ gainA g ++ l.drop (posL l g + (if hasL l g = true then 1 else 0))) := rfl
  have HHL : Hid (hasL l g = true → posL l g < l.length) := fun h => by
    unfold hasL at h
    cases hx : l[posL l g]? with
    | none => rw [hx] at h; cases h
    | some x => exact (List.getElem?_eq_some_iff.1 hx).1
  have HV := (show Hid (GrsAt w (.slice a l.length cap) l) from hv)
  obtain ⟨t, h, r⟩ := g
  have HF : Hid (∀ u, Calls Try.prog 22 #[.agg #[strA t, strA h, .int .i64 r], .int .i64 0] u fun e w' => e = .returned (.bool true) ∧ Below u.heap.size u w') := HF0
  have HS : Hid (∀ u, Below w.heap.size w u → Calls Try.prog 26 #[.slice a l.length cap, .agg #[strA t, strA h, .int .i64 r], ordV] u fun e w' => e = .returned (.tuple #[.int .i64 (posL l ⟨t, h, r⟩ : Int), .bool (hasL l ⟨t, h, r⟩)]) ∧ Below u.heap.size u w') := HS0
  clear HF0 HS0 hv hasc hr hf hle hg
  have HGA : Hid (gainA ⟨t, h, r⟩ = if r ≠ 0 then [⟨t, h, r⟩] else []) := rfl
  simp only at HE
  generalize gainA ⟨t, h, r⟩ = GA at *
  generalize errA l ⟨t, h, r⟩ = E at *
  generalize setL l ⟨t, h, r⟩ = SL at *
  generalize posL l ⟨t, h, r⟩ = P at *
  generalize hasL l ⟨t, h, r⟩ = B at *
  by_cases hmany : r ≠ 0 ∧ B = false ∧ l.length = 64
  · obtain ⟨h1, rfl, h3⟩ := hmany
    have hE : E = 11 := by rw [HE.out, if_pos ⟨h1, rfl, h3⟩]
    subst hE
    have hri : (r != 0) = true := by simpa using h1
    have hli : ((l.length : Int) == 64) = true := by rw [beq_iff_eq]; omega
    clear HE HSL HGA HV HHL h1 h3
    go_enter Try.func16, Try.ntmps16
    go_wp2_with (first | (go_at_call 11; refine Calls.mono (HR.out _ (HA.out _)) ?_; rintro e u1 ⟨rfl, hb1⟩; have HB1 := (show Hid (Below w.heap.size w u1) from (HA.out _).trans (hb1.mono (HA.out _).size)); have hk := blk_belowA (blk_new w _ _) hb1; have x0 : u1.cell? ⟨w.heap.size, 0, none⟩ = some (strA t) := cell_blkA hk (i := 0) rfl; have x1 : u1.cell? ⟨w.heap.size, 1, none⟩ = some (strA h) := cell_blkA hk (i := 1) rfl; have x2 : u1.cell? ⟨w.heap.size, 2, none⟩ = some (.int .i64 r) := cell_blkA hk (i := 2) rfl; have HK1 := (show Hid _ from hk); clear hb1 hk) | (go_at_call 22; refine Calls.mono (HF.out _) ?_; rintro e u2 ⟨rfl, hb2⟩; have HB2 := (show Hid (Below w.heap.size w u2) from HB1.out.trans (hb2.mono HB1.out.size)); have hk := blk_belowA HK1.out hb2; have y0 : u2.cell? ⟨w.heap.size, 0, none⟩ = some (strA t) := cell_blkA hk (i := 0) rfl; have y1 : u2.cell? ⟨w.heap.size, 1, none⟩ = some (strA h) := cell_blkA hk (i := 1) rfl; have y2 : u2.cell? ⟨w.heap.size, 2, none⟩ = some (.int .i64 r) := cell_blkA hk (i := 2) rfl; have HK2 := (show Hid _ from hk); clear hb2 hk) | (go_at_call 26; refine Calls.mono (HS.out _ HB2.out) ?_; rintro e u3 ⟨rfl, hb3⟩; have HB3 := (show Hid (Below w.heap.size w u3) from HB2.out.trans (hb3.mono HB2.out.size)); have hk := blk_belowA HK2.out hb3; have z0 : u3.cell? ⟨w.heap.size, 0, none⟩ = some (strA t) := cell_blkA hk (i := 0) rfl; have z1 : u3.cell? ⟨w.heap.size, 1, none⟩ = some (strA h) := cell_blkA hk (i := 1) rfl; have z2 : u3.cell? ⟨w.heap.size, 2, none⟩ = some (.int .i64 r) := cell_blkA hk (i := 2) rfl; have HK3 := (show Hid _ from hk); clear hb3 hk))
    go_ret2
    exact ⟨rfl, HB3.out⟩
  · have hE : E = 0 := by rw [HE.out, if_neg hmany]
    subst hE
    obtain ⟨i0, hi, hz0, hz1, hz2⟩ := info_parts info11G
    obtain ⟨hcap1, hcap2⟩ := hcap
    have hcap : l.length ≤ cap ∧ cap ≤ 9223372036854775807 := ⟨hcap1, hcap2⟩
    have hPc : (P : Int) ≤ (cap : Int) := by omega
    have hPl2 : (P : Int) ≤ (l.length : Int) := by omega
    have hlc : (l.length : Int) ≤ (cap : Int) := by omega
    have hcm : (cap : Int) ≤ 9223372036854775807 := by omega
    have hl64 : (l.length : Int) ≤ 64 := by omega
    rcases hshape with ⟨rfl, rfl, rfl⟩ | ⟨b, o, rfl⟩
    · have hP0 : P = 0 := by have h0 : ([] : List GrA).length = 0 := rfl; omega
      subst hP0
      have hB : B = false := by
        cases B with
        | false => rfl
        | true => exact absurd (HHL.out rfl) (Nat.lt_irrefl _)
      subst hB
      have HV0 := HV
      by_cases hr0 : r ≠ 0
      · have HR0 := (show Hid (r ≠ 0) from hr0)
        have hri : (r != 0) = true := by simpa using hr0
        have hSL : SL = [⟨t, h, r⟩] := by rw [HSL.out, HGA.out, if_pos hr0]; rfl
        have HSL2 := (show Hid (SL = [⟨t, h, r⟩]) from hSL)
        clear hmany hr0 HHL HE HSL HGA HV HV0 hSL
        go_enter Try.func16, Try.ntmps16
        go_wp2_with (first | (go_at_call 11; refine Calls.mono (HR.out _ (HA.out _)) ?_; rintro e u1 ⟨rfl, hb1⟩; have HB1 := (show Hid (Below w.heap.size w u1) from (HA.out _).trans (hb1.mono (HA.out _).size)); have hk := blk_belowA (blk_new w _ _) hb1; have x0 : u1.cell? ⟨w.heap.size, 0, none⟩ = some (strA t) := cell_blkA hk (i := 0) rfl; have x1 : u1.cell? ⟨w.heap.size, 1, none⟩ = some (strA h) := cell_blkA hk (i := 1) rfl; have x2 : u1.cell? ⟨w.heap.size, 2, none⟩ = some (.int .i64 r) := cell_blkA hk (i := 2) rfl; have HK1 := (show Hid _ from hk); clear hb1 hk) | (go_at_call 22; refine Calls.mono (HF.out _) ?_; rintro e u2 ⟨rfl, hb2⟩; have HB2 := (show Hid (Below w.heap.size w u2) from HB1.out.trans (hb2.mono HB1.out.size)); have hk := blk_belowA HK1.out hb2; have y0 : u2.cell? ⟨w.heap.size, 0, none⟩ = some (strA t) := cell_blkA hk (i := 0) rfl; have y1 : u2.cell? ⟨w.heap.size, 1, none⟩ = some (strA h) := cell_blkA hk (i := 1) rfl; have y2 : u2.cell? ⟨w.heap.size, 2, none⟩ = some (.int .i64 r) := cell_blkA hk (i := 2) rfl; have HK2 := (show Hid _ from hk); clear hb2 hk) | (go_at_call 26; refine Calls.mono (HS.out _ HB2.out) ?_; rintro e u3 ⟨rfl, hb3⟩; have HB3 := (show Hid (Below w.heap.size w u3) from HB2.out.trans (hb3.mono HB2.out.size)); have hk := blk_belowA HK2.out hb3; have z0 : u3.cell? ⟨w.heap.size, 0, none⟩ = some (strA t) := cell_blkA hk (i := 0) rfl; have z1 : u3.cell? ⟨w.heap.size, 1, none⟩ = some (strA h) := cell_blkA hk (i := 1) rfl; have z2 : u3.cell? ⟨w.heap.size, 2, none⟩ = some (.int .i64 r) := cell_blkA hk (i := 2) rfl; have HK3 := (show Hid _ from hk); clear hb3 hk) | (at_builtin; refine wpList_append_own_none rfl _ _ 22 rfl w.heap.size 33 i0 3 Try.underlying22 hi _ _ _ rfl (World.ownsRow_nil _ _ _ _) rfl ?_) | (at_builtin; refine wpList_append_own_at _ rfl _ _ 22 rfl w.heap.size 33 i0 (.agg #[.string ⟨#[]⟩, .string ⟨#[]⟩, .int .i64 0]) 3 40 Try.underlying22 hi hz0 hz1 hz2 rfl (by decide) _ _ _ rfl (World.ownsRow.alloc (World.ownsRow_nil _ _ _ _) _) ⟨u3.heap.size, 0, none⟩ 1 1 [strA t, strA h, .int .i64 r] rfl rfl (lit_cells _ _ _) ?d3 ?d4 ?d5 ?d6 ?_))
        case d3 => intro u hu; simp at hu; rcases hu with rfl | rfl | rfl <;> rfl
        case d4 => unfold maxLen; omega
        case d5 => omega
        case d6 => have := HB3.out.size; simp; omega
        intro v2 w2 hown2 hgrow2 _ _
        have HB5 := (show Hid (Below w.heap.size w w2) from (HB3.out.alloc HB3.out.size _).grown hgrow2 (by have := HB3.out.size; simp; omega) (fun k hk => by cases hk))
        have HO2 := (show Hid (w2.ownsRow w.heap.size 33 3 v2 1 [strA t, strA h, .int .i64 r]) from hown2)
        obtain ⟨av2, cv2, hv2⟩ := arow_len HO2.out
        subst hv2
        clear hown2 hgrow2
        go_wp2_with (at_builtin; refine wpList_append_own_none rfl _ _ 22 rfl w.heap.size 33 i0 3 Try.underlying22 hi _ _ _ rfl HO2.out rfl ?_)
        go_ret2
        exact ⟨⟨_, rfl, by rw [HSL2.out]; exact HO2.out⟩, HB5.out⟩
      · have hri : (r != 0) = false := by simpa using hr0
        have hSL : SL = [] := by rw [HSL.out, HGA.out, if_neg hr0]; rfl
        have HSL2 := (show Hid (SL = []) from hSL)
        clear hmany hr0 HHL HE HSL HGA HV HV0 hSL
        go_enter Try.func16, Try.ntmps16
        go_wp2_with (first | (go_at_call 11; refine Calls.mono (HR.out _ (HA.out _)) ?_; rintro e u1 ⟨rfl, hb1⟩; have HB1 := (show Hid (Below w.heap.size w u1) from (HA.out _).trans (hb1.mono (HA.out _).size)); have hk := blk_belowA (blk_new w _ _) hb1; have x0 : u1.cell? ⟨w.heap.size, 0, none⟩ = some (strA t) := cell_blkA hk (i := 0) rfl; have x1 : u1.cell? ⟨w.heap.size, 1, none⟩ = some (strA h) := cell_blkA hk (i := 1) rfl; have x2 : u1.cell? ⟨w.heap.size, 2, none⟩ = some (.int .i64 r) := cell_blkA hk (i := 2) rfl; have HK1 := (show Hid _ from hk); clear hb1 hk) | (go_at_call 22; refine Calls.mono (HF.out _) ?_; rintro e u2 ⟨rfl, hb2⟩; have HB2 := (show Hid (Below w.heap.size w u2) from HB1.out.trans (hb2.mono HB1.out.size)); have hk := blk_belowA HK1.out hb2; have y0 : u2.cell? ⟨w.heap.size, 0, none⟩ = some (strA t) := cell_blkA hk (i := 0) rfl; have y1 : u2.cell? ⟨w.heap.size, 1, none⟩ = some (strA h) := cell_blkA hk (i := 1) rfl; have y2 : u2.cell? ⟨w.heap.size, 2, none⟩ = some (.int .i64 r) := cell_blkA hk (i := 2) rfl; have HK2 := (show Hid _ from hk); clear hb2 hk) | (go_at_call 26; refine Calls.mono (HS.out _ HB2.out) ?_; rintro e u3 ⟨rfl, hb3⟩; have HB3 := (show Hid (Below w.heap.size w u3) from HB2.out.trans (hb3.mono HB2.out.size)); have hk := blk_belowA HK2.out hb3; have z0 : u3.cell? ⟨w.heap.size, 0, none⟩ = some (strA t) := cell_blkA hk (i := 0) rfl; have z1 : u3.cell? ⟨w.heap.size, 1, none⟩ = some (strA h) := cell_blkA hk (i := 1) rfl; have z2 : u3.cell? ⟨w.heap.size, 2, none⟩ = some (.int .i64 r) := cell_blkA hk (i := 2) rfl; have HK3 := (show Hid _ from hk); clear hb3 hk) | (at_builtin; refine wpList_append_own_none rfl _ _ 22 rfl w.heap.size 33 i0 3 Try.underlying22 hi _ _ _ rfl (World.ownsRow_nil _ _ _ _) rfl ?_))
        go_ret2
        exact ⟨⟨_, rfl, by rw [HSL2.out]; exact World.ownsRow_nil _ _ _ _⟩, HB3.out⟩
    · cases B
      · have hPl3 : P ≤ l.length := hpl
        by_cases hr0 : r ≠ 0
        · have HR0 := (show Hid (r ≠ 0) from hr0)
          have hri : (r != 0) = true := by simpa using hr0
          have hli : ((l.length : Int) == 64) = false := by rw [beq_eq_false_iff_ne]; intro e; exact hmany ⟨hr0, rfl, by omega⟩
          clear hmany hr0 HHL HE
          obtain ⟨ad, c', hfrom, hadr⟩ := grants_from b o l.length cap (P : Int) P (by omega) (by omega) hcap.1 hcap.2
          have HAD := (show Hid (l.length = P ∨ ad = ⟨b, o + P * 3, none⟩) from hadr)
          clear hadr
          go_enter Try.func16, Try.ntmps16
          go_wp2_with (first | (go_at_call 11; refine Calls.mono (HR.out _ (HA.out _)) ?_; rintro e u1 ⟨rfl, hb1⟩; have HB1 := (show Hid (Below w.heap.size w u1) from (HA.out _).trans (hb1.mono (HA.out _).size)); have hk := blk_belowA (blk_new w _ _) hb1; have x0 : u1.cell? ⟨w.heap.size, 0, none⟩ = some (strA t) := cell_blkA hk (i := 0) rfl; have x1 : u1.cell? ⟨w.heap.size, 1, none⟩ = some (strA h) := cell_blkA hk (i := 1) rfl; have x2 : u1.cell? ⟨w.heap.size, 2, none⟩ = some (.int .i64 r) := cell_blkA hk (i := 2) rfl; have HK1 := (show Hid _ from hk); clear hb1 hk) | (go_at_call 22; refine Calls.mono (HF.out _) ?_; rintro e u2 ⟨rfl, hb2⟩; have HB2 := (show Hid (Below w.heap.size w u2) from HB1.out.trans (hb2.mono HB1.out.size)); have hk := blk_belowA HK1.out hb2; have y0 : u2.cell? ⟨w.heap.size, 0, none⟩ = some (strA t) := cell_blkA hk (i := 0) rfl; have y1 : u2.cell? ⟨w.heap.size, 1, none⟩ = some (strA h) := cell_blkA hk (i := 1) rfl; have y2 : u2.cell? ⟨w.heap.size, 2, none⟩ = some (.int .i64 r) := cell_blkA hk (i := 2) rfl; have HK2 := (show Hid _ from hk); clear hb2 hk) | (go_at_call 26; refine Calls.mono (HS.out _ HB2.out) ?_; rintro e u3 ⟨rfl, hb3⟩; have HB3 := (show Hid (Below w.heap.size w u3) from HB2.out.trans (hb3.mono HB2.out.size)); have hk := blk_belowA HK2.out hb3; have z0 : u3.cell? ⟨w.heap.size, 0, none⟩ = some (strA t) := cell_blkA hk (i := 0) rfl; have z1 : u3.cell? ⟨w.heap.size, 1, none⟩ = some (strA h) := cell_blkA hk (i := 1) rfl; have z2 : u3.cell? ⟨w.heap.size, 2, none⟩ = some (.int .i64 r) := cell_blkA hk (i := 2) rfl; have HK3 := (show Hid _ from hk); clear hb3 hk) | (at_builtin; refine wpList_append_own_at _ rfl _ _ 22 rfl w.heap.size 33 i0 (.agg #[.string ⟨#[]⟩, .string ⟨#[]⟩, .int .i64 0]) 3 40 Try.underlying22 hi hz0 hz1 hz2 rfl (by decide) _ _ _ rfl (World.ownsRow_nil _ _ _ _) ⟨b, o, none⟩ P cap (grCs (l.take P)) rfl ?d1 ?d2 ?d3 ?d4 ?d5 ?d6 ?_))
          case d1 => rw [grCs_len, List.length_take]; omega
          case d2 => exact fun j u hj => by have := grs_cells (HV.out.below HB3.out) 0 P j u (by simpa using hj); simpa using this
          case d3 => exact grCs_one _
          case d4 => unfold maxLen; omega
          case d5 => omega
          case d6 => exact HB3.out.size
          intro v1 w1 hown1 hgrow1 _ _
          have hb4 : Below u3.heap.size u3 w1 := (Below.refl _ _).grown hgrow1 (Nat.le_refl _) (fun k hk => by cases hk)
          have HB4 := (show Hid (Below w.heap.size w w1) from HB3.out.trans (hb4.mono HB3.out.size))
          have hk4 := blk_belowA HK3.out hb4
          have q0 : w1.cell? ⟨w.heap.size, 0, none⟩ = some (strA t) := cell_blkA hk4 (i := 0) rfl
          have q1 : w1.cell? ⟨w.heap.size, 1, none⟩ = some (strA h) := cell_blkA hk4 (i := 1) rfl
          have q2 : w1.cell? ⟨w.heap.size, 2, none⟩ = some (.int .i64 r) := cell_blkA hk4 (i := 2) rfl
          have HO1 := (show Hid (w1.ownsRow w.heap.size 33 3 v1 P (grCs (l.take P))) from hown1)
          obtain ⟨av1, cv1, hv1⟩ := arow_len HO1.out
          subst hv1
          clear hown1 hgrow1 hb4 hk4 x0 x1 x2 y0 y1 y2 z0 z1 z2 HK1 HK2 HK3 HB1 HB2 HB3 HR HF HS HA
          go_wp2_with (at_builtin; refine wpList_append_own_at _ rfl _ _ 22 rfl w.heap.size 33 i0 (.agg #[.string ⟨#[]⟩, .string ⟨#[]⟩, .int .i64 0]) 3 40 Try.underlying22 hi hz0 hz1 hz2 rfl (by decide) _ _ _ rfl (World.ownsRow.alloc HO1.out _) ⟨w1.heap.size, 0, none⟩ 1 1 [strA t, strA h, .int .i64 r] rfl rfl (lit_cells _ _ _) ?d3 ?d4 ?d5 ?d6 ?_)
          case d3 => intro u hu; simp at hu; rcases hu with rfl | rfl | rfl <;> rfl
          case d4 => unfold maxLen; omega
          case d5 => omega
          case d6 => have := HB4.out.size; simp; omega
          intro v2 w2 hown2 hgrow2 _ _
          have HB5 := (show Hid (Below w.heap.size w w2) from (HB4.out.alloc HB4.out.size _).grown hgrow2 (by have := HB4.out.size; simp; omega) (fun k hk => (World.ownsRow.lt HO1.out k hk).1))
          have HO2 := (show Hid (w2.ownsRow w.heap.size 33 3 v2 (P + 1) (grCs (l.take P) ++ [strA t, strA h, .int .i64 r])) from hown2)
          obtain ⟨av2, cv2, hv2⟩ := arow_len HO2.out
          subst hv2
          clear hown2 hgrow2 q0 q1 q2
          go_wp2_with (at_builtin; refine wpList_append_own_at _ rfl _ _ 22 rfl w.heap.size 33 i0 (.agg #[.string ⟨#[]⟩, .string ⟨#[]⟩, .int .i64 0]) 3 40 Try.underlying22 hi hz0 hz1 hz2 rfl (by decide) _ _ _ rfl HO2.out ad (l.length - P) c' (grCs (l.drop P)) rfl ?d1 ?d2 ?d3 ?d4 ?d5 ?d6 ?_)
          case d1 => rw [grCs_len, List.length_drop]
          case d2 =>
            intro j u hj
            rcases HAD.out with e | e
            · rw [List.drop_of_length_le (by omega)] at hj; cases hj
            · have := grs_cells (HV.out.below HB5.out) P (l.length - P) j u (by rw [List.take_of_length_le (by rw [List.length_drop]; omega)]; exact hj); rw [e]; exact this
          case d3 => exact grCs_one _
          case d4 => unfold maxLen; omega
          case d5 => omega
          case d6 => exact HB5.out.size
          intro v3 w3 hown3 hgrow3 _ _
          have HB6 := (show Hid (Below w.heap.size w w3) from HB5.out.grown hgrow3 HB5.out.size (fun k hk => (World.ownsRow.lt HO2.out k hk).1))
          have hSL : SL = l.take P ++ [⟨t, h, r⟩] ++ l.drop P := by rw [HSL.out, HGA.out, if_pos HR0.out]; simp
          have HO3 := (show Hid (w3.ownsRow w.heap.size 33 3 v3 SL.length (grCs SL)) from (by rw [hSL, grCs_app, grCs_app, List.length_append, List.length_append, List.length_take, List.length_drop, Nat.min_eq_left hpl, List.append_assoc]; exact hown3))
          obtain ⟨av3, cv3, hv3⟩ := arow_len HO3.out
          subst hv3
          clear hown3 hgrow3 hSL
          go_wp2
          go_ret2
          exact ⟨⟨_, rfl, HO3.out⟩, HB6.out⟩
        · have HR0 := (show Hid (¬ r ≠ 0) from hr0)
          have hri : (r != 0) = false := by simpa using hr0
          clear hmany hr0 HHL HE
          obtain ⟨ad, c', hfrom, hadr⟩ := grants_from b o l.length cap (P : Int) P (by omega) (by omega) hcap.1 hcap.2
          have HAD := (show Hid (l.length = P ∨ ad = ⟨b, o + P * 3, none⟩) from hadr)
          clear hadr
          go_enter Try.func16, Try.ntmps16
          go_wp2_with (first | (go_at_call 11; refine Calls.mono (HR.out _ (HA.out _)) ?_; rintro e u1 ⟨rfl, hb1⟩; have HB1 := (show Hid (Below w.heap.size w u1) from (HA.out _).trans (hb1.mono (HA.out _).size)); have hk := blk_belowA (blk_new w _ _) hb1; have x0 : u1.cell? ⟨w.heap.size, 0, none⟩ = some (strA t) := cell_blkA hk (i := 0) rfl; have x1 : u1.cell? ⟨w.heap.size, 1, none⟩ = some (strA h) := cell_blkA hk (i := 1) rfl; have x2 : u1.cell? ⟨w.heap.size, 2, none⟩ = some (.int .i64 r) := cell_blkA hk (i := 2) rfl; have HK1 := (show Hid _ from hk); clear hb1 hk) | (go_at_call 22; refine Calls.mono (HF.out _) ?_; rintro e u2 ⟨rfl, hb2⟩; have HB2 := (show Hid (Below w.heap.size w u2) from HB1.out.trans (hb2.mono HB1.out.size)); have hk := blk_belowA HK1.out hb2; have y0 : u2.cell? ⟨w.heap.size, 0, none⟩ = some (strA t) := cell_blkA hk (i := 0) rfl; have y1 : u2.cell? ⟨w.heap.size, 1, none⟩ = some (strA h) := cell_blkA hk (i := 1) rfl; have y2 : u2.cell? ⟨w.heap.size, 2, none⟩ = some (.int .i64 r) := cell_blkA hk (i := 2) rfl; have HK2 := (show Hid _ from hk); clear hb2 hk) | (go_at_call 26; refine Calls.mono (HS.out _ HB2.out) ?_; rintro e u3 ⟨rfl, hb3⟩; have HB3 := (show Hid (Below w.heap.size w u3) from HB2.out.trans (hb3.mono HB2.out.size)); have hk := blk_belowA HK2.out hb3; have z0 : u3.cell? ⟨w.heap.size, 0, none⟩ = some (strA t) := cell_blkA hk (i := 0) rfl; have z1 : u3.cell? ⟨w.heap.size, 1, none⟩ = some (strA h) := cell_blkA hk (i := 1) rfl; have z2 : u3.cell? ⟨w.heap.size, 2, none⟩ = some (.int .i64 r) := cell_blkA hk (i := 2) rfl; have HK3 := (show Hid _ from hk); clear hb3 hk) | (at_builtin; refine wpList_append_own_at _ rfl _ _ 22 rfl w.heap.size 33 i0 (.agg #[.string ⟨#[]⟩, .string ⟨#[]⟩, .int .i64 0]) 3 40 Try.underlying22 hi hz0 hz1 hz2 rfl (by decide) _ _ _ rfl (World.ownsRow_nil _ _ _ _) ⟨b, o, none⟩ P cap (grCs (l.take P)) rfl ?d1 ?d2 ?d3 ?d4 ?d5 ?d6 ?_))
          case d1 => rw [grCs_len, List.length_take]; omega
          case d2 => exact fun j u hj => by have := grs_cells (HV.out.below HB3.out) 0 P j u (by simpa using hj); simpa using this
          case d3 => exact grCs_one _
          case d4 => unfold maxLen; omega
          case d5 => omega
          case d6 => exact HB3.out.size
          intro v1 w1 hown1 hgrow1 _ _
          have hb4 : Below u3.heap.size u3 w1 := (Below.refl _ _).grown hgrow1 (Nat.le_refl _) (fun k hk => by cases hk)
          have HB4 := (show Hid (Below w.heap.size w w1) from HB3.out.trans (hb4.mono HB3.out.size))
          have hk4 := blk_belowA HK3.out hb4
          have q0 : w1.cell? ⟨w.heap.size, 0, none⟩ = some (strA t) := cell_blkA hk4 (i := 0) rfl
          have q1 : w1.cell? ⟨w.heap.size, 1, none⟩ = some (strA h) := cell_blkA hk4 (i := 1) rfl
          have q2 : w1.cell? ⟨w.heap.size, 2, none⟩ = some (.int .i64 r) := cell_blkA hk4 (i := 2) rfl
          have HO1 := (show Hid (w1.ownsRow w.heap.size 33 3 v1 P (grCs (l.take P))) from hown1)
          obtain ⟨av1, cv1, hv1⟩ := arow_len HO1.out
          subst hv1
          clear hown1 hgrow1 hb4 hk4 x0 x1 x2 y0 y1 y2 z0 z1 z2 HK1 HK2 HK3 HB1 HB2 HB3 HR HF HS HA
          go_wp2_with (at_builtin; refine wpList_append_own_at _ rfl _ _ 22 rfl w.heap.size 33 i0 (.agg #[.string ⟨#[]⟩, .string ⟨#[]⟩, .int .i64 0]) 3 40 Try.underlying22 hi hz0 hz1 hz2 rfl (by decide) _ _ _ rfl HO1.out ad (l.length - P) c' (grCs (l.drop P)) rfl ?d1 ?d2 ?d3 ?d4 ?d5 ?d6 ?_)
          case d1 => rw [grCs_len, List.length_drop]
          case d2 =>
            intro j u hj
            rcases HAD.out with e | e
            · rw [List.drop_of_length_le (by omega)] at hj; cases hj
            · have := grs_cells (HV.out.below HB4.out) P (l.length - P) j u (by rw [List.take_of_length_le (by rw [List.length_drop]; omega)]; exact hj); rw [e]; exact this
          case d3 => exact grCs_one _
          case d4 => unfold maxLen; omega
          case d5 => omega
          case d6 => exact HB4.out.size
          intro v3 w3 hown3 hgrow3 _ _
          have HB6 := (show Hid (Below w.heap.size w w3) from HB4.out.grown hgrow3 HB4.out.size (fun k hk => (World.ownsRow.lt HO1.out k hk).1))
          have hSL : SL = l.take P ++ l.drop P := by rw [HSL.out, HGA.out, if_neg HR0.out]; simp
          have HO3 := (show Hid (w3.ownsRow w.heap.size 33 3 v3 SL.length (grCs SL)) from (by rw [hSL, grCs_app, List.length_append, List.length_take, List.length_drop, Nat.min_eq_left hpl]; first | exact hown3 | (have e9 : P + (l.length - P) = l.length := (by omega); rw [e9]; exact hown3)))
          obtain ⟨av3, cv3, hv3⟩ := arow_len HO3.out
          subst hv3
          clear hown3 hgrow3 hSL
          go_wp2
          go_ret2
          exact ⟨⟨_, rfl, HO3.out⟩, HB6.out⟩
      · have hPl3 : P < l.length := HHL.out rfl
        have hPl4 : (P : Int) + 1 ≤ (l.length : Int) := by omega
        have hPl5 : (P : Int) + 1 ≤ (cap : Int) := by omega
        by_cases hr0 : r ≠ 0
        · have HR0 := (show Hid (r ≠ 0) from hr0)
          have hri : (r != 0) = true := by simpa using hr0
          clear hmany hr0 HHL HE
          obtain ⟨ad, c', hfrom, hadr⟩ := grants_from b o l.length cap ((P : Int) + 1) (P + 1) (by omega) (by omega) hcap.1 hcap.2
          have HAD := (show Hid (l.length = (P + 1) ∨ ad = ⟨b, o + (P + 1) * 3, none⟩) from hadr)
          clear hadr
          go_enter Try.func16, Try.ntmps16
          go_wp2_with (first | (go_at_call 11; refine Calls.mono (HR.out _ (HA.out _)) ?_; rintro e u1 ⟨rfl, hb1⟩; have HB1 := (show Hid (Below w.heap.size w u1) from (HA.out _).trans (hb1.mono (HA.out _).size)); have hk := blk_belowA (blk_new w _ _) hb1; have x0 : u1.cell? ⟨w.heap.size, 0, none⟩ = some (strA t) := cell_blkA hk (i := 0) rfl; have x1 : u1.cell? ⟨w.heap.size, 1, none⟩ = some (strA h) := cell_blkA hk (i := 1) rfl; have x2 : u1.cell? ⟨w.heap.size, 2, none⟩ = some (.int .i64 r) := cell_blkA hk (i := 2) rfl; have HK1 := (show Hid _ from hk); clear hb1 hk) | (go_at_call 22; refine Calls.mono (HF.out _) ?_; rintro e u2 ⟨rfl, hb2⟩; have HB2 := (show Hid (Below w.heap.size w u2) from HB1.out.trans (hb2.mono HB1.out.size)); have hk := blk_belowA HK1.out hb2; have y0 : u2.cell? ⟨w.heap.size, 0, none⟩ = some (strA t) := cell_blkA hk (i := 0) rfl; have y1 : u2.cell? ⟨w.heap.size, 1, none⟩ = some (strA h) := cell_blkA hk (i := 1) rfl; have y2 : u2.cell? ⟨w.heap.size, 2, none⟩ = some (.int .i64 r) := cell_blkA hk (i := 2) rfl; have HK2 := (show Hid _ from hk); clear hb2 hk) | (go_at_call 26; refine Calls.mono (HS.out _ HB2.out) ?_; rintro e u3 ⟨rfl, hb3⟩; have HB3 := (show Hid (Below w.heap.size w u3) from HB2.out.trans (hb3.mono HB2.out.size)); have hk := blk_belowA HK2.out hb3; have z0 : u3.cell? ⟨w.heap.size, 0, none⟩ = some (strA t) := cell_blkA hk (i := 0) rfl; have z1 : u3.cell? ⟨w.heap.size, 1, none⟩ = some (strA h) := cell_blkA hk (i := 1) rfl; have z2 : u3.cell? ⟨w.heap.size, 2, none⟩ = some (.int .i64 r) := cell_blkA hk (i := 2) rfl; have HK3 := (show Hid _ from hk); clear hb3 hk) | (at_builtin; refine wpList_append_own_at _ rfl _ _ 22 rfl w.heap.size 33 i0 (.agg #[.string ⟨#[]⟩, .string ⟨#[]⟩, .int .i64 0]) 3 40 Try.underlying22 hi hz0 hz1 hz2 rfl (by decide) _ _ _ rfl (World.ownsRow_nil _ _ _ _) ⟨b, o, none⟩ P cap (grCs (l.take P)) rfl ?d1 ?d2 ?d3 ?d4 ?d5 ?d6 ?_))
          case d1 => rw [grCs_len, List.length_take]; omega
          case d2 => exact fun j u hj => by have := grs_cells (HV.out.below HB3.out) 0 P j u (by simpa using hj); simpa using this
          case d3 => exact grCs_one _
          case d4 => unfold maxLen; omega
          case d5 => omega
          case d6 => exact HB3.out.size
          intro v1 w1 hown1 hgrow1 _ _
          have hb4 : Below u3.heap.size u3 w1 := (Below.refl _ _).grown hgrow1 (Nat.le_refl _) (fun k hk => by cases hk)
          have HB4 := (show Hid (Below w.heap.size w w1) from HB3.out.trans (hb4.mono HB3.out.size))
          have hk4 := blk_belowA HK3.out hb4
          have q0 : w1.cell? ⟨w.heap.size, 0, none⟩ = some (strA t) := cell_blkA hk4 (i := 0) rfl
          have q1 : w1.cell? ⟨w.heap.size, 1, none⟩ = some (strA h) := cell_blkA hk4 (i := 1) rfl
          have q2 : w1.cell? ⟨w.heap.size, 2, none⟩ = some (.int .i64 r) := cell_blkA hk4 (i := 2) rfl
          have HO1 := (show Hid (w1.ownsRow w.heap.size 33 3 v1 P (grCs (l.take P))) from hown1)
          obtain ⟨av1, cv1, hv1⟩ := arow_len HO1.out
          subst hv1
          clear hown1 hgrow1 hb4 hk4 x0 x1 x2 y0 y1 y2 z0 z1 z2 HK1 HK2 HK3 HB1 HB2 HB3 HR HF HS HA
          go_wp2_with (at_builtin; refine wpList_append_own_at _ rfl _ _ 22 rfl w.heap.size 33 i0 (.agg #[.string ⟨#[]⟩, .string ⟨#[]⟩, .int .i64 0]) 3 40 Try.underlying22 hi hz0 hz1 hz2 rfl (by decide) _ _ _ rfl (World.ownsRow.alloc HO1.out _) ⟨w1.heap.size, 0, none⟩ 1 1 [strA t, strA h, .int .i64 r] rfl rfl (lit_cells _ _ _) ?d3 ?d4 ?d5 ?d6 ?_)
          case d3 => intro u hu; simp at hu; rcases hu with rfl | rfl | rfl <;> rfl
          case d4 => unfold maxLen; omega
          case d5 => omega
          case d6 => have := HB4.out.size; simp; omega
          intro v2 w2 hown2 hgrow2 _ _
          have HB5 := (show Hid (Below w.heap.size w w2) from (HB4.out.alloc HB4.out.size _).grown hgrow2 (by have := HB4.out.size; simp; omega) (fun k hk => (World.ownsRow.lt HO1.out k hk).1))
          have HO2 := (show Hid (w2.ownsRow w.heap.size 33 3 v2 (P + 1) (grCs (l.take P) ++ [strA t, strA h, .int .i64 r])) from hown2)
          obtain ⟨av2, cv2, hv2⟩ := arow_len HO2.out
          subst hv2
          clear hown2 hgrow2 q0 q1 q2
          go_wp2_with (at_builtin; refine wpList_append_own_at _ rfl _ _ 22 rfl w.heap.size 33 i0 (.agg #[.string ⟨#[]⟩, .string ⟨#[]⟩, .int .i64 0]) 3 40 Try.underlying22 hi hz0 hz1 hz2 rfl (by decide) _ _ _ rfl HO2.out ad (l.length - (P + 1)) c' (grCs (l.drop (P + 1))) rfl ?d1 ?d2 ?d3 ?d4 ?d5 ?d6 ?_)
          case d1 => rw [grCs_len, List.length_drop]
          case d2 =>
            intro j u hj
            rcases HAD.out with e | e
            · rw [List.drop_of_length_le (by omega)] at hj; cases hj
            · have := grs_cells (HV.out.below HB5.out) (P + 1) (l.length - (P + 1)) j u (by rw [List.take_of_length_le (by rw [List.length_drop]; omega)]; exact hj); rw [e]; exact this
          case d3 => exact grCs_one _
          case d4 => unfold maxLen; omega
          case d5 => omega
          case d6 => exact HB5.out.size
          intro v3 w3 hown3 hgrow3 _ _
          have HB6 := (show Hid (Below w.heap.size w w3) from HB5.out.grown hgrow3 HB5.out.size (fun k hk => (World.ownsRow.lt HO2.out k hk).1))
          have hSL : SL = l.take P ++ [⟨t, h, r⟩] ++ l.drop (P + 1) := by rw [HSL.out, HGA.out, if_pos HR0.out]; simp
          have HO3 := (show Hid (w3.ownsRow w.heap.size 33 3 v3 SL.length (grCs SL)) from (by rw [hSL, grCs_app, grCs_app, List.length_append, List.length_append, List.length_take, List.length_drop, Nat.min_eq_left hpl, List.append_assoc]; exact hown3))
          obtain ⟨av3, cv3, hv3⟩ := arow_len HO3.out
          subst hv3
          clear hown3 hgrow3 hSL
          go_wp2
          go_ret2
          exact ⟨⟨_, rfl, HO3.out⟩, HB6.out⟩
        · have HR0 := (show Hid (¬ r ≠ 0) from hr0)
          have hri : (r != 0) = false := by simpa using hr0
          clear hmany hr0 HHL HE
          obtain ⟨ad, c', hfrom, hadr⟩ := grants_from b o l.length cap ((P : Int) + 1) (P + 1) (by omega) (by omega) hcap.1 hcap.2
          have HAD := (show Hid (l.length = (P + 1) ∨ ad = ⟨b, o + (P + 1) * 3, none⟩) from hadr)
          clear hadr
          go_enter Try.func16, Try.ntmps16
          go_wp2_with (first | (go_at_call 11; refine Calls.mono (HR.out _ (HA.out _)) ?_; rintro e u1 ⟨rfl, hb1⟩; have HB1 := (show Hid (Below w.heap.size w u1) from (HA.out _).trans (hb1.mono (HA.out _).size)); have hk := blk_belowA (blk_new w _ _) hb1; have x0 : u1.cell? ⟨w.heap.size, 0, none⟩ = some (strA t) := cell_blkA hk (i := 0) rfl; have x1 : u1.cell? ⟨w.heap.size, 1, none⟩ = some (strA h) := cell_blkA hk (i := 1) rfl; have x2 : u1.cell? ⟨w.heap.size, 2, none⟩ = some (.int .i64 r) := cell_blkA hk (i := 2) rfl; have HK1 := (show Hid _ from hk); clear hb1 hk) | (go_at_call 22; refine Calls.mono (HF.out _) ?_; rintro e u2 ⟨rfl, hb2⟩; have HB2 := (show Hid (Below w.heap.size w u2) from HB1.out.trans (hb2.mono HB1.out.size)); have hk := blk_belowA HK1.out hb2; have y0 : u2.cell? ⟨w.heap.size, 0, none⟩ = some (strA t) := cell_blkA hk (i := 0) rfl; have y1 : u2.cell? ⟨w.heap.size, 1, none⟩ = some (strA h) := cell_blkA hk (i := 1) rfl; have y2 : u2.cell? ⟨w.heap.size, 2, none⟩ = some (.int .i64 r) := cell_blkA hk (i := 2) rfl; have HK2 := (show Hid _ from hk); clear hb2 hk) | (go_at_call 26; refine Calls.mono (HS.out _ HB2.out) ?_; rintro e u3 ⟨rfl, hb3⟩; have HB3 := (show Hid (Below w.heap.size w u3) from HB2.out.trans (hb3.mono HB2.out.size)); have hk := blk_belowA HK2.out hb3; have z0 : u3.cell? ⟨w.heap.size, 0, none⟩ = some (strA t) := cell_blkA hk (i := 0) rfl; have z1 : u3.cell? ⟨w.heap.size, 1, none⟩ = some (strA h) := cell_blkA hk (i := 1) rfl; have z2 : u3.cell? ⟨w.heap.size, 2, none⟩ = some (.int .i64 r) := cell_blkA hk (i := 2) rfl; have HK3 := (show Hid _ from hk); clear hb3 hk) | (at_builtin; refine wpList_append_own_at _ rfl _ _ 22 rfl w.heap.size 33 i0 (.agg #[.string ⟨#[]⟩, .string ⟨#[]⟩, .int .i64 0]) 3 40 Try.underlying22 hi hz0 hz1 hz2 rfl (by decide) _ _ _ rfl (World.ownsRow_nil _ _ _ _) ⟨b, o, none⟩ P cap (grCs (l.take P)) rfl ?d1 ?d2 ?d3 ?d4 ?d5 ?d6 ?_))
          case d1 => rw [grCs_len, List.length_take]; omega
          case d2 => exact fun j u hj => by have := grs_cells (HV.out.below HB3.out) 0 P j u (by simpa using hj); simpa using this
          case d3 => exact grCs_one _
          case d4 => unfold maxLen; omega
          case d5 => omega
          case d6 => exact HB3.out.size
          intro v1 w1 hown1 hgrow1 _ _
          have hb4 : Below u3.heap.size u3 w1 := (Below.refl _ _).grown hgrow1 (Nat.le_refl _) (fun k hk => by cases hk)
          have HB4 := (show Hid (Below w.heap.size w w1) from HB3.out.trans (hb4.mono HB3.out.size))
          have hk4 := blk_belowA HK3.out hb4
          have q0 : w1.cell? ⟨w.heap.size, 0, none⟩ = some (strA t) := cell_blkA hk4 (i := 0) rfl
          have q1 : w1.cell? ⟨w.heap.size, 1, none⟩ = some (strA h) := cell_blkA hk4 (i := 1) rfl
          have q2 : w1.cell? ⟨w.heap.size, 2, none⟩ = some (.int .i64 r) := cell_blkA hk4 (i := 2) rfl
          have HO1 := (show Hid (w1.ownsRow w.heap.size 33 3 v1 P (grCs (l.take P))) from hown1)
          obtain ⟨av1, cv1, hv1⟩ := arow_len HO1.out
          subst hv1
          clear hown1 hgrow1 hb4 hk4 x0 x1 x2 y0 y1 y2 z0 z1 z2 HK1 HK2 HK3 HB1 HB2 HB3 HR HF HS HA
          go_wp2_with (at_builtin; refine wpList_append_own_at _ rfl _ _ 22 rfl w.heap.size 33 i0 (.agg #[.string ⟨#[]⟩, .string ⟨#[]⟩, .int .i64 0]) 3 40 Try.underlying22 hi hz0 hz1 hz2 rfl (by decide) _ _ _ rfl HO1.out ad (l.length - (P + 1)) c' (grCs (l.drop (P + 1))) rfl ?d1 ?d2 ?d3 ?d4 ?d5 ?d6 ?_)
          case d1 => rw [grCs_len, List.length_drop]
          case d2 =>
            intro j u hj
            rcases HAD.out with e | e
            · rw [List.drop_of_length_le (by omega)] at hj; cases hj
            · have := grs_cells (HV.out.below HB4.out) (P + 1) (l.length - (P + 1)) j u (by rw [List.take_of_length_le (by rw [List.length_drop]; omega)]; exact hj); rw [e]; exact this
          case d3 => exact grCs_one _
          case d4 => unfold maxLen; omega
          case d5 => omega
          case d6 => exact HB4.out.size
          intro v3 w3 hown3 hgrow3 _ _
          have HB6 := (show Hid (Below w.heap.size w w3) from HB4.out.grown hgrow3 HB4.out.size (fun k hk => (World.ownsRow.lt HO1.out k hk).1))
          have hSL : SL = l.take P ++ l.drop (P + 1) := by rw [HSL.out, HGA.out, if_neg HR0.out]; simp
          have HO3 := (show Hid (w3.ownsRow w.heap.size 33 3 v3 SL.length (grCs SL)) from (by rw [hSL, grCs_app, List.length_append, List.length_take, List.length_drop, Nat.min_eq_left hpl]; first | exact hown3 | (have e9 : P + (l.length - P) = l.length := (by omega); rw [e9]; exact hown3)))
          obtain ⟨av3, cv3, hv3⟩ := arow_len HO3.out
          subst hv3
          clear hown3 hgrow3 hSL
          go_wp2
          go_ret2
          exact ⟨⟨_, rfl, HO3.out⟩, HB6.out⟩
end Go.Proofs.Ytocfdpjclmieiaa
