/- Logs on a disk whose power does not fail: the calls. -/
import Derived.Test.YtoaabghignilfaaGreatDoorV05
set_option linter.unusedVariables false
namespace Go.Proofs.YtoaabghignilfaaGreatDoor
open Go.RowKit

theorem allR_addG (G : Gs) (g : Nat × Recs) (l : Rec) : allR (addG G g l) = allR (G ++ [g]) ++ [l] := by
  unfold addG
  split <;> simp [allR]
theorem headN_addG (G : Gs) (g : Nat × Recs) (l : Rec) : headN (addG G g l) = headN (G ++ [g]) := by
  unfold addG
  cases G with
  | nil => split <;> rfl
  | cons x G => split <;> rfl
theorem addG_len (G : Gs) (g : Nat × Recs) (l : Rec) : (addG G g l).length ≤ (G ++ [g]).length + 1 := by
  unfold addG
  split <;> simp
theorem bulks_append (A B : Gs) : bulks (A ++ B) = bulks A + bulks B := by unfold bulks; rw [List.map_append, List.sum_append]
theorem bulks_one (g : Nat × Recs) : bulks [g] = bulk g.2 := by simp [bulks]
theorem bulks_addG (G : Gs) (g : Nat × Recs) (l : Rec) : bulks (addG G g l) = bulks (G ++ [g]) + (8 + l.length) := by
  unfold addG
  split
  · rw [bulks_append, bulks_one]; simp [bulk]
  · rw [bulks_append, bulks_append, bulks_one, bulks_one, bulk_append]; simp [bulk]; omega
theorem dropGs_ne : ∀ (G : Gs) (i : Int), G ≠ [] → dropGs G i ≠ []
  | [], _, h => h
  | [g], _, _ => by simp [dropGs]
  | g :: h0 :: r, i, _ => by
    rw [dropGs]
    split
    · exact dropGs_ne (h0 :: r) i (by simp)
    · simp
theorem dropGs_all : ∀ (G : Gs) (i : Int), ChainG G → G ≠ [] → headN G ≤ headN (dropGs G i) ∧ allR (dropGs G i) = (allR G).drop (headN (dropGs G i) - headN G) ∧ headN (dropGs G i) + (allR (dropGs G i)).length = headN G + (allR G).length ∧ ((headN (dropGs G i) : Int) ≤ i ∨ headN (dropGs G i) = headN G)
  | [], _, _, h => absurd rfl h
  | [g], _, _, _ => ⟨Nat.le_refl _, by simp [dropGs], rfl, .inr rfl⟩
  | g :: h0 :: r, i, hc, _ => by
    rw [dropGs]
    split
    · rename_i hle
      obtain ⟨a1, a2, a3, a4⟩ := dropGs_all (h0 :: r) i hc.2.2 (by simp)
      have h1 := hc.1
      have e0 : headN (g :: h0 :: r) = g.1 := rfl
      have e1 : headN (h0 :: r) = h0.1 := rfl
      rw [e1] at a1 a2 a3 a4
      rw [e0]
      refine ⟨by omega, ?_, ?_, ?_⟩
      · have ed : g.2.drop (headN (dropGs (h0 :: r) i) - g.1) = [] := List.drop_of_length_le (by omega)
        rw [a2, allR_cons g, List.drop_append, ed, List.nil_append]
        congr 1
        omega
      · rw [a3, allR_cons g, List.length_append]; omega
      · rcases a4 with a4 | a4
        · exact .inl a4
        · left; rw [a4]; exact hle
    · exact ⟨Nat.le_refl _, by simp, rfl, .inr rfl⟩
theorem dropGs_sub : ∀ (G : Gs) (i : Int), ∀ g ∈ dropGs G i, g ∈ G
  | [], _, _, h => h
  | [g], _, _, h => h
  | g :: h0 :: r, i, x, h => by
    rw [dropGs] at h
    split at h
    · exact List.mem_cons_of_mem _ (dropGs_sub (h0 :: r) i x h)
    · exact h

/-- A new disk and the log that is opened on it. -/
def nd1 : Dk := (openP (newD 1099511627776)).2.1
theorem nd1_e : openP (newD 1099511627776) = (0, nd1, [((1, []) : Nat × Recs)].map gSg) := by kernel_rfl
theorem nd1_s : Str nd1 [(1, [])] ∧ nd1.room = 1099511627776 := by
  have hf : nd1.files = [(nameL 1, ⟨[], 0⟩)] := by kernel_rfl
  have hr : nd1.room = 1099511627776 := by kernel_rfl
  have ha : nd1.ahead = -1 := by kernel_rfl
  have hk : nd1.keep = 0 := by kernel_rfl
  refine ⟨{ ok := { rises := by rw [hf]; exact List.pairwise_singleton _ _, lasts := by intro p hp; rw [hf] at hp; rw [List.mem_singleton.1 hp]; exact Nat.le_refl _, fits := by rw [hf, hr]; show 0 ≤ _; omega, room := by rw [hr]; omega, ahead := by rw [ha]; omega, keep := by rw [hk]; omega, few := by rw [hf]; show 1 ≤ _; omega, small := by rw [hf]; show 0 ≤ _; omega }, up := by kernel_rfl, idle := by rw [ha]; omega, files := by rw [hf]; rfl, chain := trivial, ne := by simp, small := ?_, num := ?_ }, hr⟩
  · intro g hg
    rw [List.mem_singleton.1 hg]
    intro b hb; cases hb
  · intro g hg
    rw [List.mem_singleton.1 hg]
    show 1 ≤ 1 ∧ 1 + 0 ≤ 1000000
    omega

abbrev NoG : Nat → Prop := fun _ => False
theorem LgS.fresh {w0 : World} {b m p : Nat} {d : Dk} {L : List Sg} {w w' : World} (h : LgS w0 b m p d L NoG w) (hb : Below w.heap.size w w') : LgS w0 b m p d L (fun k => w.heap.size ≤ k ∧ k < w'.heap.size) w' :=
  h.own (Fr.of_below _ hb) (fun k hk => hk.elim) (fun k hk => ⟨hk.2, .inr hk.1⟩)
theorem LgS.weak {w0 : World} {b m p : Nat} {d : Dk} {L : List Sg} {G : Nat → Prop} {w : World} (h : LgS w0 b m p d L G w) : LgS w0 b m p d L NoG w := by
  obtain ⟨S, T, vs, q, h1, h2, h3⟩ := h
  exact ⟨S, T, vs, q, h1, h2, fun k hk => hk.elim⟩

/-- A record more; the bytes lie in memory that was just made. -/
theorem strApp {w0 : World} {b m p : Nat} {d : Dk} {G : Gs} {g : Nat × Recs} {w wa : World} (h : LgS w0 b m p d ((G ++ [g]).map gSg) NoG w) (hs : Str d (G ++ [g])) (hb : Below w.heap.size w wa) {a : Option Addr} {n c : Nat} {l : Rec} (ho : OwnB wa w.heap.size (.slice a n c) l) (hln : l.length = n) (hl : n ≤ 8192) (hn : g.1 + g.2.length ≤ 999999) (hr : bulks (G ++ [g]) + 8200 ≤ d.room) (hs2 : bulks (G ++ [g]) + 8200 ≤ 1099511627776) (hf : (G ++ [g]).length + 1 ≤ 1048576) :
    Calls Tryz.prog 18 #[dptr p, .slice a n c] wa fun e w' => ∃ d', e = .returned (.int .i64 0) ∧ LgS w0 b m p d' ((addG G g l).map gSg) NoG w' ∧ Str d' (addG G g l) ∧ d'.room = d.room := by
  obtain ⟨d', e1, e2, e3⟩ := hs.app (l := l) (by omega) hn (by rw [hs.used]; omega) (by rw [hs.used]; omega) (by rw [hs.count]; exact hf)
  have hrow : BRow wa a n c l := by
    have := ho
    subst hln
    exact own_brow ho
  refine (appG (h.fresh hb) (by simp) (fun w' hk _ => brow_keep hrow (fun x hx => hk.2 _ ?_)) (by omega) (by rw [lastS_gs, gSg_next]; omega) (by rw [List.length_map]; exact hf) (by rw [hs.used]; exact hs2) (by rw [hs.count]; exact hf)).mono fun e w' r => ?_
  · have hob : (Value.slice a n c).ownBlock = some x.block := by
      rcases ho.2 with ⟨h1, _⟩ | ⟨g', cap, cur, h1, _⟩
      · have : a = none := congrArg (fun v => match v with | Value.slice a _ _ => a | _ => none) h1
        rw [this] at hx; cases hx
      · have : a = some ⟨g', 0, none⟩ := congrArg (fun v => match v with | Value.slice a _ _ => a | _ => none) h1
        rw [this] at hx ⊢
        cases hx; rfl
    exact ho.lt _ hob
  · rw [e1] at r
    exact ⟨d', r.1, r.2.1.weak, e2, e3⟩
theorem strGet {w0 : World} {b m p : Nat} {d : Dk} {G : Gs} {w : World} (h : LgS w0 b m p d (G.map gSg) NoG w) (hs : Str d G) (i : Nat) (h0 : headN G ≤ i) (h1 : i < headN G + (allR G).length) (hu : bulks G ≤ 1099511627776) :
    Calls Tryz.prog 24 #[dptr p, .int .i64 (i : Int)] w fun e w' => ∃ a c r, (allR G)[i - headN G]? = some r ∧ e = .returned (.tuple #[.slice a r.length c, .int .i64 0]) ∧ BRow w' a r.length c r ∧ Below w.heap.size w w' := by
  obtain ⟨J, g, a1, a2, a3, a4, a5⟩ := chain_at hs.chain i hs.ne h0 h1
  have hg : g ∈ G := List.mem_of_getElem? a1
  obtain ⟨r, hr⟩ : ∃ r, g.2[i - g.1]? = some r := ⟨g.2[i - g.1]'(by omega), List.getElem?_eq_getElem _⟩
  obtain ⟨f1, f2⟩ := hs.find hg
  obtain ⟨e1, e2⟩ := frames_at g.1 g.2 (i - g.1) r hr
  obtain ⟨G', gl, hG⟩ : ∃ G' gl, G = G' ++ [gl] := ⟨G.dropLast, G.getLast hs.ne, (List.dropLast_concat_getLast hs.ne).symm⟩
  obtain ⟨g0, G0, hG0⟩ : ∃ g0 G0, G = g0 :: G0 := by
    cases G with
    | nil => exact absurd rfl hs.ne
    | cons g0 G0 => exact ⟨g0, G0, rfl⟩
  have hnx := hs.chain
  rw [hG] at hnx
  have hnx := chain_next hnx
  rw [← hG] at hnx
  have hh0 : headN G = g0.1 := by rw [hG0]; rfl
  have hpl : (gSg g).pl = 0 :: placesL 0 g.2 := rfl
  have hQ := places_at 0 g.2 (i + 1 - g.1) (by omega)
  have hP := places_at 0 g.2 (i - g.1) (by omega)
  rw [Nat.zero_add] at hP hQ
  rw [show i + 1 - g.1 = i - g.1 + 1 by omega, e1] at hQ
  have hglen := (List.getElem?_eq_some_iff.1 hr).1
  have hb := bulk_take_le g.2 (i - g.1 + 1)
  have hbu : bulk g.2 ≤ bulks G := by
    obtain ⟨A, B, hAB⟩ := List.append_of_mem hg
    rw [hAB, bulks_append, show g :: B = [g] ++ B from rfl, bulks_append, bulks_one]; omega
  have := getG h hs.riseL (s0 := gSg g0) (sl := gSg gl) (L0 := G0.map gSg) (L1 := G'.map gSg) (by rw [hG0]; rfl) (by rw [hG, List.map_append]; rfl) i J (by show g0.1 ≤ i; omega) (by rw [gSg_next]; omega) (by have := hs.num g hg; omega) a4 g.1 (0 :: placesL 0 g.2) (by rw [List.getElem?_map, a1]; rfl) a2 (by rw [List.length_cons, placesL_length]; omega) (bulk (g.2.take (i - g.1))) (bulk (g.2.take (i - g.1)) + (8 + r.length)) hP (by rw [show i + 1 - g.1 = i - g.1 + 1 by omega]; exact hQ) (by omega) (by omega) (by rw [hs.used]; exact hu) f1 (by rw [f2, framesL_length]; omega)
  rw [show bulk (g.2.take (i - g.1)) + (8 + r.length) - (bulk (g.2.take (i - g.1)) + 8) = r.length by omega, f2, e2] at this
  refine this.mono fun e w' q => ?_
  obtain ⟨a, c, q1, q2, q3⟩ := q
  exact ⟨a, c, r, by rw [a5]; exact hr, q1, q2, q3⟩
/-- Opened anew while another log is held on the same disk. -/
theorem strOpen2 {w0 : World} {b m p : Nat} {d : Dk} {G : Gs} {w : World} (h : LgS w0 b m p d (G.map gSg) NoG w) (hs : Str d G) (hlt : ∀ g ∈ G, g.1 < 1000000) (hu : bulks G ≤ 1099511627776) (hf : G.length + 1 ≤ 1048576) :
    Calls Tryz.prog 16 #[dptr b] w fun e w' => ∃ p2 d', e = .returned (.tuple #[dptr p2, .int .i64 0]) ∧ LgS w0 b m p d' (G.map gSg) NoG w' ∧ LgS w0 b m p2 d' (G.map gSg) NoG w' ∧ Str d' G ∧ d'.room = d.room := by
  obtain ⟨d', e1, e2, e3⟩ := hs.open hlt
  obtain ⟨S, T, vs, q, h1, h2, h3⟩ := h
  refine (Open_any h1.lv h1.tb hs.short (by rw [hs.used]; exact hu) (by rw [hs.count]; exact hf)).mono fun e w' r => ?_
  obtain ⟨p2, r1, S', T', vs', q', r2, r3, r4⟩ := r
  rw [e1] at r1 r2 r3
  refine ⟨p2, d', r1, ⟨S', T, vs, q, ⟨r2.lv, h1.lg.keep r4.1.size (fun k hk => r4.1.block k (h1.lg.lt k hk) (fun e => e.elim (h1.ap k hk) id)), h1.ge, fun k hk hS => ?_, h1.tb⟩, h2, fun k hk => hk.elim⟩, ⟨S', T', vs', q', r2, r3, fun k hk => hk.elim⟩, e2, e3⟩
  rcases r4.2 k (.inl hS) with e | e
  · exact e.elim (h1.ap k hk) id
  · have := h1.lg.lt k hk; omega
theorem strDrop {w0 : World} {b m p : Nat} {d : Dk} {G : Gs} {w : World} (h : LgS w0 b m p d (G.map gSg) NoG w) (hs : Str d G) (i : Int) : Calls Tryz.prog 30 #[dptr p, .int .i64 i] w fun e w' => ∃ d', e = .returned (.int .i64 0) ∧ LgS w0 b m p d' ((dropGs G i).map gSg) NoG w' ∧ Str d' (dropGs G i) ∧ d'.room = d.room := by
  obtain ⟨d', e1, e2, e3⟩ := hs.drop i
  refine (dropG h (by simp; exact hs.ne) i).mono fun e w' r => ?_
  rw [e1] at r
  exact ⟨d', r.1, r.2.1, e2, e3⟩
end Go.Proofs.YtoaabghignilfaaGreatDoor
