/- The document's Define in layer 6: what it answers. -/
import Derived.Test.YtadghfgjdfgopaaDoorJDefB
import Derived.Test.YtadghfgjdfgopaaDoorJDefC
set_option linter.unusedVariables false
namespace Go.Proofs.YtadghfgjdfgopaaDoor
open Go.RowKit

theorem zero_of {l a b c : List UInt8} {m : Nat} (h : defR l = ((a, b, c), m)) (hn : defR l = noDef) : Hid (ByteArray.mk a.toArray = ⟨#[]⟩ ∧ ByteArray.mk b.toArray = ⟨#[]⟩ ∧ ByteArray.mk c.toArray = ⟨#[]⟩ ∧ (m : Int) = 0) := by
  rw [hn] at h
  cases h
  exact ⟨rfl, rfl, rfl, rfl⟩
theorem some_of {l a b c x y z : List UInt8} {m k : Nat} (h : defR l = ((a, b, c), m)) (hn : defR l = ((x, y, z), k)) : Hid (ByteArray.mk a.toArray = ⟨x.toArray⟩ ∧ ByteArray.mk b.toArray = ⟨y.toArray⟩ ∧ ByteArray.mk c.toArray = ⟨z.toArray⟩ ∧ (m : Int) = (k : Int)) := by
  rw [hn] at h
  cases h
  exact ⟨rfl, rfl, rfl, rfl⟩
theorem none_of {l : List UInt8} (h : defineL l = none) : defR l = noDef := by unfold defR; rw [h]
theorem got_of {l r : List UInt8} {x : List UInt8 × List UInt8 × List UInt8} (h : defineL l = some (x, r)) : defR l = (x, l.length - r.length) := by unfold defR; rw [h]

theorem suf_str {s : ByteArray} {l : List UInt8} (h : Suf s l) : (s.extract (pos s l) s.size).data.toList = l ∧ (s.extract (pos s l) s.size).size ≤ s.size := ⟨by rw [h.ext], ext_size ..⟩

set_option maxHeartbeats 2000000 in
theorem jdefine_at (s : ByteArray) (hs : s.size ≤ 140737488351232) (a b c : List UInt8) (m : Nat) (h : Hid (defR s.data.toList = ((a, b, c), m))) (w : World) :
    Calls Tryd.prog 16 #[.string s] w fun e w' => e = .returned (.tuple #[defV (a, b, c), .int .i64 (m : Int)]) ∧ Below w.heap.size w w' := by
  have hh := h.out
  have hlen := len_data s
  obtain ⟨T, hT⟩ : ∃ T, threeL 3 s.data.toList = T := ⟨_, rfl⟩
  have hTs : Suf s T := by
    obtain ⟨g, e⟩ := three_suf 3 s.data.toList
    exact ⟨g, by rw [← hT]; exact e⟩
  have hTsum := hTs.sum
  obtain ⟨q0l, q0z⟩ := suf_str hTs
  cases hlab : labelL T with
  | none =>
    have hdn : defineL s.data.toList = none := by unfold defineL; rw [hT, hlab]
    exact jdef_A s hs T hT ⟨#[]⟩ _ rfl (fun w => jlabel_at _ (by omega) [] 0 (by show _ = _; rw [q0l, hlab]; rfl) w) _ _ _ _ (zero_of hh (none_of hdn)) w
  | some un =>
    obtain ⟨u, n⟩ := un
    have HL : Hid (C2 10 (s.extract (pos s T) s.size) ⟨u.toArray⟩ n) := fun w => jlabel_at _ (by omega) u n (by show _ = _; rw [q0l, hlab]; rfl) w
    obtain ⟨hn1, _, hu9, r0, hTr, _⟩ := label_is hlab
    have hnT : n ≤ T.length := by rw [hTr, List.length_append]; simp; omega
    have hn0 : ((n : Int) == 0) = false := by rw [beq_eq_false_iff_ne]; omega
    have hpd := pos_drop hTs hnT
    have hDs := hTs.drop n
    cases hD : T.drop n with
    | nil =>
      have hdn : defineL s.data.toList = none := by unfold defineL; rw [hT, hlab]; simp only; rw [hD]
      rw [hD, pos_nil] at hpd
      exact jdef_B s hs T hT ⟨u.toArray⟩ _ n rfl HL hn0 (by omega) _ _ _ _ (zero_of hh (none_of hdn)) w
    | cons x t =>
      rw [hD] at hpd hDs
      have hlt := hDs.lt
      have hxb := hDs.byte hlt
      by_cases hx : x = 58
      · subst hx
        have hts := hDs.tail
        have hsucc := hDs.succ
        have htsum := hts.sum
        have hdef : definedL s.data.toList = (u, pos s t) := by
          unfold definedL
          rw [hT, hlab]
          simp only
          rw [hD]
          simp only
          rw [if_pos trivial, hlen]
          rfl
        obtain ⟨_, _, hd⟩ := defined_some hdef (by omega)
        rw [hts.at] at hd
        have hgs := hts.gap 0
        obtain ⟨q1l, q1z⟩ := suf_str hgs
        have HG1 : Hid (CZ 35 s (pos s t) (pos s (gapL 0 t) : Int)) := fun w => jgap_any s (by omega) t hts _ rfl w
        have hpg := pos_le s (gapL 0 t)
        generalize gapL 0 t = g at *
        cases hde : destL g with
        | none =>
          rw [hde] at hd
          exact jdef_D0 s hs T hT ⟨u.toArray⟩ _ n rfl HL hn0 (pos s (58 :: t)) (by omega) hlt hxb (pos s t) (by omega) (pos s g) HG1 (by omega) _ rfl ⟨#[]⟩ (fun w => jdest_at _ (by omega) [] 0 (by show _ = _; rw [q1l, hde]; rfl) w) _ _ _ _ (zero_of hh (none_of hd)) w
        | some dk =>
          obtain ⟨d, k⟩ := dk
          rw [hde] at hd
          simp only at hd
          have HDe : Hid (C2 12 (s.extract (pos s g) s.size) ⟨d.toArray⟩ k) := fun w => jdest_at _ (by omega) d k (by show _ = _; rw [q1l, hde]; rfl) w
          obtain ⟨hk0, hkg⟩ := dest_pos hde
          have hk1 : ((k : Int) == 0) = false := by rw [beq_eq_false_iff_ne]; omega
          have hpy := pos_drop hgs hkg
          have hys := hgs.drop k
          have HF : Hid (∀ w, Calls Tryd.prog 17 #[.string ⟨u.toArray⟩] w fun e w' => e = .returned (.string ⟨(fold u).toArray⟩) ∧ Below w.heap.size w w') := fun w => by
            have := run.reffold_any ⟨u.toArray⟩ w (by rw [size_list]; omega)
            rw [list_data] at this
            exact this
          generalize g.drop k = y at *
          have hysum := hys.sum
          have hGs := hys.gap 0
          have hGsum := hGs.sum
          obtain ⟨q2l, q2z⟩ := suf_str hGs
          have HG2 : Hid (CZ 35 s (pos s y) (pos s (gapL 0 y) : Int)) := fun w => jgap_any s (by omega) y hys _ rfl w
          have HN2 : Hid (CZ 36 s (pos s y) (lineZ s y)) := fun w => jline_any s (by omega) y hys _ rfl w
          unfold tailO at hd
          generalize gapL 0 y = G at *
          have hsufr : ∀ {z r : List UInt8}, Suf s z → lineL z = some r → s.data.toList.length - r.length = pos s r := fun {z r} _ _ => by rw [hlen]; rfl
          cases htl : titleL G with
          | none =>
            rw [htl] at hd
            simp only at hd
            have HT : Hid (C2 14 (s.extract (pos s G) s.size) ⟨#[]⟩ 0) := fun w => jtitle_at _ (by omega) [] 0 (by show _ = _; rw [q2l, htl]; rfl) w
            cases hln : lineL y with
            | none =>
              rw [hln] at hd
              have hz2 : lineZ s y = -1 := by unfold lineZ; rw [hln]
              rw [hz2] at HN2
              exact jdef_ia_none s hs T hT ⟨u.toArray⟩ _ n rfl HL hn0 (pos s (58 :: t)) (by omega) hlt hxb (pos s t) (by omega) (pos s g) HG1 (by omega) _ rfl ⟨d.toArray⟩ k HDe hk1 (pos s y) (by omega) (by omega) _ HF (pos s G) HG2 (by omega) _ rfl ⟨#[]⟩ 0 HT (by omega) HN2 _ _ _ _ (zero_of hh (none_of hd)) w
            | some r =>
              rw [hln] at hd
              have hz2 : lineZ s y = (pos s r : Int) := by unfold lineZ; rw [hln]
              rw [hz2] at HN2
              have hg := got_of hd
              rw [hsufr hys hln] at hg
              exact jdef_ia_some s hs T hT ⟨u.toArray⟩ _ n rfl HL hn0 (pos s (58 :: t)) (by omega) hlt hxb (pos s t) (by omega) (pos s g) HG1 (by omega) _ rfl ⟨d.toArray⟩ k HDe hk1 (pos s y) (by omega) (by omega) _ HF (pos s G) HG2 (by omega) _ rfl ⟨#[]⟩ 0 HT (by omega) (pos s r) HN2 _ _ _ _ (some_of hh hg) w
          | some xm =>
            obtain ⟨tt, mm⟩ := xm
            rw [htl] at hd
            simp only at hd
            have HT : Hid (C2 14 (s.extract (pos s G) s.size) ⟨tt.toArray⟩ mm) := fun w => jtitle_at _ (by omega) tt mm (by show _ = _; rw [q2l, htl]; rfl) w
            obtain ⟨hm2, hmG⟩ := title_pos htl
            by_cases hgl : G.length < y.length
            · rw [if_pos hgl] at hd
              have hp4 := pos_drop hGs hmG
              have hRs := hGs.drop mm
              have HN1 : Hid (CZ 36 s (pos s (G.drop mm)) (lineZ s (G.drop mm))) := fun w => jline_any s (by omega) _ hRs _ rfl w
              cases hl1 : lineL (G.drop mm) with
              | some r =>
                rw [hl1] at hd
                have hz1 : lineZ s (G.drop mm) = (pos s r : Int) := by unfold lineZ; rw [hl1]
                rw [hz1] at HN1
                have hg := got_of hd
                rw [hsufr hRs hl1] at hg
                exact jdef_ii s hs T hT ⟨u.toArray⟩ _ n rfl HL hn0 (pos s (58 :: t)) (by omega) hlt hxb (pos s t) (by omega) (pos s g) HG1 (by omega) _ rfl ⟨d.toArray⟩ k HDe hk1 (pos s y) (by omega) (by omega) _ HF (pos s G) HG2 (by omega) _ rfl ⟨tt.toArray⟩ mm HT (by omega) (by omega) (pos s (G.drop mm)) (by omega) (by omega) (pos s r) HN1 _ _ _ _ (some_of hh hg) w
              | none =>
                rw [hl1] at hd
                have hz1 : lineZ s (G.drop mm) = -1 := by unfold lineZ; rw [hl1]
                rw [hz1] at HN1
                simp only at hd
                cases hln : lineL y with
                | none =>
                  rw [hln] at hd
                  have hz2 : lineZ s y = -1 := by unfold lineZ; rw [hln]
                  rw [hz2] at HN2
                  exact jdef_ii_none s hs T hT ⟨u.toArray⟩ _ n rfl HL hn0 (pos s (58 :: t)) (by omega) hlt hxb (pos s t) (by omega) (pos s g) HG1 (by omega) _ rfl ⟨d.toArray⟩ k HDe hk1 (pos s y) (by omega) (by omega) _ HF (pos s G) HG2 (by omega) _ rfl ⟨tt.toArray⟩ mm HT (by omega) (by omega) (pos s (G.drop mm)) (by omega) (by omega) HN1 HN2 _ _ _ _ (zero_of hh (none_of hd)) w
                | some r =>
                  rw [hln] at hd
                  have hz2 : lineZ s y = (pos s r : Int) := by unfold lineZ; rw [hln]
                  rw [hz2] at HN2
                  have hg := got_of hd
                  rw [hsufr hys hln] at hg
                  exact jdef_ii_some s hs T hT ⟨u.toArray⟩ _ n rfl HL hn0 (pos s (58 :: t)) (by omega) hlt hxb (pos s t) (by omega) (pos s g) HG1 (by omega) _ rfl ⟨d.toArray⟩ k HDe hk1 (pos s y) (by omega) (by omega) _ HF (pos s G) HG2 (by omega) _ rfl ⟨tt.toArray⟩ mm HT (by omega) (by omega) (pos s (G.drop mm)) (by omega) (by omega) HN1 (pos s r) HN2 _ _ _ _ (some_of hh hg) w
            · rw [if_neg hgl] at hd
              cases hln : lineL y with
              | none =>
                rw [hln] at hd
                have hz2 : lineZ s y = -1 := by unfold lineZ; rw [hln]
                rw [hz2] at HN2
                exact jdef_ib_none s hs T hT ⟨u.toArray⟩ _ n rfl HL hn0 (pos s (58 :: t)) (by omega) hlt hxb (pos s t) (by omega) (pos s g) HG1 (by omega) _ rfl ⟨d.toArray⟩ k HDe hk1 (pos s y) (by omega) (by omega) _ HF (pos s G) HG2 (by omega) _ rfl ⟨tt.toArray⟩ mm HT (by omega) (by omega) HN2 _ _ _ _ (zero_of hh (none_of hd)) w
              | some r =>
                rw [hln] at hd
                have hz2 : lineZ s y = (pos s r : Int) := by unfold lineZ; rw [hln]
                rw [hz2] at HN2
                have hg := got_of hd
                rw [hsufr hys hln] at hg
                exact jdef_ib_some s hs T hT ⟨u.toArray⟩ _ n rfl HL hn0 (pos s (58 :: t)) (by omega) hlt hxb (pos s t) (by omega) (pos s g) HG1 (by omega) _ rfl ⟨d.toArray⟩ k HDe hk1 (pos s y) (by omega) (by omega) _ HF (pos s G) HG2 (by omega) _ rfl ⟨tt.toArray⟩ mm HT (by omega) (by omega) (pos s r) HN2 _ _ _ _ (some_of hh hg) w
      · have hdn : defineL s.data.toList = none := by
          unfold defineL
          rw [hT, hlab]
          simp only
          rw [hD]
          simp only
          rw [if_neg hx]
        exact jdef_C s hs T hT ⟨u.toArray⟩ _ n rfl HL hn0 (pos s (x :: t)) (by omega) hlt x hxb (by rw [beq_eq_false_iff_ne]; intro e; exact hx (UInt8.toNat_inj.1 (by show _ = 58; omega))) _ _ _ _ (zero_of hh (none_of hdn)) w

end Go.Proofs.YtadghfgjdfgopaaDoor
