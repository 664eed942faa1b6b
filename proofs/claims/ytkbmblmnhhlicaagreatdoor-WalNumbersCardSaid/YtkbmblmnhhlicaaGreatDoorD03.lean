/- Several texts in one. -/
import Derived.Test.YtkbmblmnhhlicaaGreatDoorDDeed3
import Derived.Maps.AppendAt
import Derived.Lib.SlBytesConst
set_option linter.unusedVariables false
/- Package disk: Append; walked. -/
namespace Go.Proofs.YtkbmblmnhhlicaaGreatDoor
open Go.RowKit

/-- Bytes that may be read, put behind a row: where it then lies. -/
theorem append_row {w : World} {v : Value} {acc l : List UInt8} {a : Option Addr} {len cap : Nat} (hown : OwnB w 0 v acc) (h : BRow w a len cap l) (hlen : acc.length + len ≤ 140737488355328) (ty : TypeId) :
    ∃ vo w2, (Builtin.append_ #[34, 34] ty #[v, .slice a len cap]).run Tryz.prog w = .ok vo w2 ∧ OwnB w2 0 vo (acc ++ l) ∧ w.grownBy w2 v.ownBlock ∧ (vo.ownBlock = v.ownBlock ∨ vo.ownBlock = some w.heap.size) := by
  obtain ⟨i0, hi, hz0, hz1, hz2⟩ := info_parts info5
  obtain ⟨rfl, h2⟩ := h
  rcases h2 with ⟨rfl, h3, rfl⟩ | ⟨x, rfl, hc⟩
  · have hl : l = [] := List.eq_nil_of_length_eq_zero h3
    subst hl
    exact ⟨_, _, run_append_owned_none (P := Tryz.prog) _ 0 34 ty 5 i0 1 Tryz.underlying34 hi _ _ _ hown, by simpa using hown, ⟨rfl, rfl, rfl, Nat.le_refl _, fun _ _ _ => rfl⟩, .inl rfl⟩
  · obtain ⟨vo, w2, hr, h4, h5, _, h6⟩ := run_append_own_at (P := Tryz.prog) w 0 34 ty 5 i0 (.int .u8 0) 1 1 Tryz.underlying34 hi hz0 hz1 hz2 rfl (by decide) v acc.length (Lib.byteCells acc) hown x l.length cap (Lib.byteCells l) (by rw [Lib.byteCells_length]; omega)
      (by
        intro j u hj
        have hjl : j < l.length := by
          have := (List.getElem?_eq_some_iff.1 hj).1
          rwa [Lib.byteCells_length] at this
        simp [Lib.byteCells, hjl] at hj
        rw [← hj]; exact hc j hjl)
      (by intro u hu; simp only [Lib.byteCells, List.mem_map] at hu; obtain ⟨_, _, rfl⟩ := hu; rfl)
      (by unfold maxLen; omega) (by omega) (Nat.zero_le _)
    exact ⟨vo, w2, hr, own_push h4 rfl rfl, h5, h6⟩

theorem wpList_app {w : World} {v : Value} {acc l : List UInt8} {a : Option Addr} {len cap : Nat} (hown : OwnB w 0 v acc) (h : BRow w a len cap l) (hlen : acc.length + len ≤ 140737488355328)
    {ops : Array Oper} {rest : List Oper} {o : Oper} {c : Act} {Q : Exit → Act → World → Prop} (hgd : o.guard = none) (sl x : Operand)
    (ho : o.op = .call { callee := .builtin .append, args := #[sl, x], argTypes := #[34, 34] })
    (hs : c.eval sl = v) (hx : c.eval x = .slice a len cap)
    (hk : ∀ va vc w2, OwnB w2 0 (.slice va (acc ++ l).length vc) (acc ++ l) → w.grownBy w2 v.ownBlock → ((Value.slice va (acc ++ l).length vc).ownBlock = v.ownBlock ∨ (Value.slice va (acc ++ l).length vc).ownBlock = some w.heap.size) → wpList Tryz.prog ops Q rest (c.put o.dst (.slice va (acc ++ l).length vc)) w2) :
    wpList Tryz.prog ops Q (o :: rest) c w := by
  refine wpList_plain hgd fun K hK => ?_
  obtain ⟨vo, w2, hr, h2, h3, h4⟩ := append_row hown h hlen o.type
  obtain ⟨va, vc, rfl⟩ := own_slice h2
  unfold Oper.wp execOp
  simp only [ho, resolve, invoke, builtin, Sem.run_bind, Sem.run_pure, Result.andThen_ok, List.map_toArray, List.map_cons, List.map_nil, hs, hx, hr]
  exact hK _ _ (hk va vc w2 h2 h3 h4)

/-- The file's row has grown, or moved; the rest of the disk is as it was. -/
theorem DkW.appended {w w' : World} {b m : Nat} {S S2 : Nat → Prop} {sl : Nm → Value} {d : Dk} {n : Nm} (h : DkW w b m S sl none d) {v : Value} {acc : List UInt8} (hv : OwnB w 0 v acc) (hs : (getA n d.files).isSome = true → sl n = v) (hn : (getA n d.files).isSome = false → v.ownBlock = none)
    (hz : w.heap.size ≤ w'.heap.size) (hk : ∀ j, j < w.heap.size → v.ownBlock ≠ some j → w'.heap[j]? = w.heap[j]?) (h1 : ∀ k, S k → S2 k) (h2 : ∀ k, S2 k → k < w'.heap.size) : DkW w' b m S2 sl (some n) d := by
  have hb : v.ownBlock ≠ some b := by
    intro e
    obtain ⟨cur, hc⟩ := ownB_block hv e
    exact (h.ne_bg hc).1 rfl
  have hm : v.ownBlock ≠ some m := by
    intro e
    obtain ⟨cur, hc⟩ := ownB_block hv e
    exact (h.ne_bg hc).2 rfl
  refine { blk := (hk b (lt_blk h.blk) hb).trans h.blk, map := mapv_keep h.map (hk m (mapv_lt h.map) hm), rows := ?_, apart := h.apart, sb := h1 _ h.sb, sm := h1 _ h.sm, sr := fun p hp g hg => h1 _ (h.sr p hp g hg), lt := h2, ok := h.ok, names := h.names, shape := h.shape }
  intro p hp hx
  have ho := h.rows p hp (by simp)
  refine ownB_keep ho (fun g hg => ?_)
  obtain ⟨cur, hc⟩ := ownB_block ho hg
  refine hk g (lt_blk hc) (fun e => ?_)
  have hpn : p.1 ≠ n := fun e => hx (by rw [e])
  cases hg2 : getA n d.files with
  | none => rw [hn (by rw [hg2]; rfl)] at e; cases e
  | some f =>
    have hsn := hs (by rw [hg2]; rfl)
    exact h.apart p hp (n, f) (getA_mem hg2) hpn g hg (by simp only; rw [hsn]; exact e)

/-- Behind the append: the new row laid into the file's own block. -/
theorem app_step {w wa w2 : World} {b m : Nat} {S : Nat → Prop} {sl : Nm → Value} {d : Dk} {n : Nm} {oa va : Option Addr} {oc vc nl : Nat} {obs bs : List UInt8} {x y : Value} (h : DkW w b m S sl none d) (hv : OwnB w 0 (.slice oa obs.length oc) obs)
    (hs1 : (getA n d.files).isSome = true → sl n = .slice oa obs.length oc) (hs2 : (getA n d.files).isSome = false → (Value.slice oa obs.length oc).ownBlock = none) (hBA : Below w.heap.size w wa) (hwa : wa.heap.size = w.heap.size + 1) (hblk : Blk2 wa w.heap.size 125 x y)
    (hown : OwnB w2 0 (.slice va nl vc) bs) (hg : wa.grownBy w2 (Value.slice oa obs.length oc).ownBlock) (hat : (Value.slice va nl vc).ownBlock = (Value.slice oa obs.length oc).ownBlock ∨ (Value.slice va nl vc).ownBlock = some (w.heap.size + 1)) :
    Blk2 w2 w.heap.size 125 x y ∧ ∃ S2 : Nat → Prop, DkW (w2.setCell ⟨w.heap.size, 0, none⟩ (.slice va nl vc)) b m S2 sl (some n) d ∧ Fr S w (w2.setCell ⟨w.heap.size, 0, none⟩ (.slice va nl vc)) ∧ (∀ k, S2 k → S k ∨ w.heap.size ≤ k) ∧
      OwnB (w2.setCell ⟨w.heap.size, 0, none⟩ (.slice va nl vc)) 0 (.slice va nl vc) bs ∧ ∀ g, (Value.slice va nl vc).ownBlock = some g → S2 g ∧ ∀ q ∈ d.files, q.1 ≠ n → (sl q.1).ownBlock ≠ some g := by
  have hvlt : ∀ g, (Value.slice oa obs.length oc).ownBlock = some g → g < w.heap.size := fun g hg' => by
    obtain ⟨cur, hc⟩ := ownB_block hv hg'
    exact lt_blk hc
  have hvS : ∀ g, (Value.slice oa obs.length oc).ownBlock = some g → S g ∧ ∀ q ∈ d.files, q.1 ≠ n → (sl q.1).ownBlock ≠ some g := fun g hg' => by
    cases hgn : getA n d.files with
    | none => rw [hs2 (by rw [hgn]; rfl)] at hg'; cases hg'
    | some f =>
      have e := hs1 (by rw [hgn]; rfl)
      rw [← e] at hg'
      exact ⟨h.sr _ (getA_mem hgn) g hg', fun q hq hne => h.apart _ (getA_mem hgn) q hq (fun e => hne e.symm) g hg'⟩
  have hB2 : Blk2 w2 w.heap.size 125 x y := (hg.block _ (by omega) (fun e => by have := hvlt _ e.symm; omega)).trans hblk
  have hkeep : ∀ j, j < w.heap.size → (Value.slice oa obs.length oc).ownBlock ≠ some j → (w2.setCell ⟨w.heap.size, 0, none⟩ (.slice va nl vc)).heap[j]? = w.heap[j]? := by
    intro j hj hne
    rw [set_other _ (by omega), hg.block j (by omega) (fun e => hne e.symm)]
    exact hBA.block j hj
  have hz : w.heap.size ≤ (w2.setCell ⟨w.heap.size, 0, none⟩ (.slice va nl vc)).heap.size := by rw [set_size]; have := hg.size; omega
  refine ⟨hB2, fun j => S j ∨ (Value.slice va nl vc).ownBlock = some j, ?_, ?_, ?_, ?_, ?_⟩
  · refine h.appended hv hs1 hs2 hz hkeep (fun k hk => .inl hk) (fun k hk => ?_)
    rcases hk with hk | hk
    · exact Nat.lt_of_lt_of_le (h.lt k hk) hz
    · obtain ⟨cur, hc⟩ := ownB_block hown hk
      rw [set_size]
      exact lt_blk hc
  · refine ⟨?_, ?_, ?_, hz, fun k hk hn => hkeep k hk (fun e => hn (hvS k e).1)⟩
    · exact hg.os.trans hBA.os
    · exact hg.tape.trans hBA.tape
    · exact hg.output.trans hBA.output
  · intro k hk
    rcases hk with hk | hk
    · exact .inl hk
    · rcases hat with e | e
      · rw [e] at hk; exact .inl (hvS k hk).1
      · rw [e] at hk; cases hk; right; omega
  · refine ownB_keep hown (fun g hg' => set_other _ ?_)
    rcases hat with e | e
    · rw [e] at hg'; have := hvlt g hg'; omega
    · rw [e] at hg'; cases hg'; omega
  · intro g hg'
    refine ⟨.inr hg', ?_⟩
    rcases hat with e | e
    · rw [e] at hg'; exact (hvS g hg').2
    · rw [e] at hg'; cases hg'
      intro q hq hne e2
      have := h.lt _ (h.sr q hq _ e2)
      omega

abbrev oldF (d : Dk) (n : Nm) : Fl := (getA n d.files).getD ⟨[], 0⟩
def addD (d : Dk) (n : Nm) (l : List UInt8) : Dk := { d with files := putA n ⟨(oldF d n).bs ++ l, (oldF d n).la⟩ d.files }
def appendP (d : Dk) (n : Nm) (l : List UInt8) : Nat × Dk :=
  if d.up = false then (13, d) else if mayN n = false then (1, d) else if d.room < usedL d.files + l.length then (14, d) else (if d.ahead = 0 then 13 else 0, failD (addD d n l))

/-- What is told of a call on a disk that may take new memory. -/
def DidS (w : World) (b m : Nat) (S : Nat → Prop) (d : Dk) (w' : World) : Prop := ∃ S' sl, DkW w' b m S' sl none d ∧ Fr S w w' ∧ ∀ k, S' k → S k ∨ w.heap.size ≤ k
theorem Did.toS {w : World} {b m : Nat} {S : Nat → Prop} {d : Dk} {w' : World} (h : Did w b m S d w') : DidS w b m S d w' := by
  obtain ⟨⟨sl, h1⟩, h2⟩ := h
  exact ⟨S, sl, h1, h2, fun k hk => .inl hk⟩

set_option maxHeartbeats 2000000 in
set_option maxRecDepth 20000 in
theorem append_any {w : World} {b m : Nat} {S : Nat → Prop} {sl : Nm → Value} {d : Dk} (h : DkW w b m S sl none d) (n : Nm) (hn : n.length ≤ 140737488355328) {a : Option Addr} {len cap : Nat} {l : List UInt8} (hrow : BRow w a len cap l) (hsm : usedL d.files + l.length ≤ 1099511627776) (hfew : d.files.length + 1 ≤ 1048576) :
    Calls Tryz.prog 43 #[dptr b, strN n, .slice a len cap] w fun e w' => e = .returned (.int .i64 ((appendP d n l).1 : Int)) ∧ DidS w b m S (appendP d n l).2 w' := by
  have hlen : l.length = len := hrow.1
  subst hlen
  have c3 := h.c3
  have HD : Hid (DkW w b m S sl none d) := h
  have hMN := mayName_any n hn
  unfold appendP
  cases hu : d.up with
  | false =>
    rw [hu] at c3
    rw [if_pos rfl]
    clear h hrow hsm
    go_enter Tryz.func43, Tryz.ntmps43
    go_wp2
    go_ret
    exact ⟨rfl, Did.toS ⟨⟨sl, HD.out⟩, Fr.refl S w⟩⟩
  | true =>
    rw [hu] at c3
    rw [if_neg (by decide)]
    cases hm : mayN n with
    | false =>
      rw [hm] at hMN
      rw [if_pos rfl]
      clear h hrow hsm
      go_enter Tryz.func43, Tryz.ntmps43
      go_wp2_with (go_at_call 112; refine (hMN _).mono ?_; rintro e wm ⟨rfl, hw⟩; subst wm)
      go_ret
      exact ⟨rfl, Did.toS ⟨⟨sl, HD.out⟩, Fr.refl S w⟩⟩
    | true =>
      rw [hm] at hMN
      rw [if_neg (by decide)]
      have c0 := h.c0
      have c1 := h.c1
      have hfit := h.ok.fits
      have hroom := h.ok.room
      obtain ⟨U, hU⟩ : ∃ U, U = usedL d.files := ⟨_, rfl⟩
      obtain ⟨R, hR⟩ : ∃ R, R = d.room := ⟨_, rfl⟩
      rw [← hU] at c1 hsm hfit ⊢
      rw [← hR] at c0 hroom hfit ⊢
      have HU : Hid (U = usedL d.files) := hU
      have HR : Hid (R = d.room) := hR
      have HRow : Hid (BRow w a l.length cap l) := hrow
      have i1 : (U : Int) ≤ 1099511627776 := by omega
      have i2 : (R : Int) ≤ 9223372036854775807 := by omega
      have i3 : (l.length : Int) ≤ 1099511627776 := by omega
      have i4 : (U : Int) ≤ (R : Int) := by omega
      by_cases hfull : R < U + l.length
      · rw [if_pos hfull]
        have q : decide ((R : Int) - (U : Int) < (l.length : Int)) = true := by simp; omega
        clear h hrow hsm hU hR hfull hfit hroom
        go_enter Tryz.func43, Tryz.ntmps43
        go_wp2_with (go_at_call 112; refine (hMN _).mono ?_; rintro e wm ⟨rfl, hw⟩; subst wm)
        go_region
        go_wp2
        go_ret
        exact ⟨rfl, Did.toS ⟨⟨sl, HD.out.drew⟩, (Fr.refl S w).drew⟩⟩
      · rw [if_neg hfull]
        have q : decide ((R : Int) - (U : Int) < (l.length : Int)) = false := by simp; omega
        obtain ⟨oa, oc, hlook, hsome, hslo, hnone⟩ := h.look n
        have l1 : (Instr.lookup 85 (.map (some m)) (.string ⟨n.toArray⟩) false).run Tryz.prog w.drew = .ok (.agg #[.slice oa (oldF d n).bs.length oc, .int .i64 ((oldF d n).la : Int)]) w.drew := by
          rw [mapv_look h.drew.map n hn, hlook]
        have hown : OwnB w 0 (.slice oa (oldF d n).bs.length oc) (oldF d n).bs := by
          cases hg : getA n d.files with
          | none =>
            have hx := hnone (by rw [hg]; rfl)
            obtain ⟨rfl, rfl⟩ := hx
            show OwnB w 0 (.slice none ((getA n d.files).getD ⟨[], 0⟩).bs.length 0) ((getA n d.files).getD ⟨[], 0⟩).bs
            rw [hg]
            exact own_nil w 0
          | some f =>
            have q1 := h.rows _ (getA_mem hg) (by simp)
            simp only at q1
            rw [hslo (by rw [hg]; rfl)] at q1
            show OwnB w 0 (.slice oa ((getA n d.files).getD ⟨[], 0⟩).bs.length oc) ((getA n d.files).getD ⟨[], 0⟩).bs
            rw [hg] at q1 ⊢
            exact q1
        have hol : (oldF d n).bs.length ≤ U := by
          rw [hU]
          have := usedL_del n d.files h.ok.rises
          show ((getA n d.files).getD ⟨[], 0⟩).bs.length ≤ _
          omega
        have hus := usedL_put n ⟨(oldF d n).bs ++ l, (oldF d n).la⟩ d.files h.ok.rises
        simp only [List.length_append] at hus
        have hlaO : (oldF d n).la ≤ (oldF d n).bs.length := by
          cases hg : getA n d.files with
          | none => show ((getA n d.files).getD ⟨[], 0⟩).la ≤ ((getA n d.files).getD ⟨[], 0⟩).bs.length; rw [hg]; exact Nat.le_refl _
          | some f => show ((getA n d.files).getD ⟨[], 0⟩).la ≤ ((getA n d.files).getD ⟨[], 0⟩).bs.length; rw [hg]; exact h.ok.lasts _ (getA_mem hg)
        have HS1 : Hid ((getA n d.files).isSome = true → sl n = .slice oa (oldF d n).bs.length oc) := hslo
        have HS2 : Hid ((getA n d.files).isSome = false → (Value.slice oa (oldF d n).bs.length oc).ownBlock = none) := fun hx => by rw [(hnone hx).1]; rfl
        have HO : Hid (OwnB w 0 (.slice oa (oldF d n).bs.length oc) (oldF d n).bs) := hown
        have HUS : Hid (usedL (putA n ⟨(oldF d n).bs ++ l, (oldF d n).la⟩ d.files) = U + l.length) := by show _ = _; rw [hU]; have : (oldF d n).bs.length = ((getA n d.files).getD ⟨[], 0⟩).bs.length := rfl; omega
        have HLO : Hid ((oldF d n).la ≤ (oldF d n).bs.length) := hlaO
        have HNU : Hid (U + l.length ≤ R ∧ U + l.length ≤ 1099511627776 ∧ (oldF d n).bs.length ≤ U) := ⟨by omega, hsm, hol⟩
        have HFW : Hid (d.files.length + 1 ≤ 1048576) := hfew
        unfold addD
        generalize hf : oldF d n = f at *
        obtain ⟨obs, ola⟩ := f
        simp only at *
        have c2 := h.c2
        obtain ⟨DD, hDD⟩ : ∃ DD, DD = failD { d with files := putA n ⟨obs ++ l, ola⟩ d.files } := ⟨_, rfl⟩
        rw [← hDD]
        have HDD : Hid (DD = failD { d with files := putA n ⟨obs ++ l, ola⟩ d.files }) := hDD
        clear hDD hu
        clear h hrow hsm hU hR hfull hfit hroom hlook hsome hslo hnone hown hol hus hlaO hf hfew
        go_enter Tryz.func43, Tryz.ntmps43
        go_wp2_with (go_at_call 112; refine (hMN _).mono ?_; rintro e wm ⟨rfl, hw⟩; subst wm)
        go_region
        have HBA : Hid (Below w.heap.size w (w.drew.alloc (.cells #[.slice oa obs.length oc, .int .i64 (ola : Int)] 125))) := ((Below.refl _ w).drew).alloc (Nat.le_refl _) _
        go_wp2_with (at_builtin; refine wpList_app (own_below2 HO.out HBA.out) (HRow.out.below HBA.out) ?c1 rfl _ _ rfl rfl rfl ?_)
        case c1 => have := HNU.out; omega
        intro va vc w2 hown2 hgrow hat
        have HXX := app_step HD.out HO.out HS1.out HS2.out HBA.out (by simp) (Blk2.new w.drew _ _ _) hown2 hgrow hat
        obtain ⟨hB2, S2, hD2, hF2, hS2, hO2, hG2⟩ := HXX
        have k0 := hB2.c0
        have k1 := hB2.c1
        have kf := hB2.f 0
        have HD2 : Hid (DkW (w2.setCell ⟨w.heap.size, 0, none⟩ (.slice va (obs.length + l.length) vc)) b m S2 sl (some n) d) := hD2
        have HF2 : Hid (Fr S w (w2.setCell ⟨w.heap.size, 0, none⟩ (.slice va (obs.length + l.length) vc))) := hF2
        have HS3 : Hid (∀ k, S2 k → S k ∨ w.heap.size ≤ k) := hS2
        have HO2 : Hid (OwnB (w2.setCell ⟨w.heap.size, 0, none⟩ (.slice va (obs.length + l.length) vc)) 0 (.slice va (obs.length + l.length) vc) (obs ++ l)) := hO2
        have HG2 : Hid (∀ g, (Value.slice va (obs.length + l.length) vc).ownBlock = some g → S2 g ∧ ∀ q ∈ d.files, q.1 ≠ n → (sl q.1).ownBlock ≠ some g) := hG2
        clear hown2 hgrow hat hB2 hD2 hF2 hS2 hO2 hG2 l1
        go_wp2_with (first
          | (go_at_call 111; refine (put_any (la := ola) HD2.out HO2.out (by have := HLO.out; rw [List.length_append]; omega) hn HG2.out (by rw [HUS.out, ← HR.out]; exact HNU.out.1) (by have := HFW.out; have := putA_length n (⟨obs ++ l, ola⟩ : Fl) d.files; omega) (by rw [HUS.out]; have := HNU.out; omega)).mono ?_; rintro e we ⟨rfl, hd3, hf3⟩; have HD3 : Hid (DkW we b m S2 (upd sl n (.slice va (obs.length + l.length) vc)) none { d with files := putA n ⟨obs ++ l, ola⟩ d.files }) := hd3; have HF3 : Hid (Fr S w we) := HF2.out.trans hf3 HS3.out; clear hd3 hf3)
          | (go_at_call 110; refine (fails_any HD3.out).mono ?_; rintro e wf ⟨he, ⟨sl', hd4, _⟩, hf4⟩; rw [← HDD.out] at hd4; have HD4 : Hid (DkW wf b m S2 sl' none DD) := hd4; have HF4 : Hid (Fr S w wf) := HF3.out.trans hf4 HS3.out; clear hd4 hf4; subst he))
        all_goals go_ret
        all_goals exact ⟨rfl, S2, sl', HD4.out, HF4.out, HS3.out⟩
end Go.Proofs.YtkbmblmnhhlicaaGreatDoor

/- shown, walked. -/
namespace Go.Proofs.YtkbmblmnhhlicaaGreatDoor
open Go.RowKit

/-- A disk of a law's own: what lies below is as it was. -/
structure Lv (w0 w : World) (b m : Nat) (S : Nat → Prop) (d : Dk) : Prop where
  dk : ∃ sl, DkW w b m S sl none d
  ge : ∀ k, S k → w0.heap.size ≤ k
  below : Below w0.heap.size w0 w

theorem Lv.step {w0 w w' : World} {b m : Nat} {S : Nat → Prop} {d d' : Dk} (h : Lv w0 w b m S d) (hd : DidS w b m S d' w') : ∃ S', Lv w0 w' b m S' d' ∧ Fr S w w' ∧ ∀ k, S' k → S k ∨ w.heap.size ≤ k := by
  obtain ⟨S', sl, h1, h2, h3⟩ := hd
  refine ⟨S', ⟨⟨sl, h1⟩, fun k hk => ?_, h.below.trans (h2.below h.ge h.below.size)⟩, h2, h3⟩
  rcases h3 k hk with hk | hk
  · exact h.ge k hk
  · exact Nat.le_trans h.below.size hk
theorem Lv.same {w0 w w' : World} {b m : Nat} {S : Nat → Prop} {d : Dk} (h : Lv w0 w b m S d) (hb : Below w.heap.size w w') : Lv w0 w' b m S d := by
  obtain ⟨sl, h1⟩ := h.dk
  exact ⟨⟨sl, h1.below hb⟩, h.ge, h.below.trans (hb.mono h.below.size)⟩
theorem Lv.new {w0 w w' : World} {d : Dk} (hb0 : Below w0.heap.size w0 w) (h : DkW w' (w.heap.size + 1) w.heap.size (fun k => k = w.heap.size ∨ k = w.heap.size + 1) (fun _ => .slice none 0 0) none d) (hb : Below w.heap.size w w') : Lv w0 w' (w.heap.size + 1) w.heap.size (fun k => k = w.heap.size ∨ k = w.heap.size + 1) d :=
  ⟨⟨_, h⟩, fun k hk => by have := hb0.size; rcases hk with rfl | rfl <;> omega, hb0.trans (hb.mono hb0.size)⟩

/-- A row that is no file's stays. -/
structure Kp (w : World) (S : Nat → Prop) (v : Value) (l : List UInt8) : Prop where
  own : OwnB w 0 v l
  out : ∀ g, v.ownBlock = some g → ¬ S g
theorem Kp.step {w w' : World} {S S' : Nat → Prop} {v : Value} {l : List UInt8} (h : Kp w S v l) (hf : Fr S w w') (hs : ∀ k, S' k → S k ∨ w.heap.size ≤ k) : Kp w' S' v l := by
  refine ⟨ownB_keep h.own (fun g hg => ?_), fun g hg hS => ?_⟩
  · obtain ⟨cur, hc⟩ := ownB_block h.own hg
    exact hf.block g (lt_blk hc) (h.out g hg)
  · obtain ⟨cur, hc⟩ := ownB_block h.own hg
    have := lt_blk hc
    rcases hs g hS with h1 | h1
    · exact h.out g hg h1
    · omega
theorem Kp.same {w w' : World} {S : Nat → Prop} {v : Value} {l : List UInt8} (h : Kp w S v l) (hb : Below w.heap.size w w') : Kp w' S v l := ⟨own_below2 h.own hb, h.out⟩
theorem Kp.new {w w' : World} {S : Nat → Prop} {v : Value} {l : List UInt8} (h : OwnB w' w.heap.size v l) (hS : ∀ k, S k → k < w.heap.size) : Kp w' S v l := by
  refine ⟨ownB_lower h, fun g hg hs => ?_⟩
  rcases h.2 with ⟨rfl, _⟩ | ⟨g', cap, cur, rfl, hB, _⟩
  · cases hg
  · simp [Value.ownBlock] at hg
    subst hg
    have := hS _ hs
    omega

/-- Bytes that a literal has just laid. -/
theorem brow_lit (w : World) (l : List UInt8) (cs : List Value) (hc : cs = Lib.byteCells l) (n c : Nat) (hn : l.length = n) : BRow (w.alloc (.cells cs.toArray 5)) (some ⟨w.heap.size, 0, none⟩) n c l := by
  refine ⟨hn, .inr ⟨_, rfl, fun j hj => ?_⟩⟩
  refine lit_cells w cs 5 j _ ?_
  rw [hc]
  simp [Lib.byteCells, hj]

/-- From one world to the next. -/
def St (w : World) (S : Nat → Prop) (w' : World) (S' : Nat → Prop) : Prop := Fr S w w' ∧ ∀ k, S' k → S k ∨ w.heap.size ≤ k
theorem Kp.st {w w' : World} {S S' : Nat → Prop} {v : Value} {l : List UInt8} (h : Kp w S v l) (hs : St w S w' S') : Kp w' S' v l := h.step hs.1 hs.2

theorem newL {w0 w : World} (hb : Below w0.heap.size w0 w) (room : Int) (hr : room ≤ 9223372036854775807) :
    Calls Tryz.prog 10 #[.int .i64 room] w fun e w' => ∃ b m S, e = .returned (dptr b) ∧ Lv w0 w' b m S (newD room) := by
  refine (new_any room hr w).mono ?_
  rintro e w' ⟨rfl, h1, h2⟩
  exact ⟨_, _, _, rfl, Lv.new hb h1 h2⟩
theorem appendL {w0 w : World} {b m : Nat} {S : Nat → Prop} {d : Dk} (h : Lv w0 w b m S d) (n : Nm) (hn : n.length ≤ 140737488355328) {a : Option Addr} {len cap : Nat} {l : List UInt8} (hrow : BRow w a len cap l) (hsm : usedL d.files + l.length ≤ 1099511627776) (hfew : d.files.length + 1 ≤ 1048576) :
    Calls Tryz.prog 43 #[dptr b, strN n, .slice a len cap] w fun e w' => e = .returned (.int .i64 ((appendP d n l).1 : Int)) ∧ ∃ S', Lv w0 w' b m S' (appendP d n l).2 ∧ St w S w' S' := by
  obtain ⟨sl, hd⟩ := h.dk
  refine (append_any hd n hn hrow hsm hfew).mono ?_
  rintro e w' ⟨rfl, h1⟩
  obtain ⟨S', h2, h3, h4⟩ := h.step h1
  exact ⟨rfl, S', h2, h3, h4⟩
theorem didL {w0 w w' : World} {b m : Nat} {S : Nat → Prop} {d d' : Dk} (h : Lv w0 w b m S d) (h1 : Did w b m S d' w') : Lv w0 w' b m S d' ∧ St w S w' S := by
  obtain ⟨⟨sl, h2⟩, h3⟩ := h1
  exact ⟨⟨⟨sl, h2⟩, h.ge, h.below.trans (h3.below h.ge h.below.size)⟩, h3, fun k hk => .inl hk⟩
theorem syncL {w0 w : World} {b m : Nat} {S : Nat → Prop} {d : Dk} (h : Lv w0 w b m S d) (n : Nm) (hn : n.length ≤ 140737488355328) :
    Calls Tryz.prog 113 #[dptr b, strN n] w fun e w' => e = .returned (.int .i64 ((syncP d n).1 : Int)) ∧ Lv w0 w' b m S (syncP d n).2 ∧ St w S w' S := by
  obtain ⟨sl, hd⟩ := h.dk
  refine (sync_any hd n hn).mono ?_
  rintro e w' ⟨rfl, h1⟩
  exact ⟨rfl, didL h h1⟩
theorem removeL {w0 w : World} {b m : Nat} {S : Nat → Prop} {d : Dk} (h : Lv w0 w b m S d) (n : Nm) (hn : n.length ≤ 140737488355328) :
    Calls Tryz.prog 73 #[dptr b, strN n] w fun e w' => e = .returned (.int .i64 ((removeP d n).1 : Int)) ∧ Lv w0 w' b m S (removeP d n).2 ∧ St w S w' S := by
  obtain ⟨sl, hd⟩ := h.dk
  refine (remove_any hd n hn).mono ?_
  rintro e w' ⟨rfl, h1⟩
  exact ⟨rfl, didL h h1⟩
theorem cutL {w0 w : World} {b m : Nat} {S : Nat → Prop} {d : Dk} (h : Lv w0 w b m S d) (n : Nm) (hn : n.length ≤ 140737488355328) (k : Int) (hk : -9223372036854775808 ≤ k ∧ k ≤ 9223372036854775807) :
    Calls Tryz.prog 42 #[dptr b, strN n, .int .i64 k] w fun e w' => e = .returned (.int .i64 ((cutP d n k).1 : Int)) ∧ Lv w0 w' b m S (cutP d n k).2 ∧ St w S w' S := by
  obtain ⟨sl, hd⟩ := h.dk
  refine (cut_any hd n hn k hk).mono ?_
  rintro e w' ⟨rfl, h1⟩
  exact ⟨rfl, didL h h1⟩
theorem renameL {w0 w : World} {b m : Nat} {S : Nat → Prop} {d : Dk} (h : Lv w0 w b m S d) (n : Nm) (hn : n.length ≤ 140737488355328) (to : Nm) (hto : to.length ≤ 140737488355328) :
    Calls Tryz.prog 149 #[dptr b, strN n, strN to] w fun e w' => e = .returned (.int .i64 ((renameP d n to).1 : Int)) ∧ Lv w0 w' b m S (renameP d n to).2 ∧ St w S w' S := by
  obtain ⟨sl, hd⟩ := h.dk
  refine (rename_any hd n hn to hto).mono ?_
  rintro e w' ⟨rfl, h1⟩
  exact ⟨rfl, didL h h1⟩
theorem crashL {w0 w : World} {b m : Nat} {S : Nat → Prop} {d : Dk} (h : Lv w0 w b m S d) (keep : Nat) (hk : keep < 18446744073709551616) :
    Calls Tryz.prog 32 #[dptr b, .int .u64 (keep : Int)] w fun e w' => e = .returned (.tuple #[]) ∧ Lv w0 w' b m S (crashD d keep) ∧ St w S w' S := by
  obtain ⟨sl, hd⟩ := h.dk
  refine (crash_any hd keep hk).mono ?_
  rintro e w' ⟨rfl, h1⟩
  exact ⟨rfl, didL h h1⟩
theorem startL {w0 w : World} {b m : Nat} {S : Nat → Prop} {d : Dk} (h : Lv w0 w b m S d) :
    Calls Tryz.prog 33 #[dptr b] w fun e w' => e = .returned (.tuple #[]) ∧ Lv w0 w' b m S (startD d) ∧ St w S w' S := by
  obtain ⟨sl, hd⟩ := h.dk
  refine (start_any hd).mono ?_
  rintro e w' ⟨rfl, h1, h2⟩
  exact ⟨rfl, didL h ⟨⟨sl, h1⟩, h2⟩⟩
theorem armL {w0 w : World} {b m : Nat} {S : Nat → Prop} {d : Dk} (h : Lv w0 w b m S d) (after : Int) (ha : -9223372036854775808 ≤ after ∧ after ≤ 9223372036854775807) (keep : Nat) (hk : keep < 18446744073709551616) :
    Calls Tryz.prog 29 #[dptr b, .int .i64 after, .int .u64 (keep : Int)] w fun e w' => e = .returned (.tuple #[]) ∧ Lv w0 w' b m S (armD d after keep) ∧ St w S w' S := by
  obtain ⟨sl, hd⟩ := h.dk
  refine (arm_any hd after ha keep hk).mono ?_
  rintro e w' ⟨rfl, h1, h2⟩
  exact ⟨rfl, didL h ⟨⟨sl, h1⟩, h2⟩⟩
theorem readL {w0 w : World} {b m : Nat} {S : Nat → Prop} {d : Dk} (h : Lv w0 w b m S d) (n : Nm) (hn : n.length ≤ 140737488355328) :
    Calls Tryz.prog 41 #[dptr b, strN n] w fun e w' => ∃ a c, e = .returned (.tuple #[.slice a (theF d n).bs.length c, .int .i64 (findV d n : Int)]) ∧ Kp w' S (.slice a (theF d n).bs.length c) (theF d n).bs ∧ Lv w0 w' b m S d ∧ St w S w' S := by
  obtain ⟨sl, hd⟩ := h.dk
  refine (read_any hd n hn).mono ?_
  rintro e w' ⟨v, rfl, h1, h2⟩
  obtain ⟨a, c, rfl⟩ := own_slice h1
  exact ⟨a, c, rfl, Kp.new h1 hd.lt, h.same h2, Fr.of_below S h2, fun k hk => .inl hk⟩
theorem upL {w0 w : World} {b m : Nat} {S : Nat → Prop} {d : Dk} (h : Lv w0 w b m S d) : Calls Tryz.prog 31 #[dptr b] w fun e w' => e = .returned (.bool d.up) ∧ w' = w := by
  obtain ⟨sl, hd⟩ := h.dk
  exact up_any hd
theorem Lv.alloc {w0 w : World} {b m : Nat} {S : Nat → Prop} {d : Dk} (h : Lv w0 w b m S d) (o : Obj) : Lv w0 (w.alloc o) b m S d := h.same ((Below.refl _ _).alloc (Nat.le_refl _) _)

theorem conv_mark (w : World) (C : Array Value) (n c : Nat) : (convert 34 34 (.slice (some ⟨w.heap.size, 0, none⟩) n c)).run Tryz.prog (w.alloc (.cells C 5)) = .ok (.slice (some ⟨w.heap.size, 0, none⟩) n c) (w.alloc (.cells C 5 (C.size, C.size + 1))) :=
  Lib.run_convert_bytes_const w 34 5 C n c Tryz.underlying34 Tryz.underlying5
theorem brow_mark (w : World) (l : List UInt8) (C : Array Value) (mk : Nat × Nat) (hc : C = (Lib.byteCells l).toArray) (n c : Nat) (hn : l.length = n) : BRow (w.alloc (.cells C 5 mk)) (some ⟨w.heap.size, 0, none⟩) n c l := by
  refine ⟨hn, .inr ⟨_, rfl, fun j hj => ?_⟩⟩
  have hadd : (⟨w.heap.size, 0, none⟩ : Addr).add j = ⟨w.heap.size, j, none⟩ := by unfold Addr.add; split <;> simp_all
  rw [hadd, hc]
  simp [World.cell?, World.alloc, Lib.byteCells, hj, -World.alloc_eq]

def sD1 : Dk := (appendP (newD 10) [97] [120, 121, 122]).2
def sD2 : Dk := (syncP sD1 [97]).2
def sD3 : Dk := (appendP sD2 [97] [117, 118, 119]).2
def sD4 : Dk := crashD sD3 2
def sD5 : Dk := startD sD4

end Go.Proofs.YtkbmblmnhhlicaaGreatDoor
