/- RunesClean: of every bytes, up to the bound on what is read, Clean answers what the document says; again it is the same; what was handed in stays. -/
import Derived.Test.YtnpboadefhannaaRefClean
import Derived.Laws.AppendOwnNone
import Derived.ProofKit
import Derived.OpenShut
import Derived.ShutString
import Derived.ChangeOld
import Derived.Below
import Derived.JoinedCond
set_option linter.unusedVariables false
namespace Go.Proofs.Ytnpboadefhannaa.runesClean
open Go.ChangeShapes Go.WideShapes Go.ChangeAt Go.RowKit
open Go.ChangeMaps (open_string shut_string)

theorem own : ownKnob Try.prog.godebug = none := by kernel_rfl
theorem laidOut : laidOutB Try.prog = true := by kernel_rfl

/-- What the walk is told of bytes that came in. -/
def BRow (w : World) (a : Option Addr) (len cap : Nat) (l : List UInt8) : Prop :=
  l.length = len ∧ ((a = none ∧ len = 0 ∧ cap = 0) ∨ ∃ x, a = some x ∧ ∀ j (h : j < l.length), w.cell? (x.add j) = some (.int .u8 (l[j].toNat : Int)))

theorem brow_below {w w' : World} {a : Option Addr} {len cap : Nat} {l : List UInt8} (h : BRow w a len cap l) (hb : Below w.heap.size w w') : BRow w' a len cap l := by
  refine ⟨h.1, ?_⟩
  rcases h.2 with h2 | ⟨x, h2, hc⟩
  · exact .inl h2
  · refine .inr ⟨x, h2, fun j hj => ?_⟩
    have := hc j hj
    have hlt := World.block_lt_of_cell? w _ this
    rw [hb.cell hlt]
    exact this

theorem brow_bytes {w : World} {a : Option Addr} {len cap : Nat} {l : List UInt8} (h : BRow w a len cap l) : BytesIn w a len cap l := by
  refine ⟨h.1, fun w1 hb => ?_⟩
  have h1 := brow_below h hb
  obtain ⟨rfl, h2⟩ := h1
  rcases h2 with ⟨rfl, h3, rfl⟩ | ⟨x, rfl, hc⟩
  · have hl : l = [] := List.eq_nil_of_length_eq_zero h3
    subst hl
    exact run_convert_bytes_nil w1 22 5 Try.underlying22 Try.underlying5 0 0 9 Try.underlying9
  · exact run_convert_bytes_back w1 22 9 5 x cap l Try.underlying22 Try.underlying5 Try.underlying9 hc

theorem bytesIn_below {w w' : World} {a : Option Addr} {len cap : Nat} {l : List UInt8} (h : BytesIn w a len cap l) (hb : Below w.heap.size w w') : BytesIn w' a len cap l :=
  ⟨h.1, fun w1 hb1 => h.2 w1 (hb.trans (hb1.mono hb.size))⟩

/-- Bytes that the call owns, in every later world. -/
theorem own_bytes {w : World} {B : Nat} {ao : Option Addr} {cap : Nat} {l : List UInt8} (h : w.ownsRow B 5 1 (.slice ao l.length cap) l.length (Lib.byteCells l)) : BytesIn w ao l.length cap l :=
  ⟨rfl, fun w1 hb => own_string (own_stays h hb)⟩

/-- A copy of bytes: append onto an empty literal. -/
theorem append_run {w : World} {a : Option Addr} {len cap : Nat} {l : List UInt8} (h : BRow w a len cap l) (hsm : l.length ≤ 1048576) (B : Nat) (hB : B ≤ w.heap.size) (ty : TypeId) :
    ∃ vo w2, (Builtin.append_ #[22, 22] ty #[.slice (some ⟨w.heap.size, 0, none⟩) 0 0, .slice a len cap]).run Try.prog (w.alloc (.cells #[] 5)) = .ok vo w2 ∧ w2.ownsRow B 5 1 vo l.length (Lib.byteCells l) ∧ Below B w w2 := by
  obtain ⟨i0, hi, hz0, hz1, hz2⟩ := info_parts info5
  have hown : (w.alloc (.cells #[] 5)).ownsRow B 5 1 (.slice (some ⟨w.heap.size, 0, none⟩) 0 0) 0 [] := World.ownsRow_made w #[] 0 hB (by unfold maxLen; omega) rfl
  have hb0 : Below B w (w.alloc (.cells #[] 5)) := (Below.refl _ _).alloc hB _
  obtain ⟨rfl, h2⟩ := h
  rcases h2 with ⟨rfl, h3, rfl⟩ | ⟨x, rfl, hc⟩
  · have hl : l = [] := List.eq_nil_of_length_eq_zero h3
    subst hl
    exact ⟨_, _, run_append_owned_none (P := Try.prog) _ B 22 ty 5 i0 1 Try.underlying22 hi _ 0 [] hown, hown, hb0⟩
  · obtain ⟨vo, w2, hr, h4, h5, _⟩ := run_append_own (P := Try.prog) (w.alloc (.cells #[] 5)) B 22 ty 5 i0 (.int .u8 0) 1 1 Try.underlying22 hi hz0 hz1 hz2 rfl (by decide) _ 0 [] hown x l.length cap (Lib.byteCells l) (by rw [Lib.byteCells_length]; omega)
      (by
        intro j u hj
        have hjl : j < l.length := by
          have := (List.getElem?_eq_some_iff.1 hj).1
          rwa [Lib.byteCells_length] at this
        have hcj := hc j hjl
        have hlt := World.block_lt_of_cell? w _ hcj
        rw [World.cell?_alloc_lt _ _ _ hlt]
        simp [Lib.byteCells, hjl] at hj
        rw [← hj]; exact hcj)
      (by intro u hu; simp only [Lib.byteCells, List.mem_map] at hu; obtain ⟨_, _, rfl⟩ := hu; rfl)
      (by unfold maxLen; omega) (by omega) (by simp; omega)
    refine ⟨vo, w2, hr, ?_, hb0.grown h5 (by simp; omega) (fun k hk => (hown.lt k hk).1)⟩
    simpa using h4

theorem wpList_copy {w : World} {a : Option Addr} {len cap : Nat} {l : List UInt8} (hrow : BRow w a len cap l) (hsm : l.length ≤ 1048576) (B : Nat) (hB : B ≤ w.heap.size)
    {ops : Array Oper} {rest : List Oper} {o : Oper} {c : Act} {Q : Exit → Act → World → Prop} (hgd : o.guard = none) (sl x : Operand)
    (ho : o.op = .call { callee := .builtin .append, args := #[sl, x], argTypes := #[22, 22] })
    (hs : c.eval sl = .slice (some ⟨w.heap.size, 0, none⟩) 0 0) (hx : c.eval x = .slice a len cap)
    (h : ∀ vo w2, w2.ownsRow B 5 1 vo l.length (Lib.byteCells l) → Below B w w2 → wpList Try.prog ops Q rest (c.put o.dst vo) w2) :
    wpList Try.prog ops Q (o :: rest) c (w.alloc (.cells #[] 5)) := by
  refine wpList_plain hgd fun K hK => ?_
  obtain ⟨vo, w2, hr, h2, h3⟩ := append_run hrow hsm B hB o.type
  unfold Oper.wp execOp
  simp only [ho, resolve, invoke, builtin, Sem.run_bind, Sem.run_pure, Result.andThen_ok, List.map_toArray, List.map_cons, List.map_nil, hs, hx, hr]
  exact hK _ _ (h vo w2 h2 h3)

theorem ffd : (enc 65533).length = 3 := by decide

set_option maxHeartbeats 4000000 in
set_option maxRecDepth 100000 in
theorem walk (a : Option Addr) (len cap : Nat) (l : List UInt8) (w : World) (hrow : BRow w a len cap l) (hsm : l.length ≤ 1048576) :
    Calls Try.prog 3 #[.slice a len cap] w fun e w' => e = .returned (.bool true) ∧ Below w.heap.size w w' := by
  have hin := brow_bytes hrow
  go_enter Try.func3, Try.ntmps3
  go_wp2_with (go_at_call 9; refine (shown_any _).mono ?_)
  rintro e w1 ⟨rfl, hb1⟩
  go_wp2_with (at_builtin; refine wpList_copy (brow_below hrow hb1) hsm w.heap.size hb1.size rfl _ _ rfl rfl rfl ?_)
  intro vo w2 hown2 hb12
  have hb2 : Below w.heap.size w w2 := hb1.trans hb12
  obtain ⟨oo, oc, hv⟩ := own_slice hown2
  subst hv
  have hoin := own_bytes hown2
  have hcl := clean_any oo l.length oc l w2 (by omega) hoin
  obtain ⟨S, hS⟩ : ∃ S : ByteArray, ByteArray.mk (clean l).toArray = S := ⟨_, rfl⟩
  have hSd : S.data.toList = clean l := by rw [← hS]
  have hSl : S.size ≤ 4194304 := by rw [← len_data, hSd]; have := clean_le l; omega
  rw [hS] at hcl
  clear hrow hown2 hb12 hb1
  go_wp2_with (go_at_call 10; refine hcl.mono ?_)
  rintro e w3 ⟨rfl, hb3⟩
  clear hcl
  have hb03 : Below w.heap.size w w3 := hb2.trans (hb3.mono hb2.size)
  have hoin3 := bytesIn_below hoin hb3
  have hin3 := bytesIn_below hin hb03
  have hrs : ∀ r ∈ (runes l).map cleanR, Ok r ∧ r ≠ 0 := by
    intro r hr
    obtain ⟨y, hy, rfl⟩ := List.mem_map.1 hr
    exact ⟨cleanR_ok y (runes_ok l y hy), cleanR_ne y⟩
  clear hoin hin hb2 hb3
  go_wp2
  go_loopw [6] (fun t wr => Hid (w3 = wr) ∧ ∃ (p : Nat) (xs ys : List Nat), t = .int .i64 p ∧ p ≤ S.size ∧ Hid ((runes l).map cleanR = xs ++ ys) ∧ Hid (p = (encAll xs).length)) (fun t _ => S.size - (intOf t).toNat)
  case atStart => exact ⟨rfl, 0, [], (runes l).map cleanR, rfl, by omega, rfl, rfl⟩
  case round =>
    obtain ⟨HW, p, xs, ys, rfl, hp, HX, HP⟩ := hrel
    by_cases hlt : p < S.size
    · have hfst := first_at S p wr hlt (by omega)
      have hcl : clean l = encAll xs ++ encAll ys := by show encAll ((runes l).map cleanR) = _; rw [HX.out, encAll_append]
      have hys : ys ≠ [] := by
        intro h0
        subst h0
        have h1 : S.size = (encAll xs).length := by rw [← len_data, hSd, hcl, encAll_nil, List.append_nil]
        have := HP.out
        omega
      obtain ⟨r, ys', hyy⟩ : ∃ r ys', ys = r :: ys' := by
        cases ys with
        | nil => exact absurd rfl hys
        | cons r t => exact ⟨r, t, rfl⟩
      subst hyy
      have hr := hrs r (by rw [HX.out]; simp)
      have hdr : S.data.toList.drop p = enc r ++ encAll ys' := by
        rw [hSd, hcl, HP.out, List.drop_left, encAll_cons]
      rw [hdr, dc_enc r hr.1] at hfst
      dsimp only at hfst
      have hel := enc_len r
      have hsz : p + (enc r).length ≤ S.size := by
        have h1 : S.size = (encAll xs).length + ((enc r).length + (encAll ys').length) := by rw [← len_data, hSd, hcl, encAll_cons, List.length_append, List.length_append]
        have := HP.out
        omega
      have HX' : Hid ((runes l).map cleanR = (xs ++ [r]) ++ ys') := by show _ = _; rw [HX.out]; simp
      have HP' : Hid (p + (enc r).length = (encAll (xs ++ [r])).length) := by show _ = _; rw [encAll_append, encAll_cons, encAll_nil, List.append_nil, List.length_append, HP.out]
      have q0 : ((r : Int) == 0) = false := by simp; exact hr.2
      have hcase : ((r : Int) == 65533) = false ∨ (((r : Int) == 65533) = true ∧ ((((enc r).length : Nat) : Int) == 1) = false) := by
        by_cases h5 : r = 65533
        · right; subst h5; exact ⟨rfl, by rw [ffd]; rfl⟩
        · left; simp; omega
      clear hcl hys hdr HX HP hrs hin3 hoin3 hSd hS
      rcases hcase with q1 | ⟨q1, q2⟩
      all_goals
        go_wp2_with (go_at_call 11; refine hfst.mono ?_; rintro e w' ⟨rfl, rfl⟩)
        go_roundw
        case rel => exact ⟨HW, p + (enc r).length, xs ++ [r], ys', by go_num, by omega, HX', HP'⟩
        case measure => simp [intOf]; omega
    · have hW := HW.out
      subst hW
      obtain ⟨sb, hsb⟩ : ∃ sb : ByteArray, sb.data.toList = l := ⟨⟨l.toArray⟩, by simp⟩
      have hrc := refclean_any a len cap sb w3 (by rw [← len_data, hsb]; omega) (by rw [hsb]; exact hin3)
      rw [hsb, hS] at hrc
      have hge : S.size ≤ p := by omega
      clear HX HP hrs hlt
      go_wp2_with (go_at_call 12; refine hrc.mono ?_)
      first | rintro e w4 rfl hb4 | rintro e w4 ⟨rfl, hb4⟩
      clear hrc
      have hcv := Lib.run_convert_string_bytes (P := Try.prog) w4 9 22 5 S Try.underlying9 Try.underlying22 Try.underlying5
      have hb04 : Below w.heap.size w w4 := hb03.trans (hb4.mono hb03.size)
      have hb05 := below_conv hb04 hb04.size S
      have hb35 := below_conv hb4 hb4.size S
      have hbc := bytes_conv w4 (clean l) (grownCap w4 S.size 0 5)
      have hlen : (clean l).length = S.size := by rw [← hSd, len_data]
      rw [hS, hlen] at hbc
      have hca := clean_any _ _ _ _ _ (by omega) hbc
      rw [clean_clean, hS] at hca
      clear hbc hlen
      go_wp2_with (go_at_call 10; refine hca.mono ?_)
      first | rintro e w5 rfl hb5 | rintro e w5 ⟨rfl, hb5⟩
      have hb06 : Below w.heap.size w w5 := hb05.trans (hb5.mono hb05.size)
      have hb36 : Below w3.heap.size w3 w5 := hb35.trans (hb5.mono hb35.size)
      have k1 := hoin3.2 w5 hb36
      have k2 := hin3.2 w5 hb36
      clear hca hcv hb5 hb05 hb35 hoin3 hin3
      go_wp2
      go_ret
      exact ⟨rfl, hb06⟩

theorem bulk_lits {H : Type} (k : IntKind) (zs : List Int) : Rows.uptoBulkAll (lits (H := H) k zs) = zs.length := by
  induction zs with
  | nil => rfl
  | cons z zs ih =>
    show Rows.uptoBulk (.lit (.int k z)) + Rows.uptoBulkAll (lits (H := H) k zs) = _
    rw [ih]
    simp only [Rows.uptoBulk, List.length_cons]
    omega

theorem contract (H : Type) (enc : TypeId × Value → H) (W : World) (base : Nat) (args : Array Value) (ds gs : List (DataW H)) (before : List MemPlace)
    (hval : ∀ (j : Nat) t v, Try.f3.params[j]? = some t → args[j]? = some v → Value.okWide Try.prog W .any base t v)
    (hW : DataW.Whole enc Try.prog Try.f3.params.toList Rows.runesCleanSpec.vars false W args.toList ds gs before) (hk : Rows.uptoSmall H (ds ++ gs) = true) :
    Calls Try.prog 3 args W fun e W' => ∃ v, e = .returned v ∧ Rows.runesCleanSpec.post enc Try.prog Try.f3 false true false false W args v W' := by
  have hW' := hW
  obtain ⟨p, q, hA0, hV, rfl, hfz, hnd⟩ := hW
  have hA : DataW.TrodAll enc Try.prog W 0 (fun _ => true) true Try.f3.params.toList args.toList ds p := hA0
  rw [Try.params3] at hA hval
  obtain ⟨v0, vs0, d0, ds0, p0, q0, hargs, rfl, rfl, h0, r0⟩ := trodAll_cons hA
  obtain ⟨rfl, rfl, rfl⟩ := trodAll_nil r0
  obtain rfl : args = #[v0] := by cases args; simp_all
  obtain ⟨rfl, rfl⟩ := trodVars_none hV
  obtain ⟨a0, len0, cap0, rfl⟩ := okWide_slice Try.underlying22 (hval 0 22 v0 rfl rfl)
  have k0 := h0
  have lt0 : ∀ x ∈ p0, x.block < W.heap.size := by obtain ⟨m, hm⟩ := k0; exact DataW.trod_lt m _ _ _ hm
  have hb := of_decide_eq_true hk
  simp only [List.append_nil, Rows.uptoBulkAll] at hb
  obtain ⟨l0, w0, hl0⟩ : ∃ l, BRow W a0 len0 cap0 l ∧ l.length ≤ 1048576 := by
    obtain ⟨fuel, hf⟩ := h0
    rcases open_ints Try.underlying22 Try.underlying5 (by kernel_rfl) hf with ⟨hcs, _⟩ | ⟨x, l, c, zs, hcs, _, hl, hm, hz, hx, hcell, hwz⟩
    · simp [Value.cells] at hcs
      obtain ⟨rfl, rfl, rfl⟩ := hcs
      exact ⟨[], ⟨rfl, .inl ⟨rfl, rfl, rfl⟩⟩, by simp⟩
    · simp [Value.cells] at hcs
      obtain ⟨rfl, rfl, rfl⟩ := hcs
      have hz' : zs.length = cap0 := by simpa using hz
      have hd : d0 = .slice (lits .u8 (zs.take len0)) (lits .u8 (zs.drop len0)) := congrArg Prod.fst hx
      subst hd
      simp only [Rows.uptoBulk, bulk_lits] at hb
      have hlen : (zs.take len0).length = len0 := by rw [List.length_take]; omega
      refine ⟨(zs.take len0).map (fun z => UInt8.ofNat z.toNat), ⟨by rw [List.length_map, hlen], .inr ⟨x, rfl, fun j hj => ?_⟩⟩, by rw [List.length_map]; omega⟩
      rw [List.length_map, hlen] at hj
      have h1 := hcell j (by omega)
      have hjz : j < zs.length := by omega
      have h2 : zs.getD j 0 = zs[j] := by simp [List.getD_eq_getElem?_getD, hjz]
      have hw := bounds_u8 (hwz zs[j] (List.getElem_mem hjz))
      rw [h1, h2]
      simp only [List.getElem_map, List.getElem_take]
      congr 2
      rw [UInt8.toNat_ofNat']
      omega
  clear hA0
  refine (walk a0 len0 cap0 l0 W w0 hl0).mono fun e W' ⟨he, bel⟩ => ?_
  subst he
  exact ⟨_, rfl, _, _, _, [], _, [], hW', trodAll_mk1 (shut_bool Try.underlying4 _), (trodAll_cons_mk (Below.trod laidOut (by kernel_rfl) (of_decide_eq_true (by kernel_rfl)) k0 bel lt0) trodAll_mk0), rfl, bel.frame _, fun h => by cases h⟩

set_option maxRecDepth 100000 in
theorem lifted (os : Os) (started : os.Started) (H : Type) (enc : TypeId × Value → H) (F : Stop.Interp) :
    ReturnsInHanded {} Try.checked os 3 .any ((Rows.OpenSpec.upto Rows.runesCleanSpec).pre6 enc Try.prog Try.f3 Rows.runesCleanUptoRow.domain false) (((Rows.OpenSpec.upto Rows.runesCleanSpec).at F).post enc Try.prog Try.f3 false true false false) := by
  refine returnsInHanded_of_cond (C := Try.checked) (s := Rows.OpenSpec.upto Rows.runesCleanSpec) (k := Rows.uptoSmall) rfl own started (by kernel_rfl) Try.func3
    (OpenSpec.witness (enc := enc) (C := Try.checked) (s := Rows.OpenSpec.upto Rows.runesCleanSpec) (k := Rows.uptoSmall) rfl false ⟨#[], #[.slice none 0 0], []⟩ 8 (by kernel_rfl) (by kernel_rfl) (by kernel_rfl)
      (x := ([.nil], [], [])) (by kernel_rfl) rfl (by kernel_rfl)) ?_
  intro W base args ds gs before hval hW _ hk _
  exact contract H enc W base args ds gs before hval hW hk

theorem over : Rows.runesCleanUptoRow.holds Try.pinned (Rows.OpenSpec.upto Rows.runesCleanSpec) :=
  OpenClaim.holds_of_cond 3 Try.f3 rfl rfl rfl rfl rfl rfl rfl ⟨rfl, rfl, rfl, rfl, rfl⟩ rfl rfl rfl rfl rfl (by kernel_rfl) Try.func3 (by kernel_rfl)
    (of_decide_eq_true (by kernel_rfl)) (by unfold Func.isWrapper; first | (rw [if_pos (by decide +kernel)]; kernel_rfl) | (rw [if_neg (by decide +kernel)]; exact ⟨rfl, rfl⟩))
    (fun os started H enc _ F => lifted os started H enc F)

theorem proved : Rows.RunesCleanUptoSaid :=
  over
#print axioms proved
end Go.Proofs.Ytnpboadefhannaa.runesClean
