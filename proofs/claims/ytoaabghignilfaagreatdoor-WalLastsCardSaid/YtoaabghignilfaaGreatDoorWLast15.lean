/- WalLasts, walked. -/
import Derived.Test.YtoaabghignilfaaGreatDoorWDmg15
import Derived.Test.YtoaabghignilfaaGreatDoorV09
import Derived.Test.YtoaabghignilfaaGreatDoorV10
set_option linter.unusedVariables false
namespace Go.Proofs.YtoaabghignilfaaGreatDoor
open Go.RowKit

/-- append of a text to a row of a law's own. -/
theorem wpList_push_text {ops : Array Oper} {rest : List Oper} {o : Oper} {a : Act} {Q : Exit → Act → World → Prop} {w : World} {B : Nat} {v : Value} {xs : List Nm} (h : OwnS w B v xs) (hB : B ≤ w.heap.size) (x : Nm) (y : Addr) (c : Nat) (hx : w.cell? y = some (strN x)) (hl : xs.length + 1 ≤ 1048577) (hgd : o.guard = none) (s t : Operand)
    (ho : o.op = .call { callee := .builtin .append, args := #[s, t], argTypes := #[46, 46] }) (hs : a.eval s = v) (ht : a.eval t = .slice (some y) 1 c)
    (h2 : ∀ vo w2, PushedS w v xs x B vo w2 → wpList Tryz.prog ops Q rest (a.put o.dst vo) w2) : wpList Tryz.prog ops Q (o :: rest) a w := by
  refine wpList_plain hgd fun K hK => ?_
  obtain ⟨vo, w2, hr, hp⟩ := append_text h hB y c x hx hl o.type
  unfold Oper.wp execOp
  simp only [ho, resolve, invoke, builtin, Sem.run_bind, Sem.run_pure, Result.andThen_ok, List.map_toArray, List.map_cons, List.map_nil, hs, ht, hr]
  exact hK _ _ (h2 vo w2 hp)

/-- What is appended of a row. -/
def recL (l : Nat → List UInt8) (r : Nat) : Rec := (l r).take 8192

/-- What stands behind Append and Sync: all is well, or power failed. -/
def LaE (w0 : World) (b m p S : Nat) (v : Value) (xs : List Nm) (n : Nat) (e : Nat) (w : World) : Prop := (e = 0 ∧ LaS w0 b m p S v xs n xs w) ∨ (e = 13 ∧ LaF w0 b m S v xs n xs w)
/-- The same, the texts of other number than the records. -/
def LaE1 (w0 : World) (b m p S : Nat) (v : Value) (xs : List Nm) (n : Nat) (R : Recs) (e : Nat) (w : World) : Prop := (e = 0 ∧ LaS w0 b m p S v xs n R w) ∨ (e = 13 ∧ LaF w0 b m S v xs n R w)
theorem LaE1.bel {w0 : World} {b m p S : Nat} {v : Value} {xs : List Nm} {n e : Nat} {R : Recs} {w : World} (h : LaE1 w0 b m p S v xs n R e w) : Below w0.heap.size w0 w := by
  rcases h with ⟨_, h⟩ | ⟨_, h⟩
  · exact h.bel
  · exact h.bel
theorem LaE1.own {w0 : World} {b m p S : Nat} {v : Value} {xs : List Nm} {n e : Nat} {R : Recs} {w : World} (h : LaE1 w0 b m p S v xs n R e w) : OwnS w w0.heap.size v xs := by
  rcases h with ⟨_, h⟩ | ⟨_, h⟩
  · exact h.own
  · exact h.own
theorem LaE1.below {w0 : World} {b m p S : Nat} {v : Value} {xs : List Nm} {n e : Nat} {R : Recs} {w w' : World} (h : LaE1 w0 b m p S v xs n R e w) (hb : Below w.heap.size w w') : LaE1 w0 b m p S v xs n R e w' := by
  rcases h with ⟨h1, h⟩ | ⟨h1, h⟩
  · exact .inl ⟨h1, h.below hb⟩
  · exact .inr ⟨h1, h.below hb⟩
theorem LaE1.push {w0 : World} {b m p S : Nat} {v vo : Value} {xs : List Nm} {x : Nm} {n e : Nat} {w w2 : World} (h : LaE1 w0 b m p S v xs n (xs ++ [x]) e w) (hp : PushedS w v xs x w0.heap.size vo w2) : LaE w0 b m p S vo (xs ++ [x]) n e w2 := by
  rcases h with ⟨h1, h⟩ | ⟨h1, h⟩
  · exact .inl ⟨h1, h.push hp⟩
  · exact .inr ⟨h1, h.push hp⟩
theorem laAppE {w0 : World} {b m p S n : Nat} {v : Value} {xs : List Nm} {R : Recs} {w : World} (h : LaS w0 b m p S v xs n R w) {a : Option Addr} {ln c : Nat} {l : Rec} (hrow : ∀ w', Below w0.heap.size w0 w' → BRow w' a ln c l) (hln : l.length = ln) (hl : ln ≤ 8192) (hn : n ≤ 100) (hR : R.length ≤ 100) :
    Calls Tryz.prog 18 #[dptr p, .slice a ln c] w fun e w' => ∃ e0 : Nat, e = .returned (.int .i64 (e0 : Int)) ∧ LaE1 w0 b m p S v xs (n + 1) (R ++ [l]) e0 w' := by
  refine (laApp h hrow hln hl hn hR).mono fun e w' r => ?_
  rcases r with ⟨r1, r2⟩ | ⟨r1, r2⟩
  · exact ⟨0, r1, .inl ⟨rfl, r2⟩⟩
  · exact ⟨13, r1, .inr ⟨rfl, r2⟩⟩
theorem LaI.bel {w0 : World} {b m p S n : Nat} {v : Value} {xs : List Nm} {R : Recs} {w : World} (h : LaI w0 b m p S v xs n R w) : Below w0.heap.size w0 w := h.la.bel
theorem laLastI {w0 : World} {b m p S n nr : Nat} {v : Value} {xs : List Nm} {R : Recs} {w : World} (h : LaI w0 b m p S v xs n R w) (hr : R.length = nr) : Calls Tryz.prog 23 #[dptr p] w fun e w' => e = .returned (.int .i64 (nr : Int)) ∧ LaI w0 b m p S v xs n R w' := by
  refine (laLast h.la).mono fun e w' r => ?_
  rw [hr] at r
  exact ⟨r.1, h.below r.2.2⟩
theorem laLastS {w0 : World} {b m p S n nr : Nat} {v : Value} {xs : List Nm} {R : Recs} {w : World} (h : LaS w0 b m p S v xs n R w) (hr : R.length = nr) : Calls Tryz.prog 23 #[dptr p] w fun e w' => e = .returned (.int .i64 (nr : Int)) ∧ LaS w0 b m p S v xs n R w' := by
  refine (laLast h).mono fun e w' r => ?_
  rw [hr] at r
  exact ⟨r.1, r.2.1⟩
theorem ownS_cap {w : World} {B : Nat} {a : Option Addr} {n c : Nat} {xs : List Nm} (h : OwnS w B (.slice a n c) xs) (hne : xs ≠ []) : xs.length ≤ c ∧ ∃ g, a = some ⟨g, 0, none⟩ := by
  rcases h.2 with ⟨_, h0⟩ | ⟨g, cap, cur, hv, hB, hg, h1, h2, h3, h4⟩
  · exact absurd (List.eq_nil_of_length_eq_zero h0) hne
  · have ea : a = some ⟨g, 0, none⟩ := congrArg (fun v => match v with | Value.slice a _ _ => a | _ => a) hv
    have ec : c = cap := congrArg (fun v => match v with | Value.slice _ _ c => c | _ => c) hv
    exact ⟨by omega, g, ea⟩
theorem slice_toS (a : Option Addr) (n c k : Nat) (hk : k ≤ n) (hn : n ≤ c) (w : World) : (Instr.slice 46 (.slice a n c) none (some (.int .i64 (k : Int))) none).run Tryz.prog w = .ok (.slice a k c) w := by
  have hel : Tryz.prog.elem 46 = 9 := by kernel_rfl
  have hsz : (sizeOf 9).run Tryz.prog w = .ok 1 w := by kernel_rfl
  rw [run_slice_h w 46 a n c (by rw [hel]; exact Tryz.underlying46) .i64 (k : Int) (by omega) (by omega), hel, hsz]
  show Result.ok (sliced a 0 (k : Int).toNat c 1) w = _
  have : (k : Int).toNat = k := by omega
  rw [this]
  cases a <;> simp [sliced, Addr.add] <;> (try split) <;> simp_all
theorem LaE.bel {w0 : World} {b m p S : Nat} {v : Value} {xs : List Nm} {n e : Nat} {w : World} (h : LaE w0 b m p S v xs n e w) : Below w0.heap.size w0 w := by
  rcases h with ⟨_, h⟩ | ⟨_, h⟩
  · exact h.bel
  · exact h.bel
theorem LaE.below {w0 : World} {b m p S : Nat} {v : Value} {xs : List Nm} {n e : Nat} {w w' : World} (h : LaE w0 b m p S v xs n e w) (hb : Below w.heap.size w w') : LaE w0 b m p S v xs n e w' := by
  rcases h with ⟨h1, h⟩ | ⟨h1, h⟩
  · exact .inl ⟨h1, h.below hb⟩
  · exact .inr ⟨h1, h.below hb⟩

set_option maxHeartbeats 8000000 in
set_option maxRecDepth 40000 in
theorem wlasts (ra : Option Addr) (rn rc : Nat) (A : Nat → Option Addr) (L C : Nat → Nat) (l : Nat → List UInt8) (hrn : rn ≤ 140737488355328) (a1 : Option Addr) (n1 c1 : Nat) (B1 : Nat → Bool) (hl1 : n1 ≤ maxLen) (a2 : Option Addr) (n2 c2 : Nat) (B2 : Nat → Int) (r2 : ∀ i, -9223372036854775808 ≤ B2 i ∧ B2 i ≤ 9223372036854775807) (hl2 : n2 ≤ maxLen) (a3 : Option Addr) (n3 c3 : Nat) (B3 : Nat → Int) (r3 : ∀ i, 0 ≤ B3 i ∧ B3 i ≤ 18446744073709551615) (hl3 : n3 ≤ maxLen) (w : World) (ht : Tabs w) (hrows : RowsIn w ra rn A L C l) (h1 : CellsIn w a1 n1 (fun i => .bool (B1 i))) (h2 : CellsIn w a2 n2 (fun i => .int .i64 (B2 i))) (h3 : CellsIn w a3 n3 (fun i => .int .u64 (B3 i))) :
    Calls Tryz.prog 4 #[.slice ra rn rc, .slice a1 n1 c1, .slice a2 n2 c2, .slice a3 n3 c3] w fun e w' => e = .returned (.bool true) ∧ Below w.heap.size w w' := by
  have hSh := shown_any15 ht
  have HT : Hid (Tabs w) := ht
  have HRw : Hid (RowsIn w ra rn A L C l) := hrows
  have H1 : Hid (CellsIn w a1 n1 (fun i => .bool (B1 i))) := h1
  have H2 : Hid (CellsIn w a2 n2 (fun i => .int .i64 (B2 i))) := h2
  have H3 : Hid (CellsIn w a3 n3 (fun i => .int .u64 (B3 i))) := h3
  have HR3 : Hid (∀ i, 0 ≤ B3 i ∧ B3 i ≤ 18446744073709551615) := r3
  have brn : (rn : Int) ≤ 140737488355328 := by omega
  have bn1 : (n1 : Int) ≤ 9223372036854775807 := by unfold maxLen at hl1; omega
  have bn2 : (n2 : Int) ≤ 9223372036854775807 := by unfold maxLen at hl2; omega
  have bn3 : (n3 : Int) ≤ 9223372036854775807 := by unfold maxLen at hl3; omega
  clear ht hrows h1 h2 h3 r2 r3 hrn hl1 hl2 hl3
  go_enter Tryz.func4, Tryz.ntmps4
  go_wp2_with (fail)
  refine hSh.mono ?_
  rintro e w1 ⟨rfl, hb1⟩
  have HB1 : Hid (Below w.heap.size w w1) := hb1
  clear hSh hb1
  go_wp2_with (fail)
  refine (newG (w0 := w) 1099511627776 (by omega) (G := NoG) HB1.out (fun k hk => hk.elim)).mono ?_
  rintro e w3 ⟨b, m, rfl, hD, _⟩
  have D3 : Hid (DkS w b m (newD 1099511627776) NoG w3) := hD
  clear hD
  go_wp2_with (fail)
  refine (openG D3.out HT.out (fun x hx => by cases hx) (by show usedL [] ≤ _; rw [usedL_nil]; omega) (by show 0 + 1 ≤ _; omega) nd1_e).mono ?_
  rintro e w4 ⟨p0, rfl, hL, _⟩
  have S4 : Hid (LaS w b m p0 0 (.slice none 0 0) [] 0 [] w4) := laStart0 hL
  clear hL D3
  go_wp2_with (fail)
  go_loopw [11, 13, 14, 15, 16] (fun lp al su ff i wr => ∃ (p S f k : Nat) (va : Option Addr) (vc n : Nat) (xs : List Nm), lp = dptr p ∧ al = .slice va n vc ∧ su = .int .i64 S ∧ ff = .int .i64 f ∧ i = .int .i64 k ∧ Hid (k ≤ rn ∧ k ≤ 40 ∧ f ≤ k ∧ S ≤ n ∧ n ≤ k ∧ xs.length = n) ∧ Hid (LaS w b m p S (.slice va n vc) xs k xs wr)) (fun _ _ _ _ i _ => 40 - (intOf i).toNat)
  case atStart => exact ⟨p0, 0, 0, 0, none, 0, 0, [], rfl, rfl, rfl, rfl, rfl, ⟨Nat.zero_le _, by omega, Nat.le_refl _, Nat.le_refl _, Nat.le_refl _, rfl⟩, S4⟩
  case round =>
    obtain ⟨p, S, f, k, va, vc, n, xs, rfl, rfl, rfl, rfl, rfl, HK, HS⟩ := hrel
    clear S4
    by_cases hkn : k < rn ∧ k < 40
    · have b1 : (k : Int) < (rn : Int) := by omega
      have b2 : (k : Int) < 40 := by omega
      have bk : k < rn := by omega
      obtain ⟨x, hxe, hRX⟩ := HRw.out.x (by omega)
      subst hxe
      obtain ⟨hcell, hrow, hLC, hLb⟩ := hRX.below HS.out.bel k (by omega)
      have HRX : Hid (RowsX w x rn A L C l) := hRX
      have HRr : Hid (BRow wr (A k) (L k) (C k) (l k) ∧ L k ≤ C k) := ⟨hrow, hLC⟩
      have bL : (L k : Int) ≤ 140737488355328 := by omega
      have HKn : Hid (k < rn ∧ k < 40) := hkn
      clear hkn hRX hrow hLC hLb HRw
      go_upto_if 59 with fail
      go_cut [17] from 57 to 61 (fun X wx => ∃ bn : Nat, X = .slice (A k) bn (C k) ∧ Hid (bn = min 8192 (L k)) ∧ Hid (wx = wr))
      case first =>
        by_cases h5 : 8192 < L k
        · have q5 : (8192 : Int) < (L k : Int) := by omega
          have z5 : ∀ u, (Instr.slice 34 (.slice (A k) (L k) (C k)) none (some (.int .i64 8192)) none).run Tryz.prog u = .ok (.slice (A k) 8192 (C k)) u := fun u => slice_to (A k) (L k) (C k) 8192 (by omega) HRr.out.2 u
          go_wp2_with (fail)
          go_meet
          case rel => exact ⟨8192, rfl, by show _ = _; omega, rfl⟩
        · have q5 : ¬ (8192 : Int) < (L k : Int) := by omega
          go_wp2_with (fail)
          go_meet
          case rel => exact ⟨L k, rfl, by show _ = _; omega, rfl⟩
      case rest =>
        obtain ⟨bn, rfl, HBn, HWc⟩ := hcut
        have hwc := HWc.out
        subst hwc
        clear HWc hcell
        obtain ⟨wa, hwa⟩ : ∃ wa, wa = wc := ⟨_, rfl⟩
        subst hwa
        have bbn : (bn : Int) ≤ 8192 := by have := HBn.out; omega
        have bff : (f : Int) ≤ 40 := by have := HK.out; omega
        have HRb : Hid (∀ w', Below w.heap.size w w' → BRow w' (A k) bn (C k) (recL l k)) := fun w' hb => by
          obtain ⟨_, hrow, hLC, _⟩ := HRX.out.below hb k (by have := HKn.out; omega)
          by_cases h5 : 8192 < L k
          · have e5 : bn = 8192 := by have := HBn.out; omega
            rw [e5]
            exact hrow.pre (by omega)
          · have e5 : bn = L k := by have := HBn.out; omega
            rw [e5]
            unfold recL
            rw [List.take_of_length_le (by rw [hrow.1]; omega)]
            exact hrow
        go_upto_region 17 with fail
        go_cut [76] from 62 to 76 (fun X wx => ∃ bb : Bool, X = .bool bb ∧ Hid (bb = true → f < n2 ∧ f < n3) ∧ Hid (wx = wa))
        case first =>
          by_cases h6 : f < n2 ∧ f < n3
          · have q6 : (f : Int) < (n2 : Int) := by omega
            have q7 : (f : Int) < (n3 : Int) := by omega
            obtain ⟨kr, hkr, ekr⟩ := mod_nat (x := (k : Int)) (by omega) 2 (by omega)
            have ekr2 : (k : Int).tmod 2 = (kr : Int) := ekr
            have H6 : Hid (f < n2 ∧ f < n3) := h6
            obtain ⟨bb, hbb⟩ : ∃ bb, ((kr : Int) == 0) = bb := ⟨_, rfl⟩
            clear h6 hkr ekr
            go_wp2_with (fail)
            go_meet
            case rel => exact ⟨_, rfl, fun _ => H6.out, rfl⟩
          · by_cases h8 : f < n2
            · have q6 : (f : Int) < (n2 : Int) := by omega
              have q7 : ¬ (f : Int) < (n3 : Int) := by omega
              clear h6 h8
              go_wp2_with (fail)
              go_meet
              case rel => exact ⟨false, rfl, fun h => (by cases h), rfl⟩
            · have q6 : ¬ (f : Int) < (n2 : Int) := by omega
              clear h6 h8
              go_wp2_with (fail)
              go_meet
              case rel => exact ⟨false, rfl, fun h => (by cases h), rfl⟩
        case rest =>
        obtain ⟨bb, rfl, HBb, HWc⟩ := hcut
        have hwc := HWc.out
        subst hwc
        clear HWc
        obtain ⟨wx, hwx⟩ : ∃ wx, wx = wc := ⟨_, rfl⟩
        subst hwx
        go_upto_if 76 with fail
        go_cut [15] from 77 to 89 (fun X wx => ∃ f2 : Nat, X = .int .i64 f2 ∧ Hid (f2 ≤ k + 1) ∧ Hid (LaS w b m p S (.slice va n vc) xs k xs wx))
        case first =>
          cases bb with
          | false =>
            go_wp2_with (fail)
            go_meet
            case rel => exact ⟨f, rfl, by have := HK.out; show f ≤ k + 1; omega, HS⟩
          | true =>
            have h6 := HBb.out rfl
            have q6 : (f : Int) < (n2 : Int) := by omega
            have q7 : (f : Int) < (n3 : Int) := by omega
            obtain ⟨x2, hx2e, hx2⟩ := (H2.out.below HS.out.bel).x (k := f) (by omega)
            obtain ⟨x3, hx3e, hx3⟩ := (H3.out.below HS.out.bel).x (k := f) (by omega)
            subst hx2e hx3e
            have y2 := hx2 f (by omega)
            have y3 := hx3 f (by omega)
            obtain ⟨zn, hzn, ezn⟩ := and_bits 3 (by omega) (B2 f)
            have ezn2 : bits .and .i64 (B2 f) 3 = (zn : Int) := ezn
            obtain ⟨kp, hkp⟩ : ∃ kp : Nat, B3 f = (kp : Int) := ⟨(B3 f).toNat, by have := HR3.out f; omega⟩
            have HKp : Hid (kp < 18446744073709551616 ∧ zn ≤ 3) := ⟨by have := HR3.out f; omega, hzn⟩
            rw [hkp] at y3
            have hDr : LaS w b m p S (.slice va n vc) xs k xs wx.drew := HS.out.below ⟨rfl, rfl, rfl, Nat.le_refl _, fun _ _ => rfl⟩
            have hArm := laArm hDr (zn : Int) (by have := HKp.out; omega) kp HKp.out.1
            clear hDr hx2 hx3 h6 ezn hzn hkp
            go_wp2_with (fail)
            go_region_with (go_at_call 17; refine hArm.mono ?_; rintro e v1 ⟨rfl, q⟩; have HQ1 : Hid (LaS w b m p S (.slice va n vc) xs k xs v1) := q; clear q)
            all_goals (go_wp2_with (fail); go_meet; exact ⟨f + 1, by first | rfl | go_num, by have := HK.out; show f + 1 ≤ k + 1; omega, HQ1⟩)
        case rest =>
          obtain ⟨f2, rfl, HF2, HS2⟩ := hcut
          obtain ⟨wb, hwb⟩ : ∃ wb, wb = wc := ⟨_, rfl⟩
          subst hwb
          have hrl : (recL l k).length = bn := (HRb.out w (Below.refl _ w)).1
          have hA := laAppE HS2.out HRb.out hrl (by omega) (by have := HKn.out; omega) (by have := HK.out; omega)
          obtain ⟨X, hX⟩ : ∃ X : Nm, recL l k = X := ⟨_, rfl⟩
          rw [hX] at hA
          have HX : Hid (recL l k = X ∧ X.length = bn) := ⟨hX, by rw [← hX]; exact hrl⟩
          obtain ⟨n2', hn2⟩ : ∃ n2', n + 1 = n2' := ⟨_, rfl⟩
          have HN2 : Hid (n + 1 = n2' ∧ n2' ≤ 41) := ⟨hn2, by have := HK.out; have := HKn.out; omega⟩
          have bn2' : (n2' : Int) ≤ 41 := by have := HN2.out; omega
          clear HS hX hrl hn2
          go_wp2_with (fail)
          refine hA.mono ?_
          rintro e w5 ⟨e0, rfl, q⟩
          have hb5 := HRb.out w5 q.bel
          rw [HX.out.1] at hb5
          obtain ⟨XB, hXB⟩ : ∃ XB : ByteArray, XB = ⟨X.toArray⟩ := ⟨_, rfl⟩
          have z1 : (convert 34 9 (.slice (A k) bn (C k))).run Tryz.prog w5 = .ok (.string XB) w5 := by rw [hXB]; exact hb5.string
          have hQ2 := q.below ((Below.refl _ w5).alloc (Nat.le_refl _) (.cells #[.string XB] 9))
          have hsz : w.heap.size ≤ (w5.alloc (.cells #[.string XB] 9)).heap.size := hQ2.bel.size
          have hcx : (w5.alloc (.cells #[.string XB] 9)).cell? ⟨w5.heap.size, 0, none⟩ = some (strN X) := by
            rw [cell_blk (heap_alloc_new w5 _) (i := 0) (v := .string XB) rfl, hXB]
          have HQ2 : Hid (LaE1 w b m p S (.slice va n vc) xs (k + 1) (xs ++ [X]) e0 (w5.alloc (.cells #[.string XB] 9))) := hQ2
          have hown := hQ2.own
          clear hA q hb5 hXB hQ2 HS2
          go_wp2_with (at_builtin; refine wpList_push_text hown hsz X ⟨w5.heap.size, 0, none⟩ 1 hcx ?c9 rfl _ _ rfl rfl rfl ?_)
          case c9 => have := HK.out; have := HKn.out; omega
          intro vo w6 hp
          have hL6 := HQ2.out.push hp
          have hown6 := hp.1
          obtain ⟨va', vc', hvo⟩ := hown6.shape
          subst hvo
          have hlen : (xs ++ [X]).length = n2' := by have := HK.out; have := HN2.out; simp; omega
          rw [hlen] at hL6 hp hown6 ⊢
          have HL6 : Hid (LaE w b m p S (.slice va' n2' vc') (xs ++ [X]) (k + 1) e0 w6) := hL6
          have HLen : Hid ((xs ++ [X]).length = n2') := hlen
          clear hp hown hown6 hL6 hsz hcx HQ2 hlen z1
          obtain ⟨wy, hwy⟩ : ∃ wy, wy = w6 := ⟨_, rfl⟩
          subst hwy
          go_upto_region 22 with fail
          go_cut [111] from 98 to 111 (fun X wx => ∃ bb : Bool, X = .bool bb ∧ Hid (bb = true → e0 = 0) ∧ Hid (wx = wy))
          case first =>
            rcases HL6.out with ⟨he, _⟩ | ⟨he, _⟩
            · subst he
              by_cases h8 : k < n1
              · have q8 : (k : Int) < (n1 : Int) := by omega
                obtain ⟨x1, hx1e, hx1⟩ := (H1.out.below HL6.out.bel).x (k := k) (by omega)
                subst hx1e
                have y1 := hx1 k (by omega)
                obtain ⟨bb, hbb⟩ : ∃ bb, B1 k = bb := ⟨_, rfl⟩
                rw [hbb] at y1
                clear hx1 hbb h8
                go_wp2_with (fail)
                go_meet
                case rel => exact ⟨bb, rfl, fun _ => by first | rfl | trivial, rfl⟩
              · have q8 : ¬ (k : Int) < (n1 : Int) := by omega
                clear h8
                go_wp2_with (fail)
                go_meet
                case rel => exact ⟨false, rfl, fun _ => by first | rfl | trivial, rfl⟩
            · subst he
              go_wp2_with (fail)
              go_meet
              case rel => exact ⟨false, rfl, fun h => (by cases h), rfl⟩
          case rest =>
          obtain ⟨b3, rfl, HB3, HWc⟩ := hcut
          have hwc := HWc.out
          subst hwc
          clear HWc
          obtain ⟨wz, hwz⟩ : ∃ wz, wz = wc := ⟨_, rfl⟩
          subst hwz
          go_upto_if 111 with fail
          go_cut [14, 18] from 112 to 117 (fun su ev wx => ∃ (S' e' : Nat), su = .int .i64 S' ∧ ev = .int .i64 e' ∧ Hid (S' ≤ n2') ∧ Hid (LaE w b m p S' (.slice va' n2' vc') (xs ++ [X]) (k + 1) e' wx))
          case first =>
            cases b3 with
            | false =>
              go_wp2_with (fail)
              go_meet
              case rel => exact ⟨S, e0, rfl, rfl, by have := HK.out; have := HN2.out; show S ≤ n2'; omega, HL6⟩
            | true =>
              have he := HB3.out rfl
              subst he
              have hL : LaS w b m p S (.slice va' n2' vc') (xs ++ [X]) (k + 1) (xs ++ [X]) wz := by
                rcases HL6.out with ⟨_, h⟩ | ⟨he, _⟩
                · exact h
                · cases he
              have hSy := laSync hL
              clear hL HL6
              go_wp2_with (fail)
              refine hSy.mono ?_
              rintro e w7 (⟨rfl, q⟩ | ⟨rfl, q⟩)
              · rw [HLen.out] at q
                have HQ7 : Hid (LaS w b m p n2' (.slice va' n2' vc') (xs ++ [X]) (k + 1) (xs ++ [X]) w7) := q
                clear hSy q
                go_wp2_with (fail)
                go_meet
                case rel => exact ⟨n2', 0, rfl, rfl, Nat.le_refl _, .inl ⟨rfl, HQ7.out⟩⟩
              · have HQ7 : Hid (LaF w b m S (.slice va' n2' vc') (xs ++ [X]) (k + 1) (xs ++ [X]) w7) := q
                clear hSy q
                go_wp2_with (fail)
                go_meet
                case rel => exact ⟨S, 13, rfl, rfl, by have := HK.out; have := HN2.out; show S ≤ n2'; omega, .inr ⟨rfl, HQ7.out⟩⟩
          case rest =>
            obtain ⟨S', e', rfl, rfl, HS', HE⟩ := hcut
            obtain ⟨wd, hwd⟩ : ∃ wd, wd = wc := ⟨_, rfl⟩
            subst hwd
            clear HL6
            rcases HE.out with ⟨he, hL⟩ | ⟨he, hF⟩
            · subst he
              have HL : Hid (LaS w b m p S' (.slice va' n2' vc') (xs ++ [X]) (k + 1) (xs ++ [X]) wd) := hL
              clear HE hL
              go_wp2_with (fail)
              go_roundw
              case rel => exact ⟨p, S', f2, k + 1, va', vc', n2', xs ++ [X], rfl, rfl, rfl, rfl, by first | rfl | go_num, by have h1 := HKn.out; have h2 := HF2.out; have h3 := HS'.out; have h4 := HK.out; have h5 := HN2.out; exact ⟨by omega, by omega, by omega, by omega, by omega, by simp; omega⟩, HL⟩
              case measure => simp [intOf]; omega
            · subst he
              have HFl : Hid (LaF w b m S' (.slice va' n2' vc') (xs ++ [X]) (k + 1) (xs ++ [X]) wd) := hF
              have hUp := laUp hF
              clear HE hF
              go_wp2_with (fail)
              refine hUp.mono ?_
              rintro e u7 ⟨rfl, hw⟩
              subst hw
              have hSt := laStart HFl.out
              clear hUp
              go_wp2_with (fail)
              refine hSt.mono ?_
              rintro e w8 ⟨rfl, d, G, g, s, k1, k2, k3, k4, k5, k6, k7, k8, k9⟩
              have hOp := laOpen HT.out k1 k2 k3 k4 k5 k6 k7 k8 k9 (by have := HKn.out; omega)
              clear hSt k1 k2 k3 k4 k5 k6 k7 k8 k9 HFl
              go_wp2_with (fail)
              refine hOp.mono ?_
              rintro e w9 ⟨p2, R', rfl, hpre, hle, hI⟩
              obtain ⟨nr, hnr⟩ : ∃ nr, R'.length = nr := ⟨_, rfl⟩
              rw [hnr] at hle hI
              have hnr2 : nr ≤ n2' := by
                have h1 := hpre.length_le
                have h4 := HK.out
                have h5 := HN2.out
                simp at h1
                omega
              have HI9 : Hid (LaI w b m p2 nr (.slice va' n2' vc') (xs ++ [X]) (k + 1) R' w9) := hI
              have HR' : Hid (R' <+: xs ++ [X] ∧ S' ≤ nr ∧ R'.length = nr ∧ nr ≤ n2') := ⟨hpre, hle, hnr, hnr2⟩
              have bS : ¬ (nr : Int) < (S' : Int) := by omega
              have dS : decide (nr < S') = false := by simp; omega
              have dN : decide (n2' < nr) = false := by simp; omega
              have bN : ¬ (n2' : Int) < (nr : Int) := by omega
              have bnr : (nr : Int) ≤ 41 := by omega
              clear hOp hpre hle hI hnr hnr2
              have hFi := laFirst HI9.out.la
              go_wp2_with (fail)
              refine hFi.mono ?_
              rintro e u1 ⟨rfl, hu1⟩
              subst hu1
              clear hFi
              have hLa := laLastI HI9.out HR'.out.2.2.1
              go_wp2_with (fail)
              refine hLa.mono ?_
              rintro e wE ⟨rfl, hIE⟩
              have HIE : Hid (LaI w b m p2 nr (.slice va' n2' vc') (xs ++ [X]) (k + 1) R' wE) := hIE
              have hLa2 := laLastI hIE HR'.out.2.2.1
              clear hLa HI9 hIE
              go_wp2_with (fail)
              refine hLa2.mono ?_
              rintro e wF ⟨rfl, hIF⟩
              have HIF : Hid (LaI w b m p2 nr (.slice va' n2' vc') (xs ++ [X]) (k + 1) R' wF) := hIF
              clear hLa2 HIE hIF
              go_wp2_with (fail)
              go_loopw [21] (fun kk wr => ∃ j : Nat, kk = .int .i64 j ∧ Hid (1 ≤ j ∧ j ≤ nr + 1) ∧ Hid (LaI w b m p2 nr (.slice va' n2' vc') (xs ++ [X]) (k + 1) R' wr)) (fun kk _ => nr + 1 - (intOf kk).toNat)
              case atStart => exact ⟨1, rfl, ⟨Nat.le_refl _, by omega⟩, HIF⟩
              case round =>
                obtain ⟨j, rfl, HJ, HI⟩ := hrel
                clear HIF
                have hLa := laLastI HI.out HR'.out.2.2.1
                by_cases hj : j ≤ nr
                · have b3 : (j : Int) ≤ (nr : Int) := by omega
                  have HJn : Hid (1 ≤ j ∧ j ≤ nr) := ⟨HJ.out.1, hj⟩
                  have bj : (j : Int) ≤ 41 := by omega
                  have bj0 : (0 : Int) ≤ (j : Int) := by omega
                  clear hj HJ
                  go_wp2_with (fail)
                  refine hLa.mono ?_
                  rintro e v1 ⟨rfl, hI1⟩
                  have HI1 : Hid (LaI w b m p2 nr (.slice va' n2' vc') (xs ++ [X]) (k + 1) R' v1) := hI1
                  have hGt := laGet hI1 (by have := HKn.out; omega) j HJn.out.1 (by rw [HR'.out.2.2.1]; exact HJn.out.2)
                  clear hLa HI hI1
                  go_wp2_with (fail)
                  refine hGt.mono ?_
                  rintro e v2 ⟨ga, gc, r, hr, rfl, hrow, hb2⟩
                  have HI2 : Hid (LaI w b m p2 nr (.slice va' n2' vc') (xs ++ [X]) (k + 1) R' v2) := HI1.out.below hb2
                  obtain ⟨rl, hrl⟩ : ∃ rl, r.length = rl := ⟨_, rfl⟩
                  rw [hrl] at hrow ⊢
                  obtain ⟨XC, hXC⟩ : ∃ XC : ByteArray, XC = ⟨r.toArray⟩ := ⟨_, rfl⟩
                  have z1 : ∀ i, (convert 34 9 (.slice ga rl gc)).run Tryz.prog (v2.drewN i) = .ok (.string XC) (v2.drewN i) := fun i => by rw [hXC]; exact (hrow.drewN i).string
                  obtain ⟨j1, hj1⟩ : ∃ j1, j = j1 + 1 := ⟨j - 1, by have := HJn.out; omega⟩
                  have hxr : (xs ++ [X])[j1]? = some r := by
                    obtain ⟨t, ht⟩ := HR'.out.1
                    have h1 := HR'.out.2.2.1
                    have h2 := HJn.out
                    rw [← ht, List.getElem?_append_left (by omega), ← hr]
                    congr 1
                    omega
                  obtain ⟨g, hg, _, hcell, _⟩ := HI2.out.own.at hxr
                  have hcell2 : ∀ i, (v2.drewN i).cell? ⟨g, j1, none⟩ = some (.string XC) := fun i => by
                    have : v2.cell? ⟨g, j1, none⟩ = some (.string XC) := by rw [hcell, hXC]
                    exact this
                  have ej : IntKind.i64.wrap ((j : Int) - 1) = (j1 : Int) := by rw [IntKind.wrap_i64]; omega
                  have bj1 : (j1 : Int) < (n2' : Int) := by have := HR'.out; omega
                  have bj1n : j1 < n2' := by omega
                  have HJ2 : Hid (j = j1 + 1) := hj1
                  subst hg
                  clear hGt hr hrow hb2 hrl hXC hxr hcell hj1 HI1
                  go_wp2_with (fail)
                  go_quiet (fail)
                  go_wp2_with (fail)
                  go_roundw
                  case rel => exact ⟨j + 1, by first | rfl | go_num, ⟨by omega, by have := HJn.out; omega⟩, HI2.out.below ⟨rfl, rfl, rfl, Nat.le_refl _, fun _ _ => rfl⟩⟩
                  case measure => have := HJn.out; simp [intOf]; omega
                · have b3 : ¬ (j : Int) ≤ (nr : Int) := by omega
                  clear hj HJ
                  go_wp2_with (fail)
                  refine hLa.mono ?_
                  rintro e v1 ⟨rfl, hI1⟩
                  have HI1 : Hid (LaI w b m p2 nr (.slice va' n2' vc') (xs ++ [X]) (k + 1) R' v1) := hI1
                  have hLa2 := laLastI hI1 HR'.out.2.2.1
                  obtain ⟨hcap, _⟩ := ownS_cap hI1.own (by simp)
                  rw [HLen.out] at hcap
                  have z5 : ∀ u, (Instr.slice 46 (.slice va' n2' vc') none (some (.int .i64 (nr : Int))) none).run Tryz.prog u = .ok (.slice va' nr vc') u := fun u => slice_toS va' n2' vc' nr HR'.out.2.2.2 hcap u
                  clear hLa HI hI1 hcap
                  go_wp2_with (fail)
                  refine hLa2.mono ?_
                  rintro e v2 ⟨rfl, hI2⟩
                  have hI3 := hI2.cut nr (by rw [HLen.out]; exact HR'.out.2.2.2) (by simp)
                  have htk : (xs ++ [X]).take nr = R' := by
                    obtain ⟨t, ht⟩ := HR'.out.1
                    rw [← ht, ← HR'.out.2.2.1, List.take_left' rfl]
                  rw [htk] at hI3
                  have HI3 : Hid (LaI w b m p2 nr (.slice va' nr vc') R' (k + 1) R' v2) := hI3
                  have hLa3 := laLastI hI3 HR'.out.2.2.1
                  have emin : min (S' : Int) (nr : Int) = (S' : Int) := by have := HR'.out; omega
                  clear hLa2 HI1 hI2 hI3 htk
                  go_wp2_with (fail)
                  refine hLa3.mono ?_
                  rintro e v3 ⟨rfl, hI4⟩
                  have hSy := laSyncI hI4
                  clear hLa3 HI3 hI4
                  go_wp2_with (fail)
                  refine hSy.mono ?_
                  rintro e v4 ⟨rfl, hS4⟩
                  have hLa4 := laLastS hS4 HR'.out.2.2.1
                  clear hSy hS4
                  go_wp2_with (fail)
                  refine hLa4.mono ?_
                  rintro e v5 ⟨rfl, hS5⟩
                  rw [HR'.out.2.2.1] at hS5
                  have HS5 : Hid (LaS w b m p2 nr (.slice va' nr vc') R' (k + 1) R' v5) := hS5
                  clear hLa4 hS5
                  go_wp2_with (fail)
                  go_roundw
                  case rel => exact ⟨p2, nr, f2, k + 1, va', vc', nr, R', rfl, rfl, rfl, rfl, by first | rfl | go_num, by have h1 := HKn.out; have h2 := HF2.out; have h3 := HR'.out; have h4 := HK.out; have h5 := HN2.out; exact ⟨by omega, by omega, by omega, by omega, by omega, h3.2.2.1⟩, HS5⟩
                  case measure => simp [intOf]; omega
    · have hLa := laLastS HS.out HK.out.2.2.2.2.2
      by_cases h9 : k < rn
      · have b1 : (k : Int) < (rn : Int) := by omega
        have b2 : ¬ (k : Int) < 40 := by omega
        clear hkn h9
        go_wp2_with (fail)
        refine hLa.mono ?_
        rintro e v5 ⟨rfl, hS5⟩
        have HB5 : Hid (Below w.heap.size w v5) := hS5.bel
        clear hLa hS5
        go_wp2_with (fail)
        go_ret
        exact ⟨by first | rfl | simp, HB5.out⟩
      · have b1 : ¬ (k : Int) < (rn : Int) := by omega
        clear hkn h9
        go_wp2_with (fail)
        refine hLa.mono ?_
        rintro e v5 ⟨rfl, hS5⟩
        have HB5 : Hid (Below w.heap.size w v5) := hS5.bel
        clear hLa hS5
        go_wp2_with (fail)
        go_ret
        exact ⟨by first | rfl | simp, HB5.out⟩
end Go.Proofs.YtoaabghignilfaaGreatDoor
