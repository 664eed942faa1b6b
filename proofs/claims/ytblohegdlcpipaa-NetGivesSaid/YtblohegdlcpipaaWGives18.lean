/- NetGives: letters sent, copied, moved, then all taken: walked. -/
import Derived.Test.YtblohegdlcpipaaURowsS
import Derived.Deep.CutRange
import Derived.BigRegion
import Derived.Lib.ConvBytes
set_option linter.unusedVariables false
set_option linter.unusedSimpArgs false
namespace Go.Proofs.Ytblohegdlcpipaa
open Go.RowKit

theorem conv_row (w : World) (s : ByteArray) (hs : s.size ≤ 140737488355328) : ∃ a c W, (convert 9 32 (.string s)).run Try.prog w = .ok (.slice a s.size c) W ∧ BRow W a s.size c s.data.toList ∧ Below w.heap.size w W ∧ (∀ x, a = some x → w.heap.size ≤ x.block) ∧ s.size ≤ c := by
  have hr := Lib.run_convert_string_bytes (P := Try.prog) w 9 32 5 s Try.underlying9 Try.underlying32 Try.underlying5
  refine ⟨_, _, _, hr, ⟨by simp, .inr ⟨_, rfl, fun j hj => ?_⟩⟩, ⟨rfl, rfl, rfl, by rw [Lib.bytesWorld_size]; omega, fun k hk => Lib.bytesWorld_at_old w _ s k hk⟩, fun x hx => by cases hx; exact Nat.le_refl _, grownCap_ge _ _ _ _⟩
  have hj2 : j < s.size := by simpa using hj
  rw [show (⟨w.heap.size, 0, none⟩ : Addr).add j = ⟨w.heap.size, j, none⟩ from by unfold Addr.add; split <;> simp_all, Lib.bytesWorld_cell w 5 s j hj2]
  simp [List.getD, hj2]

def lT (t : List UInt8) : L3 := (1, 2, t)
def letT (D : List (List UInt8)) : List L3 := D.map lT
theorem letT_len (D : List (List UInt8)) : (letT D).length = D.length := by simp [letT]
theorem letT_append (a b : List (List UInt8)) : letT (a ++ b) = letT a ++ letT b := by simp [letT]
theorem letT_erase (D : List (List UInt8)) (j : Nat) : letT (D.eraseIdx j) = (letT D).eraseIdx j := map_erase lT D j
theorem letT_at {D : List (List UInt8)} {j : Nat} {t : List UInt8} (h : D[j]? = some t) : (letT D)[j]? = some (lT t) := by rw [letT, List.getElem?_map, h]; rfl
theorem send_letT {D : List (List UInt8)} {t : List UInt8} (h : D.length < 200) : sendA (letT D) 1 2 t = letT (D ++ [t]) := by
  unfold sendA
  rw [if_pos ⟨rfl, rfl, by rw [letT_len]; exact h⟩, letT_append]
  rfl
theorem copy_letT {D : List (List UInt8)} {j : Nat} {t : List UInt8} (h : D.length < 200) (hj : D[j]? = some t) : copyA (letT D) (j : Int) = letT (D ++ [t]) := by
  unfold copyA
  rw [if_pos (by rw [letT_len]; exact h), Int.toNat_natCast, letT_at hj, letT_append]
  rfl
theorem erase_perm {α : Type} {l : List α} {j : Nat} {x : α} (h : l[j]? = some x) : (x :: l.eraseIdx j).Perm l := by
  have hl := (List.getElem?_eq_some_iff.1 h).1
  have h1 : l = l.take j ++ x :: l.drop (j + 1) := by
    have := List.take_append_drop j l
    rw [List.drop_eq_getElem_cons hl, (List.getElem?_eq_some_iff.1 h).2] at this
    exact this.symm
  rw [List.eraseIdx_eq_take_drop_succ]
  conv => rhs; rw [h1]
  exact List.perm_middle.symm
theorem move_letT (D : List (List UInt8)) (i k : Int) : ∃ D', moveA (letT D) i k = letT D' ∧ D'.Perm D := by
  unfold moveA
  split
  · rename_i h
    obtain ⟨i0, i1⟩ := hasB_iff.1 h.1
    rw [letT_len] at i1
    obtain ⟨I, rfl⟩ : ∃ I : Nat, i = (I : Int) := ⟨i.toNat, by omega⟩
    obtain ⟨t, ht⟩ : ∃ t, D[I]? = some t := ⟨D[I]'(by omega), List.getElem?_eq_getElem _⟩
    refine ⟨(D.eraseIdx I).take k.toNat ++ t :: (D.eraseIdx I).drop k.toNat, ?_, ?_⟩
    · rw [Int.toNat_natCast, List.getD_eq_getElem?_getD, letT_at ht, ← letT_erase]
      simp [insA, letT, lT]
    · refine List.perm_middle.trans ?_
      rw [List.take_append_drop]
      exact erase_perm ht
  · exact ⟨D, rfl, List.Perm.refl _⟩
theorem reach12 : reachB 0 1 2 = true := by kernel_rfl

/-- What is carried along: the row of all texts, the net's own. -/
structure GvS (w : World) (w' : World) (b : Nat) (v : Value) (A D : List (List UInt8)) : Prop where
  row : OwnS w' w.heap.size v A
  net : NetO w w.heap.size w' b 0 (letT D)
  perm : D.Perm A
theorem GvS.len {w w' : World} {b : Nat} {v : Value} {A D : List (List UInt8)} (h : GvS w w' b v A D) : D.length = A.length := h.perm.length_eq
theorem GvS.below {w w' w2 : World} {b : Nat} {v : Value} {A D : List (List UInt8)} (h : GvS w w' b v A D) (hb : Below w'.heap.size w' w2) : GvS w w2 b v A D := ⟨h.row.below hb, h.net.below hb, h.perm⟩
theorem GvS.go {w w' w2 : World} {b : Nat} {v : Value} {A D D' : List (List UInt8)} (h : GvS w w' b v A D) (hg : OGo w w.heap.size w' b 0 (letT D') w2) (hp : D'.Perm A) : GvS w w2 b v A D' := ⟨h.row.kt hg.2, hg.1, hp⟩
theorem NetO.sz {w0 w : World} {B b sd : Nat} {ls : List L3} (h : NetO w0 B w b sd ls) : B ≤ w.heap.size := by
  obtain ⟨_, _, _, _, _, h5⟩ := h
  exact h5
/-- What an append of one text leaves. -/
def PushG (w : World) (b : Nat) (A D : List (List UInt8)) (vo : Value) (w2 : World) : Prop := GvS w w2 b vo A D
theorem push_text {w w' : World} {b n c : Nat} {a : Option Addr} {A D' : List (List UInt8)} (t : List UInt8) (ho : OwnS w' w.heap.size (.slice a n c) A) (hn : NetO w w.heap.size w' b 0 (letT D')) (hp : D'.Perm (A ++ [t])) (hl : A.length ≤ 1000) (ty : TypeId) :
    ∃ vo w2, (Builtin.append_ #[41, 41] ty #[.slice a n c, .slice (some ⟨w'.heap.size, 0, none⟩) 1 1]).run Try.prog (w'.alloc (.cells #[.string ⟨t.toArray⟩] 9)) = .ok vo w2 ∧ PushG w b (A ++ [t]) D' vo w2 := by
  have hb : Below w'.heap.size w' (w'.alloc (.cells #[.string ⟨t.toArray⟩] 9)) := (Below.refl _ _).alloc (Nat.le_refl _) _
  have hn2 := hn.below hb
  have ho2 := ho.below hb
  obtain ⟨vo, w2, hr, hA⟩ := appS ho2 (layS w' t) (by omega) hn2.sz ty
  exact ⟨vo, w2, hr, hA.1, hn2.appS ho2 hA, hp⟩
theorem OwnB.kt {w w' : World} {B : Nat} {v : Value} {l : List UInt8} (h : OwnB w B v l) (hk : KT w w') : OwnB w' B v l := ownB_keep h (fun g hg => by obtain ⟨cur, hc⟩ := ownB_block h hg; exact hk.keep g cur _ _ hc (by decide) (by decide))
def lenV : Value → Nat
  | .slice _ n _ => n
  | _ => 0

set_option maxHeartbeats 16000000 in
set_option maxRecDepth 40000 in
theorem wgives_any (a : Option Addr) (b0 o len cap : Nat) (tx : Nat → List UInt8) (a2 : Option Addr) (b2 o2 len2 cap2 : Nat) (num2 : Nat → Int) (a3 : Option Addr) (b3 o3 len3 cap3 : Nat) (num3 : Nat → Int) (w : World)
    (e11 : 0 < len → a = some ⟨b0, o, none⟩) (e12 : ∀ i, i < len → w.cell? ⟨b0, o + i, none⟩ = some (.string ⟨(tx i).toArray⟩)) (e13 : len ≤ maxLen) (e14 : ∀ i, (tx i).length ≤ 140737488355328)
    (e21 : 0 < len2 → a2 = some ⟨b2, o2, none⟩) (e22 : ∀ i, i < len2 → w.cell? ⟨b2, o2 + i, none⟩ = some (.int .i64 (num2 i))) (e23 : len2 ≤ maxLen)
    (e31 : 0 < len3 → a3 = some ⟨b3, o3, none⟩) (e32 : ∀ i, i < len3 → w.cell? ⟨b3, o3 + i, none⟩ = some (.int .i64 (num3 i))) (e33 : len3 ≤ maxLen) :
    Calls Try.prog 4 #[.slice a len cap, .slice a2 len2 cap2, .slice a3 len3 cap3] w fun e w' => e = .returned (.bool true) ∧ Below w.heap.size w w' := by
  have HSh := ushown_any w
  have HT : Hid ((0 < len → a = some ⟨b0, o, none⟩) ∧ (∀ i, i < len → ∀ u, Below w.heap.size w u → u.cell? ⟨b0, o + i, none⟩ = some (.string ⟨(tx i).toArray⟩)) ∧ ∀ i, (tx i).length ≤ 140737488355328) := ⟨e11, fun i hi u hu => by rw [hu.cell (World.block_lt_of_cell? w _ (e12 i hi))]; exact e12 i hi, e14⟩
  have HI2 : Hid ((0 < len2 → a2 = some ⟨b2, o2, none⟩) ∧ ∀ i, i < len2 → ∀ u, Below w.heap.size w u → u.cell? ⟨b2, o2 + i, none⟩ = some (.int .i64 (num2 i))) := ⟨e21, fun i hi u hu => by rw [hu.cell (World.block_lt_of_cell? w _ (e22 i hi))]; exact e22 i hi⟩
  have HI3 : Hid ((0 < len3 → a3 = some ⟨b3, o3, none⟩) ∧ ∀ i, i < len3 → ∀ u, Below w.heap.size w u → u.cell? ⟨b3, o3 + i, none⟩ = some (.int .i64 (num3 i))) := ⟨e31, fun i hi u hu => by rw [hu.cell (World.block_lt_of_cell? w _ (e32 i hi))]; exact e32 i hi⟩
  have bl1 : (len : Int) ≤ 9223372036854775807 := by simp only [maxLen] at e13; omega
  have bl2 : (len2 : Int) ≤ 9223372036854775807 := by simp only [maxLen] at e23; omega
  have bl3 : (len3 : Int) ≤ 9223372036854775807 := by simp only [maxLen] at e33; omega
  clear e11 e12 e13 e14 e21 e22 e23 e31 e32 e33
  go_enter Try.func4, Try.ntmps4
  go_wp2_with (fail)
  refine HSh.mono ?_
  rintro e w1 ⟨rfl, hb1⟩
  clear HSh
  have HNew : Hid (Calls Try.prog 8 #[] w1 fun e w' => ∃ b, e = .returned (nptr b) ∧ NetO w w.heap.size w' b 0 []) := onew2 hb1 hb1.size
  clear hb1
  go_wp2_with (fail)
  refine HNew.out.mono ?_
  rintro e w2 ⟨b, rfl, h2⟩
  clear HNew
  have hq : ∀ u, (binOp BinOp.eql 24 (nptr b) (.pointer none)).run Try.prog u = .ok (.bool false) u := fun u => by kernel_rfl
  have H2 : Hid (GvS w w2 b (.slice none 0 0) [] []) := ⟨OwnS.nil _ _, h2, List.Perm.refl _⟩
  clear h2
  go_wp2_with (fail)
  go_loopw [9, 10] (fun v9 vj wr => ∃ (j : Nat) (A D : List (List UInt8)), vj = .int .i64 (j : Int) ∧ j ≤ len ∧ j ≤ 40 ∧ Hid (GvS w wr b v9 A D ∧ A.length = j)) (fun _ vj _ => 40 - (intOf vj).toNat)
  case atStart => exact ⟨0, [], [], rfl, Nat.zero_le _, Nat.zero_le _, H2.out, rfl⟩
  case round =>
    obtain ⟨j, A, D, rfl, hj, hj40, HS⟩ := hrel
    go_upto_region 7 with fail
    go_cut [39] from 32 to 58 (fun vc wz => wz = wr ∧ vc = .bool (decide (j < len ∧ j < 40)))
    case first =>
      by_cases h1 : j < len
      · by_cases h2 : j < 40
        · have g1 : (j : Int) < (len : Int) := by omega
          have g2 : (j : Int) < 40 := by omega
          go_wp2_with (fail)
          go_meet
          case rel => exact ⟨rfl, by rw [decide_eq_true ⟨h1, h2⟩]⟩
        · have g1 : (j : Int) < (len : Int) := by omega
          have g2 : ¬ ((j : Int) < 40) := by omega
          go_wp2_with (fail)
          go_meet
          case rel => exact ⟨rfl, by rw [decide_eq_false (fun h => h2 h.2)]⟩
      · have g1 : ¬ ((j : Int) < (len : Int)) := by omega
        go_wp2_with (fail)
        go_meet
        case rel => exact ⟨rfl, by rw [decide_eq_false (fun h => h1 h.1)]⟩
    case rest =>
      obtain ⟨hw, rfl⟩ := hcut
      replace hw := hw.symm
      subst hw
      by_cases hlt : j < len ∧ j < 40
      · rw [decide_eq_true hlt]
        obtain ⟨hl1, hl2⟩ := hlt
        have bj : (j : Int) < (len : Int) := by omega
        have bj2 : (j : Int) < 40 := by omega
        have ha : a = some ⟨b0, o, none⟩ := HT.out.1 (by omega)
        have hcell := HT.out.2.1 j hl1 wr HS.out.1.net.bel
        have hsz := HT.out.2.2 j
        have e2 : IntKind.i64.wrap ((j : Int) + 1) = (j : Int) + 1 := by rw [IntKind.wrap_i64]; omega
        subst ha
        obtain ⟨S, hS⟩ : ∃ S, tx j = S := ⟨_, rfl⟩
        rw [hS] at hcell hsz
        clear hS
        obtain ⟨sa, sc, hv⟩ := HS.out.1.row.slice
        rw [HS.out.2] at hv
        subst hv
        go_upto_if 48 with fail
        go_cut [11] from 32 to 58 (fun v11 wz => wz = wr ∧ v11 = .string ⟨(S.take 200).toArray⟩)
        case first =>
          by_cases h200 : S.length ≤ 200
          · have q1 : ¬ ((200 : Int) < (S.length : Int)) := by omega
            go_wp2_with (fail)
            go_meet
            case rel => exact ⟨rfl, by rw [List.take_of_length_le h200]⟩
          · have q1 : (200 : Int) < (S.length : Int) := by omega
            have q2 : (200 : Int) ≤ (S.length : Int) := by omega
            have q3 : 200 ≤ S.length := by omega
            go_wp2_with (fail)
            go_meet
            case rel => exact ⟨rfl, by rw [extract_eq]; simp⟩
        case rest =>
          obtain ⟨hw, rfl⟩ := hcut
          replace hw := hw.symm
          subst hw
          have hTl : (S.take 200).length ≤ 200 := by rw [List.length_take]; omega
          obtain ⟨T, hT⟩ : ∃ T, S.take 200 = T := ⟨_, rfl⟩
          rw [hT] at hTl ⊢
          obtain ⟨ca, cc, CW, hcv, hcr, hcb, _⟩ := conv_row wr ⟨T.toArray⟩ (by rw [size_list]; omega)
          rw [size_list] at hcv hcr
          rw [list_data] at hcr
          obtain ⟨n, hn⟩ : ∃ n, T.length = n := ⟨_, rfl⟩
          rw [hn] at hcv hcr hTl
          have HSd : Hid (Calls Try.prog 12 #[nptr b, .int .i64 1, .int .i64 2, .slice ca n cc] CW fun e w' => e = .returned (.tuple #[]) ∧ OwnS w' w.heap.size (.slice sa j sc) A ∧ NetO w w.heap.size w' b 0 (letT (D ++ [T]))) := by
            have h1 := (HS.out.1.below hcb)
            refine (osend h1.net 1 2 hcr (by omega)).mono ?_
            rintro e w' ⟨he, hg⟩
            rw [send_letT (by have := HS.out.1.len; have := HS.out.2; omega)] at hg
            exact ⟨he, h1.row.kt hg.2, hg.1⟩
          have HP : Hid (D.Perm A ∧ A.length = j ∧ j < 40 ∧ j < len) := ⟨HS.out.1.perm, HS.out.2, hl2, hl1⟩
          clear HS hcr hcb hTl hcell hsz hT hn
          go_wp2_with (fail)
          refine HSd.out.mono ?_
          rintro e wx ⟨rfl, ho, hnn⟩
          clear HSd hcv
          have HAp : Hid (∀ ty, ∃ vo w2, (Builtin.append_ #[41, 41] ty #[.slice sa j sc, .slice (some ⟨wx.heap.size, 0, none⟩) 1 1]).run Try.prog (wx.alloc (.cells #[.string ⟨T.toArray⟩] 9)) = .ok vo w2 ∧ PushG w b (A ++ [T]) (D ++ [T]) vo w2) := fun ty => push_text T ho hnn (HP.out.1.append_right _) (by have := HP.out.2; omega) ty
          clear ho hnn
          go_wp2_with (refine wpList_runs rfl (.tmp 55) (.tmp 57) rfl _ _ rfl rfl _ (HAp.out _) ?_)
          intro vo w5 hA
          have HS : Hid (GvS w w5 b vo (A ++ [T]) (D ++ [T]) ∧ (A ++ [T]).length = j + 1) := ⟨hA, by rw [List.length_append, HP.out.2.1]; rfl⟩
          clear hA HAp
          go_wp2_with (fail)
          go_roundw
          case rel => exact ⟨j + 1, A ++ [T], D ++ [T], by first | rfl | go_num, by have := HP.out.2; omega, by have := HP.out.2; omega, HS⟩
          case measure => have := HP.out.2; simp [intOf]; omega
      · rw [decide_eq_false hlt]
        have HL : Hid (GvS w wr b _ A D ∧ A.length ≤ 40) := ⟨HS.out.1, by have := HS.out.2; omega⟩
        clear H2 HS hlt hj hj40
        obtain ⟨A0, D0, HL0⟩ : ∃ A0 D0, Hid (GvS w wr b _ A0 D0 ∧ A0.length ≤ 40) := ⟨A, D, HL⟩
        clear HL
        go_wp2_with (fail)
        go_loopw [9, 12] (fun v9 vj wr => ∃ (j : Nat) (A D : List (List UInt8)), vj = .int .i64 (j : Int) ∧ j ≤ len2 ∧ j ≤ 40 ∧ Hid (GvS w wr b v9 A D ∧ A.length ≤ 40 + j)) (fun _ vj _ => 40 - (intOf vj).toNat)
        case atStart => exact ⟨0, A0, D0, rfl, Nat.zero_le _, Nat.zero_le _, HL0.out⟩
        case round =>
          clear HL0
          obtain ⟨j, A, D, rfl, hj, hj40, HS⟩ := hrel
          go_upto_region 15 with fail
          go_cut [66] from 59 to 93 (fun vc wz => wz = wr ∧ vc = .bool (decide (j < len2 ∧ j < 40)))
          case first =>
            by_cases h1 : j < len2
            · by_cases h2 : j < 40
              · have g1 : (j : Int) < (len2 : Int) := by omega
                have g2 : (j : Int) < 40 := by omega
                go_wp2_with (fail)
                go_meet
                case rel => exact ⟨rfl, by rw [decide_eq_true ⟨h1, h2⟩]⟩
              · have g1 : (j : Int) < (len2 : Int) := by omega
                have g2 : ¬ ((j : Int) < 40) := by omega
                go_wp2_with (fail)
                go_meet
                case rel => exact ⟨rfl, by rw [decide_eq_false (fun h => h2 h.2)]⟩
            · have g1 : ¬ ((j : Int) < (len2 : Int)) := by omega
              go_wp2_with (fail)
              go_meet
              case rel => exact ⟨rfl, by rw [decide_eq_false (fun h => h1 h.1)]⟩
          case rest =>
            obtain ⟨hw, rfl⟩ := hcut
            replace hw := hw.symm
            subst hw
            by_cases hlt : j < len2 ∧ j < 40
            · rw [decide_eq_true hlt]
              obtain ⟨hl1, hl2⟩ := hlt
              have bj : (j : Int) < (len2 : Int) := by omega
              have bj2 : (j : Int) < 40 := by omega
              have ha : a2 = some ⟨b2, o2, none⟩ := HI2.out.1 (by omega)
              obtain ⟨I, hI⟩ : ∃ I, num2 j = I := ⟨_, rfl⟩
              have HC : Hid (∀ u, Below w.heap.size w u → u.cell? ⟨b2, o2 + j, none⟩ = some (.int .i64 I)) := fun u hu => by rw [← hI]; exact HI2.out.2 j hl1 u hu
              have hcell := HC.out wr HS.out.1.net.bel
              have e2 : IntKind.i64.wrap ((j : Int) + 1) = (j : Int) + 1 := by rw [IntKind.wrap_i64]; omega
              clear hI
              subst ha
              obtain ⟨sa, sc, hv⟩ := HS.out.1.row.slice
              obtain ⟨n, hn⟩ : ∃ n, A.length = n := ⟨_, rfl⟩
              rw [hn] at hv
              subst hv
              have HP : Hid (j < 40 ∧ j < len2 ∧ A.length = n ∧ n ≤ 40 + j ∧ D.length = A.length) := ⟨hl2, hl1, hn, by have := HS.out.2; omega, HS.out.1.len⟩
              clear hn hl1 hl2 hj hj40
              cases hh : hasB D.length I with
              | false =>
                have HLk : Hid (Calls Try.prog 11 #[nptr b, .int .i64 I] wr fun e w' => e = .returned (.tuple #[.int .i64 0, .int .i64 0, .slice none 0 0, .bool false]) ∧ w' = wr) := olook_no HS.out.1.net I (by rw [letT_len]; exact hh)
                have HCp : Hid (Calls Try.prog 13 #[nptr b, .int .i64 I] wr fun e w' => e = .returned (.bool false) ∧ GvS w w' b (.slice sa n sc) A D) := by
                  refine (ocopy HS.out.1.net I).mono ?_
                  rintro e w' ⟨he, hg⟩
                  rw [letT_len, hh] at he hg
                  exact ⟨he, HS.out.1.go (by simpa using hg) HS.out.1.perm⟩
                clear hh HS
                go_wp2_with (fail)
                refine HLk.out.mono ?_
                rintro e wq ⟨rfl, hw⟩
                replace hw := hw.symm
                subst hw
                clear HLk
                go_wp2_with (fail)
                refine HCp.out.mono ?_
                rintro e wq ⟨rfl, hg⟩
                have HS : Hid (GvS w wq b (.slice sa n sc) A D) := hg
                clear HCp hg hcell
                go_wp2_with (fail)
                go_roundw
                case rel => exact ⟨j + 1, A, D, by first | rfl | go_num, by have := HP.out; omega, by have := HP.out; omega, HS.out, by have := HP.out; omega⟩
                case measure => have := HP.out; simp [intOf]; omega
              | true =>
                obtain ⟨i0, i1⟩ := hasB_iff.1 hh
                obtain ⟨J, rfl⟩ : ∃ J : Nat, I = (J : Int) := ⟨I.toNat, by omega⟩
                obtain ⟨T, hT⟩ : ∃ T, D[J]? = some T := ⟨D[J]'(by omega), List.getElem?_eq_getElem _⟩
                obtain ⟨m, hm⟩ : ∃ m, T.length = m := ⟨_, rfl⟩
                have HLk : Hid (Calls Try.prog 11 #[nptr b, .int .i64 (J : Int)] wr fun e w' => ∃ a c, e = .returned (.tuple #[.int .i64 1, .int .i64 2, .slice a m c, .bool true]) ∧ OwnB w' wr.heap.size (.slice a m c) T ∧ GvS w w' b (.slice sa n sc) A D) := by
                  refine (olook HS.out.1.net (letT_at hT)).mono ?_
                  rintro e w' ⟨a, c, he, ho, hg, hb⟩
                  have he' : e = .returned (.tuple #[.int .i64 1, .int .i64 2, .slice a T.length c, .bool true]) := he
                  have ho' : OwnB w' wr.heap.size (.slice a T.length c) T := ho
                  rw [hm] at he' ho'
                  exact ⟨a, c, he', ho', HS.out.1.below hb⟩
                have HT2 : Hid (hasB D.length (J : Int) = true ∧ D[J]? = some T ∧ T.length = m) := ⟨hh, hT, hm⟩
                clear hh HS i0 i1 hT hm
                go_wp2_with (fail)
                refine HLk.out.mono ?_
                rintro e wq ⟨ba, bc, rfl, hob, hg⟩
                have hcell2 := HC.out wq hg.net.bel
                have HCp : Hid (Calls Try.prog 13 #[nptr b, .int .i64 (J : Int)] wq fun e w' => e = .returned (.bool true) ∧ OwnB w' wr.heap.size (.slice ba m bc) T ∧ OwnS w' w.heap.size (.slice sa n sc) A ∧ NetO w w.heap.size w' b 0 (letT (D ++ [T]))) := by
                  have hlt : D.length < 200 := by have := HP.out; omega
                  refine (ocopy hg.net (J : Int)).mono ?_
                  rintro e w' ⟨he, hgo⟩
                  rw [letT_len, HT2.out.1, decide_eq_true hlt] at he
                  rw [letT_len, HT2.out.1, if_pos rfl, copy_letT hlt HT2.out.2.1] at hgo
                  exact ⟨he, hob.kt hgo.2, hg.row.kt hgo.2, hgo.1⟩
                have HPm : Hid ((D ++ [T]).Perm (A ++ [T])) := hg.perm.append_right _
                clear HLk hg hcell hob
                go_wp2_with (fail)
                refine HCp.out.mono ?_
                rintro e wz ⟨rfl, hob, hrow, hnet⟩
                have hcv : (convert 32 9 (.slice ba m bc)).run Try.prog wz = .ok (.string ⟨T.toArray⟩) wz := by
                  have hl := HT2.out.2.2
                  have h1 : OwnB wz wr.heap.size (.slice ba T.length bc) T := by rw [hl]; exact hob
                  have := (own_brow h1).string
                  rwa [hl] at this
                have HAp : Hid (∀ ty, ∃ vo w2, (Builtin.append_ #[41, 41] ty #[.slice sa n sc, .slice (some ⟨wz.heap.size, 0, none⟩) 1 1]).run Try.prog (wz.alloc (.cells #[.string ⟨T.toArray⟩] 9)) = .ok vo w2 ∧ PushG w b (A ++ [T]) (D ++ [T]) vo w2) := fun ty => push_text T hrow hnet HPm.out (by have := HP.out; omega) ty
                clear hob hrow hnet HCp hcell2
                go_wp2_with (refine wpList_runs rfl (.tmp 89) (.tmp 92) rfl _ _ rfl rfl _ (HAp.out _) ?_)
                intro vo w5 hA
                have HS : Hid (GvS w w5 b vo (A ++ [T]) (D ++ [T]) ∧ (A ++ [T]).length = n + 1) := ⟨hA, by rw [List.length_append, HP.out.2.2.1]; rfl⟩
                clear hA HAp hcv
                go_wp2_with (fail)
                go_roundw
                case rel => exact ⟨j + 1, A ++ [T], D ++ [T], by first | rfl | go_num, by have := HP.out; omega, by have := HP.out; omega, HS.out.1, by have := HP.out; have := HS.out.2; omega⟩
                case measure => have := HP.out; simp [intOf]; omega
            · rw [decide_eq_false hlt]
              have HL : Hid (GvS w wr b _ A D ∧ A.length ≤ 80) := ⟨HS.out.1, by have := HS.out.2; omega⟩
              clear HS hlt hj hj40
              obtain ⟨A0, D0, HL0⟩ : ∃ A0 D0, Hid (GvS w wr b _ A0 D0 ∧ A0.length ≤ 80) := ⟨A, D, HL⟩
              clear HL
              obtain ⟨sa, sc, hv⟩ := HL0.out.1.row.slice
              obtain ⟨n, hn⟩ : ∃ n, A0.length = n := ⟨_, rfl⟩
              rw [hn] at hv
              subst hv
              have HA0 : Hid (A0.length = n ∧ n ≤ 80) := ⟨hn, by have := HL0.out.2; omega⟩
              clear hn
              go_wp2_with (fail)
              go_loopw [17] (fun vj wr => ∃ (j : Nat) (D : List (List UInt8)), vj = .int .i64 (j : Int) ∧ j ≤ 81 ∧ Hid (GvS w wr b (.slice sa n sc) A0 D)) (fun vj _ => 82 - (intOf vj).toNat)
              case atStart => exact ⟨0, D0, rfl, Nat.zero_le _, HL0.out.1⟩
              case round =>
                clear HL0
                obtain ⟨j, D, rfl, hj, HS⟩ := hrel
                have e2 : IntKind.i64.wrap ((j : Int) + 1) = (j : Int) + 1 := by rw [IntKind.wrap_i64]; omega
                have e3 : IntKind.i64.wrap ((j : Int) + 2) = (j : Int) + 2 := by rw [IntKind.wrap_i64]; omega
                go_upto_region 23 with fail
                go_cut [102] from 94 to 115 (fun vc wz => wz = wr ∧ vc = .bool (decide (j + 1 < len3 ∧ j < 80)))
                case first =>
                  by_cases h1 : j + 1 < len3
                  · by_cases h2 : j < 80
                    · have g1 : (j : Int) + 1 < (len3 : Int) := by omega
                      have g2 : (j : Int) < 80 := by omega
                      go_wp2_with (fail)
                      go_meet
                      case rel => exact ⟨rfl, by rw [decide_eq_true ⟨h1, h2⟩]⟩
                    · have g1 : (j : Int) + 1 < (len3 : Int) := by omega
                      have g2 : ¬ ((j : Int) < 80) := by omega
                      go_wp2_with (fail)
                      go_meet
                      case rel => exact ⟨rfl, by rw [decide_eq_false (fun h => h2 h.2)]⟩
                  · have g1 : ¬ ((j : Int) + 1 < (len3 : Int)) := by omega
                    go_wp2_with (fail)
                    go_meet
                    case rel => exact ⟨rfl, by rw [decide_eq_false (fun h => h1 h.1)]⟩
                case rest =>
                  obtain ⟨hw, rfl⟩ := hcut
                  replace hw := hw.symm
                  subst hw
                  by_cases hlt : j + 1 < len3 ∧ j < 80
                  · rw [decide_eq_true hlt]
                    obtain ⟨hl1, hl2⟩ := hlt
                    have bj : (j : Int) + 1 < (len3 : Int) := by omega
                    have bj1 : (j : Int) < (len3 : Int) := by omega
                    have b00 : (0 : Int) ≤ (j : Int) + 1 := by omega
                    have b01 : ((j : Int) + 1).toNat = j + 1 := by omega
                    have bj2 : (j : Int) < 80 := by omega
                    have ha : a3 = some ⟨b3, o3, none⟩ := HI3.out.1 (by omega)
                    obtain ⟨X, hX⟩ : ∃ X, num3 j = X := ⟨_, rfl⟩
                    obtain ⟨Y, hY⟩ : ∃ Y, num3 (j + 1) = Y := ⟨_, rfl⟩
                    have X1 : Hid (∀ u, Below wr.heap.size wr u → u.cell? ⟨b3, o3 + j, none⟩ = some (.int .i64 X)) := fun u hu => by rw [← hX]; exact HI3.out.2 j (by omega) u (HS.out.net.below hu).bel
                    have X2 : Hid (∀ u, Below wr.heap.size wr u → u.cell? ⟨b3, o3 + (j + 1), none⟩ = some (.int .i64 Y)) := fun u hu => by rw [← hY]; exact HI3.out.2 (j + 1) (by omega) u (HS.out.net.below hu).bel
                    have HMv : Hid (∀ u, Below wr.heap.size wr u → Calls Try.prog 14 #[nptr b, .int .i64 X, .int .i64 Y] u fun e w' => e = .returned (.bool (hasB (letT D).length X && hasB (letT D).length Y)) ∧ ∃ D', GvS w w' b (.slice sa n sc) A0 D') := fun u hu => by
                      have h1 := HS.out.below hu
                      refine (omove h1.net X Y).mono ?_
                      rintro e w' ⟨he, hg⟩
                      obtain ⟨D', h2, h3⟩ := move_letT D X Y
                      rw [h2] at hg
                      exact ⟨he, D', h1.go hg (h3.trans h1.perm)⟩
                    have HP : Hid (j + 1 < len3 ∧ j < 80) := ⟨hl1, hl2⟩
                    clear hX hY hl1 hl2 HS hj
                    subst ha
                    go_upto_region 25 with fail
                    refine regionC (fun (w' : World) => Below wr.heap.size wr w') 10 (by kernel_rfl) ?_
                    (try (change wpAnyC _ _ _ _ _ _ _ _ _ (World.drew _)))
                    refine nameW (fun W0 hW0 => ?_)
                    have hC : Hid (Below wr.heap.size wr W0) := by
                      show Below _ _ _; rw [hW0]; exact (Below.refl _ _).drew
                    clear hW0
                    refine takeC (i := 0) (v := ?_) rfl (by kernel_rfl) (by kernel_rfl) (by kernel_rfl) (by kernel_rfl) (by kernel_rfl) (fun _ _ _ h => h) hC.out (Or.inl ⟨by rfl, ?_⟩) ?_
                    rotate_left 1
                    · intro w' hw'
                      skip
                      go_simp
                      first | done | with_reducible rfl
                    (try simp only [Act.put])
                    (try simp only [List.setIfInBounds_toArray])
                    (try simp only [List.set_cons_succ])
                    (try simp only [List.set_cons_zero])
                    refine takeC (i := 1) (v := ?_) rfl (by kernel_rfl) (by kernel_rfl) (by kernel_rfl) (by kernel_rfl) (by kernel_rfl) (fun _ _ _ h => h) hC.out (Or.inl ⟨by rfl, ?_⟩) ?_
                    rotate_left 1
                    · intro w' hw'
                      skip
                      go_simp
                      first | done | with_reducible rfl
                    (try simp only [Act.put])
                    (try simp only [List.setIfInBounds_toArray])
                    (try simp only [List.set_cons_succ])
                    (try simp only [List.set_cons_zero])
                    refine takeC (i := 2) (v := ?_) rfl (by kernel_rfl) (by kernel_rfl) (by kernel_rfl) (by kernel_rfl) (by kernel_rfl) (fun _ _ _ h => h) hC.out (Or.inl ⟨by rfl, ?_⟩) ?_
                    rotate_left 1
                    · intro w' hw'
                      skip
                      go_simp
                      first | done | with_reducible rfl
                    (try simp only [Act.put])
                    (try simp only [List.setIfInBounds_toArray])
                    (try simp only [List.set_cons_succ])
                    (try simp only [List.set_cons_zero])
                    refine takeC (i := 3) (v := ?_) rfl (by kernel_rfl) (by kernel_rfl) (by kernel_rfl) (by kernel_rfl) (by kernel_rfl) (fun _ _ _ h => h) hC.out (Or.inl ⟨by rfl, ?_⟩) ?_
                    rotate_left 1
                    · intro w' hw'
                      skip
                      go_simp
                      first | done | with_reducible rfl
                    (try simp only [Act.put])
                    (try simp only [List.setIfInBounds_toArray])
                    (try simp only [List.set_cons_succ])
                    (try simp only [List.set_cons_zero])
                    refine takeC (i := 4) (v := ?_) rfl (by kernel_rfl) (by kernel_rfl) (by kernel_rfl) (by kernel_rfl) (by kernel_rfl) (fun _ _ _ h => h) hC.out (Or.inl ⟨by rfl, ?_⟩) ?_
                    rotate_left 1
                    · intro w' hw'
                      have z := X1.out w' hw'
                      go_simp
                      first | done | with_reducible rfl
                    (try simp only [Act.put])
                    (try simp only [List.setIfInBounds_toArray])
                    (try simp only [List.set_cons_succ])
                    (try simp only [List.set_cons_zero])
                    refine takeC (i := 5) (v := ?_) rfl (by kernel_rfl) (by kernel_rfl) (by kernel_rfl) (by kernel_rfl) (by kernel_rfl) (fun _ _ _ h => h) hC.out (Or.inl ⟨by rfl, ?_⟩) ?_
                    rotate_left 1
                    · intro w' hw'
                      skip
                      go_simp
                      first | done | with_reducible rfl
                    (try simp only [Act.put])
                    (try simp only [List.setIfInBounds_toArray])
                    (try simp only [List.set_cons_succ])
                    (try simp only [List.set_cons_zero])
                    refine takeC (i := 6) (v := ?_) rfl (by kernel_rfl) (by kernel_rfl) (by kernel_rfl) (by kernel_rfl) (by kernel_rfl) (fun _ _ _ h => h) hC.out (Or.inl ⟨by rfl, ?_⟩) ?_
                    rotate_left 1
                    · intro w' hw'
                      skip
                      go_simp
                      first | done | with_reducible rfl
                    (try simp only [Act.put])
                    (try simp only [List.setIfInBounds_toArray])
                    (try simp only [List.set_cons_succ])
                    (try simp only [List.set_cons_zero])
                    refine takeC (i := 7) (v := ?_) rfl (by kernel_rfl) (by kernel_rfl) (by kernel_rfl) (by kernel_rfl) (by kernel_rfl) (fun _ _ _ h => h) hC.out (Or.inl ⟨by rfl, ?_⟩) ?_
                    rotate_left 1
                    · intro w' hw'
                      skip
                      go_simp
                      first | done | with_reducible rfl
                    (try simp only [Act.put])
                    (try simp only [List.setIfInBounds_toArray])
                    (try simp only [List.set_cons_succ])
                    (try simp only [List.set_cons_zero])
                    refine takeC (i := 8) (v := ?_) rfl (by kernel_rfl) (by kernel_rfl) (by kernel_rfl) (by kernel_rfl) (by kernel_rfl) (fun _ _ _ h => h) hC.out (Or.inl ⟨by rfl, ?_⟩) ?_
                    rotate_left 1
                    · intro w' hw'
                      skip
                      go_simp
                      first | done | with_reducible rfl
                    (try simp only [Act.put])
                    (try simp only [List.setIfInBounds_toArray])
                    (try simp only [List.set_cons_succ])
                    (try simp only [List.set_cons_zero])
                    refine takeC (i := 9) (v := ?_) rfl (by kernel_rfl) (by kernel_rfl) (by kernel_rfl) (by kernel_rfl) (by kernel_rfl) (fun _ _ _ h => h) hC.out (Or.inl ⟨by rfl, ?_⟩) ?_
                    rotate_left 1
                    · intro w' hw'
                      have z := X2.out w' hw'
                      go_simp
                      first | done | with_reducible rfl
                    (try simp only [Act.put])
                    (try simp only [List.setIfInBounds_toArray])
                    (try simp only [List.set_cons_succ])
                    (try simp only [List.set_cons_zero])
                    refine readyC (rs := [10]) (by kernel_rfl) (by simp) ?_
                    refine ReadyC.cons rfl (fun K hK => ?_) ReadyC.nil
                    refine pstepV_call rfl 14 #[nptr b, .int .i64 X, .int .i64 Y] (by kernel_rfl) (HMv.out W0 hC.out) (fun e' w' h => ⟨_, h.1⟩) ?_
                    intro v1 W2 hq
                    obtain ⟨hv1, D', hg⟩ := hq
                    have HS2 : Hid (GvS w W2 b (.slice sa n sc) A0 D') := hg
                    refine hK _ _ (fun h => absurd rfl h) ?_
                    clear hK K hv1 hg HMv
                    (try simp only [Act.put])
                    (try simp only [List.setIfInBounds_toArray])
                    (try simp only [List.set_cons_succ])
                    (try simp only [List.set_cons_zero])
                    refine doneC (by kernel_rfl) ?_ _
                    go_wp2_with (fail)
                    go_roundw
                    case rel => exact ⟨j + 2, D', by first | rfl | go_num, by have := HP.out; omega, HS2⟩
                    case measure => have := HP.out; simp [intOf]; omega
                  · rw [decide_eq_false hlt]
                    have HL : Hid (GvS w wr b (.slice sa n sc) A0 D) := HS.out
                    clear HS hlt hj
                    have HLn : Hid (Calls Try.prog 10 #[nptr b] wr fun e w' => e = .returned (.int .i64 (n : Int)) ∧ w' = wr) := by
                      have := olen HL.out.net
                      rwa [letT_len, HL.out.len, HA0.out.1] at this
                    have qn : ((n : Int) != (n : Int)) = false := by simp
                    go_wp2_with (fail)
                    refine HLn.out.mono ?_
                    rintro e wq ⟨rfl, hw⟩
                    replace hw := hw.symm
                    subst hw
                    clear HLn
                    have H5 : Hid (GvS w wr b (.slice sa n sc) A0 D ∧ A0.length ≤ 80) := ⟨HL.out, by have := HA0.out; omega⟩
                    clear HL HA0
                    go_wp2_with (fail)
                    clear qn
                    go_loopw [9] (fun v9 wr => ∃ (A D : List (List UInt8)), Hid (GvS w wr b v9 A D ∧ A.length ≤ 80)) (fun v9 _ => lenV v9)
                    case atStart => exact ⟨A0, D, H5.out⟩
                    case round =>
                      clear H5
                      obtain ⟨A, D, HS⟩ := hrel
                      obtain ⟨sa, sc, hv⟩ := HS.out.1.row.slice
                      rcases Nat.eq_zero_or_pos A.length with h0 | h0
                      · rw [h0] at hv
                        subst hv
                        have HLn : Hid (Calls Try.prog 10 #[nptr b] wr fun e w' => e = .returned (.int .i64 0) ∧ w' = wr) := by
                          have := olen HS.out.1.net
                          rwa [letT_len, HS.out.1.len, h0] at this
                        have HB : Hid (Below w.heap.size w wr) := HS.out.1.net.bel
                        clear HS h0
                        go_wp2_with (fail)
                        refine HLn.out.mono ?_
                        rintro e wq ⟨rfl, hw⟩
                        replace hw := hw.symm
                        subst hw
                        clear HLn
                        go_wp2
                        go_ret
                        exact ⟨rfl, HB.out⟩
                      · obtain ⟨k, hk⟩ : ∃ k, A.length = k + 1 := ⟨A.length - 1, by omega⟩
                        rw [hk] at hv
                        subst hv
                        have hdl : D.length = k + 1 := by rw [HS.out.1.len, hk]
                        obtain ⟨T, hT⟩ : ∃ T, D[k]? = some T := ⟨D[k]'(by omega), List.getElem?_eq_getElem _⟩
                        obtain ⟨m, hm⟩ : ∃ m, T.length = m := ⟨_, rfl⟩
                        have HLn : Hid (Calls Try.prog 10 #[nptr b] wr fun e w' => e = .returned (.int .i64 ((k : Int) + 1)) ∧ w' = wr) := by
                          have := olen HS.out.1.net
                          rwa [letT_len, hdl, show ((k + 1 : Nat) : Int) = (k : Int) + 1 by omega] at this
                        have HTk : Hid (Calls Try.prog 15 #[nptr b, .int .i64 (k : Int)] wr fun e w' => ∃ a c, e = .returned (.tuple #[.int .i64 1, .int .i64 2, .slice a m c, .bool true]) ∧ OwnB w' 0 (.slice a m c) T ∧ OwnS w' w.heap.size (.slice sa (k + 1) sc) A ∧ NetO w w.heap.size w' b 0 (letT (D.eraseIdx k))) := by
                          refine (otake HS.out.1.net (letT_at hT) reach12).mono ?_
                          rintro e w' ⟨a, c, he, ho, hg⟩
                          have he' : e = .returned (.tuple #[.int .i64 1, .int .i64 2, .slice a T.length c, .bool true]) := he
                          have ho' : OwnB w' 0 (.slice a T.length c) T := ownB_low ho (Nat.zero_le _)
                          rw [hm] at he' ho'
                          rw [← letT_erase] at hg
                          exact ⟨a, c, he', ho', HS.out.1.row.kt hg.2, hg.1⟩
                        have HP : Hid (A.length = k + 1 ∧ k + 1 ≤ 80 ∧ T.length = m ∧ T ∈ A ∧ (T :: D.eraseIdx k).Perm A) := ⟨hk, by have := HS.out.2; omega, hm, HS.out.1.perm.mem_iff.1 (List.mem_of_getElem? hT), (erase_perm hT).trans HS.out.1.perm⟩
                        have bk : (k : Int) + 1 ≤ 80 := by have := HP.out.2.1; omega
                        have bk0 : 0 < (k : Int) + 1 := by omega
                        have e4 : IntKind.i64.wrap ((k : Int) + 1 - 1) = (k : Int) := by rw [IntKind.wrap_i64]; omega
                        clear h0 hk hdl hT hm HS
                        go_wp2_with (fail)
                        refine HLn.out.mono ?_
                        rintro e wq ⟨rfl, hw⟩
                        replace hw := hw.symm
                        subst hw
                        go_wp2_with (fail)
                        refine HLn.out.mono ?_
                        rintro e wq ⟨rfl, hw⟩
                        replace hw := hw.symm
                        subst hw
                        clear HLn
                        go_wp2_with (fail)
                        refine HTk.out.mono ?_
                        rintro e wq ⟨ba, bc, rfl, hob, hrow, hnet⟩
                        have HG : Hid (OwnB wq 0 (.slice ba m bc) T ∧ OwnS wq w.heap.size (.slice sa (k + 1) sc) A ∧ NetO w w.heap.size wq b 0 (letT (D.eraseIdx k))) := ⟨hob, hrow, hnet⟩
                        clear HTk hob hrow hnet
                        go_wp2_with (fail)
                        clear e4
                        go_loopw [22, 23] (fun v22 v23 wz => ∃ (q : Nat) (z : Int), v22 = .int .i64 z ∧ v23 = .int .i64 (q : Int) ∧ q ≤ k + 1 ∧ Hid ((z = -1 ∧ ∀ i, i < q → A[i]? ≠ some T) ∨ ∃ p : Nat, z = (p : Int) ∧ p < k + 1 ∧ A[p]? = some T) ∧ Hid (OwnB wz 0 (.slice ba m bc) T ∧ OwnS wz w.heap.size (.slice sa (k + 1) sc) A ∧ NetO w w.heap.size wz b 0 (letT (D.eraseIdx k)))) (fun _ v23 _ => k + 1 - (intOf v23).toNat)
                        case atStart => exact ⟨0, -1, rfl, rfl, Nat.zero_le _, Or.inl ⟨rfl, fun i hi => absurd hi (Nat.not_lt_zero _)⟩, HG.out⟩
                        case round =>
                          clear HG
                          obtain ⟨q, z, rfl, rfl, hq2, HZ, HG⟩ := hrel
                          by_cases hlt : q < k + 1
                          · have bq : (q : Int) < (k : Int) + 1 := by omega
                            obtain ⟨X, hX⟩ : ∃ X, A[q]? = some X := ⟨A[q]'(by have := HP.out.1; omega), List.getElem?_eq_getElem _⟩
                            obtain ⟨g9, hsa, hcx⟩ := HG.out.2.1.at hX
                            subst hsa
                            unfold cS at hcx
                            have hcv : ∀ u, (convert 32 9 (.slice ba m bc)).run Try.prog (wr.drewN u) = .ok (.string ⟨T.toArray⟩) (wr.drewN u) := fun u => by
                              have hl := HP.out.2.2.1
                              have h1 : OwnB wr 0 (.slice ba T.length bc) T := by rw [hl]; exact HG.out.1
                              have := ((own_brow h1).below (below_drewN (Below.refl _ _) u)).string
                              rwa [hl] at this
                            have cv0 : (convert 32 9 (.slice ba m bc)).run Try.prog wr = .ok (.string ⟨T.toArray⟩) wr := hcv 0
                            have cv1 : (convert 32 9 (.slice ba m bc)).run Try.prog wr.drew = .ok (.string ⟨T.toArray⟩) wr.drew := hcv 1
                            have e5 : IntKind.i64.wrap ((q : Int) + 1) = (q : Int) + 1 := by rw [IntKind.wrap_i64]; omega
                            have HG2 : Hid (OwnB wr.drew 0 (.slice ba m bc) T ∧ OwnS wr.drew w.heap.size (.slice (some ⟨g9, 0, none⟩) (k + 1) sc) A ∧ NetO w w.heap.size wr.drew b 0 (letT (D.eraseIdx k))) := ⟨ownB_keep HG.out.1 (fun _ _ => rfl), HG.out.2.1.below (Below.refl _ _).drew, HG.out.2.2.below (Below.refl _ _).drew⟩
                            have HX : Hid (A[q]? = some X ∧ q < k + 1) := ⟨hX, hlt⟩
                            clear hcv HG hX hlt
                            by_cases hE : X = T
                            · have e0 : (X == T) = true := by rw [hE]; simp
                              have HE : Hid (X = T) := hE
                              clear hE
                              go_upto_region 36 with fail
                              go_big_region
                              clear cv0 cv1 hcx
                              go_wp2_with (fail)
                              go_roundw
                              case rel => exact ⟨q + 1, (q : Int), rfl, by first | rfl | go_num, by have := HX.out.2; omega, Or.inr ⟨q, rfl, HX.out.2, by rw [← HE.out]; exact HX.out.1⟩, HG2.out⟩
                              case measure => have := HX.out.2; simp [intOf]; omega
                            · have e0 : (X == T) = false := by rw [beq_eq_false_iff_ne]; exact hE
                              have HE : Hid (X ≠ T) := hE
                              clear hE
                              go_upto_region 36 with fail
                              go_big_region
                              clear cv0 cv1 hcx
                              go_wp2_with (fail)
                              go_roundw
                              case rel =>
                                refine ⟨q + 1, z, rfl, by first | rfl | go_num, by have := HX.out.2; omega, ?_, HG2.out⟩
                                rcases HZ.out with ⟨h1, h2⟩ | h1
                                · refine Or.inl ⟨h1, fun i hi => ?_⟩
                                  by_cases hiq : i = q
                                  · subst hiq
                                    rw [HX.out.1]
                                    exact fun e => HE.out (Option.some.inj e)
                                  · exact h2 i (by omega)
                                · exact Or.inr h1
                              case measure => have := HX.out.2; simp [intOf]; omega
                          · have hp : ∃ p : Nat, z = (p : Int) ∧ p < k + 1 ∧ A[p]? = some T := by
                              rcases HZ.out with ⟨_, h2⟩ | h1
                              · obtain ⟨i, hi⟩ := List.getElem?_of_mem HP.out.2.2.2.1
                                have := (List.getElem?_eq_some_iff.1 hi).1
                                exact absurd hi (h2 i (by have := HP.out.1; omega))
                              · exact h1
                            obtain ⟨p, rfl, hpk, hpA⟩ := hp
                            have bq : ¬ ((q : Int) < (k : Int) + 1) := by omega
                            have bp : (p : Int) ≤ (k : Int) := by omega
                            have bp0 : ¬ ((p : Int) < 0) := by omega
                            have ej : IntKind.i64.wrap ((p : Int) + 1) = (p : Int) + 1 := by rw [IntKind.wrap_i64]; omega
                            obtain ⟨g9, hsa⟩ : ∃ g9, sa = some ⟨g9, 0, none⟩ := by
                              rcases HG.out.2.1.rd.2 with ⟨_, h0, _⟩ | h
                              · omega
                              · exact h
                            subst hsa
                            have HR : Hid (RdS wr (some ⟨g9, 0, none⟩) (k + 1) sc A) := HG.out.2.1.rd.1
                            have HG1 : Hid (NetO w w.heap.size wr b 0 (letT (D.eraseIdx k))) := HG.out.2.2
                            have HIK : Hid (p < k + 1 ∧ A.length = k + 1 ∧ k + 1 ≤ 80) := ⟨hpk, HP.out.1, HP.out.2.1⟩
                            have HPm : Hid ((D.eraseIdx k).Perm (A.eraseIdx p)) := (List.perm_cons T).1 (HP.out.2.2.2.2.trans (erase_perm hpA).symm)
                            have z1 : ∀ u, (Instr.slice 41 (.slice (some ⟨g9, 0, none⟩) (k + 1) sc) none (some (.int .i64 (p : Int))) none).run Try.prog u = .ok (.slice (some ⟨g9, 0, none⟩) p sc) u := fun u => toS _ (k + 1) sc p (by omega) HR.out.2.1 u
                            have z2 : ∀ u, (Instr.slice 41 (.slice (some ⟨g9, 0, none⟩) (k + 1) sc) (some (.int .i64 ((p : Int) + 1))) none none).run Try.prog u = .ok (.slice (cutS (some ⟨g9, 0, none⟩) sc (p + 1)) (k - p) (sc - (p + 1))) u := fun u => by
                              have := fromS (some ⟨g9, 0, none⟩) (k + 1) sc (p + 1) (by omega) HR.out.2.1 u
                              rwa [show ((p + 1 : Nat) : Int) = (p : Int) + 1 by omega, show k + 1 - (p + 1) = k - p by omega] at this
                            clear HG HZ hpk hpA hlt hq2
                            go_upto_region 40 with fail
                            refine regionC (fun (w' : World) => Below wr.heap.size wr w') 10 (by kernel_rfl) ?_
                            (try (change wpAnyC _ _ _ _ _ _ _ _ _ (World.drew _)))
                            refine nameW (fun W0 hW0 => ?_)
                            have hC : Hid (Below wr.heap.size wr W0) := by
                              show Below _ _ _; rw [hW0]; exact (Below.refl _ _).drew
                            clear hW0
                            refine takeC (i := 1) (v := ?_) rfl (by kernel_rfl) (by kernel_rfl) (by kernel_rfl) (by kernel_rfl) (by kernel_rfl) (fun _ _ _ h => h) hC.out (Or.inl ⟨by rfl, ?_⟩) ?_
                            rotate_left 1
                            · intro w' hw'
                              skip
                              go_simp
                              first | done | with_reducible rfl | exact z1 _ | exact z2 _
                            (try simp only [Act.put])
                            (try simp only [List.setIfInBounds_toArray])
                            (try simp only [List.set_cons_succ])
                            (try simp only [List.set_cons_zero])
                            refine takeC (i := 2) (v := ?_) rfl (by kernel_rfl) (by kernel_rfl) (by kernel_rfl) (by kernel_rfl) (by kernel_rfl) (fun _ _ _ h => h) hC.out (Or.inl ⟨by rfl, ?_⟩) ?_
                            rotate_left 1
                            · intro w' hw'
                              skip
                              go_simp
                              first | done | with_reducible rfl | exact z1 _ | exact z2 _
                            (try simp only [Act.put])
                            (try simp only [List.setIfInBounds_toArray])
                            (try simp only [List.set_cons_succ])
                            (try simp only [List.set_cons_zero])
                            refine takeC (i := 3) (v := ?_) rfl (by kernel_rfl) (by kernel_rfl) (by kernel_rfl) (by kernel_rfl) (by kernel_rfl) (fun _ _ _ h => h) hC.out (Or.inl ⟨by rfl, ?_⟩) ?_
                            rotate_left 1
                            · intro w' hw'
                              skip
                              go_simp
                              first | done | with_reducible rfl | exact z1 _ | exact z2 _
                            (try simp only [Act.put])
                            (try simp only [List.setIfInBounds_toArray])
                            (try simp only [List.set_cons_succ])
                            (try simp only [List.set_cons_zero])
                            refine takeC (i := 5) (v := ?_) rfl (by kernel_rfl) (by kernel_rfl) (by kernel_rfl) (by kernel_rfl) (by kernel_rfl) (fun _ _ _ h => h) hC.out (Or.inl ⟨by rfl, ?_⟩) ?_
                            rotate_left 1
                            · intro w' hw'
                              skip
                              go_simp
                              first | done | with_reducible rfl | exact z1 _ | exact z2 _
                            (try simp only [Act.put])
                            (try simp only [List.setIfInBounds_toArray])
                            (try simp only [List.set_cons_succ])
                            (try simp only [List.set_cons_zero])
                            refine takeC (i := 6) (v := ?_) rfl (by kernel_rfl) (by kernel_rfl) (by kernel_rfl) (by kernel_rfl) (by kernel_rfl) (fun _ _ _ h => h) hC.out (Or.inl ⟨by rfl, ?_⟩) ?_
                            rotate_left 1
                            · intro w' hw'
                              skip
                              go_simp
                              first | done | with_reducible rfl | exact z1 _ | exact z2 _
                            (try simp only [Act.put])
                            (try simp only [List.setIfInBounds_toArray])
                            (try simp only [List.set_cons_succ])
                            (try simp only [List.set_cons_zero])
                            refine takeC (i := 7) (v := ?_) rfl (by kernel_rfl) (by kernel_rfl) (by kernel_rfl) (by kernel_rfl) (by kernel_rfl) (fun _ _ _ h => h) hC.out (Or.inl ⟨by rfl, ?_⟩) ?_
                            rotate_left 1
                            · intro w' hw'
                              skip
                              go_simp
                              first | done | with_reducible rfl | exact z1 _ | exact z2 _
                            (try simp only [Act.put])
                            (try simp only [List.setIfInBounds_toArray])
                            (try simp only [List.set_cons_succ])
                            (try simp only [List.set_cons_zero])
                            refine takeC (i := 8) (v := ?_) rfl (by kernel_rfl) (by kernel_rfl) (by kernel_rfl) (by kernel_rfl) (by kernel_rfl) (fun _ _ _ h => h) hC.out (Or.inl ⟨by rfl, ?_⟩) ?_
                            rotate_left 1
                            · intro w' hw'
                              skip
                              go_simp
                              first | done | with_reducible rfl | exact z1 _ | exact z2 _
                            (try simp only [Act.put])
                            (try simp only [List.setIfInBounds_toArray])
                            (try simp only [List.set_cons_succ])
                            (try simp only [List.set_cons_zero])
                            refine readyC (rs := [0]) (by kernel_rfl) (by simp) ?_
                            refine ReadyC.cons rfl (fun K hK => ?_) ReadyC.nil
                            have hC1 : Below wr.heap.size wr (W0.alloc (.cells #[] 9)) := hC.out.alloc hC.out.size _
                            have HO1 : Hid (OwnS (W0.alloc (.cells #[] 9)) wr.heap.size (.slice (some ⟨W0.heap.size, 0, none⟩) 0 0) []) := madeS W0 _ hC.out.size
                            go_simp
                            refine hK _ _ (fun _ => hC1) ?_
                            clear hK K
                            (try simp only [Act.put])
                            (try simp only [List.setIfInBounds_toArray])
                            (try simp only [List.set_cons_succ])
                            (try simp only [List.set_cons_zero])
                            obtain ⟨W1, hW1⟩ : ∃ W1, W1 = (W0.alloc (.cells #[] 9)) := ⟨_, rfl⟩
                            rw [← hW1] at hC1 HO1 ⊢
                            replace hC : Hid (Below wr.heap.size wr W1) := hC1
                            have HA1 : Hid (∀ ty, ∃ vo w2, (Builtin.append_ #[41, 41] ty #[.slice (some ⟨W0.heap.size, 0, none⟩) 0 0, .slice (some ⟨g9, 0, none⟩) p sc]).run Try.prog W1 = .ok vo w2 ∧ AppS W1 wr.heap.size (.slice (some ⟨W0.heap.size, 0, none⟩) 0 0) ([] ++ A.take p) vo w2) := fun ty => appS HO1.out ((HR.out.below hC1).take p (by have := HIK.out; omega)) (by have := HIK.out; simp; omega) hC1.size ty
                            clear hC1 hW1
                            refine readyC (rs := [4]) (by kernel_rfl) (by simp) ?_
                            refine ReadyC.cons rfl (fun K hK => ?_) ReadyC.nil
                            refine stepC_runs rfl (.tmp 160) (.tmp 163) rfl _ _ rfl rfl _ (HA1.out _) ?_
                            intro vo1 W2 hA
                            have hC2 : Below wr.heap.size wr W2 := hC.out.trans hA.2.1
                            have HO2 : Hid (OwnS W2 wr.heap.size vo1 ([] ++ A.take p)) := hA.1
                            refine hK _ _ (fun _ => hC2) ?_
                            replace hC : Hid (Below wr.heap.size wr W2) := hC2
                            have HA2 : Hid (∀ ty, ∃ vo w2, (Builtin.append_ #[41, 41] ty #[vo1, .slice (cutS (some ⟨g9, 0, none⟩) sc (p + 1)) (k - p) (sc - (p + 1))]).run Try.prog W2 = .ok vo w2 ∧ AppS W2 wr.heap.size vo1 (([] ++ A.take p) ++ A.drop (p + 1)) vo w2) := fun ty => by
                              have hd := (HR.out.below hC2).drop (p + 1) (by have := HIK.out; omega)
                              rw [show k + 1 - (p + 1) = k - p by omega] at hd
                              exact appS HO2.out hd (by have := HIK.out; simp; omega) hC2.size ty
                            clear hA hC2 hK K HA1 HO1
                            (try simp only [Act.put])
                            (try simp only [List.setIfInBounds_toArray])
                            (try simp only [List.set_cons_succ])
                            (try simp only [List.set_cons_zero])
                            refine readyC (rs := [9]) (by kernel_rfl) (by simp) ?_
                            refine ReadyC.cons rfl (fun K hK => ?_) ReadyC.nil
                            refine stepC_runs rfl (.tmp 164) (.tmp 168) rfl _ _ rfl rfl _ (HA2.out _) ?_
                            intro vo2 W3 hA
                            have hC3 : Below wr.heap.size wr W3 := hC.out.trans hA.2.1
                            obtain ⟨ra, rc, hv⟩ := hA.1.slice
                            have hlen : (([] ++ A.take p) ++ A.drop (p + 1)).length = k := by have := HIK.out; simp; omega
                            rw [hlen] at hv
                            subst hv
                            have HF : Hid (GvS w W3 b (.slice ra k rc) (A.eraseIdx p) (D.eraseIdx k) ∧ (A.eraseIdx p).length ≤ 80) := by
                              have h1 := hA.1
                              rw [List.nil_append, ← List.eraseIdx_eq_take_drop_succ] at h1 hlen
                              exact ⟨⟨h1.low HG1.out.sz, HG1.out.below hC3, HPm.out⟩, by have := HIK.out; omega⟩
                            refine hK _ _ (fun _ => hC3) ?_
                            replace hC : Hid (Below wr.heap.size wr W3) := hC3
                            clear hA hC3 hK K HA2 HO2 hlen
                            (try simp only [Act.put])
                            (try simp only [List.setIfInBounds_toArray])
                            (try simp only [List.set_cons_succ])
                            (try simp only [List.set_cons_zero])
                            refine readyC (rs := [10]) (by kernel_rfl) (by simp) ?_
                            refine ReadyC.cons rfl (fun K hK => ?_) ReadyC.nil
                            go_simp
                            refine hK _ _ (fun _ => hC.out) ?_
                            clear hK K
                            (try simp only [Act.put])
                            (try simp only [List.setIfInBounds_toArray])
                            (try simp only [List.set_cons_succ])
                            (try simp only [List.set_cons_zero])
                            refine doneC (by kernel_rfl) ?_ _
                            go_wp2_with (fail)
                            go_roundw
                            case rel => exact ⟨A.eraseIdx p, D.eraseIdx k, HF⟩
                            case measure => simp [lenV]
end Go.Proofs.Ytblohegdlcpipaa
