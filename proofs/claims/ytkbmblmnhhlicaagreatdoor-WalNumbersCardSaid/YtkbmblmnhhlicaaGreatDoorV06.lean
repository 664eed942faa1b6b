/- Several texts in one. -/
import Derived.Test.YtkbmblmnhhlicaaGreatDoorVLoad
import Derived.Test.YtkbmblmnhhlicaaGreatDoorVNums
import Derived.Test.YtkbmblmnhhlicaaGreatDoorV19
set_option linter.unusedVariables false
/- open, walked. -/
namespace Go.Proofs.YtkbmblmnhhlicaaGreatDoor
open Go.RowKit

theorem DidW.from {w0 w w2 w' : World} {b m p : Nat} {S T S2 T2 : Nat → Prop} {d' : Dk} {L : List Sg} (hs : StW w S T w2 S2 T2) (h : DidW w0 w2 b m S2 p T2 d' L w') : DidW w0 w b m S p T d' L w' := by
  obtain ⟨S', T', vs', q', h1, h2, h3⟩ := h
  exact ⟨S', T', vs', q', h1, h2, hs.trans h3⟩
theorem ownI_shape {w : World} {B : Nat} {v : Value} {pl : List Nat} (h : OwnI w B v pl) : ∃ a c, v = .slice a pl.length c := by
  rcases h.2 with ⟨rfl, h0⟩ | ⟨g, cap, cur, rfl, _⟩
  · exact ⟨none, 0, by rw [h0]⟩
  · exact ⟨_, _, rfl⟩
/-- Behind the segments' reading. -/
def openF (d : Dk) (t : Bool) (L : List Sg) : Nat × Dk × List Sg :=
  if t = true then
    (if (cutP d (nameL (lastS L).num) ((lastS L).size : Int)).1 ≠ 0 then ((cutP d (nameL (lastS L).num) ((lastS L).size : Int)).1, (cutP d (nameL (lastS L).num) ((lastS L).size : Int)).2, L)
    else ((syncP (cutP d (nameL (lastS L).num) ((lastS L).size : Int)).2 (nameL (lastS L).num)).1, (syncP (cutP d (nameL (lastS L).num) ((lastS L).size : Int)).2 (nameL (lastS L).num)).2, L))
  else ((syncP d (nameL (lastS L).num)).1, (syncP d (nameL (lastS L).num)).2, L)
theorem openP_eq (d : Dk) : openP d = if numsOf d = [] then ((appendP d (nameL 1) []).1, (appendP d (nameL 1) []).2, [⟨1, [0]⟩]) else if (loadP d (numsOf d) false []).1 ≠ 0 then ((loadP d (numsOf d) false []).1, d, (loadP d (numsOf d) false []).2.2) else openF d (loadP d (numsOf d) false []).2.1 (loadP d (numsOf d) false []).2.2 := rfl
theorem nums_up (d : Dk) : segNums (upNames d) = numsOf d := by
  unfold upNames numsOf
  split <;> rfl
theorem segNums_pos {l : List Nm} {n : Nat} (h : n ∈ segNums l) : 0 < n ∧ n < 1000000 := by
  unfold segNums at h
  obtain ⟨h1, h2⟩ := List.mem_filter.1 h
  obtain ⟨x, _, rfl⟩ := List.mem_map.1 h1
  exact ⟨by simpa using h2, segNum_lt x⟩

theorem readP_last : ∀ (f i a : Nat) (s : List UInt8), (a :: readP f i a s).getLastD 0 ≤ a + s.length
  | 0, i, a, s => by simp [readP]
  | f + 1, i, a, s => by
    rw [readP]
    split
    · simp
    · have h1 := readP_last f (i + 1) (a + standL i s) (s.drop (standL i s))
      have h2 := standL_le i s
      rw [List.length_drop] at h1
      rw [List.getLastD_cons] at h1 ⊢
      rw [List.getLastD_cons]
      omega
theorem readSg_size (i : Nat) (s : List UInt8) : (readSg i s).size ≤ s.length := by
  have := readP_last (s.length + 1) i 0 s
  unfold Sg.size readSg
  simp only
  omega
/-- A log under way, and a row of numbers beside it. -/
def OpS (w0 w : World) (b m p : Nat) (S T : Nat → Prop) (d : Dk) (L : List Sg) (g n c : Nat) (ns : List Nat) (wr : World) : Prop :=
  ∃ S1 T1 vs1 q1, Wl w0 wr b m S1 d p T1 vs1 q1 ∧ q1.map (·.1) = L ∧ StW w S T wr S1 T1 ∧ ¬ S1 g ∧ ¬ T1 g ∧ OwnI wr 0 (.slice (some ⟨g, 0, none⟩) n c) ns
theorem OpS.below {w0 w wr w' : World} {b m p : Nat} {S T : Nat → Prop} {d : Dk} {L : List Sg} {g n c : Nat} {ns : List Nat} (h : OpS w0 w b m p S T d L g n c ns wr) (hb : Below wr.heap.size wr w') : OpS w0 w b m p S T d L g n c ns w' := by
  obtain ⟨S1, T1, vs1, q1, h1, h2, h3, h4, h5, h6⟩ := h
  exact ⟨S1, T1, vs1, q1, h1.same hb, h2, h3.trans (StW.same S1 T1 hb), h4, h5, ownI_below h6 hb⟩

set_option maxHeartbeats 8000000 in
set_option maxRecDepth 40000 in
/-- Behind the loop. -/
theorem OpS.did {w0 w wr : World} {b m p : Nat} {S T : Nat → Prop} {d : Dk} {L : List Sg} {g n c : Nat} {ns : List Nat} (h : OpS w0 w b m p S T d L g n c ns wr) : DidW w0 w b m S p T d L wr := by
  obtain ⟨S1, T1, vs1, q1, h1, h2, h3, h4, h5, h6⟩ := h
  exact ⟨S1, T1, vs1, q1, h1, h2, h3⟩

set_option maxHeartbeats 8000000 in
set_option maxRecDepth 40000 in
theorem open_any {w0 w : World} {b m : Nat} {S : Nat → Prop} {d : Dk} {p : Nat} {T : Nat → Prop} {vs : Value} (h : Wl w0 w b m S d p T vs []) (hnm : ∀ x ∈ d.files, x.1.length ≤ 140737488355328) (hu : usedL d.files ≤ 1099511627776) (hf : d.files.length + 1 ≤ 1048576) :
    Calls Tryz.prog 63 #[dptr p] w fun e w' => e = .returned (.int .i64 ((openP d).1 : Int)) ∧ DidW w0 w b m S p T (openP d).2.1 (openP d).2.2 w' := by
  obtain ⟨E, hE⟩ : ∃ E, openP d = E := ⟨_, rfl⟩
  rw [hE]
  rw [openP_eq] at hE
  have hFi : Calls Tryz.prog 57 #[dptr b] w fun e w' => ∃ v, e = .returned v ∧ OwnS w' w.heap.size v (upNames d) ∧ Below w.heap.size w w' := by
    obtain ⟨sl, hd⟩ := h.lv.dk
    exact files_any hd
  have HW : Hid (Wl w0 w b m S d p T vs []) := h
  have HU : Hid (usedL d.files ≤ 1099511627776 ∧ d.files.length + 1 ≤ 1048576) := ⟨hu, hf⟩
  have HNm : Hid (∀ x ∈ upNames d, x.length ≤ 140737488355328) := by
    intro x hx
    unfold upNames at hx
    split at hx
    · obtain ⟨y, hy, rfl⟩ := List.mem_map.1 hx
      exact hnm y hy
    · cases hx
  have HNl : Hid ((upNames d).length ≤ 1048576) := by
    show _ ≤ _
    unfold upNames
    split
    · rw [List.length_map]; omega
    · exact Nat.zero_le _
  have HE : Hid ((if numsOf d = [] then ((appendP d (nameL 1) []).1, (appendP d (nameL 1) []).2, [⟨1, [0]⟩]) else if (loadP d (numsOf d) false []).1 ≠ 0 then ((loadP d (numsOf d) false []).1, d, (loadP d (numsOf d) false []).2.2) else openF d (loadP d (numsOf d) false []).2.1 (loadP d (numsOf d) false []).2.2) = E) := hE
  have c0 : w.cell? ⟨p, 0, none⟩ = some (dptr b) := cell_blk h.lg.blk rfl
  clear h hnm hu hf hE
  go_enter Tryz.func63, Tryz.ntmps63
  go_wp2_with (fail)
  refine hFi.mono ?_
  rintro e w1 ⟨v1, rfl, ho1, hb1⟩
  have HB1 : Hid (Below w.heap.size w w1) := hb1
  have hSn := segnums_any ho1 HNm.out HNl.out
  rw [nums_up] at hSn
  clear hFi ho1 hb1 c0
  go_wp2_with (fail)
  refine hSn.mono ?_
  rintro e w2 ⟨v2, rfl, ho2, hb2⟩
  obtain ⟨na, nc, hv2⟩ := ownI_shape ho2
  subst hv2
  have HB2 : Hid (Below w.heap.size w w2) := HB1.out.trans (hb2.mono HB1.out.size)
  have HO2 : Hid (OwnI w2 w.heap.size (.slice na (numsOf d).length nc) (numsOf d)) := ownI_mono ho2 HB1.out.size
  have HP : Hid (∀ n ∈ numsOf d, 0 < n ∧ n < 1000000) := fun n hn => segNums_pos (by rw [nums_up]; exact hn)
  have HLn : Hid ((numsOf d).length ≤ 1048576) := by
    show _ ≤ _
    rw [← nums_up]
    exact Nat.le_trans (segNums_len _) HNl.out
  clear hSn ho2 hb2
  by_cases hnil : numsOf d = []
  · have HE2 := HE.out
    rw [if_pos hnil] at HE2
    have HE3 : Hid (((appendP d (nameL 1) []).1, (appendP d (nameL 1) []).2, [⟨1, [0]⟩]) = E) := HE2
    have hBg : Calls Tryz.prog 75 #[dptr p, .int .i64 1] w2 fun e w' => e = .returned (.int .i64 ((appendP d (nameL 1) []).1 : Int)) ∧ DidW w0 w2 b m S p T (appendP d (nameL 1) []).2 [⟨1, [0]⟩] w' := begin_any (HW.out.same HB2.out) 1 (by omega) HU.out.1 HU.out.2
    rw [hnil]
    obtain ⟨A, hA⟩ : ∃ A, appendP d (nameL 1) [] = A := ⟨_, rfl⟩
    rw [hA] at hBg HE3
    clear HE2 HE HO2 HP HLn hnil hA
    go_wp2_with (fail)
    refine hBg.mono ?_
    rintro e w3 ⟨rfl, hd3⟩
    have HD : Hid (DidW w0 w2 b m S p T A.2 [⟨1, [0]⟩] w3) := hd3
    clear hBg hd3
    go_wp2_with (fail)
    go_ret
    exact ⟨by rw [← HE3.out]; rfl, by rw [← HE3.out]; exact HD.out.from (StW.same S T HB2.out)⟩
  · have HE2 := HE.out
    rw [if_neg hnil] at HE2
    obtain ⟨ns, hns⟩ : ∃ ns, numsOf d = ns := ⟨_, rfl⟩
    rw [hns] at HE2 HO2 HP HLn hnil
    rw [hns]
    obtain ⟨R, hR⟩ : ∃ R, loadP d ns false [] = R := ⟨_, rfl⟩
    rw [hR] at HE2
    have HE3 : Hid ((if R.1 ≠ 0 then (R.1, d, R.2.2) else openF d R.2.1 R.2.2) = E) := HE2
    obtain ⟨g, c, hna, hnc, hgl, hgw, _⟩ := ownI_form HO2.out hnil
    have ena : na = some ⟨g, 0, none⟩ := congrArg (fun v => match v with | Value.slice a _ _ => a | _ => none) hna
    have enc : nc = c := congrArg (fun v => match v with | Value.slice _ _ c => c | _ => 0) hna
    subst ena enc
    obtain ⟨n, hn⟩ : ∃ n, ns.length = n := ⟨_, rfl⟩
    rw [hn] at HO2 HLn
    rw [hn]
    have hpos : 0 < n := by rw [← hn]; exact List.length_pos_iff.2 hnil
    have q0 : ((n : Int) == 0) = false := by simp; omega
    have bn : (n : Int) ≤ 1048576 := by have := HLn.out; omega
    have HNN : Hid (ns.length = n ∧ n ≤ 1048576 ∧ 0 < n) := ⟨hn, HLn.out, hpos⟩
    have H0 : Hid (OpS w0 w b m p S T d [] g n nc ns w2) := ⟨S, T, vs, [], HW.out.same HB2.out, rfl, StW.same S T HB2.out, fun e => by
      obtain ⟨sl, hd⟩ := HW.out.lv.dk
      have := hd.lt _ e; omega, fun e => by have := HW.out.lg.lt _ e; omega, ownI_mono HO2.out (Nat.zero_le _)⟩
    have HR0 : Hid (loadP d ns false [] = R) := hR
    have HUd : Hid (usedL d.files ≤ 1099511627776) := HU.out.1
    clear HE2 HE HO2 HLn hnil hR hna hnc hgl hgw hn hpos HW HNm HNl HB1 HB2 HU
    clear hns
    go_wp2_with (fail)
    go_loopw [4, 23] (fun t i wr => ∃ (k : Nat) (tb : Bool) (L : List Sg), t = .bool tb ∧ i = .int .i64 k ∧ k ≤ n ∧ Hid (OpS w0 w b m p S T d L g n nc ns wr) ∧ Hid (loadP d (ns.drop k) tb L = R) ∧ Hid (L.length = k) ∧ Hid (∀ s ∈ L, s.size ≤ 1099511627776)) (fun _ i _ => n - (intOf i).toNat)
    case atStart => exact ⟨0, false, [], rfl, rfl, by omega, H0, HR0, rfl, fun s hs => by cases hs⟩
    case round =>
      obtain ⟨k, tb, L, rfl, rfl, hk, HO, HR, HL, HSz0⟩ := hrel
      clear H0 HR0
      by_cases hlt : k < n
      · have hget : ns[k]? = some (ns[k]'(by have := HNN.out; omega)) := List.getElem?_eq_getElem _
        obtain ⟨N, hN⟩ : ∃ N, ns[k]'(by have := HNN.out; omega) = N := ⟨_, rfl⟩
        rw [hN] at hget
        have hNp := HP.out N (by rw [← hN]; exact List.getElem_mem _)
        have hcell : wr.cell? ⟨g, k, none⟩ = some (.int .i64 (N : Int)) := by
          obtain ⟨S1, T1, vs1, q1, h1, h2, h3, h4, h5, h6⟩ := HO.out
          have := ownI_cell h6 k (by have := HNN.out; omega)
          rwa [List.getD_eq_getElem?_getD, hget] at this
        have hdr : ns.drop k = N :: ns.drop (k + 1) := by rw [List.drop_eq_getElem_cons (by have := HNN.out; omega), hN]
        have HR2 := HR.out
        rw [hdr, loadP] at HR2
        have HN : Hid (0 < N ∧ N < 1000000) := hNp
        have b1 : (k : Int) < (n : Int) := by omega
        have bk : (k : Int) ≤ 1048576 := by omega
        clear hget hN hNp hdr HR
        cases tb with
        | true =>
          rw [if_pos (by simp)] at HR2
          have HR3 : Hid ((16, true, L) = R) := HR2
          clear HR2
          go_wp2_with (fail)
          go_ret
          have hE := HE3.out
          rw [← HR3.out, if_pos (by simp)] at hE
          exact ⟨by rw [← hE]; rfl, by rw [← hE]; exact HO.out.did⟩
        | false =>
          by_cases hk0 : k = 0
          · have hL0 : L = [] := List.eq_nil_of_length_eq_zero (by rw [HL.out]; exact hk0)
            rw [if_neg (by rw [hL0]; simp)] at HR2
            have q1 : ¬ (0 : Int) < (k : Int) := by omega
            clear hk0 hL0
            obtain ⟨W, hW⟩ : ∃ W, W = wr := ⟨_, rfl⟩
            subst hW
            obtain ⟨LL, hLL⟩ : ∃ LL, LL = (L : List Sg) := ⟨_, rfl⟩
            rw [← hLL] at HR2 HO HL HSz0
            clear hLL
            obtain ⟨S1, T1, vs1, q1, h1, h2, h3, h4, h5, h6⟩ := HO.out
            have hql : q1.length + 1 ≤ 1048576 := by
              have h7 := HL.out
              have h8 := HNN.out
              rw [← h2, List.length_map] at h7
              omega
            have hbU : (theF d (nameL N)).bs.length ≤ 1099511627776 := by
              obtain ⟨sl, hd⟩ := h1.lv.dk
              exact Nat.le_trans (theF_len hd.ok _) HUd.out
            have hLd := load_any h1 N (by have := HN.out; omega) HUd.out hql
            rw [h2] at hLd
            obtain ⟨Z, hZ⟩ : ∃ Z, load1 d LL N = Z := ⟨_, rfl⟩
            rw [hZ] at hLd
            have HRZ : Hid ((Z.2.1 ≠ 0 → (Z.2.1, false, Z.2.2) = R) ∧ (Z.2.1 = 0 → ∃ sg, Z.2.2 = LL ++ [sg] ∧ sg.size ≤ 1099511627776 ∧ loadP d (ns.drop (k + 1)) (decide (sg.size < Z.1)) Z.2.2 = R)) := by
              unfold load1 at hZ
              rw [← hZ]
              by_cases hf : findV d (nameL N) ≠ 0
              · rw [if_pos hf] at HR2 ⊢
                exact ⟨fun _ => HR2, fun e => absurd e hf⟩
              · rw [if_neg hf] at HR2 ⊢
                by_cases hb : 1000000 < (readSg N (theF d (nameL N)).bs).next
                · rw [if_pos hb] at HR2 ⊢
                  exact ⟨fun _ => HR2, fun e => by cases e⟩
                · rw [if_neg hb] at HR2 ⊢
                  exact ⟨fun e => absurd rfl e, fun _ => ⟨_, rfl, Nat.le_trans (readSg_size _ _) hbU, HR2⟩⟩
            have HOx : Hid (Wl w0 W b m S1 d p T1 vs1 q1 ∧ StW w S T W S1 T1 ∧ ¬ S1 g ∧ ¬ T1 g ∧ OwnI W 0 (.slice (some ⟨g, 0, none⟩) n nc) ns) := ⟨h1, h3, h4, h5, h6⟩
            have HLk : Hid (LL.length = k) := HL.out
            clear HO HL HR2 hql hZ hbU h1 h2 h3 h4 h5 h6
            go_wp2_with (fail)
            refine hLd.mono ?_
            (try clear hcell)
            rintro e w5 ⟨rfl, hd5⟩
            have HO5 : Hid (OpS w0 w b m p S T d Z.2.2 g n nc ns w5) := by
              obtain ⟨S', T', vs', q', a1, a2, a3⟩ := hd5
              obtain ⟨h1, h3, h4, h5, h6⟩ := HOx.out
              have hgw := (h6.lt g rfl).2
              exact ⟨S', T', vs', q', a1, a2, h3.trans a3, fun e => (a3.2 g (.inl e)).elim (fun e => e.elim h4 h5) (fun e => by omega), fun e => (a3.2 g (.inr e)).elim (fun e => e.elim h4 h5) (fun e => by omega), ownI_keep h6 (fun k hk => by
                obtain rfl : g = k := Option.some.inj hk
                exact a3.1.block g hgw (fun e => e.elim h4 h5))⟩
            clear hLd hd5
            obtain ⟨z1, z2, z3⟩ := Z
            simp only at HRZ HO5 ⊢
            by_cases hz : z2 = 0
            · subst hz
              obtain ⟨sg, hsg, hsz, hR3⟩ := HRZ.out.2 rfl
              have HSs : Hid (∀ s ∈ z3, s.size ≤ 1099511627776) := fun s hs => by
                rw [hsg] at hs
                rcases List.mem_append.1 hs with hs | hs
                · exact HSz0.out s hs
                · rw [List.mem_singleton.1 hs]; exact hsz
              have HR3 : Hid (loadP d (ns.drop (k + 1)) (decide (sg.size < z1)) z3 = R) := hR3
              have hLz : ∃ v0, Calls Tryz.prog 64 #[dptr p] w5 (fun e w' => e = .returned (sgV sg.num v0) ∧ Below w5.heap.size w5 w') ∧ (∀ u, Below w5.heap.size w5 u → Calls Tryz.prog 65 #[sgV sg.num v0] u fun e w' => e = .returned (.int .i64 ((sg.size : Nat) : Int)) ∧ Below u.heap.size u w') := by
                obtain ⟨S2, T2, vs2, q2, a1, a2, a3, a4, a5, a6⟩ := HO5.out
                rw [hsg] at a2
                obtain ⟨q', y, rfl, hy⟩ : ∃ q' y, q2 = q' ++ [y] ∧ y.1 = sg := by
                  rcases List.map_eq_append_iff.1 a2 with ⟨x1, x2, rfl, e1, e2⟩
                  rcases x2 with _ | ⟨y, x2⟩
                  · cases e2
                  · simp at e2
                    obtain ⟨e3, e4⟩ := e2
                    subst e4
                    exact ⟨x1, y, rfl, e3⟩
                subst hy
                have hnum := a1.lg.num y (by simp)
                have hlen := a1.lg.len y (by simp)
                exact ⟨y.2, last_any a1.lg, fun u hu => size_any y.1.num ((a1.same hu).lg.pls y (by simp)) (a1.lg.ne y (by simp)) (by omega) (by omega)⟩
              obtain ⟨v0, hLz, hSz⟩ := hLz
              obtain ⟨Q, hQ⟩ : ∃ Q, sg.size = Q := ⟨_, rfl⟩
              obtain ⟨M, hM⟩ : ∃ M, sg.num = M := ⟨_, rfl⟩
              rw [hQ] at hSz HR3
              rw [hM] at hSz hLz
              have HSz : Hid (∀ u, Below w5.heap.size w5 u → Calls Tryz.prog 65 #[sgV M v0] u fun e w' => e = .returned (.int .i64 ((Q : Nat) : Int)) ∧ Below u.heap.size u w') := hSz
              have HLz : Hid (z3.length = k + 1) := by show _ = _; rw [hsg, List.length_append, HLk.out]; rfl
              clear hR3 hsg hsz hQ hM hSz HRZ
              go_wp2_with (fail)
              refine hLz.mono ?_
              rintro e w6 ⟨rfl, hb6⟩
              have HB6 : Hid (Below w5.heap.size w5 w6) := hb6
              clear hLz hb6
              go_wp2_with (fail)
              refine (HSz.out _ HB6.out).mono ?_
              rintro e w7 ⟨rfl, hb7⟩
              have HO7 : Hid (OpS w0 w b m p S T d z3 g n nc ns w7) := (HO5.out.below HB6.out).below hb7
              clear hb7 HB6 HSz HO5
              by_cases hQz : Q < z1
              · have q5 : (Q : Int) < (z1 : Int) := by omega
                have HR4 : Hid (loadP d (ns.drop (k + 1)) true z3 = R) := by show _ = _; have := HR3.out; rwa [show decide (Q < z1) = true by simpa using hQz] at this
                clear HR3 hQz
                go_wp2_with (fail)
                go_roundw
                case rel => exact ⟨k + 1, true, z3, by first | rfl | (simp; omega), by first | rfl | go_num, by omega, HO7, HR4, HLz, HSs⟩
                case measure => simp [intOf]; omega
              · have q5 : ¬ (Q : Int) < (z1 : Int) := by omega
                have HR4 : Hid (loadP d (ns.drop (k + 1)) false z3 = R) := by show _ = _; have := HR3.out; rwa [show decide (Q < z1) = false by simpa using hQz] at this
                clear HR3 hQz
                go_wp2_with (fail)
                go_roundw
                case rel => exact ⟨k + 1, false, z3, by first | rfl | (simp; omega), by first | rfl | go_num, by omega, HO7, HR4, HLz, HSs⟩
                case measure => simp [intOf]; omega
            · have q9 : ((z2 : Int) != 0) = true := by simp; omega
              have q8 : ((z2 : Int) == 0) = false := by simp; omega
              have HR3 : Hid ((z2, false, z3) = R) := HRZ.out.1 hz
              have HZ0 : Hid (z2 ≠ 0) := hz
              clear hz HRZ
              go_wp2_with (fail)
              go_ret
              have hE := HE3.out
              rw [← HR3.out, if_pos HZ0.out] at hE
              exact ⟨by rw [← hE]; rfl, by rw [← hE]; exact HO5.out.did⟩
          · obtain ⟨L', x, hLx⟩ : ∃ L' x, L = L' ++ [x] := by
              have hne : L ≠ [] := fun e => hk0 (by rw [← HL.out, e]; rfl)
              exact ⟨L.dropLast, L.getLast hne, (List.dropLast_concat_getLast hne).symm⟩
            subst hLx
            obtain ⟨N0, pl0⟩ := x
            rw [lastS_snoc] at HR2
            obtain ⟨X, hX⟩ : ∃ X, (⟨N0, pl0⟩ : Sg).next = X := ⟨_, rfl⟩
            rw [hX] at HR2
            have hLa : ∃ v0, Calls Tryz.prog 64 #[dptr p] wr (fun e w' => e = .returned (sgV N0 v0) ∧ Below wr.heap.size wr w') ∧ (∀ u, Calls Tryz.prog 67 #[sgV N0 v0] u fun e w' => e = .returned (.int .i64 (X : Int)) ∧ Below u.heap.size u w') ∧ (X : Int) ≤ 1099512627776 := by
              obtain ⟨S1, T1, vs1, q1, h1, h2, h3, h4, h5, h6⟩ := HO.out
              obtain ⟨q', y, rfl, hy⟩ : ∃ q' y, q1 = q' ++ [y] ∧ y.1 = ⟨N0, pl0⟩ := by
                rcases List.map_eq_append_iff.1 h2 with ⟨a1, a2, rfl, e1, e2⟩
                rcases a2 with _ | ⟨y, a2⟩
                · cases e2
                · simp at e2
                  obtain ⟨e3, e4⟩ := e2
                  subst e4
                  exact ⟨a1, y, rfl, e3⟩
              have hl := last_any h1.lg
              obtain ⟨pg, pc, hy2, _⟩ := ownI_form (h1.lg.pls y (by simp)) (h1.lg.ne y (by simp))
              have hnum := h1.lg.num y (by simp)
              have hlen := h1.lg.len y (by simp)
              have hne := List.length_pos_iff.2 (h1.lg.ne y (by simp))
              rw [hy] at hl hnum hlen hne hy2
              simp only at hl hnum hlen hne hy2
              refine ⟨y.2, hl, fun u => ?_, ?_⟩
              · rw [hy2]
                refine (next_any u N0 _ _ _ (by omega) (by omega) (by omega)).mono fun e w' q => ⟨?_, q.2⟩
                rw [q.1, ← hX]; rfl
              · rw [← hX]; unfold Sg.next; simp only; omega
            obtain ⟨v0, hLa, hNx, bX⟩ := hLa
            have q1 : (0 : Int) < (k : Int) := by omega
            have HX : Hid ((⟨N0, pl0⟩ : Sg).next = X) := hX
            clear hX
            go_wp2_with (fail)
            refine hLa.mono ?_
            rintro e w3 ⟨rfl, hb3⟩
            have HO3 : Hid (OpS w0 w b m p S T d (L' ++ [⟨N0, pl0⟩]) g n nc ns w3) := HO.out.below hb3
            clear hLa hb3 HO hcell
            go_wp2_with (fail)
            refine (hNx _).mono ?_
            rintro e w4 ⟨rfl, hb4⟩
            have HO : Hid (OpS w0 w b m p S T d (L' ++ [⟨N0, pl0⟩]) g n nc ns w4) := HO3.out.below hb4
            clear hNx hb4 HO3
            by_cases hXN : X = N
            · have q2 : ((N : Int) != (X : Int)) = false := by simp; omega
              have q3 : ((N : Int) == (X : Int)) = true := by simp; omega
              rw [if_neg (by simp; exact hXN)] at HR2
              clear hXN
              obtain ⟨W, hW⟩ : ∃ W, W = w4 := ⟨_, rfl⟩
              subst hW
              obtain ⟨LL, hLL⟩ : ∃ LL, LL = (L' ++ [⟨N0, pl0⟩] : List Sg) := ⟨_, rfl⟩
              rw [← hLL] at HR2 HO HL HSz0
              clear hLL
              obtain ⟨S1, T1, vs1, q1, h1, h2, h3, h4, h5, h6⟩ := HO.out
              have hql : q1.length + 1 ≤ 1048576 := by
                have h7 := HL.out
                have h8 := HNN.out
                rw [← h2, List.length_map] at h7
                omega
              have hbU : (theF d (nameL N)).bs.length ≤ 1099511627776 := by
                obtain ⟨sl, hd⟩ := h1.lv.dk
                exact Nat.le_trans (theF_len hd.ok _) HUd.out
              have hLd := load_any h1 N (by have := HN.out; omega) HUd.out hql
              rw [h2] at hLd
              obtain ⟨Z, hZ⟩ : ∃ Z, load1 d LL N = Z := ⟨_, rfl⟩
              rw [hZ] at hLd
              have HRZ : Hid ((Z.2.1 ≠ 0 → (Z.2.1, false, Z.2.2) = R) ∧ (Z.2.1 = 0 → ∃ sg, Z.2.2 = LL ++ [sg] ∧ sg.size ≤ 1099511627776 ∧ loadP d (ns.drop (k + 1)) (decide (sg.size < Z.1)) Z.2.2 = R)) := by
                unfold load1 at hZ
                rw [← hZ]
                by_cases hf : findV d (nameL N) ≠ 0
                · rw [if_pos hf] at HR2 ⊢
                  exact ⟨fun _ => HR2, fun e => absurd e hf⟩
                · rw [if_neg hf] at HR2 ⊢
                  by_cases hb : 1000000 < (readSg N (theF d (nameL N)).bs).next
                  · rw [if_pos hb] at HR2 ⊢
                    exact ⟨fun _ => HR2, fun e => by cases e⟩
                  · rw [if_neg hb] at HR2 ⊢
                    exact ⟨fun e => absurd rfl e, fun _ => ⟨_, rfl, Nat.le_trans (readSg_size _ _) hbU, HR2⟩⟩
              have HOx : Hid (Wl w0 W b m S1 d p T1 vs1 q1 ∧ StW w S T W S1 T1 ∧ ¬ S1 g ∧ ¬ T1 g ∧ OwnI W 0 (.slice (some ⟨g, 0, none⟩) n nc) ns) := ⟨h1, h3, h4, h5, h6⟩
              have HLk : Hid (LL.length = k) := HL.out
              clear HO HL HR2 hql hZ hbU h1 h2 h3 h4 h5 h6
              go_wp2_with (fail)
              refine hLd.mono ?_
              (try clear hcell)
              rintro e w5 ⟨rfl, hd5⟩
              have HO5 : Hid (OpS w0 w b m p S T d Z.2.2 g n nc ns w5) := by
                obtain ⟨S', T', vs', q', a1, a2, a3⟩ := hd5
                obtain ⟨h1, h3, h4, h5, h6⟩ := HOx.out
                have hgw := (h6.lt g rfl).2
                exact ⟨S', T', vs', q', a1, a2, h3.trans a3, fun e => (a3.2 g (.inl e)).elim (fun e => e.elim h4 h5) (fun e => by omega), fun e => (a3.2 g (.inr e)).elim (fun e => e.elim h4 h5) (fun e => by omega), ownI_keep h6 (fun k hk => by
                  obtain rfl : g = k := Option.some.inj hk
                  exact a3.1.block g hgw (fun e => e.elim h4 h5))⟩
              clear hLd hd5
              obtain ⟨z1, z2, z3⟩ := Z
              simp only at HRZ HO5 ⊢
              by_cases hz : z2 = 0
              · subst hz
                obtain ⟨sg, hsg, hsz, hR3⟩ := HRZ.out.2 rfl
                have HSs : Hid (∀ s ∈ z3, s.size ≤ 1099511627776) := fun s hs => by
                  rw [hsg] at hs
                  rcases List.mem_append.1 hs with hs | hs
                  · exact HSz0.out s hs
                  · rw [List.mem_singleton.1 hs]; exact hsz
                have HR3 : Hid (loadP d (ns.drop (k + 1)) (decide (sg.size < z1)) z3 = R) := hR3
                have hLz : ∃ v0, Calls Tryz.prog 64 #[dptr p] w5 (fun e w' => e = .returned (sgV sg.num v0) ∧ Below w5.heap.size w5 w') ∧ (∀ u, Below w5.heap.size w5 u → Calls Tryz.prog 65 #[sgV sg.num v0] u fun e w' => e = .returned (.int .i64 ((sg.size : Nat) : Int)) ∧ Below u.heap.size u w') := by
                  obtain ⟨S2, T2, vs2, q2, a1, a2, a3, a4, a5, a6⟩ := HO5.out
                  rw [hsg] at a2
                  obtain ⟨q', y, rfl, hy⟩ : ∃ q' y, q2 = q' ++ [y] ∧ y.1 = sg := by
                    rcases List.map_eq_append_iff.1 a2 with ⟨x1, x2, rfl, e1, e2⟩
                    rcases x2 with _ | ⟨y, x2⟩
                    · cases e2
                    · simp at e2
                      obtain ⟨e3, e4⟩ := e2
                      subst e4
                      exact ⟨x1, y, rfl, e3⟩
                  subst hy
                  have hnum := a1.lg.num y (by simp)
                  have hlen := a1.lg.len y (by simp)
                  exact ⟨y.2, last_any a1.lg, fun u hu => size_any y.1.num ((a1.same hu).lg.pls y (by simp)) (a1.lg.ne y (by simp)) (by omega) (by omega)⟩
                obtain ⟨v0, hLz, hSz⟩ := hLz
                obtain ⟨Q, hQ⟩ : ∃ Q, sg.size = Q := ⟨_, rfl⟩
                obtain ⟨M, hM⟩ : ∃ M, sg.num = M := ⟨_, rfl⟩
                rw [hQ] at hSz HR3
                rw [hM] at hSz hLz
                have HSz : Hid (∀ u, Below w5.heap.size w5 u → Calls Tryz.prog 65 #[sgV M v0] u fun e w' => e = .returned (.int .i64 ((Q : Nat) : Int)) ∧ Below u.heap.size u w') := hSz
                have HLz : Hid (z3.length = k + 1) := by show _ = _; rw [hsg, List.length_append, HLk.out]; rfl
                clear hR3 hsg hsz hQ hM hSz HRZ
                go_wp2_with (fail)
                refine hLz.mono ?_
                rintro e w6 ⟨rfl, hb6⟩
                have HB6 : Hid (Below w5.heap.size w5 w6) := hb6
                clear hLz hb6
                go_wp2_with (fail)
                refine (HSz.out _ HB6.out).mono ?_
                rintro e w7 ⟨rfl, hb7⟩
                have HO7 : Hid (OpS w0 w b m p S T d z3 g n nc ns w7) := (HO5.out.below HB6.out).below hb7
                clear hb7 HB6 HSz HO5
                by_cases hQz : Q < z1
                · have q5 : (Q : Int) < (z1 : Int) := by omega
                  have HR4 : Hid (loadP d (ns.drop (k + 1)) true z3 = R) := by show _ = _; have := HR3.out; rwa [show decide (Q < z1) = true by simpa using hQz] at this
                  clear HR3 hQz
                  go_wp2_with (fail)
                  go_roundw
                  case rel => exact ⟨k + 1, true, z3, by first | rfl | (simp; omega), by first | rfl | go_num, by omega, HO7, HR4, HLz, HSs⟩
                  case measure => simp [intOf]; omega
                · have q5 : ¬ (Q : Int) < (z1 : Int) := by omega
                  have HR4 : Hid (loadP d (ns.drop (k + 1)) false z3 = R) := by show _ = _; have := HR3.out; rwa [show decide (Q < z1) = false by simpa using hQz] at this
                  clear HR3 hQz
                  go_wp2_with (fail)
                  go_roundw
                  case rel => exact ⟨k + 1, false, z3, by first | rfl | (simp; omega), by first | rfl | go_num, by omega, HO7, HR4, HLz, HSs⟩
                  case measure => simp [intOf]; omega
              · have q9 : ((z2 : Int) != 0) = true := by simp; omega
                have q8 : ((z2 : Int) == 0) = false := by simp; omega
                have HR3 : Hid ((z2, false, z3) = R) := HRZ.out.1 hz
                have HZ0 : Hid (z2 ≠ 0) := hz
                clear hz HRZ
                go_wp2_with (fail)
                go_ret
                have hE := HE3.out
                rw [← HR3.out, if_pos HZ0.out] at hE
                exact ⟨by rw [← hE]; rfl, by rw [← hE]; exact HO5.out.did⟩
            · have q2 : ((N : Int) != (X : Int)) = true := by simp; omega
              have q3 : ((N : Int) == (X : Int)) = false := by simp; omega
              rw [if_pos (by simp; exact hXN)] at HR2
              have HR3 : Hid ((16, false, L' ++ [⟨N0, pl0⟩]) = R) := HR2
              clear HR2 hXN
              go_wp2_with (fail)
              go_ret
              have hE := HE3.out
              rw [← HR3.out, if_pos (by simp)] at hE
              exact ⟨by rw [← hE]; rfl, by rw [← hE]; exact HO.out.did⟩
      · have hkn : k = n := by omega
        subst hkn
        have HR2 := HR.out
        rw [List.drop_of_length_le (by have := HNN.out; omega), loadP] at HR2
        have hE := HE3.out
        rw [← HR2, if_neg (by simp)] at hE
        simp only at hE
        have hE2 : openF d tb L = E := hE
        have hlne : L ≠ [] := fun e => by have h1 := HL.out; have h2 := HNN.out.2.2; rw [e] at h1; simp at h1; omega
        obtain ⟨L', x, hLx⟩ : ∃ L' x, L = L' ++ [x] := ⟨L.dropLast, L.getLast hlne, (List.dropLast_concat_getLast hlne).symm⟩
        subst hLx
        obtain ⟨N0, pl0⟩ := x
        unfold openF at hE2
        rw [lastS_snoc] at hE2
        obtain ⟨S1, T1, vs1, q1, h1, h2, h3, h4, h5, h6⟩ := HO.out
        obtain ⟨q', y, rfl, hq', hy⟩ : ∃ q' y, q1 = q' ++ [y] ∧ q'.map (·.1) = L' ∧ y.1 = ⟨N0, pl0⟩ := by
          rcases List.map_eq_append_iff.1 h2 with ⟨a1, a2, rfl, e1, e2⟩
          rcases a2 with _ | ⟨y, a2⟩
          · cases e2
          · simp at e2
            obtain ⟨e3, e4⟩ := e2
            subst e4
            exact ⟨a1, y, rfl, e1, e3⟩
        obtain ⟨y1, yv⟩ := y
        simp only at hy
        subst hy
        have HQ : Hid ((q' ++ [((⟨N0, pl0⟩ : Sg), yv)]).map (·.1) = L' ++ [⟨N0, pl0⟩]) := h2
        have HW1 : Hid (Wl w0 wr b m S1 d p T1 vs1 (q' ++ [((⟨N0, pl0⟩ : Sg), yv)])) := h1
        have HS1 : Hid (StW w S T wr S1 T1) := h3
        obtain ⟨A, hA⟩ : ∃ A, (⟨N0, pl0⟩ : Sg).size = A := ⟨_, rfl⟩
        rw [hA] at hE2
        simp only at hE2
        have HA : Hid (pl0.getLastD 0 = A) := hA
        have HN0 : Hid (N0 ≤ 999999 ∧ pl0 ≠ [] ∧ pl0.length ≤ 1099511627777) := ⟨h1.lg.num (⟨N0, pl0⟩, yv) (by simp), h1.lg.ne (⟨N0, pl0⟩, yv) (by simp), h1.lg.len (⟨N0, pl0⟩, yv) (by simp)⟩
        clear HR HR2 HE3 hE hlne h1 h2 h3 h4 h5 h6 hq' hA HO HL
        cases tb with
        | false =>
          have HE4 : Hid (((syncP d (nameL N0)).1, (syncP d (nameL N0)).2, L' ++ [⟨N0, pl0⟩]) = E) := hE2
          have hSy := wsync_any HW1.out
          simp only at hSy
          obtain ⟨D, hD⟩ : ∃ D, syncP d (nameL N0) = D := ⟨_, rfl⟩
          rw [hD] at hSy HE4
          clear hE2 hD
          go_wp2_with (fail)
          refine hSy.mono ?_
          rintro e w3 ⟨rfl, h31, h32⟩
          have HX : Hid (DidW w0 w b m S p T D.2 (L' ++ [⟨N0, pl0⟩]) w3) := ⟨S1, T1, vs1, _, h31, HQ.out, HS1.out.trans h32⟩
          clear hSy h31 h32
          go_wp2_with (fail)
          go_ret
          exact ⟨by rw [← HE4.out]; rfl, by rw [← HE4.out]; exact HX.out⟩
        | true =>
          rw [if_pos rfl] at hE2
          obtain ⟨C, hCe⟩ : ∃ C, cutP d (nameL N0) (A : Int) = C := ⟨_, rfl⟩
          rw [hCe] at hE2
          have HCE : Hid (cutP d (nameL N0) (A : Int) = C) := hCe
          have HE4 : Hid ((if C.1 ≠ 0 then (C.1, C.2, L' ++ [⟨N0, pl0⟩]) else ((syncP C.2 (nameL N0)).1, (syncP C.2 (nameL N0)).2, L' ++ [⟨N0, pl0⟩])) = E) := hE2
          clear hE2 hCe
          have HPS : Hid (wr.heap[p]? = some (.cells #[dptr b, vs1] 99 (0, 0))) := HW1.out.lg.blk
          have n0 : ∀ w' : World, w'.heap[p]? = some (.cells #[dptr b, vs1] 99 (0, 0)) → w'.cell? ⟨p, 0, none⟩ = some (dptr b) := fun w' hw => cell_blk hw rfl
          have FL : Hid (∀ u, Below wr.heap.size wr u → Calls Tryz.prog 64 #[dptr p] u fun e w' => e = .returned (sgV N0 yv) ∧ Below u.heap.size u w') := fun u hu => last_any (HW1.out.same hu).lg
          have FN : Hid (∀ u, Below wr.heap.size wr u → Calls Tryz.prog 69 #[sgV N0 yv] u fun e w' => e = .returned (strN (nameL N0)) ∧ Below u.heap.size u w') := fun u hu => name_any (HW1.out.same hu).tabs _ (by have := HN0.out; omega) _
          have FZ : Hid (∀ u, Below wr.heap.size wr u → Calls Tryz.prog 65 #[sgV N0 yv] u fun e w' => e = .returned (.int .i64 (A : Int)) ∧ Below u.heap.size u w') := fun u hu =>
            (size_any N0 ((HW1.out.same hu).lg.pls (⟨N0, pl0⟩, yv) (by simp)) HN0.out.2.1 (by have := HN0.out; omega) (by have := HN0.out; show pl0.length ≤ _; omega)).mono fun e w' q => ⟨by rw [q.1]; show Ending.returned (.int .i64 ((pl0.getLastD 0 : Nat) : Int)) = _; rw [HA.out], q.2⟩
          have HAb : Hid ((A : Int) ≤ 9223372036854775807) := by
            show _ ≤ _
            have h1 := HSz0.out ⟨N0, pl0⟩ (by simp)
            have h2 : (⟨N0, pl0⟩ : Sg).size = A := HA.out
            rw [h2] at h1
            omega
          go_wp2_with (fail)
          refine regionC (fun (w' : World) => w'.heap[p]? = some (.cells #[dptr b, vs1] 99 (0, 0))) 11 (by kernel_rfl) ?_
          (try (change wpAnyC _ _ _ _ _ _ _ _ _ (World.drew _)))
          refine nameW (fun W0 hW0 => ?_)
          have hC : Hid (W0.heap[p]? = some (.cells #[dptr b, vs1] 99 (0, 0))) := by show _ = _; rw [hW0]; exact HPS.out
          have hB : Hid (Below wr.heap.size wr W0) := by show Below _ _ _; rw [hW0]; exact ⟨rfl, rfl, rfl, Nat.le_refl _, fun _ _ => rfl⟩
          clear hW0
          refine takeC (i := 0) (v := ?_) rfl (by kernel_rfl) (by kernel_rfl) (by kernel_rfl) (by kernel_rfl) (by kernel_rfl) (fun _ _ _ h => h) hC.out (Or.inl ⟨by rfl, ?_⟩) ?_
          rotate_left 1
          · intro w' hw'
            skip
            go_simp
            first | done | with_reducible rfl
          (try simp only [Act.put])
          (try simp only [List.setIfInBounds_toArray])
          (try simp only [List.set_cons_succ])
          (try simp only [List.set_cons_zero])
          refine takeC (i := 1) (v := ?_) rfl (by kernel_rfl) (by kernel_rfl) (by kernel_rfl) (by kernel_rfl) (by kernel_rfl) (fun _ _ _ h => h) hC.out (Or.inl ⟨by rfl, ?_⟩) ?_
          rotate_left 1
          · intro w' hw'
            skip
            go_simp
            first | done | with_reducible rfl
          (try simp only [Act.put])
          (try simp only [List.setIfInBounds_toArray])
          (try simp only [List.set_cons_succ])
          (try simp only [List.set_cons_zero])
          refine takeC (i := 2) (v := ?_) rfl (by kernel_rfl) (by kernel_rfl) (by kernel_rfl) (by kernel_rfl) (by kernel_rfl) (fun _ _ _ h => h) hC.out (Or.inl ⟨by rfl, ?_⟩) ?_
          rotate_left 1
          · intro w' hw'
            skip
            go_simp
            first | done | with_reducible rfl
          (try simp only [Act.put])
          (try simp only [List.setIfInBounds_toArray])
          (try simp only [List.set_cons_succ])
          (try simp only [List.set_cons_zero])
          refine takeC (i := 3) (v := ?_) rfl (by kernel_rfl) (by kernel_rfl) (by kernel_rfl) (by kernel_rfl) (by kernel_rfl) (fun _ _ _ h => h) hC.out (Or.inl ⟨by rfl, ?_⟩) ?_
          rotate_left 1
          · intro w' hw'
            have z0 := n0 w' hw'
            go_simp
            first | done | with_reducible rfl
          (try simp only [Act.put])
          (try simp only [List.setIfInBounds_toArray])
          (try simp only [List.set_cons_succ])
          (try simp only [List.set_cons_zero])
          refine takeC (i := 4) (v := ?_) rfl (by kernel_rfl) (by kernel_rfl) (by kernel_rfl) (by kernel_rfl) (by kernel_rfl) (fun _ _ _ h => h) hC.out (Or.inl ⟨by rfl, ?_⟩) ?_
          rotate_left 1
          · intro w' hw'
            skip
            go_simp
            first | done | with_reducible rfl
          (try simp only [Act.put])
          (try simp only [List.setIfInBounds_toArray])
          (try simp only [List.set_cons_succ])
          (try simp only [List.set_cons_zero])
          refine takeC (i := 7) (v := ?_) rfl (by kernel_rfl) (by kernel_rfl) (by kernel_rfl) (by kernel_rfl) (by kernel_rfl) (fun _ _ _ h => h) hC.out (Or.inl ⟨by rfl, ?_⟩) ?_
          rotate_left 1
          · intro w' hw'
            skip
            go_simp
            first | done | with_reducible rfl
          (try simp only [Act.put])
          (try simp only [List.setIfInBounds_toArray])
          (try simp only [List.set_cons_succ])
          (try simp only [List.set_cons_zero])
          refine readyC (rs := [5]) (by kernel_rfl) (by simp) ?_
          refine ReadyC.cons rfl (fun K hK => ?_) ReadyC.nil
          refine stepV_call rfl 64 #[dptr p] (by kernel_rfl) (FL.out W0 hB.out) (fun e w' h => ⟨_, h.1⟩) ?_
          intro v1 W1 hq
          obtain ⟨hv1, hq⟩ := hq
          have hv1' := Ending.returned.inj hv1
          subst hv1'
          have hq2 : Below wr.heap.size wr W1 := hB.out.trans (hq.mono hB.out.size)
          have hq3 : W1.heap[p]? = some (.cells #[dptr b, vs1] 99 (0, 0)) := (hq2.block _ (lt_blk HPS.out)).trans HPS.out
          refine hK _ _ (fun _ => hq3) ?_
          clear hK K
          (try simp only [Act.put])
          (try simp only [List.setIfInBounds_toArray])
          (try simp only [List.set_cons_succ])
          (try simp only [List.set_cons_zero])
          replace hC : Hid (W1.heap[p]? = some (.cells #[dptr b, vs1] 99 (0, 0))) := hq3
          replace hB : Hid (Below wr.heap.size wr W1) := hq2
          clear hv1 hq hq2 hq3
          refine readyC (rs := [6]) (by kernel_rfl) (by simp) ?_
          refine ReadyC.cons rfl (fun K hK => ?_) ReadyC.nil
          refine stepV_call rfl 69 #[sgV N0 yv] (by kernel_rfl) (FN.out W1 hB.out) (fun e w' h => ⟨_, h.1⟩) ?_
          intro v1 W2 hq
          obtain ⟨hv1, hq⟩ := hq
          have hv1' := Ending.returned.inj hv1
          subst hv1'
          have hq2 : Below wr.heap.size wr W2 := hB.out.trans (hq.mono hB.out.size)
          have hq3 : W2.heap[p]? = some (.cells #[dptr b, vs1] 99 (0, 0)) := (hq2.block _ (lt_blk HPS.out)).trans HPS.out
          refine hK _ _ (fun _ => hq3) ?_
          clear hK K
          (try simp only [Act.put])
          (try simp only [List.setIfInBounds_toArray])
          (try simp only [List.set_cons_succ])
          (try simp only [List.set_cons_zero])
          replace hC : Hid (W2.heap[p]? = some (.cells #[dptr b, vs1] 99 (0, 0))) := hq3
          replace hB : Hid (Below wr.heap.size wr W2) := hq2
          clear hv1 hq hq2 hq3
          refine readyC (rs := [8]) (by kernel_rfl) (by simp) ?_
          refine ReadyC.cons rfl (fun K hK => ?_) ReadyC.nil
          refine stepV_call rfl 64 #[dptr p] (by kernel_rfl) (FL.out W2 hB.out) (fun e w' h => ⟨_, h.1⟩) ?_
          intro v1 W3 hq
          obtain ⟨hv1, hq⟩ := hq
          have hv1' := Ending.returned.inj hv1
          subst hv1'
          have hq2 : Below wr.heap.size wr W3 := hB.out.trans (hq.mono hB.out.size)
          have hq3 : W3.heap[p]? = some (.cells #[dptr b, vs1] 99 (0, 0)) := (hq2.block _ (lt_blk HPS.out)).trans HPS.out
          refine hK _ _ (fun _ => hq3) ?_
          clear hK K
          (try simp only [Act.put])
          (try simp only [List.setIfInBounds_toArray])
          (try simp only [List.set_cons_succ])
          (try simp only [List.set_cons_zero])
          replace hC : Hid (W3.heap[p]? = some (.cells #[dptr b, vs1] 99 (0, 0))) := hq3
          replace hB : Hid (Below wr.heap.size wr W3) := hq2
          clear hv1 hq hq2 hq3
          refine readyC (rs := [9]) (by kernel_rfl) (by simp) ?_
          refine ReadyC.cons rfl (fun K hK => ?_) ReadyC.nil
          refine stepV_call rfl 65 #[sgV N0 yv] (by kernel_rfl) (FZ.out W3 hB.out) (fun e w' h => ⟨_, h.1⟩) ?_
          intro v1 W4 hq
          obtain ⟨hv1, hq⟩ := hq
          have hv1' := Ending.returned.inj hv1
          subst hv1'
          have hq2 : Below wr.heap.size wr W4 := hB.out.trans (hq.mono hB.out.size)
          have hq3 : W4.heap[p]? = some (.cells #[dptr b, vs1] 99 (0, 0)) := (hq2.block _ (lt_blk HPS.out)).trans HPS.out
          refine hK _ _ (fun _ => hq3) ?_
          clear hK K
          (try simp only [Act.put])
          (try simp only [List.setIfInBounds_toArray])
          (try simp only [List.set_cons_succ])
          (try simp only [List.set_cons_zero])
          replace hC : Hid (W4.heap[p]? = some (.cells #[dptr b, vs1] 99 (0, 0))) := hq3
          replace hB : Hid (Below wr.heap.size wr W4) := hq2
          clear hv1 hq hq2 hq3
          refine readyC (rs := [10]) (by kernel_rfl) (by simp) ?_
          refine ReadyC.cons rfl (fun K hK => ?_) ReadyC.nil
          refine stepV_call rfl 42 #[dptr b, strN (nameL N0), .int .i64 (A : Int)] (by kernel_rfl) (cutL (HW1.out.same hB.out).lv (nameL N0) (by rw [nameL_length]; omega) (A : Int) ⟨by omega, HAb.out⟩) (fun e w' h => ⟨_, h.1⟩) ?_
          intro v9 W5 hq
          obtain ⟨hv9, hlv, hst⟩ := hq
          have hv9' := Ending.returned.inj hv9
          subst hv9'
          rw [HCE.out] at hlv ⊢
          obtain ⟨hwl, hstw⟩ := (HW1.out.same hB.out).disk hlv hst
          have hkk : W5.heap[p]? = some (.cells #[dptr b, vs1] 99 (0, 0)) := hwl.lg.blk
          refine hK _ _ (fun _ => hkk) ?_
          clear hK K
          (try simp only [Act.put])
          (try simp only [List.setIfInBounds_toArray])
          (try simp only [List.set_cons_succ])
          (try simp only [List.set_cons_zero])
          replace hC : Hid (W5.heap[p]? = some (.cells #[dptr b, vs1] 99 (0, 0))) := hkk
          have HW9 : Hid (Wl w0 W5 b m S1 C.2 p T1 vs1 (q' ++ [((⟨N0, pl0⟩ : Sg), yv)])) := hwl
          have HS9 : Hid (StW w S T W5 S1 T1) := HS1.out.trans ((StW.same S1 T1 hB.out).trans hstw)
          clear hkk hv9 hlv hst hwl hstw hB
          refine readyC (rs := [11]) (by kernel_rfl) (by simp) ?_
          refine ReadyC.cons rfl (fun K hK => ?_) ReadyC.nil
          go_simp
          refine hK _ _ (fun _ => hC.out) ?_
          clear hK K
          (try simp only [Act.put])
          (try simp only [List.setIfInBounds_toArray])
          (try simp only [List.set_cons_succ])
          (try simp only [List.set_cons_zero])
          refine doneC (by kernel_rfl) ?_ _
          clear n0 FL FN FZ
          obtain ⟨w9, hw9⟩ : ∃ w9, w9 = W5 := ⟨_, rfl⟩
          subst hw9
          clear hC
          obtain ⟨e9, he9⟩ : ∃ e9, C.1 = e9 := ⟨_, rfl⟩
          rw [he9]
          rw [he9] at HE4
          clear he9
          by_cases hz : e9 = 0
          · subst hz
            have hE4 := HE4.out
            rw [if_neg (by simp)] at hE4
            have hSy := wsync_any HW9.out
            simp only at hSy
            obtain ⟨D, hD⟩ : ∃ D, syncP C.2 (nameL N0) = D := ⟨_, rfl⟩
            rw [hD] at hSy hE4
            have HE5 : Hid ((D.1, D.2, L' ++ [⟨N0, pl0⟩]) = E) := hE4
            clear hD hE4 HE4
            go_wp2_with (fail)
            refine hSy.mono ?_
            rintro e w3 ⟨rfl, h31, h32⟩
            have HX : Hid (DidW w0 w b m S p T D.2 (L' ++ [⟨N0, pl0⟩]) w3) := ⟨S1, T1, vs1, _, h31, HQ.out, HS9.out.trans h32⟩
            clear hSy h31 h32
            go_wp2_with (fail)
            go_ret
            exact ⟨by rw [← HE5.out]; rfl, by rw [← HE5.out]; exact HX.out⟩
          · have q9 : ((e9 : Int) != 0) = true := by simp; omega
            have q8 : ((e9 : Int) == 0) = false := by simp; omega
            have hE4 := HE4.out
            rw [if_pos hz] at hE4
            have HE5 : Hid ((e9, C.2, L' ++ [⟨N0, pl0⟩]) = E) := hE4
            clear hz hE4 HE4
            go_wp2_with (fail)
            go_ret
            exact ⟨by rw [← HE5.out]; rfl, by rw [← HE5.out]; exact ⟨S1, T1, vs1, _, HW9.out, HQ.out, HS9.out⟩⟩
end Go.Proofs.YtkbmblmnhhlicaaGreatDoor

/- Open, walked. -/
namespace Go.Proofs.YtkbmblmnhhlicaaGreatDoor
open Go.RowKit

/-- A log that a call made on a disk. -/
def Opnd (w0 w : World) (b m : Nat) (S : Nat → Prop) (d' : Dk) (L : List Sg) (p : Nat) (w' : World) : Prop := ∃ S' T' vs' q', Wl w0 w' b m S' d' p T' vs' q' ∧ q'.map (·.1) = L ∧ StW w S (fun _ => False) w' S' T'
theorem noFalse (P Q : Prop) (h : P ∨ False) : P := h.elim id False.elim
/-- With an error: the disk alone. -/
theorem Opnd.st {w0 w w' : World} {b m p : Nat} {S : Nat → Prop} {d' : Dk} {L : List Sg} (h : Opnd w0 w b m S d' L p w') : ∃ S', Lv w0 w' b m S' d' ∧ St w S w' S' := by
  obtain ⟨S', T', vs', q', h1, h2, h3⟩ := h
  exact ⟨S', h1.lv, ⟨h3.1.os, h3.1.tape, h3.1.output, h3.1.size, fun k hk hn => h3.1.block k hk (fun e => hn (e.elim id False.elim))⟩, fun k hk => (h3.2 k (.inl hk)).imp (fun e => e.elim id False.elim) id⟩

/-- What Open tells. -/
def OpenIs (w0 w : World) (b m : Nat) (S : Nat → Prop) (E : Nat × Dk × List Sg) (e : Ending) (w' : World) : Prop := ∃ p, e = .returned (.tuple #[if E.1 = 0 then dptr p else .pointer none, .int .i64 (E.1 : Int)]) ∧ Opnd w0 w b m S E.2.1 E.2.2 p w'

set_option maxHeartbeats 2000000 in
set_option maxRecDepth 20000 in
theorem Open_any {w0 w : World} {b m : Nat} {S : Nat → Prop} {d : Dk} (h : Lv w0 w b m S d) (ht : Tabs w0) (hnm : ∀ x ∈ d.files, x.1.length ≤ 140737488355328) (hu : usedL d.files ≤ 1099511627776) (hf : d.files.length + 1 ≤ 1048576) :
    Calls Tryz.prog 16 #[dptr b] w fun e w' => OpenIs w0 w b m S (openP d) e w' := by
  obtain ⟨wa, hwa⟩ : ∃ wa, wa = w.alloc (.cells #[dptr b, .slice none 0 0] 99) := ⟨_, rfl⟩
  have hba : Below w.heap.size w wa := by rw [hwa]; exact (Below.refl _ w).alloc (Nat.le_refl _) _
  have hblk : wa.heap[w.heap.size]? = some (.cells #[dptr b, .slice none 0 0] 99 (0, 0)) := by rw [hwa]; exact heap_alloc_new w _
  obtain ⟨p, hp⟩ : ∃ p, p = w.heap.size := ⟨_, rfl⟩
  rw [← hp] at hblk
  have hlt := lt_blk hblk
  have hW : Wl w0 wa b m S d p (fun k => k = p) (.slice none 0 0) [] :=
    ⟨h.same hba, { blk := hblk, row := ⟨rfl, .inl ⟨rfl, rfl⟩⟩, pls := (by intro x hx; cases hx), apart := List.Pairwise.nil, tp := rfl, tr := (by intro g hg; cases hg), ts := (by intro x hx; cases hx), lt := (by intro k hk; rw [hk]; exact hlt), ne := (by intro x hx; cases hx), num := (by intro x hx; cases hx), len := (by intro x hx; cases hx), few := Nat.zero_le _ }, fun k hk => by rw [hk, hp]; exact h.below.size, fun k hk hS => by
      obtain ⟨sl, hd⟩ := h.dk
      have := hd.lt k hS
      rw [hk, hp] at this
      omega, ht⟩
  have hO := open_any hW hnm hu hf
  obtain ⟨E, hE⟩ : ∃ E, openP d = E := ⟨_, rfl⟩
  rw [hE] at hO
  rw [hE]
  have HS : Hid (StW w S (fun _ => False) wa S (fun k => k = p)) := ⟨Fr.of_below _ hba, fun k hk => hk.elim (fun e => .inl (.inl e)) (fun e => .inr (by rw [e, hp]; exact Nat.le_refl _))⟩
  clear h ht hnm hu hf hba hblk hlt hW hE
  go_enter Tryz.func16, Tryz.ntmps16
  go_wp2_with (fail)
  (try rw [← hp])
  (try rw [← hwa])
  clear hwa hp
  refine hO.mono ?_
  rintro e w1 ⟨rfl, hd⟩
  have HD : Hid (Opnd w0 w b m S E.2.1 E.2.2 p w1) := by
    obtain ⟨S', T', vs', q', h1, h2, h3⟩ := hd
    exact ⟨S', T', vs', q', h1, h2, HS.out.trans h3⟩
  clear hO hd
  obtain ⟨e1, he1⟩ : ∃ e1, E.1 = e1 := ⟨_, rfl⟩
  rw [he1]
  have HE1 : Hid (E.1 = e1) := he1
  clear he1
  by_cases hz : e1 = 0
  · subst hz
    go_wp2_with (fail)
    go_ret2
    exact ⟨p, by rw [HE1.out]; rfl, HD.out⟩
  · have q9 : ((e1 : Int) != 0) = true := by simp; omega
    have q8 : ((e1 : Int) == 0) = false := by simp; omega
    have HZ : Hid (e1 ≠ 0) := hz
    clear hz
    go_wp2_with (fail)
    go_ret2
    refine ⟨p, ?_, HD.out⟩
    rw [HE1.out, if_neg HZ.out]
    rfl
end Go.Proofs.YtkbmblmnhhlicaaGreatDoor
