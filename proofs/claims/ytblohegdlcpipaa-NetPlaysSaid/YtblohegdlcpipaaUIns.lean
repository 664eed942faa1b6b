/- A net: slices.Insert of one letter where there is room; walked. -/
import Derived.Test.YtblohegdlcpipaaUTake
import Derived.Lib.Overlaps
import Derived.Laws.Externs
set_option linter.unusedVariables false
set_option linter.unusedSimpArgs false
namespace Go.Proofs.Ytblohegdlcpipaa
open Go.RowKit

/-- Letters are copied within a row, or from one to another. -/
theorem copy_letters (w : World) (ty : TypeId) (g o dLen dCap : Nat) (a : Addr) (sLen sCap : Nat) (cur : Array Value) (cs : List Value) (hg : w.heap[g]? = some (.cells cur 57 (0, 0))) (hn : Nat.min sLen dLen * 3 = cs.length)
    (hsrc : ∀ (j : Nat) (v : Value), cs[j]? = some v → w.cell? (a.add j) = some v) (hfit : o + cs.length ≤ cur.size) (h1 : ∀ v ∈ cs, v.oneCell' = true) :
    (Builtin.copy_ #[50, 50] ty #[.slice (some ⟨g, o, none⟩) dLen dCap, .slice (some a) sLen sCap]).run Try.prog w = .ok (goInt (Nat.min sLen dLen)) (w.setRow g (cur.toList.take o ++ cs ++ cur.toList.drop (o + cs.length)).toArray) := by
  have hl := run_loadCells_list (P := Try.prog) w a cs hsrc
  have hst := run_storeCells_at Try.prog g o 57 cs 0 cur w hg (by simpa using hfit) h1
  obtain ⟨i0, hi, hz0, hz1, hz2⟩ := info_parts infoL
  simp [Builtin.copy_, run_underlying Try.underlying50, Builtin.lenOf, Builtin.firstCells, sizeOf, typeInfo, hi, hz1, hn, hl, hst]

theorem append_room1 {w : World} {g k c : Nat} {xs : List Lr} (h : OwnL w (.slice (some ⟨g, 0, none⟩) k c) xs) (hc : k + 1 ≤ c) (x : Lr) {ad : Addr} (hx : ∀ (j : Nat) (z : Value), x.cells[j]? = some z → w.cell? (ad.add j) = some z) (vc : Nat) (ty : TypeId) :
    ∃ vo w2, (Builtin.append_ #[50, 50] ty #[.slice (some ⟨g, 0, none⟩) k c, .slice (some ad) 1 vc]).run Try.prog w = .ok vo w2 ∧ DelL g (k + 1) c (xs ++ [x]) w vo w2 := by
  obtain ⟨i0, hz, hz0, hz1, hz2⟩ := info_parts infoL
  obtain ⟨h1, _⟩ := h.cap
  have hown : w.ownsRow 0 57 3 (.slice (some ⟨g, 0, none⟩) k c) k (flatL xs) := by
    have h' := h
    unfold OwnL at h'
    rwa [← h1] at h'
  obtain ⟨w2, hr, ho, hg⟩ := run_append_own_spare (P := Try.prog) w 0 50 ty 57 i0 3 Try.underlying50 hz hz1 g k c (flatL xs) hown ad 1 vc x.cells (by simp [Lr.cells]) hx
    (by intro z hz; exact flatL_one (xs := [x]) (by simp [flatL]; exact hz)) hc
  refine ⟨_, w2, hr, rfl, ?_, hg⟩
  show w2.ownsRow _ _ _ _ (xs ++ [x]).length _
  rw [List.length_append, flatL_append, ← h1]
  simpa [flatL] using ho

/-- A builtin append, or copy, that runs so, in a row of operations, and as a step. -/
theorem wpList_runs {w : World} {ops : Array Oper} {rest : List Oper} {o : Oper} {c : Act} {Q : Exit → Act → World → Prop} {t u : TypeId} (hgd : o.guard = none) (sl x : Operand)
    (ho : o.op = .call { callee := .builtin .append, args := #[sl, x], argTypes := #[t, u] }) (vs vx : Value) (hs : c.eval sl = vs) (hx : c.eval x = vx)
    (R : Value → World → Prop) (hr : ∃ vo w2, (Builtin.append_ #[t, u] o.type #[vs, vx]).run Try.prog w = .ok vo w2 ∧ R vo w2) (hk : ∀ vo w2, R vo w2 → wpList Try.prog ops Q rest (c.put o.dst vo) w2) :
    wpList Try.prog ops Q (o :: rest) c w := by
  refine wpList_plain hgd fun K hK => ?_
  obtain ⟨vo, w2, hr, h2⟩ := hr
  unfold Oper.wp execOp
  simp only [ho, resolve, invoke, builtin, Sem.run_bind, Sem.run_pure, Result.andThen_ok, List.map_toArray, List.map_cons, List.map_nil, hs, hx, hr]
  exact hK _ _ (hk vo w2 h2)
theorem wpList_copies {w : World} {ops : Array Oper} {rest : List Oper} {o : Oper} {c : Act} {Q : Exit → Act → World → Prop} {t u : TypeId} (hgd : o.guard = none) (sl x : Operand)
    (ho : o.op = .call { callee := .builtin .copy, args := #[sl, x], argTypes := #[t, u] }) (vs vx : Value) (hs : c.eval sl = vs) (hx : c.eval x = vx)
    (vo : Value) (w2 : World) (hr : (Builtin.copy_ #[t, u] o.type #[vs, vx]).run Try.prog w = .ok vo w2) (hk : wpList Try.prog ops Q rest (c.put o.dst vo) w2) :
    wpList Try.prog ops Q (o :: rest) c w := by
  refine wpList_plain hgd fun K hK => ?_
  unfold Oper.wp execOp
  simp only [ho, resolve, invoke, builtin, Sem.run_bind, Sem.run_pure, Result.andThen_ok, List.map_toArray, List.map_cons, List.map_nil, hs, hx, hr]
  exact hK _ _ hk
theorem stepC_copies {P : Program} {ops : Array Oper} {Q : Exit → Act → World → Prop} {w : World} {o : Oper} {c : Act} {K : Act → World → Prop} {E : Prop} {t u : TypeId}
    (hg : o.guard = none) (s x : Operand) (hop : o.op = Op.call { callee := Callee.builtin Builtin.copy, args := #[s, x], argTypes := #[t, u] }) (vs vx : Value) (hs : c.eval s = vs) (hx : c.eval x = vx)
    (vo : Value) (w2 : World) (hr : (Builtin.copy_ #[t, u] o.type #[vs, vx]).run P w = .ok vo w2) (hK : K (c.put o.dst vo) w2) :
    if Region.wanted o (yielded ops c.tmps) = true then Oper.wp P o c w K Q else E := by
  have hw : Region.wanted o (yielded ops c.tmps) = true := by simp [Region.wanted, hg]
  rw [if_pos hw]
  unfold Oper.wp
  simp [execOp, hop, resolve, invoke, builtin, hs, hx, hr, Result.andThen]
  exact hK

/-- A letter put into a row. -/
def insA3 (xs : List Lr) (i : Nat) (x : Lr) : List Lr := xs.take i ++ x :: xs.drop i
theorem insA3_end (xs : List Lr) (x : Lr) : insA3 xs xs.length x = xs ++ [x] := by simp [insA3]

set_option maxHeartbeats 4000000 in
set_option maxRecDepth 40000 in
theorem uins_end {w : World} {g k c vb : Nat} {xs : List Lr} (h : OwnL w (.slice (some ⟨g, 0, none⟩) k c) xs) (hc : k + 1 ≤ c) (hk : k ≤ 200) (x : Lr) (hv : w.heap[vb]? = some (.cells #[.int .i64 (x.f : Int), .int .i64 (x.t : Int), .slice x.a x.d.length x.c] 57 (0, 0))) :
    Calls Try.prog 29 #[.slice (some ⟨g, 0, none⟩) k c, .int .i64 (k : Int), .slice (some ⟨vb, 0, none⟩) 1 1] w fun e w' => e = .returned (.slice (some ⟨g, 0, none⟩) (k + 1) c) ∧ OwnL w' (.slice (some ⟨g, 0, none⟩) (k + 1) c) (insA3 xs k x) ∧ Fr (fun j => j = g) w w' := by
  have hl := h.cap.1
  have hAp := fun ty => append_room1 h hc x (ad := ⟨vb, 0, none⟩) (fun j z hz => by
      rw [Addr.add_lit, Nat.zero_add]
      exact cell_blk hv (by simpa [Lr.cells] using hz)) 1 ty
  rw [show insA3 xs k x = xs ++ [x] by rw [hl]; exact insA3_end xs x]
  have z1 : (Instr.slice 50 (.slice (some ⟨g, 0, none⟩) k c) (some (.int .i64 (k : Int))) none none).run Try.prog w = .ok (.slice (some (restP g c k)) (k - k) (c - k)) w := slice_from g k c k (Nat.le_refl _) (by omega) w
  have HAp : Hid (∀ ty, ∃ vo w2, (Builtin.append_ #[50, 50] ty #[.slice (some ⟨g, 0, none⟩) k c, .slice (some ⟨vb, 0, none⟩) 1 1]).run Try.prog w = .ok vo w2 ∧ DelL g (k + 1) c (xs ++ [x]) w vo w2) := hAp
  have bk : (k : Int) ≤ 200 := by omega
  clear h hc hk hv hl hAp
  go_enter Try.func29, Try.ntmps29
  go_wp2_with (at_builtin; refine wpList_runs rfl (.tmp 23) (.tmp 24) rfl _ _ rfl rfl _ (HAp.out _) ?_)
  intro vo w2 hA
  obtain ⟨hvo, hA1, hA2⟩ := hA
  subst hvo
  have HF : Hid (OwnL w2 (.slice (some ⟨g, 0, none⟩) (k + 1) c) (xs ++ [x]) ∧ Fr (fun j => j = g) w w2) := ⟨hA1, (Fr.refl _ w).grown hA2 (fun j hj => (Option.some.inj hj).symm)⟩
  clear hA1 hA2 HAp z1
  go_wp2
  go_ret
  exact ⟨rfl, HF.out⟩

theorem ov_letters (w : World) {g vb : Nat} {cg cv : Array Value} (hg : w.heap[g]? = some (.cells cg 57 (0, 0))) (hv : w.heap[vb]? = some (.cells cv 57 (0, 0))) (hne : vb ≠ g) (h0 : cg.size ≠ 0) (o lb cb : Nat) :
    (callFunc 35 #[.slice (some ⟨vb, 0, none⟩) 1 1, .slice (some ⟨g, o, none⟩) lb cb]).run Try.prog w = .ok (.value (.bool false)) w := by
  have hfn := (show _ ∧ _ from ⟨Try.func35, Try.ntmps35⟩).1
  rw [run_callFunc_extern hfn (by kernel_rfl) (by kernel_rfl) (by kernel_rfl) (e := Extern.SlicesOverlaps.overlaps #[50, 50] #[4]) (by kernel_rfl),
    Lib.run_overlaps_apart w 50 4 57 Try.underlying50 3 (fun w => by kernel_rfl) ⟨vb, 0, none⟩ ⟨g, o, none⟩ 1 1 lb cb hne 57 57 cv.size cg.size (by simp [World.shape?, hv]) (by simp [World.shape?, hg]) h0 (free_blk hv 0) (free_blk hv _)]
  rfl
end Go.Proofs.Ytblohegdlcpipaa
