/- Two nets and the document's own two: apart; any step on one of them. -/
import Derived.Test.YtblohegdlcpipaaUDoes1
import Derived.Test.YtblohegdlcpipaaUDoes2
import Derived.Test.YtblohegdlcpipaaUDoes3
import Derived.Test.YtblohegdlcpipaaUDoes4
import Derived.Test.YtblohegdlcpipaaUDoes5
import Derived.Test.YtblohegdlcpipaaUDoes6
import Derived.Test.YtblohegdlcpipaaUDoes7
set_option linter.unusedVariables false
set_option linter.unusedSimpArgs false
namespace Go.Proofs.Ytblohegdlcpipaa
open Go.RowKit

theorem udoes_any {w0 w : World} {bn br sd : Nat} {vn vr : Value} {ls : List L3} (h : Pr w0 w bn vn br vr sd ls) (kind A B : Int) (S : Nat) (hS : S < 18446744073709551616) {da : Option Addr} {dn dc : Nat} {l0 : List UInt8} (hd : BRow w0 da dn dc l0) (hdc : dn ≤ dc) (hdn : dn ≤ 140737488355328) :
    Calls Try.prog 9 #[nptr bn, nptr br, .agg #[.int .i64 kind, .int .i64 A, .int .i64 B, .slice da dn dc, .int .u64 (S : Int)]] w fun e w' => e = .returned (.bool true) ∧ PrGo w0 w bn vn br vr w' := by
  by_cases k1 : kind = 1
  · exact udoes1 h kind A B k1 S hS hd hdc hdn
  by_cases k2 : kind = 2
  · exact udoes2 h kind A B k2 S hS hd hdc hdn
  by_cases k3 : kind = 3
  · exact udoes3 h kind A B k3 S hS hd hdc hdn
  by_cases k4 : kind = 4
  · exact udoes4 h kind A B k4 S hS hd hdc hdn
  by_cases k5 : kind = 5
  · exact udoes5 h kind A B k5 S hS hd hdc hdn
  by_cases k6 : kind = 6
  · exact udoes6 h kind A B k6 S hS hd hdc hdn
  · exact udoes7 h kind A B ⟨k1, k2, k3, k4, k5, k6⟩ S hS hd hdc hdn

/-- The blocks of a pair. -/
def PB (bn : Nat) (vn : Value) (br : Nat) (vr : Value) (k : Nat) : Prop := NetB bn vn k ∨ NetB br vr k
theorem Pr.lt {w0 w : World} {bn br sd : Nat} {vn vr : Value} {ls : List L3} (h : Pr w0 w bn vn br vr sd ls) {k : Nat} (hk : PB bn vn br vr k) : k < w.heap.size := by
  rcases hk with hk | hk
  · obtain ⟨xs, hx, _⟩ := h.net
    exact NetB.lt hx hk
  · rcases hk with rfl | hk
    · exact lt_blk h.ref.blk
    · obtain ⟨_, cur, hc⟩ := h.ref.row.block hk
      exact lt_blk hc
theorem Pr.u8 {w0 w : World} {bn br sd : Nat} {vn vr : Value} {ls : List L3} (h : Pr w0 w bn vn br vr sd ls) {g : Nat} {cur : Array Value} (hg : w.heap[g]? = some (.cells cur 5 (0, 0))) : ¬ PB bn vn br vr g := by
  rintro (hk | hk)
  · obtain ⟨xs, hx, _⟩ := h.net
    exact hx.u8 hg hk
  · rcases hk with rfl | hk
    · exact type_ne hg h.ref.blk (by decide) rfl
    · obtain ⟨_, c2, hc⟩ := h.ref.row.block hk
      exact type_ne hg hc (by decide) rfl
/-- One pair stays while the other goes on. -/
theorem Pr.apart {w0 w w' : World} {a x b y s1 s2 : Nat} {va vx vb vy : Value} {l1 l2 : List L3} (h1 : Pr w0 w a va x vx s1 l1) (h2 : Pr w0 w b vb y vy s2 l2) (hap : ∀ k, PB a va x vx k → ¬ PB b vb y vy k) (hf : Fr (PB a va x vx) w w') : Pr w0 w' b vb y vy s2 l2 := by
  obtain ⟨xs, hx, hm⟩ := h2.net
  refine ⟨⟨xs, hx.fr hf (fun e => hap _ e (Or.inl (Or.inl rfl))) (fun g hg e => hap _ e (Or.inl (Or.inr hg))) (fun g cur hg => h1.u8 hg), hm⟩, h2.ref.keep (hf.block _ (lt_blk h2.ref.blk) (fun e => hap _ e (Or.inr (Or.inl rfl)))) (fun g hg => ?_), h1.bel.trans (hf.below (fun k hk => ?_) h1.sz), h2.bn, h2.br, h2.ln, h2.lr⟩
  · obtain ⟨_, cur, hc⟩ := h2.ref.row.block hg
    exact hf.block _ (lt_blk hc) (fun e => hap _ e (Or.inr (Or.inr hg)))
  · rcases hk with (rfl | hk) | (rfl | hk)
    · exact h1.bn
    · exact h1.ln k hk
    · exact h1.br
    · exact h1.lr k hk

/-- Two pairs. -/
structure Nt2 (w0 w : World) (a : Nat) (va : Value) (x : Nat) (vx : Value) (s1 : Nat) (l1 : List L3) (b : Nat) (vb : Value) (y : Nat) (vy : Value) (s2 : Nat) (l2 : List L3) : Prop where
  one : Pr w0 w a va x vx s1 l1
  two : Pr w0 w b vb y vy s2 l2
  ap : ∀ k, PB a va x vx k → ¬ PB b vb y vy k
def Nts (w0 w : World) (a x b y : Nat) : Prop := ∃ va vx s1 l1 vb vy s2 l2, Nt2 w0 w a va x vx s1 l1 b vb y vy s2 l2
theorem Nt2.below {w0 w w' : World} {a x b y s1 s2 : Nat} {va vx vb vy : Value} {l1 l2 : List L3} (h : Nt2 w0 w a va x vx s1 l1 b vb y vy s2 l2) (hb : Below w.heap.size w w') : Nt2 w0 w' a va x vx s1 l1 b vb y vy s2 l2 := ⟨h.one.below hb, h.two.below hb, h.ap⟩
theorem Nt2.go1 {w0 w w' : World} {a x b y s1 s2 : Nat} {va vx vb vy : Value} {l1 l2 : List L3} (h : Nt2 w0 w a va x vx s1 l1 b vb y vy s2 l2) (hg : PrGo w0 w a va x vx w') : Nts w0 w' a x b y := by
  obtain ⟨va', vx', s', l', g1, g2, g3, g4⟩ := hg
  refine ⟨va', vx', s', l', vb, vy, s2, l2, g1, h.one.apart h.two h.ap g2, fun k hk hk2 => ?_⟩
  have hlt := h.two.lt hk2
  have old : PB a va x vx k ∨ w.heap.size ≤ k := by
    rcases hk with (e | e) | (e | e)
    · exact Or.inl (Or.inl (Or.inl e))
    · exact (g3 k e).imp (fun q => Or.inl (Or.inr q)) id
    · exact Or.inl (Or.inr (Or.inl e))
    · exact (g4 k e).imp (fun q => Or.inr (Or.inr q)) id
  rcases old with o | o
  · exact h.ap k o hk2
  · omega
theorem Nt2.go2 {w0 w w' : World} {a x b y s1 s2 : Nat} {va vx vb vy : Value} {l1 l2 : List L3} (h : Nt2 w0 w a va x vx s1 l1 b vb y vy s2 l2) (hg : PrGo w0 w b vb y vy w') : Nts w0 w' a x b y := by
  obtain ⟨vb', vy', s', l', g1, g2, g3, g4⟩ := hg
  refine ⟨va, vx, s1, l1, vb', vy', s', l', h.two.apart h.one (fun k h1 h2 => h.ap k h2 h1) g2, g1, fun k hk hk2 => ?_⟩
  have hlt := h.one.lt hk
  have old : PB b vb y vy k ∨ w.heap.size ≤ k := by
    rcases hk2 with (e | e) | (e | e)
    · exact Or.inl (Or.inl (Or.inl e))
    · exact (g3 k e).imp (fun q => Or.inl (Or.inr q)) id
    · exact Or.inl (Or.inr (Or.inl e))
    · exact (g4 k e).imp (fun q => Or.inr (Or.inr q)) id
  rcases old with o | o
  · exact h.ap k hk o
  · omega
theorem NetC.short {w : World} {b : Nat} {v : Value} {sd : Nat} {ls : List L3} (h : NetC w b v sd ls) {y : L3} (hy : y ∈ ls) : y.2.2.length ≤ 1000 := by
  obtain ⟨xs, hx, rfl⟩ := h
  obtain ⟨x, hxm, rfl⟩ := List.mem_map.1 hy
  exact hx.short x hxm
theorem new2_any {w : World} : Calls Try.prog 8 #[] w fun e w' => ∃ a, e = .returned (nptr a) ∧ NetC w' a (.slice none 0 0) 0 [] ∧ w.heap.size ≤ a ∧ a < w'.heap.size ∧ Below w.heap.size w w' := by
  refine (unew_any w).mono ?_
  rintro e w' ⟨rfl, h, hb⟩
  exact ⟨w.heap.size, rfl, ⟨[], h, rfl⟩, Nat.le_refl _, lt_blk h.blk, hb⟩
theorem ulenc_any {w : World} {b : Nat} {v : Value} {sd : Nat} {ls : List L3} (h : NetC w b v sd ls) : Calls Try.prog 10 #[nptr b] w fun e w' => e = .returned (.int .i64 (ls.length : Int)) ∧ w' = w := by
  obtain ⟨xs, hx, rfl⟩ := h
  rw [List.length_map]
  exact ulen_any hx
/-- A step that was handed in. -/
structure OpM (w : World) (bb o : Nat) (kind A B : Int) (da : Option Addr) (dn dc : Nat) (S : Nat) (l : List UInt8) : Prop where
  c0 : w.cell? ⟨bb, o, none⟩ = some (.int .i64 kind)
  c1 : w.cell? ⟨bb, o + 1, none⟩ = some (.int .i64 A)
  c2 : w.cell? ⟨bb, o + 2, none⟩ = some (.int .i64 B)
  c3 : w.cell? ⟨bb, o + 3, none⟩ = some (.slice da dn dc)
  c4 : w.cell? ⟨bb, o + 4, none⟩ = some (.int .u64 (S : Int))
  row : BRow w da dn dc l
  cap : dn ≤ dc
  len : dn ≤ 140737488355328
  side : S < 18446744073709551616
/-- The worlds of two pairs. -/
def NtV (w : World) (a : Nat) (va : Value) (x : Nat) (vx : Value) (s1 : Nat) (l1 : List L3) (b : Nat) (vb : Value) (y : Nat) (vy : Value) (s2 : Nat) (l2 : List L3) : Type := { u : World // Nt2 w u a va x vx s1 l1 b vb y vy s2 l2 }
def NtV.wo {w : World} {a : Nat} {va : Value} {x : Nat} {vx : Value} {s1 : Nat} {l1 : List L3} {b : Nat} {vb : Value} {y : Nat} {vy : Value} {s2 : Nat} {l2 : List L3} (u : NtV w a va x vx s1 l1 b vb y vy s2 l2) : World := u.1
theorem NtV.is {w : World} {a : Nat} {va : Value} {x : Nat} {vx : Value} {s1 : Nat} {l1 : List L3} {b : Nat} {vb : Value} {y : Nat} {vy : Value} {s2 : Nat} {l2 : List L3} (u : NtV w a va x vx s1 l1 b vb y vy s2 l2) : Nt2 w u.wo a va x vx s1 l1 b vb y vy s2 l2 := u.2
theorem NtV.of {w : World} {a : Nat} {va : Value} {x : Nat} {vx : Value} {s1 : Nat} {l1 : List L3} {b : Nat} {vb : Value} {y : Nat} {vy : Value} {s2 : Nat} {l2 : List L3} {u : World} (h : Nt2 w u a va x vx s1 l1 b vb y vy s2 l2) : ∃ u' : NtV w a va x vx s1 l1 b vb y vy s2 l2, u = u'.wo := ⟨⟨u, h⟩, rfl⟩
theorem NtV.some {w : World} {a : Nat} {va : Value} {x : Nat} {vx : Value} {s1 : Nat} {l1 : List L3} {b : Nat} {vb : Value} {y : Nat} {vy : Value} {s2 : Nat} {l2 : List L3} {u : World} (h : Nt2 w u a va x vx s1 l1 b vb y vy s2 l2) : Nonempty (NtV w a va x vx s1 l1 b vb y vy s2 l2) := ⟨⟨u, h⟩⟩
theorem region_classN {P : Program} {id : Nat} {Q : Exit → Act → World → Prop} {a : Act} {w : World} {l : List Oper} (C : World → Prop) (hm : P.follows .mixedOrders = true) (hB : Region.lexB .any l.toArray = true) (hC : C w.drew)
    (h : wpQuiet P l.toArray C (fun a' => ∀ w', C w' → Q .normal a' w') l a) : (Code.region id l.toArray true).wp P Q a w :=
  wp_region_quiet (C := C) hm hB hC (by simpa using h)
theorem pstepG_call {P : Program} {w : World} {ops : Array Oper} {o : Oper} {c : Act} {K : Act → World → Prop} {Q : Exit → Act → World → Prop} {E : Prop} {R : Ending → World → Prop}
    (hw : Region.wanted o (yielded ops c.tmps) = true) (f : FuncId) (args : Array Value) (hrun : (execOp c.eval o).run P w = .ok (.enter f args) w) (hc : Calls P f args w R)
    (hR : ∀ e w', R e w' → ∃ v, e = .returned v) (hK : ∀ v w', R (.returned v) w' → K (c.put o.dst v) w') :
    if Region.wanted o (yielded ops c.tmps) = true then Oper.wp P o c w K Q else E := by
  rw [if_pos hw]
  unfold Oper.wp
  rw [hrun, Oper.upon_enter]
  refine hc.mono fun e w' h => ?_
  obtain ⟨v, rfl⟩ := hR e w' h
  exact hK v w' h
end Go.Proofs.Ytblohegdlcpipaa
