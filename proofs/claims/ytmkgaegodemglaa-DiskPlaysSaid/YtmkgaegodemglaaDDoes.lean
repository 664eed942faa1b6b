/- does: a step on a disk and on the document's; walked. -/
import Derived.Test.YtmkgaegodemglaaDDoes1
import Derived.Test.YtmkgaegodemglaaDDoes2
import Derived.Test.YtmkgaegodemglaaDDoes3
import Derived.Test.YtmkgaegodemglaaDDoes4
import Derived.Test.YtmkgaegodemglaaDDoes5
import Derived.Test.YtmkgaegodemglaaDDoes6
import Derived.Test.YtmkgaegodemglaaDDoes7
import Derived.Test.YtmkgaegodemglaaDDoes8
import Derived.Test.YtmkgaegodemglaaDDoes9
set_option linter.unusedVariables false
namespace Go.Proofs.Ytmkgaegodemglaa
open Go.RowKit

theorem does_any {w0 w : World} {b m c : Nat} {S1 S2 : Nat → Prop} {d : Dk} (h : PrD w b m c S1 S2 d) (hb0 : Below w0.heap.size w0 w) (hS0 : ∀ k, S1 k ∨ S2 k → w0.heap.size ≤ k) (kind : Int) (hkd : -9223372036854775808 ≤ kind ∧ kind ≤ 9223372036854775807) (n tn : Nm) (hn : n.length ≤ 140737488355328) (hto : tn.length ≤ 140737488355328) (ba : Option Addr) (bl0 bc : Nat) (l0 : List UInt8) (hr : BRow w0 ba bl0 bc l0) (hbc : bl0 ≤ bc) (hbl : bl0 ≤ 140737488355328) (k : Int) (hk : -9223372036854775808 ≤ k ∧ k ≤ 9223372036854775807) (keep : Nat) (hkp : keep < 18446744073709551616)
    (hus : usedL d.files + 3000 ≤ 1099511627776) (hfw : d.files.length + 1 ≤ 1048576) :
    Calls Try.prog 12 #[dptr b, dptr c, .agg #[.int .i64 kind, strN n, strN tn, .slice ba bl0 bc, .int .i64 k, .int .u64 (keep : Int)]] w fun e w' => e = .returned (.bool true) ∧ BothD w b m c S1 S2 (stepD d kind n tn (l0.take 3000) k keep) w' := by
  by_cases k1 : kind = 1
  · subst k1
    exact does1_any h hb0 hS0 n tn hn hto ba bl0 bc l0 hr hbc hbl k hk keep hkp hus hfw
  by_cases k2 : kind = 2
  · subst k2
    exact does2_any h hb0 hS0 n tn hn hto ba bl0 bc l0 hr hbc hbl k hk keep hkp hus hfw
  by_cases k3 : kind = 3
  · subst k3
    exact does3_any h hb0 hS0 n tn hn hto ba bl0 bc l0 hr hbc hbl k hk keep hkp hus hfw
  by_cases k4 : kind = 4
  · subst k4
    exact does4_any h hb0 hS0 n tn hn hto ba bl0 bc l0 hr hbc hbl k hk keep hkp hus hfw
  by_cases k5 : kind = 5
  · subst k5
    exact does5_any h hb0 hS0 n tn hn hto ba bl0 bc l0 hr hbc hbl k hk keep hkp hus hfw
  by_cases k6 : kind = 6
  · subst k6
    exact does6_any h hb0 hS0 n tn hn hto ba bl0 bc l0 hr hbc hbl k hk keep hkp hus hfw
  by_cases k7 : kind = 7
  · subst k7
    exact does7_any h hb0 hS0 n tn hn hto ba bl0 bc l0 hr hbc hbl k hk keep hkp hus hfw
  by_cases k8 : kind = 8
  · subst k8
    exact does8_any h hb0 hS0 n tn hn hto ba bl0 bc l0 hr hbc hbl k hk keep hkp hus hfw
  exact does9_any h hb0 hS0 kind k1 k2 k3 k4 k5 k6 k7 k8 n tn hn hto ba bl0 bc l0 hr hbc hbl k hk keep hkp hus hfw
end Go.Proofs.Ytmkgaegodemglaa
