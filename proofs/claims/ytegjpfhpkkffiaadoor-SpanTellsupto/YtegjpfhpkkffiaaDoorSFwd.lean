/- The calls of package span, told from one start on. -/
import Derived.Test.YtegjpfhpkkffiaaDoorSShown
set_option linter.unusedVariables false
namespace Go.Proofs.YtegjpfhpkkffiaaDoor
open Go.RowKit

/-- A world behind some calls. -/
def Fwd (w0 w : World) : Prop := ML w ∧ Below w0.heap.size w0 w
theorem Fwd.start {w : World} (h : ML w) : Fwd w w := ⟨h, Below.refl _ _⟩
theorem Fwd.below {w0 w w' : World} (h : Fwd w0 w) (hb : Below w.heap.size w w') : Fwd w0 w' := ⟨h.1.go hb, h.2.trans (hb.mono h.2.size)⟩
theorem Fwd.drewN {w0 w : World} (h : Fwd w0 w) (n : Nat) : Fwd w0 (w.drewN n) := ⟨h.1, below_drewN h.2 n⟩

theorem fwd_below {f : Nat} {args : Array Value} {v : Value} (hc : ∀ w, ML w → Calls Tryd.prog f args w fun e w' => e = .returned v ∧ Below w.heap.size w w') :
    ∀ w0 w, Fwd w0 w → Calls Tryd.prog f args w fun e w' => e = .returned v ∧ Fwd w0 w' := fun w0 w h => (hc w h.1).mono fun e w' ⟨he, hb⟩ => ⟨he, h.below hb⟩
theorem fwd_drew {f : Nat} {args : Array Value} {v : Value} (hc : ∀ w, ML w → Calls Tryd.prog f args w fun e w' => e = .returned v ∧ ∃ n, w' = w.drewN n) :
    ∀ w0 w, Fwd w0 w → Calls Tryd.prog f args w fun e w' => e = .returned v ∧ Fwd w0 w' := fun w0 w h => (hc w h.1).mono fun e w' ⟨he, n, hw⟩ => ⟨he, hw ▸ h.drewN n⟩
theorem fwd_same {f : Nat} {args : Array Value} {v : Value} (hc : ∀ w, Calls Tryd.prog f args w fun e w' => e = .returned v ∧ w' = w) :
    ∀ w0 w, Fwd w0 w → Calls Tryd.prog f args w fun e w' => e = .returned v ∧ Fwd w0 w' := fun w0 w h => (hc w).mono fun e w' ⟨he, hw⟩ => ⟨he, hw ▸ h⟩

/-- A call that answers, from any world behind the start. -/
def Ans (w0 : World) (f : Nat) (args : Array Value) (v : Value) : Prop := ∀ w, Fwd w0 w → Calls Tryd.prog f args w fun e w' => e = .returned v ∧ Fwd w0 w'

theorem ans_shown (w0 : World) : Ans w0 9 #[] (.bool true) := fwd_below shown_any w0
theorem ans_code (w0 : World) {s : ByteArray} (hs : s.size < 4294967281) {o : Option (List UInt8 × Nat)} (h : codeL s.data.toList = o) : Ans w0 10 #[.string s] (codeV o) := by
  subst h; exact fwd_below (fun w hm => code_any s hs w hm) w0
theorem ans_auto (w0 : World) {s : ByteArray} (hs : s.size < 4294967281) {o : Option (List UInt8 × List UInt8 × Nat)} (h : autoL s.data.toList = o) : Ans w0 12 #[.string s] (autoV o) := by
  subst h; exact fwd_below (fun w hm => auto_any s hs w hm) w0
theorem ans_tag (w0 : World) {s : ByteArray} (hs : s.size ≤ 9223372036854775000) {n : Nat} (h : tagN s.data.toList = n) : Ans w0 14 #[.string s] (.int .i64 (n : Int)) := by
  subst h; exact fwd_drew (fun w _ => tag_any s hs w) w0
theorem ans_raw (w0 : World) {s : ByteArray} (hs : s.size < 4294967281) {n : Nat} (h : rawN s.data.toList = n) : Ans w0 16 #[.string s] (.int .i64 (n : Int)) := by
  subst h; exact fwd_drew (fun w hm => raw_any s hs w hm) w0

/-- Raw of a tag: no search. -/
theorem search_tag {s : ByteArray} (h : 0 < tagN s.data.toList) : Search s := by
  have hn : ∀ c, [60, c].isPrefixOf s.data.toList = true → c ≠ 47 → letterB c = false → False := fun c h1 h2 h3 => by
    have := pre_tag h1 h2 h3
    omega
  refine ⟨fun h1 => ?_, fun h1 => ?_, fun h1 => ?_⟩
  · exact (hn 33 (pre_mono (p := [60, 33]) (q := [45, 45]) h1) (by decide) (by decide)).elim
  · exact (hn 63 h1 (by decide) (by decide)).elim
  · exact (hn 33 (pre_mono (p := [60, 33]) (q := [91, 67, 68, 65, 84, 65, 91]) h1) (by decide) (by decide)).elim
theorem ans_rawtag (w0 : World) {s : ByteArray} (hs : s.size ≤ 9223372036854775000) {n : Nat} (h0 : 0 < n) (h : tagN s.data.toList = n) : Ans w0 16 #[.string s] (.int .i64 (n : Int)) := by
  subst h
  have := fwd_drew (fun w hm => raw_of s hs (search_tag h0) w hm) w0
  rw [rawN_tag h0] at this
  exact this

theorem ext_to (s : ByteArray) (n : Nat) : (s.extract 0 n).data.toList = s.data.toList.take n := by
  rw [extract_eq]; simp
theorem app_data (a b : ByteArray) : (a ++ b).data.toList = a.data.toList ++ b.data.toList := by simp

end Go.Proofs.YtegjpfhpkkffiaaDoor
