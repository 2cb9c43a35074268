/- The walk of layer 7's law RingSize. -/
import Derived.Test.YthmcakaboebagaaRingT
import Derived.Test.YthmcakaboebagaaRingR
namespace Go.Proofs.Ythmcakaboebagaa.RingH
set_option linter.unusedVariables false
set_option linter.unusedSimpArgs false
open Go.RowKit
open Go.Proofs.Ythmcakaboebagaa.RingM Go.Proofs.Ythmcakaboebagaa.RingC Go.Proofs.Ythmcakaboebagaa.RingE Go.Proofs.Ythmcakaboebagaa.RingT Go.Proofs.Ythmcakaboebagaa.RingR Go.Proofs.Ythmcakaboebagaa.Own
set_option maxRecDepth 100000 in
set_option maxHeartbeats 1000000 in
theorem size_law (a b : ByteArray) (w : World) (ha : a.size ≤ maxLen) (hb : b.size ≤ maxLen) :
    Calls Try.prog 3 #[.string a, .string b] w fun e w' => e = .returned (.bool true) ∧ Below w.heap.size w w' := by
  have S := Lib.hid (fun w => size_calls a b w ha hb)
  have R := Lib.hid (fun w => refsize_calls a b w ha hb)
  have X := Lib.hid fixed_calls
  generalize size a.size b.size = r at S R
  go_enter Try.func3, Try.ntmps3
  go_wp2_with (first
    | (go_at_call 7; refine (X.out _).mono ?_; rintro e w1 ⟨rfl, hb1⟩; have HB := Lib.hid hb1; clear hb1)
    | (go_at_call 8; refine (S.out _).mono ?_; rintro e w' ⟨rfl, rfl⟩)
    | (go_at_call 9; refine (R.out _).mono ?_; rintro e w' ⟨rfl, rfl⟩))
  go_ret
  exact ⟨rfl, HB.out⟩
end Go.Proofs.Ythmcakaboebagaa.RingH
