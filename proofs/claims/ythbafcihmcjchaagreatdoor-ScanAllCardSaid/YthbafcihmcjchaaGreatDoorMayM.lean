/- Whether a geometry may be. -/
import Derived.WalkKit
namespace Go.Proofs.YthbafcihmcjchaaGreatDoor.MayM
def may (n z : Int) : Bool := decide (6 ≤ n ∧ n ≤ 64 ∧ 512 ≤ z ∧ z ≤ 4096)
theorem may_ways {n z : Int} (h : may n z = false) : n < 6 ∨ (6 ≤ n ∧ 64 < n) ∨ (6 ≤ n ∧ n ≤ 64 ∧ z < 512) ∨ (6 ≤ n ∧ n ≤ 64 ∧ 512 ≤ z ∧ 4096 < z) := by
  unfold may at h
  rw [decide_eq_false_iff_not] at h
  omega
theorem may_yes {n z : Int} (h : may n z = true) : 6 ≤ n ∧ n ≤ 64 ∧ 512 ≤ z ∧ z ≤ 4096 := by
  unfold may at h
  rwa [decide_eq_true_eq] at h
end Go.Proofs.YthbafcihmcjchaaGreatDoor.MayM
