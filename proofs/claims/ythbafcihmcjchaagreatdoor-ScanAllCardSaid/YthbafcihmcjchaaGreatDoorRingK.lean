/- What counts among found items, as plain mathematics; that the order changes nothing of it. -/
import Derived.Test.YthbafcihmcjchaaGreatDoorRingC
namespace Go.Proofs.YthbafcihmcjchaaGreatDoor.RingK
set_option linter.unusedVariables false
open Go.RowKit
open Go.Proofs.YthbafcihmcjchaaGreatDoor.RingM Go.Proofs.YthbafcihmcjchaaGreatDoor.RingN

/-- A found item. -/
structure Fnd where
  re : Nat
  im : Nat
  size : Int
  settled : Bool
  item : It
/-- Are two places the same, as Go compares them? -/
def ceq (a b c d : Nat) : Bool := FloatKind.f64.format.order a c == some .eq && FloatKind.f64.format.order b d == some .eq
def inRing (s : Int) (x : Fnd) : Bool := decide (x.item.seq = s)
def inAt (s i : Int) (x : Fnd) : Bool := decide (x.item.seq = s ∧ x.item.index = i)
/-- Is the ring of this number whole? -/
def Whole (L : List Fnd) (s : Int) : Prop :=
  (∀ x ∈ L, x.item.seq = s → x.item.count = L.countP (inRing s)) ∧
  (∀ i : Nat, i < L.countP (inRing s) → L.countP (inAt s i) = 1) ∧
  (∀ x ∈ L, ∀ y ∈ L, x.item.seq = s → y.item.seq = s → y.item.index = (x.item.index + 1) % (L.countP (inRing s) : Int) → ceq x.item.re x.item.im y.re y.im = true)
open Classical in
noncomputable def wholeB (L : List Fnd) (s : Int) : Bool := decide (Whole L s)
noncomputable def cnt (L : List Fnd) (x : Fnd) : Bool := x.settled || wholeB L x.item.seq
theorem Whole.perm {L M : List Fnd} (hm : ∀ x, x ∈ L ↔ x ∈ M) (hc : ∀ p : Fnd → Bool, L.countP p = M.countP p) (s : Int) : Whole L s ↔ Whole M s := by
  unfold Whole
  simp only [hm, hc]
theorem wholeB_turn (L : List Fnd) (k : Nat) (s : Int) : wholeB (L.drop k ++ L.take k) s = wholeB L s := by
  unfold wholeB
  have h : Whole (L.drop k ++ L.take k) s ↔ Whole L s := by
    refine Whole.perm (fun x => ?_) (fun p => ?_) s
    · rw [List.mem_append]
      conv => rhs; rw [← List.take_append_drop k L, List.mem_append]
      exact Or.comm
    · rw [List.countP_append]
      conv => rhs; rw [← List.take_append_drop k L, List.countP_append]
      omega
  rw [Bool.eq_iff_iff]
  simp only [decide_eq_true_eq]
  exact h
theorem cnt_turn (L : List Fnd) (k : Nat) (x : Fnd) : cnt (L.drop k ++ L.take k) x = cnt L x := by
  unfold cnt
  rw [wholeB_turn]
end Go.Proofs.YthbafcihmcjchaaGreatDoor.RingK
