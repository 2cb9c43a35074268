/- The mathematics of layer 5: a geometry's head, what a sector's bytes are, what a cut act leaves of a head. -/
import Derived.Test.YthbafcihmcjchaaGreatDoorSumM
import Derived.Test.YthbafcihmcjchaaGreatDoorPackM
import Derived.Test.YthbafcihmcjchaaGreatDoorMayM
namespace Go.Proofs.YthbafcihmcjchaaGreatDoor.HeadM
open Go.RowKit
open Go.Proofs.YthbafcihmcjchaaGreatDoor.Byte Go.Proofs.YthbafcihmcjchaaGreatDoor.PackM Go.Proofs.YthbafcihmcjchaaGreatDoor.MayM

/-- The four letters, and behind them both numbers. -/
def body (n z : Int) : List Int := ([84, 120, 78, 82] ++ low 2 n) ++ low 2 z
/-- A geometry's head. -/
def hd (n z : Int) : List Int := if may n z then [84, 120, 78, 82] ++ low 4 (SumM.sum (body n z)) else List.replicate 8 0
theorem hd_yes {n z : Int} (h : may n z = true) : hd n z = [84, 120, 78, 82] ++ low 4 (SumM.sum (body n z)) := by unfold hd; rw [h]; rfl
theorem hd_no {n z : Int} (h : may n z = false) : hd n z = List.replicate 8 0 := by unfold hd; rw [h]; rfl
theorem hd_len (n z : Int) : (hd n z).length = 8 := by
  unfold hd
  split
  · rw [List.length_append, low_len]
    rfl
  · simp
theorem hd_bd (n z : Int) : ∀ x ∈ hd n z, 0 ≤ x ∧ x ≤ 255 := by
  unfold hd
  split
  · intro x hx
    rcases List.mem_append.1 hx with h | h
    · simp at h
      omega
    · exact low_bd _ _ x h
  · intro x hx
    rw [List.eq_of_mem_replicate hx]
    omega
theorem body_bd (n z : Int) : ∀ x ∈ body n z, 0 ≤ x ∧ x ≤ 255 := by
  unfold body
  intro x hx
  rcases List.mem_append.1 hx with h | h
  · rcases List.mem_append.1 h with h | h
    · simp at h
      omega
    · exact low_bd _ _ x h
  · exact low_bd _ _ x h
/-- What a sector's bytes are: 0 blank, 1 live, 2 dirty. -/
def cls (n z : Int) (xs : List Int) : Int :=
  if may n z = false ∨ (xs.length : Int) ≠ z then 2 else if xs.take 8 = hd n z then 1 else if xs.all (· == 255) then 0 else 2
/-- Bytes, and 255 behind, of a size. -/
def sec (z : Nat) (xs : List Int) : List Int := xs.take z ++ List.replicate (z - xs.length) 255
theorem sec_len (z : Nat) (xs : List Int) : (sec z xs).length = z := by
  unfold sec
  rw [List.length_append, List.length_take, List.length_replicate]
  omega
theorem sec_bd {z : Nat} {xs : List Int} (h : ∀ x ∈ xs, 0 ≤ x ∧ x ≤ 255) : ∀ x ∈ sec z xs, 0 ≤ x ∧ x ≤ 255 := fun x hx => by
  unfold sec at hx
  rcases List.mem_append.1 hx with h' | h'
  · exact h x (List.mem_of_mem_take h')
  · rw [List.eq_of_mem_replicate h']
    omega
theorem take4 {n z : Int} (h : may n z = true) : (hd n z).take 4 = [84, 120, 78, 82] := by
  rw [hd_yes h]
  rfl
theorem head0 {n z : Int} (h : may n z = true) : (hd n z).getD 0 0 = 84 := by
  rw [hd_yes h]
  rfl
theorem cls_sec {n : Int} {z : Nat} (hm : may n z = true) (xs : List Int) (hx : xs.length ≤ z) (h8 : xs.length = 8) : cls n z (sec z xs) = 1 ↔ xs = hd n z := by
  have hz := may_yes hm
  unfold cls
  rw [if_neg (by rw [sec_len]; simp [hm])]
  have e : (sec z xs).take 8 = xs := by
    unfold sec
    rw [List.take_of_length_le hx, List.take_append_of_le_length (by omega), List.take_of_length_le (by omega)]
  rw [e]
  constructor
  · intro h
    by_cases h1 : xs = hd n z
    · exact h1
    · rw [if_neg h1] at h
      split at h <;> cases h
  · intro h
    rw [if_pos h]
end Go.Proofs.YthbafcihmcjchaaGreatDoor.HeadM
