/- The contract of the document's 'bits'. -/
import Derived.Test.YthbafcihmcjchaaGreatDoorNorW
import Derived.Test.YthbafcihmcjchaaGreatDoorNorM
namespace Go.Proofs.YthbafcihmcjchaaGreatDoor.NorB
set_option linter.unusedVariables false
set_option linter.unusedSimpArgs false
open Go.RowKit
open Go.Proofs.YthbafcihmcjchaaGreatDoor.NorM

theorem quo_nat (x j : Nat) : (x : Int) / ((2 ^ j : Nat) : Int) % 2 = ((x / 2 ^ j % 2 : Nat) : Int) := by
  norm_cast
theorem quo_bit (x j : Nat) : (((x : Int) / ((2 ^ j : Nat) : Int) % 2) == 1) = bit x j := by
  rw [quo_nat]
  unfold bit
  generalize x / 2 ^ j % 2 = q
  rw [Bool.eq_iff_iff, beq_iff_eq, beq_iff_eq]
  omega
theorem pow_le7 {j : Nat} (h : j < 8) : 2 ^ j ≤ 128 := Nat.le_trans (Nat.pow_le_pow_right (by omega) (show j ≤ 7 by omega)) (by decide)
theorem bsum_le (B : Nat → Bool) {j : Nat} (h : j < 8) : bsum B j + 2 ^ j ≤ 255 := by
  have h1 := bsum_lt B j
  have h2 : 2 ^ j + 2 ^ j ≤ 256 := by
    have e : 2 ^ (j + 1) = 2 ^ j + 2 ^ j := by rw [Nat.pow_succ]; omega
    rw [← e]
    exact Nat.le_trans (Nat.pow_le_pow_right (by omega) (show j + 1 ≤ 8 by omega)) (by decide)
  omega

set_option maxHeartbeats 1000000 in
theorem bits_nat (old other mask : Nat) (down : Bool) (w : World) (h0 : old < 256) (h1 : other < 256) (h2 : mask < 256) :
    Calls Tryz.prog 57 #[.int .u8 old, .int .u8 other, .int .u8 mask, .bool down] w fun e w' => e = .returned (.int .u8 (btN old other mask down : Nat)) ∧ w = w' := by
  go_enter Tryz.func57, Tryz.ntmps57
  go_wp2_with fail
  go_loop [9, 10, 11] (fun out p i => ∃ j : Nat, j ≤ 8 ∧ i = .int .i64 j ∧ out = .int .u8 (bsum (bB old other mask down) j : Nat) ∧ (j < 8 → p = .int .u8 (2 ^ j : Nat))) (fun _ _ i => 8 - (intOf i).toNat)
  case atStart => exact ⟨0, by omega, rfl, rfl, fun _ => rfl⟩
  case round =>
    obtain ⟨j, hj, rfl, rfl, hp⟩ := hrel
    by_cases hlt : j < 8
    · obtain rfl := hp hlt
      clear hp
      have q1 := quo_bit old j
      have q2 := quo_bit other j
      have q3 := quo_bit mask j
      have hP := pow_le7 hlt
      have hP1 : 1 ≤ 2 ^ j := Nat.two_pow_pos j
      have hB := bsum_le (bB old other mask down) hlt
      have hs : bsum (bB old other mask down) (j + 1) = bsum (bB old other mask down) j + (if bB old other mask down j then 2 ^ j else 0) := rfl
      have hb : bB old other mask down j = if bit mask j then (if down then bit old j && bit other j else true) else bit old j := rfl
      rw [hb] at hs
      have hn : 2 ^ (j + 1) = 2 ^ j * 2 := Nat.pow_succ ..
      have HS := Lib.hid hs
      have HN := Lib.hid hn
      clear hs hb hn
      generalize bsum (bB old other mask down) j = S at *
      generalize 2 ^ j = P at *
      generalize bit old j = b1 at *
      generalize bit other j = b2 at *
      generalize bit mask j = b3 at *
      have hw : j < 7 ∨ j = 7 := by omega
      cases b1 <;> cases b2 <;> cases b3 <;> cases down
      all_goals
        go_wp2
        go_round
        case rel =>
          refine ⟨j + 1, by omega, by go_num, by rw [HS.out]; simp, fun h => ?_⟩
          have h7 := pow_le7 h
          have e := HN.out
          rw [e] at h7 ⊢
          congr 1
          omega
        case measure => simp [intOf]; omega
    · obtain rfl : j = 8 := by omega
      go_wp2
      go_ret
      exact ⟨rfl, rfl⟩
theorem bits_calls (old other mask : Int) (down : Bool) (w : World) (h0 : 0 ≤ old) (h1 : old ≤ 255) (h2 : 0 ≤ other) (h3 : other ≤ 255) (h4 : 0 ≤ mask) (h5 : mask ≤ 255) :
    Calls Tryz.prog 57 #[.int .u8 old, .int .u8 other, .int .u8 mask, .bool down] w fun e w' => e = .returned (.int .u8 (bt old other mask down)) ∧ w = w' := by
  obtain ⟨a, rfl⟩ := Int.eq_ofNat_of_zero_le h0
  obtain ⟨b, rfl⟩ := Int.eq_ofNat_of_zero_le h2
  obtain ⟨c, rfl⟩ := Int.eq_ofNat_of_zero_le h4
  exact bits_nat a b c down w (by omega) (by omega) (by omega)
end Go.Proofs.YthbafcihmcjchaaGreatDoor.NorB
