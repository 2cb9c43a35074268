/- The walk of layer 2's law PlaceCompare: how two places stand to each other, by the project's Compare (which makes a row of two numbers for cmp.Or) and by the document's answer. -/
import Derived.Test.YtflghjamneganaaPlaceL
import Derived.Below
import Derived.Deep.QuietTactic
import Derived.BigQuiet
import Derived.WalkSmall
namespace Go.Proofs.Ytflghjamneganaa.PlaceC
open Go.RowKit
open Go.Proofs.Ytflghjamneganaa.PlaceM Go.Proofs.Ytflghjamneganaa.PlaceW Go.Proofs.Ytflghjamneganaa.PlaceL

/-- How two numbers stand. -/
def c3 (a b : Int) : Int := if a < b then -1 else if a = b then 0 else 1
theorem c3_lt {a b : Int} (h : a < b) : c3 a b = -1 := by unfold c3; rw [if_pos h]
theorem c3_eq {a b : Int} (h : a = b) : c3 a b = 0 := by unfold c3; rw [if_neg (by omega), if_pos h]
theorem c3_gt {a b : Int} (h : b < a) : c3 a b = 1 := by unfold c3; rw [if_neg (by omega), if_neg (by omega)]
def or2 (a b : Int) : Int := if a = 0 then b else a

set_option maxHeartbeats 400000 in
theorem cmp_calls (a b : Int) (w : World) : Calls Try.prog 22 #[.int .i64 a, .int .i64 b] w fun e w' => e = .returned (.int .i64 (c3 a b)) ∧ w = w' := by
  have h : a < b ∨ a = b ∨ b < a := by omega
  rcases h with h | rfl | h
  · have e := c3_lt h
    have E := Lib.hid e
    clear e
    have h2 : ¬ b < a := by omega
    go_enter Try.func22, Try.ntmps22
    go_wp2
    go_ret
    exact ⟨ret_int E.out.symm, rfl⟩
  · have e := c3_eq (rfl : a = a)
    have E := Lib.hid e
    clear e
    go_enter Try.func22, Try.ntmps22
    go_wp2
    go_ret
    exact ⟨ret_int E.out.symm, rfl⟩
  · have e := c3_gt h
    have E := Lib.hid e
    clear e
    have h2 : ¬ a < b := by omega
    go_enter Try.func22, Try.ntmps22
    go_wp2
    go_ret
    exact ⟨ret_int E.out.symm, rfl⟩

set_option maxHeartbeats 400000 in
theorem or_calls (a b : Int) (g : Nat) (w : World) (h0 : w.cell? ⟨g, 0, none⟩ = some (.int .i64 a)) (h1 : w.cell? ⟨g, 1, none⟩ = some (.int .i64 b)) :
    Calls Try.prog 21 #[.slice (some ⟨g, 0, none⟩) 2 2] w fun e w' => e = .returned (.int .i64 (or2 a b)) ∧ w = w' := by
  by_cases ha : a = 0
  · subst ha
    by_cases hb : b = 0
    · subst hb
      go_enter Try.func21, Try.ntmps21
      go_wp2
      go_loop [8] (fun i => ∃ k : Nat, k ≤ 2 ∧ i = .int .i64 k) (fun i => 2 - (intOf i).toNat)
      case atStart => exact ⟨0, by omega, rfl⟩
      case round =>
        obtain ⟨k, hk, rfl⟩ := hrel
        have hk' : k = 0 ∨ k = 1 ∨ k = 2 := by omega
        clear hk
        rcases hk' with rfl | rfl | rfl
        · go_wp2
          go_round
          case rel => exact ⟨1, by omega, by go_num⟩
          case measure => simp [intOf]
        · go_wp2
          go_round
          case rel => exact ⟨2, by omega, by go_num⟩
          case measure => simp [intOf]
        · go_wp2
          go_ret
          exact ⟨rfl, rfl⟩
    · have hb' : (b == 0) = false := by simpa using hb
      have hb'' : (b != 0) = true := by simpa using hb
      go_enter Try.func21, Try.ntmps21
      go_wp2
      go_loop [8] (fun i => ∃ k : Nat, k ≤ 1 ∧ i = .int .i64 k) (fun i => 2 - (intOf i).toNat)
      case atStart => exact ⟨0, by omega, rfl⟩
      case round =>
        obtain ⟨k, hk, rfl⟩ := hrel
        have hk' : k = 0 ∨ k = 1 := by omega
        clear hk
        rcases hk' with rfl | rfl
        · go_wp2
          go_round
          case rel => exact ⟨1, by omega, by go_num⟩
          case measure => simp [intOf]
        · go_wp2
          go_ret
          exact ⟨ret_int (by unfold or2; simp), rfl⟩
  · have ha' : (a == 0) = false := by simpa using ha
    have ha'' : (a != 0) = true := by simpa using ha
    go_enter Try.func21, Try.ntmps21
    go_wp2
    go_loop [8] (fun i => i = .int .i64 0) (fun i => 2 - (intOf i).toNat)
    case atStart => exact rfl
    case round =>
      subst hrel
      go_wp2
      go_ret
      exact ⟨ret_int (by unfold or2; rw [if_neg ha]), rfl⟩

/-- How two places stand. -/
def stand (x y x' y' : Nat) : Int :=
  if (rt x && rt y) = true then (if (rt x' && rt y') = true then or2 (c3 (nm x) (nm x')) (c3 (nm y) (nm y')) else -1) else (if (rt x' && rt y') = true then 1 else 0)
theorem both {a b : Bool} (h : (a && b) = true) : a = true ∧ b = true := by simpa using h

set_option maxHeartbeats 400000 in
theorem compare_calls (x y x' y' : Nat) (w : World) :
    Calls Try.prog 16 #[.complex .f64 x y, .complex .f64 x' y'] w fun e w' => e = .returned (.int .i64 (stand x y x' y')) ∧ Below w.heap.size w w' := by
  cases h : (rt x && rt y) <;> cases h' : (rt x' && rt y')
  · have hs : stand x y x' y' = 0 := by unfold stand; rw [h, h']; rfl
    have HS := Lib.hid hs
    clear hs
    go_enter Try.func16, Try.ntmps16
    go_wp2_with (first
      | (go_at_call 8; (with_reducible refine (parts_no x y _ h).mono ?_); rintro e w' ⟨rfl, rfl⟩)
      | (go_at_call 8; (with_reducible refine (parts_no x' y' _ h').mono ?_); rintro e w' ⟨rfl, rfl⟩))
    go_ret
    exact ⟨ret_int HS.out.symm, Below.refl _ _⟩
  · obtain ⟨hx', hy'⟩ := both h'
    have hs : stand x y x' y' = 1 := by unfold stand; rw [h, h']; rfl
    have HS := Lib.hid hs
    clear hs
    go_enter Try.func16, Try.ntmps16
    go_wp2_with (first
      | (go_at_call 8; (with_reducible refine (parts_no x y _ h).mono ?_); rintro e w' ⟨rfl, rfl⟩)
      | (go_at_call 8; (with_reducible refine (parts_yes x' y' _ hx' hy').mono ?_); rintro e w' ⟨rfl, rfl⟩))
    go_ret
    exact ⟨ret_int HS.out.symm, Below.refl _ _⟩
  · obtain ⟨hx, hy⟩ := both h
    have hs : stand x y x' y' = -1 := by unfold stand; rw [h, h']; rfl
    have HS := Lib.hid hs
    clear hs
    go_enter Try.func16, Try.ntmps16
    go_wp2_with (first
      | (go_at_call 8; (with_reducible refine (parts_yes x y _ hx hy).mono ?_); rintro e w' ⟨rfl, rfl⟩)
      | (go_at_call 8; (with_reducible refine (parts_no x' y' _ h').mono ?_); rintro e w' ⟨rfl, rfl⟩))
    go_ret
    exact ⟨ret_int HS.out.symm, Below.refl _ _⟩
  · obtain ⟨hx, hy⟩ := both h
    obtain ⟨hx', hy'⟩ := both h'
    have hs : stand x y x' y' = or2 (c3 (nm x) (nm x')) (c3 (nm y) (nm y')) := by unfold stand; rw [h, h']; rfl
    have HS := Lib.hid hs
    clear hs
    go_enter Try.func16, Try.ntmps16
    go_wp2_with (first
      | (go_at_call 8; (with_reducible refine (parts_yes x y _ hx hy).mono ?_); rintro e w' ⟨rfl, rfl⟩)
      | (go_at_call 8; (with_reducible refine (parts_yes x' y' _ hx' hy').mono ?_); rintro e w' ⟨rfl, rfl⟩)
      | (go_at_call 22; refine (cmp_calls _ _ _).mono ?_; rintro e w' ⟨rfl, rfl⟩)
      | (go_at_call 21; refine (or_calls _ _ _ _ (by rw [cell_of_row _ _ _ _ _ _ (heap_alloc_new _ _)]; rfl) (by rw [cell_of_row _ _ _ _ _ _ (heap_alloc_new _ _)]; rfl)).mono ?_; rintro e w' ⟨rfl, rfl⟩))
    go_ret
    exact ⟨ret_int HS.out.symm, (Below.refl _ _).alloc (Nat.le_refl _) _⟩
set_option maxHeartbeats 400000 in
theorem refcompare_calls (x y x' y' : Nat) (w : World) :
    Calls Try.prog 17 #[.complex .f64 x y, .complex .f64 x' y'] w fun e w' => e = .returned (.int .i64 (stand x y x' y')) ∧ w = w' := by
  cases h : (rt x && rt y) <;> cases h' : (rt x' && rt y')
  · have hs : stand x y x' y' = 0 := by unfold stand; rw [h, h']; rfl
    have HS := Lib.hid hs
    clear hs
    have r1 := fun w => right_calls x y w
    have r2 := fun w => right_calls x' y' w
    rw [h] at r1
    rw [h'] at r2
    have R1 := Lib.hid r1
    have R2 := Lib.hid r2
    clear r1 r2 h h'
    go_enter Try.func17, Try.ntmps17
    go_wp2_with (first
      | (go_at_call 9; (with_reducible refine (R1.out _).mono ?_); rintro e w' ⟨rfl, rfl⟩)
      | (go_at_call 9; (with_reducible refine (R2.out _).mono ?_); rintro e w' ⟨rfl, rfl⟩))
    go_ret
    exact ⟨ret_int HS.out.symm, rfl⟩
  · have hs : stand x y x' y' = 1 := by unfold stand; rw [h, h']; rfl
    have HS := Lib.hid hs
    clear hs
    have r1 := fun w => right_calls x y w
    have r2 := fun w => right_calls x' y' w
    rw [h] at r1
    rw [h'] at r2
    have R1 := Lib.hid r1
    have R2 := Lib.hid r2
    clear r1 r2 h h'
    go_enter Try.func17, Try.ntmps17
    go_wp2_with (first
      | (go_at_call 9; (with_reducible refine (R1.out _).mono ?_); rintro e w' ⟨rfl, rfl⟩)
      | (go_at_call 9; (with_reducible refine (R2.out _).mono ?_); rintro e w' ⟨rfl, rfl⟩))
    go_ret
    exact ⟨ret_int HS.out.symm, rfl⟩
  · have hs : stand x y x' y' = -1 := by unfold stand; rw [h, h']; rfl
    have HS := Lib.hid hs
    clear hs
    have r1 := fun w => right_calls x y w
    have r2 := fun w => right_calls x' y' w
    rw [h] at r1
    rw [h'] at r2
    have R1 := Lib.hid r1
    have R2 := Lib.hid r2
    clear r1 r2 h h'
    go_enter Try.func17, Try.ntmps17
    go_wp2_with (first
      | (go_at_call 9; (with_reducible refine (R1.out _).mono ?_); rintro e w' ⟨rfl, rfl⟩)
      | (go_at_call 9; (with_reducible refine (R2.out _).mono ?_); rintro e w' ⟨rfl, rfl⟩))
    go_ret
    exact ⟨ret_int HS.out.symm, rfl⟩
  · obtain ⟨hx, hy⟩ := both h
    obtain ⟨hx', hy'⟩ := both h'
    have hs : stand x y x' y' = or2 (c3 (nm x) (nm x')) (c3 (nm y) (nm y')) := by unfold stand; rw [h, h']; rfl
    have r1 := fun w => right_calls x y w
    have r2 := fun w => right_calls x' y' w
    rw [h] at r1
    rw [h'] at r2
    have R1 := Lib.hid r1
    have R2 := Lib.hid r2
    have S1 := Lib.hid (fun w => sector_calls x y w hx)
    have S2 := Lib.hid (fun w => sector_calls x' y' w hx')
    have O1 := Lib.hid (fun w => offset_calls x y w hy)
    have O2 := Lib.hid (fun w => offset_calls x' y' w hy')
    clear r1 r2 h h' hx hy hx' hy'
    generalize nm x = X at hs S1
    generalize nm x' = X' at hs S2
    generalize nm y = Y at hs O1
    generalize nm y' = Y' at hs O2
    have hc : (X < X' ∧ or2 (c3 X X') (c3 Y Y') = -1 ∧ (X == X') = false ∧ (X != X') = true) ∨ (X' < X ∧ or2 (c3 X X') (c3 Y Y') = 1 ∧ (X == X') = false ∧ (X != X') = true ∧ ¬ X < X') ∨ (X = X' ∧ ((Y < Y' ∧ or2 (c3 X X') (c3 Y Y') = -1) ∨ (Y' < Y ∧ ¬ Y < Y' ∧ or2 (c3 X X') (c3 Y Y') = 1) ∨ (Y = Y' ∧ or2 (c3 X X') (c3 Y Y') = 0))) := by
      rcases (by omega : X < X' ∨ X' < X ∨ X = X') with k | k | k
      · refine .inl ⟨k, by rw [c3_lt k]; rfl, ?_, ?_⟩ <;> simp <;> omega
      · refine .inr (.inl ⟨k, by rw [c3_gt k]; rfl, ?_, ?_, by omega⟩) <;> simp <;> omega
      · refine .inr (.inr ⟨k, ?_⟩)
        rcases (by omega : Y < Y' ∨ Y' < Y ∨ Y = Y') with l | l | l
        · exact .inl ⟨l, by rw [c3_eq k, c3_lt l]; rfl⟩
        · exact .inr (.inl ⟨l, by omega, by rw [c3_eq k, c3_gt l]; rfl⟩)
        · exact .inr (.inr ⟨l, by rw [c3_eq k, c3_eq l]; rfl⟩)
    rcases hc with ⟨k, e, k1, k2⟩ | ⟨k, e, k1, k2, k3⟩ | ⟨rfl, ⟨l, e⟩ | ⟨l, l1, e⟩ | ⟨rfl, e⟩⟩
    all_goals
      rw [e] at hs
      have HS := Lib.hid hs
      clear hs e
      go_enter Try.func17, Try.ntmps17
      go_wp2_with (first
        | (go_at_call 9; (with_reducible refine (R1.out _).mono ?_); rintro e w' ⟨rfl, rfl⟩)
        | (go_at_call 9; (with_reducible refine (R2.out _).mono ?_); rintro e w' ⟨rfl, rfl⟩)
        | (go_at_call 11; (with_reducible refine (S1.out _).mono ?_); rintro e w' ⟨rfl, rfl⟩)
        | (go_at_call 11; (with_reducible refine (S2.out _).mono ?_); rintro e w' ⟨rfl, rfl⟩)
        | (go_at_call 12; (with_reducible refine (O1.out _).mono ?_); rintro e w' ⟨rfl, rfl⟩)
        | (go_at_call 12; (with_reducible refine (O2.out _).mono ?_); rintro e w' ⟨rfl, rfl⟩))
      go_ret
      exact ⟨ret_int HS.out.symm, rfl⟩
theorem c3_turn (a b : Int) : c3 b a = - c3 a b := by
  rcases (by omega : a < b ∨ b < a ∨ a = b) with k | k | k
  · rw [c3_lt k, c3_gt k]; rfl
  · rw [c3_lt k, c3_gt k]
  · rw [c3_eq k, c3_eq k.symm]; rfl
theorem c3_cases (a b : Int) : (a < b ∧ c3 a b = -1) ∨ (b < a ∧ c3 a b = 1) ∨ (a = b ∧ c3 a b = 0) := by
  rcases (by omega : a < b ∨ b < a ∨ a = b) with k | k | k
  · exact .inl ⟨k, c3_lt k⟩
  · exact .inr (.inl ⟨k, c3_gt k⟩)
  · exact .inr (.inr ⟨k, c3_eq k⟩)
theorem or2_cases (a b a' b' : Int) : (a < a' ∧ or2 (c3 a a') (c3 b b') = -1) ∨ (a' < a ∧ or2 (c3 a a') (c3 b b') = 1) ∨ (a = a' ∧ or2 (c3 a a') (c3 b b') = c3 b b') := by
  rcases c3_cases a a' with ⟨k, e⟩ | ⟨k, e⟩ | ⟨k, e⟩
  · exact .inl ⟨k, by rw [e]; rfl⟩
  · exact .inr (.inl ⟨k, by rw [e]; rfl⟩)
  · exact .inr (.inr ⟨k, by rw [e]; unfold or2; rw [if_pos rfl]⟩)
theorem stand_bd (x y x' y' : Nat) : -1 ≤ stand x y x' y' ∧ stand x y x' y' ≤ 1 := by
  unfold stand
  have h1 := or2_cases (nm x) (nm y) (nm x') (nm y')
  have h2 := c3_cases (nm y) (nm y')
  split <;> split <;> omega
theorem stand_turn (x y x' y' : Nat) : stand x' y' x y = - stand x y x' y' := by
  unfold stand
  have h1 := or2_cases (nm x) (nm y) (nm x') (nm y')
  have h2 := or2_cases (nm x') (nm y') (nm x) (nm y)
  have h3 := c3_turn (nm y) (nm y')
  split <;> split <;> omega
theorem stand_row (x y x' y' x'' y'' : Nat) : 0 < stand x y x' y' ∨ 0 < stand x' y' x'' y'' ∨ stand x y x'' y'' ≤ 0 := by
  unfold stand
  have h1 := or2_cases (nm x) (nm y) (nm x') (nm y')
  have h2 := or2_cases (nm x') (nm y') (nm x'') (nm y'')
  have h3 := or2_cases (nm x) (nm y) (nm x'') (nm y'')
  have h4 := c3_cases (nm y) (nm y')
  have h5 := c3_cases (nm y') (nm y'')
  have h6 := c3_cases (nm y) (nm y'')
  split <;> split <;> split <;> omega

theorem at_same (a b : Int) (w : World) : Calls Try.prog 7 #[.int .u64 a, .int .u64 b] w fun e w' => e = .returned (.complex .f64 a.toNat b.toNat) ∧ w' = w :=
  (at_calls a b w).mono fun _ _ h => ⟨h.1, h.2.symm⟩

set_option maxHeartbeats 400000 in
theorem compare_law (a0 a1 b0 b1 c0 c1 : Int) (w : World) :
    Calls Try.prog 6 #[.agg #[.int .u64 a0, .int .u64 a1], .agg #[.int .u64 b0, .int .u64 b1], .agg #[.int .u64 c0, .int .u64 c1]] w fun e w' => e = .returned (.bool true) ∧ Below w.heap.size w w' := by
  have hX := stand_bd a0.toNat a1.toNat b0.toNat b1.toNat
  have hT := stand_turn a0.toNat a1.toNat b0.toNat b1.toNat
  have hR := stand_row a0.toNat a1.toNat b0.toNat b1.toNat c0.toNat c1.toNat
  have k1 := fun w => compare_calls a0.toNat a1.toNat b0.toNat b1.toNat w
  have k2 := fun w => compare_calls b0.toNat b1.toNat c0.toNat c1.toNat w
  have k3 := fun w => compare_calls a0.toNat a1.toNat c0.toNat c1.toNat w
  have k4 := fun w => compare_calls b0.toNat b1.toNat a0.toNat a1.toNat w
  have k5 := fun w => refcompare_calls a0.toNat a1.toNat b0.toNat b1.toNat w
  rw [hT] at k4
  clear hT
  generalize stand a0.toNat a1.toNat b0.toNat b1.toNat = X at *
  generalize stand b0.toNat b1.toNat c0.toNat c1.toNat = Y at *
  generalize stand a0.toNat a1.toNat c0.toNat c1.toNat = Z at *
  obtain ⟨hX0, hX1⟩ := hX
  have hc : 0 < X ∨ (¬ 0 < X ∧ 0 < Y) ∨ (¬ 0 < X ∧ ¬ 0 < Y ∧ Z ≤ 0) := by omega
  have K1 := Lib.hid k1
  have K2 := Lib.hid k2
  have K3 := Lib.hid k3
  have K4 := Lib.hid k4
  have K5 := Lib.hid k5
  clear k1 k2 k3 k4 k5 hR
  rcases hc with hx | ⟨hx, hy⟩ | ⟨hx, hy, hz⟩
  all_goals
    go_enter Try.func6, Try.ntmps6
    go_wp2
    go_quiet ((go_at_call 7; exact Calls.quiet_of_same (at_same _ _ _)))
    have hB := below_drewN ((((Below.refl w.heap.size w).alloc (Nat.le_refl _) (.cells #[.int .u64 a0, .int .u64 a1] 35)).alloc (by simp) (.cells #[.int .u64 b0, .int .u64 b1] 35)).alloc (by simp; omega) (.cells #[.int .u64 c0, .int .u64 c1] 35)) nq
    obtain ⟨w1, hw1⟩ : ∃ w1, (((w.alloc (.cells #[.int .u64 a0, .int .u64 a1] 35)).alloc (.cells #[.int .u64 b0, .int .u64 b1] 35)).alloc (.cells #[.int .u64 c0, .int .u64 c1] 35)).drewN nq = w1 := ⟨_, rfl⟩
    rw [hw1] at hB ⊢
    clear hw1
    go_wp2_with (first
      | (go_at_call 16; (first | with_reducible refine (K1.out _).mono ?_ | with_reducible refine (K2.out _).mono ?_ | with_reducible refine (K3.out _).mono ?_ | with_reducible refine (K4.out _).mono ?_); rintro e w' ⟨rfl, hb⟩; replace hB := hB.trans (hb.mono hB.size); clear hb)
      | (go_at_call 17; (with_reducible refine (K5.out _).mono ?_); rintro e w' ⟨rfl, rfl⟩)
      | (go_at_call 10; refine (fixed_calls _).mono ?_; rintro e w' ⟨rfl, rfl⟩))
    go_ret
    exact ⟨rfl, hB⟩
end Go.Proofs.Ytflghjamneganaa.PlaceC
