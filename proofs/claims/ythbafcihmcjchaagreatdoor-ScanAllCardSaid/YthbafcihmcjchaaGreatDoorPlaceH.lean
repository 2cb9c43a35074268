/- (Cut out of PlaceB.) A place as three bytes, and back. The package's variable 'nowhere' reads as three bytes 255. -/
import Derived.Test.YthbafcihmcjchaaGreatDoorPlaceG
import Derived.Below
import Derived.Deep.QuietTactic
import Derived.BigQuiet
import Derived.WalkSmall
import Derived.Deep.RegionHeld3
import Derived.Laws.StructEq
import Derived.Laws.BitsAllLaws
import Derived.Laws.BitsLemmas
namespace Go.Proofs.YthbafcihmcjchaaGreatDoor.PlaceH
open Go.RowKit
open Go.Proofs.YthbafcihmcjchaaGreatDoor.PlaceM Go.Proofs.YthbafcihmcjchaaGreatDoor.PlaceV Go.Proofs.YthbafcihmcjchaaGreatDoor.PlaceG

set_option maxHeartbeats 400000 in
theorem refof_yes (s o : Int) (w : World) (hs0 : 0 ≤ s) (hs1 : s ≤ 2147483647) (ho0 : 0 ≤ o) (ho1 : o ≤ 2147483647) :
    Calls Tryz.prog 10 #[.int .i64 s, .int .i64 o] w fun e w' => e = .returned (.complex .f64 (floatOfInt .f64 s) (floatOfInt .f64 o)) ∧ w = w' := by
  go_enter Tryz.func10, Tryz.ntmps10
  go_wp2
  go_ret
  exact ⟨rfl, rfl⟩
/-- The package's variable 'nowhere' reads as three bytes 255. -/
def Nowhere (w : World) : Prop := 3 < w.heap.size ∧ w.cell? ⟨3, 0, none⟩ = some (.int .u8 255) ∧ w.cell? ⟨3, 1, none⟩ = some (.int .u8 255) ∧ w.cell? ⟨3, 2, none⟩ = some (.int .u8 255)
theorem Nowhere.below {w w' : World} (h : Nowhere w) (hb : Below w.heap.size w w') : Nowhere w' :=
  ⟨Nat.lt_of_lt_of_le h.1 hb.size, (hb.cell (p := ⟨3, 0, none⟩) h.1).trans h.2.1, (hb.cell (p := ⟨3, 1, none⟩) h.1).trans h.2.2.1, (hb.cell (p := ⟨3, 2, none⟩) h.1).trans h.2.2.2⟩

theorem eq3 (a b c a' b' c' : Int) (w : World) : (Op.equalIn 10000 158 (.agg #[.int .u8 a, .int .u8 b, .int .u8 c]) (.agg #[.int .u8 a', .int .u8 b', .int .u8 c'])).run Tryz.prog w = .ok (a == a' && (b == b' && c == c')) w := by
  have u5 := Tryz.underlying5
  have a5 := Tryz.isAgg5
  have z5 := Tryz.sizeOf5
  rw [show (10000 : Nat) = 9999 + 1 from rfl, Op.equalIn]
  simp only [Sem.run_bind, run_underlying Tryz.underlying158, Result.andThen_ok]
  simp only [Std.Legacy.Range.forIn_eq_forIn_range', Std.Legacy.Range.size, Nat.sub_zero, Nat.add_sub_cancel, Nat.div_one, List.range'_succ, List.range'_zero, List.forIn_cons, List.forIn_nil]
  go_simp
  by_cases h1 : a = a' <;> by_cases h2 : b = b' <;> by_cases h3 : c = c' <;> simp [h1, h2, h3]
theorem i64_or_nat (a b : Nat) (ha : a < 9223372036854775808) (hb : b < 9223372036854775808) : bits .or .i64 (a : Int) (b : Int) = ((a ||| b : Nat) : Int) := by
  have o : ∀ a : Nat, a < 9223372036854775808 → (BitVec.ofInt 64 (a : Int)).toNat = a := fun a ha => by
    rw [BitVec.ofInt_natCast, BitVec.toNat_ofNat]; exact Nat.mod_eq_of_lt (by omega)
  have hx : a ||| b < 2 ^ 63 := Nat.or_lt_two_pow (by omega) (by omega)
  show IntKind.i64.wrap ((BitVec.ofInt 64 (a : Int) ||| BitVec.ofInt 64 (b : Int)).toNat : Int) = _
  rw [BitVec.toNat_or, o a ha, o b hb, IntKind.wrap_i64]
  omega
theorem join8 (b c : Int) (b0 : 0 ≤ b) (b1 : b ≤ 255) (c0 : 0 ≤ c) (c1 : c ≤ 255) : bits .or .i64 (b * 256) c = 256 * b + c := by
  obtain ⟨m, rfl⟩ := Int.eq_ofNat_of_zero_le b0
  obtain ⟨n, rfl⟩ := Int.eq_ofNat_of_zero_le c0
  have e : ((m : Int) * 256) = ((m * 256 : Nat) : Int) := by omega
  rw [e, i64_or_nat _ _ (by omega) (by omega), Nat.mul_comm, ← Nat.two_pow_add_eq_or_of_lt (i := 8) (by omega : n < 2 ^ 8) m]
  omega
theorem parts_is {x y : Nat} {s o : Int} (w : World) (hx : rt x = true) (hy : rt y = true) (hs : nm x = s) (ho : nm y = o) :
    Calls Tryz.prog 21 #[.complex .f64 x y] w fun e w' => e = .returned (.tuple #[.int .i64 s, .int .i64 o, .bool true]) ∧ w = w' := by
  subst hs
  subst ho
  exact parts_yes x y w hx hy
set_option maxHeartbeats 400000 in
theorem get_none (w : World) (hg : Nowhere w) :
    Calls Tryz.prog 97 #[.agg #[.int .u8 255, .int .u8 255, .int .u8 255]] w fun e w' => e = .returned (.complex .f64 13830554455654793216 0) ∧ Below w.heap.size w w' := by
  obtain ⟨hz, g0, g1, g2⟩ := hg
  have heq := eq3 255 255 255 255 255 255
  go_enter Tryz.func97, Tryz.ntmps97
  go_wp2
  go_ret
  exact ⟨rfl, (Below.refl _ _).alloc (Nat.le_refl _) _⟩
set_option maxHeartbeats 400000 in
theorem get_yes (a b c : Int) (w : World) (a0 : 0 ≤ a) (a1 : a ≤ 255) (b0 : 0 ≤ b) (b1 : b ≤ 255) (c0 : 0 ≤ c) (c1 : c ≤ 255) (h : ¬ (a = 255 ∧ b = 255 ∧ c = 255)) (hg : Nowhere w) :
    Calls Tryz.prog 97 #[.agg #[.int .u8 a, .int .u8 b, .int .u8 c]] w fun e w' => e = .returned (.complex .f64 (floatOfInt .f64 a) (floatOfInt .f64 (256 * b + c))) ∧ Below w.heap.size w w' := by
  obtain ⟨hz, g0, g1, g2⟩ := hg
  have hne : (a == 255 && (b == 255 && c == 255)) = false := by
    rw [Bool.eq_false_iff]
    intro k
    simp only [Bool.and_eq_true, beq_iff_eq] at k
    exact h k
  have heq := fun w => eq3 a b c 255 255 255 w
  rw [hne] at heq
  have hj := join8 b c b0 b1 c0 c1
  clear h hne
  go_enter Tryz.func97, Tryz.ntmps97
  go_wp2_with (go_at_call 7; refine (of_yes _ _ _ (by omega) (by omega) (by omega) (by omega)).mono ?_; rintro e w' ⟨rfl, rfl⟩)
  go_ret
  exact ⟨rfl, (Below.refl _ _).alloc (Nat.le_refl _) _⟩
set_option maxHeartbeats 400000 in
theorem refget_none (w : World) :
    Calls Tryz.prog 67 #[.int .u8 255, .int .u8 255, .int .u8 255] w fun e w' => e = .returned (.complex .f64 13830554455654793216 0) ∧ w = w' := by
  go_enter Tryz.func67, Tryz.ntmps67
  go_wp2
  go_ret
  exact ⟨rfl, rfl⟩
set_option maxHeartbeats 400000 in
theorem refget_yes (a b c : Int) (w : World) (a0 : 0 ≤ a) (a1 : a ≤ 255) (b0 : 0 ≤ b) (b1 : b ≤ 255) (c0 : 0 ≤ c) (c1 : c ≤ 255) (h : ¬ (a = 255 ∧ b = 255 ∧ c = 255)) :
    Calls Tryz.prog 67 #[.int .u8 a, .int .u8 b, .int .u8 c] w fun e w' => e = .returned (.complex .f64 (floatOfInt .f64 a) (floatOfInt .f64 (256 * b + c))) ∧ w = w' := by
  have hc : (a == 255) = false ∨ ((a == 255) = true ∧ (b == 255) = false) ∨ ((a == 255) = true ∧ (b == 255) = true ∧ (c == 255) = false) := by
    by_cases h1 : a = 255
    · by_cases h2 : b = 255
      · exact .inr (.inr ⟨by simpa using h1, by simpa using h2, by simpa using fun h3 => h ⟨h1, h2, h3⟩⟩)
      · exact .inr (.inl ⟨by simpa using h1, by simpa using h2⟩)
    · exact .inl (by simpa using h1)
  clear h
  rcases hc with k1 | ⟨k1, k2⟩ | ⟨k1, k2, k3⟩
  all_goals
    go_enter Tryz.func67, Tryz.ntmps67
    go_wp2_with (go_at_call 10; refine (refof_yes _ _ _ (by omega) (by omega) (by omega) (by omega)).mono ?_; rintro e w' ⟨rfl, rfl⟩)
    go_ret
    exact ⟨rfl, rfl⟩
end Go.Proofs.YthbafcihmcjchaaGreatDoor.PlaceH
