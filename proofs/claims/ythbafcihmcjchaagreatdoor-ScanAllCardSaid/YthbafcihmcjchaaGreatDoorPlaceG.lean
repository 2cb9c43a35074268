/- (Cut out of PlaceF.) A place by its parts' bits; how the words of whole numbers compare. -/
import Derived.Test.YthbafcihmcjchaaGreatDoorPlaceV
namespace Go.Proofs.YthbafcihmcjchaaGreatDoor.PlaceG
open Go.RowKit
open Go.Proofs.YthbafcihmcjchaaGreatDoor.PlaceM Go.Proofs.YthbafcihmcjchaaGreatDoor.PlaceV

theorem same_order {x : Nat} {a : Int} (h : fv x = some a) : FloatKind.f64.format.order x x = some .eq := by rw [fv_order h h, ord_eq.2 rfl]
theorem order0 : FloatKind.f64.format.order 0 0 = some .eq := same_order fv_zero
theorem order_fi (n : Int) (h0 : 0 ≤ n) (h1 : n ≤ 2147483647) : FloatKind.f64.format.order (floatOfInt .f64 n) (floatOfInt .f64 n) = some .eq := same_order (fi_fv n h0 (by omega))
theorem order_back {x : Nat} (h : rt x = true) : FloatKind.f64.format.order (floatOfInt .f64 (nm x)) x = some .eq := by
  obtain ⟨h1, h2, h3⟩ := rt_fv h
  rw [fv_order (fi_fv _ h2 (by omega)) h1, ord_eq.2 rfl]
theorem order_minus : FloatKind.f64.format.order 13830554455654793216 13830554455654793216 = some .eq := by
  have hr : FloatKind.f64.format.read 13830554455654793216 = .number true 4503599627370496 (-52) := by decide +kernel
  exact same_order (a := Ieee.signed true 4503599627370496 (-52 + 1074 : Int).toNat) (by unfold fv; rw [hr]; rfl)
end Go.Proofs.YthbafcihmcjchaaGreatDoor.PlaceG
