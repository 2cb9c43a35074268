/- The walks of the chapter's examples, and of a place by its parts' bits. -/
import Derived.Test.YtflghjamneganaaDoorPlaceW
namespace Go.Proofs.YtflghjamneganaaDoor.PlaceF
open Go.RowKit
open Go.Proofs.YtflghjamneganaaDoor.PlaceM Go.Proofs.YtflghjamneganaaDoor.PlaceW

theorem same_order {x : Nat} {a : Int} (h : fv x = some a) : FloatKind.f64.format.order x x = some .eq := by rw [fv_order h h, ord_eq.2 rfl]
theorem fi3 : floatOfInt .f64 3 = 4613937818241073152 := by decide +kernel
theorem fi40 : floatOfInt .f64 40 = 4630826316843712512 := by decide +kernel
theorem fi42 : floatOfInt .f64 42 = 4631107791820423168 := by decide +kernel
theorem order3 : FloatKind.f64.format.order (floatOfInt .f64 3) 4613937818241073152 = some .eq := by rw [← fi3]; exact same_order (fi_fv 3 (by omega) (by omega))
theorem order40 : FloatKind.f64.format.order (floatOfInt .f64 40) 4630826316843712512 = some .eq := by rw [← fi40]; exact same_order (fi_fv 40 (by omega) (by omega))
theorem order42 : FloatKind.f64.format.order (floatOfInt .f64 42) 4631107791820423168 = some .eq := by rw [← fi42]; exact same_order (fi_fv 42 (by omega) (by omega))
theorem order0 : FloatKind.f64.format.order 0 0 = some .eq := same_order fv_zero
theorem order_fi (n : Int) (h0 : 0 ≤ n) (h1 : n ≤ 2147483647) : FloatKind.f64.format.order (floatOfInt .f64 n) (floatOfInt .f64 n) = some .eq := same_order (fi_fv n h0 (by omega))
theorem order_back {x : Nat} (h : rt x = true) : FloatKind.f64.format.order (floatOfInt .f64 (nm x)) x = some .eq := by
  obtain ⟨h1, h2, h3⟩ := rt_fv h
  rw [fv_order (fi_fv _ h2 (by omega)) h1, ord_eq.2 rfl]
theorem order_nought (n : Int) (h0 : 0 < n) (h1 : n ≤ 2147483647) : FloatKind.f64.format.order (floatOfInt .f64 n) 0 = some .gt := by
  rw [fv_order (fi_fv n (by omega) (by omega)) fv_zero, ord_gt.2 (Int.mul_pos h0 unit_int)]

set_option maxHeartbeats 400000 in
theorem at_calls (a b : Int) (w : World) : Calls Tryd.prog 4 #[.int .u64 a, .int .u64 b] w fun e w' => e = .returned (.complex .f64 a.toNat b.toNat) ∧ w = w' := by
  have hcall : ∀ (n : Int) w, (callFunc 12 #[.int .u64 n]).run Tryd.prog w = .ok (.value (.float .f64 n.toNat)) w := by
    intro n w
    rw [run_callFunc_extern (P := Tryd.prog) (f := 12) (fn := Tryd.f12) (e := Extern.MathFloatBits.float64frombits) (by kernel_rfl) (by kernel_rfl) (by kernel_rfl) (by kernel_rfl) (by kernel_rfl)]
    rfl
  go_enter Tryd.func4, Tryd.ntmps4
  go_wp2
  go_ret
  exact ⟨rfl, rfl⟩
theorem on_is {x y : Nat} {n s o : Int} (w : World) (hx : rt x = true) (hy : rt y = true) (hs : nm x = s) (ho : nm y + n = o) (h0 : 0 ≤ o) (h1 : o ≤ 2147483647) :
    Calls Tryd.prog 16 #[.complex .f64 x y, .int .i64 n] w fun e w' => e = .returned (.complex .f64 (floatOfInt .f64 s) (floatOfInt .f64 o)) ∧ w = w' := by
  subst hs
  subst ho
  exact on_yes x y n w hx hy h0 h1

set_option maxHeartbeats 400000 in
theorem fixed_calls (w : World) : Calls Tryd.prog 10 #[] w fun e w' => e = .returned (.bool true) ∧ w = w' := by
  have a3 := fi_rt 3 (by omega) (by omega)
  have a40 := fi_rt 40 (by omega) (by omega)
  have n3 := fi_nm 3 (by omega) (by omega)
  have n40 := fi_nm 40 (by omega) (by omega)
  have c1 := fun w => on_out (floatOfInt .f64 3) (floatOfInt .f64 40) (-41) w a3 a40 (by omega) (.inl (by omega))
  have c2 := fun w => on_is (n := 2) (s := 3) (o := 42) w a3 a40 n3 (by omega) (by omega) (by omega)
  have o3 := order3
  have o40 := order40
  have o42 := order42
  have o0 := order0
  have C1 := Lib.hid c1
  have C2 := Lib.hid c2
  clear c1 c2 a3 a40 n3 n40
  go_enter Tryd.func10, Tryd.ntmps10
  go_wp2_with (first
    | (go_at_call 15; refine (of_yes 3 40 _ (by omega) (by omega) (by omega) (by omega)).mono ?_; rintro e w' ⟨rfl, rfl⟩)
    | (go_at_call 16; (with_reducible refine (C1.out _).mono ?_); rintro e w' ⟨rfl, rfl⟩)
    | (go_at_call 16; (with_reducible refine (C2.out _).mono ?_); rintro e w' ⟨rfl, rfl⟩))
  go_ret
  exact ⟨rfl, rfl⟩

end Go.Proofs.YtflghjamneganaaDoor.PlaceF
