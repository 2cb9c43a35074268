/- The walks of layer 2's laws over whole numbers and places: PlaceParts, PlaceOf, PlaceOn; of the chapter's examples; of a place by its parts' bits. -/
import Derived.Test.YtflghjamneganaaPlaceW
namespace Go.Proofs.Ytflghjamneganaa.PlaceL
open Go.RowKit
open Go.Proofs.Ytflghjamneganaa.PlaceM Go.Proofs.Ytflghjamneganaa.PlaceW

theorem same_order {x : Nat} {a : Int} (h : fv x = some a) : FloatKind.f64.format.order x x = some .eq := by rw [fv_order h h, ord_eq.2 rfl]
theorem fi3 : floatOfInt .f64 3 = 4613937818241073152 := by decide +kernel
theorem fi40 : floatOfInt .f64 40 = 4630826316843712512 := by decide +kernel
theorem fi42 : floatOfInt .f64 42 = 4631107791820423168 := by decide +kernel
theorem order3 : FloatKind.f64.format.order (floatOfInt .f64 3) 4613937818241073152 = some .eq := by rw [← fi3]; exact same_order (fi_fv 3 (by omega) (by omega))
theorem order40 : FloatKind.f64.format.order (floatOfInt .f64 40) 4630826316843712512 = some .eq := by rw [← fi40]; exact same_order (fi_fv 40 (by omega) (by omega))
theorem order42 : FloatKind.f64.format.order (floatOfInt .f64 42) 4631107791820423168 = some .eq := by rw [← fi42]; exact same_order (fi_fv 42 (by omega) (by omega))
theorem order0 : FloatKind.f64.format.order 0 0 = some .eq := same_order fv_zero
theorem order_fi (n : Int) (h0 : 0 ≤ n) (h1 : n ≤ 2147483647) : FloatKind.f64.format.order (floatOfInt .f64 n) (floatOfInt .f64 n) = some .eq := same_order (fi_fv n h0 (by omega))
theorem order_back {x : Nat} (h : rt x = true) : FloatKind.f64.format.order (floatOfInt .f64 (nm x)) x = some .eq := by
  obtain ⟨h1, h2, h3⟩ := rt_fv h
  rw [fv_order (fi_fv _ h2 (by omega)) h1, ord_eq.2 rfl]
theorem order_nought (n : Int) (h0 : 0 < n) (h1 : n ≤ 2147483647) : FloatKind.f64.format.order (floatOfInt .f64 n) 0 = some .gt := by
  rw [fv_order (fi_fv n (by omega) (by omega)) fv_zero, ord_gt.2 (Int.mul_pos h0 unit_int)]

set_option maxHeartbeats 400000 in
theorem at_calls (a b : Int) (w : World) : Calls Try.prog 7 #[.int .u64 a, .int .u64 b] w fun e w' => e = .returned (.complex .f64 a.toNat b.toNat) ∧ w = w' := by
  have hcall : ∀ (n : Int) w, (callFunc 18 #[.int .u64 n]).run Try.prog w = .ok (.value (.float .f64 n.toNat)) w := by
    intro n w
    rw [run_callFunc_extern (P := Try.prog) (f := 18) (fn := Try.f18) (e := Extern.MathFloatBits.float64frombits) (by kernel_rfl) (by kernel_rfl) (by kernel_rfl) (by kernel_rfl) (by kernel_rfl)]
    rfl
  go_enter Try.func7, Try.ntmps7
  go_wp2
  go_ret
  exact ⟨rfl, rfl⟩
theorem on_is {x y : Nat} {n s o : Int} (w : World) (hx : rt x = true) (hy : rt y = true) (hs : nm x = s) (ho : nm y + n = o) (h0 : 0 ≤ o) (h1 : o ≤ 2147483647) :
    Calls Try.prog 15 #[.complex .f64 x y, .int .i64 n] w fun e w' => e = .returned (.complex .f64 (floatOfInt .f64 s) (floatOfInt .f64 o)) ∧ w = w' := by
  subst hs
  subst ho
  exact on_yes x y n w hx hy h0 h1

set_option maxHeartbeats 400000 in
theorem fixed_calls (w : World) : Calls Try.prog 10 #[] w fun e w' => e = .returned (.bool true) ∧ w = w' := by
  have a3 := fi_rt 3 (by omega) (by omega)
  have a40 := fi_rt 40 (by omega) (by omega)
  have n3 := fi_nm 3 (by omega) (by omega)
  have n40 := fi_nm 40 (by omega) (by omega)
  have c1 := fun w => on_out (floatOfInt .f64 3) (floatOfInt .f64 40) (-41) w a3 a40 (by omega) (.inl (by omega))
  have c2 := fun w => on_is (n := 2) (s := 3) (o := 42) w a3 a40 n3 (by omega) (by omega) (by omega)
  have o3 := order3
  have o40 := order40
  have o42 := order42
  have o0 := order0
  have C1 := Lib.hid c1
  have C2 := Lib.hid c2
  clear c1 c2 a3 a40 n3 n40
  go_enter Try.func10, Try.ntmps10
  go_wp2_with (first
    | (go_at_call 13; refine (of_yes 3 40 _ (by omega) (by omega) (by omega) (by omega)).mono ?_; rintro e w' ⟨rfl, rfl⟩)
    | (go_at_call 15; (with_reducible refine (C1.out _).mono ?_); rintro e w' ⟨rfl, rfl⟩)
    | (go_at_call 15; (with_reducible refine (C2.out _).mono ?_); rintro e w' ⟨rfl, rfl⟩))
  go_ret
  exact ⟨rfl, rfl⟩

set_option maxHeartbeats 400000 in
theorem parts_law (a b : Int) (w : World) : Calls Try.prog 3 #[.int .u64 a, .int .u64 b] w fun e w' => e = .returned (.bool true) ∧ w = w' := by
  generalize hx : a.toNat = x
  generalize hy : b.toNat = y
  have hat := fun w => at_calls a b w
  rw [hx, hy] at hat
  have HAT := Lib.hid hat
  clear hat hx hy
  cases hr : (rt x && rt y)
  · go_enter Try.func3, Try.ntmps3
    go_wp2_with (first
      | (go_at_call 7; refine (HAT.out _).mono ?_; rintro e w' ⟨rfl, rfl⟩)
      | (go_at_call 8; refine (parts_no x y _ hr).mono ?_; rintro e w' ⟨rfl, rfl⟩)
      | (go_at_call 9; refine (right_calls x y _).mono ?_; rintro e w' ⟨rfl, rfl⟩)
      | (go_at_call 10; refine (fixed_calls _).mono ?_; rintro e w' ⟨rfl, rfl⟩))
    go_ret
    exact ⟨rfl, rfl⟩
  · have hx : rt x = true := by simp at hr; exact hr.1
    have hy : rt y = true := by simp at hr; exact hr.2
    obtain ⟨_, x0, x1⟩ := rt_fv hx
    obtain ⟨_, y0, y1⟩ := rt_fv hy
    have o1 := order_back hx
    have o2 := order_back hy
    go_enter Try.func3, Try.ntmps3
    go_wp2_with (first
      | (go_at_call 7; refine (HAT.out _).mono ?_; rintro e w' ⟨rfl, rfl⟩)
      | (go_at_call 8; refine (parts_yes x y _ hx hy).mono ?_; rintro e w' ⟨rfl, rfl⟩)
      | (go_at_call 9; refine (right_calls x y _).mono ?_; rintro e w' ⟨rfl, rfl⟩)
      | (go_at_call 11; refine (sector_calls x y _ hx).mono ?_; rintro e w' ⟨rfl, rfl⟩)
      | (go_at_call 12; refine (offset_calls x y _ hy).mono ?_; rintro e w' ⟨rfl, rfl⟩)
      | (go_at_call 13; refine (of_yes _ _ _ x0 x1 y0 y1).mono ?_; rintro e w' ⟨rfl, rfl⟩)
      | (go_at_call 10; refine (fixed_calls _).mono ?_; rintro e w' ⟨rfl, rfl⟩))
    go_ret
    exact ⟨rfl, rfl⟩

set_option maxHeartbeats 400000 in
theorem of_law (s o : Int) (w : World) : Calls Try.prog 4 #[.int .i64 s, .int .i64 o] w fun e w' => e = .returned (.bool true) ∧ w = w' := by
  by_cases h : s < 0 ∨ 2147483647 < s ∨ o < 0 ∨ 2147483647 < o
  · have H := Lib.hid h
    clear h
    have o0 := order0
    go_enter Try.func4, Try.ntmps4
    go_wp2_with (first
      | (go_at_call 13; refine (of_no _ _ _ H.out).mono ?_; rintro e w' ⟨rfl, rfl⟩)
      | (go_at_call 14; refine (refof_no _ _ _ H.out).mono ?_; rintro e w' ⟨rfl, rfl⟩)
      | (go_at_call 10; refine (fixed_calls _).mono ?_; rintro e w' ⟨rfl, rfl⟩))
    go_ret
    exact ⟨rfl, rfl⟩
  · have s0 : 0 ≤ s := by omega
    have s1 : s ≤ 2147483647 := by omega
    have p0 : 0 ≤ o := by omega
    have p1 : o ≤ 2147483647 := by omega
    clear h
    have o1 := order_fi s s0 s1
    have o2 := order_fi o p0 p1
    go_enter Try.func4, Try.ntmps4
    go_wp2_with (first
      | (go_at_call 13; refine (of_yes _ _ _ s0 s1 p0 p1).mono ?_; rintro e w' ⟨rfl, rfl⟩)
      | (go_at_call 14; refine (refof_yes _ _ _ s0 s1 p0 p1).mono ?_; rintro e w' ⟨rfl, rfl⟩)
      | (go_at_call 10; refine (fixed_calls _).mono ?_; rintro e w' ⟨rfl, rfl⟩))
    go_ret
    exact ⟨rfl, rfl⟩

set_option maxHeartbeats 800000 in
theorem on_law (a b n : Int) (w : World) (hn0 : -9223372036854775808 ≤ n) (hn1 : n ≤ 9223372036854775807) :
    Calls Try.prog 5 #[.int .u64 a, .int .u64 b, .int .i64 n] w fun e w' => e = .returned (.bool true) ∧ w = w' := by
  generalize hx : a.toNat = x
  generalize hy : b.toNat = y
  have hat := fun w => at_calls a b w
  rw [hx, hy] at hat
  have HAT := Lib.hid hat
  clear hat hx hy
  have o0 := order0
  cases hr : (rt x && rt y)
  · go_enter Try.func5, Try.ntmps5
    go_wp2_with (first
      | (go_at_call 7; refine (HAT.out _).mono ?_; rintro e w' ⟨rfl, rfl⟩)
      | (go_at_call 15; refine (on_wrong x y n _ hr).mono ?_; rintro e w' ⟨rfl, rfl⟩)
      | (go_at_call 9; refine (right_calls x y _).mono ?_; rintro e w' ⟨rfl, rfl⟩)
      | (go_at_call 10; refine (fixed_calls _).mono ?_; rintro e w' ⟨rfl, rfl⟩))
    go_ret
    exact ⟨rfl, rfl⟩
  · have hx : rt x = true := by simp at hr; exact hr.1
    have hy : rt y = true := by simp at hr; exact hr.2
    obtain ⟨_, x0, x1⟩ := rt_fv hx
    obtain ⟨_, y0, y1⟩ := rt_fv hy
    by_cases hin : 0 ≤ nm y + n ∧ nm y + n ≤ 2147483647
    · obtain ⟨i0, i1⟩ := hin
      have q1 := fun w => on_is (n := n) (s := nm x) (o := nm y + n) w hx hy rfl rfl i0 i1
      have r1 := fi_rt (nm x) x0 x1
      have r2 := fi_rt (nm y + n) i0 i1
      have e1 := fi_nm (nm x) x0 x1
      have e2 := fi_nm (nm y + n) i0 i1
      have q2 := fun w => on_is (n := -n) (s := nm x) (o := nm y) w r1 r2 e1 (by omega) y0 y1
      have Q1 := Lib.hid q1
      have Q2 := Lib.hid q2
      have o1 := order_back hx
      have o2 := order_back hy
      have o3 := order_fi _ x0 x1
      have o4 := order_fi _ i0 i1
      clear q1 q2 r1 r2 e1 e2 hr
      have hz : FloatKind.f64.format.order (floatOfInt .f64 (nm x)) 0 = some .eq ∨ FloatKind.f64.format.order (floatOfInt .f64 (nm x)) 0 = some .gt := by
        rcases Int.lt_or_le 0 (nm x) with h | h
        · exact .inr (order_nought _ h x1)
        · have e : nm x = 0 := by omega
          rw [e]
          exact .inl (by decide +kernel)
      have hz' : FloatKind.f64.format.order (floatOfInt .f64 (nm y + n)) 0 = some .eq ∨ FloatKind.f64.format.order (floatOfInt .f64 (nm y + n)) 0 = some .gt := by
        rcases Int.lt_or_le 0 (nm y + n) with h | h
        · exact .inr (order_nought _ h i1)
        · have e : nm y + n = 0 := by omega
          rw [e]
          exact .inl (by decide +kernel)
      rcases hz with z1 | z1 <;> rcases hz' with z2 | z2
      all_goals
        go_enter Try.func5, Try.ntmps5
        go_wp2_with (first
          | (go_at_call 7; refine (HAT.out _).mono ?_; rintro e w' ⟨rfl, rfl⟩)
          | (go_at_call 15; (with_reducible refine (Q1.out _).mono ?_); rintro e w' ⟨rfl, rfl⟩)
          | (go_at_call 15; (with_reducible refine (Q2.out _).mono ?_); rintro e w' ⟨rfl, rfl⟩)
          | (go_at_call 9; refine (right_calls x y _).mono ?_; rintro e w' ⟨rfl, rfl⟩)
          | (go_at_call 11; refine (sector_calls x y _ hx).mono ?_; rintro e w' ⟨rfl, rfl⟩)
          | (go_at_call 12; refine (offset_calls x y _ hy).mono ?_; rintro e w' ⟨rfl, rfl⟩)
          | (go_at_call 14; refine (refof_yes _ _ _ x0 x1 i0 i1).mono ?_; rintro e w' ⟨rfl, rfl⟩)
          | (go_at_call 10; refine (fixed_calls _).mono ?_; rintro e w' ⟨rfl, rfl⟩))
        go_ret
        exact ⟨rfl, rfl⟩
    · have hout : nm y + n < 0 ∨ 2147483647 < nm y + n := by omega
      have HO := Lib.hid hout
      have hc : n < -2147483648 ∨ (-2147483648 ≤ n ∧ 2147483648 < n) ∨ (-2147483648 ≤ n ∧ n ≤ 2147483648) := by omega
      clear hin hout hr
      rcases hc with h | ⟨h, h'⟩ | ⟨h, h'⟩
      all_goals
        go_enter Try.func5, Try.ntmps5
        go_wp2_with (first
          | (go_at_call 7; refine (HAT.out _).mono ?_; rintro e w' ⟨rfl, rfl⟩)
          | (go_at_call 15; refine (on_out x y n _ hx hy hn0 HO.out).mono ?_; rintro e w' ⟨rfl, rfl⟩)
          | (go_at_call 9; refine (right_calls x y _).mono ?_; rintro e w' ⟨rfl, rfl⟩)
          | (go_at_call 11; refine (sector_calls x y _ hx).mono ?_; rintro e w' ⟨rfl, rfl⟩)
          | (go_at_call 12; refine (offset_calls x y _ hy).mono ?_; rintro e w' ⟨rfl, rfl⟩)
          | (go_at_call 14; refine (refof_no _ _ _ (by have := HO.out; omega)).mono ?_; rintro e w' ⟨rfl, rfl⟩)
          | (go_at_call 10; refine (fixed_calls _).mono ?_; rintro e w' ⟨rfl, rfl⟩))
        go_ret
        exact ⟨rfl, rfl⟩
end Go.Proofs.Ytflghjamneganaa.PlaceL
