/- (The part of PlaceW that later layers lean on.) The contracts of layer 2's functions, of the project's and of the document's answer: each returns what the plain mathematics says, and leaves memory as it was. -/
import Derived.Test.YthbafcihmcjchaaGreatDoorProg
import Derived.Test.YthbafcihmcjchaaGreatDoorPlaceM
import Derived.WalkKit
import Derived.WalkSpells
import Derived.WalkLawsBesides
import Derived.Laws.Externs
import Derived.Lib.Hide
namespace Go.Proofs.YthbafcihmcjchaaGreatDoor.PlaceV
open Go.RowKit
open Go.Proofs.YthbafcihmcjchaaGreatDoor.PlaceM

theorem wd0 : wd 0 = 0 := by decide +kernel
theorem wdMost : wd 2147483647 = 4746794007244308480 := by decide +kernel
theorem wdOver : wd 2147483648 = 4746794007248502784 := by decide +kernel
theorem fv_zero : fv 0 = some 0 := by
  have h := wd_fv 0 (by omega) (by omega)
  rw [wd0] at h
  simpa using h
theorem fv_most : fv 4746794007244308480 = some (2147483647 * (unit : Int)) := by
  have h := wd_fv 2147483647 (by omega) (by omega)
  rwa [wdMost] at h
theorem fv_over : fv 4746794007248502784 = some (2147483648 * (unit : Int)) := by
  have h := wd_fv 2147483648 (by omega) (by omega)
  rwa [wdOver] at h

/-- The ways of 'isPart': not at least 0; too great; a number between. -/
theorem ways (x : Nat) :
    (rt x = false ∧ (FloatKind.f64.format.order x 0 = none ∨ FloatKind.f64.format.order x 0 = some .lt)) ∨
    (rt x = false ∧ (FloatKind.f64.format.order x 0 = some .gt) ∧ FloatKind.f64.format.order x 4746794007244308480 = some .gt ∧ FloatKind.f64.format.order x 4746794007248502784 = some .gt) ∨
    (∃ a, fv x = some a ∧ 0 ≤ a) := by
  cases hf : fv x with
  | none =>
    have hr : rt x = false := by unfold rt; rw [hf]
    rcases fv_none hf with h | h
    · exact .inl ⟨hr, h 0 _ fv_zero⟩
    · exact .inr (.inl ⟨hr, h _ _ fv_zero, h _ _ fv_most, h _ _ fv_over⟩)
  | some a =>
    rcases Int.lt_or_le a 0 with h | h
    · refine .inl ⟨?_, .inr ?_⟩
      · unfold rt
        rw [hf]
        simp only [decide_eq_false_iff_not]
        omega
      · rw [fv_order hf fv_zero, ord_lt.2 h]
    · exact .inr (.inr ⟨a, rfl, h⟩)

theorem int_of {x : Nat} {a : Int} (h : fv x = some a) (h0 : 0 ≤ a) (h1 : a < 2147483648 * (unit : Int)) : floatToIntVal .f64 x .i64 = some (a / (unit : Int)) := by
  have hq0 : 0 ≤ a / (unit : Int) := Int.ediv_nonneg h0 (Int.le_of_lt unit_int)
  have hq1 : a / (unit : Int) < 2147483648 := Int.ediv_lt_of_lt_mul unit_int h1
  unfold floatToIntVal FloatKind.decode
  rw [to_int h h0]
  dsimp only
  rw [if_pos]
  have e1 : IntKind.i64.min = -9223372036854775808 := by decide
  have e2 : IntKind.i64.max = 9223372036854775807 := by decide
  rw [e1, e2]
  omega
theorem rt_some {x : Nat} {a : Int} (h : fv x = some a) (h0 : 0 ≤ a) : rt x = decide (a < 2147483648 * (unit : Int) ∧ a / (unit : Int) * (unit : Int) = a) := by
  unfold rt
  rw [h]
  simp [h0]

theorem ret_bool {a b : Bool} (h : a = b) : Ending.returned (.bool a) = .returned (.bool b) := by rw [h]
theorem ret_int {k : IntKind} {a b : Int} (h : a = b) : Ending.returned (.int k a) = .returned (.int k b) := by rw [h]
theorem fi_fv (n : Int) (h0 : 0 ≤ n) (h : n < 9007199254740992) : fv (floatOfInt .f64 n) = some (n * (unit : Int)) := wd_fv n h0 h
theorem fi_rt (n : Int) (h0 : 0 ≤ n) (h : n ≤ 2147483647) : rt (floatOfInt .f64 n) = true := (rt_wd n h0 h).1
theorem fi_nm (n : Int) (h0 : 0 ≤ n) (h : n ≤ 2147483647) : nm (floatOfInt .f64 n) = n := (rt_wd n h0 h).2
theorem quot (a : Int) (h0 : 0 ≤ a) : 0 ≤ a / (unit : Int) ∧ a / (unit : Int) * (unit : Int) ≤ a ∧ a < (a / (unit : Int) + 1) * (unit : Int) := by
  have hu := unit_int
  refine ⟨Int.ediv_nonneg h0 (Int.le_of_lt hu), Int.ediv_mul_le a (by omega), ?_⟩
  exact Int.lt_ediv_add_one_mul_self a hu
/-- Between: what the three tests of a number from 0 on answer. -/
theorem between {x : Nat} {a : Int} (hf : fv x = some a) (h0 : 0 ≤ a) :
    (FloatKind.f64.format.order x 0 = some .gt ∨ FloatKind.f64.format.order x 0 = some .eq) ∧
    ((2147483648 * (unit : Int) ≤ a ∧ rt x = false ∧ FloatKind.f64.format.order x 4746794007244308480 = some .gt ∧ (FloatKind.f64.format.order x 4746794007248502784 = some .gt ∨ FloatKind.f64.format.order x 4746794007248502784 = some .eq)) ∨
     (2147483647 * (unit : Int) < a ∧ a < 2147483648 * (unit : Int) ∧ rt x = false ∧ FloatKind.f64.format.order x 4746794007244308480 = some .gt ∧ FloatKind.f64.format.order x 4746794007248502784 = some .lt) ∨
     (a ≤ 2147483647 * (unit : Int) ∧ (FloatKind.f64.format.order x 4746794007244308480 = some .lt ∨ FloatKind.f64.format.order x 4746794007244308480 = some .eq) ∧ FloatKind.f64.format.order x 4746794007248502784 = some .lt)) := by
  have hu := unit_int
  constructor
  · rw [fv_order hf fv_zero]
    rcases Int.lt_or_le 0 a with h | h
    · exact .inl (by rw [ord_gt.2 h])
    · exact .inr (by rw [ord_eq.2 (by omega)])
  · rw [fv_order hf fv_most, fv_order hf fv_over]
    rcases Int.lt_or_le a (2147483648 * (unit : Int)) with h | h
    · rcases Int.lt_or_le (2147483647 * (unit : Int)) a with h' | h'
      · refine .inr (.inl ⟨h', h, ?_, by rw [ord_gt.2 h'], by rw [ord_lt.2 h]⟩)
        rw [rt_some hf h0, decide_eq_false_iff_not]
        rintro ⟨_, h2⟩
        have q := quot a h0
        have e : a / (unit : Int) < 2147483648 := Int.ediv_lt_of_lt_mul hu h
        have g : 2147483647 < a / (unit : Int) := by
          rw [← h2] at h'
          exact Int.lt_of_mul_lt_mul_right h' (Int.le_of_lt hu)
        omega
      · refine .inr (.inr ⟨h', ?_, by rw [ord_lt.2 h]⟩)
        rcases Int.lt_or_le a (2147483647 * (unit : Int)) with h2 | h2
        · exact .inl (by rw [ord_lt.2 h2])
        · exact .inr (by rw [ord_eq.2 (by omega)])
    · refine .inl ⟨h, ?_, by rw [ord_gt.2 (by omega)], ?_⟩
      · rw [rt_some hf h0, decide_eq_false_iff_not]
        rintro ⟨h1, _⟩
        omega
      · rcases Int.lt_or_le (2147483648 * (unit : Int)) a with h2 | h2
        · exact .inl (by rw [ord_gt.2 h2])
        · exact .inr (by rw [ord_eq.2 (by omega)])
/-- A number against what is left of it once it was cut. -/
theorem against {x y : Nat} {a : Int} (hf : fv x = some a) (h0 : 0 ≤ a) (h1 : a < 2147483648 * (unit : Int)) (hy : fv y = some (a / (unit : Int) * (unit : Int))) :
    (rt x = true ∧ FloatKind.f64.format.order x y = some .eq ∧ FloatKind.f64.format.order y x = some .eq) ∨ (rt x = false ∧ FloatKind.f64.format.order x y = some .gt ∧ FloatKind.f64.format.order y x = some .lt) := by
  rw [fv_order hf hy, fv_order hy hf, rt_some hf h0]
  have q := (quot a h0).2.1
  rcases Int.lt_or_le (a / (unit : Int) * (unit : Int)) a with h | h
  · refine .inr ⟨?_, by rw [ord_gt.2 h], by rw [ord_lt.2 h]⟩
    rw [decide_eq_false_iff_not]
    omega
  · have e : a / (unit : Int) * (unit : Int) = a := by omega
    refine .inl ⟨?_, by rw [ord_eq.2 e.symm], by rw [ord_eq.2 e]⟩
    rw [decide_eq_true_eq]
    exact ⟨h1, e⟩

set_option maxHeartbeats 400000 in
theorem isPart_calls (x : Nat) (w : World) : Calls Tryz.prog 52 #[.float .f64 x] w fun e w' => e = .returned (.bool (rt x)) ∧ w = w' := by
  rcases ways x with ⟨hr, h | h⟩ | ⟨hr, h, h', _⟩ | ⟨a, hf, h0⟩
  · go_enter Tryz.func52, Tryz.ntmps52
    go_wp2
    go_ret
    exact ⟨ret_bool hr.symm, rfl⟩
  · go_enter Tryz.func52, Tryz.ntmps52
    go_wp2
    go_ret
    exact ⟨ret_bool hr.symm, rfl⟩
  · go_enter Tryz.func52, Tryz.ntmps52
    go_wp2
    go_ret
    exact ⟨ret_bool hr.symm, rfl⟩
  · obtain ⟨k1, ⟨_, hr, k2, _⟩ | ⟨_, _, hr, k2, _⟩ | ⟨hm, k2, _⟩⟩ := between hf h0
    · rcases k1 with k1 | k1
      all_goals
        clear hf h0
        go_enter Tryz.func52, Tryz.ntmps52
        go_wp2
        go_ret
        exact ⟨ret_bool hr.symm, rfl⟩
    · rcases k1 with k1 | k1
      all_goals
        clear hf h0
        go_enter Tryz.func52, Tryz.ntmps52
        go_wp2
        go_ret
        exact ⟨ret_bool hr.symm, rfl⟩
    rcases k1 with k1 | k1
    all_goals
      have hu := unit_int
      have hlt : a < 2147483648 * (unit : Int) := by omega
      have hq := int_of hf h0 hlt
      have hq0 := (quot a h0).1
      have hq1 : a / (unit : Int) < 2147483648 := Int.ediv_lt_of_lt_mul hu hlt
      have hy := fi_fv _ hq0 (by omega)
      have hag := against hf h0 hlt hy
      generalize a / (unit : Int) = q at hq hq0 hq1 hy hag
      have hcv := fun w => run_convert_float_int (P := Tryz.prog) w 74 3 .f64 .i64 x q (by kernel_rfl) (by kernel_rfl) hq
      clear hq hf hy hm hlt hu
      rcases k2 with k2 | k2 <;> rcases hag with ⟨hr, k3, _⟩ | ⟨hr, k3, _⟩
      all_goals
        go_enter Tryz.func52, Tryz.ntmps52
        go_wp2
        go_ret
        exact ⟨ret_bool hr.symm, rfl⟩

set_option maxHeartbeats 400000 in
theorem floor_calls (x : Nat) (a : Int) (w : World) (hf : fv x = some a) : Calls Tryz.prog 79 #[.float .f64 x] w fun e w' => e = .returned (.float .f64 (FloatKind.f64.encode ((FloatKind.f64.decode x).integral .down))) ∧ w = w' := by
  obtain ⟨s, m, i, hr, hi, _⟩ := fv_num hf
  have hcall : ∀ w, (callFunc 90 #[.float .f64 x]).run Tryz.prog w = .ok (.value (.float .f64 (FloatKind.f64.encode ((FloatKind.f64.decode x).integral .down)))) w := by
    intro w
    rw [run_callFunc_extern (P := Tryz.prog) (f := 90) (fn := Tryz.f90) (e := Extern.MathFloor.toIntegral "math.archFloor" .down) (by kernel_rfl) (by kernel_rfl) (by kernel_rfl) (by kernel_rfl) (by kernel_rfl)]
    have hd : FloatKind.f64.decode x = .number s m i := hr
    have ht : Extern.MathFloor.toIntegral "math.archFloor" .down #[.float .f64 x] = pure (.float .f64 (FloatKind.f64.encode ((FloatKind.f64.decode x).integral .down))) := by
      delta Extern.MathFloor.toIntegral
      generalize @FloatKind.decode = D at *
      conv => lhs; whnf
      rw [hd]
    rw [ht]
    rfl
  clear hf hr hi
  go_enter Tryz.func79, Tryz.ntmps79
  go_wp2
  go_ret
  exact ⟨rfl, rfl⟩

set_option maxHeartbeats 400000 in
theorem part_calls (x : Nat) (w : World) : Calls Tryz.prog 73 #[.float .f64 x] w fun e w' => e = .returned (.bool (rt x)) ∧ w = w' := by
  rcases ways x with ⟨hr, h | h⟩ | ⟨hr, h, _, h'⟩ | ⟨a, hf, h0⟩
  · go_enter Tryz.func73, Tryz.ntmps73
    go_wp2
    go_ret
    exact ⟨ret_bool hr.symm, rfl⟩
  · go_enter Tryz.func73, Tryz.ntmps73
    go_wp2
    go_ret
    exact ⟨ret_bool hr.symm, rfl⟩
  · go_enter Tryz.func73, Tryz.ntmps73
    go_wp2
    go_ret
    exact ⟨ret_bool hr.symm, rfl⟩
  · rcases Int.lt_or_le a (2147483648 * (unit : Int)) with hlt | hge
    · have hy := floor_fv hf h0 hlt
      have hag := against hf h0 hlt hy
      have k2 : FloatKind.f64.format.order x 4746794007248502784 = some .lt := by rw [fv_order hf fv_over, ord_lt.2 hlt]
      obtain ⟨k1, _⟩ := between hf h0
      clear hy hlt h0
      rcases k1 with k1 | k1 <;> rcases hag with ⟨hr, _, k3⟩ | ⟨hr, _, k3⟩
      all_goals
        go_enter Tryz.func73, Tryz.ntmps73
        go_wp2_with (go_at_call 79; refine (floor_calls x a _ hf).mono ?_; rintro e w' ⟨rfl, rfl⟩)
        go_ret
        exact ⟨ret_bool hr.symm, rfl⟩
    · obtain ⟨k1, ⟨_, hr, _, k2⟩ | ⟨_, h, _, _⟩ | ⟨h, _, _⟩⟩ := between hf h0
      · rcases k1 with k1 | k1 <;> rcases k2 with k2 | k2
        all_goals
          go_enter Tryz.func73, Tryz.ntmps73
          go_wp2
          go_ret
          exact ⟨ret_bool hr.symm, rfl⟩
      · omega
      · have hu := unit_int
        omega

theorem nm_conv {x : Nat} (h : rt x = true) : floatToIntVal .f64 x .i64 = some (nm x) := by
  obtain ⟨h1, h2, h3⟩ := rt_fv h
  have hu := unit_int
  have e := int_of h1 (Int.mul_nonneg h2 (Int.le_of_lt hu)) (Int.mul_lt_mul_of_pos_right (by omega) hu)
  rwa [Int.mul_ediv_cancel _ (by omega)] at e
theorem conv_run {P : Program} {s d : TypeId} {x : Nat} (h : rt x = true) (hs : (P.underlying s).isSome = true) (hd : P.underlying d = some (.int .i64)) (w : World) :
    (convert s d (.float .f64 x)).run P w = .ok (.int .i64 (nm x)) w := run_convert_float_int w s d .f64 .i64 x (nm x) hs hd (nm_conv h)

set_option maxHeartbeats 400000 in
theorem parts_yes (x y : Nat) (w : World) (hx : rt x = true) (hy : rt y = true) :
    Calls Tryz.prog 21 #[.complex .f64 x y] w fun e w' => e = .returned (.tuple #[.int .i64 (nm x), .int .i64 (nm y), .bool true]) ∧ w = w' := by
  have c1 := fun w => conv_run (P := Tryz.prog) (s := 74) (d := 3) hx (by kernel_rfl) (by kernel_rfl) w
  have c2 := fun w => conv_run (P := Tryz.prog) (s := 74) (d := 3) hy (by kernel_rfl) (by kernel_rfl) w
  go_enter Tryz.func21, Tryz.ntmps21
  go_wp2_with (go_at_call 52; refine (isPart_calls _ _).mono ?_; rintro e w' ⟨rfl, rfl⟩)
  go_ret3
  exact ⟨rfl, rfl⟩
set_option maxHeartbeats 400000 in
theorem parts_no (x y : Nat) (w : World) (h : (rt x && rt y) = false) :
    Calls Tryz.prog 21 #[.complex .f64 x y] w fun e w' => e = .returned (.tuple #[.int .i64 0, .int .i64 0, .bool false]) ∧ w = w' := by
  cases hx : rt x
  · clear h
    go_enter Tryz.func21, Tryz.ntmps21
    go_wp2_with (go_at_call 52; refine (isPart_calls x _).mono ?_; rintro e w' ⟨rfl, rfl⟩)
    go_ret3
    exact ⟨rfl, rfl⟩
  · have hy : rt y = false := by rw [hx] at h; simpa using h
    clear h
    go_enter Tryz.func21, Tryz.ntmps21
    go_wp2_with (go_at_call 52; refine (isPart_calls _ _).mono ?_; rintro e w' ⟨rfl, rfl⟩)
    go_ret3
    exact ⟨rfl, rfl⟩
set_option maxHeartbeats 400000 in
theorem right_calls (x y : Nat) (w : World) : Calls Tryz.prog 56 #[.complex .f64 x y] w fun e w' => e = .returned (.bool (rt x && rt y)) ∧ w = w' := by
  cases hx : rt x
  · go_enter Tryz.func56, Tryz.ntmps56
    go_wp2_with (go_at_call 73; refine (part_calls x _).mono ?_; rintro e w' ⟨rfl, rfl⟩)
    go_ret
    exact ⟨rfl, rfl⟩
  · cases hy : rt y
    all_goals
      go_enter Tryz.func56, Tryz.ntmps56
      go_wp2_with (go_at_call 73; refine (part_calls _ _).mono ?_; rintro e w' ⟨rfl, rfl⟩)
      go_ret
      exact ⟨rfl, rfl⟩
set_option maxHeartbeats 400000 in
theorem sector_calls (x y : Nat) (w : World) (hx : rt x = true) : Calls Tryz.prog 29 #[.complex .f64 x y] w fun e w' => e = .returned (.int .i64 (nm x)) ∧ w = w' := by
  have c1 := fun w => conv_run (P := Tryz.prog) (s := 74) (d := 3) hx (by kernel_rfl) (by kernel_rfl) w
  go_enter Tryz.func29, Tryz.ntmps29
  go_wp2
  go_ret
  exact ⟨rfl, rfl⟩
set_option maxHeartbeats 400000 in
theorem offset_calls (x y : Nat) (w : World) (hy : rt y = true) : Calls Tryz.prog 31 #[.complex .f64 x y] w fun e w' => e = .returned (.int .i64 (nm y)) ∧ w = w' := by
  have c1 := fun w => conv_run (P := Tryz.prog) (s := 74) (d := 3) hy (by kernel_rfl) (by kernel_rfl) w
  go_enter Tryz.func31, Tryz.ntmps31
  go_wp2
  go_ret
  exact ⟨rfl, rfl⟩
set_option maxHeartbeats 400000 in
theorem of_yes (s o : Int) (w : World) (hs0 : 0 ≤ s) (hs1 : s ≤ 2147483647) (ho0 : 0 ≤ o) (ho1 : o ≤ 2147483647) :
    Calls Tryz.prog 7 #[.int .i64 s, .int .i64 o] w fun e w' => e = .returned (.complex .f64 (floatOfInt .f64 s) (floatOfInt .f64 o)) ∧ w = w' := by
  go_enter Tryz.func7, Tryz.ntmps7
  go_wp2
  go_ret
  exact ⟨rfl, rfl⟩
set_option maxHeartbeats 400000 in
theorem of_no (s o : Int) (w : World) (h : s < 0 ∨ 2147483647 < s ∨ o < 0 ∨ 2147483647 < o) :
    Calls Tryz.prog 7 #[.int .i64 s, .int .i64 o] w fun e w' => e = .returned (.complex .f64 0 0) ∧ w = w' := by
  have h' : s < 0 ∨ (0 ≤ s ∧ 2147483647 < s) ∨ (0 ≤ s ∧ s ≤ 2147483647 ∧ o < 0) ∨ (0 ≤ s ∧ s ≤ 2147483647 ∧ 0 ≤ o ∧ 2147483647 < o) := by omega
  clear h
  rcases h' with h | ⟨h1, h2⟩ | ⟨h1, h2, h3⟩ | ⟨h1, h2, h3, h4⟩
  all_goals
    go_enter Tryz.func7, Tryz.ntmps7
    go_wp2
    go_ret
    exact ⟨rfl, rfl⟩
end Go.Proofs.YthbafcihmcjchaaGreatDoor.PlaceV
