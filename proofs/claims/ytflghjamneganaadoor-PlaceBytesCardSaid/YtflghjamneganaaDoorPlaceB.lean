/- The walk of layer 2's law PlaceBytes: a place as three bytes, and back. The package's variable 'nowhere' reads as three bytes 255. -/
import Derived.Test.YtflghjamneganaaDoorPlaceF
import Derived.Below
import Derived.Deep.QuietTactic
import Derived.BigQuiet
import Derived.WalkSmall
import Derived.Deep.RegionHeld3
import Derived.Laws.StructEq
import Derived.Laws.BitsAllLaws
import Derived.Laws.BitsLemmas
namespace Go.Proofs.YtflghjamneganaaDoor.PlaceB
open Go.RowKit
open Go.Proofs.YtflghjamneganaaDoor.PlaceM Go.Proofs.YtflghjamneganaaDoor.PlaceW Go.Proofs.YtflghjamneganaaDoor.PlaceF

/-- The package's variable 'nowhere' reads as three bytes 255. -/
def Nowhere (w : World) : Prop := 0 < w.heap.size ∧ w.cell? ⟨0, 0, none⟩ = some (.int .u8 255) ∧ w.cell? ⟨0, 1, none⟩ = some (.int .u8 255) ∧ w.cell? ⟨0, 2, none⟩ = some (.int .u8 255)
theorem Nowhere.below {w w' : World} (h : Nowhere w) (hb : Below w.heap.size w w') : Nowhere w' :=
  ⟨Nat.lt_of_lt_of_le h.1 hb.size, (hb.cell (p := ⟨0, 0, none⟩) h.1).trans h.2.1, (hb.cell (p := ⟨0, 1, none⟩) h.1).trans h.2.2.1, (hb.cell (p := ⟨0, 2, none⟩) h.1).trans h.2.2.2⟩

theorem eq3 (a b c a' b' c' : Int) (w : World) : (Op.equalIn 10000 23 (.agg #[.int .u8 a, .int .u8 b, .int .u8 c]) (.agg #[.int .u8 a', .int .u8 b', .int .u8 c'])).run Tryd.prog w = .ok (a == a' && (b == b' && c == c')) w := by
  have u5 := Tryd.underlying5
  have a5 := Tryd.isAgg5
  have z5 := Tryd.sizeOf5
  rw [show (10000 : Nat) = 9999 + 1 from rfl, Op.equalIn]
  simp only [Sem.run_bind, run_underlying Tryd.underlying23, Result.andThen_ok]
  simp only [Std.Legacy.Range.forIn_eq_forIn_range', Std.Legacy.Range.size, Nat.sub_zero, Nat.add_sub_cancel, Nat.div_one, List.range'_succ, List.range'_zero, List.forIn_cons, List.forIn_nil]
  go_simp
  by_cases h1 : a = a' <;> by_cases h2 : b = b' <;> by_cases h3 : c = c' <;> simp [h1, h2, h3]
theorem i64_or_nat (a b : Nat) (ha : a < 9223372036854775808) (hb : b < 9223372036854775808) : bits .or .i64 (a : Int) (b : Int) = ((a ||| b : Nat) : Int) := by
  have o : ∀ a : Nat, a < 9223372036854775808 → (BitVec.ofInt 64 (a : Int)).toNat = a := fun a ha => by
    rw [BitVec.ofInt_natCast, BitVec.toNat_ofNat]; exact Nat.mod_eq_of_lt (by omega)
  have hx : a ||| b < 2 ^ 63 := Nat.or_lt_two_pow (by omega) (by omega)
  show IntKind.i64.wrap ((BitVec.ofInt 64 (a : Int) ||| BitVec.ofInt 64 (b : Int)).toNat : Int) = _
  rw [BitVec.toNat_or, o a ha, o b hb, IntKind.wrap_i64]
  omega
theorem join8 (b c : Int) (b0 : 0 ≤ b) (b1 : b ≤ 255) (c0 : 0 ≤ c) (c1 : c ≤ 255) : bits .or .i64 (b * 256) c = 256 * b + c := by
  obtain ⟨m, rfl⟩ := Int.eq_ofNat_of_zero_le b0
  obtain ⟨n, rfl⟩ := Int.eq_ofNat_of_zero_le c0
  have e : ((m : Int) * 256) = ((m * 256 : Nat) : Int) := by omega
  rw [e, i64_or_nat _ _ (by omega) (by omega), Nat.mul_comm, ← Nat.two_pow_add_eq_or_of_lt (i := 8) (by omega : n < 2 ^ 8) m]
  omega

set_option maxHeartbeats 400000 in
theorem put_wrong (x y : Nat) (w : World) (h : (rt x && rt y) = false) (hg : Nowhere w) :
    Calls Tryd.prog 5 #[.complex .f64 x y] w fun e w' => e = .returned (.agg #[.int .u8 255, .int .u8 255, .int .u8 255]) ∧ Below w.heap.size w w' := by
  obtain ⟨hs, g0, g1, g2⟩ := hg
  go_enter Tryd.func5, Tryd.ntmps5
  go_wp2_with (go_at_call 13; refine (parts_no _ _ _ h).mono ?_; rintro e w' ⟨rfl, rfl⟩)
  exact bodyPost_ret (v := .agg #[.int .u8 255, .int .u8 255, .int .u8 255]) (by simp [results, Tryd.results5, go_sem]) rfl ⟨rfl, (Below.refl _ _).alloc (Nat.le_refl _) _⟩
theorem parts_is {x y : Nat} {s o : Int} (w : World) (hx : rt x = true) (hy : rt y = true) (hs : nm x = s) (ho : nm y = o) :
    Calls Tryd.prog 13 #[.complex .f64 x y] w fun e w' => e = .returned (.tuple #[.int .i64 s, .int .i64 o, .bool true]) ∧ w = w' := by
  subst hs
  subst ho
  exact parts_yes x y w hx hy
set_option maxHeartbeats 400000 in
theorem put_out (x y : Nat) (s o : Int) (w : World) (hx : rt x = true) (hy : rt y = true) (hs : nm x = s) (ho : nm y = o) (h : 254 < s ∨ 65535 < o) (hg : Nowhere w) :
    Calls Tryd.prog 5 #[.complex .f64 x y] w fun e w' => e = .returned (.agg #[.int .u8 255, .int .u8 255, .int .u8 255]) ∧ Below w.heap.size w w' := by
  obtain ⟨hz, g0, g1, g2⟩ := hg
  have C := Lib.hid (fun w => parts_is w hx hy hs ho)
  clear hs ho hx hy
  have h' : 254 < s ∨ (s ≤ 254 ∧ 65535 < o) := by omega
  clear h
  rcases h' with h | ⟨h, h2⟩
  all_goals
    go_enter Tryd.func5, Tryd.ntmps5
    go_wp2_with (go_at_call 13; refine (C.out _).mono ?_; rintro e w' ⟨rfl, rfl⟩)
    exact bodyPost_ret (v := .agg #[.int .u8 255, .int .u8 255, .int .u8 255]) (by simp [results, Tryd.results5, go_sem]) rfl ⟨rfl, (Below.refl _ _).alloc (Nat.le_refl _) _⟩
set_option maxHeartbeats 400000 in
theorem put_yes (x y : Nat) (s o : Int) (w : World) (hx : rt x = true) (hy : rt y = true) (hs : nm x = s) (ho : nm y = o) (hs0 : 0 ≤ s) (hs1 : s ≤ 254) (ho0 : 0 ≤ o) (ho1 : o ≤ 65535) :
    Calls Tryd.prog 5 #[.complex .f64 x y] w fun e w' => e = .returned (.agg #[.int .u8 s, .int .u8 (o / 256), .int .u8 (o % 256)]) ∧ Below w.heap.size w w' := by
  have C := Lib.hid (fun w => parts_is w hx hy hs ho)
  clear hs ho hx hy
  go_enter Tryd.func5, Tryd.ntmps5
  go_wp2_with (go_at_call 13; refine (C.out _).mono ?_; rintro e w' ⟨rfl, rfl⟩)
  exact bodyPost_ret (v := .agg #[.int .u8 s, .int .u8 (o / 256), .int .u8 (o % 256)]) (by simp [results, Tryd.results5, go_sem]) rfl ⟨rfl, (Below.refl _ _).alloc (Nat.le_refl _) _⟩
set_option maxHeartbeats 400000 in
theorem get_none (w : World) (hg : Nowhere w) :
    Calls Tryd.prog 9 #[.agg #[.int .u8 255, .int .u8 255, .int .u8 255]] w fun e w' => e = .returned (.complex .f64 13830554455654793216 0) ∧ Below w.heap.size w w' := by
  obtain ⟨hz, g0, g1, g2⟩ := hg
  have heq := eq3 255 255 255 255 255 255
  go_enter Tryd.func9, Tryd.ntmps9
  go_wp2
  go_ret
  exact ⟨rfl, (Below.refl _ _).alloc (Nat.le_refl _) _⟩
set_option maxHeartbeats 400000 in
theorem get_yes (a b c : Int) (w : World) (a0 : 0 ≤ a) (a1 : a ≤ 255) (b0 : 0 ≤ b) (b1 : b ≤ 255) (c0 : 0 ≤ c) (c1 : c ≤ 255) (h : ¬ (a = 255 ∧ b = 255 ∧ c = 255)) (hg : Nowhere w) :
    Calls Tryd.prog 9 #[.agg #[.int .u8 a, .int .u8 b, .int .u8 c]] w fun e w' => e = .returned (.complex .f64 (floatOfInt .f64 a) (floatOfInt .f64 (256 * b + c))) ∧ Below w.heap.size w w' := by
  obtain ⟨hz, g0, g1, g2⟩ := hg
  have hne : (a == 255 && (b == 255 && c == 255)) = false := by
    rw [Bool.eq_false_iff]
    intro k
    simp only [Bool.and_eq_true, beq_iff_eq] at k
    exact h k
  have heq := fun w => eq3 a b c 255 255 255 w
  rw [hne] at heq
  have hj := join8 b c b0 b1 c0 c1
  clear h hne
  go_enter Tryd.func9, Tryd.ntmps9
  go_wp2_with (go_at_call 15; refine (of_yes _ _ _ (by omega) (by omega) (by omega) (by omega)).mono ?_; rintro e w' ⟨rfl, rfl⟩)
  go_ret
  exact ⟨rfl, (Below.refl _ _).alloc (Nat.le_refl _) _⟩
set_option maxHeartbeats 400000 in
theorem refget_none (w : World) :
    Calls Tryd.prog 11 #[.int .u8 255, .int .u8 255, .int .u8 255] w fun e w' => e = .returned (.complex .f64 13830554455654793216 0) ∧ w = w' := by
  go_enter Tryd.func11, Tryd.ntmps11
  go_wp2
  go_ret
  exact ⟨rfl, rfl⟩
set_option maxHeartbeats 400000 in
theorem refget_yes (a b c : Int) (w : World) (a0 : 0 ≤ a) (a1 : a ≤ 255) (b0 : 0 ≤ b) (b1 : b ≤ 255) (c0 : 0 ≤ c) (c1 : c ≤ 255) (h : ¬ (a = 255 ∧ b = 255 ∧ c = 255)) :
    Calls Tryd.prog 11 #[.int .u8 a, .int .u8 b, .int .u8 c] w fun e w' => e = .returned (.complex .f64 (floatOfInt .f64 a) (floatOfInt .f64 (256 * b + c))) ∧ w = w' := by
  have hc : (a == 255) = false ∨ ((a == 255) = true ∧ (b == 255) = false) ∨ ((a == 255) = true ∧ (b == 255) = true ∧ (c == 255) = false) := by
    by_cases h1 : a = 255
    · by_cases h2 : b = 255
      · exact .inr (.inr ⟨by simpa using h1, by simpa using h2, by simpa using fun h3 => h ⟨h1, h2, h3⟩⟩)
      · exact .inr (.inl ⟨by simpa using h1, by simpa using h2⟩)
    · exact .inl (by simpa using h1)
  clear h
  rcases hc with k1 | ⟨k1, k2⟩ | ⟨k1, k2, k3⟩
  all_goals
    go_enter Tryd.func11, Tryd.ntmps11
    go_wp2_with (go_at_call 17; refine (refof_yes _ _ _ (by omega) (by omega) (by omega) (by omega)).mono ?_; rintro e w' ⟨rfl, rfl⟩)
    go_ret
    exact ⟨rfl, rfl⟩

theorem order_minus : FloatKind.f64.format.order 13830554455654793216 13830554455654793216 = some .eq := by
  have hr : FloatKind.f64.format.read 13830554455654793216 = .number true 4503599627370496 (-52) := by decide +kernel
  exact same_order (a := Ieee.signed true 4503599627370496 (-52 + 1074 : Int).toNat) (by unfold fv; rw [hr]; rfl)

/-- What holds of the law's world: what was there has not turned, 'nowhere' reads as it did, the bytes c stand in their block. -/
def St (w : World) (c0 c1 c2 : Int) (v : World) : Prop :=
  Below w.heap.size w v ∧ Nowhere v ∧ w.heap.size < v.heap.size ∧ v.cell? ⟨w.heap.size, 0, none⟩ = some (.int .u8 c0) ∧ v.cell? ⟨w.heap.size, 1, none⟩ = some (.int .u8 c1) ∧ v.cell? ⟨w.heap.size, 2, none⟩ = some (.int .u8 c2)
theorem St.first {w : World} {c0 c1 c2 : Int} (t : TypeId) (hg : Nowhere w) : St w c0 c1 c2 (w.alloc (.cells #[.int .u8 c0, .int .u8 c1, .int .u8 c2] t)) :=
  ⟨(Below.refl _ _).alloc (Nat.le_refl _) _, hg.below ((Below.refl _ _).alloc (Nat.le_refl _) _), by simp, by rw [cell_of_row _ _ _ _ _ _ (heap_alloc_new _ _)]; rfl, by rw [cell_of_row _ _ _ _ _ _ (heap_alloc_new _ _)]; rfl, by rw [cell_of_row _ _ _ _ _ _ (heap_alloc_new _ _)]; rfl⟩
theorem St.below {w v v' : World} {c0 c1 c2 : Int} (h : St w c0 c1 c2 v) (hb : Below v.heap.size v v') : St w c0 c1 c2 v' :=
  ⟨h.1.trans (hb.mono h.1.size), h.2.1.below hb, Nat.lt_of_lt_of_le h.2.2.1 hb.size, (hb.cell (p := ⟨w.heap.size, 0, none⟩) h.2.2.1).trans h.2.2.2.1, (hb.cell (p := ⟨w.heap.size, 1, none⟩) h.2.2.1).trans h.2.2.2.2.1, (hb.cell (p := ⟨w.heap.size, 2, none⟩) h.2.2.1).trans h.2.2.2.2.2⟩
theorem St.alloc {w v : World} {c0 c1 c2 : Int} (h : St w c0 c1 c2 v) (o : Obj) : St w c0 c1 c2 (v.alloc o) := h.below ((Below.refl _ _).alloc (Nat.le_refl _) _)

theorem St.now {w v : World} {c0 c1 c2 : Int} (h : St w c0 c1 c2 v) : Nowhere v := h.2.1
theorem St.cells {w v : World} {c0 c1 c2 : Int} (h : St w c0 c1 c2 v) : w.heap.size < v.heap.size ∧ v.cell? ⟨w.heap.size, 0, none⟩ = some (.int .u8 c0) ∧ v.cell? ⟨w.heap.size, 1, none⟩ = some (.int .u8 c1) ∧ v.cell? ⟨w.heap.size, 2, none⟩ = some (.int .u8 c2) := h.2.2
theorem fixed_same (w : World) : Calls Tryd.prog 10 #[] w fun e w' => e = .returned (.bool true) ∧ w' = w := (fixed_calls w).mono fun _ _ h => ⟨h.1, h.2.symm⟩
theorem refget_yes_same (a b c : Int) (w : World) (a0 : 0 ≤ a) (a1 : a ≤ 255) (b0 : 0 ≤ b) (b1 : b ≤ 255) (c0 : 0 ≤ c) (c1 : c ≤ 255) (h : ¬ (a = 255 ∧ b = 255 ∧ c = 255)) :
    Calls Tryd.prog 11 #[.int .u8 a, .int .u8 b, .int .u8 c] w fun e w' => e = .returned (.complex .f64 (floatOfInt .f64 a) (floatOfInt .f64 (256 * b + c))) ∧ w' = w := (refget_yes a b c w a0 a1 b0 b1 c0 c1 h).mono fun _ _ h => ⟨h.1, h.2.symm⟩
theorem refget_none_same (w : World) : Calls Tryd.prog 11 #[.int .u8 255, .int .u8 255, .int .u8 255] w fun e w' => e = .returned (.complex .f64 13830554455654793216 0) ∧ w' = w := (refget_none w).mono fun _ _ h => ⟨h.1, h.2.symm⟩

/-- What the first part of the law meets: a place that isn't right; one whose sector, whose offset is too great; one that is put and got. -/
theorem modes (x y : Nat) :
    ((rt x && rt y) = false ∧ (∀ W, Nowhere W → Calls Tryd.prog 5 #[.complex .f64 x y] W fun e w' => e = .returned (.agg #[.int .u8 255, .int .u8 255, .int .u8 255]) ∧ Below W.heap.size W w')) ∨
    ((rt x && rt y) = true ∧ ∃ s : Int, (∀ W, Calls Tryd.prog 7 #[.complex .f64 x y] W fun e w' => e = .returned (.int .i64 s) ∧ W = w') ∧ 255 ≤ s ∧
      (∀ W, Nowhere W → Calls Tryd.prog 5 #[.complex .f64 x y] W fun e w' => e = .returned (.agg #[.int .u8 255, .int .u8 255, .int .u8 255]) ∧ Below W.heap.size W w')) ∨
    ((rt x && rt y) = true ∧ ∃ s : Int, (∀ W, Calls Tryd.prog 7 #[.complex .f64 x y] W fun e w' => e = .returned (.int .i64 s) ∧ W = w') ∧ s < 255 ∧
      ∃ o : Int, (∀ W, Calls Tryd.prog 8 #[.complex .f64 x y] W fun e w' => e = .returned (.int .i64 o) ∧ W = w') ∧ 65536 ≤ o ∧
      (∀ W, Nowhere W → Calls Tryd.prog 5 #[.complex .f64 x y] W fun e w' => e = .returned (.agg #[.int .u8 255, .int .u8 255, .int .u8 255]) ∧ Below W.heap.size W w')) ∨
    ((rt x && rt y) = true ∧ ∃ s : Int, (∀ W, Calls Tryd.prog 7 #[.complex .f64 x y] W fun e w' => e = .returned (.int .i64 s) ∧ W = w') ∧ s < 255 ∧
      ∃ o : Int, (∀ W, Calls Tryd.prog 8 #[.complex .f64 x y] W fun e w' => e = .returned (.int .i64 o) ∧ W = w') ∧ o < 65536 ∧
      ∃ u0 u1 u2 : Int, (∀ W, Nowhere W → Calls Tryd.prog 5 #[.complex .f64 x y] W fun e w' => e = .returned (.agg #[.int .u8 u0, .int .u8 u1, .int .u8 u2]) ∧ Below W.heap.size W w') ∧
      (∀ W, Nowhere W → Calls Tryd.prog 9 #[.agg #[.int .u8 u0, .int .u8 u1, .int .u8 u2]] W fun e w' => e = .returned (.complex .f64 (floatOfInt .f64 s) (floatOfInt .f64 o)) ∧ Below W.heap.size W w') ∧
      FloatKind.f64.format.order (floatOfInt .f64 s) x = some .eq ∧ FloatKind.f64.format.order (floatOfInt .f64 o) y = some .eq ∧
      ∀ W : World, (Op.equalIn 10000 23 (.agg #[.int .u8 u0, .int .u8 u1, .int .u8 u2]) (.agg #[.int .u8 255, .int .u8 255, .int .u8 255])).run Tryd.prog W = .ok false W) := by
  cases hr : (rt x && rt y)
  · exact .inl ⟨rfl, fun W hW => put_wrong x y W hr hW⟩
  · have hx : rt x = true := by simp at hr; exact hr.1
    have hy : rt y = true := by simp at hr; exact hr.2
    obtain ⟨_, x0, x1⟩ := rt_fv hx
    obtain ⟨_, y0, y1⟩ := rt_fv hy
    refine .inr ?_
    rcases Int.lt_or_le (nm x) 255 with h1 | h1
    · refine .inr ?_
      rcases Int.lt_or_le (nm y) 65536 with h2 | h2
      · refine .inr ⟨rfl, nm x, fun W => sector_calls x y W hx, h1, nm y, fun W => offset_calls x y W hy, h2, nm x, nm y / 256, nm y % 256, fun W _ => put_yes x y _ _ W hx hy rfl rfl x0 (by omega) y0 (by omega), fun W hW => ?_, order_back hx, order_back hy, fun W => ?_⟩
        · have e : 256 * (nm y / 256) + nm y % 256 = nm y := by omega
          have h := get_yes (nm x) (nm y / 256) (nm y % 256) W x0 (by omega) (by omega) (by omega) (by omega) (by omega) (by omega) hW
          rw [e] at h
          exact h
        · have hne : (nm x == 255 && (nm y / 256 == 255 && nm y % 256 == 255)) = false := by
            rw [Bool.eq_false_iff]
            intro k
            simp only [Bool.and_eq_true, beq_iff_eq] at k
            omega
          have h := eq3 (nm x) (nm y / 256) (nm y % 256) 255 255 255 W
          rw [hne] at h
          exact h
      · exact .inl ⟨rfl, nm x, fun W => sector_calls x y W hx, h1, nm y, fun W => offset_calls x y W hy, h2, fun W hW => put_out x y _ _ W hx hy rfl rfl (.inr (by omega)) hW⟩
    · exact .inl ⟨rfl, nm x, fun W => sector_calls x y W hx, h1, fun W hW => put_out x y _ _ W hx hy rfl rfl (.inl (by omega)) hW⟩

set_option maxHeartbeats 1600000 in
theorem bytes_none (a b c0 c1 c2 : Int) (w : World) (a0 : 0 ≤ c0) (a1 : c0 ≤ 255) (b0 : 0 ≤ c1) (b1 : c1 ≤ 255) (d0 : 0 ≤ c2) (d1 : c2 ≤ 255) (hg : Nowhere w) (hall : c0 = 255 ∧ c1 = 255 ∧ c2 = 255) :
    Calls Tryd.prog 3 #[.int .u64 a, .int .u64 b, .agg #[.int .u8 c0, .int .u8 c1, .int .u8 c2]] w fun e w' => e = .returned (.bool true) ∧ Below w.heap.size w w' := by
  generalize hx : a.toNat = x
  generalize hy : b.toNat = y
  have hat := fun w => at_calls a b w
  rw [hx, hy] at hat
  have HAT := Lib.hid hat
  clear hat hx hy
  have S := Lib.hid (St.first (c0 := c0) (c1 := c1) (c2 := c2) 23 hg)
  have o0 := order0
  obtain ⟨rfl, rfl, rfl⟩ := hall
  have e3 := fun w => eq3 255 255 255 255 255 255 w
  have o1 := order_minus
  have HC := Lib.hid (fun W (hW : Nowhere W) => get_none W hW)
  have HR := Lib.hid (fun W => refget_none_same W)
  rcases modes x y with ⟨hr, hp⟩ | ⟨hr, s, ss, hs, hp⟩ | ⟨hr, s, ss, hs, o, so, ho, hp⟩ | ⟨hr, s, ss, hs, o, so, ho, u0, u1, u2, hp, hq, hl, hl', hge⟩
  all_goals
    have HP := Lib.hid hp
    have hR := fun w => right_calls x y w
    rw [hr] at hR
    have HRt := Lib.hid hR
    clear hp hr hR
    try (have HQ := Lib.hid hq; clear hq)
    try (have HS := Lib.hid ss; clear ss)
    try (have HO := Lib.hid so; clear so)
    go_enter Tryd.func3, Tryd.ntmps3
    go_wp2_with (first
      | (go_at_call 4; refine (HAT.out _).mono ?_; rintro e w' ⟨rfl, rfl⟩)
      | (go_at_call 5; (with_reducible refine (HP.out _ S.out.now).mono ?_); rintro e w1 ⟨rfl, hb1⟩; replace S := Lib.hid (S.out.below hb1); clear hb1; obtain ⟨z, p0, p1, p2⟩ := S.out.cells)
      | (go_at_call 9; (with_reducible refine (HQ.out _ (S.out.alloc _).now).mono ?_); rintro e w2 ⟨rfl, hb2⟩; replace S := Lib.hid ((S.out.alloc _).below hb2); clear hb2 z p0 p1 p2; obtain ⟨z, p0, p1, p2⟩ := S.out.cells)
      | (go_at_call 9; (first | with_reducible refine (HC.out _ (S.out.alloc _).now).mono ?_ | with_reducible refine (HC.out _ S.out.now).mono ?_); rintro e w2 ⟨rfl, hb2⟩; (first | replace S := Lib.hid ((S.out.alloc _).below hb2) | replace S := Lib.hid (S.out.below hb2)); clear hb2 z p0 p1 p2; obtain ⟨z, p0, p1, p2⟩ := S.out.cells)
      | (go_at_call 6; refine (HRt.out _).mono ?_; rintro e w' ⟨rfl, rfl⟩)
      | (go_at_call 7; refine (HS.out _).mono ?_; rintro e w' ⟨rfl, rfl⟩)
      | (go_at_call 8; refine (HO.out _).mono ?_; rintro e w' ⟨rfl, rfl⟩))
    go_quiet (first | (go_at_call 10; exact Calls.quiet_of_same (fixed_same _)) | (go_at_call 11; exact Calls.quiet_of_same (HR.out _)))
    go_wp2
    go_ret
    exact ⟨rfl, below_drewN S.out.1 _⟩
set_option maxHeartbeats 1600000 in
theorem bytes_last (a b c0 c1 c2 : Int) (w : World) (a0 : 0 ≤ c0) (a1 : c0 ≤ 255) (b0 : 0 ≤ c1) (b1 : c1 ≤ 255) (d0 : 0 ≤ c2) (d1 : c2 ≤ 255) (hg : Nowhere w) (hall : c0 = 255 ∧ ¬ (c1 = 255 ∧ c2 = 255)) :
    Calls Tryd.prog 3 #[.int .u64 a, .int .u64 b, .agg #[.int .u8 c0, .int .u8 c1, .int .u8 c2]] w fun e w' => e = .returned (.bool true) ∧ Below w.heap.size w w' := by
  generalize hx : a.toNat = x
  generalize hy : b.toNat = y
  have hat := fun w => at_calls a b w
  rw [hx, hy] at hat
  have HAT := Lib.hid hat
  clear hat hx hy
  have S := Lib.hid (St.first (c0 := c0) (c1 := c1) (c2 := c2) 23 hg)
  have o0 := order0
  obtain ⟨rfl, hnot⟩ := hall
  have e3 := fun w => eq3 255 255 255 255 255 255 w
  have o1 := order_fi 255 (by omega) (by omega)
  have o2 := order_fi (256 * c1 + c2) (by omega) (by omega)
  have HC := Lib.hid (fun W (hW : Nowhere W) => get_yes 255 c1 c2 W a0 a1 b0 b1 d0 d1 (fun h => hnot h.2) hW)
  have HR := Lib.hid (fun W => refget_yes_same 255 c1 c2 W a0 a1 b0 b1 d0 d1 (fun h => hnot h.2))
  clear hnot
  rcases modes x y with ⟨hr, hp⟩ | ⟨hr, s, ss, hs, hp⟩ | ⟨hr, s, ss, hs, o, so, ho, hp⟩ | ⟨hr, s, ss, hs, o, so, ho, u0, u1, u2, hp, hq, hl, hl', hge⟩
  all_goals
    have HP := Lib.hid hp
    have hR := fun w => right_calls x y w
    rw [hr] at hR
    have HRt := Lib.hid hR
    clear hp hr hR
    try (have HQ := Lib.hid hq; clear hq)
    try (have HS := Lib.hid ss; clear ss)
    try (have HO := Lib.hid so; clear so)
    go_enter Tryd.func3, Tryd.ntmps3
    go_wp2_with (first
      | (go_at_call 4; refine (HAT.out _).mono ?_; rintro e w' ⟨rfl, rfl⟩)
      | (go_at_call 5; (with_reducible refine (HP.out _ S.out.now).mono ?_); rintro e w1 ⟨rfl, hb1⟩; replace S := Lib.hid (S.out.below hb1); clear hb1; obtain ⟨z, p0, p1, p2⟩ := S.out.cells)
      | (go_at_call 9; (with_reducible refine (HQ.out _ (S.out.alloc _).now).mono ?_); rintro e w2 ⟨rfl, hb2⟩; replace S := Lib.hid ((S.out.alloc _).below hb2); clear hb2 z p0 p1 p2; obtain ⟨z, p0, p1, p2⟩ := S.out.cells)
      | (go_at_call 9; (first | with_reducible refine (HC.out _ (S.out.alloc _).now).mono ?_ | with_reducible refine (HC.out _ S.out.now).mono ?_); rintro e w2 ⟨rfl, hb2⟩; (first | replace S := Lib.hid ((S.out.alloc _).below hb2) | replace S := Lib.hid (S.out.below hb2)); clear hb2 z p0 p1 p2; obtain ⟨z, p0, p1, p2⟩ := S.out.cells)
      | (go_at_call 6; refine (HRt.out _).mono ?_; rintro e w' ⟨rfl, rfl⟩)
      | (go_at_call 7; refine (HS.out _).mono ?_; rintro e w' ⟨rfl, rfl⟩)
      | (go_at_call 8; refine (HO.out _).mono ?_; rintro e w' ⟨rfl, rfl⟩))
    go_quiet (first | (go_at_call 10; exact Calls.quiet_of_same (fixed_same _)) | (go_at_call 11; exact Calls.quiet_of_same (HR.out _)))
    go_wp2
    go_ret
    exact ⟨rfl, below_drewN S.out.1 _⟩
end Go.Proofs.YtflghjamneganaaDoor.PlaceB
