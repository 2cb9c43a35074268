/- The contracts of the document's device: where bytes may be, Program, Erase. -/
import Derived.Test.YtdcmpkohengnaaaNorU
import Derived.IntWalk
namespace Go.Proofs.Ytdcmpkohengnaaa.NorV
set_option linter.unusedVariables false
set_option linter.unusedSimpArgs false
open Go.RowKit
open Go.Proofs.Ytdcmpkohengnaaa.Byte Go.Proofs.Ytdcmpkohengnaaa.NorD Go.Proofs.Ytdcmpkohengnaaa.NorM Go.Proofs.Ytdcmpkohengnaaa.NorS Go.Proofs.Ytdcmpkohengnaaa.NorB Go.Proofs.Ytdcmpkohengnaaa.NorP Go.Proofs.Ytdcmpkohengnaaa.NorR Go.Proofs.Ytdcmpkohengnaaa.NorU Go.Proofs.Ytdcmpkohengnaaa.PlaceM Go.Proofs.Ytdcmpkohengnaaa.PlaceV

theorem inside_ways {n z : Nat} {se off m : Int} (h : inside n z se off m = false) : m < 0 ∨ (0 ≤ m ∧ (n : Int) ≤ se) ∨ (0 ≤ m ∧ se < n ∧ (z : Int) < off) ∨ (0 ≤ m ∧ se < n ∧ off ≤ z ∧ z - off < m) := by
  unfold inside at h
  rw [decide_eq_false_iff_not] at h
  omega
theorem inside_yes {n z : Nat} {se off m : Int} (h : inside n z se off m = true) : 0 ≤ m ∧ se < n ∧ off ≤ z ∧ m ≤ z - off := by
  unfold inside at h
  rwa [decide_eq_true_eq] at h
theorem still {P : Program} {f : FuncId} {args : Array Value} {w : World} {v : Value} (h : Calls P f args w fun e w' => e = .returned v ∧ w = w') : Calls P f args w fun e w' => e = .returned v ∧ w' = w :=
  h.mono fun _ _ h => ⟨h.1, h.2.symm⟩

section
variable {lo n z K : Nat} {s : St}
set_option maxRecDepth 100000 in
set_option maxHeartbeats 2000000 in
theorem refWithin_calls (x y : Nat) (m : Int) (w : World) (hx : rt x = true) (hy : rt y = true) (hm0 : -9223372036854775808 ≤ m) (hm1 : m ≤ 9223372036854775807) (hn : n ≤ 64) (hz : z ≤ 4096) :
    Calls Try.prog 33 #[.agg #[.int .i64 n, .int .i64 z], .complex .f64 x y, .int .i64 m] w fun e w' => e = .returned (.bool (inside n z (nm x) (nm y) m)) ∧ Below w.heap.size w w' := by
  obtain ⟨_, x0, x1⟩ := rt_fv hx
  obtain ⟨_, y0, y1⟩ := rt_fv hy
  have hr := fun w => right_calls x y w
  rw [hx, hy] at hr
  have HR := Lib.hid (fun w => still (hr w))
  have HS := Lib.hid (fun w => still (sector_calls x y w hx))
  have HO := Lib.hid (fun w => still (offset_calls x y w hy))
  clear hr
  obtain ⟨W, hW⟩ : ∃ W, w.alloc (.cells #[.int .i64 n, .int .i64 z] 23) = W := ⟨_, rfl⟩
  have HB : Hid (Below w.heap.size w W) := by rw [← hW]; exact (Below.refl _ _).alloc (Nat.le_refl _) _
  have HK : Hid (Blk W w.heap.size 23 #[.int .i64 n, .int .i64 z]) := by rw [← hW]; exact Blk.new w _ _
  have HW := Lib.hid hW
  clear hW
  generalize nm x = px at *
  generalize nm y = py at *
  cases hin : inside n z px py m
  · rcases inside_ways hin with h | ⟨h, h'⟩ | ⟨h, h', h''⟩ | ⟨h, h', h'', h'''⟩
    case inl =>
      clear hin
      go_enter Try.func33, Try.ntmps33
      go_wp2_with fail
      rw [HW.out]
      have c0 : W.cell? ⟨w.heap.size, 0, none⟩ = some (.int .i64 n) := HK.out.cell 0
      have c1 : W.cell? ⟨w.heap.size, 1, none⟩ = some (.int .i64 z) := HK.out.cell 1
      have d0 : decide (m < 0) = true := by simp; omega
      refine wp_region_still_lit (by kernel_rfl) (by kernel_rfl) ?_
      repeat still_step
      still_call (HR.out _)
      repeat still_step
      refine wpStill_nil ?_
      go_wp2_with fail
      go_ret
      exact ⟨rfl, HB.out.drew⟩
    case inr.inl =>
      clear hin
      go_enter Try.func33, Try.ntmps33
      go_wp2_with fail
      rw [HW.out]
      have c0 : W.cell? ⟨w.heap.size, 0, none⟩ = some (.int .i64 n) := HK.out.cell 0
      have c1 : W.cell? ⟨w.heap.size, 1, none⟩ = some (.int .i64 z) := HK.out.cell 1
      have d0 : decide (m < 0) = false := by simp; omega
      have d1 : decide ((n : Int) ≤ px) = true := by simp; omega
      refine wp_region_still_lit (by kernel_rfl) (by kernel_rfl) ?_
      repeat still_step
      still_call (HR.out _)
      repeat still_step
      still_call (HS.out _)
      repeat still_step
      refine wpStill_nil ?_
      go_wp2_with fail
      go_ret
      exact ⟨rfl, HB.out.drew⟩
    case inr.inr.inl =>
      clear hin
      go_enter Try.func33, Try.ntmps33
      go_wp2_with fail
      rw [HW.out]
      have c0 : W.cell? ⟨w.heap.size, 0, none⟩ = some (.int .i64 n) := HK.out.cell 0
      have c1 : W.cell? ⟨w.heap.size, 1, none⟩ = some (.int .i64 z) := HK.out.cell 1
      have d0 : decide (m < 0) = false := by simp; omega
      have d1 : decide ((n : Int) ≤ px) = false := by simp; omega
      have d2 : decide ((z : Int) < py) = true := by simp; omega
      refine wp_region_still_lit (by kernel_rfl) (by kernel_rfl) ?_
      repeat still_step
      still_call (HR.out _)
      repeat still_step
      still_call (HS.out _)
      repeat still_step
      still_call (HO.out _)
      repeat still_step
      refine wpStill_nil ?_
      go_wp2_with fail
      go_ret
      exact ⟨rfl, HB.out.drew⟩
    case inr.inr.inr =>
      clear hin
      go_enter Try.func33, Try.ntmps33
      go_wp2_with fail
      rw [HW.out]
      have c0 : W.cell? ⟨w.heap.size, 0, none⟩ = some (.int .i64 n) := HK.out.cell 0
      have c1 : W.cell? ⟨w.heap.size, 1, none⟩ = some (.int .i64 z) := HK.out.cell 1
      have d0 : decide (m < 0) = false := by simp; omega
      have d1 : decide ((n : Int) ≤ px) = false := by simp; omega
      have d2 : decide ((z : Int) < py) = false := by simp; omega
      have d3 : decide (m ≤ (z : Int) - py) = false := by simp; omega
      refine wp_region_still_lit (by kernel_rfl) (by kernel_rfl) ?_
      repeat still_step
      still_call (HR.out _)
      repeat still_step
      still_call (HS.out _)
      repeat still_step
      still_call (HO.out _)
      repeat still_step
      refine wpStill_nil ?_
      go_wp2_with fail
      change Code.wp _ _ _ _ W.drew
      have v1 : IntKind.i64.wrap ((z : Int) - py) = (z : Int) - py := IntWalk.i64_in _ (by omega)
      have e1 : W.drew.cell? ⟨w.heap.size, 1, none⟩ = some (.int .i64 z) := c1
      have HBD : Hid (Below w.heap.size w W.drew) := HB.out.drew
      generalize W.drew = W2 at e1 HBD ⊢
      clear c0 c1
      refine wp_region_still_lit (by kernel_rfl) (by kernel_rfl) ?_
      repeat still_step
      still_call (HO.out _)
      repeat still_step
      refine wpStill_nil ?_
      go_wp2_with fail
      go_ret
      exact ⟨rfl, HBD.out.drew⟩
  · obtain ⟨h, h', h'', h'''⟩ := inside_yes hin
    have hh : True := trivial
    all_goals
      clear hin
      go_enter Try.func33, Try.ntmps33
      go_wp2_with fail
      rw [HW.out]
      have c0 : W.cell? ⟨w.heap.size, 0, none⟩ = some (.int .i64 n) := HK.out.cell 0
      have c1 : W.cell? ⟨w.heap.size, 1, none⟩ = some (.int .i64 z) := HK.out.cell 1
      have d0 : decide (m < 0) = false := by simp; omega
      have d1 : decide ((n : Int) ≤ px) = false := by simp; omega
      have d2 : decide ((z : Int) < py) = false := by simp; omega
      have d3 : decide (m ≤ (z : Int) - py) = true := by simp; omega
      refine wp_region_still_lit (by kernel_rfl) (by kernel_rfl) ?_
      repeat still_step
      still_call (HR.out _)
      repeat still_step
      still_call (HS.out _)
      repeat still_step
      still_call (HO.out _)
      repeat still_step
      refine wpStill_nil ?_
      go_wp2_with fail
      change Code.wp _ _ _ _ W.drew
      have v1 : IntKind.i64.wrap ((z : Int) - py) = (z : Int) - py := IntWalk.i64_in _ (by omega)
      have e1 : W.drew.cell? ⟨w.heap.size, 1, none⟩ = some (.int .i64 z) := c1
      have HBD : Hid (Below w.heap.size w W.drew) := HB.out.drew
      generalize W.drew = W2 at e1 HBD ⊢
      clear c0 c1
      refine wp_region_still_lit (by kernel_rfl) (by kernel_rfl) ?_
      repeat still_step
      still_call (HO.out _)
      repeat still_step
      refine wpStill_nil ?_
      go_wp2_with fail
      go_ret
      exact ⟨rfl, HBD.out.drew⟩
end
end Go.Proofs.Ytdcmpkohengnaaa.NorV
