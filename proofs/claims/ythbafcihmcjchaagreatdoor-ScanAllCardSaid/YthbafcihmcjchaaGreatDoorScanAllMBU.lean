/- Merged: NorV NorX NorY NorZ NorI NorF NorG NorH NorN. -/
import Derived.IntWalk
import Derived.Test.YthbafcihmcjchaaGreatDoorScanAllMBT
import Derived.Deep.Cut
import Derived.Deep.RegionLaw
import Derived.Laws.MakeOwn
import Derived.Deep.AppendLies
import Derived.StillTailTactics
import Derived.Lib.SliceRun
import Derived.Lib.MakeNoZero
import Derived.Laws.CopyOwn
/- The contracts of the document's device: where bytes may be, Program, Erase. -/
namespace Go.Proofs.YthbafcihmcjchaaGreatDoor.NorV
set_option linter.unusedVariables false
set_option linter.unusedSimpArgs false
open Go.RowKit
open Go.Proofs.YthbafcihmcjchaaGreatDoor.Byte Go.Proofs.YthbafcihmcjchaaGreatDoor.NorD Go.Proofs.YthbafcihmcjchaaGreatDoor.NorM Go.Proofs.YthbafcihmcjchaaGreatDoor.NorS Go.Proofs.YthbafcihmcjchaaGreatDoor.NorB Go.Proofs.YthbafcihmcjchaaGreatDoor.NorP Go.Proofs.YthbafcihmcjchaaGreatDoor.NorR Go.Proofs.YthbafcihmcjchaaGreatDoor.NorU Go.Proofs.YthbafcihmcjchaaGreatDoor.PlaceM Go.Proofs.YthbafcihmcjchaaGreatDoor.PlaceV

theorem inside_ways {n z : Nat} {se off m : Int} (h : inside n z se off m = false) : m < 0 ∨ (0 ≤ m ∧ (n : Int) ≤ se) ∨ (0 ≤ m ∧ se < n ∧ (z : Int) < off) ∨ (0 ≤ m ∧ se < n ∧ off ≤ z ∧ z - off < m) := by
  unfold inside at h
  rw [decide_eq_false_iff_not] at h
  omega
theorem inside_yes {n z : Nat} {se off m : Int} (h : inside n z se off m = true) : 0 ≤ m ∧ se < n ∧ off ≤ z ∧ m ≤ z - off := by
  unfold inside at h
  rwa [decide_eq_true_eq] at h
theorem still {P : Program} {f : FuncId} {args : Array Value} {w : World} {v : Value} (h : Calls P f args w fun e w' => e = .returned v ∧ w = w') : Calls P f args w fun e w' => e = .returned v ∧ w' = w :=
  h.mono fun _ _ h => ⟨h.1, h.2.symm⟩

section
variable {lo n z K : Nat} {s : St}
set_option maxRecDepth 100000 in
set_option maxHeartbeats 2000000 in
theorem refWithin_calls (x y : Nat) (m : Int) (w : World) (hx : rt x = true) (hy : rt y = true) (hm0 : -9223372036854775808 ≤ m) (hm1 : m ≤ 9223372036854775807) (hn : n ≤ 64) (hz : z ≤ 4096) :
    Calls Tryz.prog 28 #[.agg #[.int .i64 n, .int .i64 z], .complex .f64 x y, .int .i64 m] w fun e w' => e = .returned (.bool (inside n z (nm x) (nm y) m)) ∧ Below w.heap.size w w' := by
  obtain ⟨_, x0, x1⟩ := rt_fv hx
  obtain ⟨_, y0, y1⟩ := rt_fv hy
  have hr := fun w => right_calls x y w
  rw [hx, hy] at hr
  have HR := Lib.hid (fun w => still (hr w))
  have HS := Lib.hid (fun w => still (sector_calls x y w hx))
  have HO := Lib.hid (fun w => still (offset_calls x y w hy))
  clear hr
  obtain ⟨W, hW⟩ : ∃ W, w.alloc (.cells #[.int .i64 n, .int .i64 z] 28) = W := ⟨_, rfl⟩
  have HB : Hid (Below w.heap.size w W) := by rw [← hW]; exact (Below.refl _ _).alloc (Nat.le_refl _) _
  have HK : Hid (Blk W w.heap.size 28 #[.int .i64 n, .int .i64 z]) := by rw [← hW]; exact Blk.new w _ _
  have HW := Lib.hid hW
  clear hW
  generalize nm x = px at *
  generalize nm y = py at *
  cases hin : inside n z px py m
  · rcases inside_ways hin with h | ⟨h, h'⟩ | ⟨h, h', h''⟩ | ⟨h, h', h'', h'''⟩
    case inl =>
      clear hin
      go_enter Tryz.func28, Tryz.ntmps28
      go_wp2_with fail
      rw [HW.out]
      have c0 : W.cell? ⟨w.heap.size, 0, none⟩ = some (.int .i64 n) := HK.out.cell 0
      have c1 : W.cell? ⟨w.heap.size, 1, none⟩ = some (.int .i64 z) := HK.out.cell 1
      have d0 : decide (m < 0) = true := by simp; omega
      refine wp_region_still_lit (by kernel_rfl) (by kernel_rfl) ?_
      repeat still_step
      still_call (HR.out _)
      repeat still_step
      refine wpStill_nil ?_
      go_wp2_with fail
      go_ret
      exact ⟨rfl, HB.out.drew⟩
    case inr.inl =>
      clear hin
      go_enter Tryz.func28, Tryz.ntmps28
      go_wp2_with fail
      rw [HW.out]
      have c0 : W.cell? ⟨w.heap.size, 0, none⟩ = some (.int .i64 n) := HK.out.cell 0
      have c1 : W.cell? ⟨w.heap.size, 1, none⟩ = some (.int .i64 z) := HK.out.cell 1
      have d0 : decide (m < 0) = false := by simp; omega
      have d1 : decide ((n : Int) ≤ px) = true := by simp; omega
      refine wp_region_still_lit (by kernel_rfl) (by kernel_rfl) ?_
      repeat still_step
      still_call (HR.out _)
      repeat still_step
      still_call (HS.out _)
      repeat still_step
      refine wpStill_nil ?_
      go_wp2_with fail
      go_ret
      exact ⟨rfl, HB.out.drew⟩
    case inr.inr.inl =>
      clear hin
      go_enter Tryz.func28, Tryz.ntmps28
      go_wp2_with fail
      rw [HW.out]
      have c0 : W.cell? ⟨w.heap.size, 0, none⟩ = some (.int .i64 n) := HK.out.cell 0
      have c1 : W.cell? ⟨w.heap.size, 1, none⟩ = some (.int .i64 z) := HK.out.cell 1
      have d0 : decide (m < 0) = false := by simp; omega
      have d1 : decide ((n : Int) ≤ px) = false := by simp; omega
      have d2 : decide ((z : Int) < py) = true := by simp; omega
      refine wp_region_still_lit (by kernel_rfl) (by kernel_rfl) ?_
      repeat still_step
      still_call (HR.out _)
      repeat still_step
      still_call (HS.out _)
      repeat still_step
      still_call (HO.out _)
      repeat still_step
      refine wpStill_nil ?_
      go_wp2_with fail
      go_ret
      exact ⟨rfl, HB.out.drew⟩
    case inr.inr.inr =>
      clear hin
      go_enter Tryz.func28, Tryz.ntmps28
      go_wp2_with fail
      rw [HW.out]
      have c0 : W.cell? ⟨w.heap.size, 0, none⟩ = some (.int .i64 n) := HK.out.cell 0
      have c1 : W.cell? ⟨w.heap.size, 1, none⟩ = some (.int .i64 z) := HK.out.cell 1
      have d0 : decide (m < 0) = false := by simp; omega
      have d1 : decide ((n : Int) ≤ px) = false := by simp; omega
      have d2 : decide ((z : Int) < py) = false := by simp; omega
      have d3 : decide (m ≤ (z : Int) - py) = false := by simp; omega
      refine wp_region_still_lit (by kernel_rfl) (by kernel_rfl) ?_
      repeat still_step
      still_call (HR.out _)
      repeat still_step
      still_call (HS.out _)
      repeat still_step
      still_call (HO.out _)
      repeat still_step
      refine wpStill_nil ?_
      go_wp2_with fail
      change Code.wp _ _ _ _ W.drew
      have v1 : IntKind.i64.wrap ((z : Int) - py) = (z : Int) - py := IntWalk.i64_in _ (by omega)
      have e1 : W.drew.cell? ⟨w.heap.size, 1, none⟩ = some (.int .i64 z) := c1
      have HBD : Hid (Below w.heap.size w W.drew) := HB.out.drew
      generalize W.drew = W2 at e1 HBD ⊢
      clear c0 c1
      refine wp_region_still_lit (by kernel_rfl) (by kernel_rfl) ?_
      repeat still_step
      still_call (HO.out _)
      repeat still_step
      refine wpStill_nil ?_
      go_wp2_with fail
      go_ret
      exact ⟨rfl, HBD.out.drew⟩
  · obtain ⟨h, h', h'', h'''⟩ := inside_yes hin
    have hh : True := trivial
    all_goals
      clear hin
      go_enter Tryz.func28, Tryz.ntmps28
      go_wp2_with fail
      rw [HW.out]
      have c0 : W.cell? ⟨w.heap.size, 0, none⟩ = some (.int .i64 n) := HK.out.cell 0
      have c1 : W.cell? ⟨w.heap.size, 1, none⟩ = some (.int .i64 z) := HK.out.cell 1
      have d0 : decide (m < 0) = false := by simp; omega
      have d1 : decide ((n : Int) ≤ px) = false := by simp; omega
      have d2 : decide ((z : Int) < py) = false := by simp; omega
      have d3 : decide (m ≤ (z : Int) - py) = true := by simp; omega
      refine wp_region_still_lit (by kernel_rfl) (by kernel_rfl) ?_
      repeat still_step
      still_call (HR.out _)
      repeat still_step
      still_call (HS.out _)
      repeat still_step
      still_call (HO.out _)
      repeat still_step
      refine wpStill_nil ?_
      go_wp2_with fail
      change Code.wp _ _ _ _ W.drew
      have v1 : IntKind.i64.wrap ((z : Int) - py) = (z : Int) - py := IntWalk.i64_in _ (by omega)
      have e1 : W.drew.cell? ⟨w.heap.size, 1, none⟩ = some (.int .i64 z) := c1
      have HBD : Hid (Below w.heap.size w W.drew) := HB.out.drew
      generalize W.drew = W2 at e1 HBD ⊢
      clear c0 c1
      refine wp_region_still_lit (by kernel_rfl) (by kernel_rfl) ?_
      repeat still_step
      still_call (HO.out _)
      repeat still_step
      refine wpStill_nil ?_
      go_wp2_with fail
      go_ret
      exact ⟨rfl, HBD.out.drew⟩
end
end Go.Proofs.YthbafcihmcjchaaGreatDoor.NorV

/- The contracts of the document's device: Program, Erase. -/
namespace Go.Proofs.YthbafcihmcjchaaGreatDoor.NorX
set_option linter.unusedVariables false
set_option linter.unusedSimpArgs false
open Go.RowKit
open Go.Proofs.YthbafcihmcjchaaGreatDoor.Byte Go.Proofs.YthbafcihmcjchaaGreatDoor.NorD Go.Proofs.YthbafcihmcjchaaGreatDoor.NorM Go.Proofs.YthbafcihmcjchaaGreatDoor.NorS Go.Proofs.YthbafcihmcjchaaGreatDoor.NorB Go.Proofs.YthbafcihmcjchaaGreatDoor.NorP Go.Proofs.YthbafcihmcjchaaGreatDoor.NorR Go.Proofs.YthbafcihmcjchaaGreatDoor.NorU Go.Proofs.YthbafcihmcjchaaGreatDoor.NorV Go.Proofs.YthbafcihmcjchaaGreatDoor.PlaceM Go.Proofs.YthbafcihmcjchaaGreatDoor.PlaceV

section
variable {lo n z K : Nat} {s : St}
theorem refAct_calls (w : World) (v : Value) (h : Ref w lo n z K s v) (i : Nat) (hi : i < n) (off len cb : Nat) (A : Option Addr) (bs : List Int) (down : Bool) (hb : Bs w A len bs) (hlen : len ≤ 100000) (hfit : off + len ≤ z) (hlo : lo ≤ w.heap.size) (hK : K + 2 ≤ 1000000) (hon : s.on = true) :
    Calls Tryz.prog 30 #[v, .int .i64 i, .int .i64 off, .slice A len cb, .bool down] w
      fun e w' => ∃ v', e = .returned (.tuple #[.int .i64 (s.act i down off bs).1, v']) ∧ Ref w' lo n z (K + 1) (s.act i down off bs).2 v' ∧ Below w.heap.size w w' := by
  obtain ⟨db, dc, wb, wc, bb, bc, cuts, left, whole, mask, L, LC, rfl, hP, hr⟩ := h
  rcases hP.cut with ⟨hc, rfl⟩ | ⟨hc, rfl⟩
  · have e1 : s.act i down off bs = (0, { s with data := s.data.set i (seg down none off bs (s.row i)), cut := none, acts := s.acts + 1 }) := by unfold St.act; rw [hc]
    rw [e1]
    exact refAct_none w db dc wb wc bb bc left whole mask L LC hP hr i hi off len cb A bs down hb hlen hfit hlo (by omega)
  · have hb3 := hP.fits.cb _ _ _ hc
    by_cases hl : left = 0
    · subst hl
      have e1 : s.act i down off bs = (7, { s with data := s.data.set i (seg down (some (whole, mask)) off bs (s.row i)), on := false, cut := none, acts := s.acts + 1, offs := s.offs + 1 }) := by unfold St.act; rw [hc]; exact if_pos rfl
      rw [e1]
      exact refAct_cut w db dc wb wc bb bc 0 whole mask L LC hP hr i hi off len cb A bs down hb hlen hfit hlo hK hon
    · have e1 : s.act i down off bs = (0, { s with data := s.data.set i (seg down none off bs (s.row i)), cut := some (left - 1, whole, mask), acts := s.acts + 1 }) := by unfold St.act; rw [hc]; exact if_neg hl
      rw [e1]
      exact refAct_more w db dc wb wc bb bc left whole mask L LC hP hr i hi off len cb A bs down hb hlen hfit hlo (by omega) (by omega)
end
end Go.Proofs.YthbafcihmcjchaaGreatDoor.NorX

/- The contract of the document's Program. -/
namespace Go.Proofs.YthbafcihmcjchaaGreatDoor.NorY
set_option linter.unusedVariables false
set_option linter.unusedSimpArgs false
open Go.RowKit
open Go.Proofs.YthbafcihmcjchaaGreatDoor.Byte Go.Proofs.YthbafcihmcjchaaGreatDoor.NorD Go.Proofs.YthbafcihmcjchaaGreatDoor.NorM Go.Proofs.YthbafcihmcjchaaGreatDoor.NorS Go.Proofs.YthbafcihmcjchaaGreatDoor.NorB Go.Proofs.YthbafcihmcjchaaGreatDoor.NorP Go.Proofs.YthbafcihmcjchaaGreatDoor.NorR Go.Proofs.YthbafcihmcjchaaGreatDoor.NorU Go.Proofs.YthbafcihmcjchaaGreatDoor.NorV Go.Proofs.YthbafcihmcjchaaGreatDoor.NorX Go.Proofs.YthbafcihmcjchaaGreatDoor.PlaceM Go.Proofs.YthbafcihmcjchaaGreatDoor.PlaceV

/-- The world behind the box of the receiver and the result's variable. -/
structure BX (w W : World) (c : Array Value) : Prop where
  box : Blk W w.heap.size 33 c
  res : Blk W (w.heap.size + 1) 33 zeroRef
  bel : Below w.heap.size w W
theorem BX.of (w : World) (c : Array Value) : BX w ((w.alloc (.cells c 33)).alloc (.cells zeroRef 33)) c :=
  ⟨(Blk.new w _ _).alloc _, by
    have := Blk.new (w.alloc (.cells c 33)) 33 zeroRef
    simpa using this, two_allocs w _ _⟩
theorem BX.below {w W W' : World} {c : Array Value} (h : BX w W c) (hb : Below W.heap.size W W') : BX w W' c :=
  ⟨h.box.of_eq (hb.block _ h.box.lt), h.res.of_eq (hb.block _ h.res.lt), h.bel.trans (hb.mono h.bel.size)⟩
theorem BX.drew {w W : World} {c : Array Value} (h : BX w W c) : BX w W.drew c := ⟨h.box, h.res, h.bel.drew⟩
theorem BX.lt {w W : World} {c : Array Value} (h : BX w W c) : w.heap.size + 1 < W.heap.size := h.res.lt
theorem twelveZ {w : World} {g : Nat} (h : Blk w g 33 zeroRef) :
    w.cell? ⟨g, 0, none⟩ = some (.int .i64 0) ∧ w.cell? ⟨g, 1, none⟩ = some (.int .i64 0) ∧ w.cell? ⟨g, 2, none⟩ = some (.slice none 0 0) ∧ w.cell? ⟨g, 3, none⟩ = some (.slice none 0 0) ∧ w.cell? ⟨g, 4, none⟩ = some (.slice none 0 0) ∧ w.cell? ⟨g, 5, none⟩ = some (.bool false) ∧
    w.cell? ⟨g, 6, none⟩ = some (.int .i64 0) ∧ w.cell? ⟨g, 7, none⟩ = some (.int .i64 0) ∧ w.cell? ⟨g, 8, none⟩ = some (.bool false) ∧ w.cell? ⟨g, 9, none⟩ = some (.int .i64 0) ∧ w.cell? ⟨g, 10, none⟩ = some (.int .i64 0) ∧ w.cell? ⟨g, 11, none⟩ = some (.int .u8 0) ∧
    w.frozen? ⟨g, 0, none⟩ = false ∧ w.frozen? ⟨g, 1, none⟩ = false ∧ w.frozen? ⟨g, 2, none⟩ = false ∧ w.frozen? ⟨g, 3, none⟩ = false ∧ w.frozen? ⟨g, 4, none⟩ = false ∧ w.frozen? ⟨g, 5, none⟩ = false ∧ w.frozen? ⟨g, 6, none⟩ = false ∧ w.frozen? ⟨g, 7, none⟩ = false ∧ w.frozen? ⟨g, 8, none⟩ = false ∧ w.frozen? ⟨g, 9, none⟩ = false ∧ w.frozen? ⟨g, 10, none⟩ = false ∧ w.frozen? ⟨g, 11, none⟩ = false :=
  ⟨h.cell 0, h.cell 1, h.cell 2, h.cell 3, h.cell 4, h.cell 5, h.cell 6, h.cell 7, h.cell 8, h.cell 9, h.cell 10, h.cell 11, h.frozen 0, h.frozen 1, h.frozen 2, h.frozen 3, h.frozen 4, h.frozen 5, h.frozen 6, h.frozen 7, h.frozen 8, h.frozen 9, h.frozen 10, h.frozen 11⟩
theorem stored12_c (w : World) (g : Nat) (c0 c1 c2 c3 c4 c5 c6 c7 c8 c9 c10 c11 : Value) : Chg (fun q => q = g) w ((((((((((((w.setCell ⟨g, 0, none⟩ c0).setCell ⟨g, 1, none⟩ c1).setCell ⟨g, 2, none⟩ c2).setCell ⟨g, 3, none⟩ c3).setCell ⟨g, 4, none⟩ c4).setCell ⟨g, 5, none⟩ c5).setCell ⟨g, 6, none⟩ c6).setCell ⟨g, 7, none⟩ c7).setCell ⟨g, 8, none⟩ c8).setCell ⟨g, 9, none⟩ c9).setCell ⟨g, 10, none⟩ c10).setCell ⟨g, 11, none⟩ c11) :=
  (((((((((((((Chg.refl (fun q => q = g) w).own 0 c0).own 1 c1).own 2 c2).own 3 c3).own 4 c4).own 5 c5).own 6 c6).own 7 c7).own 8 c8).own 9 c9).own 10 c10).own 11 c11)
set_option maxRecDepth 100000 in
set_option maxHeartbeats 2000000 in
theorem stored12_b {w : World} {g : Nat} (h : Blk w g 33 zeroRef) (c0 c1 c2 c3 c4 c5 c6 c7 c8 c9 c10 c11 : Value) : Blk ((((((((((((w.setCell ⟨g, 0, none⟩ c0).setCell ⟨g, 1, none⟩ c1).setCell ⟨g, 2, none⟩ c2).setCell ⟨g, 3, none⟩ c3).setCell ⟨g, 4, none⟩ c4).setCell ⟨g, 5, none⟩ c5).setCell ⟨g, 6, none⟩ c6).setCell ⟨g, 7, none⟩ c7).setCell ⟨g, 8, none⟩ c8).setCell ⟨g, 9, none⟩ c9).setCell ⟨g, 10, none⟩ c10).setCell ⟨g, 11, none⟩ c11) g 33 #[c0, c1, c2, c3, c4, c5, c6, c7, c8, c9, c10, c11] := by
  have hb := ((((((((((((h.set_ 0 c0).set_ 1 c1).set_ 2 c2).set_ 3 c3).set_ 4 c4).set_ 5 c5).set_ 6 c6).set_ 7 c7).set_ 8 c8).set_ 9 c9).set_ 10 c10).set_ 11 c11)
  simpa [zeroRef] using hb
theorem stored12 {w : World} {g : Nat} (h : Blk w g 33 zeroRef) (c0 c1 c2 c3 c4 c5 c6 c7 c8 c9 c10 c11 : Value) :
    Blk ((((((((((((w.setCell ⟨g, 0, none⟩ c0).setCell ⟨g, 1, none⟩ c1).setCell ⟨g, 2, none⟩ c2).setCell ⟨g, 3, none⟩ c3).setCell ⟨g, 4, none⟩ c4).setCell ⟨g, 5, none⟩ c5).setCell ⟨g, 6, none⟩ c6).setCell ⟨g, 7, none⟩ c7).setCell ⟨g, 8, none⟩ c8).setCell ⟨g, 9, none⟩ c9).setCell ⟨g, 10, none⟩ c10).setCell ⟨g, 11, none⟩ c11) g 33 #[c0, c1, c2, c3, c4, c5, c6, c7, c8, c9, c10, c11] ∧ Chg (fun q => q = g) w ((((((((((((w.setCell ⟨g, 0, none⟩ c0).setCell ⟨g, 1, none⟩ c1).setCell ⟨g, 2, none⟩ c2).setCell ⟨g, 3, none⟩ c3).setCell ⟨g, 4, none⟩ c4).setCell ⟨g, 5, none⟩ c5).setCell ⟨g, 6, none⟩ c6).setCell ⟨g, 7, none⟩ c7).setCell ⟨g, 8, none⟩ c8).setCell ⟨g, 9, none⟩ c9).setCell ⟨g, 10, none⟩ c10).setCell ⟨g, 11, none⟩ c11) :=
  ⟨stored12_b h c0 c1 c2 c3 c4 c5 c6 c7 c8 c9 c10 c11, stored12_c w g c0 c1 c2 c3 c4 c5 c6 c7 c8 c9 c10 c11⟩
/-- The result's variable was written. -/
theorem BX.done {w W W' : World} {c : Array Value} (h : BX w W c) (hg : Chg (fun q => q = w.heap.size + 1) W W') : Below w.heap.size w W' := h.bel.trans (hg.below h.bel.size (fun k hk => by omega))

section
variable {lo n z K : Nat} {s : St}
set_option maxRecDepth 100000 in
set_option maxHeartbeats 1000000 in
theorem refProgram_off (w : World) (v : Value) (h : Ref w lo n z K s v) (x y : Nat) (A : Option Addr) (m cb : Nat) (hon : s.on = false) :
    Calls Tryz.prog 9 #[v, .complex .f64 x y, .slice A m cb] w fun e w' => ∃ v', e = .returned (.tuple #[.int .i64 7, v']) ∧ Ref w' lo n z K s v' ∧ Below w.heap.size w w' := by
  obtain ⟨db, dc, wb, wc, bb, bc, cuts, left, whole, mask, L, LC, rfl, hP, hr⟩ := h
  have HP := Lib.hid hP
  have HR := Lib.hid hr
  have hg := hP.geo
  have HX := Lib.hid (BX.of w (rc n z db dc wb wc bb bc (!s.on) s.offs s.acts cuts left whole mask))
  clear hP hr
  unfold refVal
  have HON := Lib.hid hon
  rw [hon] at HX ⊢
  clear hon
  go_enter Tryz.func9, Tryz.ntmps9
  go_upto_region 1 with (fail)
  change Code.wp _ _ _ _ ((w.alloc (.cells (rc n z db dc wb wc bb bc (!false) s.offs s.acts cuts left whole mask) 33)).alloc (.cells zeroRef 33))
  generalize (w.alloc (.cells (rc n z db dc wb wc bb bc (!false) s.offs s.acts cuts left whole mask) 33)).alloc (.cells zeroRef 33) = W at *
  obtain ⟨t0, t1, t2, t3, t4, t5, t6, t7, t8, t9, t10, t11⟩ := twelve HX.out.box
  go_wp2_with fail
  go_still_tail 2, (by kernel_rfl)
  change wpList _ _ _ _ _ W.drew
  clear t0 t1 t2 t3 t4 t5 t6 t7 t8 t9 t10 t11
  go_wp2_with ((with_reducible refine pick none ?_); refine wpList_store_blk rfl 33 _ _ rfl (w.heap.size + 1) (rc n z db dc wb wc bb bc (!false) s.offs s.acts cuts left whole mask) rfl rfl 33 zeroRef HX.out.drew.res info_ref rfl (rc_one _ _ _ _ _ _ _ _ _ _ _ _ _ _ _) ?_; intro w4 hb4 hg4)
  refine bodyPost_ret (v := .tuple #[.int .i64 7, .agg (rc n z db dc wb wc bb bc (!false) s.offs s.acts cuts left whole mask)]) ?_ rfl ⟨_, rfl, Ref.of (by rw [refVal, HON.out]; rfl) (HP.out.below (HX.out.drew.done hg4)) HR.out, HX.out.drew.done hg4⟩
  exact results_tmp_row (fn := Tryz.f9) rfl _ _ (w.heap.size + 1) 33 _ (0, 0) _ rfl hb4 Tryz.underlying33 rfl info_ref
set_option maxRecDepth 100000 in
set_option maxHeartbeats 1000000 in
theorem refProgram_none (w : World) (v : Value) (h : Ref w lo n z K s v) (x y : Nat) (A : Option Addr) (cb : Nat) (hon : s.on = true) :
    Calls Tryz.prog 9 #[v, .complex .f64 x y, .slice A 0 cb] w fun e w' => ∃ v', e = .returned (.tuple #[.int .i64 1, v']) ∧ Ref w' lo n z K s v' ∧ Below w.heap.size w w' := by
  obtain ⟨db, dc, wb, wc, bb, bc, cuts, left, whole, mask, L, LC, rfl, hP, hr⟩ := h
  have HP := Lib.hid hP
  have HR := Lib.hid hr
  have hg := hP.geo
  have HX := Lib.hid (BX.of w (rc n z db dc wb wc bb bc (!s.on) s.offs s.acts cuts left whole mask))
  clear hP hr
  unfold refVal
  have HON := Lib.hid hon
  rw [hon] at HX ⊢
  clear hon
  go_enter Tryz.func9, Tryz.ntmps9
  go_upto_region 1 with (fail)
  change Code.wp _ _ _ _ ((w.alloc (.cells (rc n z db dc wb wc bb bc (!true) s.offs s.acts cuts left whole mask) 33)).alloc (.cells zeroRef 33))
  generalize (w.alloc (.cells (rc n z db dc wb wc bb bc (!true) s.offs s.acts cuts left whole mask) 33)).alloc (.cells zeroRef 33) = W at *
  obtain ⟨t0, t1, t2, t3, t4, t5, t6, t7, t8, t9, t10, t11⟩ := twelve HX.out.box
  go_wp2_with fail
  go_still_tail 2, (by kernel_rfl)
  change wpList _ _ _ _ _ W.drew
  clear t0 t1 t2 t3 t4 t5 t6 t7 t8 t9 t10 t11
  go_wp2_with ((with_reducible refine pick none ?_); refine wpList_store_blk rfl 33 _ _ rfl (w.heap.size + 1) (rc n z db dc wb wc bb bc (!true) s.offs s.acts cuts left whole mask) rfl rfl 33 zeroRef HX.out.drew.res info_ref rfl (rc_one _ _ _ _ _ _ _ _ _ _ _ _ _ _ _) ?_; intro w4 hb4 hg4)
  refine bodyPost_ret (v := .tuple #[.int .i64 1, .agg (rc n z db dc wb wc bb bc (!true) s.offs s.acts cuts left whole mask)]) ?_ rfl ⟨_, rfl, Ref.of (by rw [refVal, HON.out]; rfl) (HP.out.below (HX.out.drew.done hg4)) HR.out, HX.out.drew.done hg4⟩
  exact results_tmp_row (fn := Tryz.f9) rfl _ _ (w.heap.size + 1) 33 _ (0, 0) _ rfl hb4 Tryz.underlying33 rfl info_ref
set_option maxRecDepth 100000 in
set_option maxHeartbeats 1000000 in
theorem refProgram_arg (w : World) (v : Value) (h : Ref w lo n z K s v) (x y : Nat) (A : Option Addr) (m cb : Nat) (hon : s.on = true) (hm0 : 0 < m) (hm1 : m ≤ 140737488355328) (hx : rt x = true) (hy : rt y = true) (hin : inside n z (nm x) (nm y) m = false) :
    Calls Tryz.prog 9 #[v, .complex .f64 x y, .slice A m cb] w fun e w' => ∃ v', e = .returned (.tuple #[.int .i64 1, v']) ∧ Ref w' lo n z K s v' ∧ Below w.heap.size w w' := by
  obtain ⟨db, dc, wb, wc, bb, bc, cuts, left, whole, mask, L, LC, rfl, hP, hr⟩ := h
  have HP := Lib.hid hP
  have HR := Lib.hid hr
  have hg := hP.geo
  have HX := Lib.hid (BX.of w (rc n z db dc wb wc bb bc (!s.on) s.offs s.acts cuts left whole mask))
  clear hP hr
  unfold refVal
  have HON := Lib.hid hon
  rw [hon] at HX ⊢
  have e0 : ((m : Int) == 0) = false := beq_eq_false_iff_ne.2 (by omega)
  have HW := Lib.hid (fun w => refWithin_calls (n := n) (z := z) x y m w hx hy (by omega) (by omega) hg.2.1 hg.2.2.2)
  rw [hin] at HW
  clear hin
  clear hon
  go_enter Tryz.func9, Tryz.ntmps9
  go_upto_region 1 with (fail)
  change Code.wp _ _ _ _ ((w.alloc (.cells (rc n z db dc wb wc bb bc (!true) s.offs s.acts cuts left whole mask) 33)).alloc (.cells zeroRef 33))
  generalize (w.alloc (.cells (rc n z db dc wb wc bb bc (!true) s.offs s.acts cuts left whole mask) 33)).alloc (.cells zeroRef 33) = W at *
  obtain ⟨t0, t1, t2, t3, t4, t5, t6, t7, t8, t9, t10, t11⟩ := twelve HX.out.box
  go_wp2_with (go_at_call 28; refine (HW.out _).mono ?_; rintro e W2 ⟨rfl, hb2⟩; clear t0 t1 t2 t3 t4 t5 t6 t7 t8 t9 t10 t11; have HX2 := Lib.hid (HX.out.below hb2); have HB2 := Lib.hid (HX.out.bel.trans (hb2.mono HX.out.bel.size)); clear hb2; obtain ⟨t0, t1, t2, t3, t4, t5, t6, t7, t8, t9, t10, t11⟩ := twelve HX2.out.box)
  go_still_tail 2, (by kernel_rfl)
  change wpList _ _ _ _ _ W2.drew
  clear t0 t1 t2 t3 t4 t5 t6 t7 t8 t9 t10 t11
  go_wp2_with ((with_reducible refine pick none ?_); refine wpList_store_blk rfl 33 _ _ rfl (w.heap.size + 1) (rc n z db dc wb wc bb bc (!true) s.offs s.acts cuts left whole mask) rfl rfl 33 zeroRef HX2.out.drew.res info_ref rfl (rc_one _ _ _ _ _ _ _ _ _ _ _ _ _ _ _) ?_; intro w4 hb4 hg4)
  refine bodyPost_ret (v := .tuple #[.int .i64 1, .agg (rc n z db dc wb wc bb bc (!true) s.offs s.acts cuts left whole mask)]) ?_ rfl ⟨_, rfl, Ref.of (by rw [refVal, HON.out]; rfl) (HP.out.below (HX2.out.drew.done hg4)) HR.out, HX2.out.drew.done hg4⟩
  exact results_tmp_row (fn := Tryz.f9) rfl _ _ (w.heap.size + 1) 33 _ (0, 0) _ rfl hb4 Tryz.underlying33 rfl info_ref
set_option maxRecDepth 100000 in
set_option maxHeartbeats 1000000 in
theorem refProgram_bad (w : World) (v : Value) (h : Ref w lo n z K s v) (x y : Nat) (A : Option Addr) (m cb i off : Nat) (hon : s.on = true) (hm0 : 0 < m) (hm1 : m ≤ 140737488355328) (hx : rt x = true) (hy : rt y = true) (hi' : nm x = i) (ho : nm y = off) (hin : inside n z i off m = true) (hbad : s.bad.getD i false = true) :
    Calls Tryz.prog 9 #[v, .complex .f64 x y, .slice A m cb] w fun e w' => ∃ v', e = .returned (.tuple #[.int .i64 8, v']) ∧ Ref w' lo n z K s v' ∧ Below w.heap.size w w' := by
  obtain ⟨db, dc, wb, wc, bb, bc, cuts, left, whole, mask, L, LC, rfl, hP, hr⟩ := h
  have HP := Lib.hid hP
  have HR := Lib.hid hr
  have hg := hP.geo
  have HX := Lib.hid (BX.of w (rc n z db dc wb wc bb bc (!s.on) s.offs s.acts cuts left whole mask))
  clear hP hr
  unfold refVal
  have HON := Lib.hid hon
  rw [hon] at HX ⊢
  have e0 : ((m : Int) == 0) = false := beq_eq_false_iff_ne.2 (by omega)
  have HW := Lib.hid (fun w => refWithin_calls (n := n) (z := z) x y m w hx hy (by omega) (by omega) hg.2.1 hg.2.2.2)
  rw [hi', ho, hin] at HW
  have HS := Lib.hid (fun w => sector_calls x y w hx)
  have HO := Lib.hid (fun w => offset_calls x y w hy)
  rw [hi'] at HS
  rw [ho] at HO
  have hin2 : i < n := by
    have := (inside_yes hin).2.1
    omega
  have hin3 : off + m ≤ z := by
    have := inside_yes hin
    omega
  clear hin hi' ho
  clear hon
  go_enter Tryz.func9, Tryz.ntmps9
  go_upto_region 1 with (fail)
  change Code.wp _ _ _ _ ((w.alloc (.cells (rc n z db dc wb wc bb bc (!true) s.offs s.acts cuts left whole mask) 33)).alloc (.cells zeroRef 33))
  generalize (w.alloc (.cells (rc n z db dc wb wc bb bc (!true) s.offs s.acts cuts left whole mask) 33)).alloc (.cells zeroRef 33) = W at *
  obtain ⟨t0, t1, t2, t3, t4, t5, t6, t7, t8, t9, t10, t11⟩ := twelve HX.out.box
  have HBAD := Lib.hid hbad
  clear hbad
  go_wp2_with (first
    | (go_at_call 28; refine (HW.out _).mono ?_; rintro e W2 ⟨rfl, hb2⟩; clear t0 t1 t2 t3 t4 t5 t6 t7 t8 t9 t10 t11; have HX2 := Lib.hid (HX.out.below hb2); have HB2 := Lib.hid (HX.out.bel.trans (hb2.mono HX.out.bel.size)); clear hb2; obtain ⟨t0, t1, t2, t3, t4, t5, t6, t7, t8, t9, t10, t11⟩ := twelve HX2.out.box; have kb := (HP.out.below HB2.out).bad.cell hin2; rw [HBAD.out] at kb; have lb := (HP.out.below HB2.out).bad.lt)
    | (go_at_call 29; refine (HS.out _).mono ?_; rintro e w' ⟨rfl, rfl⟩))
  clear kb lb
  go_still_tail 2, (by kernel_rfl)
  change wpList _ _ _ _ _ W2.drew
  clear t0 t1 t2 t3 t4 t5 t6 t7 t8 t9 t10 t11
  go_wp2_with ((with_reducible refine pick none ?_); refine wpList_store_blk rfl 33 _ _ rfl (w.heap.size + 1) (rc n z db dc wb wc bb bc (!true) s.offs s.acts cuts left whole mask) rfl rfl 33 zeroRef HX2.out.drew.res info_ref rfl (rc_one _ _ _ _ _ _ _ _ _ _ _ _ _ _ _) ?_; intro w4 hb4 hg4)
  refine bodyPost_ret (v := .tuple #[.int .i64 8, .agg (rc n z db dc wb wc bb bc (!true) s.offs s.acts cuts left whole mask)]) ?_ rfl ⟨_, rfl, Ref.of (by rw [refVal, HON.out]; rfl) (HP.out.below (HX2.out.drew.done hg4)) HR.out, HX2.out.drew.done hg4⟩
  exact results_tmp_row (fn := Tryz.f9) rfl _ _ (w.heap.size + 1) 33 _ (0, 0) _ rfl hb4 Tryz.underlying33 rfl info_ref
set_option maxRecDepth 100000 in
set_option maxHeartbeats 1000000 in
theorem refProgram_ok (w : World) (v : Value) (h : Ref w lo n z K s v) (x y : Nat) (A : Option Addr) (m cb i off : Nat) (bs : List Int) (hb : Bs w A m bs) (hlo : lo ≤ w.heap.size) (hK : K + 2 ≤ 1000000) (hon : s.on = true) (hm0 : 0 < m) (hm1 : m ≤ 100000) (hx : rt x = true) (hy : rt y = true) (hi' : nm x = i) (ho : nm y = off) (hin : inside n z i off m = true) (hbad : s.bad.getD i false = false) :
    Calls Tryz.prog 9 #[v, .complex .f64 x y, .slice A m cb] w fun e w' => ∃ v', e = .returned (.tuple #[.int .i64 (s.act i true off bs).1, v']) ∧ Ref w' lo n z (K + 1) (s.act i true off bs).2 v' ∧ Below w.heap.size w w' := by
  obtain ⟨db, dc, wb, wc, bb, bc, cuts, left, whole, mask, L, LC, rfl, hP, hr⟩ := h
  have HP := Lib.hid hP
  have HR := Lib.hid hr
  have hg := hP.geo
  have HX := Lib.hid (BX.of w (rc n z db dc wb wc bb bc (!s.on) s.offs s.acts cuts left whole mask))
  clear hP hr
  unfold refVal
  have HON := Lib.hid hon
  rw [hon] at HX ⊢
  have e0 : ((m : Int) == 0) = false := beq_eq_false_iff_ne.2 (by omega)
  have HW := Lib.hid (fun w => refWithin_calls (n := n) (z := z) x y m w hx hy (by omega) (by omega) hg.2.1 hg.2.2.2)
  rw [hi', ho, hin] at HW
  have HS := Lib.hid (fun w => sector_calls x y w hx)
  have HO := Lib.hid (fun w => offset_calls x y w hy)
  rw [hi'] at HS
  rw [ho] at HO
  have hin2 : i < n := by
    have := (inside_yes hin).2.1
    omega
  have hin3 : off + m ≤ z := by
    have := inside_yes hin
    omega
  clear hin hi' ho
  clear hon
  go_enter Tryz.func9, Tryz.ntmps9
  go_upto_region 1 with (fail)
  change Code.wp _ _ _ _ ((w.alloc (.cells (rc n z db dc wb wc bb bc (!true) s.offs s.acts cuts left whole mask) 33)).alloc (.cells zeroRef 33))
  generalize (w.alloc (.cells (rc n z db dc wb wc bb bc (!true) s.offs s.acts cuts left whole mask) 33)).alloc (.cells zeroRef 33) = W at *
  obtain ⟨t0, t1, t2, t3, t4, t5, t6, t7, t8, t9, t10, t11⟩ := twelve HX.out.box
  have HBAD := Lib.hid hbad
  have HB := Lib.hid hb
  clear hbad hb
  go_wp2_with (first
    | (go_at_call 28; refine (HW.out _).mono ?_; rintro e W2 ⟨rfl, hb2⟩; clear t0 t1 t2 t3 t4 t5 t6 t7 t8 t9 t10 t11; have HX2 := Lib.hid (HX.out.below hb2); have HB2 := Lib.hid (HX.out.bel.trans (hb2.mono HX.out.bel.size)); clear hb2; obtain ⟨t0, t1, t2, t3, t4, t5, t6, t7, t8, t9, t10, t11⟩ := twelve HX2.out.box; have kb := (HP.out.below HB2.out).bad.cell hin2; rw [HBAD.out] at kb; have lb := (HP.out.below HB2.out).bad.lt)
    | (go_at_call 29; refine (HS.out _).mono ?_; rintro e w' ⟨rfl, rfl⟩))
  clear kb lb
  have hb2' : Bs W2.drew A m bs := HB.out.below HB2.out.drew
  have hA : Calls Tryz.prog 30 #[.agg (rc n z db dc wb wc bb bc (!true) s.offs s.acts cuts left whole mask), .int .i64 i, .int .i64 off, .slice A m cb, .bool true] W2.drew (fun e w' => ∃ v', e = .returned (.tuple #[.int .i64 (s.act i true off bs).1, v']) ∧ Ref w' lo n z (K + 1) (s.act i true off bs).2 v' ∧ Below W2.drew.heap.size W2.drew w') :=
    refAct_calls W2.drew (.agg (rc n z db dc wb wc bb bc (!true) s.offs s.acts cuts left whole mask)) (Ref.of (by rw [refVal, HON.out]; rfl) (HP.out.below HB2.out.drew) HR.out) i hin2 off m cb A bs true hb2' hm1 hin3 (by have := HB2.out.size; exact Nat.le_trans hlo this) hK HON.out
  have HA := Lib.hid hA
  clear hA hb2'
  go_region_law (first
    | (go_simp; go_at_call 31; refine (HO.out _).mono ?_; rintro e w' ⟨rfl, rfl⟩; try dsimp only)
    | (go_simp; go_at_call 30; refine (HA.out).mono ?_; rintro e w5 ⟨v', rfl, ⟨db', dc', wb', wc', bb', bc', cuts', left', whole', mask', L', LC', rfl, hP5, hr5⟩, hb5⟩; have HX5 := Lib.hid (HX2.out.drew.below hb5); have HP5 := Lib.hid hP5; have HR5 := Lib.hid hr5; have HBB5 := Lib.hid hb5; clear hP5 hr5 hb5; clear t0 t1 t2 t3 t4 t5 t6 t7 t8 t9 t10 t11; obtain ⟨z0, z1, z2, z3, z4, z5, z6, z7, z8, z9, z10, z11, f0, f1, f2, f3, f4, f5, f6, f7, f8, f9, f10, f11⟩ := twelveZ HX5.out.res; unfold refVal; try dsimp only))
  all_goals
    have hp6 := fun c0 c1 c2 c3 c4 c5 c6 c7 c8 c9 c10 c11 => stored12 HX5.out.res c0 c1 c2 c3 c4 c5 c6 c7 c8 c9 c10 c11
    have HS6 := Lib.hid hp6
    clear hp6 z0 z1 z2 z3 z4 z5 z6 z7 z8 z9 z10 z11 f0 f1 f2 f3 f4 f5 f6 f7 f8 f9 f10 f11
    go_wp2_with fail
    refine bodyPost_ret (v := .tuple #[.int .i64 (s.act i true off bs).1, .agg (rc n z db' dc' wb' wc' bb' bc' (!(s.act i true off bs).2.on) (s.act i true off bs).2.offs (s.act i true off bs).2.acts cuts' left' whole' mask')]) ?_ rfl ⟨_, rfl, Ref.of rfl (RefP.other HP5.out HX5.out.res (HS6.out _ _ _ _ _ _ _ _ _ _ _ _).2) HR5.out, HX5.out.done (HS6.out _ _ _ _ _ _ _ _ _ _ _ _).2⟩
    exact results_tmp_row (fn := Tryz.f9) rfl _ _ (w.heap.size + 1) 33 _ (0, 0) _ rfl (HS6.out _ _ _ _ _ _ _ _ _ _ _ _).1 Tryz.underlying33 rfl info_ref
theorem refProgram_calls (w : World) (v : Value) (h : Ref w lo n z K s v) (x y : Nat) (A : Option Addr) (m cb i off : Nat) (bs : List Int) (hb : Bs w A m bs) (hlo : lo ≤ w.heap.size) (hK : K + 2 ≤ 1000000) (hm1 : m ≤ 100000) (hx : rt x = true) (hy : rt y = true) (hi' : nm x = i) (ho : nm y = off) :
    Calls Tryz.prog 9 #[v, .complex .f64 x y, .slice A m cb] w fun e w' => ∃ v', e = .returned (.tuple #[.int .i64 (s.program n z i off bs).1, v']) ∧ Ref w' lo n z (K + 1) (s.program n z i off bs).2 v' ∧ Below w.heap.size w w' := by
  have hl := hb.len
  have stay : ∀ w' v', Ref w' lo n z K s v' → Ref w' lo n z (K + 1) s v' := fun w' v' h => h.more (by omega) (by omega)
  by_cases hon : s.on = false
  · have e : s.program n z i off bs = (7, s) := by unfold St.program; rw [if_pos hon]
    rw [e]
    exact (refProgram_off w v h x y A m cb hon).mono fun e w' ⟨v', he, hv, hw⟩ => ⟨v', he, stay _ _ hv, hw⟩
  · have hon' : s.on = true := by simpa using hon
    by_cases hm0 : m = 0
    · subst hm0
      have e : s.program n z i off bs = (1, s) := by unfold St.program; rw [if_neg hon, if_pos (.inl hl)]
      rw [e]
      exact (refProgram_none w v h x y A cb hon').mono fun e w' ⟨v', he, hv, hw⟩ => ⟨v', he, stay _ _ hv, hw⟩
    · cases hin : inside n z i off m with
      | false =>
        have e : s.program n z i off bs = (1, s) := by unfold St.program; rw [if_neg hon, if_pos (.inr (by rw [hl]; exact hin))]
        rw [e]
        exact (refProgram_arg w v h x y A m cb hon' (by omega) (by omega) hx hy (by rw [hi', ho]; exact hin)).mono fun e w' ⟨v', he, hv, hw⟩ => ⟨v', he, stay _ _ hv, hw⟩
      | true =>
        have hne : ¬ (bs.length = 0 ∨ inside n z i off bs.length = false) := by rw [hl, hin]; simp [hm0]
        cases hbad : s.bad.getD i false with
        | true =>
          have e : s.program n z i off bs = (8, s) := by unfold St.program; rw [if_neg hon, if_neg hne, if_pos hbad]
          rw [e]
          exact (refProgram_bad w v h x y A m cb i off hon' (by omega) (by omega) hx hy hi' ho hin hbad).mono fun e w' ⟨v', he, hv, hw⟩ => ⟨v', he, stay _ _ hv, hw⟩
        | false =>
          have e : s.program n z i off bs = s.act i true off bs := by unfold St.program; rw [if_neg hon, if_neg hne, if_neg (by rw [hbad]; decide)]
          rw [e]
          exact refProgram_ok w v h x y A m cb i off bs hb hlo hK hon' (by omega) hm1 hx hy hi' ho hin hbad
end
end Go.Proofs.YthbafcihmcjchaaGreatDoor.NorY

/- The contract of the document's Erase. -/
namespace Go.Proofs.YthbafcihmcjchaaGreatDoor.NorZ
set_option linter.unusedVariables false
set_option linter.unusedSimpArgs false
open Go.RowKit
open Go.Proofs.YthbafcihmcjchaaGreatDoor.Byte Go.Proofs.YthbafcihmcjchaaGreatDoor.NorD Go.Proofs.YthbafcihmcjchaaGreatDoor.NorM Go.Proofs.YthbafcihmcjchaaGreatDoor.NorS Go.Proofs.YthbafcihmcjchaaGreatDoor.NorB Go.Proofs.YthbafcihmcjchaaGreatDoor.NorP Go.Proofs.YthbafcihmcjchaaGreatDoor.NorR Go.Proofs.YthbafcihmcjchaaGreatDoor.NorU Go.Proofs.YthbafcihmcjchaaGreatDoor.NorV Go.Proofs.YthbafcihmcjchaaGreatDoor.NorX Go.Proofs.YthbafcihmcjchaaGreatDoor.NorY Go.Proofs.YthbafcihmcjchaaGreatDoor.PlaceM Go.Proofs.YthbafcihmcjchaaGreatDoor.PlaceV

theorem bx_chg {w W W' : World} {c : Array Value} {S : Nat → Prop} (h : BX w W c) (hc : Chg S W W') (h1 : ∀ k, S k → w.heap.size + 1 < k) : BX w W' c :=
  ⟨h.box.chg hc (fun e => by have := h1 _ e; omega), h.res.chg hc (fun e => by have := h1 _ e; omega), h.bel.trans (hc.below h.bel.size (fun k hk e => by have := h1 k e; omega))⟩
theorem bx_grown {w W w1 : World} {c : Array Value} {o : Obj} (h : BX w W c) (hg : (W.alloc o).grownBy w1 (some W.heap.size)) : BX w w1 c :=
  bx_chg h (((Chg.refl (fun _ => False) W).alloc o).then_ (Chg.of_grown (S := fun q => q = W.heap.size) hg (fun k e => .inl (Option.some.inj e).symm)) (fun k hk e => by omega)) (fun _ e => e.elim)
theorem bx_core {w W : World} {c : Array Value} (h : BX w W c) (k : Nat) (v : Value) : BX w (W.setCell ⟨w.heap.size, k, none⟩ v) (c.setIfInBounds k v) :=
  ⟨h.box.set_ k v, h.res.far (p := ⟨w.heap.size, k, none⟩) (by show w.heap.size + 1 ≠ w.heap.size; omega) _, h.bel.setCell (p := ⟨w.heap.size, k, none⟩) (Nat.le_refl _) _⟩
theorem empty_own (W : World) (e : TypeId) : (W.alloc (.cells #[] e)).ownsRow W.heap.size e 1 (.slice (some ⟨W.heap.size, 0, none⟩) 0 0) 0 [] := by
  have := World.ownsRow_lit (base := W.heap.size) (e := e) (size := 1) W #[] 0 (by simp) (by decide) rfl
  simpa using this
def zeros (z : Nat) : Array Value := madeCells (Value.int IntKind.u8 0).cells (z * 1)
theorem run_zeros (z : Nat) (hz : z ≤ 4096) (w : World) : (Instr.makeSlice 38 (.int .i64 z) (.int .i64 z)).run Tryz.prog w = .ok (.slice (some ⟨w.heap.size, 0, none⟩) z z) (w.alloc (.cells (zeros z) 5)) := by
  obtain ⟨i, hi, hz0, hz1, hz2⟩ := info_parts info_u8
  have := run_makeSlice (P := Tryz.prog) (w := w) 38 5 i _ Tryz.underlying38 hi hz0 .i64 .i64 z z (by omega) (by omega) (by rw [hz1, Int.toNat_natCast]; omega) (by rw [hz2]; omega) (by omega)
  rw [hz1, Int.toNat_natCast] at this
  exact this
theorem zeros_bs (z : Nat) (w : World) : Bs (w.alloc (.cells (zeros z) 5)) (some ⟨w.heap.size, 0, none⟩) z (List.replicate z 0) := by
  refine ⟨List.length_replicate, fun x hx => by rw [List.eq_of_mem_replicate hx]; omega, fun k hk => ⟨w.heap.size, 0, rfl, by simp, ?_⟩⟩
  rw [Nat.zero_add, (Blk.new w 5 (zeros z)).cell k, ← Array.getElem?_toList, zeros, Nat.mul_one, show (Value.int IntKind.u8 0).cells = #[.int .u8 0] from rfl, toList_madeCells_one, replicate_getD, if_pos hk, List.getElem?_replicate, if_pos hk]

section
variable {lo n z K : Nat} {s : St}
set_option maxRecDepth 100000 in
set_option maxHeartbeats 1000000 in
theorem refErase_off (w : World) (v : Value) (h : Ref w lo n z K s v) (se : Int) (hon : s.on = false) :
    Calls Tryz.prog 32 #[v, .int .i64 se] w fun e w' => ∃ v', e = .returned (.tuple #[.int .i64 7, v']) ∧ Ref w' lo n z K s v' ∧ Below w.heap.size w w' := by
  obtain ⟨db, dc, wb, wc, bb, bc, cuts, left, whole, mask, L, LC, rfl, hP, hr⟩ := h
  have HP := Lib.hid hP
  have HR := Lib.hid hr
  have hg := hP.geo
  have HX := Lib.hid (BX.of w (rc n z db dc wb wc bb bc (!s.on) s.offs s.acts cuts left whole mask))
  clear hP hr
  unfold refVal
  have HON := Lib.hid hon
  rw [hon] at HX ⊢
  clear hon
  go_enter Tryz.func32, Tryz.ntmps32
  go_upto_region 1 with (fail)
  change Code.wp _ _ _ _ ((w.alloc (.cells (rc n z db dc wb wc bb bc (!false) s.offs s.acts cuts left whole mask) 33)).alloc (.cells zeroRef 33))
  generalize (w.alloc (.cells (rc n z db dc wb wc bb bc (!false) s.offs s.acts cuts left whole mask) 33)).alloc (.cells zeroRef 33) = W at *
  obtain ⟨t0, t1, t2, t3, t4, t5, t6, t7, t8, t9, t10, t11⟩ := twelve HX.out.box
  go_wp2_with fail
  go_still_tail 2, (by kernel_rfl)
  change wpList _ _ _ _ _ W.drew
  clear t0 t1 t2 t3 t4 t5 t6 t7 t8 t9 t10 t11
  go_wp2_with ((with_reducible refine pick none ?_); refine wpList_store_blk rfl 33 _ _ rfl (w.heap.size + 1) (rc n z db dc wb wc bb bc (!false) s.offs s.acts cuts left whole mask) rfl rfl 33 zeroRef HX.out.drew.res info_ref rfl (rc_one _ _ _ _ _ _ _ _ _ _ _ _ _ _ _) ?_; intro w4 hb4 hg4)
  refine bodyPost_ret (v := .tuple #[.int .i64 7, .agg (rc n z db dc wb wc bb bc (!false) s.offs s.acts cuts left whole mask)]) ?_ rfl ⟨_, rfl, Ref.of (by rw [refVal, HON.out]; rfl) (HP.out.below (HX.out.drew.done hg4)) HR.out, HX.out.drew.done hg4⟩
  exact results_tmp_row (fn := Tryz.f32) rfl _ _ (w.heap.size + 1) 33 _ (0, 0) _ rfl hb4 Tryz.underlying33 rfl info_ref
set_option maxRecDepth 100000 in
set_option maxHeartbeats 1000000 in
theorem refErase_neg (w : World) (v : Value) (h : Ref w lo n z K s v) (se : Int) (hon : s.on = true) (hse : se < 0) :
    Calls Tryz.prog 32 #[v, .int .i64 se] w fun e w' => ∃ v', e = .returned (.tuple #[.int .i64 1, v']) ∧ Ref w' lo n z K s v' ∧ Below w.heap.size w w' := by
  obtain ⟨db, dc, wb, wc, bb, bc, cuts, left, whole, mask, L, LC, rfl, hP, hr⟩ := h
  have HP := Lib.hid hP
  have HR := Lib.hid hr
  have hg := hP.geo
  have HX := Lib.hid (BX.of w (rc n z db dc wb wc bb bc (!s.on) s.offs s.acts cuts left whole mask))
  clear hP hr
  unfold refVal
  have HON := Lib.hid hon
  rw [hon] at HX ⊢
  have d0 : decide (se < 0) = true := by simp; omega
  clear hon
  go_enter Tryz.func32, Tryz.ntmps32
  go_upto_region 1 with (fail)
  change Code.wp _ _ _ _ ((w.alloc (.cells (rc n z db dc wb wc bb bc (!true) s.offs s.acts cuts left whole mask) 33)).alloc (.cells zeroRef 33))
  generalize (w.alloc (.cells (rc n z db dc wb wc bb bc (!true) s.offs s.acts cuts left whole mask) 33)).alloc (.cells zeroRef 33) = W at *
  obtain ⟨t0, t1, t2, t3, t4, t5, t6, t7, t8, t9, t10, t11⟩ := twelve HX.out.box
  go_wp2_with fail
  go_still_tail 2, (by kernel_rfl)
  change wpList _ _ _ _ _ W.drew
  clear t0 t1 t2 t3 t4 t5 t6 t7 t8 t9 t10 t11
  go_wp2_with ((with_reducible refine pick none ?_); refine wpList_store_blk rfl 33 _ _ rfl (w.heap.size + 1) (rc n z db dc wb wc bb bc (!true) s.offs s.acts cuts left whole mask) rfl rfl 33 zeroRef HX.out.drew.res info_ref rfl (rc_one _ _ _ _ _ _ _ _ _ _ _ _ _ _ _) ?_; intro w4 hb4 hg4)
  refine bodyPost_ret (v := .tuple #[.int .i64 1, .agg (rc n z db dc wb wc bb bc (!true) s.offs s.acts cuts left whole mask)]) ?_ rfl ⟨_, rfl, Ref.of (by rw [refVal, HON.out]; rfl) (HP.out.below (HX.out.drew.done hg4)) HR.out, HX.out.drew.done hg4⟩
  exact results_tmp_row (fn := Tryz.f32) rfl _ _ (w.heap.size + 1) 33 _ (0, 0) _ rfl hb4 Tryz.underlying33 rfl info_ref
set_option maxRecDepth 100000 in
set_option maxHeartbeats 1000000 in
theorem refErase_big (w : World) (v : Value) (h : Ref w lo n z K s v) (se : Int) (hon : s.on = true) (hse : 0 ≤ se ∧ (n : Int) ≤ se) :
    Calls Tryz.prog 32 #[v, .int .i64 se] w fun e w' => ∃ v', e = .returned (.tuple #[.int .i64 1, v']) ∧ Ref w' lo n z K s v' ∧ Below w.heap.size w w' := by
  obtain ⟨db, dc, wb, wc, bb, bc, cuts, left, whole, mask, L, LC, rfl, hP, hr⟩ := h
  have HP := Lib.hid hP
  have HR := Lib.hid hr
  have hg := hP.geo
  have HX := Lib.hid (BX.of w (rc n z db dc wb wc bb bc (!s.on) s.offs s.acts cuts left whole mask))
  clear hP hr
  unfold refVal
  have HON := Lib.hid hon
  rw [hon] at HX ⊢
  have d0 : decide (se < 0) = false := by simp; omega
  have d1 : decide ((n : Int) ≤ se) = true := by simp; omega
  clear hon
  go_enter Tryz.func32, Tryz.ntmps32
  go_upto_region 1 with (fail)
  change Code.wp _ _ _ _ ((w.alloc (.cells (rc n z db dc wb wc bb bc (!true) s.offs s.acts cuts left whole mask) 33)).alloc (.cells zeroRef 33))
  generalize (w.alloc (.cells (rc n z db dc wb wc bb bc (!true) s.offs s.acts cuts left whole mask) 33)).alloc (.cells zeroRef 33) = W at *
  obtain ⟨t0, t1, t2, t3, t4, t5, t6, t7, t8, t9, t10, t11⟩ := twelve HX.out.box
  go_wp2_with fail
  go_still_tail 2, (by kernel_rfl)
  change wpList _ _ _ _ _ W.drew
  clear t0 t1 t2 t3 t4 t5 t6 t7 t8 t9 t10 t11
  go_wp2_with ((with_reducible refine pick none ?_); refine wpList_store_blk rfl 33 _ _ rfl (w.heap.size + 1) (rc n z db dc wb wc bb bc (!true) s.offs s.acts cuts left whole mask) rfl rfl 33 zeroRef HX.out.drew.res info_ref rfl (rc_one _ _ _ _ _ _ _ _ _ _ _ _ _ _ _) ?_; intro w4 hb4 hg4)
  refine bodyPost_ret (v := .tuple #[.int .i64 1, .agg (rc n z db dc wb wc bb bc (!true) s.offs s.acts cuts left whole mask)]) ?_ rfl ⟨_, rfl, Ref.of (by rw [refVal, HON.out]; rfl) (HP.out.below (HX.out.drew.done hg4)) HR.out, HX.out.drew.done hg4⟩
  exact results_tmp_row (fn := Tryz.f32) rfl _ _ (w.heap.size + 1) 33 _ (0, 0) _ rfl hb4 Tryz.underlying33 rfl info_ref
set_option maxRecDepth 100000 in
set_option maxHeartbeats 1000000 in
theorem refErase_bad (w : World) (v : Value) (h : Ref w lo n z K s v) (i : Nat) (hon : s.on = true) (hin : i < n) (hbad : s.bad.getD i false = true) :
    Calls Tryz.prog 32 #[v, .int .i64 i] w fun e w' => ∃ v', e = .returned (.tuple #[.int .i64 8, v']) ∧ Ref w' lo n z K s v' ∧ Below w.heap.size w w' := by
  have HBAD := Lib.hid hbad
  clear hbad
  obtain ⟨db, dc, wb, wc, bb, bc, cuts, left, whole, mask, L, LC, rfl, hP, hr⟩ := h
  have HP := Lib.hid hP
  have HR := Lib.hid hr
  have hg := hP.geo
  have HX := Lib.hid (BX.of w (rc n z db dc wb wc bb bc (!s.on) s.offs s.acts cuts left whole mask))
  clear hP hr
  unfold refVal
  have HON := Lib.hid hon
  rw [hon] at HX ⊢
  have d0 : decide ((i : Int) < 0) = false := by simp
  have d1 : decide ((n : Int) ≤ (i : Int)) = false := by simp; omega
  clear hon
  go_enter Tryz.func32, Tryz.ntmps32
  go_upto_region 1 with (fail)
  change Code.wp _ _ _ _ ((w.alloc (.cells (rc n z db dc wb wc bb bc (!true) s.offs s.acts cuts left whole mask) 33)).alloc (.cells zeroRef 33))
  generalize (w.alloc (.cells (rc n z db dc wb wc bb bc (!true) s.offs s.acts cuts left whole mask) 33)).alloc (.cells zeroRef 33) = W at *
  obtain ⟨t0, t1, t2, t3, t4, t5, t6, t7, t8, t9, t10, t11⟩ := twelve HX.out.box
  have kb := (HP.out.below HX.out.bel).bad.cell hin
  rw [HBAD.out] at kb
  have lb := (HP.out.below HX.out.bel).bad.lt
  go_wp2_with fail
  clear kb lb
  go_still_tail 2, (by kernel_rfl)
  change wpList _ _ _ _ _ W.drew
  clear t0 t1 t2 t3 t4 t5 t6 t7 t8 t9 t10 t11
  go_wp2_with ((with_reducible refine pick none ?_); refine wpList_store_blk rfl 33 _ _ rfl (w.heap.size + 1) (rc n z db dc wb wc bb bc (!true) s.offs s.acts cuts left whole mask) rfl rfl 33 zeroRef HX.out.drew.res info_ref rfl (rc_one _ _ _ _ _ _ _ _ _ _ _ _ _ _ _) ?_; intro w4 hb4 hg4)
  refine bodyPost_ret (v := .tuple #[.int .i64 8, .agg (rc n z db dc wb wc bb bc (!true) s.offs s.acts cuts left whole mask)]) ?_ rfl ⟨_, rfl, Ref.of (by rw [refVal, HON.out]; rfl) (HP.out.below (HX.out.drew.done hg4)) HR.out, HX.out.drew.done hg4⟩
  exact results_tmp_row (fn := Tryz.f32) rfl _ _ (w.heap.size + 1) 33 _ (0, 0) _ rfl hb4 Tryz.underlying33 rfl info_ref
set_option maxRecDepth 100000 in
set_option maxHeartbeats 1000000 in
theorem refErase_ok (w : World) (v : Value) (h : Ref w lo n z K s v) (i : Nat) (hlo : lo ≤ w.heap.size) (hK : K + 3 ≤ 1000000) (hon : s.on = true) (hin : i < n) (hbad : s.bad.getD i false = false) :
    Calls Tryz.prog 32 #[v, .int .i64 i] w fun e w' => ∃ v', e = .returned (.tuple #[.int .i64 ((s.worn i).act i false 0 (List.replicate z 0)).1, v']) ∧ Ref w' lo n z (K + 1 + 1) ((s.worn i).act i false 0 (List.replicate z 0)).2 v' ∧ Below w.heap.size w w' := by
  have HBAD := Lib.hid hbad
  clear hbad
  obtain ⟨db, dc, wb, wc, bb, bc, cuts, left, whole, mask, L, LC, rfl, hP, hr⟩ := h
  have HP := Lib.hid hP
  have HR := Lib.hid hr
  have hg := hP.geo
  have HX := Lib.hid (BX.of w (rc n z db dc wb wc bb bc (!s.on) s.offs s.acts cuts left whole mask))
  clear hP hr
  unfold refVal
  have HON := Lib.hid hon
  rw [hon] at HX ⊢
  have d0 : decide ((i : Int) < 0) = false := by simp
  have d1 : decide ((n : Int) ≤ (i : Int)) = false := by simp; omega
  clear hon
  go_enter Tryz.func32, Tryz.ntmps32
  go_upto_region 1 with (fail)
  change Code.wp _ _ _ _ ((w.alloc (.cells (rc n z db dc wb wc bb bc (!true) s.offs s.acts cuts left whole mask) 33)).alloc (.cells zeroRef 33))
  generalize (w.alloc (.cells (rc n z db dc wb wc bb bc (!true) s.offs s.acts cuts left whole mask) 33)).alloc (.cells zeroRef 33) = W at *
  obtain ⟨t0, t1, t2, t3, t4, t5, t6, t7, t8, t9, t10, t11⟩ := twelve HX.out.box
  have kb := (HP.out.below HX.out.bel).bad.cell hin
  rw [HBAD.out] at kb
  have lb := (HP.out.below HX.out.bel).bad.lt
  have hwb := HP.out.fits.wb i
  obtain ⟨y, hy⟩ : ∃ y, s.wear.getD i 0 = y := ⟨_, rfl⟩
  rw [hy] at hwb
  have HY := Lib.hid hy
  clear hy
  have hwr : IntKind.i64.wrap (y + 1) = y + 1 := by rw [IntKind.wrap_i64]; omega
  have lx : w.heap.size < W.heap.size := by have := HX.out.lt; omega
  have HB0 : Hid (Below w.heap.size w (W.alloc (.cells #[] 3))) := HX.out.bel.alloc HX.out.bel.size _
  go_wp2_with ((with_reducible refine pick (some 30) ?_); refine wpList_append_row rfl _ _ _ rfl W.heap.size 3 Tryz.underlying30 _ 8 info_int rfl (by omega) W.heap.size rfl (empty_own W _) lo wb n wc _ rfl (HP.out.below HB0.out).wear (fun _ => rfl) hg.1 (by omega) (by simp) ?_; intro g1 cap1 w1 hrow1 hc1 hc2 hg1 hat1; clear t0 t1 t2 t3 t4 t5 t6 t7 t8 t9 t10 t11 kb lb; have HX1 := Lib.hid (bx_grown HX.out hg1); have HROW := Lib.hid hrow1; have kc := hrow1.cell hin; rw [HY.out] at kc; have k3 : w1.cell? ⟨w.heap.size, 3, none⟩ = some (.slice (some ⟨wb, 0, none⟩) n wc) := HX1.out.box.cell 3; have kf := hrow1.fr i; have f3 := HX1.out.box.frozen 3; have hge : w.heap.size + 1 < g1 := (by have := hrow1.1; have := HX.out.lt; omega); have n1 : ¬ g1 = w.heap.size := (by omega); have n2 : ¬ w.heap.size = g1 := (by omega); clear hrow1 hg1 hat1)
  have hc2' : Chg (fun q => q = g1) w1 (w1.setCell ⟨g1, i, none⟩ (.int .i64 (y + 1))) := (Chg.refl _ w1).own i _
  have HX2 := Lib.hid (bx_core (bx_chg HX1.out hc2' (fun k e => by omega)) 3 (.slice (some ⟨g1, 0, none⟩) n cap1))
  have hr2 := HROW.out.set_ i (.int .i64 (y + 1)) hin
  have hr3 : Row ((w1.setCell ⟨g1, i, none⟩ (.int .i64 (y + 1))).setCell ⟨w.heap.size, 3, none⟩ (.slice (some ⟨g1, 0, none⟩) n cap1)) lo g1 3 n (fun j => .int .i64 ((s.worn i).wear.getD j 0)) := by
    refine ((hr2.of_eq (Below.heap_setCell _ ⟨w.heap.size, 3, none⟩ _ g1 n1)).congr (fun j hj => ?_)).base (by have := HX.out.lt; omega)
    show _ = Value.int .i64 ((s.wear.set i _).getD j 0)
    rw [getD_set _ _ _ _ (by rw [HP.out.fits.wl]; exact hin)]
    rw [HY.out]
    by_cases e : j = i <;> simp [e]
  have HR3 := Lib.hid hr3
  clear hr2 hr3 hc2' kc k3 kf f3 HX1 HROW hwr
  generalize (w1.setCell ⟨g1, i, none⟩ (.int .i64 (y + 1))).setCell ⟨w.heap.size, 3, none⟩ (.slice (some ⟨g1, 0, none⟩) n cap1) = W3 at *
  have HX3 : Hid (BX w W3 (rc n z db dc g1 cap1 bb bc (!true) s.offs s.acts cuts left whole mask)) := HX2.out
  clear HX2
  obtain ⟨t0, t1, t2, t3, t4, t5, t6, t7, t8, t9, t10, t11⟩ := twelve HX3.out.box
  have lx3 : w.heap.size < W3.heap.size := by have := HX3.out.lt; omega
  have hbel3 : Below w.heap.size w (W3.drew.alloc (.cells (zeros z) 5)) := HX3.out.bel.drew.alloc HX3.out.bel.size _
  have hA : Calls Tryz.prog 30 #[.agg (rc n z db dc g1 cap1 bb bc (!true) s.offs s.acts cuts left whole mask), .int .i64 i, .int .i64 0, .slice (some ⟨W3.heap.size, 0, none⟩) z z, .bool false] (W3.drew.alloc (.cells (zeros z) 5)) (fun e w' => ∃ v', e = .returned (.tuple #[.int .i64 ((s.worn i).act i false 0 (List.replicate z 0)).1, v']) ∧ Ref w' lo n z (K + 1 + 1) ((s.worn i).act i false 0 (List.replicate z 0)).2 v' ∧ Below (W3.drew.alloc (.cells (zeros z) 5)).heap.size (W3.drew.alloc (.cells (zeros z) 5)) w') := by
    have hq := HP.out.below hbel3
    refine refAct_calls _ _ (Ref.of (s := s.worn i) (K := K + 1) (db := db) (wb := g1) (bb := bb) (L := L) (LC := LC) ?_ ⟨hq.data, HR3.out.of_eq ((Below.heap_alloc W3.drew _ g1 HR3.out.lt)), hq.bad, hq.rows, hq.cut, hq.fits.worn i hin, hq.geo, hq.lw, by omega⟩ ⟨HR.out.1, hc1, HR.out.2.2.1, HR.out.2.2.2.1, hc2, HR.out.2.2.2.2.2⟩) i hin 0 z z _ _ false (zeros_bs z W3.drew) (by omega) (by omega) (Nat.le_trans hlo hbel3.size) (by omega) HON.out
    rw [refVal, show (s.worn i).on = true from HON.out]
    rfl
  have HA := Lib.hid hA
  clear hA
  have hmk := run_zeros z hg.2.2.2
  have HX4 := Lib.hid (HX3.out.below (W' := W3.drew.alloc (.cells (zeros z) 5)) ((Below.refl _ _).drew.alloc (Nat.le_refl _) _))
  go_region_law (go_simp; go_at_call 30; refine (HA.out).mono ?_; rintro e w5 ⟨v', rfl, ⟨db', dc', wb', wc', bb', bc', cuts', left', whole', mask', L', LC', rfl, hP5, hr5⟩, hb5⟩; have HX5 := Lib.hid (HX4.out.below hb5); have HP5 := Lib.hid hP5; have HR5 := Lib.hid hr5; have HBB5 := Lib.hid hb5; clear hP5 hr5 hb5; clear t0 t1 t2 t3 t4 t5 t6 t7 t8 t9 t10 t11; obtain ⟨z0, z1, z2, z3, z4, z5, z6, z7, z8, z9, z10, z11, f0, f1, f2, f3, f4, f5, f6, f7, f8, f9, f10, f11⟩ := twelveZ HX5.out.res; unfold refVal; try dsimp only)
  all_goals
    have hp6 := fun c0 c1 c2 c3 c4 c5 c6 c7 c8 c9 c10 c11 => stored12 HX5.out.res c0 c1 c2 c3 c4 c5 c6 c7 c8 c9 c10 c11
    have HS6 := Lib.hid hp6
    clear hp6 z0 z1 z2 z3 z4 z5 z6 z7 z8 z9 z10 z11 f0 f1 f2 f3 f4 f5 f6 f7 f8 f9 f10 f11 hmk
    go_wp2_with fail
    refine bodyPost_ret (v := .tuple #[.int .i64 ((s.worn i).act i false 0 (List.replicate z 0)).1, .agg (rc n z db' dc' wb' wc' bb' bc' (!((s.worn i).act i false 0 (List.replicate z 0)).2.on) ((s.worn i).act i false 0 (List.replicate z 0)).2.offs ((s.worn i).act i false 0 (List.replicate z 0)).2.acts cuts' left' whole' mask')]) ?_ rfl ⟨_, rfl, Ref.of rfl (RefP.other HP5.out HX5.out.res (HS6.out _ _ _ _ _ _ _ _ _ _ _ _).2) HR5.out, HX5.out.done (HS6.out _ _ _ _ _ _ _ _ _ _ _ _).2⟩
    exact results_tmp_row (fn := Tryz.f32) rfl _ _ (w.heap.size + 1) 33 _ (0, 0) _ rfl (HS6.out _ _ _ _ _ _ _ _ _ _ _ _).1 Tryz.underlying33 rfl info_ref
theorem refErase_calls (w : World) (v : Value) (h : Ref w lo n z K s v) (se : Int) (hlo : lo ≤ w.heap.size) (hK : K + 3 ≤ 1000000) :
    Calls Tryz.prog 32 #[v, .int .i64 se] w fun e w' => ∃ v', e = .returned (.tuple #[.int .i64 (s.erase n z se).1, v']) ∧ Ref w' lo n z (K + 2) (s.erase n z se).2 v' ∧ Below w.heap.size w w' := by
  have stay : ∀ w' v', Ref w' lo n z K s v' → Ref w' lo n z (K + 2) s v' := fun w' v' h => h.more (by omega) (by omega)
  by_cases hon : s.on = false
  · have e : s.erase n z se = (7, s) := by unfold St.erase; rw [if_pos hon]
    rw [e]
    exact (refErase_off w v h se hon).mono fun e w' ⟨v', he, hv, hw⟩ => ⟨v', he, stay _ _ hv, hw⟩
  · have hon' : s.on = true := by simpa using hon
    by_cases hse : se < 0 ∨ (n : Int) ≤ se
    · have e : s.erase n z se = (1, s) := by unfold St.erase; rw [if_neg hon, if_pos hse]
      rw [e]
      by_cases h0 : se < 0
      · exact (refErase_neg w v h se hon' h0).mono fun e w' ⟨v', he, hv, hw⟩ => ⟨v', he, stay _ _ hv, hw⟩
      · exact (refErase_big w v h se hon' (by omega)).mono fun e w' ⟨v', he, hv, hw⟩ => ⟨v', he, stay _ _ hv, hw⟩
    · obtain ⟨i, rfl⟩ := Int.eq_ofNat_of_zero_le (show 0 ≤ se by omega)
      have hin : i < n := by omega
      cases hbad : s.bad.getD i false with
      | true =>
        have e : s.erase n z i = (8, s) := by unfold St.erase; rw [if_neg hon, if_neg hse, Int.toNat_natCast, if_pos hbad]
        rw [e]
        exact (refErase_bad w v h i hon' hin hbad).mono fun e w' ⟨v', he, hv, hw⟩ => ⟨v', he, stay _ _ hv, hw⟩
      | false =>
        have e : s.erase n z i = (s.worn i).act i false 0 (List.replicate z 0) := by unfold St.erase; rw [if_neg hon, if_neg hse, Int.toNat_natCast, if_neg (by rw [hbad]; decide)]
        rw [e]
        exact refErase_ok w v h i hlo hK hon' hin hbad
end
end Go.Proofs.YthbafcihmcjchaaGreatDoor.NorZ

/- The contract of the document's New. -/
namespace Go.Proofs.YthbafcihmcjchaaGreatDoor.NorI
set_option linter.unusedVariables false
set_option linter.unusedSimpArgs false
open Go.RowKit
open Go.Proofs.YthbafcihmcjchaaGreatDoor.Byte Go.Proofs.YthbafcihmcjchaaGreatDoor.NorD Go.Proofs.YthbafcihmcjchaaGreatDoor.NorM Go.Proofs.YthbafcihmcjchaaGreatDoor.NorS Go.Proofs.YthbafcihmcjchaaGreatDoor.NorB Go.Proofs.YthbafcihmcjchaaGreatDoor.NorP Go.Proofs.YthbafcihmcjchaaGreatDoor.NorR Go.Proofs.YthbafcihmcjchaaGreatDoor.NorU Go.Proofs.YthbafcihmcjchaaGreatDoor.NorV Go.Proofs.YthbafcihmcjchaaGreatDoor.NorX Go.Proofs.YthbafcihmcjchaaGreatDoor.NorY Go.Proofs.YthbafcihmcjchaaGreatDoor.NorZ Go.Proofs.YthbafcihmcjchaaGreatDoor.PlaceM Go.Proofs.YthbafcihmcjchaaGreatDoor.PlaceV

section
variable {w w' : World} {base g k : Nat} {e : TypeId} {v : Value} {xs : List Value}
theorem own_blk (h : w.ownsRow base e 1 v k xs) {q : Nat} (hq : v.ownBlock = some q) : ∃ cs, Blk w q e cs := by
  rcases h.2 with ⟨rfl, _⟩ | ⟨g', cap', cur, rfl, _, h3, _⟩
  · cases hq
  · injection hq with hq
    have hq : g' = q := hq
    subst hq
    exact ⟨cur, h3⟩
theorem own_chg {S : Nat → Prop} (h : w.ownsRow base e 1 v k xs) (hc : Chg S w w') (hS : ∀ q, v.ownBlock = some q → ¬ S q) : w'.ownsRow base e 1 v k xs := by
  have hl := h.lt
  rcases h with ⟨h1, ⟨rfl, h2⟩ | ⟨g', cap', cur, rfl, hb, h3, h4⟩⟩
  · exact ⟨h1, .inl ⟨rfl, h2⟩⟩
  · exact ⟨h1, .inr ⟨g', cap', cur, rfl, hb, (hc.block g' (hl g' rfl).2 (hS g' rfl)).trans h3, h4⟩⟩
theorem own_off {t : TypeId} {cs : Array Value} (h : w.ownsRow base e 1 v k xs) (hb : Blk w g t cs) (ht : t ≠ e) : v.ownBlock ≠ some g := by
  intro hq
  obtain ⟨cs', hb'⟩ := own_blk h hq
  exact Blk.ne_ hb hb' ht rfl
theorem own_two {e' : TypeId} {v' : Value} {k' base' : Nat} {xs' : List Value} (h : w.ownsRow base e 1 v k xs) (h' : w.ownsRow base' e' 1 v' k' xs') (ht : e ≠ e') {q : Nat} (hq : v.ownBlock = some q) : v'.ownBlock ≠ some q := by
  obtain ⟨cs, hb⟩ := own_blk h hq
  exact own_off h' hb ht
end

/-- The device while it is being made. -/
def nc (n z : Nat) (dv wv bv : Value) : Array Value := #[.int .i64 n, .int .i64 z, dv, wv, bv, .bool false, .int .i64 0, .int .i64 0, .bool false, .int .i64 0, .int .i64 0, .int .u8 0]
def slc (z : Nat) (p : Nat × Nat) : Value := .slice (some ⟨p.1, 0, none⟩) z p.2
structure NR (w wr : World) (n z ka kb kc : Nat) (gs : List (Nat × Nat)) (dv wv bv : Value) : Prop where
  geo : Blk wr w.heap.size 28 #[.int .i64 n, .int .i64 z]
  res : Blk wr (w.heap.size + 1) 33 zeroRef
  dev : Blk wr (w.heap.size + 1 + 1) 33 (nc n z dv wv bv)
  od : wr.ownsRow w.heap.size 38 1 dv ka (gs.map (slc z))
  ow : wr.ownsRow w.heap.size 3 1 wv kb (List.replicate kb (.int .i64 0))
  ob : wr.ownsRow w.heap.size 4 1 bv kc (List.replicate kc (.bool false))
  rows : ∀ p ∈ gs, Ob wr w.heap.size 5 p.1 z p.2 (List.replicate z 255)
  len : gs.length = ka
  bel : Below w.heap.size w wr
section
variable {w wr W : World} {n z ka kb kc : Nat} {gs : List (Nat × Nat)} {dv wv bv : Value}
theorem rows_chg {S : Nat → Prop} (h : ∀ p ∈ gs, Ob wr w.heap.size 5 p.1 z p.2 (List.replicate z 255)) (hc : Chg S wr W) (hS : ∀ q cs, Blk wr q 5 cs → ¬ S q) : ∀ p ∈ gs, Ob W w.heap.size 5 p.1 z p.2 (List.replicate z 255) := fun p hp => by
  have h' := h p hp
  obtain ⟨cur, hh, _⟩ := h'.row
  exact h'.chg hc (hS _ _ hh)
theorem NR.below (h : NR w wr n z ka kb kc gs dv wv bv) (hb : Below wr.heap.size wr W) : NR w W n z ka kb kc gs dv wv bv := by
  have hc : Chg (fun _ => False) wr W := Chg.of_below hb
  exact ⟨h.geo.chg hc (fun h => h), h.res.chg hc (fun h => h), h.dev.chg hc (fun h => h), own_chg h.od hc (fun _ _ h => h), own_chg h.ow hc (fun _ _ h => h), own_chg h.ob hc (fun _ _ h => h), rows_chg h.rows hc (fun _ _ _ h => h), h.len, h.bel.trans (hb.mono h.bel.size)⟩
/-- A row of the device grows. -/
theorem grow_chg {v u : Value} {o : Obj} {w4 : World} {d i : Nat} (hg : (wr.alloc o).grownBy w4 v.ownBlock) : Chg (fun q => v.ownBlock = some q ∨ q = d) wr (w4.setCell ⟨d, i, none⟩ u) := by
  have hc4 : Chg (fun q => v.ownBlock = some q) wr w4 := ((Chg.refl _ wr).alloc o).then_ (Chg.of_grown hg (fun q e => .inl e)) (fun _ _ h => h)
  exact (hc4.mono (fun _ _ h => .inl h)).setCell (.inl (.inr rfl)) _
theorem grow_dev {v u : Value} {o : Obj} {w4 : World} {d i base k : Nat} {e t : TypeId} {cs : Array Value} {xs : List Value} (hg : (wr.alloc o).grownBy w4 v.ownBlock) (ho : wr.ownsRow base e 1 v k xs) (hd : Blk wr d t cs) (ht : t ≠ e) : Blk (w4.setCell ⟨d, i, none⟩ u) d t (cs.setIfInBounds i u) := by
  have hc4 : Chg (fun q => v.ownBlock = some q) wr w4 := ((Chg.refl _ wr).alloc o).then_ (Chg.of_grown hg (fun q e => .inl e)) (fun _ _ h => h)
  exact (hd.chg hc4 (own_off ho hd ht)).set_ i u
theorem grow_blk {v : Value} {o : Obj} {w4 : World} {d base k : Nat} {e t : TypeId} {cs : Array Value} {xs : List Value} (hg : (wr.alloc o).grownBy w4 v.ownBlock) (ho : wr.ownsRow base e 1 v k xs) (hd : Blk wr d t cs) (ht : t ≠ e) : Blk w4 d t cs := by
  have hc4 : Chg (fun q => v.ownBlock = some q) wr w4 := ((Chg.refl _ wr).alloc o).then_ (Chg.of_grown hg (fun q e => .inl e)) (fun _ _ h => h)
  exact hd.chg hc4 (own_off ho hd ht)
theorem grow_own {v u v4 : Value} {o : Obj} {w4 : World} {d i base k base' k' : Nat} {e t : TypeId} {cs : Array Value} {xs xs' : List Value} (hg : (wr.alloc o).grownBy w4 v.ownBlock) (ho : wr.ownsRow base e 1 v k xs) (hd : Blk wr d t cs) (ht : t ≠ e) (h4 : w4.ownsRow base' e 1 v4 k' xs') : (w4.setCell ⟨d, i, none⟩ u).ownsRow base' e 1 v4 k' xs' := by
  have hc4 : Chg (fun q => v.ownBlock = some q) wr w4 := ((Chg.refl _ wr).alloc o).then_ (Chg.of_grown hg (fun q e => .inl e)) (fun _ _ h => h)
  refine own_chg h4 ((Chg.refl (fun q => q = d) w4).own i u) fun q hq e => ?_
  subst e
  exact own_off h4 (hd.chg hc4 (own_off ho hd ht)) ht hq
theorem NR.bel_ (h : NR w wr n z ka kb kc gs dv wv bv) {S : Nat → Prop} (hc : Chg S wr W) (hS : ∀ q, S q → w.heap.size ≤ q) : Below w.heap.size w W := h.bel.trans (hc.below h.bel.size (fun k hk e => by have := hS k e; omega))
theorem NR.data (h : NR w wr n z ka kb kc gs dv wv bv) {g cap g4 cap4 : Nat} {o : Obj} {w4 : World} (hr : Ob wr w.heap.size 5 g z cap (List.replicate z 255))
    (h4 : w4.ownsRow w.heap.size 38 1 (.slice (some ⟨g4, 0, none⟩) (ka + 1) cap4) (ka + 1) (gs.map (slc z) ++ [slc z (g, cap)])) (hg : (wr.alloc o).grownBy w4 dv.ownBlock) :
    NR w (w4.setCell ⟨w.heap.size + 1 + 1, 2, none⟩ (.slice (some ⟨g4, 0, none⟩) (ka + 1) cap4)) n z (ka + 1) kb kc (gs ++ [(g, cap)]) (.slice (some ⟨g4, 0, none⟩) (ka + 1) cap4) wv bv := by
  have hc := grow_chg (d := w.heap.size + 1 + 1) (i := 2) (u := .slice (some ⟨g4, 0, none⟩) (ka + 1) cap4) hg
  have hrows : ∀ p ∈ gs ++ [(g, cap)], Ob wr w.heap.size 5 p.1 z p.2 (List.replicate z 255) := fun p hp => by
    rcases List.mem_append.1 hp with hp | hp
    · exact h.rows p hp
    · rw [List.mem_singleton] at hp
      subst hp
      exact hr
  exact ⟨h.geo.chg hc (fun e => e.elim (own_off h.od h.geo (by decide)) (by omega)), h.res.chg hc (fun e => e.elim (own_off h.od h.res (by decide)) (by omega)), grow_dev hg h.od h.dev (by decide), by
    have e1 : (gs ++ [(g, cap)]).map (slc z) = gs.map (slc z) ++ [slc z (g, cap)] := by simp
    rw [e1]
    exact grow_own hg h.od h.dev (by decide) h4,
    own_chg h.ow hc (fun q hq e => e.elim (own_two h.ow h.od (by decide) hq) (fun e => by subst e; exact own_off h.ow h.dev (by decide) hq)), own_chg h.ob hc (fun q hq e => e.elim (own_two h.ob h.od (by decide) hq) (fun e => by subst e; exact own_off h.ob h.dev (by decide) hq)),
    rows_chg hrows hc (fun q cs hb e => e.elim (own_off h.od hb (by decide)) (fun e => Blk.ne_ hb h.dev (by decide) e)), by simp [h.len], h.bel_ hc (fun q e => e.elim (fun e => (h.od.lt q e).1) (fun e => by omega))⟩
theorem NR.wear (h : NR w wr n z ka kb kc gs dv wv bv) {g4 cap4 : Nat} {o : Obj} {w4 : World}
    (h4 : w4.ownsRow w.heap.size 3 1 (.slice (some ⟨g4, 0, none⟩) (kb + 1) cap4) (kb + 1) (List.replicate kb (.int .i64 0) ++ [.int .i64 0])) (hg : (wr.alloc o).grownBy w4 wv.ownBlock) :
    NR w (w4.setCell ⟨w.heap.size + 1 + 1, 3, none⟩ (.slice (some ⟨g4, 0, none⟩) (kb + 1) cap4)) n z ka (kb + 1) kc gs dv (.slice (some ⟨g4, 0, none⟩) (kb + 1) cap4) bv := by
  have hc := grow_chg (d := w.heap.size + 1 + 1) (i := 3) (u := .slice (some ⟨g4, 0, none⟩) (kb + 1) cap4) hg
  exact ⟨h.geo.chg hc (fun e => e.elim (own_off h.ow h.geo (by decide)) (by omega)), h.res.chg hc (fun e => e.elim (own_off h.ow h.res (by decide)) (by omega)), grow_dev hg h.ow h.dev (by decide),
    own_chg h.od hc (fun q hq e => e.elim (own_two h.od h.ow (by decide) hq) (fun e => by subst e; exact own_off h.od h.dev (by decide) hq)), by
    rw [List.replicate_succ']
    exact grow_own hg h.ow h.dev (by decide) h4, own_chg h.ob hc (fun q hq e => e.elim (own_two h.ob h.ow (by decide) hq) (fun e => by subst e; exact own_off h.ob h.dev (by decide) hq)),
    rows_chg h.rows hc (fun q cs hb e => e.elim (own_off h.ow hb (by decide)) (fun e => Blk.ne_ hb h.dev (by decide) e)), h.len, h.bel_ hc (fun q e => e.elim (fun e => (h.ow.lt q e).1) (fun e => by omega))⟩
theorem NR.bad (h : NR w wr n z ka kb kc gs dv wv bv) {g4 cap4 : Nat} {o : Obj} {w4 : World}
    (h4 : w4.ownsRow w.heap.size 4 1 (.slice (some ⟨g4, 0, none⟩) (kc + 1) cap4) (kc + 1) (List.replicate kc (.bool false) ++ [.bool false])) (hg : (wr.alloc o).grownBy w4 bv.ownBlock) :
    NR w (w4.setCell ⟨w.heap.size + 1 + 1, 4, none⟩ (.slice (some ⟨g4, 0, none⟩) (kc + 1) cap4)) n z ka kb (kc + 1) gs dv wv (.slice (some ⟨g4, 0, none⟩) (kc + 1) cap4) := by
  have hc := grow_chg (d := w.heap.size + 1 + 1) (i := 4) (u := .slice (some ⟨g4, 0, none⟩) (kc + 1) cap4) hg
  exact ⟨h.geo.chg hc (fun e => e.elim (own_off h.ob h.geo (by decide)) (by omega)), h.res.chg hc (fun e => e.elim (own_off h.ob h.res (by decide)) (by omega)), grow_dev hg h.ob h.dev (by decide),
    own_chg h.od hc (fun q hq e => e.elim (own_two h.od h.ob (by decide) hq) (fun e => by subst e; exact own_off h.od h.dev (by decide) hq)), own_chg h.ow hc (fun q hq e => e.elim (own_two h.ow h.ob (by decide) hq) (fun e => by subst e; exact own_off h.ow h.dev (by decide) hq)), by
    rw [List.replicate_succ']
    exact grow_own hg h.ob h.dev (by decide) h4,
    rows_chg h.rows hc (fun q cs hb e => e.elim (own_off h.ob hb (by decide)) (fun e => Blk.ne_ hb h.dev (by decide) e)), h.len, h.bel_ hc (fun q e => e.elim (fun e => (h.ob.lt q e).1) (fun e => by omega))⟩
/-- All is there. -/
theorem NR.ref (h : NR w wr n z n n n gs dv wv bv) (hn0 : 0 < n) (hn : n ≤ 64) (hz0 : 0 < z) (hz : z ≤ 4096) (hc : Chg (fun q => q = w.heap.size + 1) wr W) : Ref W w.heap.size n z 0 (St.new n z) (.agg (nc n z dv wv bv)) ∧ Below w.heap.size w W := by
  have hbel := h.bel_ hc (fun q e => by omega)
  have hod := h.od
  have how := h.ow
  have hob := h.ob
  have hres := h.res
  have hrow := h.rows
  have hlen := h.len
  obtain ⟨db, dc, rfl, hd1, hd2⟩ := hod.form hn0
  obtain ⟨wb, wc, rfl, hw1, hw2⟩ := how.form hn0
  obtain ⟨bb, bc, rfl, hb1, hb2⟩ := hob.form hn0
  have hg : ∀ i, i < n → ∃ p ∈ gs, gs[i]? = some p ∧ gs.getD i (0, 0) = p := fun i hi => ⟨gs[i], List.getElem_mem (by omega), List.getElem?_eq_getElem (by omega), by rw [List.getD_eq_getElem?_getD, List.getElem?_eq_getElem (by omega)]; rfl⟩
  have hP : RefP wr w.heap.size n z 0 (St.new n z) db wb bb false 0 0 0 (fun i => (gs.getD i (0, 0)).1) (fun i => (gs.getD i (0, 0)).2) := by
    refine ⟨Row.of_own hod fun i hi => ?_, Row.of_own how fun i hi => ?_, Row.of_own hob fun i hi => ?_, fun i hi => ?_, .inl ⟨rfl, rfl⟩, Fits.new _ _ _, ⟨hn0, hn, hz0, hz⟩, by omega, by omega⟩
    · obtain ⟨p, hp, e, e'⟩ := hg i hi
      rw [List.getElem?_map, e, e']
      rfl
    · show _ = some (Value.int .i64 ((List.replicate n 0).getD i 0))
      rw [replicate_getD, if_pos hi, List.getElem?_replicate, if_pos hi]
    · show _ = some (Value.bool ((List.replicate n false).getD i false))
      rw [replicate_getD, if_pos hi, List.getElem?_replicate, if_pos hi]
    · obtain ⟨p, hp, e, e'⟩ := hg i hi
      have hr := hrow p hp
      show Bs wr (some ⟨(gs.getD i (0, 0)).1, 0, none⟩) z ((List.replicate n (List.replicate z 255)).getD i []) ∧ _
      rw [e', replicate_getD, if_pos hi]
      exact ⟨hr.bs, ⟨hr.place.1, (own_cap hr.2.2).1, (own_cap hr.2.2).2⟩, hr.place.2⟩
  exact ⟨Ref.of rfl (RefP.other hP hres hc) ⟨(own_cap hod).1, (own_cap how).1, (own_cap hob).1, (own_cap hod).2, (own_cap how).2, (own_cap hob).2⟩, hbel⟩
theorem NR.start {n z : Nat} {w W : World} {g0 : Array Value} (hW : ((w.alloc (.cells #[.int .i64 n, .int .i64 z] 28)).alloc (.cells zeroRef 33)).alloc (.cells g0 33) = wr)
    (hb : Blk W (w.heap.size + 1 + 1) 33 (nc n z (.slice none 0 0) (.slice none 0 0) (.slice none 0 0))) (hc : Chg (fun q => q = w.heap.size + 1 + 1) wr W) : NR w W n z 0 0 0 [] (.slice none 0 0) (.slice none 0 0) (.slice none 0 0) := by
  have h1 : Blk wr w.heap.size 28 #[.int .i64 n, .int .i64 z] := by rw [← hW]; exact ((Blk.new w _ _).alloc _).alloc _
  have h2 : Blk wr (w.heap.size + 1) 33 zeroRef := by
    rw [← hW]
    have := (Blk.new (w.alloc (.cells #[.int .i64 n, .int .i64 z] 28)) 33 zeroRef).alloc (.cells g0 33)
    simpa using this
  have h3 : Below w.heap.size w wr := by rw [← hW]; exact (two_allocs w _ _).alloc (by simp; omega) _
  exact ⟨h1.chg hc (by omega), h2.chg hc (by omega), hb, World.ownsRow_nil _ _ _ _, World.ownsRow_nil _ _ _ _, World.ownsRow_nil _ _ _ _, fun p hp => (by cases hp), rfl, h3.trans (hc.below h3.size (fun k hk e => by omega))⟩
end

theorem size_set (W : World) (p : Addr) (u : Value) : (W.setCell p u).heap.size = W.heap.size := by simp [World.setCell]
theorem news_set (W : World) (p : Addr) (u : Value) (cs : Array Value) (t : TypeId) : ((W.setCell p u).alloc (.cells cs t)).heap[W.heap.size]? = some (.cells cs t (0, 0)) := by
  rw [← size_set W p u]
  exact heap_alloc_new _ _
theorem one_bs (w : World) : Bs (w.alloc (.cells #[.int .u8 255] 5)) (some ⟨w.heap.size, 0, none⟩) 1 [255] := by
  refine ⟨rfl, fun x hx => by simp at hx; omega, fun k hk => ⟨w.heap.size, 0, rfl, by simp, ?_⟩⟩
  obtain rfl : k = 0 := by omega
  exact (Blk.new w 5 #[.int .u8 255]).cell 0
set_option maxRecDepth 100000 in
set_option maxHeartbeats 2000000 in
theorem refNew_calls (n z : Nat) (w : World) (hn0 : 0 < n) (hn : n ≤ 64) (hz0 : 0 < z) (hz : z ≤ 4096) : Calls Tryz.prog 5 #[.agg #[.int .i64 n, .int .i64 z]] w
    fun e w' => ∃ v, e = .returned v ∧ Ref w' w.heap.size n z 0 (St.new n z) v ∧ Below w.heap.size w w' := by
  go_enter Tryz.func5, Tryz.ntmps5
  go_wp2_with fail
  have hb2 : Blk (((w.alloc (.cells #[.int .i64 n, .int .i64 z] 28)).alloc (.cells zeroRef 33)).alloc (.cells (nc n z (.slice none 0 0) (.slice none 0 0) (.slice none 0 0)) 33)) (w.heap.size + 1 + 1) 33 (nc n z (.slice none 0 0) (.slice none 0 0) (.slice none 0 0)) := by
    have := Blk.new ((w.alloc (.cells #[.int .i64 n, .int .i64 z] 28)).alloc (.cells zeroRef 33)) 33 (nc n z (.slice none 0 0) (.slice none 0 0) (.slice none 0 0))
    simpa using this
  have HN := Lib.hid (NR.start rfl hb2 (Chg.refl _ _))
  clear hb2
  go_loopw [4] (fun i wr => ∃ (k : Nat) (gs : List (Nat × Nat)) (dv wv bv : Value), k ≤ n ∧ i = .int .i64 k ∧ NR w wr n z k k k gs dv wv bv) (fun i _ => n - (intOf i).toNat)
  case atStart => exact ⟨0, [], _, _, _, by omega, rfl, HN.out⟩
  case round =>
    clear HN
    obtain ⟨k, gs, dv, wv, bv, hk, rfl, hN⟩ := hrel
    have kg0 : wr.cell? ⟨w.heap.size, 0, none⟩ = some (.int .i64 n) := hN.geo.cell 0
    by_cases hlt : k < n
    · have HN := Lib.hid hN
      clear hN
      rename World => wo
      go_wp2_with fail
      go_loopw [5, 6] (fun l q wr => ∃ (j g cap : Nat), j ≤ z ∧ l = .slice (some ⟨g, 0, none⟩) j cap ∧ q = .int .i64 j ∧ Ob wr wo.heap.size 5 g j cap (List.replicate j 255) ∧ Below wo.heap.size wo wr) (fun _ q _ => z - (intOf q).toNat)
      case atStart => exact ⟨0, wo.heap.size, 0, by omega, rfl, rfl, Ob.new_ wo _ (Nat.le_refl _), (Below.refl _ _).alloc (Nat.le_refl _) _⟩
      case round =>
        obtain ⟨j, g, cap, hj, rfl, rfl, hO, hB⟩ := hrel
        have HN2 := Lib.hid (HN.out.below hB)
        have kg1 : wr.cell? ⟨w.heap.size, 1, none⟩ = some (.int .i64 z) := HN2.out.geo.cell 1
        have HO := Lib.hid hO
        have HB := Lib.hid hB
        have hgp := hO.place
        clear hO hB
        by_cases hjl : j < z
        · go_wp2_with ((with_reducible refine pick (some 24) ?_); refine wpList_append_bytes rfl _ _ _ rfl wo.heap.size 5 Tryz.underlying38 info_u8 g j cap (List.replicate j 255) rfl (HO.out.below ((Below.refl _ _).alloc (Nat.le_refl _) _)) (some ⟨wr.heap.size, 0, none⟩) 1 1 [255] rfl (one_bs wr) (fun e => by cases e) (j + 1) rfl (List.replicate (j + 1) 255) (by simp [List.replicate_succ']) (by omega) (by have := HB.out.size; simp; omega) ?_; intro g2 cap2 w2 ho2 hg2 hat2; have HO2 := Lib.hid ho2; have HG2 := Lib.hid hg2; clear ho2 hg2 hat2)
          have hb2 : Below wo.heap.size wo w2 := (HB.out.alloc HB.out.size _).grown HG2.out (by have := HB.out.size; simp; omega) (fun q e => by injection e with e; omega)
          go_roundw
          case rel => exact ⟨j + 1, g2, cap2, by omega, rfl, by go_num, HO2.out, hb2⟩
          case measure => simp [intOf]; omega
        · obtain rfl : j = z := by omega
          have hwi : w.heap.size ≤ wr.heap.size := HN2.out.bel.size
          have k2 : wr.cell? ⟨w.heap.size + 1 + 1, 2, none⟩ = some dv := HN2.out.dev.cell 2
          have l2 : w.heap.size + 1 + 1 < wr.heap.size := HN2.out.dev.lt
          have HO3 := Lib.hid (HO.out.base (by have := HN.out.bel.size; omega : w.heap.size ≤ wo.heap.size))
          obtain ⟨i1, a1, a2, a3, a4⟩ := info_parts info_bytes
          obtain ⟨i2, b1, b2, b3, b4⟩ := info_parts info_int
          obtain ⟨i3, c1, c2, c3, c4⟩ := info_parts info_bool
          go_wp2_with (first
            | ((with_reducible refine pick (some 29) ?_); refine wpList_append_lies _ rfl _ _ _ rfl w.heap.size 38 i1 _ 1 24 Tryz.underlying29 a1 a2 a3 a4 rfl (by omega) dv k (gs.map (slc j)) rfl (HN2.out.od.alloc _) ⟨wr.heap.size, 0, none⟩ 1 1 [slc j (g, cap)] rfl rfl (World.news_of_block (heap_alloc_new wr _)) (by simp [slc, Value.oneCell']) (by omega) (by unfold maxLen; omega) (by omega) (by simp; omega) _ rfl ?_; intro g4 cap4 w4 hown4 hg4 hat4 hlt4; have D4 := grow_blk hg4 HN2.out.od HN2.out.dev (by decide); have k42 : w4.cell? ⟨w.heap.size + 1 + 1, 2, none⟩ = some dv := D4.cell 2; have f42 := D4.frozen 2; have k43 : w4.cell? ⟨w.heap.size + 1 + 1, 3, none⟩ = some wv := D4.cell 3; have l4 : w.heap.size + 1 + 1 < w4.heap.size := D4.lt; have HN3 := Lib.hid (NR.data HN2.out HO3.out hown4 hg4); have HLT4 := Lib.hid hlt4; clear D4 hown4 hg4 hat4 hlt4)
            | ((with_reducible refine pick (some 34) ?_); refine wpList_append_lies _ rfl _ _ _ rfl w.heap.size 3 i2 _ 1 8 Tryz.underlying30 b1 b2 b3 b4 rfl (by omega) wv k (List.replicate k (.int .i64 0)) rfl (HN3.out.ow.alloc _) ⟨w4.heap.size, 0, none⟩ 1 1 [.int .i64 0] rfl rfl (World.news_of_block (news_set _ _ _ _ _)) (by simp [Value.oneCell']) (by omega) (by unfold maxLen; omega) (by omega) (by simp [World.setCell]; omega) _ rfl ?_; intro g5 cap5 w5 hown5 hg5 hat5 hlt5; have D5 := grow_blk hg5 HN3.out.ow HN3.out.dev (by decide); have k53 : w5.cell? ⟨w.heap.size + 1 + 1, 3, none⟩ = some wv := D5.cell 3; have f53 := D5.frozen 3; have k54 : w5.cell? ⟨w.heap.size + 1 + 1, 4, none⟩ = some bv := D5.cell 4; have l5 : w.heap.size + 1 + 1 < w5.heap.size := D5.lt; have HN4 := Lib.hid (NR.wear HN3.out hown5 hg5); clear D5 hown5 hg5 hat5 hlt5)
            | ((with_reducible refine pick (some 39) ?_); refine wpList_append_lies _ rfl _ _ _ rfl w.heap.size 4 i3 _ 1 1 Tryz.underlying31 c1 c2 c3 c4 rfl (by omega) bv k (List.replicate k (.bool false)) rfl (HN4.out.ob.alloc _) ⟨w5.heap.size, 0, none⟩ 1 1 [.bool false] rfl rfl (World.news_of_block (news_set _ _ _ _ _)) (by simp [Value.oneCell']) (by omega) (by unfold maxLen; omega) (by omega) (by simp [World.setCell]; omega) _ rfl ?_; intro g6 cap6 w6 hown6 hg6 hat6 hlt6; have D6 := grow_blk hg6 HN4.out.ob HN4.out.dev (by decide); have k64 : w6.cell? ⟨w.heap.size + 1 + 1, 4, none⟩ = some bv := D6.cell 4; have f64 := D6.frozen 4; have l6 : w.heap.size + 1 + 1 < w6.heap.size := D6.lt; have HN5 := Lib.hid (NR.bad HN4.out hown6 hg6); clear D6 hown6 hg6 hat6 hlt6))
          go_roundw
          case rel => exact ⟨k + 1, gs ++ [(g, cap)], _, _, _, by omega, by go_num, HN5.out⟩
          case measure => simp [intOf]; omega
    · obtain rfl : k = n := by omega
      have hod := hN.od
      have how := hN.ow
      have hob := hN.ob
      obtain ⟨db, dc, rfl, _, _⟩ := hod.form hn0
      obtain ⟨wb, wc, rfl, _, _⟩ := how.form hn0
      obtain ⟨bb, bc, rfl, _, _⟩ := hob.form hn0
      clear hod how hob
      have HN := Lib.hid hN
      clear hN
      go_wp2_with (first
        | ((with_reducible refine pick (some 41) ?_); refine wpList_load_row rfl _ _ rfl (w.heap.size + 1 + 1) rfl 33 (nc k z (.slice (some ⟨db, 0, none⟩) k dc) (.slice (some ⟨wb, 0, none⟩) k wc) (.slice (some ⟨bb, 0, none⟩) k bc)) (0, 0) _ HN.out.dev Tryz.underlying33 rfl info_ref ?_)
        | ((with_reducible refine pick none ?_); refine wpList_store_blk rfl 33 _ _ rfl (w.heap.size + 1) (nc k z (.slice (some ⟨db, 0, none⟩) k dc) (.slice (some ⟨wb, 0, none⟩) k wc) (.slice (some ⟨bb, 0, none⟩) k bc)) rfl rfl 33 zeroRef HN.out.res info_ref rfl (by simp [nc, Value.oneCell']) ?_; intro w4 hb4 hg4))
      exact bodyPost_ret (v := .agg (nc k z (.slice (some ⟨db, 0, none⟩) k dc) (.slice (some ⟨wb, 0, none⟩) k wc) (.slice (some ⟨bb, 0, none⟩) k bc))) (results_cell_row rfl _ _ (w.heap.size + 1) 33 _ (0, 0) _ rfl hb4 Tryz.underlying33 rfl info_ref) rfl ⟨_, rfl, HN.out.ref hn0 hn hz0 hz hg4⟩
end Go.Proofs.YthbafcihmcjchaaGreatDoor.NorI

/- The contracts of a device's methods over its whole state: the small ones. -/
namespace Go.Proofs.YthbafcihmcjchaaGreatDoor.NorF
set_option linter.unusedVariables false
set_option linter.unusedSimpArgs false
open Go.RowKit Go.Maps
open Go.Proofs.YthbafcihmcjchaaGreatDoor.Byte Go.Proofs.YthbafcihmcjchaaGreatDoor.NorD Go.Proofs.YthbafcihmcjchaaGreatDoor.NorW Go.Proofs.YthbafcihmcjchaaGreatDoor.NorM Go.Proofs.YthbafcihmcjchaaGreatDoor.NorE Go.Proofs.YthbafcihmcjchaaGreatDoor.NorS Go.Proofs.YthbafcihmcjchaaGreatDoor.PlaceM Go.Proofs.YthbafcihmcjchaaGreatDoor.PlaceV

theorem law_int : Keyed Tryz.prog 3 := int_keyed Tryz.underlying3
theorem zero_unit (w : World) : (zeroValue 109).run Tryz.prog w = .ok (.agg #[]) w := by kernel_rfl
theorem info_u8 : (Tryz.prog.info? 5).map (fun i => (i.zero, i.size, i.bytes)) = some (some (.int .u8 0), 1, 1) := by kernel_rfl

section
variable {lo hi d n z K : Nat} {s : St} {sb scap mb : Nat} {there : Bool} {left whole mask : Int} {G C : Nat → Nat}

set_option maxHeartbeats 400000 in
theorem within_calls (x y : Nat) (m : Int) (w : World) (hx : rt x = true) (hy : rt y = true) (hn : n ≤ 64) (hz : z ≤ 4096) :
    Calls Tryz.prog 20 #[.agg #[.int .i64 n, .int .i64 z], .complex .f64 x y, .int .i64 m] w fun e w' => e = .returned (.bool (inside n z (nm x) (nm y) m)) ∧ w.alloc (.cells #[.int .i64 n, .int .i64 z] 28) = w' := by
  obtain ⟨_, x0, x1⟩ := rt_fv hx
  obtain ⟨_, y0, y1⟩ := rt_fv hy
  by_cases h : inside n z (nm x) (nm y) m = true
  · rw [h]
    unfold inside at h
    rw [decide_eq_true_eq] at h
    obtain ⟨h1, h2, h3, h4⟩ := h
    go_enter Tryz.func20, Tryz.ntmps20
    go_wp2_with (go_at_call 21; refine (parts_yes _ _ _ hx hy).mono ?_; rintro e w' ⟨rfl, rfl⟩)
    go_ret
    exact ⟨rfl, rfl⟩
  · rw [Bool.not_eq_true] at h
    rw [h]
    unfold inside at h
    rw [decide_eq_false_iff_not] at h
    have hh : (n : Int) ≤ nm x ∨ (nm x < n ∧ (z : Int) < nm y) ∨ (nm x < n ∧ nm y ≤ z ∧ m < 0) ∨ (nm x < n ∧ nm y ≤ z ∧ 0 ≤ m ∧ z - nm y < m) := by omega
    clear h
    rcases hh with h | ⟨h, h'⟩ | ⟨h, h', h''⟩ | ⟨h, h', h'', h'''⟩
    case inr.inr.inr =>
      have d1 : decide (m ≤ (z : Int) - nm y) = false := by simp; omega
      have d2 : decide ((z : Int) < nm y) = false := by simp; omega
      go_enter Tryz.func20, Tryz.ntmps20
      go_wp2_with (go_at_call 21; refine (parts_yes _ _ _ hx hy).mono ?_; rintro e w' ⟨rfl, rfl⟩)
      go_ret
      exact ⟨rfl, rfl⟩
    all_goals
      go_enter Tryz.func20, Tryz.ntmps20
      go_wp2_with (go_at_call 21; refine (parts_yes _ _ _ hx hy).mono ?_; rintro e w' ⟨rfl, rfl⟩)
      go_ret
      exact ⟨rfl, rfl⟩

set_option maxHeartbeats 400000 in
theorem has_yes (w : World) (h : DevP w lo hi d n z K s sb scap mb there left whole mask G C) (se : Int) (h0 : 0 ≤ se) (h1 : se < n) :
    Calls Tryz.prog 58 #[.pointer (some ⟨d, 0, none⟩), .int .i64 se] w fun e w' => e = .returned (.bool true) ∧ w = w' := by
  have c2 := h.core.c2
  clear h
  go_enter Tryz.func58, Tryz.ntmps58
  go_wp2
  go_ret
  exact ⟨rfl, rfl⟩
set_option maxHeartbeats 400000 in
theorem has_no (w : World) (h : DevP w lo hi d n z K s sb scap mb there left whole mask G C) (se : Int) (h0 : se < 0 ∨ (n : Int) ≤ se) :
    Calls Tryz.prog 58 #[.pointer (some ⟨d, 0, none⟩), .int .i64 se] w fun e w' => e = .returned (.bool false) ∧ w = w' := by
  have c2 := h.core.c2
  clear h
  have h' : se < 0 ∨ (0 ≤ se ∧ (n : Int) ≤ se) := by omega
  clear h0
  have d1 : 0 ≤ se → decide (se < (n : Int)) = false := fun _ => by simp; omega
  rcases h' with h' | ⟨h', h''⟩
  case inr => 
    have d2 := d1 h'
    clear d1
    go_enter Tryz.func58, Tryz.ntmps58
    go_wp2
    go_ret
    exact ⟨rfl, rfl⟩
  all_goals
    clear d1
    go_enter Tryz.func58, Tryz.ntmps58
    go_wp2
    go_ret
    exact ⟨rfl, rfl⟩
set_option maxHeartbeats 400000 in
theorem has_nil (w : World) (se : Int) : Calls Tryz.prog 58 #[.pointer none, .int .i64 se] w fun e w' => e = .returned (.bool false) ∧ w = w' := by
  go_enter Tryz.func58, Tryz.ntmps58
  go_wp2
  go_ret
  exact ⟨rfl, rfl⟩
set_option maxHeartbeats 400000 in
theorem isBad_calls (w : World) (h : DevP w lo hi d n z K s sb scap mb there left whole mask G C) (i : Nat) (hi' : i < n) :
    Calls Tryz.prog 22 #[.pointer (some ⟨d, 0, none⟩), .int .i64 i] w fun e w' => e = .returned (.bool (s.bad.getD i false)) ∧ Below w.heap.size w w' := by
  have c3 := h.core.c3
  have l := h.core.lt
  have hn := h.geo.2.1
  obtain ⟨D, hown, hD, hhas⟩ := h.map
  have hb := hhas i hi'
  clear h hhas
  have hkey : keyOf Tryz.prog 3 (.int .i64 i) = some (.int .i64 i) := keyOf_int_mk Tryz.underlying3 (WalkArith.wf_i64 (by omega))
  have HB := Lib.hid hb
  clear hb
  go_enter Tryz.func22, Tryz.ntmps22
  go_wp2_with (at_lookup; refine wpList_lookup_own_unit _ rfl _ _ 59 rfl 3 109 law_int Tryz.underlying59 (zero_unit _) mb K D rfl hown _ _ rfl hkey ?_)
  go_ret
  exact ⟨Byte.ret_bool HB.out, by first | exact Below.refl _ _ | exact (Below.refl _ _).alloc (Nat.le_refl _) _⟩
set_option maxHeartbeats 400000 in
theorem spoil_yes (w : World) (h : DevP w lo hi d n z K s sb scap mb there left whole mask G C) (hK : K + 1 ≤ 1000000) (i : Nat) (hi' : i < n) :
    Calls Tryz.prog 40 #[.pointer (some ⟨d, 0, none⟩), .int .i64 i] w fun e w' => e = .returned (.tuple #[]) ∧ Dev w' lo hi d n z (K + 1) (s.spoil n i) ∧ Chg (fun q => lo ≤ q ∧ q < hi) w w' := by
  have c3 := h.core.c3
  have hn := h.geo.2.1
  obtain ⟨D, hown, hD, hhas⟩ := h.map
  have hkey : keyOf Tryz.prog 3 (.int .i64 i) = some (.int .i64 i) := keyOf_int_mk Tryz.underlying3 (WalkArith.wf_i64 (by omega))
  have H := Lib.hid h
  have HH := Lib.hid hhas
  clear h hhas
  go_enter Tryz.func40, Tryz.ntmps40
  go_wp2_with (first
    | (go_at_call 58; refine (has_yes _ H.out _ (by omega) (by omega)).mono ?_; rintro e w' ⟨rfl, rfl⟩)
    | (at_mapUpdate; refine wpList_mapUpdate_own _ rfl _ _ _ 59 rfl 3 109 law_int Tryz.underlying59 _ mb K D rfl hown (by unfold maxLen; omega) _ _ _ rfl rfl hkey _ [] unitElem_mk ?_; intro w1 hown1 hg1))
  go_end0
  have h := H.out
  have hg2 : Chg (fun q => q = mb) w w1 := Chg.of_grown hg1 (fun k e => .inl (Option.some.inj e).symm)
  refine ⟨rfl, ⟨sb, scap, mb, there, left, whole, mask, G, C, ?_⟩, hg2.mono (fun k _ e => by rw [e]; exact h.pm)⟩
  have hf := h.fits.spoil (i : Int)
  have hs : s.spoil n (i : Int) = { s with bad := s.bad.set i true } := by
    unfold St.spoil
    rw [if_pos (by omega), Int.toNat_natCast]
  rw [hs] at hf ⊢
  refine ⟨Blk.chg h.core hg2 h.dm, h.cut, h.secs.of_eq (hg2.block sb h.secs.lt h.sm), ⟨_, hown1, hD.put _ _, fun j hj => ?_⟩, fun j hj => (h.rows j hj).chg hg2 (Ne.symm (h.mg hj)), h.apart, h.pd, h.ps, h.pm, h.pg, Nat.le_trans h.hs hg2.size, hf.more (by omega), h.geo, hK⟩
  rw [has_put D hD]
  show _ = (s.bad.set i true).getD j false
  rw [getD_setB _ _ _ _ (by rw [h.fits.bl]; exact hi'), HH.out j hj]
  by_cases e : j = i <;> simp [e]
set_option maxHeartbeats 400000 in
theorem spoil_no (w : World) (h : DevP w lo hi d n z K s sb scap mb there left whole mask G C) (se : Int) (h0 : se < 0 ∨ (n : Int) ≤ se) :
    Calls Tryz.prog 40 #[.pointer (some ⟨d, 0, none⟩), .int .i64 se] w fun e w' => e = .returned (.tuple #[]) ∧ w = w' := by
  have H := Lib.hid h
  have H0 := Lib.hid h0
  clear h h0
  go_enter Tryz.func40, Tryz.ntmps40
  go_wp2_with (go_at_call 58; refine (has_no _ H.out _ H0.out).mono ?_; rintro e w' ⟨rfl, rfl⟩)
  go_end0
  exact ⟨rfl, rfl⟩
set_option maxHeartbeats 400000 in
theorem cut_calls (w : World) (h : DevP w lo hi d n z K s sb scap mb there left whole mask G C) (a b m : Int) (ha : a ≤ 9223372036854775807) (hb : b ≤ 9223372036854775807) (h0 : 0 ≤ m) (h1 : m ≤ 255) :
    Calls Tryz.prog 35 #[.pointer (some ⟨d, 0, none⟩), .int .i64 a, .int .i64 b, .int .u8 m] w fun e w' => e = .returned (.tuple #[]) ∧ Dev w' lo hi d n z K (s.setCut a b m) ∧ Chg (fun q => lo ≤ q ∧ q < hi) w w' := by
  have c5 := h.core.c5
  have c6 := h.core.c6
  have c7 := h.core.c7
  have c8 := h.core.c8
  have f5 := h.core.fr 5
  have f6 := h.core.fr 6
  have f7 := h.core.fr 7
  have f8 := h.core.fr 8
  have H := Lib.hid h
  clear h
  go_enter Tryz.func35, Tryz.ntmps35
  go_wp2
  go_end0
  have h := H.out
  have hg : Chg (fun q => q = d) w ((((w.setCell ⟨d, 5, none⟩ (.bool true)).setCell ⟨d, 6, none⟩ (.int .i64 (max a 0))).setCell ⟨d, 7, none⟩ (.int .i64 (max b 0))).setCell ⟨d, 8, none⟩ (.int .u8 m)) :=
    ((((Chg.refl _ w).own 5 _).own 6 _).own 7 _).own 8 _
  exact ⟨rfl, (h.cored (s' := s.setCut a b m) ((((h.core.set5 true).set6 (max a 0)).set7 (max b 0)).set8 m) hg (.inr ⟨rfl, rfl⟩) rfl rfl rfl (h.fits.setCut a b m ha hb h0 h1) (Nat.le_refl _) h.big).dev, hg.mono (fun k _ e => by rw [e]; exact h.pd)⟩
theorem turnOn_calls (w : World) (h : DevP w lo hi d n z K s sb scap mb there left whole mask G C) :
    Calls Tryz.prog 39 #[.pointer (some ⟨d, 0, none⟩)] w fun e w' => e = .returned (.tuple #[]) ∧ Dev w' lo hi d n z K s.up ∧ Chg (fun q => lo ≤ q ∧ q < hi) w w' := by
  refine (on_calls d w h.core).mono fun e w' ⟨he, hw⟩ => ?_
  subst hw
  have hg : Chg (fun q => q = d) w (w.setCell ⟨d, 4, none⟩ (.bool true)) := (Chg.refl _ w).own 4 _
  exact ⟨he, (h.cored (s' := s.up) (h.core.set4 true) hg h.cut rfl rfl rfl h.fits.up (Nat.le_refl _) h.big).dev, hg.mono (fun k _ e => by rw [e]; exact h.pd)⟩
set_option maxHeartbeats 400000 in
theorem off_off (acts offs : Int) (w : World) (h : Core w d n z sb scap mb false there left whole mask acts offs) :
    Calls Tryz.prog 37 #[.pointer (some ⟨d, 0, none⟩)] w fun e w' => e = .returned (.tuple #[]) ∧ w = w' := by
  have H := Lib.hid h
  clear h
  go_enter Tryz.func37, Tryz.ntmps37
  go_wp2_with (go_at_call 19; refine (isOn_calls _ _ H.out).mono ?_; rintro e w' ⟨rfl, rfl⟩)
  go_end0
  exact ⟨rfl, rfl⟩
theorem turnOff_calls (w : World) (h : DevP w lo hi d n z K s sb scap mb there left whole mask G C) (hK : K + 1 ≤ 1000000) :
    Calls Tryz.prog 37 #[.pointer (some ⟨d, 0, none⟩)] w fun e w' => e = .returned (.tuple #[]) ∧ Dev w' lo hi d n z (K + 1) s.turn ∧ Chg (fun q => lo ≤ q ∧ q < hi) w w' := by
  have hf := h.fits.turn
  have ho := h.fits.ob
  cases hon : s.on with
  | true =>
    have hc := h.core
    rw [hon] at hc
    refine (off_calls d w hc ho.1 (by omega)).mono fun e w' ⟨he, hC, hg⟩ => ?_
    have e1 : s.turn = { s with on := false, cut := none, offs := s.offs + 1 } := by
      unfold St.turn
      rw [if_pos hon]
    rw [e1] at hf ⊢
    exact ⟨he, (h.cored (s' := { s with on := false, cut := none, offs := s.offs + 1 }) hC hg (.inl ⟨rfl, rfl⟩) rfl rfl rfl hf (by omega) hK).dev, hg.mono (fun k _ e => by rw [e]; exact h.pd)⟩
  | false =>
    have hc := h.core
    rw [hon] at hc
    refine (off_off _ _ w hc).mono fun e w' ⟨he, hw⟩ => ?_
    subst hw
    have e1 : s.turn = s := by
      unfold St.turn
      rw [if_neg (by rw [hon]; decide)]
    rw [e1] at hf ⊢
    exact ⟨he, (h.cored (s' := s) h.core (Chg.refl _ w) h.cut rfl rfl rfl hf (by omega) hK).dev, Chg.refl _ _⟩
end
end Go.Proofs.YthbafcihmcjchaaGreatDoor.NorF

/- The contracts of a device's methods over its whole state: Read, Program, Erase. -/
namespace Go.Proofs.YthbafcihmcjchaaGreatDoor.NorG
set_option linter.unusedVariables false
set_option linter.unusedSimpArgs false
open Go.RowKit Go.Maps
open Go.Proofs.YthbafcihmcjchaaGreatDoor.Byte Go.Proofs.YthbafcihmcjchaaGreatDoor.NorD Go.Proofs.YthbafcihmcjchaaGreatDoor.NorW Go.Proofs.YthbafcihmcjchaaGreatDoor.NorM Go.Proofs.YthbafcihmcjchaaGreatDoor.NorE Go.Proofs.YthbafcihmcjchaaGreatDoor.NorS Go.Proofs.YthbafcihmcjchaaGreatDoor.NorF Go.Proofs.YthbafcihmcjchaaGreatDoor.PlaceM Go.Proofs.YthbafcihmcjchaaGreatDoor.PlaceV

section
variable {lo hi d n z K : Nat} {s : St} {sb scap mb : Nat} {there : Bool} {left whole mask : Int} {G C : Nat → Nat}

theorem Chg.in_ {w w' : World} (h : DevP w lo hi d n z K s sb scap mb there left whole mask G C) {i : Nat} (hi' : i < n) (hg : Chg (fun q => q = d ∨ q = G i) w w') : Chg (fun q => lo ≤ q ∧ q < hi) w w' :=
  hg.mono fun k _ e => by
    rcases e with rfl | rfl
    · exact h.pd
    · exact ⟨(h.rows i hi').place.1, h.pg i hi'⟩

-- PROG
theorem act_prog_dev (w : World) (h : DevP w lo hi d n z K s sb scap mb there left whole mask G C) (hon : s.on = true) (hK : K + 1 ≤ 1000000) (i : Nat) (hi' : i < n) (off len c : Nat) (bp : Nat) (A : Option Addr) (cb : Nat) (bs : List Int)
    (hfit : off + len ≤ z) (hc : len ≤ c) (hc2 : c ≤ 140737488355328) (hb : Bs w A len bs) (hA : ∀ b o, A = some ⟨b, o, none⟩ → b < lo ∨ hi ≤ b) (hp : w.cell? ⟨bp, 0, none⟩ = some (.slice A len cb)) (hbp : bp < lo ∨ hi ≤ bp) :
    Calls Tryz.prog 23 #[.pointer (some ⟨d, 0, none⟩), .slice (some ⟨G i, off, none⟩) len c, .func (.func 24) #[] #[.pointer (some ⟨bp, 0, none⟩)]] w
      fun e w' => e = .returned (.int .i64 (s.act i true off bs).1) ∧ Dev w' lo hi d n z (K + 1) (s.act i true off bs).2 ∧ Chg (fun q => lo ≤ q ∧ q < hi) w w' := by
  have hf := h.fits.act i hi' true off bs
  have ha := h.fits.ab
  have ho := h.fits.ob
  have hd := h.pd
  have hg1 := (h.rows i hi').place.1
  have hg2 := h.pg i hi'
  have hz := h.geo.2.2.2.1
  have hA' : ∀ b o, A = some ⟨b, o, none⟩ → b ≠ G i ∧ b ≠ d := fun b o e => by
    have := hA b o e
    omega
  have hne : bp ≠ G i := by omega
  have hned : bp ≠ d := by omega
  have hcore := h.core
  rcases h.cut with ⟨hc0, rfl⟩ | ⟨hc0, rfl⟩
  · have e1 : s.act i true off bs = (0, { s with data := s.data.set i (seg true none off bs (s.row i)), acts := s.acts + 1 }) := by unfold St.act; rw [hc0]
    rw [e1] at hf ⊢
    refine (act_prog_none lo (G i) z (C i) off len c (s.row i) bp A cb bs w d n sb scap mb s.on left whole mask s.acts s.offs hcore (h.dg hi') ha.1 (by omega) (h.rows i hi') hfit (by omega) hc hc2 hb hA' hp hne hned).mono fun e w' ⟨he, hC, hO, hg⟩ => ?_
    exact ⟨he, (h.acted (s' := { s with data := s.data.set i (seg true none off bs (s.row i)), acts := s.acts + 1 }) hi' _ hC hO hg (.inl ⟨hc0, rfl⟩) rfl rfl rfl hf (by omega) hK).dev, Chg.in_ h hi' hg⟩
  · have hb3 := h.fits.cb _ _ _ hc0
    by_cases hl : left = 0
    · subst hl
      have e1 : s.act i true off bs = (7, { s with data := s.data.set i (seg true (some (whole, mask)) off bs (s.row i)), on := false, cut := none, acts := s.acts + 1, offs := s.offs + 1 }) := by unfold St.act; rw [hc0]; exact if_pos rfl
      rw [e1] at hf ⊢
      rw [hon] at hcore
      refine (act_prog_cut lo (G i) z (C i) off len c (s.row i) bp A cb bs w d n sb scap mb whole mask s.acts s.offs hcore (h.dg hi') ha.1 (by omega) ho.1 (by omega) hb3.2.2.1 hb3.2.2.2.2.1 hb3.2.2.2.2.2 (h.rows i hi') hfit (by omega) hc hc2 hb hA' hp hne hned).mono fun e w' ⟨he, hC, hO, hg⟩ => ?_
      exact ⟨he, (h.acted (s' := { s with data := s.data.set i (seg true (some (whole, mask)) off bs (s.row i)), on := false, cut := none, acts := s.acts + 1, offs := s.offs + 1 }) hi' _ hC hO hg (.inl ⟨rfl, rfl⟩) rfl rfl rfl hf (by omega) hK).dev, Chg.in_ h hi' hg⟩
    · have e1 : s.act i true off bs = (0, { s with data := s.data.set i (seg true none off bs (s.row i)), cut := some (left - 1, whole, mask), acts := s.acts + 1 }) := by unfold St.act; rw [hc0]; exact if_neg hl
      rw [e1] at hf ⊢
      refine (act_prog_more lo (G i) z (C i) off len c (s.row i) bp A cb bs w d n sb scap mb s.on left whole mask s.acts s.offs hcore (h.dg hi') ha.1 (by omega) (by omega) hb3.2.1 (h.rows i hi') hfit (by omega) hc hc2 hb hA' hp hne hned).mono fun e w' ⟨he, hC, hO, hg⟩ => ?_
      exact ⟨he, (h.acted (s' := { s with data := s.data.set i (seg true none off bs (s.row i)), cut := some (left - 1, whole, mask), acts := s.acts + 1 }) hi' _ hC hO hg (.inr ⟨rfl, rfl⟩) rfl rfl rfl hf (by omega) hK).dev, Chg.in_ h hi' hg⟩
-- ERASE
theorem act_erase_dev (w : World) (h : DevP w lo hi d n z K s sb scap mb there left whole mask G C) (hon : s.on = true) (hK : K + 1 ≤ 1000000) (i : Nat) (hi' : i < n) (off len c : Nat) (bs : List Int)
    (hfit : off + len ≤ z) (hc : len ≤ c) (hc2 : c ≤ 140737488355328) (hb : bs.length = len) :
    Calls Tryz.prog 23 #[.pointer (some ⟨d, 0, none⟩), .slice (some ⟨G i, off, none⟩) len c, .func (.func 59) #[] #[]] w
      fun e w' => e = .returned (.int .i64 (s.act i false off bs).1) ∧ Dev w' lo hi d n z (K + 1) (s.act i false off bs).2 ∧ Chg (fun q => lo ≤ q ∧ q < hi) w w' := by
  have hf := h.fits.act i hi' false off bs
  have ha := h.fits.ab
  have ho := h.fits.ob
  have hd := h.pd
  have hg1 := (h.rows i hi').place.1
  have hg2 := h.pg i hi'
  have hz := h.geo.2.2.2.1
  have hcore := h.core
  rcases h.cut with ⟨hc0, rfl⟩ | ⟨hc0, rfl⟩
  · have e1 : s.act i false off bs = (0, { s with data := s.data.set i (seg false none off bs (s.row i)), acts := s.acts + 1 }) := by unfold St.act; rw [hc0]
    rw [e1] at hf ⊢
    refine (act_erase_none lo (G i) z (C i) off len c (s.row i) bs w d n sb scap mb s.on left whole mask s.acts s.offs hcore (h.dg hi') ha.1 (by omega) (h.rows i hi') hfit (by omega) hc hc2 hb).mono fun e w' ⟨he, hC, hO, hg⟩ => ?_
    exact ⟨he, (h.acted (s' := { s with data := s.data.set i (seg false none off bs (s.row i)), acts := s.acts + 1 }) hi' _ hC hO hg (.inl ⟨hc0, rfl⟩) rfl rfl rfl hf (by omega) hK).dev, Chg.in_ h hi' hg⟩
  · have hb3 := h.fits.cb _ _ _ hc0
    by_cases hl : left = 0
    · subst hl
      have e1 : s.act i false off bs = (7, { s with data := s.data.set i (seg false (some (whole, mask)) off bs (s.row i)), on := false, cut := none, acts := s.acts + 1, offs := s.offs + 1 }) := by unfold St.act; rw [hc0]; exact if_pos rfl
      rw [e1] at hf ⊢
      rw [hon] at hcore
      refine (act_erase_cut lo (G i) z (C i) off len c (s.row i) bs w d n sb scap mb whole mask s.acts s.offs hcore (h.dg hi') ha.1 (by omega) ho.1 (by omega) hb3.2.2.1 hb3.2.2.2.2.1 hb3.2.2.2.2.2 (h.rows i hi') hfit (by omega) hc hc2 hb).mono fun e w' ⟨he, hC, hO, hg⟩ => ?_
      exact ⟨he, (h.acted (s' := { s with data := s.data.set i (seg false (some (whole, mask)) off bs (s.row i)), on := false, cut := none, acts := s.acts + 1, offs := s.offs + 1 }) hi' _ hC hO hg (.inl ⟨rfl, rfl⟩) rfl rfl rfl hf (by omega) hK).dev, Chg.in_ h hi' hg⟩
    · have e1 : s.act i false off bs = (0, { s with data := s.data.set i (seg false none off bs (s.row i)), cut := some (left - 1, whole, mask), acts := s.acts + 1 }) := by unfold St.act; rw [hc0]; exact if_neg hl
      rw [e1] at hf ⊢
      refine (act_erase_more lo (G i) z (C i) off len c (s.row i) bs w d n sb scap mb s.on left whole mask s.acts s.offs hcore (h.dg hi') ha.1 (by omega) (by omega) hb3.2.1 (h.rows i hi') hfit (by omega) hc hc2 hb).mono fun e w' ⟨he, hC, hO, hg⟩ => ?_
      exact ⟨he, (h.acted (s' := { s with data := s.data.set i (seg false none off bs (s.row i)), cut := some (left - 1, whole, mask), acts := s.acts + 1 }) hi' _ hC hO hg (.inr ⟨rfl, rfl⟩) rfl rfl rfl hf (by omega) hK).dev, Chg.in_ h hi' hg⟩
-- REST
set_option maxRecDepth 100000 in
set_option maxHeartbeats 400000 in
theorem clone_calls (a : Addr) (m c : Nat) (xs : List Int) (w : World) (hb : Bs w (some a) m xs) (hm : m ≤ 140737488355328) :
    Calls Tryz.prog 60 #[.slice (some a) m c] w fun e w' => ∃ g cap, e = .returned (.slice (some ⟨g, 0, none⟩) m cap) ∧ Ob w' w.heap.size 5 g m cap xs ∧ Below w.heap.size w w' := by
  have HB : Hid (Bs (w.alloc (.cells #[] 5)) (some a) m xs) := Lib.hid (hb.below ((Below.refl _ _).alloc (Nat.le_refl _) _))
  have ho := Ob.new_ w 5 (Nat.le_refl w.heap.size)
  have hq := fun w : World => Lib.run_eql_slice_nil (P := Tryz.prog) w 38 5 (some a) m c 0 0 Tryz.underlying38
  clear hb
  go_enter Tryz.func60, Tryz.ntmps60
  go_wp2_with (at_builtin; refine wpList_append_bytes rfl _ _ _ rfl w.heap.size 5 Tryz.underlying38 info_u8 _ 0 0 [] rfl ho (some a) m c xs rfl HB.out (fun e => by cases e) m (by omega) xs rfl (by omega) (by simp) ?_; intro g1 cap1 w1 hown1 hg1 hat1)
  go_ret
  exact ⟨g1, cap1, rfl, hown1, ((Below.refl _ _).alloc (Nat.le_refl _) _).grown hg1 (by simp) (by intro k hk; injection hk with hk; omega)⟩

set_option maxHeartbeats 400000 in
theorem read_off (w : World) (h : DevP w lo hi d n z K s sb scap mb there left whole mask G C) (x y : Nat) (m : Int) (hon : s.on = false) :
    Calls Tryz.prog 34 #[.pointer (some ⟨d, 0, none⟩), .complex .f64 x y, .int .i64 m] w fun e w' => e = .returned (.tuple #[.slice none 0 0, .int .i64 7]) ∧ w = w' := by
  have hc := h.core
  rw [hon] at hc
  have H := Lib.hid hc
  clear h hc hon
  go_enter Tryz.func34, Tryz.ntmps34
  go_wp2_with (go_at_call 19; refine (isOn_calls _ _ H.out).mono ?_; rintro e w' ⟨rfl, rfl⟩)
  go_ret2
  exact ⟨rfl, rfl⟩
set_option maxHeartbeats 400000 in
theorem read_arg (w : World) (h : DevP w lo hi d n z K s sb scap mb there left whole mask G C) (x y : Nat) (m : Int) (hon : s.on = true) (hx : rt x = true) (hy : rt y = true) (hin : inside n z (nm x) (nm y) m = false) :
    Calls Tryz.prog 34 #[.pointer (some ⟨d, 0, none⟩), .complex .f64 x y, .int .i64 m] w fun e w' => e = .returned (.tuple #[.slice none 0 0, .int .i64 1]) ∧ Below w.heap.size w w' := by
  have hc := h.core
  rw [hon] at hc
  have c0 := hc.c0
  have c1 := hc.c1
  have hn := h.geo.2.1
  have hz := h.geo.2.2.2.1
  have H := Lib.hid hc
  have HW := Lib.hid (within_calls (n := n) (z := z) x y m w hx hy hn hz)
  rw [hin] at HW
  clear h hc hon hin
  go_enter Tryz.func34, Tryz.ntmps34
  go_wp2_with (first
    | (go_at_call 19; refine (isOn_calls _ _ H.out).mono ?_; rintro e w' ⟨rfl, rfl⟩)
    | (go_at_call 20; refine (HW.out).mono ?_; rintro e w' ⟨rfl, rfl⟩))
  go_ret2
  exact ⟨rfl, (Below.refl _ _).alloc (Nat.le_refl _) _⟩
set_option maxHeartbeats 1000000 in
theorem read_ok (w : World) (h : DevP w lo hi d n z K s sb scap mb there left whole mask G C) (x y : Nat) (m i off : Nat) (hon : s.on = true) (hx : rt x = true) (hy : rt y = true) (hi' : nm x = i) (ho : nm y = off) (hin : inside n z i off m = true) :
    Calls Tryz.prog 34 #[.pointer (some ⟨d, 0, none⟩), .complex .f64 x y, .int .i64 m] w
      fun e w' => ∃ g cap, e = .returned (.tuple #[.slice (some ⟨g, 0, none⟩) m cap, .int .i64 0]) ∧ Ob w' w.heap.size 5 g m cap (((s.row i).drop off).take m) ∧ Below w.heap.size w w' := by
  have hc := h.core
  rw [hon] at hc
  have hn := h.geo.2.1
  have hz := h.geo.2.2.2.1
  have HW := Lib.hid (within_calls (n := n) (z := z) x y m w hx hy hn hz)
  rw [hi', ho, hin] at HW
  have HP := Lib.hid (fun w => parts_yes x y w hx hy)
  rw [hi', ho] at HP
  have hin' := hin
  unfold inside at hin'
  rw [decide_eq_true_eq] at hin'
  have hin2 : i < n := by omega
  have hof : off ≤ z := by omega
  have hm : off + m ≤ z := by omega
  have hrow := h.rows i hin2
  have hcl := hrow.capLe
  have l := hc.lt
  have sl := h.secs.lt
  obtain ⟨W, hW⟩ : ∃ W, w.alloc (.cells #[.int .i64 n, .int .i64 z] 28) = W := ⟨_, rfl⟩
  have hbel : Below w.heap.size w W := by rw [← hW]; exact (Below.refl _ _).alloc (Nat.le_refl _) _
  have hsz : w.heap.size ≤ W.heap.size := hbel.size
  have hPW : DevP W lo hi d n z K s sb scap mb there left whole mask G C := by rw [← hW]; exact h.alloc _
  have c0 := hc.c0
  have c1 := hc.c1
  have q2 := hPW.core.c2
  have k0 := hPW.secs.c0 hin2
  have hbs : Bs W (some ⟨G i, off, none⟩) m (((s.row i).drop off).take m) := by
    have := (hPW.rows i hin2).bs.sub off m hm
    rwa [Nat.zero_add] at this
  have hbz : m = 0 → Bs W (some ⟨G i, 0, none⟩) m (((s.row i).drop off).take m) := fun e => by
    subst e
    rw [List.take_zero]
    exact Bs.nil_ _ _
  have hscap := h.geo.2.2.2.2
  have H := Lib.hid hc
  have HS := Lib.hid hbs
  have HZ := Lib.hid hbz
  have HWW := Lib.hid hW
  clear h hc hon hin hin' hrow hPW hbs hbz hW hi' ho hcl
  generalize ((s.row i).drop off).take m = rr at *
  by_cases hcz : z = off
  · obtain rfl : m = 0 := by omega
    subst hcz
    have HZ0 := Lib.hid (HZ.out rfl)
    go_enter Tryz.func34, Tryz.ntmps34
    go_wp2_with (first
      | (go_at_call 19; refine (isOn_calls _ _ H.out).mono ?_; rintro e w' ⟨rfl, rfl⟩)
      | (go_at_call 20; refine (HW.out).mono ?_; rintro e w' ⟨rfl, hw'⟩; rw [HWW.out] at hw'; subst hw')
      | (go_at_call 21; refine (HP.out _).mono ?_; rintro e w' ⟨rfl, rfl⟩)
      | (go_at_call 60; (go_loud (refine (clone_calls _ _ _ _ _ HZ0.out (by omega)).mono ?_)); rintro e w1 ⟨g1, cap1, rfl, ho1, hb1⟩))
    go_ret2
    exact ⟨g1, cap1, rfl, ho1.base hsz, hbel.trans (hb1.mono hsz)⟩
  · go_enter Tryz.func34, Tryz.ntmps34
    go_wp2_with (first
      | (go_at_call 19; refine (isOn_calls _ _ H.out).mono ?_; rintro e w' ⟨rfl, rfl⟩)
      | (go_at_call 20; refine (HW.out).mono ?_; rintro e w' ⟨rfl, hw'⟩; rw [HWW.out] at hw'; subst hw')
      | (go_at_call 21; refine (HP.out _).mono ?_; rintro e w' ⟨rfl, rfl⟩)
      | (go_at_call 60; (with_reducible refine (clone_calls _ _ _ _ _ HS.out (by omega)).mono ?_); rintro e w1 ⟨g1, cap1, rfl, ho1, hb1⟩))
    go_ret2
    exact ⟨g1, cap1, rfl, ho1.base hsz, hbel.trans (hb1.mono hsz)⟩
end
end Go.Proofs.YthbafcihmcjchaaGreatDoor.NorG

/- The contracts of a device's methods over its whole state: Program, Erase. -/
namespace Go.Proofs.YthbafcihmcjchaaGreatDoor.NorH
set_option linter.unusedVariables false
set_option linter.unusedSimpArgs false
open Go.RowKit Go.Maps
open Go.Proofs.YthbafcihmcjchaaGreatDoor.Byte Go.Proofs.YthbafcihmcjchaaGreatDoor.NorD Go.Proofs.YthbafcihmcjchaaGreatDoor.NorW Go.Proofs.YthbafcihmcjchaaGreatDoor.NorM Go.Proofs.YthbafcihmcjchaaGreatDoor.NorE Go.Proofs.YthbafcihmcjchaaGreatDoor.NorS Go.Proofs.YthbafcihmcjchaaGreatDoor.NorF Go.Proofs.YthbafcihmcjchaaGreatDoor.NorG Go.Proofs.YthbafcihmcjchaaGreatDoor.PlaceM Go.Proofs.YthbafcihmcjchaaGreatDoor.PlaceV

theorem below_drewN {B : Nat} {a w : World} (h : Below B a w) (n : Nat) : Below B a (w.drewN n) := ⟨h.os, h.tape, h.output, h.size, h.block⟩
theorem below_of_alloc {W w2 : World} {o : Obj} (h : W.drew.alloc o = w2) : Hid (Below W.heap.size W w2) := by
  subst h
  exact (Below.refl _ W).drew.alloc (Nat.le_refl _) _
section
variable {lo hi d n z K : Nat} {s : St} {sb scap mb : Nat} {there : Bool} {left whole mask : Int} {G C : Nat → Nat}

theorem DevP.chg {w w' : World} {S : Nat → Prop} (h : DevP w lo hi d n z K s sb scap mb there left whole mask G C) (hg : Chg S w w') (hS : ∀ k, lo ≤ k → k < hi → ¬ S k) : DevP w' lo hi d n z K s sb scap mb there left whole mask G C :=
  h.keep (fun k h1 h2 => hg.block k (Nat.lt_of_lt_of_le h2 h.hs) (hS k h1 h2)) hg.size
theorem DevP.below {w w' : World} (h : DevP w lo hi d n z K s sb scap mb there left whole mask G C) (hb : Below w.heap.size w w') : DevP w' lo hi d n z K s sb scap mb there left whole mask G C :=
  h.keep (fun k _ h2 => hb.block k (Nat.lt_of_lt_of_le h2 h.hs)) hb.size
theorem DevP.more {w : World} (h : DevP w lo hi d n z K s sb scap mb there left whole mask G C) {K' : Nat} (hK : K ≤ K') (hb : K' ≤ 1000000) : DevP w lo hi d n z K' s sb scap mb there left whole mask G C :=
  ⟨h.core, h.cut, h.secs, h.map.more hK, h.rows, h.apart, h.pd, h.ps, h.pm, h.pg, h.hs, h.fits.more hK, h.geo, hb⟩

set_option maxHeartbeats 400000 in
theorem program_off (w : World) (h : DevP w lo hi d n z K s sb scap mb there left whole mask G C) (x y : Nat) (A : Option Addr) (m cb : Nat) (hon : s.on = false) :
    Calls Tryz.prog 6 #[.pointer (some ⟨d, 0, none⟩), .complex .f64 x y, .slice A m cb] w fun e w' => e = .returned (.int .i64 7) ∧ Below w.heap.size w w' := by
  have h1 := h.alloc (.cells #[.slice A m cb] 38)
  have hc := h1.core
  rw [hon] at hc
  have H := Lib.hid hc
  clear h h1 hc hon
  go_enter Tryz.func6, Tryz.ntmps6
  go_wp2_with (go_at_call 19; refine (isOn_calls _ _ H.out).mono ?_; rintro e w' ⟨rfl, rfl⟩)
  go_ret
  exact ⟨rfl, (Below.refl _ _).alloc (Nat.le_refl _) _⟩
set_option maxHeartbeats 400000 in
theorem program_none (w : World) (h : DevP w lo hi d n z K s sb scap mb there left whole mask G C) (x y : Nat) (A : Option Addr) (cb : Nat) (hon : s.on = true) :
    Calls Tryz.prog 6 #[.pointer (some ⟨d, 0, none⟩), .complex .f64 x y, .slice A 0 cb] w fun e w' => e = .returned (.int .i64 1) ∧ Below w.heap.size w w' := by
  have h1 := h.alloc (.cells #[.slice A 0 cb] 38)
  have hc := h1.core
  rw [hon] at hc
  have H := Lib.hid hc
  clear h h1 hc hon
  go_enter Tryz.func6, Tryz.ntmps6
  go_wp2_with (go_at_call 19; refine (isOn_calls _ _ H.out).mono ?_; rintro e w' ⟨rfl, rfl⟩)
  go_quiet (fail)
  go_wp2
  go_ret
  exact ⟨rfl, Go.Proofs.YthbafcihmcjchaaGreatDoor.NorH.below_drewN ((Below.refl _ _).alloc (Nat.le_refl _) _) _⟩
set_option maxRecDepth 100000 in
set_option maxHeartbeats 1000000 in
theorem program_arg (w : World) (h : DevP w lo hi d n z K s sb scap mb there left whole mask G C) (x y : Nat) (A : Option Addr) (m cb : Nat) (hon : s.on = true) (hm0 : 0 < m) (hm1 : m ≤ 140737488355328) (hx : rt x = true) (hy : rt y = true) (hin : inside n z (nm x) (nm y) m = false) :
    Calls Tryz.prog 6 #[.pointer (some ⟨d, 0, none⟩), .complex .f64 x y, .slice A m cb] w fun e w' => e = .returned (.int .i64 1) ∧ Below w.heap.size w w' := by
  have h1 := h.alloc (.cells #[.slice A m cb] 38)
  have hb1 : Below w.heap.size w (w.alloc (.cells #[.slice A m cb] 38)) := (Below.refl _ _).alloc (Nat.le_refl _) _
  have hbx : (w.alloc (.cells #[.slice A m cb] 38)).cell? ⟨w.heap.size, 0, none⟩ = some (.slice A m cb) := (Blk.new w _ _).cell 0
  have hsz : w.heap.size ≤ (w.alloc (.cells #[.slice A m cb] 38)).heap.size := by simp
  have hn := h.geo.2.1
  have hz := h.geo.2.2.2.1
  have hc := h1.core
  rw [hon] at hc
  have H := Lib.hid hc
  have e0 : ((m : Int) == 0) = false := beq_eq_false_iff_ne.2 (by omega)
  have HB := Lib.hid hb1
  have HX := Lib.hid hbx
  have HS := Lib.hid hsz
  clear h h1 hc hon hb1 hbx hsz
  have HW := Lib.hid (fun w => within_calls (n := n) (z := z) x y m w hx hy hn hz)
  rw [hin] at HW
  clear hin
  go_enter Tryz.func6, Tryz.ntmps6
  go_wp2_with (go_at_call 19; refine (isOn_calls _ _ H.out).mono ?_; rintro e w' ⟨rfl, rfl⟩)
  generalize w.alloc (.cells #[.slice A m cb] 38) = W at *
  have hbx := HX.out
  have c0 := H.out.c0
  have c1 := H.out.c1
  go_still_tail 11, (by kernel_rfl)
  change wpList _ _ _ _ _ W.drew
  go_wp2_with (go_at_call 20; refine (HW.out _).mono ?_; rintro e w' ⟨rfl, rfl⟩)
  go_ret
  exact ⟨rfl, (HB.out.drew).alloc HS.out _⟩

/-- From the box on: what stands where the tests have been passed. -/
theorem program_start (w : World) (h : DevP w lo hi d n z K s sb scap mb there left whole mask G C) (A : Option Addr) (m cb : Nat) (bs : List Int) (hb : Bs w A m bs) (hA : ∀ b o, A = some ⟨b, o, none⟩ → b < lo ∨ hi ≤ b) (W3 : World)
    (hbel : Below (w.alloc (.cells #[.slice A m cb] 38)).heap.size (w.alloc (.cells #[.slice A m cb] 38)) W3) :
    DevP W3 lo hi d n z K s sb scap mb there left whole mask G C ∧ Bs W3 A m bs ∧ W3.cell? ⟨w.heap.size, 0, none⟩ = some (.slice A m cb) ∧ hi ≤ w.heap.size ∧ Below w.heap.size w W3 := by
  have h1 := h.alloc (.cells #[.slice A m cb] 38)
  have hb1 : Below w.heap.size w (w.alloc (.cells #[.slice A m cb] 38)) := (Below.refl _ _).alloc (Nat.le_refl _) _
  have hbx : (w.alloc (.cells #[.slice A m cb] 38)).cell? ⟨w.heap.size, 0, none⟩ = some (.slice A m cb) := (Blk.new w _ _).cell 0
  exact ⟨DevP.below h1 hbel, (hb.below hb1).below hbel, (hbel.cell (p := ⟨w.heap.size, 0, none⟩) (by simp)).trans hbx, h.hs, hb1.trans (hbel.mono (by simp))⟩

set_option maxRecDepth 100000 in
set_option maxHeartbeats 1000000 in
theorem program_bad (w : World) (h : DevP w lo hi d n z K s sb scap mb there left whole mask G C) (x y : Nat) (A : Option Addr) (m cb i off : Nat) (hon : s.on = true) (hm0 : 0 < m) (hm1 : m ≤ 140737488355328) (hx : rt x = true) (hy : rt y = true) (hi' : nm x = i) (ho : nm y = off) (hin : inside n z i off m = true) (hbad : s.bad.getD i false = true) :
    Calls Tryz.prog 6 #[.pointer (some ⟨d, 0, none⟩), .complex .f64 x y, .slice A m cb] w fun e w' => e = .returned (.int .i64 8) ∧ Below w.heap.size w w' := by
  have h1 := h.alloc (.cells #[.slice A m cb] 38)
  have hb1 : Below w.heap.size w (w.alloc (.cells #[.slice A m cb] 38)) := (Below.refl _ _).alloc (Nat.le_refl _) _
  have hbx : (w.alloc (.cells #[.slice A m cb] 38)).cell? ⟨w.heap.size, 0, none⟩ = some (.slice A m cb) := (Blk.new w _ _).cell 0
  have hsz : w.heap.size ≤ (w.alloc (.cells #[.slice A m cb] 38)).heap.size := by simp
  have hn := h.geo.2.1
  have hz := h.geo.2.2.2.1
  have hc := h1.core
  rw [hon] at hc
  have H := Lib.hid hc
  have H1 := Lib.hid h1
  have e0 : ((m : Int) == 0) = false := beq_eq_false_iff_ne.2 (by omega)
  have HB := Lib.hid hb1
  have HX := Lib.hid hbx
  have HS := Lib.hid hsz
  clear h h1 hc hon hb1 hbx hsz
  have HW := Lib.hid (fun w => within_calls (n := n) (z := z) x y m w hx hy hn hz)
  rw [hi', ho, hin] at HW
  have HP := Lib.hid (fun w => parts_yes x y w hx hy)
  rw [hi', ho] at HP
  have hin' := hin
  unfold inside at hin'
  rw [decide_eq_true_eq] at hin'
  have hin2 : i < n := by omega
  have HQ := Lib.hid (fun (w : World) (h : DevP w lo hi d n z K s sb scap mb there left whole mask G C) => isBad_calls w h i hin2)
  rw [hbad] at HQ
  clear hin hin' hi' ho hbad
  go_enter Tryz.func6, Tryz.ntmps6
  go_wp2_with (go_at_call 19; refine (isOn_calls _ _ H.out).mono ?_; rintro e w' ⟨rfl, rfl⟩)
  generalize w.alloc (.cells #[.slice A m cb] 38) = W at *
  have hbx := HX.out
  have c0 := H.out.c0
  have c1 := H.out.c1
  go_still_tail 11, (by kernel_rfl)
  change wpList _ _ _ _ _ W.drew
  clear hbx c0 c1
  go_wp2_with (first
    | (go_at_call 20; refine (HW.out _).mono ?_; rintro e w2 ⟨rfl, hw2⟩; have HB2 := below_of_alloc hw2; clear hw2)
    | (go_at_call 21; refine (HP.out _).mono ?_; rintro e w' ⟨rfl, rfl⟩)
    | (go_at_call 22; refine (HQ.out _ (DevP.below H1.out HB2.out)).mono ?_; rintro e w3 ⟨rfl, hb3⟩))
  go_ret
  exact ⟨rfl, HB.out.trans ((HB2.out.mono HS.out).trans (hb3.mono (Nat.le_trans HS.out HB2.out.size)))⟩

set_option maxRecDepth 100000 in
set_option maxHeartbeats 1000000 in
theorem program_ok (w : World) (h : DevP w lo hi d n z K s sb scap mb there left whole mask G C) (hK : K + 1 ≤ 1000000) (x y : Nat) (A : Option Addr) (m cb i off : Nat) (bs : List Int) (hb : Bs w A m bs) (hA : ∀ b o, A = some ⟨b, o, none⟩ → b < lo ∨ hi ≤ b)
    (hon : s.on = true) (hm0 : 0 < m) (hm1 : m ≤ 140737488355328) (hx : rt x = true) (hy : rt y = true) (hi' : nm x = i) (ho : nm y = off) (hin : inside n z i off m = true) (hbad : s.bad.getD i false = false) :
    Calls Tryz.prog 6 #[.pointer (some ⟨d, 0, none⟩), .complex .f64 x y, .slice A m cb] w
      fun e w' => e = .returned (.int .i64 (s.act i true off bs).1) ∧ Dev w' lo hi d n z (K + 1) (s.act i true off bs).2 ∧ Chg (fun q => lo ≤ q ∧ q < hi) w w' := by
  have h1 := h.alloc (.cells #[.slice A m cb] 38)
  have hb1 : Below w.heap.size w (w.alloc (.cells #[.slice A m cb] 38)) := (Below.refl _ _).alloc (Nat.le_refl _) _
  have hbx : (w.alloc (.cells #[.slice A m cb] 38)).cell? ⟨w.heap.size, 0, none⟩ = some (.slice A m cb) := (Blk.new w _ _).cell 0
  have hsz : w.heap.size ≤ (w.alloc (.cells #[.slice A m cb] 38)).heap.size := by simp
  have hST := Lib.hid (program_start w h A m cb bs hb hA)
  have hn := h.geo.2.1
  have hz := h.geo.2.2.2.1
  have hsc := h.geo.2.2.2.2
  have hc := h1.core
  rw [hon] at hc
  have H := Lib.hid hc
  have H1 := Lib.hid h1
  have e0 : ((m : Int) == 0) = false := beq_eq_false_iff_ne.2 (by omega)
  have HX := Lib.hid hbx
  have HON := Lib.hid hon
  clear h h1 hc hon hb1 hbx hsz
  have HW := Lib.hid (fun w => within_calls (n := n) (z := z) x y m w hx hy hn hz)
  rw [hi', ho, hin] at HW
  have HP := Lib.hid (fun w => parts_yes x y w hx hy)
  rw [hi', ho] at HP
  have hin' := hin
  unfold inside at hin'
  rw [decide_eq_true_eq] at hin'
  have hin2 : i < n := by omega
  have hof : off + m ≤ z := by omega
  have HQ := Lib.hid (fun (w : World) (h : DevP w lo hi d n z K s sb scap mb there left whole mask G C) => isBad_calls w h i hin2)
  rw [hbad] at HQ
  have HA := Lib.hid hA
  have hzo : ¬ z = off := by omega
  clear hin hin' hi' ho hbad hb hA
  have hmf : ∀ (fn : Fn) (first cap : Array Value) (w : World), (Instr.makeFunc fn first cap).run Tryz.prog w = .ok (.func fn first cap) w := fun _ _ _ _ => rfl
  go_enter Tryz.func6, Tryz.ntmps6
  go_wp2_with (go_at_call 19; refine (isOn_calls _ _ H.out).mono ?_; rintro e w' ⟨rfl, rfl⟩)
  generalize w.alloc (.cells #[.slice A m cb] 38) = W at *
  have hbx := HX.out
  have c0 := H.out.c0
  have c1 := H.out.c1
  go_still_tail 11, (by kernel_rfl)
  change wpList _ _ _ _ _ W.drew
  clear hbx c0 c1
  go_wp2_with (first
    | (go_at_call 20; refine (HW.out _).mono ?_; rintro e w2 ⟨rfl, hw2⟩; have HB2 := below_of_alloc hw2; clear hw2)
    | (go_at_call 21; refine (HP.out _).mono ?_; rintro e w' ⟨rfl, rfl⟩)
    | (go_at_call 22; refine (HQ.out _ (DevP.below H1.out HB2.out)).mono ?_; rintro e w3 ⟨rfl, hb3⟩))
  have HB3 : Hid (Below W.heap.size W w3) := HB2.out.trans (hb3.mono HB2.out.size)
  clear hb3
  have HT := Lib.hid (hST.out w3 HB3.out)
  have q2 := HT.out.1.core.c2
  have k0 := HT.out.1.secs.c0 hin2
  have bx := HT.out.2.2.1
  have v1 : IntKind.i64.wrap ((off : Int) + (m : Int)) = (off : Int) + (m : Int) := IntWalk.i64_in _ (by omega)
  have v2 : (0 : Int) ≤ (off : Int) := by omega
  have v3 : (off : Int) ≤ (off : Int) + (m : Int) := by omega
  have v4 : (off : Int) + (m : Int) ≤ (z : Int) := by omega
  go_still_tail 16, (by kernel_rfl)
  clear v1 v2 v3 v4
  change wpList _ _ _ _ _ w3.drew
  have HD : Hid (DevP w3.drew lo hi d n z K s sb scap mb there left whole mask G C) := DevP.keep (w := w3) HT.out.1 (fun _ _ _ => rfl) (Nat.le_refl _)
  go_wp2_with fail
  rw [Nat.add_sub_cancel_left]
  go_wp2_with (go_at_call 23; refine (act_prog_dev w3.drew HD.out HON.out hK i hin2 off m _ w.heap.size A cb bs hof (by omega) (by omega) HT.out.2.1 HA.out bx (.inr HT.out.2.2.2.1)).mono ?_; rintro e w4 ⟨rfl, hd4, hg4⟩)
  go_ret
  exact ⟨rfl, hd4, (Chg.of_below HT.out.2.2.2.2).drew.trans hg4⟩

/-- Program, whatever befalls. -/
theorem program_calls (w : World) (hD : Dev w lo hi d n z K s) (hK : K + 1 ≤ 1000000) (x y : Nat) (A : Option Addr) (m cb i off : Nat) (bs : List Int) (hb : Bs w A m bs) (hA : ∀ b o, A = some ⟨b, o, none⟩ → b < lo ∨ hi ≤ b)
    (hm1 : m ≤ 140737488355328) (hx : rt x = true) (hy : rt y = true) (hi' : nm x = i) (ho : nm y = off) :
    Calls Tryz.prog 6 #[.pointer (some ⟨d, 0, none⟩), .complex .f64 x y, .slice A m cb] w
      fun e w' => e = .returned (.int .i64 (s.program n z i off bs).1) ∧ Dev w' lo hi d n z (K + 1) (s.program n z i off bs).2 ∧ Chg (fun q => lo ≤ q ∧ q < hi) w w' := by
  obtain ⟨sb, scap, mb, there, left, whole, mask, G, C, h⟩ := hD
  have stay : ∀ w', Below w.heap.size w w' → Dev w' lo hi d n z (K + 1) s ∧ Chg (fun q => lo ≤ q ∧ q < hi) w w' := fun w' hb =>
    ⟨(DevP.more (DevP.below h hb) (by omega) hK).dev, Chg.of_below hb⟩
  have hl := hb.len
  by_cases hon : s.on = false
  · have e : s.program n z i off bs = (7, s) := by unfold St.program; rw [if_pos hon]
    rw [e]
    exact (program_off w h x y A m cb hon).mono fun e w' ⟨he, hw⟩ => ⟨he, stay w' hw⟩
  · have hon' : s.on = true := by simpa using hon
    by_cases hm0 : m = 0
    · subst hm0
      have e : s.program n z i off bs = (1, s) := by unfold St.program; rw [if_neg hon, if_pos (.inl hl)]
      rw [e]
      exact (program_none w h x y A cb hon').mono fun e w' ⟨he, hw⟩ => ⟨he, stay w' hw⟩
    · cases hin : inside n z i off m with
      | false =>
        have e : s.program n z i off bs = (1, s) := by unfold St.program; rw [if_neg hon, if_pos (.inr (by rw [hl]; exact hin))]
        rw [e]
        exact (program_arg w h x y A m cb hon' (by omega) hm1 hx hy (by rw [hi', ho]; exact hin)).mono fun e w' ⟨he, hw⟩ => ⟨he, stay w' hw⟩
      | true =>
        have hne : ¬ (bs.length = 0 ∨ inside n z i off bs.length = false) := by rw [hl, hin]; simp [hm0]
        cases hbad : s.bad.getD i false with
        | true =>
          have e : s.program n z i off bs = (8, s) := by unfold St.program; rw [if_neg hon, if_neg hne, if_pos hbad]
          rw [e]
          exact (program_bad w h x y A m cb i off hon' (by omega) hm1 hx hy hi' ho hin hbad).mono fun e w' ⟨he, hw⟩ => ⟨he, stay w' hw⟩
        | false =>
          have e : s.program n z i off bs = s.act i true off bs := by unfold St.program; rw [if_neg hon, if_neg hne, if_neg (by rw [hbad]; decide)]
          rw [e]
          exact program_ok w h hK x y A m cb i off bs hb hA hon' (by omega) hm1 hx hy hi' ho hin hbad

set_option maxHeartbeats 400000 in
theorem erase_off (w : World) (h : DevP w lo hi d n z K s sb scap mb there left whole mask G C) (se : Int) (hon : s.on = false) :
    Calls Tryz.prog 33 #[.pointer (some ⟨d, 0, none⟩), .int .i64 se] w fun e w' => e = .returned (.int .i64 7) ∧ w = w' := by
  have hc := h.core
  rw [hon] at hc
  have H := Lib.hid hc
  clear h hc hon
  go_enter Tryz.func33, Tryz.ntmps33
  go_wp2_with (go_at_call 19; refine (isOn_calls _ _ H.out).mono ?_; rintro e w' ⟨rfl, rfl⟩)
  go_ret
  exact ⟨rfl, rfl⟩
set_option maxHeartbeats 400000 in
theorem erase_arg (w : World) (h : DevP w lo hi d n z K s sb scap mb there left whole mask G C) (se : Int) (hon : s.on = true) (hse : se < 0 ∨ (n : Int) ≤ se) :
    Calls Tryz.prog 33 #[.pointer (some ⟨d, 0, none⟩), .int .i64 se] w fun e w' => e = .returned (.int .i64 1) ∧ w = w' := by
  have hc := h.core
  rw [hon] at hc
  have H := Lib.hid hc
  have H1 := Lib.hid h
  have HS := Lib.hid hse
  clear h hc hon hse
  go_enter Tryz.func33, Tryz.ntmps33
  go_wp2_with (first
    | (go_at_call 19; refine (isOn_calls _ _ H.out).mono ?_; rintro e w' ⟨rfl, rfl⟩)
    | (go_at_call 58; refine (has_no _ H1.out _ HS.out).mono ?_; rintro e w' ⟨rfl, rfl⟩))
  go_ret
  exact ⟨rfl, rfl⟩
set_option maxHeartbeats 400000 in
theorem erase_bad (w : World) (h : DevP w lo hi d n z K s sb scap mb there left whole mask G C) (i : Nat) (hi' : i < n) (hon : s.on = true) (hbad : s.bad.getD i false = true) :
    Calls Tryz.prog 33 #[.pointer (some ⟨d, 0, none⟩), .int .i64 i] w fun e w' => e = .returned (.int .i64 8) ∧ Below w.heap.size w w' := by
  have hc := h.core
  rw [hon] at hc
  have H := Lib.hid hc
  have H1 := Lib.hid h
  have HQ := Lib.hid (isBad_calls w h i hi')
  rw [hbad] at HQ
  clear h hc hon hbad
  go_enter Tryz.func33, Tryz.ntmps33
  go_wp2_with (first
    | (go_at_call 19; refine (isOn_calls _ _ H.out).mono ?_; rintro e w' ⟨rfl, rfl⟩)
    | (go_at_call 58; refine (has_yes _ H1.out _ (by omega) (by omega)).mono ?_; rintro e w' ⟨rfl, rfl⟩)
    | (go_at_call 22; refine (HQ.out).mono ?_; rintro e w2 ⟨rfl, hb2⟩))
  go_ret
  exact ⟨rfl, hb2⟩
set_option maxHeartbeats 1000000 in
theorem erase_ok (w : World) (h : DevP w lo hi d n z K s sb scap mb there left whole mask G C) (hK : K + 2 ≤ 1000000) (i : Nat) (hi' : i < n) (hon : s.on = true) (hbad : s.bad.getD i false = false) :
    Calls Tryz.prog 33 #[.pointer (some ⟨d, 0, none⟩), .int .i64 i] w
      fun e w' => e = .returned (.int .i64 ((s.worn i).act i false 0 (List.replicate z 0)).1) ∧ Dev w' lo hi d n z (K + 2) ((s.worn i).act i false 0 (List.replicate z 0)).2 ∧ Chg (fun q => lo ≤ q ∧ q < hi) w w' := by
  have hc := h.core
  rw [hon] at hc
  have hn := h.geo.2.1
  have hz := h.geo.2.2.2.1
  have hsc := h.geo.2.2.2.2
  have hwb := h.fits.wb i
  have H := Lib.hid hc
  have H1 := Lib.hid h
  have HQ := Lib.hid (isBad_calls w h i hi')
  rw [hbad] at HQ
  have HON := Lib.hid hon
  clear h hc hon hbad
  go_enter Tryz.func33, Tryz.ntmps33
  go_wp2_with (first
    | (go_at_call 19; refine (isOn_calls _ _ H.out).mono ?_; rintro e w' ⟨rfl, rfl⟩)
    | (go_at_call 58; refine (has_yes _ H1.out _ (by omega) (by omega)).mono ?_; rintro e w' ⟨rfl, rfl⟩)
    | (go_at_call 22; refine (HQ.out).mono ?_; rintro e w2 ⟨rfl, hb2⟩; have H2 := Lib.hid (DevP.below H1.out hb2); have HB2 := Lib.hid hb2; clear hb2; have q2 := H2.out.core.c2; have k0 := H2.out.secs.c0 hi'; have k1 := H2.out.secs.c1 hi'; have f1 := H2.out.secs.fr (i * 2 + 1); have l2 := H2.out.core.lt; have HW2 := Lib.hid (H2.out.wornAt (by omega) hi'); generalize hv : s.wear.getD i 0 = v at *; have HV := Lib.hid hv; clear hv)
    | (go_at_call 23; refine (act_erase_dev _ HW2.out HON.out (by omega) i hi' 0 z z (List.replicate z 0) (by omega) (Nat.le_refl _) (by omega) (List.length_replicate ..)).mono ?_; rintro e w3 ⟨rfl, hd3, hg3⟩))
  go_ret
  have h1 := H1.out
  have hg2 : Chg (fun q => lo ≤ q ∧ q < hi) w (w2.setCell ⟨sb, i * 2 + 1, none⟩ (.int .i64 (v + 1))) := (Chg.of_below HB2.out).setCell (.inl h1.ps) _
  exact ⟨rfl, hd3, hg2.trans hg3⟩

/-- Erase, whatever befalls. -/
theorem eraseAt_calls (w : World) (hD : Dev w lo hi d n z K s) (hK : K + 2 ≤ 1000000) (se : Int) :
    Calls Tryz.prog 33 #[.pointer (some ⟨d, 0, none⟩), .int .i64 se] w
      fun e w' => e = .returned (.int .i64 (s.erase n z se).1) ∧ Dev w' lo hi d n z (K + 2) (s.erase n z se).2 ∧ Chg (fun q => lo ≤ q ∧ q < hi) w w' := by
  obtain ⟨sb, scap, mb, there, left, whole, mask, G, C, h⟩ := hD
  have stay : ∀ w', Below w.heap.size w w' → Dev w' lo hi d n z (K + 2) s ∧ Chg (fun q => lo ≤ q ∧ q < hi) w w' := fun w' hb =>
    ⟨(DevP.more (DevP.below h hb) (by omega) hK).dev, Chg.of_below hb⟩
  by_cases hon : s.on = false
  · have e : s.erase n z se = (7, s) := by unfold St.erase; rw [if_pos hon]
    rw [e]
    exact (erase_off w h se hon).mono fun e w' ⟨he, hw⟩ => ⟨he, stay w' (by subst hw; exact Below.refl _ _)⟩
  · have hon' : s.on = true := by simpa using hon
    by_cases hse : se < 0 ∨ (n : Int) ≤ se
    · have e : s.erase n z se = (1, s) := by unfold St.erase; rw [if_neg hon, if_pos hse]
      rw [e]
      exact (erase_arg w h se hon' hse).mono fun e w' ⟨he, hw⟩ => ⟨he, stay w' (by subst hw; exact Below.refl _ _)⟩
    · obtain ⟨i, rfl⟩ := Int.eq_ofNat_of_zero_le (show 0 ≤ se by omega)
      have hi' : i < n := by omega
      cases hbad : s.bad.getD i false with
      | true =>
        have e : s.erase n z (i : Int) = (8, s) := by unfold St.erase; rw [if_neg hon, if_neg hse, Int.toNat_natCast, if_pos hbad]
        rw [e]
        exact (erase_bad w h i hi' hon' hbad).mono fun e w' ⟨he, hw⟩ => ⟨he, stay w' hw⟩
      | false =>
        have e : s.erase n z (i : Int) = (s.worn i).act i false 0 (List.replicate z 0) := by unfold St.erase; rw [if_neg hon, if_neg hse, Int.toNat_natCast, if_neg (by rw [hbad]; decide)]
        rw [e]
        exact erase_ok w h hK i hi' hon' hbad
end
end Go.Proofs.YthbafcihmcjchaaGreatDoor.NorH

/- The contract of 'bytes.Repeat' of one byte, and of math/bits.Mul beneath it. -/
namespace Go.Proofs.YthbafcihmcjchaaGreatDoor.NorN
set_option linter.unusedVariables false
set_option linter.unusedSimpArgs false
open Go.RowKit Go.Maps
open Go.Proofs.YthbafcihmcjchaaGreatDoor.Byte Go.Proofs.YthbafcihmcjchaaGreatDoor.NorD Go.Proofs.YthbafcihmcjchaaGreatDoor.NorW Go.Proofs.YthbafcihmcjchaaGreatDoor.NorM Go.Proofs.YthbafcihmcjchaaGreatDoor.NorS Go.Proofs.YthbafcihmcjchaaGreatDoor.NorF

set_option maxHeartbeats 400000 in
theorem mul64_calls (z : Nat) (w : World) (hz : z ≤ 100000) : Calls Tryz.prog 71 #[.int .u64 1, .int .u64 z] w fun e w' => e = .returned (.tuple #[.int .u64 0, .int .u64 z]) ∧ w = w' := by
  have e1 : bits .and .u64 (z : Int) 4294967295 = (z : Int) := by
    rw [u64_and _ _ (by omega) (by omega) (by omega) (by omega)]
    have := nat_mask32 z
    rw [Int.toNat_natCast, show (4294967295 : Int).toNat = 4294967295 from rfl, this]
    omega
  have e2 : bits .and .u64 1 4294967295 = 1 := by
    rw [u64_and _ _ (by omega) (by omega) (by omega) (by omega)]
    rfl
  have e4 : bits .and .u64 0 4294967295 = 0 := by
    rw [u64_and _ _ (by omega) (by omega) (by omega) (by omega)]
    rfl
  have e3 : (z : Int) / 4294967296 = 0 := by omega
  go_enter Tryz.func71, Tryz.ntmps71
  go_wp2
  go_ret2
  exact ⟨rfl, rfl⟩
set_option maxHeartbeats 400000 in
theorem mul_calls (z : Nat) (w : World) (hz : z ≤ 100000) : Calls Tryz.prog 50 #[.int .u64 1, .int .u64 z] w fun e w' => e = .returned (.tuple #[.int .u64 0, .int .u64 z]) ∧ w = w' := by
  go_enter Tryz.func50, Tryz.ntmps50
  go_wp2_with (go_at_call 71; refine (mul64_calls z _ hz).mono ?_; rintro e w' ⟨rfl, rfl⟩)
  go_ret2
  exact ⟨rfl, rfl⟩

/-- Block g: at least n cells, of which the first k are bytes 255. -/
def Part (w : World) (g n k : Nat) : Prop := ∃ cur : Array Value, Blk w g 5 cur ∧ n ≤ cur.size ∧ cur.size ≤ maxLen ∧ k ≤ n ∧ ∀ j, j < k → cur[j]? = some (.int .u8 255)
theorem Part.more {w : World} {g n k : Nat} (h : Part w g n k) (m : Nat) (hm : k + m ≤ n) (off : Nat) (hoff : off = k) (cur : Array Value) (hb : Blk w g 5 cur) :
    Part (w.setRow g (cur.toList.take off ++ (List.replicate m (Value.int .u8 255) ++ cur.toList.drop (off + m))).toArray) g n (k + m) := by
  subst hoff
  obtain ⟨cur', hb', h1, h2, h3, h4⟩ := h
  have e : cur' = cur := by
    unfold Blk at hb hb'
    rw [hb] at hb'
    injection hb' with hb'
    injection hb' with hb' _ _
    exact hb'.symm
  subst e
  refine ⟨_, setRow_heap _ _ _ _ _ _ hb, ?_, ?_, hm, fun j hj => ?_⟩
  · simp; omega
  · simp; omega
  · rw [List.getElem?_toArray]
    by_cases hjo : j < off
    · rw [List.getElem?_append_left (by simp; omega), List.getElem?_take, if_pos hjo]
      simpa using h4 j hjo
    · have hl : (cur'.toList.take off).length = off := by simp; omega
      rw [List.getElem?_append_right (by rw [hl]; omega), hl, List.getElem?_append_left (by simp; omega), List.getElem?_replicate, if_pos (by omega)]
theorem Part.done {w : World} {g n lo : Nat} (h : Part w g n n) (hlo : lo ≤ g) : ∃ cap, Ob w lo 5 g n cap (List.replicate n 255) := by
  obtain ⟨cur, hb, h1, h2, h3, h4⟩ := h
  refine ⟨cur.size, by simp, fun x hx => by rw [List.eq_of_mem_replicate hx]; omega, by simp, .inr ⟨g, cur.size, cur, rfl, hlo, hb, h1, h2, by omega, ?_⟩⟩
  rw [Nat.mul_one, List.map_replicate]
  apply List.ext_getElem?
  intro i
  rw [List.getElem?_take, List.getElem?_replicate]
  split
  · rw [Array.getElem?_toList]
    exact h4 i (by assumption)
  · rfl

theorem one_cell {w : World} {b o : Nat} {u : Value} (h : w.cell? ⟨b, o, none⟩ = some u) : ∀ j v, (List.replicate 1 u)[j]? = some v → w.cell? ((⟨b, o, none⟩ : Addr).add j) = some v := by
  intro j v hj
  cases j with
  | zero =>
    simp at hj
    subst hj
    exact h
  | succ j => simp at hj
theorem Part.cells {w : World} {g n k : Nat} (h : Part w g n k) (m : Nat) (hm : m ≤ k) : ∀ j v, (List.replicate m (Value.int .u8 255))[j]? = some v → w.cell? ((⟨g, 0, none⟩ : Addr).add j) = some v := by
  intro j v hj
  rw [List.getElem?_replicate] at hj
  split at hj
  · injection hj with hj
    subst hj
    obtain ⟨cur, hb, _, _, _, h4⟩ := h
    have e2 : (⟨g, 0, none⟩ : Addr).add j = ⟨g, j, none⟩ := by
      unfold Addr.add
      by_cases h0 : j = 0 <;> simp [h0]
    rw [e2, hb.cell]
    exact h4 j (by omega)
  · cases hj

/-- copy of bytes 255 behind those that are there. -/
theorem wpList_copy_part {P : Program} {w : World} {ops : Array Oper} {rest : List Oper} {o : Oper} {a : Act} {Q : Exit → Act → World → Prop} (hgd : o.guard = none) (d s : Operand) (dT sT : TypeId)
    (ho : o.op = .call { callee := .builtin .copy, args := #[d, s], argTypes := #[dT, sT] }) (e : TypeId) (hu : P.underlying dT = some (.slice e)) (hsz : (P.info? e).map (·.size) = some 1)
    (g n k m off dLen dCap : Nat) (ad : Addr) (sLen sCap : Nat) (hd : a.eval d = .slice (some ⟨g, off, none⟩) dLen dCap) (hs : a.eval s = .slice (some ad) sLen sCap) (hp : Part w g n k) (hoff : off = k) (hm : m = min sLen dLen) (hfit : k + m ≤ n)
    (hsrc : ∀ j v, (List.replicate m (Value.int .u8 255))[j]? = some v → w.cell? (ad.add j) = some v)
    (h : ∀ w', Part w' g n (k + m) → w.grownBy w' (some g) → wpList P ops Q rest (a.put o.dst (goInt m)) w') : wpList P ops Q (o :: rest) a w := by
  have hp' := hp
  obtain ⟨cur, hb, h1, h2, h3, h4⟩ := hp'
  subst hoff
  refine wpList_copy_own hgd d s dT sT ho e hu hsz g off dLen dCap ad sLen sCap hd hs cur _ hb (List.replicate m (Value.int .u8 255)) (by rw [List.length_replicate]; exact hm) hsrc (by rw [List.length_replicate]; omega) (fun v hv => by rw [List.eq_of_mem_replicate hv]; rfl) ?_
  rw [List.length_replicate]
  exact h _ (hp.more m hfit off rfl cur hb) (grown_setRow w g _)

theorem step_copy_part {P : Program} {w : World} {ops : Array Oper} {o : Oper} {a : Act} {K : Act → World → Prop} {Q : Exit → Act → World → Prop} {E : Prop} (hgd : o.guard = none) (d s : Operand) (dT sT : TypeId)
    (ho : o.op = .call { callee := .builtin .copy, args := #[d, s], argTypes := #[dT, sT] }) (e : TypeId) (hu : P.underlying dT = some (.slice e)) (hsz : (P.info? e).map (·.size) = some 1)
    (g n k m off dLen dCap : Nat) (ad : Addr) (sLen sCap : Nat) (hd : a.eval d = .slice (some ⟨g, off, none⟩) dLen dCap) (hs : a.eval s = .slice (some ad) sLen sCap) (hp : Part w g n k) (hoff : off = k) (hm : m = min sLen dLen) (hfit : k + m ≤ n)
    (hsrc : ∀ j v, (List.replicate m (Value.int .u8 255))[j]? = some v → w.cell? (ad.add j) = some v)
    (h : ∀ w', Part w' g n (k + m) → w.grownBy w' (some g) → K (a.put o.dst (goInt m)) w') : if Region.wanted o (yielded ops a.tmps) = true then Oper.wp P o a w K Q else E := by
  have hw : Region.wanted o (yielded ops a.tmps) = true := by simp [Region.wanted, hgd]
  rw [if_pos hw]
  have hp' := hp
  obtain ⟨cur, hb, h1, h2, h3, h4⟩ := hp'
  subst hoff
  have hrun := run_copy_row (P := P) w dT sT o.type e g off dLen dCap ad sLen sCap cur _ (List.replicate m (Value.int .u8 255)) hu hsz hb (by rw [List.length_replicate]; exact hm) hsrc (by rw [List.length_replicate]; omega) (fun v hv => by rw [List.eq_of_mem_replicate hv]; rfl)
  rw [List.length_replicate] at hrun
  have hm2 := hp.more m hfit off rfl cur hb
  rw [← List.append_assoc] at hm2
  unfold Oper.wp execOp
  simp only [ho, resolve, invoke, builtin, Sem.run_bind, Sem.run_pure, Result.andThen_ok, List.map_toArray, List.map_cons, List.map_nil, hd, hs, hrun]
  exact h _ hm2 (grown_setRow w g _)

set_option maxRecDepth 100000 in
set_option maxHeartbeats 1000000 in
theorem repeat_calls (b o c z : Nat) (w : World) (hc : w.cell? ⟨b, o, none⟩ = some (.int .u8 255)) (hz0 : 1 < z) (hz : z ≤ 4096) :
    Calls Tryz.prog 18 #[.slice (some ⟨b, o, none⟩) 1 c, .int .i64 z] w fun e w' => ∃ g cap, e = .returned (.slice (some ⟨g, 0, none⟩) z z) ∧ Ob w' w.heap.size 5 g z cap (List.replicate z 255) ∧ Below w.heap.size w w' := by
  obtain ⟨cs, hrunM, hle, hmx⟩ := Lib.run_makeNoZero (P := Tryz.prog) w #[3] 38 5 Tryz.underlying38 z (by omega)
  have hcall : (callFunc 51 #[.int .i64 (z : Int)]).run Tryz.prog w = .ok (.value (.slice (some ⟨w.heap.size, 0, none⟩) z cs.size)) (w.drew.drew.alloc (.cells cs 5)) := by
    rw [run_callFunc_extern (P := Tryz.prog) (f := 51) (fn := Tryz.f51) (by kernel_rfl) (by kernel_rfl) (by kernel_rfl) (by kernel_rfl) (e := Extern.BytealgMakeNoZero.makeNoZero #[3] #[38]) (by kernel_rfl), hrunM]
    rfl
  clear hrunM
  have i1 : (z : Int) ≤ (cs.size : Int) := by omega
  have e0 : ((z : Int) == 0) = false := beq_eq_false_iff_ne.2 (by omega)
  have e1 : decide ((z : Int) < 0) = false := by simp
  have e2 : decide ((9223372036854775807 : Int) < (z : Int)) = false := by simp; omega
  have e3 : decide ((8192 : Int) < (z : Int)) = false := by simp; omega
  have hl := World.block_lt_of_cell? w ⟨b, o, none⟩ hc
  have hmx := hmx (by simp only [maxLen]; omega)
  have hsz : (Tryz.prog.info? 5).map (·.size) = some 1 := by kernel_rfl
  have hb0 : Blk (w.alloc (.cells cs 5)).drew.drew w.heap.size 5 cs := Blk.new w _ _
  have hp0 : Part (w.alloc (.cells cs 5)).drew.drew w.heap.size z 0 := ⟨cs, hb0, hle, hmx, Nat.zero_le _, fun j hj => by omega⟩
  have hbel0 : Below w.heap.size w (w.alloc (.cells cs 5)).drew.drew := ((Below.refl _ _).alloc (Nat.le_refl _) _).drew.drew
  have hc1 : (w.alloc (.cells cs 5)).drew.drew.cell? ⟨b, o, none⟩ = some (.int .u8 255) := (hbel0.cell (p := ⟨b, o, none⟩) hl).trans hc
  have HC := Lib.hid hc1
  have HP := Lib.hid hp0
  have HL := Lib.hid hbel0
  have HS := Lib.hid hsz
  clear hb0 hp0 hbel0 hc1 hsz hc
  go_enter Tryz.func18, Tryz.ntmps18
  go_wp2_with (first
    | (go_at_call 50; refine (mul_calls z _ (by omega)).mono ?_; rintro e w' ⟨rfl, rfl⟩)
    | ((with_reducible refine pick (some 60) ?_); refine wpList_copy_part rfl _ _ _ _ rfl 5 Tryz.underlying38 HS.out w.heap.size z 0 1 0 z z ⟨b, o, none⟩ 1 c rfl rfl HP.out rfl (by omega) (by omega) (one_cell HC.out) ?_; intro W hpw hgw))
  have hbw := HL.out.grown hgw (by simp) (by intro k hk; injection hk with hk; omega)
  clear hgw
  go_loopw [10, 11] (fun i _ wr => ∃ k : Nat, 1 ≤ k ∧ k ≤ z ∧ i = .int .i64 k ∧ Part wr w.heap.size z k ∧ Below w.heap.size w wr) (fun i _ _ => z - (intOf i).toNat)
  case atStart => exact ⟨1, by omega, by omega, rfl, hpw, hbw⟩
  case round =>
    clear hpw hbw
    obtain ⟨k, hk1, hk2, rfl, hpk, hbk⟩ := hrel
    by_cases hlt : k < z
    · have hmin : min (k : Int) (z : Int) = (k : Int) := by omega
      have hmin' : min k z = k := by omega
      have HPK := Lib.hid hpk
      have HBK := Lib.hid hbk
      clear hpk hbk
      have v0 : ¬ z = k := by omega
      go_wp2_with fail
      obtain ⟨m, hm⟩ : ∃ m, m = min k (z - k) := ⟨_, rfl⟩
      have hm1 : 1 ≤ m := by omega
      have hm2 : k + m ≤ z := by omega
      have HM := Lib.hid hm
      clear hm
      have HPD : Hid (Part wr.drew w.heap.size z k) := HPK
      have u1 : (0 : Int) ≤ (k : Int) := by omega
      have u2 : (k : Int) ≤ (z : Int) := by omega
      have v1 : IntKind.i64.wrap ((k : Int) + (m : Int)) = (k : Int) + (m : Int) := IntWalk.i64_in _ (by omega)
      go_region_law ((refine step_copy_part rfl (.tmp 70) (.tmp 73) _ _ rfl 5 Tryz.underlying38 HS.out w.heap.size z k m k (z - k) (z - k) ⟨w.heap.size, 0, none⟩ k z (by simp [Act.eval, Act.put]) (by simp [Act.eval, Act.put]) HPD.out rfl HM.out hm2 (HPD.out.cells m (by have := HM.out; omega)) ?_; intro w2 hp2 hg2))
      clear v1
      have hb2 : Below w.heap.size w w2 := (HBK.out).drew.grown hg2 HBK.out.size (by intro k hk; injection hk with hk; omega)
      have HP2 := Lib.hid hp2
      have HB2 := Lib.hid hb2
      clear hp2 hg2 hb2
      go_wp2
      go_roundw
      case rel => exact ⟨.int .i64 ((k : Int) + (m : Int)), _, _, _, _, _, _, _, _, _, _, _, _, _, _, _, _, ⟨k + m, by omega, by omega, by go_num, HP2.out, HB2.out⟩, rfl⟩
      case measure =>
        show z - (intOf (Value.int .i64 ((k : Int) + (m : Int)))).toNat < z - (intOf (Value.int .i64 (k : Int))).toNat
        simp [intOf]
        omega
    · obtain rfl : k = z := by omega
      go_wp2
      go_ret
      obtain ⟨cap, ho⟩ := hpk.done (Nat.le_refl w.heap.size)
      exact ⟨_, cap, rfl, ho, hbk⟩
end Go.Proofs.YthbafcihmcjchaaGreatDoor.NorN
