/- The contract of the document's Program. -/
import Derived.Test.YtdcmpkohengnaaaNorX
import Derived.Deep.Cut
import Derived.Deep.RegionLaw
namespace Go.Proofs.Ytdcmpkohengnaaa.NorY
set_option linter.unusedVariables false
set_option linter.unusedSimpArgs false
open Go.RowKit
open Go.Proofs.Ytdcmpkohengnaaa.Byte Go.Proofs.Ytdcmpkohengnaaa.NorD Go.Proofs.Ytdcmpkohengnaaa.NorM Go.Proofs.Ytdcmpkohengnaaa.NorS Go.Proofs.Ytdcmpkohengnaaa.NorB Go.Proofs.Ytdcmpkohengnaaa.NorP Go.Proofs.Ytdcmpkohengnaaa.NorR Go.Proofs.Ytdcmpkohengnaaa.NorU Go.Proofs.Ytdcmpkohengnaaa.NorV Go.Proofs.Ytdcmpkohengnaaa.NorX Go.Proofs.Ytdcmpkohengnaaa.PlaceM Go.Proofs.Ytdcmpkohengnaaa.PlaceV

/-- The world behind the box of the receiver and the result's variable. -/
structure BX (w W : World) (c : Array Value) : Prop where
  box : Blk W w.heap.size 35 c
  res : Blk W (w.heap.size + 1) 35 zeroRef
  bel : Below w.heap.size w W
theorem BX.of (w : World) (c : Array Value) : BX w ((w.alloc (.cells c 35)).alloc (.cells zeroRef 35)) c :=
  ⟨(Blk.new w _ _).alloc _, by
    have := Blk.new (w.alloc (.cells c 35)) 35 zeroRef
    simpa using this, two_allocs w _ _⟩
theorem BX.below {w W W' : World} {c : Array Value} (h : BX w W c) (hb : Below W.heap.size W W') : BX w W' c :=
  ⟨h.box.of_eq (hb.block _ h.box.lt), h.res.of_eq (hb.block _ h.res.lt), h.bel.trans (hb.mono h.bel.size)⟩
theorem BX.drew {w W : World} {c : Array Value} (h : BX w W c) : BX w W.drew c := ⟨h.box, h.res, h.bel.drew⟩
theorem BX.lt {w W : World} {c : Array Value} (h : BX w W c) : w.heap.size + 1 < W.heap.size := h.res.lt
theorem twelveZ {w : World} {g : Nat} (h : Blk w g 35 zeroRef) :
    w.cell? ⟨g, 0, none⟩ = some (.int .i64 0) ∧ w.cell? ⟨g, 1, none⟩ = some (.int .i64 0) ∧ w.cell? ⟨g, 2, none⟩ = some (.slice none 0 0) ∧ w.cell? ⟨g, 3, none⟩ = some (.slice none 0 0) ∧ w.cell? ⟨g, 4, none⟩ = some (.slice none 0 0) ∧ w.cell? ⟨g, 5, none⟩ = some (.bool false) ∧
    w.cell? ⟨g, 6, none⟩ = some (.int .i64 0) ∧ w.cell? ⟨g, 7, none⟩ = some (.int .i64 0) ∧ w.cell? ⟨g, 8, none⟩ = some (.bool false) ∧ w.cell? ⟨g, 9, none⟩ = some (.int .i64 0) ∧ w.cell? ⟨g, 10, none⟩ = some (.int .i64 0) ∧ w.cell? ⟨g, 11, none⟩ = some (.int .u8 0) ∧
    w.frozen? ⟨g, 0, none⟩ = false ∧ w.frozen? ⟨g, 1, none⟩ = false ∧ w.frozen? ⟨g, 2, none⟩ = false ∧ w.frozen? ⟨g, 3, none⟩ = false ∧ w.frozen? ⟨g, 4, none⟩ = false ∧ w.frozen? ⟨g, 5, none⟩ = false ∧ w.frozen? ⟨g, 6, none⟩ = false ∧ w.frozen? ⟨g, 7, none⟩ = false ∧ w.frozen? ⟨g, 8, none⟩ = false ∧ w.frozen? ⟨g, 9, none⟩ = false ∧ w.frozen? ⟨g, 10, none⟩ = false ∧ w.frozen? ⟨g, 11, none⟩ = false :=
  ⟨h.cell 0, h.cell 1, h.cell 2, h.cell 3, h.cell 4, h.cell 5, h.cell 6, h.cell 7, h.cell 8, h.cell 9, h.cell 10, h.cell 11, h.frozen 0, h.frozen 1, h.frozen 2, h.frozen 3, h.frozen 4, h.frozen 5, h.frozen 6, h.frozen 7, h.frozen 8, h.frozen 9, h.frozen 10, h.frozen 11⟩
theorem stored12_c (w : World) (g : Nat) (c0 c1 c2 c3 c4 c5 c6 c7 c8 c9 c10 c11 : Value) : Chg (fun q => q = g) w ((((((((((((w.setCell ⟨g, 0, none⟩ c0).setCell ⟨g, 1, none⟩ c1).setCell ⟨g, 2, none⟩ c2).setCell ⟨g, 3, none⟩ c3).setCell ⟨g, 4, none⟩ c4).setCell ⟨g, 5, none⟩ c5).setCell ⟨g, 6, none⟩ c6).setCell ⟨g, 7, none⟩ c7).setCell ⟨g, 8, none⟩ c8).setCell ⟨g, 9, none⟩ c9).setCell ⟨g, 10, none⟩ c10).setCell ⟨g, 11, none⟩ c11) :=
  (((((((((((((Chg.refl (fun q => q = g) w).own 0 c0).own 1 c1).own 2 c2).own 3 c3).own 4 c4).own 5 c5).own 6 c6).own 7 c7).own 8 c8).own 9 c9).own 10 c10).own 11 c11)
set_option maxRecDepth 100000 in
set_option maxHeartbeats 2000000 in
theorem stored12_b {w : World} {g : Nat} (h : Blk w g 35 zeroRef) (c0 c1 c2 c3 c4 c5 c6 c7 c8 c9 c10 c11 : Value) : Blk ((((((((((((w.setCell ⟨g, 0, none⟩ c0).setCell ⟨g, 1, none⟩ c1).setCell ⟨g, 2, none⟩ c2).setCell ⟨g, 3, none⟩ c3).setCell ⟨g, 4, none⟩ c4).setCell ⟨g, 5, none⟩ c5).setCell ⟨g, 6, none⟩ c6).setCell ⟨g, 7, none⟩ c7).setCell ⟨g, 8, none⟩ c8).setCell ⟨g, 9, none⟩ c9).setCell ⟨g, 10, none⟩ c10).setCell ⟨g, 11, none⟩ c11) g 35 #[c0, c1, c2, c3, c4, c5, c6, c7, c8, c9, c10, c11] := by
  have hb := ((((((((((((h.set_ 0 c0).set_ 1 c1).set_ 2 c2).set_ 3 c3).set_ 4 c4).set_ 5 c5).set_ 6 c6).set_ 7 c7).set_ 8 c8).set_ 9 c9).set_ 10 c10).set_ 11 c11)
  simpa [zeroRef] using hb
theorem stored12 {w : World} {g : Nat} (h : Blk w g 35 zeroRef) (c0 c1 c2 c3 c4 c5 c6 c7 c8 c9 c10 c11 : Value) :
    Blk ((((((((((((w.setCell ⟨g, 0, none⟩ c0).setCell ⟨g, 1, none⟩ c1).setCell ⟨g, 2, none⟩ c2).setCell ⟨g, 3, none⟩ c3).setCell ⟨g, 4, none⟩ c4).setCell ⟨g, 5, none⟩ c5).setCell ⟨g, 6, none⟩ c6).setCell ⟨g, 7, none⟩ c7).setCell ⟨g, 8, none⟩ c8).setCell ⟨g, 9, none⟩ c9).setCell ⟨g, 10, none⟩ c10).setCell ⟨g, 11, none⟩ c11) g 35 #[c0, c1, c2, c3, c4, c5, c6, c7, c8, c9, c10, c11] ∧ Chg (fun q => q = g) w ((((((((((((w.setCell ⟨g, 0, none⟩ c0).setCell ⟨g, 1, none⟩ c1).setCell ⟨g, 2, none⟩ c2).setCell ⟨g, 3, none⟩ c3).setCell ⟨g, 4, none⟩ c4).setCell ⟨g, 5, none⟩ c5).setCell ⟨g, 6, none⟩ c6).setCell ⟨g, 7, none⟩ c7).setCell ⟨g, 8, none⟩ c8).setCell ⟨g, 9, none⟩ c9).setCell ⟨g, 10, none⟩ c10).setCell ⟨g, 11, none⟩ c11) :=
  ⟨stored12_b h c0 c1 c2 c3 c4 c5 c6 c7 c8 c9 c10 c11, stored12_c w g c0 c1 c2 c3 c4 c5 c6 c7 c8 c9 c10 c11⟩
/-- The result's variable was written. -/
theorem BX.done {w W W' : World} {c : Array Value} (h : BX w W c) (hg : Chg (fun q => q = w.heap.size + 1) W W') : Below w.heap.size w W' := h.bel.trans (hg.below h.bel.size (fun k hk => by omega))

section
variable {lo n z K : Nat} {s : St}
set_option maxRecDepth 100000 in
set_option maxHeartbeats 1000000 in
theorem refProgram_off (w : World) (v : Value) (h : Ref w lo n z K s v) (x y : Nat) (A : Option Addr) (m cb : Nat) (hon : s.on = false) :
    Calls Try.prog 31 #[v, .complex .f64 x y, .slice A m cb] w fun e w' => ∃ v', e = .returned (.tuple #[.int .i64 7, v']) ∧ Ref w' lo n z K s v' ∧ Below w.heap.size w w' := by
  obtain ⟨db, dc, wb, wc, bb, bc, cuts, left, whole, mask, L, LC, rfl, hP, hr⟩ := h
  have HP := Lib.hid hP
  have HR := Lib.hid hr
  have hg := hP.geo
  have HX := Lib.hid (BX.of w (rc n z db dc wb wc bb bc (!s.on) s.offs s.acts cuts left whole mask))
  clear hP hr
  unfold refVal
  have HON := Lib.hid hon
  rw [hon] at HX ⊢
  clear hon
  go_enter Try.func31, Try.ntmps31
  go_upto_region 1 with (fail)
  change Code.wp _ _ _ _ ((w.alloc (.cells (rc n z db dc wb wc bb bc (!false) s.offs s.acts cuts left whole mask) 35)).alloc (.cells zeroRef 35))
  generalize (w.alloc (.cells (rc n z db dc wb wc bb bc (!false) s.offs s.acts cuts left whole mask) 35)).alloc (.cells zeroRef 35) = W at *
  obtain ⟨t0, t1, t2, t3, t4, t5, t6, t7, t8, t9, t10, t11⟩ := twelve HX.out.box
  go_wp2_with fail
  go_still_tail 2, (by kernel_rfl)
  change wpList _ _ _ _ _ W.drew
  clear t0 t1 t2 t3 t4 t5 t6 t7 t8 t9 t10 t11
  go_wp2_with ((with_reducible refine pick none ?_); refine wpList_store_blk rfl 35 _ _ rfl (w.heap.size + 1) (rc n z db dc wb wc bb bc (!false) s.offs s.acts cuts left whole mask) rfl rfl 35 zeroRef HX.out.drew.res info_ref rfl (rc_one _ _ _ _ _ _ _ _ _ _ _ _ _ _ _) ?_; intro w4 hb4 hg4)
  refine bodyPost_ret (v := .tuple #[.int .i64 7, .agg (rc n z db dc wb wc bb bc (!false) s.offs s.acts cuts left whole mask)]) ?_ rfl ⟨_, rfl, Ref.of (by rw [refVal, HON.out]; rfl) (HP.out.below (HX.out.drew.done hg4)) HR.out, HX.out.drew.done hg4⟩
  exact results_tmp_row (fn := Try.f31) rfl _ _ (w.heap.size + 1) 35 _ (0, 0) _ rfl hb4 Try.underlying35 rfl info_ref
set_option maxRecDepth 100000 in
set_option maxHeartbeats 1000000 in
theorem refProgram_none (w : World) (v : Value) (h : Ref w lo n z K s v) (x y : Nat) (A : Option Addr) (cb : Nat) (hon : s.on = true) :
    Calls Try.prog 31 #[v, .complex .f64 x y, .slice A 0 cb] w fun e w' => ∃ v', e = .returned (.tuple #[.int .i64 1, v']) ∧ Ref w' lo n z K s v' ∧ Below w.heap.size w w' := by
  obtain ⟨db, dc, wb, wc, bb, bc, cuts, left, whole, mask, L, LC, rfl, hP, hr⟩ := h
  have HP := Lib.hid hP
  have HR := Lib.hid hr
  have hg := hP.geo
  have HX := Lib.hid (BX.of w (rc n z db dc wb wc bb bc (!s.on) s.offs s.acts cuts left whole mask))
  clear hP hr
  unfold refVal
  have HON := Lib.hid hon
  rw [hon] at HX ⊢
  clear hon
  go_enter Try.func31, Try.ntmps31
  go_upto_region 1 with (fail)
  change Code.wp _ _ _ _ ((w.alloc (.cells (rc n z db dc wb wc bb bc (!true) s.offs s.acts cuts left whole mask) 35)).alloc (.cells zeroRef 35))
  generalize (w.alloc (.cells (rc n z db dc wb wc bb bc (!true) s.offs s.acts cuts left whole mask) 35)).alloc (.cells zeroRef 35) = W at *
  obtain ⟨t0, t1, t2, t3, t4, t5, t6, t7, t8, t9, t10, t11⟩ := twelve HX.out.box
  go_wp2_with fail
  go_still_tail 2, (by kernel_rfl)
  change wpList _ _ _ _ _ W.drew
  clear t0 t1 t2 t3 t4 t5 t6 t7 t8 t9 t10 t11
  go_wp2_with ((with_reducible refine pick none ?_); refine wpList_store_blk rfl 35 _ _ rfl (w.heap.size + 1) (rc n z db dc wb wc bb bc (!true) s.offs s.acts cuts left whole mask) rfl rfl 35 zeroRef HX.out.drew.res info_ref rfl (rc_one _ _ _ _ _ _ _ _ _ _ _ _ _ _ _) ?_; intro w4 hb4 hg4)
  refine bodyPost_ret (v := .tuple #[.int .i64 1, .agg (rc n z db dc wb wc bb bc (!true) s.offs s.acts cuts left whole mask)]) ?_ rfl ⟨_, rfl, Ref.of (by rw [refVal, HON.out]; rfl) (HP.out.below (HX.out.drew.done hg4)) HR.out, HX.out.drew.done hg4⟩
  exact results_tmp_row (fn := Try.f31) rfl _ _ (w.heap.size + 1) 35 _ (0, 0) _ rfl hb4 Try.underlying35 rfl info_ref
set_option maxRecDepth 100000 in
set_option maxHeartbeats 1000000 in
theorem refProgram_arg (w : World) (v : Value) (h : Ref w lo n z K s v) (x y : Nat) (A : Option Addr) (m cb : Nat) (hon : s.on = true) (hm0 : 0 < m) (hm1 : m ≤ 140737488355328) (hx : rt x = true) (hy : rt y = true) (hin : inside n z (nm x) (nm y) m = false) :
    Calls Try.prog 31 #[v, .complex .f64 x y, .slice A m cb] w fun e w' => ∃ v', e = .returned (.tuple #[.int .i64 1, v']) ∧ Ref w' lo n z K s v' ∧ Below w.heap.size w w' := by
  obtain ⟨db, dc, wb, wc, bb, bc, cuts, left, whole, mask, L, LC, rfl, hP, hr⟩ := h
  have HP := Lib.hid hP
  have HR := Lib.hid hr
  have hg := hP.geo
  have HX := Lib.hid (BX.of w (rc n z db dc wb wc bb bc (!s.on) s.offs s.acts cuts left whole mask))
  clear hP hr
  unfold refVal
  have HON := Lib.hid hon
  rw [hon] at HX ⊢
  have e0 : ((m : Int) == 0) = false := beq_eq_false_iff_ne.2 (by omega)
  have HW := Lib.hid (fun w => refWithin_calls (n := n) (z := z) x y m w hx hy (by omega) (by omega) hg.2.1 hg.2.2.2)
  rw [hin] at HW
  clear hin
  clear hon
  go_enter Try.func31, Try.ntmps31
  go_upto_region 1 with (fail)
  change Code.wp _ _ _ _ ((w.alloc (.cells (rc n z db dc wb wc bb bc (!true) s.offs s.acts cuts left whole mask) 35)).alloc (.cells zeroRef 35))
  generalize (w.alloc (.cells (rc n z db dc wb wc bb bc (!true) s.offs s.acts cuts left whole mask) 35)).alloc (.cells zeroRef 35) = W at *
  obtain ⟨t0, t1, t2, t3, t4, t5, t6, t7, t8, t9, t10, t11⟩ := twelve HX.out.box
  go_wp2_with (go_at_call 33; refine (HW.out _).mono ?_; rintro e W2 ⟨rfl, hb2⟩; clear t0 t1 t2 t3 t4 t5 t6 t7 t8 t9 t10 t11; have HX2 := Lib.hid (HX.out.below hb2); have HB2 := Lib.hid (HX.out.bel.trans (hb2.mono HX.out.bel.size)); clear hb2; obtain ⟨t0, t1, t2, t3, t4, t5, t6, t7, t8, t9, t10, t11⟩ := twelve HX2.out.box)
  go_still_tail 2, (by kernel_rfl)
  change wpList _ _ _ _ _ W2.drew
  clear t0 t1 t2 t3 t4 t5 t6 t7 t8 t9 t10 t11
  go_wp2_with ((with_reducible refine pick none ?_); refine wpList_store_blk rfl 35 _ _ rfl (w.heap.size + 1) (rc n z db dc wb wc bb bc (!true) s.offs s.acts cuts left whole mask) rfl rfl 35 zeroRef HX2.out.drew.res info_ref rfl (rc_one _ _ _ _ _ _ _ _ _ _ _ _ _ _ _) ?_; intro w4 hb4 hg4)
  refine bodyPost_ret (v := .tuple #[.int .i64 1, .agg (rc n z db dc wb wc bb bc (!true) s.offs s.acts cuts left whole mask)]) ?_ rfl ⟨_, rfl, Ref.of (by rw [refVal, HON.out]; rfl) (HP.out.below (HX2.out.drew.done hg4)) HR.out, HX2.out.drew.done hg4⟩
  exact results_tmp_row (fn := Try.f31) rfl _ _ (w.heap.size + 1) 35 _ (0, 0) _ rfl hb4 Try.underlying35 rfl info_ref
set_option maxRecDepth 100000 in
set_option maxHeartbeats 1000000 in
theorem refProgram_bad (w : World) (v : Value) (h : Ref w lo n z K s v) (x y : Nat) (A : Option Addr) (m cb i off : Nat) (hon : s.on = true) (hm0 : 0 < m) (hm1 : m ≤ 140737488355328) (hx : rt x = true) (hy : rt y = true) (hi' : nm x = i) (ho : nm y = off) (hin : inside n z i off m = true) (hbad : s.bad.getD i false = true) :
    Calls Try.prog 31 #[v, .complex .f64 x y, .slice A m cb] w fun e w' => ∃ v', e = .returned (.tuple #[.int .i64 8, v']) ∧ Ref w' lo n z K s v' ∧ Below w.heap.size w w' := by
  obtain ⟨db, dc, wb, wc, bb, bc, cuts, left, whole, mask, L, LC, rfl, hP, hr⟩ := h
  have HP := Lib.hid hP
  have HR := Lib.hid hr
  have hg := hP.geo
  have HX := Lib.hid (BX.of w (rc n z db dc wb wc bb bc (!s.on) s.offs s.acts cuts left whole mask))
  clear hP hr
  unfold refVal
  have HON := Lib.hid hon
  rw [hon] at HX ⊢
  have e0 : ((m : Int) == 0) = false := beq_eq_false_iff_ne.2 (by omega)
  have HW := Lib.hid (fun w => refWithin_calls (n := n) (z := z) x y m w hx hy (by omega) (by omega) hg.2.1 hg.2.2.2)
  rw [hi', ho, hin] at HW
  have HS := Lib.hid (fun w => sector_calls x y w hx)
  have HO := Lib.hid (fun w => offset_calls x y w hy)
  rw [hi'] at HS
  rw [ho] at HO
  have hin2 : i < n := by
    have := (inside_yes hin).2.1
    omega
  have hin3 : off + m ≤ z := by
    have := inside_yes hin
    omega
  clear hin hi' ho
  clear hon
  go_enter Try.func31, Try.ntmps31
  go_upto_region 1 with (fail)
  change Code.wp _ _ _ _ ((w.alloc (.cells (rc n z db dc wb wc bb bc (!true) s.offs s.acts cuts left whole mask) 35)).alloc (.cells zeroRef 35))
  generalize (w.alloc (.cells (rc n z db dc wb wc bb bc (!true) s.offs s.acts cuts left whole mask) 35)).alloc (.cells zeroRef 35) = W at *
  obtain ⟨t0, t1, t2, t3, t4, t5, t6, t7, t8, t9, t10, t11⟩ := twelve HX.out.box
  have HBAD := Lib.hid hbad
  clear hbad
  go_wp2_with (first
    | (go_at_call 33; refine (HW.out _).mono ?_; rintro e W2 ⟨rfl, hb2⟩; clear t0 t1 t2 t3 t4 t5 t6 t7 t8 t9 t10 t11; have HX2 := Lib.hid (HX.out.below hb2); have HB2 := Lib.hid (HX.out.bel.trans (hb2.mono HX.out.bel.size)); clear hb2; obtain ⟨t0, t1, t2, t3, t4, t5, t6, t7, t8, t9, t10, t11⟩ := twelve HX2.out.box; have kb := (HP.out.below HB2.out).bad.cell hin2; rw [HBAD.out] at kb; have lb := (HP.out.below HB2.out).bad.lt)
    | (go_at_call 35; refine (HS.out _).mono ?_; rintro e w' ⟨rfl, rfl⟩))
  clear kb lb
  go_still_tail 2, (by kernel_rfl)
  change wpList _ _ _ _ _ W2.drew
  clear t0 t1 t2 t3 t4 t5 t6 t7 t8 t9 t10 t11
  go_wp2_with ((with_reducible refine pick none ?_); refine wpList_store_blk rfl 35 _ _ rfl (w.heap.size + 1) (rc n z db dc wb wc bb bc (!true) s.offs s.acts cuts left whole mask) rfl rfl 35 zeroRef HX2.out.drew.res info_ref rfl (rc_one _ _ _ _ _ _ _ _ _ _ _ _ _ _ _) ?_; intro w4 hb4 hg4)
  refine bodyPost_ret (v := .tuple #[.int .i64 8, .agg (rc n z db dc wb wc bb bc (!true) s.offs s.acts cuts left whole mask)]) ?_ rfl ⟨_, rfl, Ref.of (by rw [refVal, HON.out]; rfl) (HP.out.below (HX2.out.drew.done hg4)) HR.out, HX2.out.drew.done hg4⟩
  exact results_tmp_row (fn := Try.f31) rfl _ _ (w.heap.size + 1) 35 _ (0, 0) _ rfl hb4 Try.underlying35 rfl info_ref
set_option maxRecDepth 100000 in
set_option maxHeartbeats 1000000 in
theorem refProgram_ok (w : World) (v : Value) (h : Ref w lo n z K s v) (x y : Nat) (A : Option Addr) (m cb i off : Nat) (bs : List Int) (hb : Bs w A m bs) (hlo : lo ≤ w.heap.size) (hK : K + 2 ≤ 1000000) (hon : s.on = true) (hm0 : 0 < m) (hm1 : m ≤ 100000) (hx : rt x = true) (hy : rt y = true) (hi' : nm x = i) (ho : nm y = off) (hin : inside n z i off m = true) (hbad : s.bad.getD i false = false) :
    Calls Try.prog 31 #[v, .complex .f64 x y, .slice A m cb] w fun e w' => ∃ v', e = .returned (.tuple #[.int .i64 (s.act i true off bs).1, v']) ∧ Ref w' lo n z (K + 1) (s.act i true off bs).2 v' ∧ Below w.heap.size w w' := by
  obtain ⟨db, dc, wb, wc, bb, bc, cuts, left, whole, mask, L, LC, rfl, hP, hr⟩ := h
  have HP := Lib.hid hP
  have HR := Lib.hid hr
  have hg := hP.geo
  have HX := Lib.hid (BX.of w (rc n z db dc wb wc bb bc (!s.on) s.offs s.acts cuts left whole mask))
  clear hP hr
  unfold refVal
  have HON := Lib.hid hon
  rw [hon] at HX ⊢
  have e0 : ((m : Int) == 0) = false := beq_eq_false_iff_ne.2 (by omega)
  have HW := Lib.hid (fun w => refWithin_calls (n := n) (z := z) x y m w hx hy (by omega) (by omega) hg.2.1 hg.2.2.2)
  rw [hi', ho, hin] at HW
  have HS := Lib.hid (fun w => sector_calls x y w hx)
  have HO := Lib.hid (fun w => offset_calls x y w hy)
  rw [hi'] at HS
  rw [ho] at HO
  have hin2 : i < n := by
    have := (inside_yes hin).2.1
    omega
  have hin3 : off + m ≤ z := by
    have := inside_yes hin
    omega
  clear hin hi' ho
  clear hon
  go_enter Try.func31, Try.ntmps31
  go_upto_region 1 with (fail)
  change Code.wp _ _ _ _ ((w.alloc (.cells (rc n z db dc wb wc bb bc (!true) s.offs s.acts cuts left whole mask) 35)).alloc (.cells zeroRef 35))
  generalize (w.alloc (.cells (rc n z db dc wb wc bb bc (!true) s.offs s.acts cuts left whole mask) 35)).alloc (.cells zeroRef 35) = W at *
  obtain ⟨t0, t1, t2, t3, t4, t5, t6, t7, t8, t9, t10, t11⟩ := twelve HX.out.box
  have HBAD := Lib.hid hbad
  have HB := Lib.hid hb
  clear hbad hb
  go_wp2_with (first
    | (go_at_call 33; refine (HW.out _).mono ?_; rintro e W2 ⟨rfl, hb2⟩; clear t0 t1 t2 t3 t4 t5 t6 t7 t8 t9 t10 t11; have HX2 := Lib.hid (HX.out.below hb2); have HB2 := Lib.hid (HX.out.bel.trans (hb2.mono HX.out.bel.size)); clear hb2; obtain ⟨t0, t1, t2, t3, t4, t5, t6, t7, t8, t9, t10, t11⟩ := twelve HX2.out.box; have kb := (HP.out.below HB2.out).bad.cell hin2; rw [HBAD.out] at kb; have lb := (HP.out.below HB2.out).bad.lt)
    | (go_at_call 35; refine (HS.out _).mono ?_; rintro e w' ⟨rfl, rfl⟩))
  clear kb lb
  have hb2' : Bs W2.drew A m bs := HB.out.below HB2.out.drew
  have hA : Calls Try.prog 49 #[.agg (rc n z db dc wb wc bb bc (!true) s.offs s.acts cuts left whole mask), .int .i64 i, .int .i64 off, .slice A m cb, .bool true] W2.drew (fun e w' => ∃ v', e = .returned (.tuple #[.int .i64 (s.act i true off bs).1, v']) ∧ Ref w' lo n z (K + 1) (s.act i true off bs).2 v' ∧ Below W2.drew.heap.size W2.drew w') :=
    refAct_calls W2.drew (.agg (rc n z db dc wb wc bb bc (!true) s.offs s.acts cuts left whole mask)) (Ref.of (by rw [refVal, HON.out]; rfl) (HP.out.below HB2.out.drew) HR.out) i hin2 off m cb A bs true hb2' hm1 hin3 (by have := HB2.out.size; exact Nat.le_trans hlo this) hK HON.out
  have HA := Lib.hid hA
  clear hA hb2'
  go_region_law (first
    | (go_simp; go_at_call 34; refine (HO.out _).mono ?_; rintro e w' ⟨rfl, rfl⟩; try dsimp only)
    | (go_simp; go_at_call 49; refine (HA.out).mono ?_; rintro e w5 ⟨v', rfl, ⟨db', dc', wb', wc', bb', bc', cuts', left', whole', mask', L', LC', rfl, hP5, hr5⟩, hb5⟩; have HX5 := Lib.hid (HX2.out.drew.below hb5); have HP5 := Lib.hid hP5; have HR5 := Lib.hid hr5; have HBB5 := Lib.hid hb5; clear hP5 hr5 hb5; clear t0 t1 t2 t3 t4 t5 t6 t7 t8 t9 t10 t11; obtain ⟨z0, z1, z2, z3, z4, z5, z6, z7, z8, z9, z10, z11, f0, f1, f2, f3, f4, f5, f6, f7, f8, f9, f10, f11⟩ := twelveZ HX5.out.res; unfold refVal; try dsimp only))
  all_goals
    have hp6 := fun c0 c1 c2 c3 c4 c5 c6 c7 c8 c9 c10 c11 => stored12 HX5.out.res c0 c1 c2 c3 c4 c5 c6 c7 c8 c9 c10 c11
    have HS6 := Lib.hid hp6
    clear hp6 z0 z1 z2 z3 z4 z5 z6 z7 z8 z9 z10 z11 f0 f1 f2 f3 f4 f5 f6 f7 f8 f9 f10 f11
    go_wp2_with fail
    refine bodyPost_ret (v := .tuple #[.int .i64 (s.act i true off bs).1, .agg (rc n z db' dc' wb' wc' bb' bc' (!(s.act i true off bs).2.on) (s.act i true off bs).2.offs (s.act i true off bs).2.acts cuts' left' whole' mask')]) ?_ rfl ⟨_, rfl, Ref.of rfl (RefP.other HP5.out HX5.out.res (HS6.out _ _ _ _ _ _ _ _ _ _ _ _).2) HR5.out, HX5.out.done (HS6.out _ _ _ _ _ _ _ _ _ _ _ _).2⟩
    exact results_tmp_row (fn := Try.f31) rfl _ _ (w.heap.size + 1) 35 _ (0, 0) _ rfl (HS6.out _ _ _ _ _ _ _ _ _ _ _ _).1 Try.underlying35 rfl info_ref
theorem refProgram_calls (w : World) (v : Value) (h : Ref w lo n z K s v) (x y : Nat) (A : Option Addr) (m cb i off : Nat) (bs : List Int) (hb : Bs w A m bs) (hlo : lo ≤ w.heap.size) (hK : K + 2 ≤ 1000000) (hm1 : m ≤ 100000) (hx : rt x = true) (hy : rt y = true) (hi' : nm x = i) (ho : nm y = off) :
    Calls Try.prog 31 #[v, .complex .f64 x y, .slice A m cb] w fun e w' => ∃ v', e = .returned (.tuple #[.int .i64 (s.program n z i off bs).1, v']) ∧ Ref w' lo n z (K + 1) (s.program n z i off bs).2 v' ∧ Below w.heap.size w w' := by
  have hl := hb.len
  have stay : ∀ w' v', Ref w' lo n z K s v' → Ref w' lo n z (K + 1) s v' := fun w' v' h => h.more (by omega) (by omega)
  by_cases hon : s.on = false
  · have e : s.program n z i off bs = (7, s) := by unfold St.program; rw [if_pos hon]
    rw [e]
    exact (refProgram_off w v h x y A m cb hon).mono fun e w' ⟨v', he, hv, hw⟩ => ⟨v', he, stay _ _ hv, hw⟩
  · have hon' : s.on = true := by simpa using hon
    by_cases hm0 : m = 0
    · subst hm0
      have e : s.program n z i off bs = (1, s) := by unfold St.program; rw [if_neg hon, if_pos (.inl hl)]
      rw [e]
      exact (refProgram_none w v h x y A cb hon').mono fun e w' ⟨v', he, hv, hw⟩ => ⟨v', he, stay _ _ hv, hw⟩
    · cases hin : inside n z i off m with
      | false =>
        have e : s.program n z i off bs = (1, s) := by unfold St.program; rw [if_neg hon, if_pos (.inr (by rw [hl]; exact hin))]
        rw [e]
        exact (refProgram_arg w v h x y A m cb hon' (by omega) (by omega) hx hy (by rw [hi', ho]; exact hin)).mono fun e w' ⟨v', he, hv, hw⟩ => ⟨v', he, stay _ _ hv, hw⟩
      | true =>
        have hne : ¬ (bs.length = 0 ∨ inside n z i off bs.length = false) := by rw [hl, hin]; simp [hm0]
        cases hbad : s.bad.getD i false with
        | true =>
          have e : s.program n z i off bs = (8, s) := by unfold St.program; rw [if_neg hon, if_neg hne, if_pos hbad]
          rw [e]
          exact (refProgram_bad w v h x y A m cb i off hon' (by omega) (by omega) hx hy hi' ho hin hbad).mono fun e w' ⟨v', he, hv, hw⟩ => ⟨v', he, stay _ _ hv, hw⟩
        | false =>
          have e : s.program n z i off bs = s.act i true off bs := by unfold St.program; rw [if_neg hon, if_neg hne, if_neg (by rw [hbad]; decide)]
          rw [e]
          exact refProgram_ok w v h x y A m cb i off bs hb hlo hK hon' (by omega) hm1 hx hy hi' ho hin hbad
end
end Go.Proofs.Ytdcmpkohengnaaa.NorY
