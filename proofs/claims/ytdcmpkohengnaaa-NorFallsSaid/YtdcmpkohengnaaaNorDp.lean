/- Do, On and Erase. -/
import Derived.Test.YtdcmpkohengnaaaNorDo
namespace Go.Proofs.Ytdcmpkohengnaaa.NorDp
set_option linter.unusedVariables false
set_option linter.unusedSimpArgs false
open Go.RowKit
open Go.Proofs.Ytdcmpkohengnaaa.Byte Go.Proofs.Ytdcmpkohengnaaa.NorD Go.Proofs.Ytdcmpkohengnaaa.NorM Go.Proofs.Ytdcmpkohengnaaa.NorS Go.Proofs.Ytdcmpkohengnaaa.NorF Go.Proofs.Ytdcmpkohengnaaa.NorH Go.Proofs.Ytdcmpkohengnaaa.NorB Go.Proofs.Ytdcmpkohengnaaa.NorP Go.Proofs.Ytdcmpkohengnaaa.NorR Go.Proofs.Ytdcmpkohengnaaa.NorU Go.Proofs.Ytdcmpkohengnaaa.NorV Go.Proofs.Ytdcmpkohengnaaa.NorX Go.Proofs.Ytdcmpkohengnaaa.NorY Go.Proofs.Ytdcmpkohengnaaa.NorZ Go.Proofs.Ytdcmpkohengnaaa.NorI Go.Proofs.Ytdcmpkohengnaaa.NorJ Go.Proofs.Ytdcmpkohengnaaa.NorK Go.Proofs.Ytdcmpkohengnaaa.NorL Go.Proofs.Ytdcmpkohengnaaa.NorDo Go.Proofs.Ytdcmpkohengnaaa.PlaceM Go.Proofs.Ytdcmpkohengnaaa.PlaceV

theorem RefP.up {w : World} {rl n z K : Nat} {s : St} {db wb bb : Nat} {cuts : Bool} {left whole mask : Int} {L LC : Nat → Nat} (h : RefP w rl n z K s db wb bb cuts left whole mask L LC) : RefP w rl n z K s.up db wb bb cuts left whole mask L LC :=
  ⟨h.data, h.wear, h.bad, h.rows, h.cut, h.fits.up, h.geo, h.lw, h.big⟩
theorem DX.core {w W : World} {lo hi : Nat} {c oc : Array Value} (h : DX w W lo hi c oc) (k : Nat) (u : Value) : DX w (W.setCell ⟨w.heap.size, k, none⟩ u) lo hi (c.setIfInBounds k u) oc :=
  ⟨h.box.set_ k u, h.op.far (p := ⟨w.heap.size, k, none⟩) (by show w.heap.size + 1 ≠ w.heap.size; omega) _, h.res.far (p := ⟨w.heap.size, k, none⟩) (by show w.heap.size + 1 + 1 ≠ w.heap.size; omega) _, h.chg.setCell (p := ⟨w.heap.size, k, none⟩) (.inr (Nat.le_refl _)) _⟩
section
variable {lo hi d rl n z K : Nat} {D R : St}
set_option maxRecDepth 100000 in
set_option maxHeartbeats 1000000 in
theorem do_on (w : World) (v : Value) (hD : Dev w lo hi d n z K D) (hR : Ref w rl n z K R v) (hh : hi ≤ rl) (hl : rl ≤ w.heap.size) (hK : K + 3 ≤ 1000000) (se off : Int) (B : Option Addr) (bl bq : Nat) (nn kk mm : Int) :
    Calls Try.prog 12 #[.pointer (some ⟨d, 0, none⟩), v, .agg #[.int .i64 5, .int .i64 se, .int .i64 off, .slice B bl bq, .int .i64 nn, .int .i64 kk, .int .u8 mm]] w (DoPost w lo hi d rl n z (K) (D.up) (R.up) True) := by
  obtain ⟨db, dc, wb, wc, bb, bc, cuts, left, whole, mask, L, LC, rfl, hP, hr⟩ := hR
  have HP := Lib.hid hP
  have HR := Lib.hid hr
  have HX := Lib.hid (DX.of w lo hi (rc n z db dc wb wc bb bc (!R.on) R.offs R.acts cuts left whole mask) #[.int .i64 5, .int .i64 se, .int .i64 off, .slice B bl bq, .int .i64 nn, .int .i64 kk, .int .u8 mm])
  have HD := Lib.hid (dev_below hD (three_below w (.cells (rc n z db dc wb wc bb bc (!R.on) R.offs R.acts cuts left whole mask) 35) (.cells #[.int .i64 5, .int .i64 se, .int .i64 off, .slice B bl bq, .int .i64 nn, .int .i64 kk, .int .u8 mm] 40) (.cells zeroRef 35)))
  clear hP hr hD
  have hhw : hi ≤ w.heap.size := by omega
  unfold refVal
  go_enter Try.func12, Try.ntmps12
  go_upto_region 1 with (fail)
  change Code.wp _ _ _ _ (((w.alloc (.cells (rc n z db dc wb wc bb bc (!R.on) R.offs R.acts cuts left whole mask) 35)).alloc (.cells #[.int .i64 5, .int .i64 se, .int .i64 off, .slice B bl bq, .int .i64 nn, .int .i64 kk, .int .u8 mm] 40)).alloc (.cells zeroRef 35))
  generalize ((w.alloc (.cells (rc n z db dc wb wc bb bc (!R.on) R.offs R.acts cuts left whole mask) 35)).alloc (.cells #[.int .i64 5, .int .i64 se, .int .i64 off, .slice B bl bq, .int .i64 nn, .int .i64 kk, .int .u8 mm] 40)).alloc (.cells zeroRef 35) = W at *
  have o0 : W.cell? ⟨w.heap.size + 1, 0, none⟩ = some (.int .i64 5) := HX.out.op.cell 0
  have o1 : W.cell? ⟨w.heap.size + 1, 1, none⟩ = some (.int .i64 se) := HX.out.op.cell 1
  have o2 : W.cell? ⟨w.heap.size + 1, 2, none⟩ = some (.int .i64 off) := HX.out.op.cell 2
  go_wp2_with (first
    | (go_at_call 17; refine (of_num _ _ _).mono ?_; rintro e w' ⟨x, y, rfl, hxy, rfl⟩; have HXY := Lib.hid hxy; clear hxy)
    | (go_at_call 18; refine (dev_on W HD.out).mono ?_; rintro e w1 ⟨rfl, hD1, hc1⟩; have HX1 := Lib.hid (HX.out.step hc1 hhw); have HD1 := Lib.hid hD1; clear hD1 hc1 o0 o1 o2; have t5 : w1.cell? ⟨w.heap.size, 5, none⟩ = some (.bool (!R.on)) := HX1.out.box.cell 5; have f5 := HX1.out.box.frozen 5; have l5 := HX1.out.box.lt))
  have HX2 : Hid (DX w (w1.setCell ⟨w.heap.size, 5, none⟩ (.bool false)) lo hi (rc n z db dc wb wc bb bc false R.offs R.acts cuts left whole mask) #[.int .i64 5, .int .i64 se, .int .i64 off, .slice B bl bq, .int .i64 nn, .int .i64 kk, .int .u8 mm]) := Lib.hid (DX.core HX1.out 5 (.bool false))
  have HD2 := Lib.hid (dev_chg HD1.out ((Chg.refl (fun q => q = w.heap.size) w1).own 5 (.bool false)) (fun k h1 h2 e => by omega))
  clear t5 f5 l5
  generalize w1.setCell ⟨w.heap.size, 5, none⟩ (.bool false) = W3 at *
  obtain ⟨t0, t1, t2, t3, t4, t5, t6, t7, t8, t9, t10, t11⟩ := twelve HX2.out.box
  go_still_tail 2, (by kernel_rfl)
  change wpList _ _ _ _ _ W3.drew
  clear t0 t1 t2 t3 t4 t5 t6 t7 t8 t9 t10 t11
  go_wp2_with ((with_reducible refine pick none ?_); refine wpList_store_blk rfl 35 _ _ rfl (w.heap.size + 1 + 1) (rc n z db dc wb wc bb bc false R.offs R.acts cuts left whole mask) rfl rfl 35 zeroRef HX2.out.drew.res info_ref rfl (rc_one _ _ _ _ _ _ _ _ _ _ _ _ _ _ _) ?_; intro w3 hb3 hg3)
  refine bodyPost_ret (v := .tuple #[.bool true, .agg (rc n z db dc wb wc bb bc false R.offs R.acts cuts left whole mask)]) ?_ rfl ⟨true, _, rfl, fun _ => rfl, dev_chg (dev_below HD2.out ((Below.refl _ W3).drew)) hg3 (fun k h1 h2 e => by omega), Ref.of (s := R.up) rfl (RefP.up (RefP.other (refP_chg HP.out HX2.out.drew.chg hh) HX2.out.drew.res hg3)) HR.out, HX2.out.drew.done hg3⟩
  exact results_tmp_row (fn := Try.f12) rfl _ _ (w.heap.size + 1 + 1) 35 _ (0, 0) _ rfl hb3 Try.underlying35 rfl info_ref
end
end Go.Proofs.Ytdcmpkohengnaaa.NorDp
