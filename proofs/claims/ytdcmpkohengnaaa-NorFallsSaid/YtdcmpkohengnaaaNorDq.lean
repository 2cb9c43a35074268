/- Do, Erase. -/
import Derived.Test.YtdcmpkohengnaaaNorDp
import Derived.Deep.RegionLaw
namespace Go.Proofs.Ytdcmpkohengnaaa.NorDq
set_option linter.unusedVariables false
set_option linter.unusedSimpArgs false
open Go.RowKit
open Go.Proofs.Ytdcmpkohengnaaa.Byte Go.Proofs.Ytdcmpkohengnaaa.NorD Go.Proofs.Ytdcmpkohengnaaa.NorM Go.Proofs.Ytdcmpkohengnaaa.NorS Go.Proofs.Ytdcmpkohengnaaa.NorF Go.Proofs.Ytdcmpkohengnaaa.NorH Go.Proofs.Ytdcmpkohengnaaa.NorB Go.Proofs.Ytdcmpkohengnaaa.NorP Go.Proofs.Ytdcmpkohengnaaa.NorR Go.Proofs.Ytdcmpkohengnaaa.NorU Go.Proofs.Ytdcmpkohengnaaa.NorV Go.Proofs.Ytdcmpkohengnaaa.NorX Go.Proofs.Ytdcmpkohengnaaa.NorY Go.Proofs.Ytdcmpkohengnaaa.NorZ Go.Proofs.Ytdcmpkohengnaaa.NorI Go.Proofs.Ytdcmpkohengnaaa.NorJ Go.Proofs.Ytdcmpkohengnaaa.NorK Go.Proofs.Ytdcmpkohengnaaa.NorL Go.Proofs.Ytdcmpkohengnaaa.NorDo Go.Proofs.Ytdcmpkohengnaaa.NorDp Go.Proofs.Ytdcmpkohengnaaa.PlaceM Go.Proofs.Ytdcmpkohengnaaa.PlaceV

section
variable {lo hi d rl n z K : Nat} {D R : St}
set_option maxRecDepth 100000 in
set_option maxHeartbeats 1000000 in
theorem do_erase (w : World) (v : Value) (hD : Dev w lo hi d n z K D) (hR : Ref w rl n z K R v) (hh : hi ≤ rl) (hl : rl ≤ w.heap.size) (hK : K + 3 ≤ 1000000) (se off : Int) (B : Option Addr) (bl bq : Nat) (nn kk mm : Int) :
    Calls Try.prog 12 #[.pointer (some ⟨d, 0, none⟩), v, .agg #[.int .i64 1, .int .i64 se, .int .i64 off, .slice B bl bq, .int .i64 nn, .int .i64 kk, .int .u8 mm]] w (DoPost w lo hi d rl n z (K + 2) ((D.erase n z se).2) ((R.erase n z se).2) (D = R)) := by
  obtain ⟨db, dc, wb, wc, bb, bc, cuts, left, whole, mask, L, LC, rfl, hP, hr⟩ := hR
  have HP := Lib.hid hP
  have HR := Lib.hid hr
  have HX := Lib.hid (DX.of w lo hi (rc n z db dc wb wc bb bc (!R.on) R.offs R.acts cuts left whole mask) #[.int .i64 1, .int .i64 se, .int .i64 off, .slice B bl bq, .int .i64 nn, .int .i64 kk, .int .u8 mm])
  have HD := Lib.hid (dev_below hD (three_below w (.cells (rc n z db dc wb wc bb bc (!R.on) R.offs R.acts cuts left whole mask) 35) (.cells #[.int .i64 1, .int .i64 se, .int .i64 off, .slice B bl bq, .int .i64 nn, .int .i64 kk, .int .u8 mm] 40) (.cells zeroRef 35)))
  clear hP hr hD
  have hhw : hi ≤ w.heap.size := by omega
  unfold refVal
  go_enter Try.func12, Try.ntmps12
  go_upto_region 1 with (fail)
  change Code.wp _ _ _ _ (((w.alloc (.cells (rc n z db dc wb wc bb bc (!R.on) R.offs R.acts cuts left whole mask) 35)).alloc (.cells #[.int .i64 1, .int .i64 se, .int .i64 off, .slice B bl bq, .int .i64 nn, .int .i64 kk, .int .u8 mm] 40)).alloc (.cells zeroRef 35))
  generalize ((w.alloc (.cells (rc n z db dc wb wc bb bc (!R.on) R.offs R.acts cuts left whole mask) 35)).alloc (.cells #[.int .i64 1, .int .i64 se, .int .i64 off, .slice B bl bq, .int .i64 nn, .int .i64 kk, .int .u8 mm] 40)).alloc (.cells zeroRef 35) = W at *
  have o0 : W.cell? ⟨w.heap.size + 1, 0, none⟩ = some (.int .i64 1) := HX.out.op.cell 0
  have o1 : W.cell? ⟨w.heap.size + 1, 1, none⟩ = some (.int .i64 se) := HX.out.op.cell 1
  have o2 : W.cell? ⟨w.heap.size + 1, 2, none⟩ = some (.int .i64 off) := HX.out.op.cell 2
  go_wp2_with (first
    | (go_at_call 17; refine (of_num _ _ _).mono ?_; rintro e w' ⟨x, y, rfl, hxy, rfl⟩; have HXY := Lib.hid hxy; clear hxy)
    | ((with_reducible refine pick (some 59) ?_); refine wpList_load_row rfl _ _ rfl w.heap.size rfl 35 (rc n z db dc wb wc bb bc (!R.on) R.offs R.acts cuts left whole mask) (0, 0) _ HX.out.box Try.underlying35 rfl info_ref ?_)
    | (go_at_call 32; refine (refErase_calls W (.agg (rc n z db dc wb wc bb bc (!R.on) R.offs R.acts cuts left whole mask)) (Ref.of rfl (refP_chg HP.out HX.out.chg hh) HR.out) se (by have := HX.out.lt; omega) hK).mono ?_; rintro e w2 ⟨v', rfl, ⟨db', dc', wb', wc', bb', bc', cuts', left', whole', mask', L', LC', rfl, hP2, hr2⟩, hb2⟩; have HX2 := Lib.hid (HX.out.below hb2 hhw); have HP2 := Lib.hid hP2; have HR2 := Lib.hid hr2; have HD2 := Lib.hid (dev_below HD.out hb2); clear hP2 hr2 hb2 o0 o1 o2; unfold refVal))
  change Code.wp _ _ _ _ (w2.alloc (.cells (rc n z db' dc' wb' wc' bb' bc' (!(R.erase n z se).2.on) (R.erase n z se).2.offs (R.erase n z se).2.acts cuts' left' whole' mask') 35))
  have hb3 : Below w2.heap.size w2 (w2.alloc (.cells (rc n z db' dc' wb' wc' bb' bc' (!(R.erase n z se).2.on) (R.erase n z se).2.offs (R.erase n z se).2.acts cuts' left' whole' mask') 35)) := (Below.refl _ _).alloc (Nat.le_refl _) _
  have HX3 := Lib.hid (HX2.out.below hb3 hhw)
  have HD3 := Lib.hid (dev_below HD2.out hb3)
  have HP3 := Lib.hid (HP2.out.below hb3)
  have HT3 := Lib.hid (Blk.new w2 35 (rc n z db' dc' wb' wc' bb' bc' (!(R.erase n z se).2.on) (R.erase n z se).2.offs (R.erase n z se).2.acts cuts' left' whole' mask'))
  have hgg : w.heap.size + 1 + 1 < w2.heap.size := HX2.out.lt
  clear hb3
  generalize w2.alloc (.cells (rc n z db' dc' wb' wc' bb' bc' (!(R.erase n z se).2.on) (R.erase n z se).2.offs (R.erase n z se).2.acts cuts' left' whole' mask') 35) = W4 at *
  have o1 : W4.cell? ⟨w.heap.size + 1, 1, none⟩ = some (.int .i64 se) := HX3.out.op.cell 1
  obtain ⟨t0, t1, t2, t3, t4, t5, t6, t7, t8, t9, t10, t11⟩ := twelve HT3.out
  go_region_law (go_simp; go_at_call 24; refine (eraseAt_calls W4.drew (dev_below HD3.out ((Below.refl _ W4).drew)) (by omega) se).mono ?_; rintro e w4 ⟨rfl, hD4, hc4⟩; have HD4 := Lib.hid hD4; have HX4 := Lib.hid (HX3.out.drew.step hc4 hhw); have HP4 := Lib.hid (refP_chg (lo := lo) (hi := hi) HP3.out ((Chg.refl _ W4).drew.trans hc4) hh); have hT4 : Blk w4 w2.heap.size 35 (rc n z db' dc' wb' wc' bb' bc' (!(R.erase n z se).2.on) (R.erase n z se).2.offs (R.erase n z se).2.acts cuts' left' whole' mask') := (show Blk W4.drew _ _ _ from HT3.out).chg hc4 (by omega); clear hD4 hc4 t0 t1 t2 t3 t4 t5 t6 t7 t8 t9 t10 t11 o1; obtain ⟨t0, t1, t2, t3, t4, t5, t6, t7, t8, t9, t10, t11⟩ := twelve hT4; obtain ⟨z0, z1, z2, z3, z4, z5, z6, z7, z8, z9, z10, z11, f0, f1, f2, f3, f4, f5, f6, f7, f8, f9, f10, f11⟩ := twelveZ HX4.out.res; try dsimp only)
  all_goals
    have hp6 := fun c0 c1 c2 c3 c4 c5 c6 c7 c8 c9 c10 c11 => stored12 HX4.out.res c0 c1 c2 c3 c4 c5 c6 c7 c8 c9 c10 c11
    have HS6 := Lib.hid hp6
    clear hp6 z0 z1 z2 z3 z4 z5 z6 z7 z8 z9 z10 z11 f0 f1 f2 f3 f4 f5 f6 f7 f8 f9 f10 f11
    go_wp2_with fail
  all_goals
    refine bodyPost_ret (v := .tuple #[.bool ((D.erase n z se).1 == (R.erase n z se).1), .agg (rc n z db' dc' wb' wc' bb' bc' (!(R.erase n z se).2.on) (R.erase n z se).2.offs (R.erase n z se).2.acts cuts' left' whole' mask')]) ?_ rfl ⟨_, _, rfl, fun h => by rw [h]; exact beq_self_eq_true _, dev_chg HD4.out (HS6.out _ _ _ _ _ _ _ _ _ _ _ _).2 (fun k h1 h2 e => by omega), Ref.of rfl (RefP.other HP4.out HX4.out.res (HS6.out _ _ _ _ _ _ _ _ _ _ _ _).2) HR2.out, HX4.out.done (HS6.out _ _ _ _ _ _ _ _ _ _ _ _).2⟩
    exact results_tmp_row (fn := Try.f12) rfl _ _ (w.heap.size + 1 + 1) 35 _ (0, 0) _ rfl (HS6.out _ _ _ _ _ _ _ _ _ _ _ _).1 Try.underlying35 rfl info_ref
end
end Go.Proofs.Ytdcmpkohengnaaa.NorDq
