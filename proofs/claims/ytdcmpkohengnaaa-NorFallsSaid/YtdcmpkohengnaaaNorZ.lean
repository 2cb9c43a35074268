/- The contract of the document's Erase. -/
import Derived.Test.YtdcmpkohengnaaaNorY
import Derived.Laws.MakeOwn
namespace Go.Proofs.Ytdcmpkohengnaaa.NorZ
set_option linter.unusedVariables false
set_option linter.unusedSimpArgs false
open Go.RowKit
open Go.Proofs.Ytdcmpkohengnaaa.Byte Go.Proofs.Ytdcmpkohengnaaa.NorD Go.Proofs.Ytdcmpkohengnaaa.NorM Go.Proofs.Ytdcmpkohengnaaa.NorS Go.Proofs.Ytdcmpkohengnaaa.NorB Go.Proofs.Ytdcmpkohengnaaa.NorP Go.Proofs.Ytdcmpkohengnaaa.NorR Go.Proofs.Ytdcmpkohengnaaa.NorU Go.Proofs.Ytdcmpkohengnaaa.NorV Go.Proofs.Ytdcmpkohengnaaa.NorX Go.Proofs.Ytdcmpkohengnaaa.NorY Go.Proofs.Ytdcmpkohengnaaa.PlaceM Go.Proofs.Ytdcmpkohengnaaa.PlaceV

theorem bx_chg {w W W' : World} {c : Array Value} {S : Nat → Prop} (h : BX w W c) (hc : Chg S W W') (h1 : ∀ k, S k → w.heap.size + 1 < k) : BX w W' c :=
  ⟨h.box.chg hc (fun e => by have := h1 _ e; omega), h.res.chg hc (fun e => by have := h1 _ e; omega), h.bel.trans (hc.below h.bel.size (fun k hk e => by have := h1 k e; omega))⟩
theorem bx_grown {w W w1 : World} {c : Array Value} {o : Obj} (h : BX w W c) (hg : (W.alloc o).grownBy w1 (some W.heap.size)) : BX w w1 c :=
  bx_chg h (((Chg.refl (fun _ => False) W).alloc o).then_ (Chg.of_grown (S := fun q => q = W.heap.size) hg (fun k e => .inl (Option.some.inj e).symm)) (fun k hk e => by omega)) (fun _ e => e.elim)
theorem bx_core {w W : World} {c : Array Value} (h : BX w W c) (k : Nat) (v : Value) : BX w (W.setCell ⟨w.heap.size, k, none⟩ v) (c.setIfInBounds k v) :=
  ⟨h.box.set_ k v, h.res.far (p := ⟨w.heap.size, k, none⟩) (by show w.heap.size + 1 ≠ w.heap.size; omega) _, h.bel.setCell (p := ⟨w.heap.size, k, none⟩) (Nat.le_refl _) _⟩
theorem empty_own (W : World) (e : TypeId) : (W.alloc (.cells #[] e)).ownsRow W.heap.size e 1 (.slice (some ⟨W.heap.size, 0, none⟩) 0 0) 0 [] := by
  have := World.ownsRow_lit (base := W.heap.size) (e := e) (size := 1) W #[] 0 (by simp) (by decide) rfl
  simpa using this
def zeros (z : Nat) : Array Value := madeCells (Value.int IntKind.u8 0).cells (z * 1)
theorem run_zeros (z : Nat) (hz : z ≤ 4096) (w : World) : (Instr.makeSlice 38 (.int .i64 z) (.int .i64 z)).run Try.prog w = .ok (.slice (some ⟨w.heap.size, 0, none⟩) z z) (w.alloc (.cells (zeros z) 5)) := by
  obtain ⟨i, hi, hz0, hz1, hz2⟩ := info_parts info_u8
  have := run_makeSlice (P := Try.prog) (w := w) 38 5 i _ Try.underlying38 hi hz0 .i64 .i64 z z (by omega) (by omega) (by rw [hz1, Int.toNat_natCast]; omega) (by rw [hz2]; omega) (by omega)
  rw [hz1, Int.toNat_natCast] at this
  exact this
theorem zeros_bs (z : Nat) (w : World) : Bs (w.alloc (.cells (zeros z) 5)) (some ⟨w.heap.size, 0, none⟩) z (List.replicate z 0) := by
  refine ⟨List.length_replicate, fun x hx => by rw [List.eq_of_mem_replicate hx]; omega, fun k hk => ⟨w.heap.size, 0, rfl, by simp, ?_⟩⟩
  rw [Nat.zero_add, (Blk.new w 5 (zeros z)).cell k, ← Array.getElem?_toList, zeros, Nat.mul_one, show (Value.int IntKind.u8 0).cells = #[.int .u8 0] from rfl, toList_madeCells_one, replicate_getD, if_pos hk, List.getElem?_replicate, if_pos hk]

section
variable {lo n z K : Nat} {s : St}
set_option maxRecDepth 100000 in
set_option maxHeartbeats 1000000 in
theorem refErase_off (w : World) (v : Value) (h : Ref w lo n z K s v) (se : Int) (hon : s.on = false) :
    Calls Try.prog 32 #[v, .int .i64 se] w fun e w' => ∃ v', e = .returned (.tuple #[.int .i64 7, v']) ∧ Ref w' lo n z K s v' ∧ Below w.heap.size w w' := by
  obtain ⟨db, dc, wb, wc, bb, bc, cuts, left, whole, mask, L, LC, rfl, hP, hr⟩ := h
  have HP := Lib.hid hP
  have HR := Lib.hid hr
  have hg := hP.geo
  have HX := Lib.hid (BX.of w (rc n z db dc wb wc bb bc (!s.on) s.offs s.acts cuts left whole mask))
  clear hP hr
  unfold refVal
  have HON := Lib.hid hon
  rw [hon] at HX ⊢
  clear hon
  go_enter Try.func32, Try.ntmps32
  go_upto_region 1 with (fail)
  change Code.wp _ _ _ _ ((w.alloc (.cells (rc n z db dc wb wc bb bc (!false) s.offs s.acts cuts left whole mask) 35)).alloc (.cells zeroRef 35))
  generalize (w.alloc (.cells (rc n z db dc wb wc bb bc (!false) s.offs s.acts cuts left whole mask) 35)).alloc (.cells zeroRef 35) = W at *
  obtain ⟨t0, t1, t2, t3, t4, t5, t6, t7, t8, t9, t10, t11⟩ := twelve HX.out.box
  go_wp2_with fail
  go_still_tail 2, (by kernel_rfl)
  change wpList _ _ _ _ _ W.drew
  clear t0 t1 t2 t3 t4 t5 t6 t7 t8 t9 t10 t11
  go_wp2_with ((with_reducible refine pick none ?_); refine wpList_store_blk rfl 35 _ _ rfl (w.heap.size + 1) (rc n z db dc wb wc bb bc (!false) s.offs s.acts cuts left whole mask) rfl rfl 35 zeroRef HX.out.drew.res info_ref rfl (rc_one _ _ _ _ _ _ _ _ _ _ _ _ _ _ _) ?_; intro w4 hb4 hg4)
  refine bodyPost_ret (v := .tuple #[.int .i64 7, .agg (rc n z db dc wb wc bb bc (!false) s.offs s.acts cuts left whole mask)]) ?_ rfl ⟨_, rfl, Ref.of (by rw [refVal, HON.out]; rfl) (HP.out.below (HX.out.drew.done hg4)) HR.out, HX.out.drew.done hg4⟩
  exact results_tmp_row (fn := Try.f32) rfl _ _ (w.heap.size + 1) 35 _ (0, 0) _ rfl hb4 Try.underlying35 rfl info_ref
set_option maxRecDepth 100000 in
set_option maxHeartbeats 1000000 in
theorem refErase_neg (w : World) (v : Value) (h : Ref w lo n z K s v) (se : Int) (hon : s.on = true) (hse : se < 0) :
    Calls Try.prog 32 #[v, .int .i64 se] w fun e w' => ∃ v', e = .returned (.tuple #[.int .i64 1, v']) ∧ Ref w' lo n z K s v' ∧ Below w.heap.size w w' := by
  obtain ⟨db, dc, wb, wc, bb, bc, cuts, left, whole, mask, L, LC, rfl, hP, hr⟩ := h
  have HP := Lib.hid hP
  have HR := Lib.hid hr
  have hg := hP.geo
  have HX := Lib.hid (BX.of w (rc n z db dc wb wc bb bc (!s.on) s.offs s.acts cuts left whole mask))
  clear hP hr
  unfold refVal
  have HON := Lib.hid hon
  rw [hon] at HX ⊢
  have d0 : decide (se < 0) = true := by simp; omega
  clear hon
  go_enter Try.func32, Try.ntmps32
  go_upto_region 1 with (fail)
  change Code.wp _ _ _ _ ((w.alloc (.cells (rc n z db dc wb wc bb bc (!true) s.offs s.acts cuts left whole mask) 35)).alloc (.cells zeroRef 35))
  generalize (w.alloc (.cells (rc n z db dc wb wc bb bc (!true) s.offs s.acts cuts left whole mask) 35)).alloc (.cells zeroRef 35) = W at *
  obtain ⟨t0, t1, t2, t3, t4, t5, t6, t7, t8, t9, t10, t11⟩ := twelve HX.out.box
  go_wp2_with fail
  go_still_tail 2, (by kernel_rfl)
  change wpList _ _ _ _ _ W.drew
  clear t0 t1 t2 t3 t4 t5 t6 t7 t8 t9 t10 t11
  go_wp2_with ((with_reducible refine pick none ?_); refine wpList_store_blk rfl 35 _ _ rfl (w.heap.size + 1) (rc n z db dc wb wc bb bc (!true) s.offs s.acts cuts left whole mask) rfl rfl 35 zeroRef HX.out.drew.res info_ref rfl (rc_one _ _ _ _ _ _ _ _ _ _ _ _ _ _ _) ?_; intro w4 hb4 hg4)
  refine bodyPost_ret (v := .tuple #[.int .i64 1, .agg (rc n z db dc wb wc bb bc (!true) s.offs s.acts cuts left whole mask)]) ?_ rfl ⟨_, rfl, Ref.of (by rw [refVal, HON.out]; rfl) (HP.out.below (HX.out.drew.done hg4)) HR.out, HX.out.drew.done hg4⟩
  exact results_tmp_row (fn := Try.f32) rfl _ _ (w.heap.size + 1) 35 _ (0, 0) _ rfl hb4 Try.underlying35 rfl info_ref
set_option maxRecDepth 100000 in
set_option maxHeartbeats 1000000 in
theorem refErase_big (w : World) (v : Value) (h : Ref w lo n z K s v) (se : Int) (hon : s.on = true) (hse : 0 ≤ se ∧ (n : Int) ≤ se) :
    Calls Try.prog 32 #[v, .int .i64 se] w fun e w' => ∃ v', e = .returned (.tuple #[.int .i64 1, v']) ∧ Ref w' lo n z K s v' ∧ Below w.heap.size w w' := by
  obtain ⟨db, dc, wb, wc, bb, bc, cuts, left, whole, mask, L, LC, rfl, hP, hr⟩ := h
  have HP := Lib.hid hP
  have HR := Lib.hid hr
  have hg := hP.geo
  have HX := Lib.hid (BX.of w (rc n z db dc wb wc bb bc (!s.on) s.offs s.acts cuts left whole mask))
  clear hP hr
  unfold refVal
  have HON := Lib.hid hon
  rw [hon] at HX ⊢
  have d0 : decide (se < 0) = false := by simp; omega
  have d1 : decide ((n : Int) ≤ se) = true := by simp; omega
  clear hon
  go_enter Try.func32, Try.ntmps32
  go_upto_region 1 with (fail)
  change Code.wp _ _ _ _ ((w.alloc (.cells (rc n z db dc wb wc bb bc (!true) s.offs s.acts cuts left whole mask) 35)).alloc (.cells zeroRef 35))
  generalize (w.alloc (.cells (rc n z db dc wb wc bb bc (!true) s.offs s.acts cuts left whole mask) 35)).alloc (.cells zeroRef 35) = W at *
  obtain ⟨t0, t1, t2, t3, t4, t5, t6, t7, t8, t9, t10, t11⟩ := twelve HX.out.box
  go_wp2_with fail
  go_still_tail 2, (by kernel_rfl)
  change wpList _ _ _ _ _ W.drew
  clear t0 t1 t2 t3 t4 t5 t6 t7 t8 t9 t10 t11
  go_wp2_with ((with_reducible refine pick none ?_); refine wpList_store_blk rfl 35 _ _ rfl (w.heap.size + 1) (rc n z db dc wb wc bb bc (!true) s.offs s.acts cuts left whole mask) rfl rfl 35 zeroRef HX.out.drew.res info_ref rfl (rc_one _ _ _ _ _ _ _ _ _ _ _ _ _ _ _) ?_; intro w4 hb4 hg4)
  refine bodyPost_ret (v := .tuple #[.int .i64 1, .agg (rc n z db dc wb wc bb bc (!true) s.offs s.acts cuts left whole mask)]) ?_ rfl ⟨_, rfl, Ref.of (by rw [refVal, HON.out]; rfl) (HP.out.below (HX.out.drew.done hg4)) HR.out, HX.out.drew.done hg4⟩
  exact results_tmp_row (fn := Try.f32) rfl _ _ (w.heap.size + 1) 35 _ (0, 0) _ rfl hb4 Try.underlying35 rfl info_ref
set_option maxRecDepth 100000 in
set_option maxHeartbeats 1000000 in
theorem refErase_bad (w : World) (v : Value) (h : Ref w lo n z K s v) (i : Nat) (hon : s.on = true) (hin : i < n) (hbad : s.bad.getD i false = true) :
    Calls Try.prog 32 #[v, .int .i64 i] w fun e w' => ∃ v', e = .returned (.tuple #[.int .i64 8, v']) ∧ Ref w' lo n z K s v' ∧ Below w.heap.size w w' := by
  have HBAD := Lib.hid hbad
  clear hbad
  obtain ⟨db, dc, wb, wc, bb, bc, cuts, left, whole, mask, L, LC, rfl, hP, hr⟩ := h
  have HP := Lib.hid hP
  have HR := Lib.hid hr
  have hg := hP.geo
  have HX := Lib.hid (BX.of w (rc n z db dc wb wc bb bc (!s.on) s.offs s.acts cuts left whole mask))
  clear hP hr
  unfold refVal
  have HON := Lib.hid hon
  rw [hon] at HX ⊢
  have d0 : decide ((i : Int) < 0) = false := by simp
  have d1 : decide ((n : Int) ≤ (i : Int)) = false := by simp; omega
  clear hon
  go_enter Try.func32, Try.ntmps32
  go_upto_region 1 with (fail)
  change Code.wp _ _ _ _ ((w.alloc (.cells (rc n z db dc wb wc bb bc (!true) s.offs s.acts cuts left whole mask) 35)).alloc (.cells zeroRef 35))
  generalize (w.alloc (.cells (rc n z db dc wb wc bb bc (!true) s.offs s.acts cuts left whole mask) 35)).alloc (.cells zeroRef 35) = W at *
  obtain ⟨t0, t1, t2, t3, t4, t5, t6, t7, t8, t9, t10, t11⟩ := twelve HX.out.box
  have kb := (HP.out.below HX.out.bel).bad.cell hin
  rw [HBAD.out] at kb
  have lb := (HP.out.below HX.out.bel).bad.lt
  go_wp2_with fail
  clear kb lb
  go_still_tail 2, (by kernel_rfl)
  change wpList _ _ _ _ _ W.drew
  clear t0 t1 t2 t3 t4 t5 t6 t7 t8 t9 t10 t11
  go_wp2_with ((with_reducible refine pick none ?_); refine wpList_store_blk rfl 35 _ _ rfl (w.heap.size + 1) (rc n z db dc wb wc bb bc (!true) s.offs s.acts cuts left whole mask) rfl rfl 35 zeroRef HX.out.drew.res info_ref rfl (rc_one _ _ _ _ _ _ _ _ _ _ _ _ _ _ _) ?_; intro w4 hb4 hg4)
  refine bodyPost_ret (v := .tuple #[.int .i64 8, .agg (rc n z db dc wb wc bb bc (!true) s.offs s.acts cuts left whole mask)]) ?_ rfl ⟨_, rfl, Ref.of (by rw [refVal, HON.out]; rfl) (HP.out.below (HX.out.drew.done hg4)) HR.out, HX.out.drew.done hg4⟩
  exact results_tmp_row (fn := Try.f32) rfl _ _ (w.heap.size + 1) 35 _ (0, 0) _ rfl hb4 Try.underlying35 rfl info_ref
set_option maxRecDepth 100000 in
set_option maxHeartbeats 1000000 in
theorem refErase_ok (w : World) (v : Value) (h : Ref w lo n z K s v) (i : Nat) (hlo : lo ≤ w.heap.size) (hK : K + 3 ≤ 1000000) (hon : s.on = true) (hin : i < n) (hbad : s.bad.getD i false = false) :
    Calls Try.prog 32 #[v, .int .i64 i] w fun e w' => ∃ v', e = .returned (.tuple #[.int .i64 ((s.worn i).act i false 0 (List.replicate z 0)).1, v']) ∧ Ref w' lo n z (K + 1 + 1) ((s.worn i).act i false 0 (List.replicate z 0)).2 v' ∧ Below w.heap.size w w' := by
  have HBAD := Lib.hid hbad
  clear hbad
  obtain ⟨db, dc, wb, wc, bb, bc, cuts, left, whole, mask, L, LC, rfl, hP, hr⟩ := h
  have HP := Lib.hid hP
  have HR := Lib.hid hr
  have hg := hP.geo
  have HX := Lib.hid (BX.of w (rc n z db dc wb wc bb bc (!s.on) s.offs s.acts cuts left whole mask))
  clear hP hr
  unfold refVal
  have HON := Lib.hid hon
  rw [hon] at HX ⊢
  have d0 : decide ((i : Int) < 0) = false := by simp
  have d1 : decide ((n : Int) ≤ (i : Int)) = false := by simp; omega
  clear hon
  go_enter Try.func32, Try.ntmps32
  go_upto_region 1 with (fail)
  change Code.wp _ _ _ _ ((w.alloc (.cells (rc n z db dc wb wc bb bc (!true) s.offs s.acts cuts left whole mask) 35)).alloc (.cells zeroRef 35))
  generalize (w.alloc (.cells (rc n z db dc wb wc bb bc (!true) s.offs s.acts cuts left whole mask) 35)).alloc (.cells zeroRef 35) = W at *
  obtain ⟨t0, t1, t2, t3, t4, t5, t6, t7, t8, t9, t10, t11⟩ := twelve HX.out.box
  have kb := (HP.out.below HX.out.bel).bad.cell hin
  rw [HBAD.out] at kb
  have lb := (HP.out.below HX.out.bel).bad.lt
  have hwb := HP.out.fits.wb i
  obtain ⟨y, hy⟩ : ∃ y, s.wear.getD i 0 = y := ⟨_, rfl⟩
  rw [hy] at hwb
  have HY := Lib.hid hy
  clear hy
  have hwr : IntKind.i64.wrap (y + 1) = y + 1 := by rw [IntKind.wrap_i64]; omega
  have lx : w.heap.size < W.heap.size := by have := HX.out.lt; omega
  have HB0 : Hid (Below w.heap.size w (W.alloc (.cells #[] 3))) := HX.out.bel.alloc HX.out.bel.size _
  go_wp2_with ((with_reducible refine pick (some 30) ?_); refine wpList_append_row rfl _ _ _ rfl W.heap.size 3 Try.underlying32 _ 8 info_int rfl (by omega) W.heap.size rfl (empty_own W _) lo wb n wc _ rfl (HP.out.below HB0.out).wear (fun _ => rfl) hg.1 (by omega) (by simp) ?_; intro g1 cap1 w1 hrow1 hc1 hc2 hg1 hat1; clear t0 t1 t2 t3 t4 t5 t6 t7 t8 t9 t10 t11 kb lb; have HX1 := Lib.hid (bx_grown HX.out hg1); have HROW := Lib.hid hrow1; have kc := hrow1.cell hin; rw [HY.out] at kc; have k3 : w1.cell? ⟨w.heap.size, 3, none⟩ = some (.slice (some ⟨wb, 0, none⟩) n wc) := HX1.out.box.cell 3; have kf := hrow1.fr i; have f3 := HX1.out.box.frozen 3; have hge : w.heap.size + 1 < g1 := (by have := hrow1.1; have := HX.out.lt; omega); have n1 : ¬ g1 = w.heap.size := (by omega); have n2 : ¬ w.heap.size = g1 := (by omega); clear hrow1 hg1 hat1)
  have hc2' : Chg (fun q => q = g1) w1 (w1.setCell ⟨g1, i, none⟩ (.int .i64 (y + 1))) := (Chg.refl _ w1).own i _
  have HX2 := Lib.hid (bx_core (bx_chg HX1.out hc2' (fun k e => by omega)) 3 (.slice (some ⟨g1, 0, none⟩) n cap1))
  have hr2 := HROW.out.set_ i (.int .i64 (y + 1)) hin
  have hr3 : Row ((w1.setCell ⟨g1, i, none⟩ (.int .i64 (y + 1))).setCell ⟨w.heap.size, 3, none⟩ (.slice (some ⟨g1, 0, none⟩) n cap1)) lo g1 3 n (fun j => .int .i64 ((s.worn i).wear.getD j 0)) := by
    refine ((hr2.of_eq (Below.heap_setCell _ ⟨w.heap.size, 3, none⟩ _ g1 n1)).congr (fun j hj => ?_)).base (by have := HX.out.lt; omega)
    show _ = Value.int .i64 ((s.wear.set i _).getD j 0)
    rw [getD_set _ _ _ _ (by rw [HP.out.fits.wl]; exact hin)]
    rw [HY.out]
    by_cases e : j = i <;> simp [e]
  have HR3 := Lib.hid hr3
  clear hr2 hr3 hc2' kc k3 kf f3 HX1 HROW hwr
  generalize (w1.setCell ⟨g1, i, none⟩ (.int .i64 (y + 1))).setCell ⟨w.heap.size, 3, none⟩ (.slice (some ⟨g1, 0, none⟩) n cap1) = W3 at *
  have HX3 : Hid (BX w W3 (rc n z db dc g1 cap1 bb bc (!true) s.offs s.acts cuts left whole mask)) := HX2.out
  clear HX2
  obtain ⟨t0, t1, t2, t3, t4, t5, t6, t7, t8, t9, t10, t11⟩ := twelve HX3.out.box
  have lx3 : w.heap.size < W3.heap.size := by have := HX3.out.lt; omega
  have hbel3 : Below w.heap.size w (W3.drew.alloc (.cells (zeros z) 5)) := HX3.out.bel.drew.alloc HX3.out.bel.size _
  have hA : Calls Try.prog 49 #[.agg (rc n z db dc g1 cap1 bb bc (!true) s.offs s.acts cuts left whole mask), .int .i64 i, .int .i64 0, .slice (some ⟨W3.heap.size, 0, none⟩) z z, .bool false] (W3.drew.alloc (.cells (zeros z) 5)) (fun e w' => ∃ v', e = .returned (.tuple #[.int .i64 ((s.worn i).act i false 0 (List.replicate z 0)).1, v']) ∧ Ref w' lo n z (K + 1 + 1) ((s.worn i).act i false 0 (List.replicate z 0)).2 v' ∧ Below (W3.drew.alloc (.cells (zeros z) 5)).heap.size (W3.drew.alloc (.cells (zeros z) 5)) w') := by
    have hq := HP.out.below hbel3
    refine refAct_calls _ _ (Ref.of (s := s.worn i) (K := K + 1) (db := db) (wb := g1) (bb := bb) (L := L) (LC := LC) ?_ ⟨hq.data, HR3.out.of_eq ((Below.heap_alloc W3.drew _ g1 HR3.out.lt)), hq.bad, hq.rows, hq.cut, hq.fits.worn i hin, hq.geo, hq.lw, by omega⟩ ⟨HR.out.1, hc1, HR.out.2.2.1, HR.out.2.2.2.1, hc2, HR.out.2.2.2.2.2⟩) i hin 0 z z _ _ false (zeros_bs z W3.drew) (by omega) (by omega) (Nat.le_trans hlo hbel3.size) (by omega) HON.out
    rw [refVal, show (s.worn i).on = true from HON.out]
    rfl
  have HA := Lib.hid hA
  clear hA
  have hmk := run_zeros z hg.2.2.2
  have HX4 := Lib.hid (HX3.out.below (W' := W3.drew.alloc (.cells (zeros z) 5)) ((Below.refl _ _).drew.alloc (Nat.le_refl _) _))
  go_region_law (go_simp; go_at_call 49; refine (HA.out).mono ?_; rintro e w5 ⟨v', rfl, ⟨db', dc', wb', wc', bb', bc', cuts', left', whole', mask', L', LC', rfl, hP5, hr5⟩, hb5⟩; have HX5 := Lib.hid (HX4.out.below hb5); have HP5 := Lib.hid hP5; have HR5 := Lib.hid hr5; have HBB5 := Lib.hid hb5; clear hP5 hr5 hb5; clear t0 t1 t2 t3 t4 t5 t6 t7 t8 t9 t10 t11; obtain ⟨z0, z1, z2, z3, z4, z5, z6, z7, z8, z9, z10, z11, f0, f1, f2, f3, f4, f5, f6, f7, f8, f9, f10, f11⟩ := twelveZ HX5.out.res; unfold refVal; try dsimp only)
  all_goals
    have hp6 := fun c0 c1 c2 c3 c4 c5 c6 c7 c8 c9 c10 c11 => stored12 HX5.out.res c0 c1 c2 c3 c4 c5 c6 c7 c8 c9 c10 c11
    have HS6 := Lib.hid hp6
    clear hp6 z0 z1 z2 z3 z4 z5 z6 z7 z8 z9 z10 z11 f0 f1 f2 f3 f4 f5 f6 f7 f8 f9 f10 f11 hmk
    go_wp2_with fail
    refine bodyPost_ret (v := .tuple #[.int .i64 ((s.worn i).act i false 0 (List.replicate z 0)).1, .agg (rc n z db' dc' wb' wc' bb' bc' (!((s.worn i).act i false 0 (List.replicate z 0)).2.on) ((s.worn i).act i false 0 (List.replicate z 0)).2.offs ((s.worn i).act i false 0 (List.replicate z 0)).2.acts cuts' left' whole' mask')]) ?_ rfl ⟨_, rfl, Ref.of rfl (RefP.other HP5.out HX5.out.res (HS6.out _ _ _ _ _ _ _ _ _ _ _ _).2) HR5.out, HX5.out.done (HS6.out _ _ _ _ _ _ _ _ _ _ _ _).2⟩
    exact results_tmp_row (fn := Try.f32) rfl _ _ (w.heap.size + 1) 35 _ (0, 0) _ rfl (HS6.out _ _ _ _ _ _ _ _ _ _ _ _).1 Try.underlying35 rfl info_ref
theorem refErase_calls (w : World) (v : Value) (h : Ref w lo n z K s v) (se : Int) (hlo : lo ≤ w.heap.size) (hK : K + 3 ≤ 1000000) :
    Calls Try.prog 32 #[v, .int .i64 se] w fun e w' => ∃ v', e = .returned (.tuple #[.int .i64 (s.erase n z se).1, v']) ∧ Ref w' lo n z (K + 2) (s.erase n z se).2 v' ∧ Below w.heap.size w w' := by
  have stay : ∀ w' v', Ref w' lo n z K s v' → Ref w' lo n z (K + 2) s v' := fun w' v' h => h.more (by omega) (by omega)
  by_cases hon : s.on = false
  · have e : s.erase n z se = (7, s) := by unfold St.erase; rw [if_pos hon]
    rw [e]
    exact (refErase_off w v h se hon).mono fun e w' ⟨v', he, hv, hw⟩ => ⟨v', he, stay _ _ hv, hw⟩
  · have hon' : s.on = true := by simpa using hon
    by_cases hse : se < 0 ∨ (n : Int) ≤ se
    · have e : s.erase n z se = (1, s) := by unfold St.erase; rw [if_neg hon, if_pos hse]
      rw [e]
      by_cases h0 : se < 0
      · exact (refErase_neg w v h se hon' h0).mono fun e w' ⟨v', he, hv, hw⟩ => ⟨v', he, stay _ _ hv, hw⟩
      · exact (refErase_big w v h se hon' (by omega)).mono fun e w' ⟨v', he, hv, hw⟩ => ⟨v', he, stay _ _ hv, hw⟩
    · obtain ⟨i, rfl⟩ := Int.eq_ofNat_of_zero_le (show 0 ≤ se by omega)
      have hin : i < n := by omega
      cases hbad : s.bad.getD i false with
      | true =>
        have e : s.erase n z i = (8, s) := by unfold St.erase; rw [if_neg hon, if_neg hse, Int.toNat_natCast, if_pos hbad]
        rw [e]
        exact (refErase_bad w v h i hon' hin hbad).mono fun e w' ⟨v', he, hv, hw⟩ => ⟨v', he, stay _ _ hv, hw⟩
      | false =>
        have e : s.erase n z i = (s.worn i).act i false 0 (List.replicate z 0) := by unfold St.erase; rw [if_neg hon, if_neg hse, Int.toNat_natCast, if_neg (by rw [hbad]; decide)]
        rw [e]
        exact refErase_ok w v h i hlo hK hon' hin hbad
end
end Go.Proofs.Ytdcmpkohengnaaa.NorZ
