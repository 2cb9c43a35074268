/- Do, Read. -/
import Derived.Test.YtdcmpkohengnaaaNorDr
import Derived.IntWalk
namespace Go.Proofs.Ytdcmpkohengnaaa.NorDs
set_option linter.unusedVariables false
set_option linter.unusedSimpArgs false
open Go.RowKit
open Go.Proofs.Ytdcmpkohengnaaa.Byte Go.Proofs.Ytdcmpkohengnaaa.NorD Go.Proofs.Ytdcmpkohengnaaa.NorM Go.Proofs.Ytdcmpkohengnaaa.NorS Go.Proofs.Ytdcmpkohengnaaa.NorF Go.Proofs.Ytdcmpkohengnaaa.NorG Go.Proofs.Ytdcmpkohengnaaa.NorH Go.Proofs.Ytdcmpkohengnaaa.NorB Go.Proofs.Ytdcmpkohengnaaa.NorP Go.Proofs.Ytdcmpkohengnaaa.NorR Go.Proofs.Ytdcmpkohengnaaa.NorU Go.Proofs.Ytdcmpkohengnaaa.NorV Go.Proofs.Ytdcmpkohengnaaa.NorX Go.Proofs.Ytdcmpkohengnaaa.NorY Go.Proofs.Ytdcmpkohengnaaa.NorZ Go.Proofs.Ytdcmpkohengnaaa.NorI Go.Proofs.Ytdcmpkohengnaaa.NorJ Go.Proofs.Ytdcmpkohengnaaa.NorK Go.Proofs.Ytdcmpkohengnaaa.NorL Go.Proofs.Ytdcmpkohengnaaa.NorDo Go.Proofs.Ytdcmpkohengnaaa.NorDp Go.Proofs.Ytdcmpkohengnaaa.NorDr Go.Proofs.Ytdcmpkohengnaaa.PlaceM Go.Proofs.Ytdcmpkohengnaaa.PlaceV

section
variable {P : Program} {ops : Array Oper} {w : World} {Q : Act → Prop} {a : Act} {o : Oper} {rest : List Oper}
theorem lit_drew {id : Nat} {Q : Exit → Act → World → Prop} {l : List Oper} (hm : P.follows .mixedOrders = true) (hB : Region.lexB .any l.toArray = true) (h : WLeft P l.toArray w.drew (fun a' => Q .normal a' w.drew) l a) : (Code.region id l.toArray true).wp P Q a w := wp_region_still_lit hm hB h.out
theorem still_ent (v : Value) {f : FuncId} {args : Array Value} (hw : Region.wanted o (yielded ops a.tmps) = true) (hr : (execOp a.eval o).run P w = .ok (.enter f args) w) (hc : Calls P f args w (fun e w'' => e = .returned v ∧ w'' = w)) (h : WLeft P ops w Q rest (a.put o.dst v)) : WLeft P ops w Q (o :: rest) a :=
  ⟨wpStill_step fun K hK => by
    rw [if_pos hw]
    unfold Oper.still
    rw [hr]
    exact ⟨rfl, v, hc, hK _ h.out⟩⟩
theorem still_index {t : TypeId} {x y : Operand} (u u' : Value) {v : Value} (ho : o.op = .indexAddr t x y) (hx : a.eval x = u) (hy : a.eval y = u') (hr : (Instr.indexAt t u u').run P w = .ok v w) : (execOp a.eval o).run P w = .ok (.value v) w := by
  unfold execOp
  rw [ho]
  simp only [hx, hy, Sem.run_bind, hr, Result.andThen_ok, Sem.run_pure]
theorem still_slice {t : TypeId} {x l h : Operand} (u u' u'' : Value) {v : Value} (ho : o.op = .slice t x (some l) (some h) none) (hx : a.eval x = u) (hl : a.eval l = u') (hh : a.eval h = u'') (hr : (Instr.sliceAt t u (some u') (some u'') none).run P w = .ok v w) : (execOp a.eval o).run P w = .ok (.value v) w := by
  unfold execOp
  rw [ho]
  simp only [hx, hl, hh, Sem.run_bind, hr, Result.andThen_ok, Sem.run_pure, Option.map_some, Option.map_none]
/-- clear of no byte. -/
theorem wpList_clear_none {Q : Exit → Act → World → Prop} (hgd : o.guard = none) (s : Operand) (t e : TypeId)
    (ho : o.op = .call { callee := .builtin .clear, args := #[s], argTypes := #[t] }) (ht : P.underlying t = some (.slice e)) (A : Option Addr) (c : Nat) (hs : a.eval s = .slice A 0 c)
    (h : wpList P ops Q rest (a.put o.dst (.tuple #[])) w) : wpList P ops Q (o :: rest) a w := by
  refine wpList_plain hgd fun K hK => ?_
  have hr : (Builtin.clear_ #[t] o.type #[.slice A 0 c]).run P w = .ok (.tuple #[]) w := by
    cases A <;> simp [Builtin.clear_, run_underlying ht]
  unfold Oper.wp execOp
  simp only [ho, resolve, invoke, builtin, Sem.run_bind, Sem.run_pure, Result.andThen_ok, List.map_toArray, List.map_cons, List.map_nil, hs, hr]
  exact hK _ _ h
end
section
variable {lo hi d n z K : Nat} {s : St}
theorem dread_off (w : World) (hD : Dev w lo hi d n z K s) (x y : Nat) (m : Int) (hon : s.on = false) :
    Calls Try.prog 22 #[.pointer (some ⟨d, 0, none⟩), .complex .f64 x y, .int .i64 m] w fun e w' => e = .returned (.tuple #[.slice none 0 0, .int .i64 7]) ∧ Below w.heap.size w w' := by
  obtain ⟨_, _, _, _, _, _, _, _, _, h⟩ := hD
  exact (read_off w h x y m hon).mono fun e w' ⟨h1, h2⟩ => ⟨h1, by subst h2; exact Below.refl _ _⟩
theorem dread_arg (w : World) (hD : Dev w lo hi d n z K s) (x y : Nat) (m : Int) (hon : s.on = true) (hx : rt x = true) (hy : rt y = true) (hin : inside n z (nm x) (nm y) m = false) :
    Calls Try.prog 22 #[.pointer (some ⟨d, 0, none⟩), .complex .f64 x y, .int .i64 m] w fun e w' => e = .returned (.tuple #[.slice none 0 0, .int .i64 1]) ∧ Below w.heap.size w w' := by
  obtain ⟨_, _, _, _, _, _, _, _, _, h⟩ := hD
  exact read_arg w h x y m hon hx hy hin
theorem dread_ok (w : World) (hD : Dev w lo hi d n z K s) (x y : Nat) (m i off : Nat) (hon : s.on = true) (hx : rt x = true) (hy : rt y = true) (hi' : nm x = i) (ho : nm y = off) (hin : inside n z i off m = true) :
    Calls Try.prog 22 #[.pointer (some ⟨d, 0, none⟩), .complex .f64 x y, .int .i64 m] w
      fun e w' => ∃ g cap, e = .returned (.tuple #[.slice (some ⟨g, 0, none⟩) m cap, .int .i64 0]) ∧ Ob w' w.heap.size 5 g m cap (((s.row i).drop off).take m) ∧ Below w.heap.size w w' := by
  obtain ⟨_, _, _, _, _, _, _, _, _, h⟩ := hD
  exact read_ok w h x y m i off hon hx hy hi' ho hin
end
theorem part_of {w : World} {L z c off m : Nat} {row : List Int} (h : Bs w (some ⟨L, 0, none⟩) z row) (hc : z ≤ c) (hm : off + m ≤ z) :
    ∃ A2 c2, (Instr.sliceAt 38 (.slice (some ⟨L, 0, none⟩) z c) (some (.int .i64 (off : Int))) (some (.int .i64 ((off : Int) + m))) none).run Try.prog w = .ok (.slice A2 m c2) w ∧ Bs w A2 m ((row.drop off).take m) := by
  have hs : (sizeOf (Try.prog.elem 38)).run Try.prog w = .ok 1 w := by kernel_rfl
  have e1 : ((off : Int) + m).toNat - (off : Int).toNat = m := by omega
  refine ⟨if c = off then some ⟨L, 0, none⟩ else some ⟨L, off, none⟩, c - off, ?_, ?_⟩
  · have hT : Try.prog.underlying 38 = some (.slice (Try.prog.elem 38)) := by kernel_rfl
    have r := run_slice_lh (P := Try.prog) (w := w) 38 (some ⟨L, 0, none⟩) z c hT .i64 .i64 (off : Int) ((off : Int) + m) (by omega) (by omega) (by omega)
    rw [hs] at r
    rw [run_sliceAt_slice (h := hT), r]
    show Result.ok _ w = _
    unfold sliced
    rw [e1]
    have e2 : (off : Int).toNat = off := by omega
    rw [e2]
    by_cases e : c = off
    · simp [e]
    · simp [e, Addr.add]
      omega
  · by_cases e : c = off
    · obtain rfl : m = 0 := by omega
      rw [List.take_zero]
      exact Bs.nil_ _ _
    · rw [if_neg e]
      have := h.sub off m hm
      rwa [Nat.zero_add] at this
theorem at_of {w : World} {db n dc i : Nat} (hi : i < n) : (Instr.indexAt 31 (.slice (some ⟨db, 0, none⟩) n dc) (.int .i64 (i : Int))).run Try.prog w = .ok (.pointer (some ⟨db, i, none⟩)) w := by
  have hs : (sizeOf (Try.prog.elem 31)).run Try.prog w = .ok 1 w := by kernel_rfl
  have hT : Try.prog.underlying 31 = some (.slice (Try.prog.elem 31)) := by kernel_rfl
  rw [run_indexAt_slice (h := hT), if_pos (by omega), hs]
  have e2 : (i : Int).toNat = i := by omega
  simp [Addr.add, e2]
  omega
theorem zero_u8 (w : World) : (zeroValue 5).run Try.prog w = .ok (.int .u8 0) w := by kernel_rfl
theorem DX.own {w W W' : World} {lo hi g : Nat} {c oc : Array Value} (h : DX w W lo hi c oc) (hc : Chg (fun q => q = g) W W') (hg : w.heap.size + 1 + 1 < g) : DX w W' lo hi c oc :=
  ⟨h.box.chg hc (by omega), h.op.chg hc (by omega), h.res.chg hc (by omega), h.chg.then_ hc (fun i hi e => by omega)⟩

section
variable {lo hi d rl n z K : Nat} {D R : St}
set_option maxRecDepth 100000 in
set_option maxHeartbeats 1000000 in
theorem do_read_off_off (w : World) (v : Value) (hD : Dev w lo hi d n z K D) (hR : Ref w rl n z K R v) (hh : hi ≤ rl) (hl : rl ≤ w.heap.size) (hK : K + 3 ≤ 1000000) (se off : Int) (B : Option Addr) (bl bq : Nat) (m : Int) (kk mm : Int) (hon : D.on = false) (hron : R.on = false) (hm0 : -9223372036854775808 ≤ m) (hm1 : m ≤ 9223372036854775807) :
    Calls Try.prog 12 #[.pointer (some ⟨d, 0, none⟩), v, .agg #[.int .i64 2, .int .i64 se, .int .i64 off, .slice B bl bq, .int .i64 m, .int .i64 kk, .int .u8 mm]] w (DoPost w lo hi d rl n z (K) (D) (R) (D = R)) := by
  obtain ⟨db, dc, wb, wc, bb, bc, cuts, left, whole, mask, L, LC, rfl, hP, hr⟩ := hR
  have HP := Lib.hid hP
  have HR := Lib.hid hr
  have HX := Lib.hid (DX.of w lo hi (rc n z db dc wb wc bb bc (!R.on) R.offs R.acts cuts left whole mask) #[.int .i64 2, .int .i64 se, .int .i64 off, .slice B bl bq, .int .i64 m, .int .i64 kk, .int .u8 mm])
  have HD := Lib.hid (dev_below hD (three_below w (.cells (rc n z db dc wb wc bb bc (!R.on) R.offs R.acts cuts left whole mask) 35) (.cells #[.int .i64 2, .int .i64 se, .int .i64 off, .slice B bl bq, .int .i64 m, .int .i64 kk, .int .u8 mm] 40) (.cells zeroRef 35)))
  clear hP hr hD
  have hhw : hi ≤ w.heap.size := by omega
  unfold refVal
  have HON := Lib.hid hon
  have HRON := Lib.hid hron
  clear hon hron
  go_enter Try.func12, Try.ntmps12
  go_upto_region 1 with (fail)
  change Code.wp _ _ _ _ (((w.alloc (.cells (rc n z db dc wb wc bb bc (!R.on) R.offs R.acts cuts left whole mask) 35)).alloc (.cells #[.int .i64 2, .int .i64 se, .int .i64 off, .slice B bl bq, .int .i64 m, .int .i64 kk, .int .u8 mm] 40)).alloc (.cells zeroRef 35))
  generalize ((w.alloc (.cells (rc n z db dc wb wc bb bc (!R.on) R.offs R.acts cuts left whole mask) 35)).alloc (.cells #[.int .i64 2, .int .i64 se, .int .i64 off, .slice B bl bq, .int .i64 m, .int .i64 kk, .int .u8 mm] 40)).alloc (.cells zeroRef 35) = W at *
  have o0 : W.cell? ⟨w.heap.size + 1, 0, none⟩ = some (.int .i64 2) := HX.out.op.cell 0
  have o1 : W.cell? ⟨w.heap.size + 1, 1, none⟩ = some (.int .i64 se) := HX.out.op.cell 1
  have o2 : W.cell? ⟨w.heap.size + 1, 2, none⟩ = some (.int .i64 off) := HX.out.op.cell 2
  have o4 : W.cell? ⟨w.heap.size + 1, 4, none⟩ = some (.int .i64 m) := HX.out.op.cell 4
  go_wp2_with (first
    | (go_at_call 17; refine (of_num _ _ _).mono ?_; rintro e w' ⟨x, y, rfl, hxy, rfl⟩; have HXY := Lib.hid hxy; clear hxy)
    | (go_at_call 22; refine (dread_off W HD.out x y _ HON.out).mono ?_; rintro e w1 ⟨rfl, hb1⟩; have HX1 := Lib.hid (HX.out.below hb1 hhw); have HD1 := Lib.hid (dev_below HD.out hb1); clear hb1 o0 o1 o2 o4; have HTW := Lib.hid (twelve HX1.out.box); have t5 : w1.cell? ⟨w.heap.size, 5, none⟩ = some (.bool true) := (by have := HTW.out.2.2.2.2.2.1; rw [HRON.out] at this; exact this); have t0 := HTW.out.1; have t1 := HTW.out.2.1; have o4 : w1.cell? ⟨w.heap.size + 1, 4, none⟩ = some (.int .i64 m) := HX1.out.op.cell 4))
  have HXw := Lib.hid HX1.out.drew
  have HDw := Lib.hid (dev_below HD1.out ((Below.refl _ w1).drew))
  refine wp_region_still_tail 9 (by kernel_rfl) (by kernel_rfl) ?_
  change wpStill _ _ w1.drew (fun a' => wpList _ _ _ _ a' w1.drew) _ _
  simp only [List.take_succ_cons, List.take_zero, List.drop_succ_cons, List.drop_zero]
  refine WLeft.out ?_
  refine still_val (.int .i64 7) (by kernel_rfl) (by kernel_rfl) ?_
  refine still_val (.bool true) (by kernel_rfl) (by kernel_rfl) ?_
  refine still_val (.bool true) (by kernel_rfl) (by kernel_rfl) ?_
  refine still_val (.slice none 0 0) (by kernel_rfl) (by kernel_rfl) ?_
  refine still_val (.int .i64 0) (by kernel_rfl) (by kernel_rfl) ?_
  refine still_val (.bool true) (by kernel_rfl) (by kernel_rfl) ?_
  refine still_val (.bool true) (by kernel_rfl) (by kernel_rfl) ?_
  refine still_val (.agg (rc n z db dc wb wc bb bc (!R.on) R.offs R.acts cuts left whole mask)) (by kernel_rfl) (still_load (.pointer (some ⟨w.heap.size, 0, none⟩)) rfl (by kernel_rfl) (load_blk HXw.out.box Try.underlying35 rfl info_ref)) ?_
  refine still_val (.bool true) (by kernel_rfl) (by kernel_rfl) ?_
  refine still_end ?_
  simp only [Act.put, List.setIfInBounds_toArray, List.set_cons_zero, List.set_cons_succ]
  go_wp2_with ((with_reducible refine pick none ?_); refine wpList_store_blk rfl 35 _ _ rfl (w.heap.size + 1 + 1) (rc n z db dc wb wc bb bc (!R.on) R.offs R.acts cuts left whole mask) rfl rfl 35 zeroRef HXw.out.res info_ref rfl (rc_one _ _ _ _ _ _ _ _ _ _ _ _ _ _ _) ?_; intro w6 hb6 hg6)
  refine bodyPost_ret (v := .tuple #[.bool true, .agg (rc n z db dc wb wc bb bc (!R.on) R.offs R.acts cuts left whole mask)]) ?_ rfl ⟨true, _, rfl, fun _ => rfl, dev_chg HDw.out hg6 (fun k h1 h2 e => by omega), Ref.of rfl (RefP.other (refP_chg HP.out HXw.out.chg hh) HXw.out.res hg6) HR.out, HXw.out.done hg6⟩
  exact results_tmp_row (fn := Try.f12) rfl _ _ (w.heap.size + 1 + 1) 35 _ (0, 0) _ rfl hb6 Try.underlying35 rfl info_ref
set_option maxRecDepth 100000 in
set_option maxHeartbeats 1000000 in
theorem do_read_off_arg (w : World) (v : Value) (hD : Dev w lo hi d n z K D) (hR : Ref w rl n z K R v) (hh : hi ≤ rl) (hl : rl ≤ w.heap.size) (hK : K + 3 ≤ 1000000) (se off : Int) (B : Option Addr) (bl bq : Nat) (m : Int) (kk mm : Int) (hon : D.on = false) (hron : R.on = true) (hin : inside n z (pl se off).1 (pl se off).2 m = false) (hm0 : -9223372036854775808 ≤ m) (hm1 : m ≤ 9223372036854775807) :
    Calls Try.prog 12 #[.pointer (some ⟨d, 0, none⟩), v, .agg #[.int .i64 2, .int .i64 se, .int .i64 off, .slice B bl bq, .int .i64 m, .int .i64 kk, .int .u8 mm]] w (DoPost w lo hi d rl n z (K) (D) (R) (D = R)) := by
  obtain ⟨db, dc, wb, wc, bb, bc, cuts, left, whole, mask, L, LC, rfl, hP, hr⟩ := hR
  have HP := Lib.hid hP
  have HR := Lib.hid hr
  have HX := Lib.hid (DX.of w lo hi (rc n z db dc wb wc bb bc (!R.on) R.offs R.acts cuts left whole mask) #[.int .i64 2, .int .i64 se, .int .i64 off, .slice B bl bq, .int .i64 m, .int .i64 kk, .int .u8 mm])
  have HD := Lib.hid (dev_below hD (three_below w (.cells (rc n z db dc wb wc bb bc (!R.on) R.offs R.acts cuts left whole mask) 35) (.cells #[.int .i64 2, .int .i64 se, .int .i64 off, .slice B bl bq, .int .i64 m, .int .i64 kk, .int .u8 mm] 40) (.cells zeroRef 35)))
  clear hP hr hD
  have hhw : hi ≤ w.heap.size := by omega
  unfold refVal
  have HON := Lib.hid hon
  have HRON := Lib.hid hron
  clear hon hron
  have HIN := Lib.hid hin
  go_enter Try.func12, Try.ntmps12
  go_upto_region 1 with (fail)
  change Code.wp _ _ _ _ (((w.alloc (.cells (rc n z db dc wb wc bb bc (!R.on) R.offs R.acts cuts left whole mask) 35)).alloc (.cells #[.int .i64 2, .int .i64 se, .int .i64 off, .slice B bl bq, .int .i64 m, .int .i64 kk, .int .u8 mm] 40)).alloc (.cells zeroRef 35))
  generalize ((w.alloc (.cells (rc n z db dc wb wc bb bc (!R.on) R.offs R.acts cuts left whole mask) 35)).alloc (.cells #[.int .i64 2, .int .i64 se, .int .i64 off, .slice B bl bq, .int .i64 m, .int .i64 kk, .int .u8 mm] 40)).alloc (.cells zeroRef 35) = W at *
  have o0 : W.cell? ⟨w.heap.size + 1, 0, none⟩ = some (.int .i64 2) := HX.out.op.cell 0
  have o1 : W.cell? ⟨w.heap.size + 1, 1, none⟩ = some (.int .i64 se) := HX.out.op.cell 1
  have o2 : W.cell? ⟨w.heap.size + 1, 2, none⟩ = some (.int .i64 off) := HX.out.op.cell 2
  have o4 : W.cell? ⟨w.heap.size + 1, 4, none⟩ = some (.int .i64 m) := HX.out.op.cell 4
  clear hin
  have hz4 := HP.out.geo.2.2.2
  have hn64 := HP.out.geo.2.1
  go_wp2_with (first
    | (go_at_call 17; refine (of_num _ _ _).mono ?_; rintro e w' ⟨x, y, rfl, hxy, rfl⟩; have HXY := Lib.hid hxy; clear hxy)
    | (go_at_call 22; refine (dread_off W HD.out x y _ HON.out).mono ?_; rintro e w1 ⟨rfl, hb1⟩; have HX1 := Lib.hid (HX.out.below hb1 hhw); have HD1 := Lib.hid (dev_below HD.out hb1); clear hb1 o0 o1 o2 o4; have HTW := Lib.hid (twelve HX1.out.box); have t5 : w1.cell? ⟨w.heap.size, 5, none⟩ = some (.bool false) := (by have := HTW.out.2.2.2.2.2.1; rw [HRON.out] at this; exact this); have t0 := HTW.out.1; have t1 := HTW.out.2.1; have o4 : w1.cell? ⟨w.heap.size + 1, 4, none⟩ = some (.int .i64 m) := HX1.out.op.cell 4)
    | (go_at_call 33; refine (refWithin_calls (n := n) (z := z) x y _ _ HXY.out.1 HXY.out.2.1 (by omega) (by omega) hn64 hz4).mono ?_; rw [HXY.out.2.2.1, HXY.out.2.2.2, HIN.out]; rintro e w2 ⟨rfl, hb2⟩; have HX2 := Lib.hid (HX1.out.below hb2 hhw); have HD2 := Lib.hid (dev_below HD1.out hb2); have HB2 := Lib.hid hb2; clear hb2 t0 t1 t5 o4))
  have HXw := Lib.hid HX2.out.drew
  have HDw := Lib.hid (dev_below HD2.out ((Below.refl _ w2).drew))
  refine wp_region_still_tail 9 (by kernel_rfl) (by kernel_rfl) ?_
  change wpStill _ _ w2.drew (fun a' => wpList _ _ _ _ a' w2.drew) _ _
  simp only [List.take_succ_cons, List.take_zero, List.drop_succ_cons, List.drop_zero]
  refine WLeft.out ?_
  refine still_val (.int .i64 7) (by kernel_rfl) (by kernel_rfl) ?_
  refine still_val (.bool false) (by kernel_rfl) (by kernel_rfl) ?_
  refine still_val (.bool false) (by kernel_rfl) (by kernel_rfl) ?_
  refine still_skip (by kernel_rfl) ?_
  refine still_skip (by kernel_rfl) ?_
  refine still_skip (by kernel_rfl) ?_
  refine still_val (.bool false) (by kernel_rfl) (by kernel_rfl) ?_
  refine still_val (.agg (rc n z db dc wb wc bb bc (!R.on) R.offs R.acts cuts left whole mask)) (by kernel_rfl) (still_load (.pointer (some ⟨w.heap.size, 0, none⟩)) rfl (by kernel_rfl) (load_blk HXw.out.box Try.underlying35 rfl info_ref)) ?_
  refine still_val (.bool false) (by kernel_rfl) (by kernel_rfl) ?_
  refine still_end ?_
  simp only [Act.put, List.setIfInBounds_toArray, List.set_cons_zero, List.set_cons_succ]
  go_wp2_with ((with_reducible refine pick none ?_); refine wpList_store_blk rfl 35 _ _ rfl (w.heap.size + 1 + 1) (rc n z db dc wb wc bb bc (!R.on) R.offs R.acts cuts left whole mask) rfl rfl 35 zeroRef HXw.out.res info_ref rfl (rc_one _ _ _ _ _ _ _ _ _ _ _ _ _ _ _) ?_; intro w6 hb6 hg6)
  refine bodyPost_ret (v := .tuple #[.bool false, .agg (rc n z db dc wb wc bb bc (!R.on) R.offs R.acts cuts left whole mask)]) ?_ rfl ⟨false, _, rfl, fun e => (by have h1 := HON.out; have h2 := HRON.out; rw [e] at h1; rw [h1] at h2; cases h2), dev_chg HDw.out hg6 (fun k h1 h2 e => by omega), Ref.of rfl (RefP.other (refP_chg HP.out HXw.out.chg hh) HXw.out.res hg6) HR.out, HXw.out.done hg6⟩
  exact results_tmp_row (fn := Try.f12) rfl _ _ (w.heap.size + 1 + 1) 35 _ (0, 0) _ rfl hb6 Try.underlying35 rfl info_ref
set_option maxRecDepth 100000 in
set_option maxHeartbeats 1000000 in
theorem do_read_arg_off (w : World) (v : Value) (hD : Dev w lo hi d n z K D) (hR : Ref w rl n z K R v) (hh : hi ≤ rl) (hl : rl ≤ w.heap.size) (hK : K + 3 ≤ 1000000) (se off : Int) (B : Option Addr) (bl bq : Nat) (m : Int) (kk mm : Int) (hon : D.on = true) (hron : R.on = false) (hin : inside n z (pl se off).1 (pl se off).2 m = false) (hm0 : -9223372036854775808 ≤ m) (hm1 : m ≤ 9223372036854775807) :
    Calls Try.prog 12 #[.pointer (some ⟨d, 0, none⟩), v, .agg #[.int .i64 2, .int .i64 se, .int .i64 off, .slice B bl bq, .int .i64 m, .int .i64 kk, .int .u8 mm]] w (DoPost w lo hi d rl n z (K) (D) (R) (D = R)) := by
  obtain ⟨db, dc, wb, wc, bb, bc, cuts, left, whole, mask, L, LC, rfl, hP, hr⟩ := hR
  have HP := Lib.hid hP
  have HR := Lib.hid hr
  have HX := Lib.hid (DX.of w lo hi (rc n z db dc wb wc bb bc (!R.on) R.offs R.acts cuts left whole mask) #[.int .i64 2, .int .i64 se, .int .i64 off, .slice B bl bq, .int .i64 m, .int .i64 kk, .int .u8 mm])
  have HD := Lib.hid (dev_below hD (three_below w (.cells (rc n z db dc wb wc bb bc (!R.on) R.offs R.acts cuts left whole mask) 35) (.cells #[.int .i64 2, .int .i64 se, .int .i64 off, .slice B bl bq, .int .i64 m, .int .i64 kk, .int .u8 mm] 40) (.cells zeroRef 35)))
  clear hP hr hD
  have hhw : hi ≤ w.heap.size := by omega
  unfold refVal
  have HON := Lib.hid hon
  have HRON := Lib.hid hron
  clear hon hron
  have HIN := Lib.hid hin
  go_enter Try.func12, Try.ntmps12
  go_upto_region 1 with (fail)
  change Code.wp _ _ _ _ (((w.alloc (.cells (rc n z db dc wb wc bb bc (!R.on) R.offs R.acts cuts left whole mask) 35)).alloc (.cells #[.int .i64 2, .int .i64 se, .int .i64 off, .slice B bl bq, .int .i64 m, .int .i64 kk, .int .u8 mm] 40)).alloc (.cells zeroRef 35))
  generalize ((w.alloc (.cells (rc n z db dc wb wc bb bc (!R.on) R.offs R.acts cuts left whole mask) 35)).alloc (.cells #[.int .i64 2, .int .i64 se, .int .i64 off, .slice B bl bq, .int .i64 m, .int .i64 kk, .int .u8 mm] 40)).alloc (.cells zeroRef 35) = W at *
  have o0 : W.cell? ⟨w.heap.size + 1, 0, none⟩ = some (.int .i64 2) := HX.out.op.cell 0
  have o1 : W.cell? ⟨w.heap.size + 1, 1, none⟩ = some (.int .i64 se) := HX.out.op.cell 1
  have o2 : W.cell? ⟨w.heap.size + 1, 2, none⟩ = some (.int .i64 off) := HX.out.op.cell 2
  have o4 : W.cell? ⟨w.heap.size + 1, 4, none⟩ = some (.int .i64 m) := HX.out.op.cell 4
  clear hin
  have hz4 := HP.out.geo.2.2.2
  have hn64 := HP.out.geo.2.1
  go_wp2_with (first
    | (go_at_call 17; refine (of_num _ _ _).mono ?_; rintro e w' ⟨x, y, rfl, hxy, rfl⟩; have HXY := Lib.hid hxy; clear hxy)
    | (go_at_call 22; refine (dread_arg W HD.out x y _ HON.out HXY.out.1 HXY.out.2.1 (by rw [HXY.out.2.2.1, HXY.out.2.2.2]; exact HIN.out)).mono ?_; rintro e w1 ⟨rfl, hb1⟩; have HX1 := Lib.hid (HX.out.below hb1 hhw); have HD1 := Lib.hid (dev_below HD.out hb1); clear hb1 o0 o1 o2 o4; have HTW := Lib.hid (twelve HX1.out.box); have t5 : w1.cell? ⟨w.heap.size, 5, none⟩ = some (.bool true) := (by have := HTW.out.2.2.2.2.2.1; rw [HRON.out] at this; exact this); have t0 := HTW.out.1; have t1 := HTW.out.2.1; have o4 : w1.cell? ⟨w.heap.size + 1, 4, none⟩ = some (.int .i64 m) := HX1.out.op.cell 4))
  have HXw := Lib.hid HX1.out.drew
  have HDw := Lib.hid (dev_below HD1.out ((Below.refl _ w1).drew))
  refine wp_region_still_tail 9 (by kernel_rfl) (by kernel_rfl) ?_
  change wpStill _ _ w1.drew (fun a' => wpList _ _ _ _ a' w1.drew) _ _
  simp only [List.take_succ_cons, List.take_zero, List.drop_succ_cons, List.drop_zero]
  refine WLeft.out ?_
  refine still_val (.int .i64 1) (by kernel_rfl) (by kernel_rfl) ?_
  refine still_val (.bool false) (by kernel_rfl) (by kernel_rfl) ?_
  refine still_val (.bool false) (by kernel_rfl) (by kernel_rfl) ?_
  refine still_skip (by kernel_rfl) ?_
  refine still_skip (by kernel_rfl) ?_
  refine still_skip (by kernel_rfl) ?_
  refine still_val (.bool false) (by kernel_rfl) (by kernel_rfl) ?_
  refine still_val (.agg (rc n z db dc wb wc bb bc (!R.on) R.offs R.acts cuts left whole mask)) (by kernel_rfl) (still_load (.pointer (some ⟨w.heap.size, 0, none⟩)) rfl (by kernel_rfl) (load_blk HXw.out.box Try.underlying35 rfl info_ref)) ?_
  refine still_val (.bool false) (by kernel_rfl) (by kernel_rfl) ?_
  refine still_end ?_
  simp only [Act.put, List.setIfInBounds_toArray, List.set_cons_zero, List.set_cons_succ]
  go_wp2_with ((with_reducible refine pick none ?_); refine wpList_store_blk rfl 35 _ _ rfl (w.heap.size + 1 + 1) (rc n z db dc wb wc bb bc (!R.on) R.offs R.acts cuts left whole mask) rfl rfl 35 zeroRef HXw.out.res info_ref rfl (rc_one _ _ _ _ _ _ _ _ _ _ _ _ _ _ _) ?_; intro w6 hb6 hg6)
  refine bodyPost_ret (v := .tuple #[.bool false, .agg (rc n z db dc wb wc bb bc (!R.on) R.offs R.acts cuts left whole mask)]) ?_ rfl ⟨false, _, rfl, fun e => (by have h1 := HON.out; have h2 := HRON.out; rw [e] at h1; rw [h1] at h2; cases h2), dev_chg HDw.out hg6 (fun k h1 h2 e => by omega), Ref.of rfl (RefP.other (refP_chg HP.out HXw.out.chg hh) HXw.out.res hg6) HR.out, HXw.out.done hg6⟩
  exact results_tmp_row (fn := Try.f12) rfl _ _ (w.heap.size + 1 + 1) 35 _ (0, 0) _ rfl hb6 Try.underlying35 rfl info_ref
set_option maxRecDepth 100000 in
set_option maxHeartbeats 1000000 in
theorem do_read_arg_arg (w : World) (v : Value) (hD : Dev w lo hi d n z K D) (hR : Ref w rl n z K R v) (hh : hi ≤ rl) (hl : rl ≤ w.heap.size) (hK : K + 3 ≤ 1000000) (se off : Int) (B : Option Addr) (bl bq : Nat) (m : Int) (kk mm : Int) (hon : D.on = true) (hron : R.on = true) (hin : inside n z (pl se off).1 (pl se off).2 m = false) (hm0 : -9223372036854775808 ≤ m) (hm1 : m ≤ 9223372036854775807) :
    Calls Try.prog 12 #[.pointer (some ⟨d, 0, none⟩), v, .agg #[.int .i64 2, .int .i64 se, .int .i64 off, .slice B bl bq, .int .i64 m, .int .i64 kk, .int .u8 mm]] w (DoPost w lo hi d rl n z (K) (D) (R) (D = R)) := by
  obtain ⟨db, dc, wb, wc, bb, bc, cuts, left, whole, mask, L, LC, rfl, hP, hr⟩ := hR
  have HP := Lib.hid hP
  have HR := Lib.hid hr
  have HX := Lib.hid (DX.of w lo hi (rc n z db dc wb wc bb bc (!R.on) R.offs R.acts cuts left whole mask) #[.int .i64 2, .int .i64 se, .int .i64 off, .slice B bl bq, .int .i64 m, .int .i64 kk, .int .u8 mm])
  have HD := Lib.hid (dev_below hD (three_below w (.cells (rc n z db dc wb wc bb bc (!R.on) R.offs R.acts cuts left whole mask) 35) (.cells #[.int .i64 2, .int .i64 se, .int .i64 off, .slice B bl bq, .int .i64 m, .int .i64 kk, .int .u8 mm] 40) (.cells zeroRef 35)))
  clear hP hr hD
  have hhw : hi ≤ w.heap.size := by omega
  unfold refVal
  have HON := Lib.hid hon
  have HRON := Lib.hid hron
  clear hon hron
  have HIN := Lib.hid hin
  go_enter Try.func12, Try.ntmps12
  go_upto_region 1 with (fail)
  change Code.wp _ _ _ _ (((w.alloc (.cells (rc n z db dc wb wc bb bc (!R.on) R.offs R.acts cuts left whole mask) 35)).alloc (.cells #[.int .i64 2, .int .i64 se, .int .i64 off, .slice B bl bq, .int .i64 m, .int .i64 kk, .int .u8 mm] 40)).alloc (.cells zeroRef 35))
  generalize ((w.alloc (.cells (rc n z db dc wb wc bb bc (!R.on) R.offs R.acts cuts left whole mask) 35)).alloc (.cells #[.int .i64 2, .int .i64 se, .int .i64 off, .slice B bl bq, .int .i64 m, .int .i64 kk, .int .u8 mm] 40)).alloc (.cells zeroRef 35) = W at *
  have o0 : W.cell? ⟨w.heap.size + 1, 0, none⟩ = some (.int .i64 2) := HX.out.op.cell 0
  have o1 : W.cell? ⟨w.heap.size + 1, 1, none⟩ = some (.int .i64 se) := HX.out.op.cell 1
  have o2 : W.cell? ⟨w.heap.size + 1, 2, none⟩ = some (.int .i64 off) := HX.out.op.cell 2
  have o4 : W.cell? ⟨w.heap.size + 1, 4, none⟩ = some (.int .i64 m) := HX.out.op.cell 4
  clear hin
  have hz4 := HP.out.geo.2.2.2
  have hn64 := HP.out.geo.2.1
  go_wp2_with (first
    | (go_at_call 17; refine (of_num _ _ _).mono ?_; rintro e w' ⟨x, y, rfl, hxy, rfl⟩; have HXY := Lib.hid hxy; clear hxy)
    | (go_at_call 22; refine (dread_arg W HD.out x y _ HON.out HXY.out.1 HXY.out.2.1 (by rw [HXY.out.2.2.1, HXY.out.2.2.2]; exact HIN.out)).mono ?_; rintro e w1 ⟨rfl, hb1⟩; have HX1 := Lib.hid (HX.out.below hb1 hhw); have HD1 := Lib.hid (dev_below HD.out hb1); clear hb1 o0 o1 o2 o4; have HTW := Lib.hid (twelve HX1.out.box); have t5 : w1.cell? ⟨w.heap.size, 5, none⟩ = some (.bool false) := (by have := HTW.out.2.2.2.2.2.1; rw [HRON.out] at this; exact this); have t0 := HTW.out.1; have t1 := HTW.out.2.1; have o4 : w1.cell? ⟨w.heap.size + 1, 4, none⟩ = some (.int .i64 m) := HX1.out.op.cell 4)
    | (go_at_call 33; refine (refWithin_calls (n := n) (z := z) x y _ _ HXY.out.1 HXY.out.2.1 (by omega) (by omega) hn64 hz4).mono ?_; rw [HXY.out.2.2.1, HXY.out.2.2.2, HIN.out]; rintro e w2 ⟨rfl, hb2⟩; have HX2 := Lib.hid (HX1.out.below hb2 hhw); have HD2 := Lib.hid (dev_below HD1.out hb2); have HB2 := Lib.hid hb2; clear hb2 t0 t1 t5 o4))
  have HXw := Lib.hid HX2.out.drew
  have HDw := Lib.hid (dev_below HD2.out ((Below.refl _ w2).drew))
  refine wp_region_still_tail 9 (by kernel_rfl) (by kernel_rfl) ?_
  change wpStill _ _ w2.drew (fun a' => wpList _ _ _ _ a' w2.drew) _ _
  simp only [List.take_succ_cons, List.take_zero, List.drop_succ_cons, List.drop_zero]
  refine WLeft.out ?_
  refine still_val (.int .i64 1) (by kernel_rfl) (by kernel_rfl) ?_
  refine still_val (.bool true) (by kernel_rfl) (by kernel_rfl) ?_
  refine still_val (.bool true) (by kernel_rfl) (by kernel_rfl) ?_
  refine still_val (.slice none 0 0) (by kernel_rfl) (by kernel_rfl) ?_
  refine still_val (.int .i64 0) (by kernel_rfl) (by kernel_rfl) ?_
  refine still_val (.bool true) (by kernel_rfl) (by kernel_rfl) ?_
  refine still_val (.bool true) (by kernel_rfl) (by kernel_rfl) ?_
  refine still_val (.agg (rc n z db dc wb wc bb bc (!R.on) R.offs R.acts cuts left whole mask)) (by kernel_rfl) (still_load (.pointer (some ⟨w.heap.size, 0, none⟩)) rfl (by kernel_rfl) (load_blk HXw.out.box Try.underlying35 rfl info_ref)) ?_
  refine still_val (.bool true) (by kernel_rfl) (by kernel_rfl) ?_
  refine still_end ?_
  simp only [Act.put, List.setIfInBounds_toArray, List.set_cons_zero, List.set_cons_succ]
  go_wp2_with ((with_reducible refine pick none ?_); refine wpList_store_blk rfl 35 _ _ rfl (w.heap.size + 1 + 1) (rc n z db dc wb wc bb bc (!R.on) R.offs R.acts cuts left whole mask) rfl rfl 35 zeroRef HXw.out.res info_ref rfl (rc_one _ _ _ _ _ _ _ _ _ _ _ _ _ _ _) ?_; intro w6 hb6 hg6)
  refine bodyPost_ret (v := .tuple #[.bool true, .agg (rc n z db dc wb wc bb bc (!R.on) R.offs R.acts cuts left whole mask)]) ?_ rfl ⟨true, _, rfl, fun _ => rfl, dev_chg HDw.out hg6 (fun k h1 h2 e => by omega), Ref.of rfl (RefP.other (refP_chg HP.out HXw.out.chg hh) HXw.out.res hg6) HR.out, HXw.out.done hg6⟩
  exact results_tmp_row (fn := Try.f12) rfl _ _ (w.heap.size + 1 + 1) 35 _ (0, 0) _ rfl hb6 Try.underlying35 rfl info_ref
set_option maxRecDepth 100000 in
set_option maxHeartbeats 1000000 in
theorem do_read_off_ok (w : World) (v : Value) (hD : Dev w lo hi d n z K D) (hR : Ref w rl n z K R v) (hh : hi ≤ rl) (hl : rl ≤ w.heap.size) (hK : K + 3 ≤ 1000000) (se off : Int) (B : Option Addr) (bl bq : Nat) (m : Nat) (kk mm : Int) (hon : D.on = false) (hron : R.on = true) (hin : inside n z (pl se off).1 (pl se off).2 m = true) :
    Calls Try.prog 12 #[.pointer (some ⟨d, 0, none⟩), v, .agg #[.int .i64 2, .int .i64 se, .int .i64 off, .slice B bl bq, .int .i64 m, .int .i64 kk, .int .u8 mm]] w (DoPost w lo hi d rl n z (K) (D) (R) (D = R)) := by
  obtain ⟨db, dc, wb, wc, bb, bc, cuts, left, whole, mask, L, LC, rfl, hP, hr⟩ := hR
  have HP := Lib.hid hP
  have HR := Lib.hid hr
  have HX := Lib.hid (DX.of w lo hi (rc n z db dc wb wc bb bc (!R.on) R.offs R.acts cuts left whole mask) #[.int .i64 2, .int .i64 se, .int .i64 off, .slice B bl bq, .int .i64 m, .int .i64 kk, .int .u8 mm])
  have HD := Lib.hid (dev_below hD (three_below w (.cells (rc n z db dc wb wc bb bc (!R.on) R.offs R.acts cuts left whole mask) 35) (.cells #[.int .i64 2, .int .i64 se, .int .i64 off, .slice B bl bq, .int .i64 m, .int .i64 kk, .int .u8 mm] 40) (.cells zeroRef 35)))
  clear hP hr hD
  have hhw : hi ≤ w.heap.size := by omega
  unfold refVal
  have HON := Lib.hid hon
  have HRON := Lib.hid hron
  clear hon hron
  have HIN := Lib.hid hin
  go_enter Try.func12, Try.ntmps12
  go_upto_region 1 with (fail)
  change Code.wp _ _ _ _ (((w.alloc (.cells (rc n z db dc wb wc bb bc (!R.on) R.offs R.acts cuts left whole mask) 35)).alloc (.cells #[.int .i64 2, .int .i64 se, .int .i64 off, .slice B bl bq, .int .i64 m, .int .i64 kk, .int .u8 mm] 40)).alloc (.cells zeroRef 35))
  generalize ((w.alloc (.cells (rc n z db dc wb wc bb bc (!R.on) R.offs R.acts cuts left whole mask) 35)).alloc (.cells #[.int .i64 2, .int .i64 se, .int .i64 off, .slice B bl bq, .int .i64 m, .int .i64 kk, .int .u8 mm] 40)).alloc (.cells zeroRef 35) = W at *
  have o0 : W.cell? ⟨w.heap.size + 1, 0, none⟩ = some (.int .i64 2) := HX.out.op.cell 0
  have o1 : W.cell? ⟨w.heap.size + 1, 1, none⟩ = some (.int .i64 se) := HX.out.op.cell 1
  have o2 : W.cell? ⟨w.heap.size + 1, 2, none⟩ = some (.int .i64 off) := HX.out.op.cell 2
  have o4 : W.cell? ⟨w.heap.size + 1, 4, none⟩ = some (.int .i64 m) := HX.out.op.cell 4
  have hin' := HIN.out
  unfold inside at hin'
  rw [decide_eq_true_eq] at hin'
  have hin2 : (pl se off).1 < n := by omega
  have hin3 : (pl se off).2 + m ≤ z := by omega
  have hz4 := HP.out.geo.2.2.2
  have hn64 := HP.out.geo.2.1
  clear hin' hin
  go_wp2_with (first
    | (go_at_call 17; refine (of_num _ _ _).mono ?_; rintro e w' ⟨x, y, rfl, hxy, rfl⟩; have HXY := Lib.hid hxy; clear hxy)
    | (go_at_call 22; refine (dread_off W HD.out x y _ HON.out).mono ?_; rintro e w1 ⟨rfl, hb1⟩; have HX1 := Lib.hid (HX.out.below hb1 hhw); have HD1 := Lib.hid (dev_below HD.out hb1); clear hb1 o0 o1 o2 o4; have HTW := Lib.hid (twelve HX1.out.box); have t5 : w1.cell? ⟨w.heap.size, 5, none⟩ = some (.bool false) := (by have := HTW.out.2.2.2.2.2.1; rw [HRON.out] at this; exact this); have t0 := HTW.out.1; have t1 := HTW.out.2.1; have o4 : w1.cell? ⟨w.heap.size + 1, 4, none⟩ = some (.int .i64 m) := HX1.out.op.cell 4)
    | (go_at_call 33; refine (refWithin_calls (n := n) (z := z) x y _ _ HXY.out.1 HXY.out.2.1 (by omega) (by omega) hn64 hz4).mono ?_; rw [HXY.out.2.2.1, HXY.out.2.2.2, HIN.out]; rintro e w2 ⟨rfl, hb2⟩; have HX2 := Lib.hid (HX1.out.below hb2 hhw); have HD2 := Lib.hid (dev_below HD1.out hb2); have HB2 := Lib.hid hb2; clear hb2 t0 t1 t5 o4)
    | (go_at_call 34; refine (offset_calls x y _ HXY.out.2.1).mono ?_; rw [HXY.out.2.2.2]; rintro e w' ⟨rfl, rfl⟩))
  have HXv := Lib.hid HX2.out.drew
  have HDv := Lib.hid (dev_below HD2.out ((Below.refl _ w2).drew))
  refine lit_drew (by kernel_rfl) (by kernel_rfl) ?_
  generalize hvw : w2.drew = Wv at *
  refine still_val (.int .i64 7) (by kernel_rfl) (by kernel_rfl) ?_
  refine still_val (.bool false) (by kernel_rfl) (by kernel_rfl) ?_
  refine still_val (.bool false) (by kernel_rfl) (by kernel_rfl) ?_
  refine still_skip (by kernel_rfl) ?_
  refine still_skip (by kernel_rfl) ?_
  refine still_skip (by kernel_rfl) ?_
  refine still_skip (by kernel_rfl) ?_
  refine still_skip (by kernel_rfl) ?_
  refine still_skip (by kernel_rfl) ?_
  refine still_skip (by kernel_rfl) ?_
  refine still_skip (by kernel_rfl) ?_
  refine still_skip (by kernel_rfl) ?_
  refine still_skip (by kernel_rfl) ?_
  refine still_skip (by kernel_rfl) ?_
  refine still_skip (by kernel_rfl) ?_
  refine still_skip (by kernel_rfl) ?_
  refine still_skip (by kernel_rfl) ?_
  refine still_skip (by kernel_rfl) ?_
  refine still_skip (by kernel_rfl) ?_
  refine still_val (.bool false) (by kernel_rfl) (by kernel_rfl) ?_
  refine still_val (.bool false) (by kernel_rfl) (by kernel_rfl) ?_
  refine still_end ?_
  simp only [Act.put, List.setIfInBounds_toArray, List.set_cons_zero, List.set_cons_succ]
  go_wp2_with ((with_reducible refine pick none ?_); refine wpList_clear_none rfl _ 38 5 rfl Try.underlying38 none 0 rfl ?_)
  have HXw := Lib.hid HXv.out.drew
  have HDw := Lib.hid (dev_below HDv.out ((Below.refl _ Wv).drew))
  refine wp_region_still_tail 3 (by kernel_rfl) (by kernel_rfl) ?_
  change wpStill _ _ Wv.drew (fun a' => wpList _ _ _ _ a' Wv.drew) _ _
  simp only [List.take_succ_cons, List.take_zero, List.drop_succ_cons, List.drop_zero]
  refine WLeft.out ?_
  refine still_val (.bool false) (by kernel_rfl) (by kernel_rfl) ?_
  refine still_val (.agg (rc n z db dc wb wc bb bc (!R.on) R.offs R.acts cuts left whole mask)) (by kernel_rfl) (still_load (.pointer (some ⟨w.heap.size, 0, none⟩)) rfl (by kernel_rfl) (load_blk HXw.out.box Try.underlying35 rfl info_ref)) ?_
  refine still_val (.bool false) (by kernel_rfl) (by kernel_rfl) ?_
  refine still_end ?_
  simp only [Act.put, List.setIfInBounds_toArray, List.set_cons_zero, List.set_cons_succ]
  go_wp2_with ((with_reducible refine pick none ?_); refine wpList_store_blk rfl 35 _ _ rfl (w.heap.size + 1 + 1) (rc n z db dc wb wc bb bc (!R.on) R.offs R.acts cuts left whole mask) rfl rfl 35 zeroRef HXw.out.res info_ref rfl (rc_one _ _ _ _ _ _ _ _ _ _ _ _ _ _ _) ?_; intro w6 hb6 hg6)
  refine bodyPost_ret (v := .tuple #[.bool false, .agg (rc n z db dc wb wc bb bc (!R.on) R.offs R.acts cuts left whole mask)]) ?_ rfl ⟨false, _, rfl, fun e => (by have h1 := HON.out; have h2 := HRON.out; rw [e] at h1; rw [h1] at h2; cases h2), dev_chg HDw.out hg6 (fun k h1 h2 e => by omega), Ref.of rfl (RefP.other (refP_chg HP.out HXw.out.chg hh) HXw.out.res hg6) HR.out, HXw.out.done hg6⟩
  exact results_tmp_row (fn := Try.f12) rfl _ _ (w.heap.size + 1 + 1) 35 _ (0, 0) _ rfl hb6 Try.underlying35 rfl info_ref
set_option maxRecDepth 100000 in
set_option maxHeartbeats 1000000 in
theorem do_read_ok_off (w : World) (v : Value) (hD : Dev w lo hi d n z K D) (hR : Ref w rl n z K R v) (hh : hi ≤ rl) (hl : rl ≤ w.heap.size) (hK : K + 3 ≤ 1000000) (se off : Int) (B : Option Addr) (bl bq : Nat) (m : Nat) (kk mm : Int) (hon : D.on = true) (hron : R.on = false) (hin : inside n z (pl se off).1 (pl se off).2 m = true) :
    Calls Try.prog 12 #[.pointer (some ⟨d, 0, none⟩), v, .agg #[.int .i64 2, .int .i64 se, .int .i64 off, .slice B bl bq, .int .i64 m, .int .i64 kk, .int .u8 mm]] w (DoPost w lo hi d rl n z (K) (D) (R) (D = R)) := by
  obtain ⟨db, dc, wb, wc, bb, bc, cuts, left, whole, mask, L, LC, rfl, hP, hr⟩ := hR
  have HP := Lib.hid hP
  have HR := Lib.hid hr
  have HX := Lib.hid (DX.of w lo hi (rc n z db dc wb wc bb bc (!R.on) R.offs R.acts cuts left whole mask) #[.int .i64 2, .int .i64 se, .int .i64 off, .slice B bl bq, .int .i64 m, .int .i64 kk, .int .u8 mm])
  have HD := Lib.hid (dev_below hD (three_below w (.cells (rc n z db dc wb wc bb bc (!R.on) R.offs R.acts cuts left whole mask) 35) (.cells #[.int .i64 2, .int .i64 se, .int .i64 off, .slice B bl bq, .int .i64 m, .int .i64 kk, .int .u8 mm] 40) (.cells zeroRef 35)))
  clear hP hr hD
  have hhw : hi ≤ w.heap.size := by omega
  unfold refVal
  have HON := Lib.hid hon
  have HRON := Lib.hid hron
  clear hon hron
  have HIN := Lib.hid hin
  go_enter Try.func12, Try.ntmps12
  go_upto_region 1 with (fail)
  change Code.wp _ _ _ _ (((w.alloc (.cells (rc n z db dc wb wc bb bc (!R.on) R.offs R.acts cuts left whole mask) 35)).alloc (.cells #[.int .i64 2, .int .i64 se, .int .i64 off, .slice B bl bq, .int .i64 m, .int .i64 kk, .int .u8 mm] 40)).alloc (.cells zeroRef 35))
  generalize ((w.alloc (.cells (rc n z db dc wb wc bb bc (!R.on) R.offs R.acts cuts left whole mask) 35)).alloc (.cells #[.int .i64 2, .int .i64 se, .int .i64 off, .slice B bl bq, .int .i64 m, .int .i64 kk, .int .u8 mm] 40)).alloc (.cells zeroRef 35) = W at *
  have o0 : W.cell? ⟨w.heap.size + 1, 0, none⟩ = some (.int .i64 2) := HX.out.op.cell 0
  have o1 : W.cell? ⟨w.heap.size + 1, 1, none⟩ = some (.int .i64 se) := HX.out.op.cell 1
  have o2 : W.cell? ⟨w.heap.size + 1, 2, none⟩ = some (.int .i64 off) := HX.out.op.cell 2
  have o4 : W.cell? ⟨w.heap.size + 1, 4, none⟩ = some (.int .i64 m) := HX.out.op.cell 4
  have hin' := HIN.out
  unfold inside at hin'
  rw [decide_eq_true_eq] at hin'
  have hin2 : (pl se off).1 < n := by omega
  have hin3 : (pl se off).2 + m ≤ z := by omega
  have hz4 := HP.out.geo.2.2.2
  have hn64 := HP.out.geo.2.1
  clear hin' hin
  go_wp2_with (first
    | (go_at_call 17; refine (of_num _ _ _).mono ?_; rintro e w' ⟨x, y, rfl, hxy, rfl⟩; have HXY := Lib.hid hxy; clear hxy)
    | (go_at_call 22; refine (dread_ok W HD.out x y m (pl se off).1 (pl se off).2 HON.out HXY.out.1 HXY.out.2.1 HXY.out.2.2.1 HXY.out.2.2.2 HIN.out).mono ?_; rintro e w1 ⟨g1, cap1, rfl, ho1, hb1⟩; have HO1 := Lib.hid ho1; have hgp := ho1.place; have hWl := HX.out.lt; clear ho1; have HX1 := Lib.hid (HX.out.below hb1 hhw); have HD1 := Lib.hid (dev_below HD.out hb1); clear hb1 o0 o1 o2 o4; have HTW := Lib.hid (twelve HX1.out.box); have t5 : w1.cell? ⟨w.heap.size, 5, none⟩ = some (.bool true) := (by have := HTW.out.2.2.2.2.2.1; rw [HRON.out] at this; exact this); have t0 := HTW.out.1; have t1 := HTW.out.2.1; have o4 : w1.cell? ⟨w.heap.size + 1, 4, none⟩ = some (.int .i64 m) := HX1.out.op.cell 4))
  have HXw := Lib.hid HX1.out.drew
  have HDw := Lib.hid (dev_below HD1.out ((Below.refl _ w1).drew))
  refine wp_region_still_tail 9 (by kernel_rfl) (by kernel_rfl) ?_
  change wpStill _ _ w1.drew (fun a' => wpList _ _ _ _ a' w1.drew) _ _
  simp only [List.take_succ_cons, List.take_zero, List.drop_succ_cons, List.drop_zero]
  refine WLeft.out ?_
  refine still_val (.int .i64 0) (by kernel_rfl) (by kernel_rfl) ?_
  refine still_val (.bool false) (by kernel_rfl) (by kernel_rfl) ?_
  refine still_val (.bool false) (by kernel_rfl) (by kernel_rfl) ?_
  refine still_skip (by kernel_rfl) ?_
  refine still_skip (by kernel_rfl) ?_
  refine still_skip (by kernel_rfl) ?_
  refine still_val (.bool false) (by kernel_rfl) (by kernel_rfl) ?_
  refine still_val (.agg (rc n z db dc wb wc bb bc (!R.on) R.offs R.acts cuts left whole mask)) (by kernel_rfl) (still_load (.pointer (some ⟨w.heap.size, 0, none⟩)) rfl (by kernel_rfl) (load_blk HXw.out.box Try.underlying35 rfl info_ref)) ?_
  refine still_val (.bool false) (by kernel_rfl) (by kernel_rfl) ?_
  refine still_end ?_
  simp only [Act.put, List.setIfInBounds_toArray, List.set_cons_zero, List.set_cons_succ]
  go_wp2_with ((with_reducible refine pick none ?_); refine wpList_store_blk rfl 35 _ _ rfl (w.heap.size + 1 + 1) (rc n z db dc wb wc bb bc (!R.on) R.offs R.acts cuts left whole mask) rfl rfl 35 zeroRef HXw.out.res info_ref rfl (rc_one _ _ _ _ _ _ _ _ _ _ _ _ _ _ _) ?_; intro w6 hb6 hg6)
  refine bodyPost_ret (v := .tuple #[.bool false, .agg (rc n z db dc wb wc bb bc (!R.on) R.offs R.acts cuts left whole mask)]) ?_ rfl ⟨false, _, rfl, fun e => (by have h1 := HON.out; have h2 := HRON.out; rw [e] at h1; rw [h1] at h2; cases h2), dev_chg HDw.out hg6 (fun k h1 h2 e => by omega), Ref.of rfl (RefP.other (refP_chg HP.out HXw.out.chg hh) HXw.out.res hg6) HR.out, HXw.out.done hg6⟩
  exact results_tmp_row (fn := Try.f12) rfl _ _ (w.heap.size + 1 + 1) 35 _ (0, 0) _ rfl hb6 Try.underlying35 rfl info_ref
set_option maxRecDepth 100000 in
set_option maxHeartbeats 1000000 in
theorem do_read_ok_ok (w : World) (v : Value) (hD : Dev w lo hi d n z K D) (hR : Ref w rl n z K R v) (hh : hi ≤ rl) (hl : rl ≤ w.heap.size) (hK : K + 3 ≤ 1000000) (se off : Int) (B : Option Addr) (bl bq : Nat) (m : Nat) (kk mm : Int) (hon : D.on = true) (hron : R.on = true) (hin : inside n z (pl se off).1 (pl se off).2 m = true) :
    Calls Try.prog 12 #[.pointer (some ⟨d, 0, none⟩), v, .agg #[.int .i64 2, .int .i64 se, .int .i64 off, .slice B bl bq, .int .i64 m, .int .i64 kk, .int .u8 mm]] w (DoPost w lo hi d rl n z (K) (D) (R) (D = R)) := by
  obtain ⟨db, dc, wb, wc, bb, bc, cuts, left, whole, mask, L, LC, rfl, hP, hr⟩ := hR
  have HP := Lib.hid hP
  have HR := Lib.hid hr
  have HX := Lib.hid (DX.of w lo hi (rc n z db dc wb wc bb bc (!R.on) R.offs R.acts cuts left whole mask) #[.int .i64 2, .int .i64 se, .int .i64 off, .slice B bl bq, .int .i64 m, .int .i64 kk, .int .u8 mm])
  have HD := Lib.hid (dev_below hD (three_below w (.cells (rc n z db dc wb wc bb bc (!R.on) R.offs R.acts cuts left whole mask) 35) (.cells #[.int .i64 2, .int .i64 se, .int .i64 off, .slice B bl bq, .int .i64 m, .int .i64 kk, .int .u8 mm] 40) (.cells zeroRef 35)))
  clear hP hr hD
  have hhw : hi ≤ w.heap.size := by omega
  unfold refVal
  have HON := Lib.hid hon
  have HRON := Lib.hid hron
  clear hon hron
  have HIN := Lib.hid hin
  go_enter Try.func12, Try.ntmps12
  go_upto_region 1 with (fail)
  change Code.wp _ _ _ _ (((w.alloc (.cells (rc n z db dc wb wc bb bc (!R.on) R.offs R.acts cuts left whole mask) 35)).alloc (.cells #[.int .i64 2, .int .i64 se, .int .i64 off, .slice B bl bq, .int .i64 m, .int .i64 kk, .int .u8 mm] 40)).alloc (.cells zeroRef 35))
  generalize ((w.alloc (.cells (rc n z db dc wb wc bb bc (!R.on) R.offs R.acts cuts left whole mask) 35)).alloc (.cells #[.int .i64 2, .int .i64 se, .int .i64 off, .slice B bl bq, .int .i64 m, .int .i64 kk, .int .u8 mm] 40)).alloc (.cells zeroRef 35) = W at *
  have o0 : W.cell? ⟨w.heap.size + 1, 0, none⟩ = some (.int .i64 2) := HX.out.op.cell 0
  have o1 : W.cell? ⟨w.heap.size + 1, 1, none⟩ = some (.int .i64 se) := HX.out.op.cell 1
  have o2 : W.cell? ⟨w.heap.size + 1, 2, none⟩ = some (.int .i64 off) := HX.out.op.cell 2
  have o4 : W.cell? ⟨w.heap.size + 1, 4, none⟩ = some (.int .i64 m) := HX.out.op.cell 4
  have hin' := HIN.out
  unfold inside at hin'
  rw [decide_eq_true_eq] at hin'
  have hin2 : (pl se off).1 < n := by omega
  have hin3 : (pl se off).2 + m ≤ z := by omega
  have hz4 := HP.out.geo.2.2.2
  have hn64 := HP.out.geo.2.1
  clear hin' hin
  go_wp2_with (first
    | (go_at_call 17; refine (of_num _ _ _).mono ?_; rintro e w' ⟨x, y, rfl, hxy, rfl⟩; have HXY := Lib.hid hxy; clear hxy)
    | (go_at_call 22; refine (dread_ok W HD.out x y m (pl se off).1 (pl se off).2 HON.out HXY.out.1 HXY.out.2.1 HXY.out.2.2.1 HXY.out.2.2.2 HIN.out).mono ?_; rintro e w1 ⟨g1, cap1, rfl, ho1, hb1⟩; have HO1 := Lib.hid ho1; have hgp := ho1.place; have hWl := HX.out.lt; clear ho1; have HX1 := Lib.hid (HX.out.below hb1 hhw); have HD1 := Lib.hid (dev_below HD.out hb1); clear hb1 o0 o1 o2 o4; have HTW := Lib.hid (twelve HX1.out.box); have t5 : w1.cell? ⟨w.heap.size, 5, none⟩ = some (.bool false) := (by have := HTW.out.2.2.2.2.2.1; rw [HRON.out] at this; exact this); have t0 := HTW.out.1; have t1 := HTW.out.2.1; have o4 : w1.cell? ⟨w.heap.size + 1, 4, none⟩ = some (.int .i64 m) := HX1.out.op.cell 4)
    | (go_at_call 33; refine (refWithin_calls (n := n) (z := z) x y _ _ HXY.out.1 HXY.out.2.1 (by omega) (by omega) hn64 hz4).mono ?_; rw [HXY.out.2.2.1, HXY.out.2.2.2, HIN.out]; rintro e w2 ⟨rfl, hb2⟩; have HX2 := Lib.hid (HX1.out.below hb2 hhw); have HD2 := Lib.hid (dev_below HD1.out hb2); have HB2 := Lib.hid hb2; clear hb2 t0 t1 t5 o4)
    | (go_at_call 34; refine (offset_calls x y _ HXY.out.2.1).mono ?_; rw [HXY.out.2.2.2]; rintro e w' ⟨rfl, rfl⟩))
  have HXv := Lib.hid HX2.out.drew
  have HDv := Lib.hid (dev_below HD2.out ((Below.refl _ w2).drew))
  have HOv := Lib.hid ((HO1.out.below HB2.out).below ((Below.refl _ w2).drew))
  have HPv := Lib.hid (refP_chg (lo := lo) (hi := hi) HP.out HXv.out.chg hh)
  have hsz2 := HB2.out.size
  refine lit_drew (by kernel_rfl) (by kernel_rfl) ?_
  generalize hvw : w2.drew = Wv at *
  obtain ⟨A2, c2, hsl, hbs2⟩ := part_of (HPv.out.rows (pl se off).1 hin2).1 (HPv.out.rows (pl se off).1 hin2).2.1.2.1 hin3
  have hs1 := HOv.out.str_ (P := Try.prog) 38 9 Try.underlying38 Try.underlying5 Try.underlying9
  have hs2 := hbs2.str_ (P := Try.prog) (c := c2) 38 9 Try.underlying38 Try.underlying5 Try.underlying9
  have hEQ : Hid (D = R → str (((D.row (pl se off).1).drop (pl se off).2).take m) = str (((R.row (pl se off).1).drop (pl se off).2).take m)) := Lib.hid fun e => by rw [e]
  generalize str (((D.row (pl se off).1).drop (pl se off).2).take m) = tt at hs1 hEQ
  generalize str (((R.row (pl se off).1).drop (pl se off).2).take m) = uu at hs2 hEQ
  have t2 : Wv.cell? ⟨w.heap.size, 2, none⟩ = some (.slice (some ⟨db, 0, none⟩) n dc) := (twelve HXv.out.box).2.2.1
  have kd : Wv.cell? ⟨db, (pl se off).1, none⟩ = some (.slice (some ⟨L (pl se off).1, 0, none⟩) z (LC (pl se off).1)) := HPv.out.data.cell hin2
  have o4 : Wv.cell? ⟨w.heap.size + 1, 4, none⟩ = some (.int .i64 m) := HXv.out.op.cell 4
  have hsec : Calls Try.prog 35 #[.complex .f64 x y] Wv (fun e w'' => e = .returned (.int .i64 ((pl se off).1 : Int)) ∧ w'' = Wv) := (sector_calls x y Wv HXY.out.1).mono fun e w' ⟨h1, h2⟩ => ⟨by rw [h1, HXY.out.2.2.1], h2.symm⟩
  have hwr : IntKind.i64.wrap (((pl se off).2 : Int) + (m : Int)) = ((pl se off).2 : Int) + (m : Int) := IntWalk.i64_in _ (by omega)
  have HSL := Lib.hid hsl
  clear hsl hbs2
  refine still_val (.int .i64 0) (by kernel_rfl) (by kernel_rfl) ?_
  refine still_val (.bool true) (by kernel_rfl) (by kernel_rfl) ?_
  refine still_val (.bool true) (by kernel_rfl) (by kernel_rfl) ?_
  refine still_val (.slice (some ⟨g1, 0, none⟩) m cap1) (by kernel_rfl) (by kernel_rfl) ?_
  refine still_val (.string tt) (by kernel_rfl) (still_conv rfl (by kernel_rfl) hs1) ?_
  refine still_val (.pointer (some ⟨w.heap.size, 2, none⟩)) (by kernel_rfl) (by kernel_rfl) ?_
  refine still_val (.slice (some ⟨db, 0, none⟩) n dc) (by kernel_rfl) (still_load (.pointer (some ⟨w.heap.size, 2, none⟩)) rfl (by kernel_rfl) (by go_simp)) ?_
  refine still_val (.complex .f64 x y) (by kernel_rfl) (by kernel_rfl) ?_
  refine still_ent (.int .i64 ((pl se off).1 : Int)) (by kernel_rfl) (by kernel_rfl) hsec ?_
  refine still_val (.pointer (some ⟨db, (pl se off).1, none⟩)) (by kernel_rfl) (still_index (.slice (some ⟨db, 0, none⟩) n dc) (.int .i64 ((pl se off).1 : Int)) rfl (by kernel_rfl) (by kernel_rfl) (at_of hin2)) ?_
  refine still_val (.slice (some ⟨L (pl se off).1, 0, none⟩) z (LC (pl se off).1)) (by kernel_rfl) (still_load (.pointer (some ⟨db, (pl se off).1, none⟩)) rfl (by kernel_rfl) (by go_simp)) ?_
  refine still_val (.int .i64 ((pl se off).2 : Int)) (by kernel_rfl) (by kernel_rfl) ?_
  refine still_val (.int .i64 ((pl se off).2 : Int)) (by kernel_rfl) (by kernel_rfl) ?_
  refine still_val (.pointer (some ⟨w.heap.size + 1, 4, none⟩)) (by kernel_rfl) (by kernel_rfl) ?_
  refine still_val (.int .i64 (m : Int)) (by kernel_rfl) (still_load (.pointer (some ⟨w.heap.size + 1, 4, none⟩)) rfl (by kernel_rfl) (by go_simp)) ?_
  refine still_val (.int .i64 (((pl se off).2 : Int) + (m : Int))) (by kernel_rfl) (still_bin (.int .i64 ((pl se off).2 : Int)) (.int .i64 (m : Int)) rfl (by kernel_rfl) (by kernel_rfl) (by go_simp) (by go_simp)) ?_
  refine still_val (.slice A2 m c2) (by kernel_rfl) (still_slice (.slice (some ⟨L (pl se off).1, 0, none⟩) z (LC (pl se off).1)) (.int .i64 ((pl se off).2 : Int)) (.int .i64 (((pl se off).2 : Int) + (m : Int))) rfl (by kernel_rfl) (by kernel_rfl) (by kernel_rfl) HSL.out) ?_
  refine still_val (.string uu) (by kernel_rfl) (still_conv rfl (by kernel_rfl) hs2) ?_
  by_cases htu : tt.toList = uu.toList
  all_goals rcases Nat.eq_zero_or_pos m with hm | hm
  · refine still_val (.bool true) (by kernel_rfl) (still_bin (.string tt) (.string uu) rfl (by kernel_rfl) (by kernel_rfl) (by go_simp) (by go_simp)) ?_
    refine still_val (.bool true) (by kernel_rfl) (by kernel_rfl) ?_
    refine still_val (.bool true) (by kernel_rfl) (by kernel_rfl) ?_
    refine still_end ?_
    have HTU := Lib.hid htu
    clear htu
    simp only [Act.put, List.setIfInBounds_toArray, List.set_cons_zero, List.set_cons_succ]
    subst hm
    go_wp2_with ((with_reducible refine pick none ?_); refine wpList_clear_none rfl _ 38 5 rfl Try.underlying38 (some ⟨g1, 0, none⟩) cap1 rfl ?_)
    have HXw := Lib.hid HXv.out.drew
    have HDw := Lib.hid (dev_below HDv.out ((Below.refl _ Wv).drew))
    refine wp_region_still_tail 3 (by kernel_rfl) (by kernel_rfl) ?_
    change wpStill _ _ Wv.drew (fun a' => wpList _ _ _ _ a' Wv.drew) _ _
    simp only [List.take_succ_cons, List.take_zero, List.drop_succ_cons, List.drop_zero]
    refine WLeft.out ?_
    refine still_val (.bool true) (by kernel_rfl) (by kernel_rfl) ?_
    refine still_val (.agg (rc n z db dc wb wc bb bc (!R.on) R.offs R.acts cuts left whole mask)) (by kernel_rfl) (still_load (.pointer (some ⟨w.heap.size, 0, none⟩)) rfl (by kernel_rfl) (load_blk HXw.out.box Try.underlying35 rfl info_ref)) ?_
    refine still_val (.bool true) (by kernel_rfl) (by kernel_rfl) ?_
    refine still_end ?_
    simp only [Act.put, List.setIfInBounds_toArray, List.set_cons_zero, List.set_cons_succ]
    go_wp2_with ((with_reducible refine pick none ?_); refine wpList_store_blk rfl 35 _ _ rfl (w.heap.size + 1 + 1) (rc n z db dc wb wc bb bc (!R.on) R.offs R.acts cuts left whole mask) rfl rfl 35 zeroRef HXw.out.res info_ref rfl (rc_one _ _ _ _ _ _ _ _ _ _ _ _ _ _ _) ?_; intro w6 hb6 hg6)
    refine bodyPost_ret (v := .tuple #[.bool true, .agg (rc n z db dc wb wc bb bc (!R.on) R.offs R.acts cuts left whole mask)]) ?_ rfl ⟨true, _, rfl, fun _ => rfl, dev_chg HDw.out hg6 (fun k h1 h2 e => by omega), Ref.of rfl (RefP.other (refP_chg HP.out HXw.out.chg hh) HXw.out.res hg6) HR.out, HXw.out.done hg6⟩
    exact results_tmp_row (fn := Try.f12) rfl _ _ (w.heap.size + 1 + 1) 35 _ (0, 0) _ rfl hb6 Try.underlying35 rfl info_ref
  · refine still_val (.bool true) (by kernel_rfl) (still_bin (.string tt) (.string uu) rfl (by kernel_rfl) (by kernel_rfl) (by go_simp) (by go_simp)) ?_
    refine still_val (.bool true) (by kernel_rfl) (by kernel_rfl) ?_
    refine still_val (.bool true) (by kernel_rfl) (by kernel_rfl) ?_
    refine still_end ?_
    have HTU := Lib.hid htu
    clear htu
    simp only [Act.put, List.setIfInBounds_toArray, List.set_cons_zero, List.set_cons_succ]
    go_wp2_with ((with_reducible refine pick none ?_); refine wpList_clear_bytes rfl _ _ rfl W.heap.size 5 Try.underlying38 zero_u8 g1 m cap1 _ rfl HOv.out hm ?_; intro w5 hg5)
    have HC5 := Lib.hid (Chg.of_grown (S := fun q => q = g1) hg5 (fun k e => .inl (by injection e with e; exact e.symm)))
    have HXw := Lib.hid (DX.own HXv.out HC5.out (by omega)).drew
    have HDw := Lib.hid (dev_below (dev_chg HDv.out HC5.out (fun k h1 h2 e => by omega)) ((Below.refl _ w5).drew))
    refine wp_region_still_tail 3 (by kernel_rfl) (by kernel_rfl) ?_
    change wpStill _ _ w5.drew (fun a' => wpList _ _ _ _ a' w5.drew) _ _
    simp only [List.take_succ_cons, List.take_zero, List.drop_succ_cons, List.drop_zero]
    refine WLeft.out ?_
    refine still_val (.bool true) (by kernel_rfl) (by kernel_rfl) ?_
    refine still_val (.agg (rc n z db dc wb wc bb bc (!R.on) R.offs R.acts cuts left whole mask)) (by kernel_rfl) (still_load (.pointer (some ⟨w.heap.size, 0, none⟩)) rfl (by kernel_rfl) (load_blk HXw.out.box Try.underlying35 rfl info_ref)) ?_
    refine still_val (.bool true) (by kernel_rfl) (by kernel_rfl) ?_
    refine still_end ?_
    simp only [Act.put, List.setIfInBounds_toArray, List.set_cons_zero, List.set_cons_succ]
    go_wp2_with ((with_reducible refine pick none ?_); refine wpList_store_blk rfl 35 _ _ rfl (w.heap.size + 1 + 1) (rc n z db dc wb wc bb bc (!R.on) R.offs R.acts cuts left whole mask) rfl rfl 35 zeroRef HXw.out.res info_ref rfl (rc_one _ _ _ _ _ _ _ _ _ _ _ _ _ _ _) ?_; intro w6 hb6 hg6)
    refine bodyPost_ret (v := .tuple #[.bool true, .agg (rc n z db dc wb wc bb bc (!R.on) R.offs R.acts cuts left whole mask)]) ?_ rfl ⟨true, _, rfl, fun _ => rfl, dev_chg HDw.out hg6 (fun k h1 h2 e => by omega), Ref.of rfl (RefP.other (refP_chg HP.out HXw.out.chg hh) HXw.out.res hg6) HR.out, HXw.out.done hg6⟩
    exact results_tmp_row (fn := Try.f12) rfl _ _ (w.heap.size + 1 + 1) 35 _ (0, 0) _ rfl hb6 Try.underlying35 rfl info_ref
  · refine still_val (.bool false) (by kernel_rfl) (still_bin (.string tt) (.string uu) rfl (by kernel_rfl) (by kernel_rfl) (by go_simp) (by go_simp)) ?_
    refine still_val (.bool false) (by kernel_rfl) (by kernel_rfl) ?_
    refine still_val (.bool false) (by kernel_rfl) (by kernel_rfl) ?_
    refine still_end ?_
    have HTU := Lib.hid htu
    clear htu
    simp only [Act.put, List.setIfInBounds_toArray, List.set_cons_zero, List.set_cons_succ]
    subst hm
    go_wp2_with ((with_reducible refine pick none ?_); refine wpList_clear_none rfl _ 38 5 rfl Try.underlying38 (some ⟨g1, 0, none⟩) cap1 rfl ?_)
    have HXw := Lib.hid HXv.out.drew
    have HDw := Lib.hid (dev_below HDv.out ((Below.refl _ Wv).drew))
    refine wp_region_still_tail 3 (by kernel_rfl) (by kernel_rfl) ?_
    change wpStill _ _ Wv.drew (fun a' => wpList _ _ _ _ a' Wv.drew) _ _
    simp only [List.take_succ_cons, List.take_zero, List.drop_succ_cons, List.drop_zero]
    refine WLeft.out ?_
    refine still_val (.bool false) (by kernel_rfl) (by kernel_rfl) ?_
    refine still_val (.agg (rc n z db dc wb wc bb bc (!R.on) R.offs R.acts cuts left whole mask)) (by kernel_rfl) (still_load (.pointer (some ⟨w.heap.size, 0, none⟩)) rfl (by kernel_rfl) (load_blk HXw.out.box Try.underlying35 rfl info_ref)) ?_
    refine still_val (.bool false) (by kernel_rfl) (by kernel_rfl) ?_
    refine still_end ?_
    simp only [Act.put, List.setIfInBounds_toArray, List.set_cons_zero, List.set_cons_succ]
    go_wp2_with ((with_reducible refine pick none ?_); refine wpList_store_blk rfl 35 _ _ rfl (w.heap.size + 1 + 1) (rc n z db dc wb wc bb bc (!R.on) R.offs R.acts cuts left whole mask) rfl rfl 35 zeroRef HXw.out.res info_ref rfl (rc_one _ _ _ _ _ _ _ _ _ _ _ _ _ _ _) ?_; intro w6 hb6 hg6)
    refine bodyPost_ret (v := .tuple #[.bool false, .agg (rc n z db dc wb wc bb bc (!R.on) R.offs R.acts cuts left whole mask)]) ?_ rfl ⟨false, _, rfl, fun e => (by have h1 := hEQ.out e; rw [h1] at HTU; exact (HTU.out rfl).elim), dev_chg HDw.out hg6 (fun k h1 h2 e => by omega), Ref.of rfl (RefP.other (refP_chg HP.out HXw.out.chg hh) HXw.out.res hg6) HR.out, HXw.out.done hg6⟩
    exact results_tmp_row (fn := Try.f12) rfl _ _ (w.heap.size + 1 + 1) 35 _ (0, 0) _ rfl hb6 Try.underlying35 rfl info_ref
  · refine still_val (.bool false) (by kernel_rfl) (still_bin (.string tt) (.string uu) rfl (by kernel_rfl) (by kernel_rfl) (by go_simp) (by go_simp)) ?_
    refine still_val (.bool false) (by kernel_rfl) (by kernel_rfl) ?_
    refine still_val (.bool false) (by kernel_rfl) (by kernel_rfl) ?_
    refine still_end ?_
    have HTU := Lib.hid htu
    clear htu
    simp only [Act.put, List.setIfInBounds_toArray, List.set_cons_zero, List.set_cons_succ]
    go_wp2_with ((with_reducible refine pick none ?_); refine wpList_clear_bytes rfl _ _ rfl W.heap.size 5 Try.underlying38 zero_u8 g1 m cap1 _ rfl HOv.out hm ?_; intro w5 hg5)
    have HC5 := Lib.hid (Chg.of_grown (S := fun q => q = g1) hg5 (fun k e => .inl (by injection e with e; exact e.symm)))
    have HXw := Lib.hid (DX.own HXv.out HC5.out (by omega)).drew
    have HDw := Lib.hid (dev_below (dev_chg HDv.out HC5.out (fun k h1 h2 e => by omega)) ((Below.refl _ w5).drew))
    refine wp_region_still_tail 3 (by kernel_rfl) (by kernel_rfl) ?_
    change wpStill _ _ w5.drew (fun a' => wpList _ _ _ _ a' w5.drew) _ _
    simp only [List.take_succ_cons, List.take_zero, List.drop_succ_cons, List.drop_zero]
    refine WLeft.out ?_
    refine still_val (.bool false) (by kernel_rfl) (by kernel_rfl) ?_
    refine still_val (.agg (rc n z db dc wb wc bb bc (!R.on) R.offs R.acts cuts left whole mask)) (by kernel_rfl) (still_load (.pointer (some ⟨w.heap.size, 0, none⟩)) rfl (by kernel_rfl) (load_blk HXw.out.box Try.underlying35 rfl info_ref)) ?_
    refine still_val (.bool false) (by kernel_rfl) (by kernel_rfl) ?_
    refine still_end ?_
    simp only [Act.put, List.setIfInBounds_toArray, List.set_cons_zero, List.set_cons_succ]
    go_wp2_with ((with_reducible refine pick none ?_); refine wpList_store_blk rfl 35 _ _ rfl (w.heap.size + 1 + 1) (rc n z db dc wb wc bb bc (!R.on) R.offs R.acts cuts left whole mask) rfl rfl 35 zeroRef HXw.out.res info_ref rfl (rc_one _ _ _ _ _ _ _ _ _ _ _ _ _ _ _) ?_; intro w6 hb6 hg6)
    refine bodyPost_ret (v := .tuple #[.bool false, .agg (rc n z db dc wb wc bb bc (!R.on) R.offs R.acts cuts left whole mask)]) ?_ rfl ⟨false, _, rfl, fun e => (by have h1 := hEQ.out e; rw [h1] at HTU; exact (HTU.out rfl).elim), dev_chg HDw.out hg6 (fun k h1 h2 e => by omega), Ref.of rfl (RefP.other (refP_chg HP.out HXw.out.chg hh) HXw.out.res hg6) HR.out, HXw.out.done hg6⟩
    exact results_tmp_row (fn := Try.f12) rfl _ _ (w.heap.size + 1 + 1) 35 _ (0, 0) _ rfl hb6 Try.underlying35 rfl info_ref
end
end Go.Proofs.Ytdcmpkohengnaaa.NorDs
