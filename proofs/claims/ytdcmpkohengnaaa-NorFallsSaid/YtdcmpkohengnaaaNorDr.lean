/- Do, Program; a region that draws its order, read one operation at a time behind a word that nothing unfolds. -/
import Derived.Test.YtdcmpkohengnaaaNorDq
import Derived.Test.YtdcmpkohengnaaaByteS
import Derived.StillTailTactics
import Derived.Deep.MidRow
namespace Go.Proofs.Ytdcmpkohengnaaa.NorDr
set_option linter.unusedVariables false
set_option linter.unusedSimpArgs false
open Go.RowKit
open Go.Proofs.Ytdcmpkohengnaaa.Byte Go.Proofs.Ytdcmpkohengnaaa.NorD Go.Proofs.Ytdcmpkohengnaaa.NorM Go.Proofs.Ytdcmpkohengnaaa.NorS Go.Proofs.Ytdcmpkohengnaaa.NorF Go.Proofs.Ytdcmpkohengnaaa.NorH Go.Proofs.Ytdcmpkohengnaaa.NorB Go.Proofs.Ytdcmpkohengnaaa.NorP Go.Proofs.Ytdcmpkohengnaaa.NorR Go.Proofs.Ytdcmpkohengnaaa.NorU Go.Proofs.Ytdcmpkohengnaaa.NorV Go.Proofs.Ytdcmpkohengnaaa.NorX Go.Proofs.Ytdcmpkohengnaaa.NorY Go.Proofs.Ytdcmpkohengnaaa.NorZ Go.Proofs.Ytdcmpkohengnaaa.NorI Go.Proofs.Ytdcmpkohengnaaa.NorJ Go.Proofs.Ytdcmpkohengnaaa.NorK Go.Proofs.Ytdcmpkohengnaaa.NorL Go.Proofs.Ytdcmpkohengnaaa.NorDo Go.Proofs.Ytdcmpkohengnaaa.NorDp Go.Proofs.Ytdcmpkohengnaaa.PlaceM Go.Proofs.Ytdcmpkohengnaaa.PlaceV

section
variable {P : Program} {ops : Array Oper} {w : World} {Q : Act → Prop} {a : Act} {o : Oper} {rest : List Oper}
/-- What is left of a region's operations ahead of its store, as a word that nothing unfolds. -/
structure WLeft (P : Program) (ops : Array Oper) (w : World) (Q : Act → Prop) (l : List Oper) (a : Act) : Prop where
  out : wpStill P ops w Q l a
theorem still_skip (hw : Region.wanted o (yielded ops a.tmps) = false) (h : WLeft P ops w Q rest (a.put o.dst undef)) : WLeft P ops w Q (o :: rest) a :=
  ⟨wpStill_step fun K hK => by rw [if_neg (by rw [hw]; exact Bool.false_ne_true)]; exact hK _ h.out⟩
/-- A step whose run is known. -/
theorem still_val (v : Value) (hw : Region.wanted o (yielded ops a.tmps) = true) (hr : (execOp a.eval o).run P w = .ok (.value v) w) (h : WLeft P ops w Q rest (a.put o.dst v)) : WLeft P ops w Q (o :: rest) a :=
  ⟨wpStill_step fun K hK => by
    rw [if_pos hw]
    unfold Oper.still
    rw [hr, Oper.stillUpon_value]
    exact hK _ h.out⟩
theorem still_end (h : Q a) : WLeft P ops w Q [] a := ⟨wpStill_nil h⟩
theorem still_conv {s t : TypeId} {x : Operand} {u v : Value} (ho : o.op = .convert s t x) (hx : a.eval x = u) (hr : (convert s t u).run P w = .ok v w) : (execOp a.eval o).run P w = .ok (.value v) w := by
  unfold execOp
  rw [ho]
  simp only [hx, Sem.run_bind, hr, Result.andThen_ok, Sem.run_pure]
theorem still_load {t : TypeId} {x : Operand} (u : Value) {v : Value} (ho : o.op = .load t x) (hx : a.eval x = u) (hr : (Instr.loadAt t u).run P w = .ok v w) : (execOp a.eval o).run P w = .ok (.value v) w := by
  unfold execOp
  rw [ho]
  simp only [hx, Sem.run_bind, hr, Result.andThen_ok, Sem.run_pure]
theorem still_bin {op : BinOp} {t t' : TypeId} {x y : Operand} (u u' : Value) {v : Value} (ho : o.op = .binOp op t x y t') (hx : a.eval x = u) (hy : a.eval y = u') (hg : (eqGuard op t x y u u').run P w = .ok () w) (hr : (binOp op t u u').run P w = .ok v w) : (execOp a.eval o).run P w = .ok (.value v) w := by
  unfold execOp
  rw [ho]
  simp only [hx, hy, Sem.run_bind, hg, hr, Result.andThen_ok, Sem.run_pure]
theorem load_blk {t : TypeId} {g : Nat} {cs : Array Value} {d : TypeDesc} (h : Blk w g t cs) (hu : P.underlying t = some d) (hd : d.isRow = true) (hi : (P.info? t).map (·.size) = some cs.size) : (Instr.loadAt t (.pointer (some ⟨g, 0, none⟩))).run P w = .ok (.agg cs) w := by
  have := run_loadAt_mid (P := P) w g 0 t cs.toList d (fun j v hv => by rw [Nat.zero_add, h.cell]; simpa using hv) hu hd (by simpa using hi)
  simpa using this
end
/-- Bytes outside what was changed; no bytes wherever they are. -/
theorem bs_chg {S : Nat → Prop} {w w' : World} {A : Option Addr} {n : Nat} {xs : List Int} (h : Bs w A n xs) (k : Chg S w w') (hA : 0 < n → ∀ b o, A = some ⟨b, o, none⟩ → ¬ S b) : Bs w' A n xs := by
  rcases Nat.eq_zero_or_pos n with h0 | h0
  · subst h0
    exact ⟨h.1, h.2.1, fun k hk => absurd hk (by omega)⟩
  · exact h.chg k (hA h0)
section
variable {lo hi d rl n z K : Nat} {D R : St}
set_option maxRecDepth 100000 in
set_option maxHeartbeats 1000000 in
theorem do_program (w : World) (v : Value) (hD : Dev w lo hi d n z K D) (hR : Ref w rl n z K R v) (hh : hi ≤ rl) (hl : rl ≤ w.heap.size) (hK : K + 3 ≤ 1000000) (se off : Int) (B : Option Addr) (bl bq : Nat) (nn kk mm : Int) (bs : List Int) (hB : Bs w B bl bs) (hBA : B = none → bq = 0) (hbl : bl ≤ 100000) (hBlo : 0 < bl → ∀ b o, B = some ⟨b, o, none⟩ → b < lo) :
    Calls Try.prog 12 #[.pointer (some ⟨d, 0, none⟩), v, .agg #[.int .i64 0, .int .i64 se, .int .i64 off, .slice B bl bq, .int .i64 nn, .int .i64 kk, .int .u8 mm]] w (DoPost w lo hi d rl n z (K + 1) ((D.program n z (pl se off).1 (pl se off).2 bs).2) ((R.program n z (pl se off).1 (pl se off).2 bs).2) (D = R)) := by
  obtain ⟨db, dc, wb, wc, bb, bc, cuts, left, whole, mask, L, LC, rfl, hP, hr⟩ := hR
  have HP := Lib.hid hP
  have HR := Lib.hid hr
  have HX := Lib.hid (DX.of w lo hi (rc n z db dc wb wc bb bc (!R.on) R.offs R.acts cuts left whole mask) #[.int .i64 0, .int .i64 se, .int .i64 off, .slice B bl bq, .int .i64 nn, .int .i64 kk, .int .u8 mm])
  have HD := Lib.hid (dev_below hD (three_below w (.cells (rc n z db dc wb wc bb bc (!R.on) R.offs R.acts cuts left whole mask) 35) (.cells #[.int .i64 0, .int .i64 se, .int .i64 off, .slice B bl bq, .int .i64 nn, .int .i64 kk, .int .u8 mm] 40) (.cells zeroRef 35)))
  clear hP hr hD
  have hhw : hi ≤ w.heap.size := by omega
  unfold refVal
  have HB := Lib.hid hB
  have HBW := Lib.hid (hB.below (three_below w (.cells (rc n z db dc wb wc bb bc (!R.on) R.offs R.acts cuts left whole mask) 35) (.cells #[.int .i64 0, .int .i64 se, .int .i64 off, .slice B bl bq, .int .i64 nn, .int .i64 kk, .int .u8 mm] 40) (.cells zeroRef 35)))
  clear hB
  go_enter Try.func12, Try.ntmps12
  go_upto_region 1 with (fail)
  change Code.wp _ _ _ _ (((w.alloc (.cells (rc n z db dc wb wc bb bc (!R.on) R.offs R.acts cuts left whole mask) 35)).alloc (.cells #[.int .i64 0, .int .i64 se, .int .i64 off, .slice B bl bq, .int .i64 nn, .int .i64 kk, .int .u8 mm] 40)).alloc (.cells zeroRef 35))
  generalize ((w.alloc (.cells (rc n z db dc wb wc bb bc (!R.on) R.offs R.acts cuts left whole mask) 35)).alloc (.cells #[.int .i64 0, .int .i64 se, .int .i64 off, .slice B bl bq, .int .i64 nn, .int .i64 kk, .int .u8 mm] 40)).alloc (.cells zeroRef 35) = W at *
  have o0 : W.cell? ⟨w.heap.size + 1, 0, none⟩ = some (.int .i64 0) := HX.out.op.cell 0
  have o1 : W.cell? ⟨w.heap.size + 1, 1, none⟩ = some (.int .i64 se) := HX.out.op.cell 1
  have o2 : W.cell? ⟨w.heap.size + 1, 2, none⟩ = some (.int .i64 off) := HX.out.op.cell 2
  have o3 : W.cell? ⟨w.heap.size + 1, 3, none⟩ = some (.slice B bl bq) := HX.out.op.cell 3
  have lo3 : w.heap.size + 1 < W.heap.size := by have := HX.out.lt; omega
  go_wp2_with (first
    | (go_at_call 17; refine (of_num _ _ _).mono ?_; rintro e w' ⟨x, y, rfl, hxy, rfl⟩; have HXY := Lib.hid hxy; clear hxy)
    | ((with_reducible refine pick (some 31) ?_); refine wpList_append_bytes rfl _ _ _ rfl W.heap.size 5 Try.underlying38 Go.Proofs.Ytdcmpkohengnaaa.NorR.info_u8 W.heap.size 0 0 [] rfl (Ob.new_ W _ (Nat.le_refl _)) B bl bq bs rfl (HBW.out.below ((Below.refl _ _).alloc (Nat.le_refl _) _)) hBA bl (by omega) bs rfl (by omega) (by simp) ?_; intro g1 cap1 w1 ho1 hg1 hat1; have hb1 : Below W.heap.size W w1 := ((Below.refl _ _).alloc (Nat.le_refl _) _).grown hg1 (by simp) (by intro k hk; injection hk with hk; omega); have HX1 := Lib.hid (HX.out.below hb1 hhw); have HD1 := Lib.hid (dev_below HD.out hb1); have HO1 := Lib.hid ho1; have hgp := ho1.place; have hWl := HX.out.lt; clear ho1 hg1 hat1 hb1 o0 o1 o2 o3)
    | (go_at_call 23; refine (program_calls w1 HD1.out (by omega) x y (some ⟨g1, 0, none⟩) bl cap1 (pl se off).1 (pl se off).2 bs HO1.out.bs (fun b o e => .inr (by injection e with e; injection e with e; omega)) (by omega) HXY.out.1 HXY.out.2.1 HXY.out.2.2.1 HXY.out.2.2.2).mono ?_; rintro e w2 ⟨rfl, hD2, hc2⟩; have HX2 := Lib.hid (HX1.out.step hc2 hhw); have HD2 := Lib.hid hD2; have HO2 := Lib.hid (HO1.out.chg hc2 (by omega)); have HB2 := Lib.hid (bs_chg HB.out HX2.out.chg (fun hp b o e => by have := hBlo hp b o e; omega)); have p3 : w2.cell? ⟨w.heap.size + 1, 3, none⟩ = some (.slice B bl bq) := HX2.out.op.cell 3; clear hD2 hc2)
    | ((with_reducible refine pick (some 37) ?_); refine wpList_load_row rfl _ _ rfl w.heap.size rfl 35 (rc n z db dc wb wc bb bc (!R.on) R.offs R.acts cuts left whole mask) (0, 0) _ HX2.out.box Try.underlying35 rfl info_ref ?_)
    | (go_at_call 31; refine (refProgram_calls w2 (.agg (rc n z db dc wb wc bb bc (!R.on) R.offs R.acts cuts left whole mask)) (Ref.of rfl (refP_chg HP.out HX2.out.chg hh) HR.out) x y B bl bq (pl se off).1 (pl se off).2 bs HB2.out (by have := HX2.out.lt; omega) (by omega) (by omega) HXY.out.1 HXY.out.2.1 HXY.out.2.2.1 HXY.out.2.2.2).mono ?_; rintro e w3 ⟨v', rfl, ⟨db', dc', wb', wc', bb', bc', cuts', left', whole', mask', L', LC', rfl, hP3, hr3⟩, hb3⟩; have HX3 := Lib.hid (HX2.out.below hb3 hhw); have HP3 := Lib.hid hP3; have HR3 := Lib.hid hr3; have HD3 := Lib.hid (dev_below HD2.out hb3); have HO3 := Lib.hid (HO2.out.below hb3); have HB3 := Lib.hid (HB2.out.below hb3); clear hP3 hr3 hb3 p3; unfold refVal))
  change Code.wp _ _ _ _ (w3.alloc (.cells (rc n z db' dc' wb' wc' bb' bc' (!(R.program n z (pl se off).1 (pl se off).2 bs).2.on) (R.program n z (pl se off).1 (pl se off).2 bs).2.offs (R.program n z (pl se off).1 (pl se off).2 bs).2.acts cuts' left' whole' mask') 35))
  have hb4 : Below w3.heap.size w3 (w3.alloc (.cells (rc n z db' dc' wb' wc' bb' bc' (!(R.program n z (pl se off).1 (pl se off).2 bs).2.on) (R.program n z (pl se off).1 (pl se off).2 bs).2.offs (R.program n z (pl se off).1 (pl se off).2 bs).2.acts cuts' left' whole' mask') 35)) := (Below.refl _ _).alloc (Nat.le_refl _) _
  have HX4 := Lib.hid (HX3.out.below hb4 hhw)
  have HD4 := Lib.hid (dev_below HD3.out hb4)
  have HP4 := Lib.hid (HP3.out.below hb4)
  have HO4 := HO3.out.below hb4
  have HB4 := HB3.out.below hb4
  have HT4 := Lib.hid (Blk.new w3 35 (rc n z db' dc' wb' wc' bb' bc' (!(R.program n z (pl se off).1 (pl se off).2 bs).2.on) (R.program n z (pl se off).1 (pl se off).2 bs).2.offs (R.program n z (pl se off).1 (pl se off).2 bs).2.acts cuts' left' whole' mask'))
  clear hb4
  generalize w3.alloc (.cells (rc n z db' dc' wb' wc' bb' bc' (!(R.program n z (pl se off).1 (pl se off).2 bs).2.on) (R.program n z (pl se off).1 (pl se off).2 bs).2.offs (R.program n z (pl se off).1 (pl se off).2 bs).2.acts cuts' left' whole' mask') 35) = W4 at *
  have o3 : W4.cell? ⟨w.heap.size + 1, 3, none⟩ = some (.slice B bl bq) := HX4.out.op.cell 3
  obtain ⟨t0, t1, t2, t3, t4, t5, t6, t7, t8, t9, t10, t11⟩ := twelve HT4.out
  have hs1 := HO4.str_ (P := Try.prog) 38 9 Try.underlying38 Try.underlying5 Try.underlying9
  have hs2 := HB4.str_ (P := Try.prog) (c := bq) 38 9 Try.underlying38 Try.underlying5 Try.underlying9
  have HOO := Lib.hid HO4
  have HBB := Lib.hid HB4
  obtain ⟨tt, htt⟩ : ∃ tt, str bs = tt := ⟨_, rfl⟩
  clear hs1 hs2 o3 t0 t1 t2 t3 t4 t5 t6 t7 t8 t9 t10 t11
  have HX5 := Lib.hid HX4.out.drew
  have HD5 := Lib.hid (dev_below HD4.out ((Below.refl _ W4).drew))
  have HP5 := Lib.hid (HP4.out.below ((Below.refl _ W4).drew))
  have HT5 := Lib.hid (HT4.out.chg (Chg.drew (Chg.refl (fun _ => False) W4)) (fun h => h))
  have HO5 := HOO.out.below ((Below.refl _ W4).drew)
  have HB5 := HBB.out.below ((Below.refl _ W4).drew)
  have hs1 := HO5.str_ (P := Try.prog) 38 9 Try.underlying38 Try.underlying5 Try.underlying9
  have hs2 := HB5.str_ (P := Try.prog) (c := bq) 38 9 Try.underlying38 Try.underlying5 Try.underlying9
  rw [htt] at hs1 hs2
  clear HO4 HB4 HO5 HB5 HOO HBB HX4 HD4 HP4 HT4 HO3 HB3 HX3 HD3 HP3 HO2 HB2 HX2 HD2 HO1 HX1 HD1
  refine wp_region_still_tail 13 (by kernel_rfl) (by kernel_rfl) ?_
  change wpStill _ _ W4.drew (fun a' => wpList _ _ _ _ a' W4.drew) _ _
  generalize W4.drew = W5 at *
  have o3 : W5.cell? ⟨w.heap.size + 1, 3, none⟩ = some (.slice B bl bq) := HX5.out.op.cell 3
  obtain ⟨t0, t1, t2, t3, t4, t5, t6, t7, t8, t9, t10, t11⟩ := twelve HT5.out
  simp only [List.take_succ_cons, List.take_zero, List.drop_succ_cons, List.drop_zero]
  still_step
  still_step
  have HNE : ∀ (_ : Hid (((D.program n z (pl se off).1 (pl se off).2 bs).1 == (R.program n z (pl se off).1 (pl se off).2 bs).1) = false)), D = R → False := fun h e => by
    have := h.out
    subst e
    simp at this
  rcases Bool.eq_false_or_eq_true ((D.program n z (pl se off).1 (pl se off).2 bs).1 == (R.program n z (pl se off).1 (pl se off).2 bs).1) with hab | hab
  · still_step
    have HAB := Lib.hid hab
    clear hab
    refine WLeft.out ?_
    refine still_val (.bool true) (by kernel_rfl) (by kernel_rfl) ?_
    refine still_val (.slice (some ⟨g1, 0, none⟩) bl cap1) (by kernel_rfl) (by kernel_rfl) ?_
    refine still_val (.string tt) (by kernel_rfl) (still_conv rfl (by kernel_rfl) hs1) ?_
    refine still_val (.pointer (some ⟨w.heap.size + 1, 3, none⟩)) (by kernel_rfl) (by kernel_rfl) ?_
    refine still_val (.slice B bl bq) (by kernel_rfl) (still_load (.pointer (some ⟨w.heap.size + 1, 3, none⟩)) rfl (by kernel_rfl) (by go_simp)) ?_
    refine still_val (.string tt) (by kernel_rfl) (still_conv rfl (by kernel_rfl) hs2) ?_
    refine still_val (.bool true) (by kernel_rfl) (still_bin (.string tt) (.string tt) rfl (by kernel_rfl) (by kernel_rfl) (by go_simp) (by go_simp)) ?_
    refine still_val (.bool true) (by kernel_rfl) (by kernel_rfl) ?_
    refine still_val (.agg (rc n z db' dc' wb' wc' bb' bc' (!(R.program n z (pl se off).1 (pl se off).2 bs).2.on) (R.program n z (pl se off).1 (pl se off).2 bs).2.offs (R.program n z (pl se off).1 (pl se off).2 bs).2.acts cuts' left' whole' mask')) (by kernel_rfl) (still_load (.pointer (some ⟨w3.heap.size, 0, none⟩)) rfl (by kernel_rfl) (load_blk HT5.out Try.underlying35 rfl info_ref)) ?_
    refine still_val (.bool true) (by kernel_rfl) (by kernel_rfl) ?_
    refine still_end ?_
    simp only [Act.put, List.setIfInBounds_toArray, List.set_cons_zero, List.set_cons_succ]
    go_wp2_with ((with_reducible refine pick none ?_); refine wpList_store_blk rfl 35 _ _ rfl (w.heap.size + 1 + 1) (rc n z db' dc' wb' wc' bb' bc' (!(R.program n z (pl se off).1 (pl se off).2 bs).2.on) (R.program n z (pl se off).1 (pl se off).2 bs).2.offs (R.program n z (pl se off).1 (pl se off).2 bs).2.acts cuts' left' whole' mask') rfl rfl 35 zeroRef HX5.out.res info_ref rfl (rc_one _ _ _ _ _ _ _ _ _ _ _ _ _ _ _) ?_; intro w6 hb6 hg6)
    refine bodyPost_ret (v := .tuple #[.bool true, .agg (rc n z db' dc' wb' wc' bb' bc' (!(R.program n z (pl se off).1 (pl se off).2 bs).2.on) (R.program n z (pl se off).1 (pl se off).2 bs).2.offs (R.program n z (pl se off).1 (pl se off).2 bs).2.acts cuts' left' whole' mask')]) ?_ rfl ⟨true, _, rfl, fun _ => rfl, dev_chg HD5.out hg6 (fun k h1 h2 e => by omega), Ref.of rfl (RefP.other HP5.out HX5.out.res hg6) HR3.out, HX5.out.done hg6⟩
    exact results_tmp_row (fn := Try.f12) rfl _ _ (w.heap.size + 1 + 1) 35 _ (0, 0) _ rfl hb6 Try.underlying35 rfl info_ref
  · still_step
    have HAB := Lib.hid hab
    clear hab
    refine WLeft.out ?_
    refine still_val (.bool false) (by kernel_rfl) (by kernel_rfl) ?_
    refine still_skip (by kernel_rfl) ?_
    refine still_skip (by kernel_rfl) ?_
    refine still_skip (by kernel_rfl) ?_
    refine still_skip (by kernel_rfl) ?_
    refine still_skip (by kernel_rfl) ?_
    refine still_skip (by kernel_rfl) ?_
    refine still_val (.bool false) (by kernel_rfl) (by kernel_rfl) ?_
    refine still_val (.agg (rc n z db' dc' wb' wc' bb' bc' (!(R.program n z (pl se off).1 (pl se off).2 bs).2.on) (R.program n z (pl se off).1 (pl se off).2 bs).2.offs (R.program n z (pl se off).1 (pl se off).2 bs).2.acts cuts' left' whole' mask')) (by kernel_rfl) (still_load (.pointer (some ⟨w3.heap.size, 0, none⟩)) rfl (by kernel_rfl) (load_blk HT5.out Try.underlying35 rfl info_ref)) ?_
    refine still_val (.bool false) (by kernel_rfl) (by kernel_rfl) ?_
    refine still_end ?_
    simp only [Act.put, List.setIfInBounds_toArray, List.set_cons_zero, List.set_cons_succ]
    go_wp2_with ((with_reducible refine pick none ?_); refine wpList_store_blk rfl 35 _ _ rfl (w.heap.size + 1 + 1) (rc n z db' dc' wb' wc' bb' bc' (!(R.program n z (pl se off).1 (pl se off).2 bs).2.on) (R.program n z (pl se off).1 (pl se off).2 bs).2.offs (R.program n z (pl se off).1 (pl se off).2 bs).2.acts cuts' left' whole' mask') rfl rfl 35 zeroRef HX5.out.res info_ref rfl (rc_one _ _ _ _ _ _ _ _ _ _ _ _ _ _ _) ?_; intro w6 hb6 hg6)
    refine bodyPost_ret (v := .tuple #[.bool false, .agg (rc n z db' dc' wb' wc' bb' bc' (!(R.program n z (pl se off).1 (pl se off).2 bs).2.on) (R.program n z (pl se off).1 (pl se off).2 bs).2.offs (R.program n z (pl se off).1 (pl se off).2 bs).2.acts cuts' left' whole' mask')]) ?_ rfl ⟨false, _, rfl, fun e => (HNE HAB e).elim, dev_chg HD5.out hg6 (fun k h1 h2 e => by omega), Ref.of rfl (RefP.other HP5.out HX5.out.res hg6) HR3.out, HX5.out.done hg6⟩
    exact results_tmp_row (fn := Try.f12) rfl _ _ (w.heap.size + 1 + 1) 35 _ (0, 0) _ rfl hb6 Try.underlying35 rfl info_ref
end
end Go.Proofs.Ytdcmpkohengnaaa.NorDr
