/- Do, the operations that answer nothing (Cut, Off, On, Spoil): the contract, for any state of the device and any of the document's. -/
import Derived.Test.YtdcmpkohengnaaaNorI
import Derived.Test.YtdcmpkohengnaaaNorL
namespace Go.Proofs.Ytdcmpkohengnaaa.NorDo
set_option linter.unusedVariables false
set_option linter.unusedSimpArgs false
open Go.RowKit
open Go.Proofs.Ytdcmpkohengnaaa.Byte Go.Proofs.Ytdcmpkohengnaaa.NorD Go.Proofs.Ytdcmpkohengnaaa.NorM Go.Proofs.Ytdcmpkohengnaaa.NorS Go.Proofs.Ytdcmpkohengnaaa.NorF Go.Proofs.Ytdcmpkohengnaaa.NorH Go.Proofs.Ytdcmpkohengnaaa.NorB Go.Proofs.Ytdcmpkohengnaaa.NorP Go.Proofs.Ytdcmpkohengnaaa.NorR Go.Proofs.Ytdcmpkohengnaaa.NorU Go.Proofs.Ytdcmpkohengnaaa.NorV Go.Proofs.Ytdcmpkohengnaaa.NorX Go.Proofs.Ytdcmpkohengnaaa.NorY Go.Proofs.Ytdcmpkohengnaaa.NorZ Go.Proofs.Ytdcmpkohengnaaa.NorI Go.Proofs.Ytdcmpkohengnaaa.NorJ Go.Proofs.Ytdcmpkohengnaaa.NorK Go.Proofs.Ytdcmpkohengnaaa.NorL Go.Proofs.Ytdcmpkohengnaaa.PlaceM Go.Proofs.Ytdcmpkohengnaaa.PlaceV

/-- The place of two numbers: 0 if they are no place's. -/
def pl (se off : Int) : Nat × Nat := if 0 ≤ se ∧ se ≤ 2147483647 ∧ 0 ≤ off ∧ off ≤ 2147483647 then (se.toNat, off.toNat) else (0, 0)
theorem of_num (se off : Int) (w : World) : Calls Try.prog 17 #[.int .i64 se, .int .i64 off] w fun e w' => ∃ x y, e = .returned (.complex .f64 x y) ∧ (rt x = true ∧ rt y = true ∧ nm x = ((pl se off).1 : Int) ∧ nm y = ((pl se off).2 : Int)) ∧ w = w' := by
  by_cases h : 0 ≤ se ∧ se ≤ 2147483647 ∧ 0 ≤ off ∧ off ≤ 2147483647
  · have e : pl se off = (se.toNat, off.toNat) := if_pos h
    refine (of_yes se off w h.1 h.2.1 h.2.2.1 h.2.2.2).mono fun e' w' ⟨h1, h2⟩ => ⟨_, _, h1, ⟨fi_rt _ h.1 h.2.1, fi_rt _ h.2.2.1 h.2.2.2, ?_, ?_⟩, h2⟩
    · rw [fi_nm _ h.1 h.2.1, e]
      omega
    · rw [fi_nm _ h.2.2.1 h.2.2.2, e]
      omega
  · have e : pl se off = (0, 0) := if_neg h
    refine (of_no se off w (by omega)).mono fun e' w' ⟨h1, h2⟩ => ⟨_, _, h1, ⟨three.2.2.1, three.2.2.1, ?_, ?_⟩, h2⟩
    · rw [three.2.2.2, e]
      rfl
    · rw [three.2.2.2, e]
      rfl
section
variable {lo hi d n z K : Nat} {s : St}
theorem dev_chg {w w' : World} {S : Nat → Prop} (h : Dev w lo hi d n z K s) (hc : Chg S w w') (hS : ∀ k, lo ≤ k → k < hi → ¬ S k) : Dev w' lo hi d n z K s := by
  obtain ⟨_, _, _, _, _, _, _, _, _, h⟩ := h
  exact (DevP.chg h hc hS).dev
theorem dev_more {w : World} (h : Dev w lo hi d n z K s) {K' : Nat} (hK : K ≤ K') (hb : K' ≤ 1000000) : Dev w lo hi d n z K' s := by
  obtain ⟨_, _, _, _, _, _, _, _, _, h⟩ := h
  exact (DevP.more h hK hb).dev
theorem dev_off (w : World) (hD : Dev w lo hi d n z K s) (hK : K + 1 ≤ 1000000) : Calls Try.prog 21 #[.pointer (some ⟨d, 0, none⟩)] w fun e w' => e = .returned (.tuple #[]) ∧ Dev w' lo hi d n z (K + 1) s.turn ∧ Chg (fun q => lo ≤ q ∧ q < hi) w w' := by
  obtain ⟨_, _, _, _, _, _, _, _, _, h⟩ := hD
  exact turnOff_calls w h hK
theorem dev_on (w : World) (hD : Dev w lo hi d n z K s) : Calls Try.prog 18 #[.pointer (some ⟨d, 0, none⟩)] w fun e w' => e = .returned (.tuple #[]) ∧ Dev w' lo hi d n z K s.up ∧ Chg (fun q => lo ≤ q ∧ q < hi) w w' := by
  obtain ⟨_, _, _, _, _, _, _, _, _, h⟩ := hD
  exact turnOn_calls w h
theorem dev_cut (w : World) (hD : Dev w lo hi d n z K s) (a b m : Int) (ha : a ≤ 9223372036854775807) (hb : b ≤ 9223372036854775807) (h0 : 0 ≤ m) (h1 : m ≤ 255) :
    Calls Try.prog 20 #[.pointer (some ⟨d, 0, none⟩), .int .i64 a, .int .i64 b, .int .u8 m] w fun e w' => e = .returned (.tuple #[]) ∧ Dev w' lo hi d n z K (s.setCut a b m) ∧ Chg (fun q => lo ≤ q ∧ q < hi) w w' := by
  obtain ⟨_, _, _, _, _, _, _, _, _, h⟩ := hD
  exact cut_calls w h a b m ha hb h0 h1
theorem dev_spoil (w : World) (hD : Dev w lo hi d n z K s) (hK : K + 1 ≤ 1000000) (se : Int) :
    Calls Try.prog 19 #[.pointer (some ⟨d, 0, none⟩), .int .i64 se] w fun e w' => e = .returned (.tuple #[]) ∧ Dev w' lo hi d n z (K + 1) (s.spoil n se) ∧ Chg (fun q => lo ≤ q ∧ q < hi) w w' := by
  have hD' := hD
  obtain ⟨_, _, _, _, _, _, _, _, _, h⟩ := hD
  by_cases hin : 0 ≤ se ∧ se < (n : Int)
  · obtain ⟨i, rfl⟩ := Int.eq_ofNat_of_zero_le hin.1
    exact spoil_yes w h hK i (by omega)
  · have e1 : s.spoil n se = s := by
      unfold St.spoil
      rw [if_neg hin]
    rw [e1]
    exact (spoil_no w h se (by omega)).mono fun e w' ⟨he, hw⟩ => by
      subst hw
      exact ⟨he, dev_more hD' (by omega) hK, Chg.refl _ _⟩
end
theorem refP_chg {w w' : World} {rl lo hi n z K : Nat} {s : St} {db wb bb : Nat} {cuts : Bool} {left whole mask : Int} {L LC : Nat → Nat} (h : RefP w rl n z K s db wb bb cuts left whole mask L LC) (hc : Chg (fun q => lo ≤ q ∧ q < hi) w w') (hh : hi ≤ rl) : RefP w' rl n z K s db wb bb cuts left whole mask L LC :=
  h.keep (fun k h1 h2 => hc.block k h2 (by omega)) hc.size
/-- Inside Do: the boxes of the document's device and of the operation, the result's variable. -/
structure DX (w W : World) (lo hi : Nat) (c oc : Array Value) : Prop where
  box : Blk W w.heap.size 35 c
  op : Blk W (w.heap.size + 1) 40 oc
  res : Blk W (w.heap.size + 1 + 1) 35 zeroRef
  chg : Chg (fun q => lo ≤ q ∧ q < hi) w W
theorem three_below (w : World) (o o' o2 : Obj) : Below w.heap.size w (((w.alloc o).alloc o').alloc o2) := (two_allocs w o o').alloc (by simp; omega) _
theorem DX.of (w : World) (lo hi : Nat) (c oc : Array Value) : DX w (((w.alloc (.cells c 35)).alloc (.cells oc 40)).alloc (.cells zeroRef 35)) lo hi c oc := by
  refine ⟨((Blk.new w _ _).alloc _).alloc _, ?_, ?_, Chg.of_below (three_below w _ _ _)⟩
  · have := (Blk.new (w.alloc (.cells c 35)) 40 oc).alloc (.cells zeroRef 35)
    simpa using this
  · have := Blk.new ((w.alloc (.cells c 35)).alloc (.cells oc 40)) 35 zeroRef
    simpa using this
section
variable {w W W' : World} {lo hi : Nat} {c oc : Array Value}
theorem DX.step (h : DX w W lo hi c oc) (hc : Chg (fun q => lo ≤ q ∧ q < hi) W W') (hh : hi ≤ w.heap.size) : DX w W' lo hi c oc :=
  ⟨h.box.chg hc (by omega), h.op.chg hc (by omega), h.res.chg hc (by omega), h.chg.trans hc⟩
theorem DX.below (h : DX w W lo hi c oc) (hb : Below W.heap.size W W') (hh : hi ≤ w.heap.size) : DX w W' lo hi c oc := h.step (Chg.of_below hb) hh
theorem DX.drew (h : DX w W lo hi c oc) : DX w W.drew lo hi c oc := ⟨h.box, h.op, h.res, h.chg.drew⟩
theorem DX.done (h : DX w W lo hi c oc) (hg : Chg (fun q => q = w.heap.size + 1 + 1) W W') : Chg (fun q => lo ≤ q ∧ q < hi) w W' := h.chg.then_ hg (fun i h1 e => by omega)
theorem DX.lt (h : DX w W lo hi c oc) : w.heap.size + 1 + 1 < W.heap.size := h.res.lt
end
def DoPost (w : World) (lo hi d rl n z K : Nat) (D R : St) (same : Prop) (e : Ending) (w' : World) : Prop :=
  ∃ ok v', e = .returned (.tuple #[.bool ok, v']) ∧ (same → ok = true) ∧ Dev w' lo hi d n z K D ∧ Ref w' rl n z K R v' ∧ Chg (fun q => lo ≤ q ∧ q < hi) w w'

section
variable {lo hi d rl n z K : Nat} {D R : St}
set_option maxRecDepth 100000 in
set_option maxHeartbeats 1000000 in
theorem do_off (w : World) (v : Value) (hD : Dev w lo hi d n z K D) (hR : Ref w rl n z K R v) (hh : hi ≤ rl) (hl : rl ≤ w.heap.size) (hK : K + 3 ≤ 1000000) (se off : Int) (B : Option Addr) (bl bq : Nat) (nn kk mm : Int) :
    Calls Try.prog 12 #[.pointer (some ⟨d, 0, none⟩), v, .agg #[.int .i64 4, .int .i64 se, .int .i64 off, .slice B bl bq, .int .i64 nn, .int .i64 kk, .int .u8 mm]] w (DoPost w lo hi d rl n z (K + 1) (D.turn) (R.turn) True) := by
  obtain ⟨db, dc, wb, wc, bb, bc, cuts, left, whole, mask, L, LC, rfl, hP, hr⟩ := hR
  have HP := Lib.hid hP
  have HR := Lib.hid hr
  have HX := Lib.hid (DX.of w lo hi (rc n z db dc wb wc bb bc (!R.on) R.offs R.acts cuts left whole mask) #[.int .i64 4, .int .i64 se, .int .i64 off, .slice B bl bq, .int .i64 nn, .int .i64 kk, .int .u8 mm])
  have HD := Lib.hid (dev_below hD (three_below w (.cells (rc n z db dc wb wc bb bc (!R.on) R.offs R.acts cuts left whole mask) 35) (.cells #[.int .i64 4, .int .i64 se, .int .i64 off, .slice B bl bq, .int .i64 nn, .int .i64 kk, .int .u8 mm] 40) (.cells zeroRef 35)))
  clear hP hr hD
  have hhw : hi ≤ w.heap.size := by omega
  unfold refVal
  go_enter Try.func12, Try.ntmps12
  go_upto_region 1 with (fail)
  change Code.wp _ _ _ _ (((w.alloc (.cells (rc n z db dc wb wc bb bc (!R.on) R.offs R.acts cuts left whole mask) 35)).alloc (.cells #[.int .i64 4, .int .i64 se, .int .i64 off, .slice B bl bq, .int .i64 nn, .int .i64 kk, .int .u8 mm] 40)).alloc (.cells zeroRef 35))
  generalize ((w.alloc (.cells (rc n z db dc wb wc bb bc (!R.on) R.offs R.acts cuts left whole mask) 35)).alloc (.cells #[.int .i64 4, .int .i64 se, .int .i64 off, .slice B bl bq, .int .i64 nn, .int .i64 kk, .int .u8 mm] 40)).alloc (.cells zeroRef 35) = W at *
  have o0 : W.cell? ⟨w.heap.size + 1, 0, none⟩ = some (.int .i64 4) := HX.out.op.cell 0
  have o1 : W.cell? ⟨w.heap.size + 1, 1, none⟩ = some (.int .i64 se) := HX.out.op.cell 1
  have o2 : W.cell? ⟨w.heap.size + 1, 2, none⟩ = some (.int .i64 off) := HX.out.op.cell 2
  go_wp2_with (first
    | (go_at_call 17; refine (of_num _ _ _).mono ?_; rintro e w' ⟨x, y, rfl, hxy, rfl⟩; have HXY := Lib.hid hxy; clear hxy)
    | (go_at_call 21; refine (dev_off W HD.out (by omega)).mono ?_; rintro e w1 ⟨rfl, hD1, hc1⟩; have HX1 := Lib.hid (HX.out.step hc1 hhw); have HD1 := Lib.hid hD1; clear hD1 hc1 o0 o1 o2)
    | ((with_reducible refine pick (some 156) ?_); refine wpList_load_row rfl _ _ rfl w.heap.size rfl 35 (rc n z db dc wb wc bb bc (!R.on) R.offs R.acts cuts left whole mask) (0, 0) _ HX1.out.box Try.underlying35 rfl info_ref ?_)
    | (go_at_call 37; refine (refTurn_calls w1 (.agg (rc n z db dc wb wc bb bc (!R.on) R.offs R.acts cuts left whole mask)) (Ref.of rfl (refP_chg HP.out HX1.out.chg hh) HR.out) (by omega)).mono ?_; rintro e w2 ⟨v', rfl, ⟨db', dc', wb', wc', bb', bc', cuts', left', whole', mask', L', LC', rfl, hP2, hr2⟩, hb2⟩; have HX2 := Lib.hid (HX1.out.below hb2 hhw); have HP2 := Lib.hid hP2; have HR2 := Lib.hid hr2; have HB2 := Lib.hid hb2; clear hP2 hr2 hb2)
    | ((with_reducible refine pick none ?_); refine wpList_store_blk rfl 35 _ _ rfl (w.heap.size + 1 + 1) (rc n z db' dc' wb' wc' bb' bc' (!(R.turn).on) (R.turn).offs (R.turn).acts cuts' left' whole' mask') rfl rfl 35 zeroRef HX2.out.res info_ref rfl (rc_one _ _ _ _ _ _ _ _ _ _ _ _ _ _ _) ?_; intro w3 hb3 hg3))
  refine bodyPost_ret (v := .tuple #[.bool true, .agg (rc n z db' dc' wb' wc' bb' bc' (!(R.turn).on) (R.turn).offs (R.turn).acts cuts' left' whole' mask')]) ?_ rfl ⟨true, _, rfl, fun _ => rfl, (dev_chg (dev_below HD1.out HB2.out) hg3 (fun k h1 h2 e => by omega)), (Ref.of rfl (RefP.other HP2.out HX2.out.res hg3) HR2.out), HX2.out.done hg3⟩
  exact results_tmp_row (fn := Try.f12) rfl _ _ (w.heap.size + 1 + 1) 35 _ (0, 0) _ rfl hb3 Try.underlying35 rfl info_ref
set_option maxRecDepth 100000 in
set_option maxHeartbeats 1000000 in
theorem do_cut (w : World) (v : Value) (hD : Dev w lo hi d n z K D) (hR : Ref w rl n z K R v) (hh : hi ≤ rl) (hl : rl ≤ w.heap.size) (hK : K + 3 ≤ 1000000) (se off : Int) (B : Option Addr) (bl bq : Nat) (nn kk mm : Int) (hn : nn ≤ 9223372036854775807) (hk : kk ≤ 9223372036854775807) (hm0 : 0 ≤ mm) (hm1 : mm ≤ 255) :
    Calls Try.prog 12 #[.pointer (some ⟨d, 0, none⟩), v, .agg #[.int .i64 3, .int .i64 se, .int .i64 off, .slice B bl bq, .int .i64 nn, .int .i64 kk, .int .u8 mm]] w (DoPost w lo hi d rl n z (K) (D.setCut nn kk mm) (R.setCut nn kk mm) True) := by
  obtain ⟨db, dc, wb, wc, bb, bc, cuts, left, whole, mask, L, LC, rfl, hP, hr⟩ := hR
  have HP := Lib.hid hP
  have HR := Lib.hid hr
  have HX := Lib.hid (DX.of w lo hi (rc n z db dc wb wc bb bc (!R.on) R.offs R.acts cuts left whole mask) #[.int .i64 3, .int .i64 se, .int .i64 off, .slice B bl bq, .int .i64 nn, .int .i64 kk, .int .u8 mm])
  have HD := Lib.hid (dev_below hD (three_below w (.cells (rc n z db dc wb wc bb bc (!R.on) R.offs R.acts cuts left whole mask) 35) (.cells #[.int .i64 3, .int .i64 se, .int .i64 off, .slice B bl bq, .int .i64 nn, .int .i64 kk, .int .u8 mm] 40) (.cells zeroRef 35)))
  clear hP hr hD
  have hhw : hi ≤ w.heap.size := by omega
  unfold refVal
  go_enter Try.func12, Try.ntmps12
  go_upto_region 1 with (fail)
  change Code.wp _ _ _ _ (((w.alloc (.cells (rc n z db dc wb wc bb bc (!R.on) R.offs R.acts cuts left whole mask) 35)).alloc (.cells #[.int .i64 3, .int .i64 se, .int .i64 off, .slice B bl bq, .int .i64 nn, .int .i64 kk, .int .u8 mm] 40)).alloc (.cells zeroRef 35))
  generalize ((w.alloc (.cells (rc n z db dc wb wc bb bc (!R.on) R.offs R.acts cuts left whole mask) 35)).alloc (.cells #[.int .i64 3, .int .i64 se, .int .i64 off, .slice B bl bq, .int .i64 nn, .int .i64 kk, .int .u8 mm] 40)).alloc (.cells zeroRef 35) = W at *
  have o0 : W.cell? ⟨w.heap.size + 1, 0, none⟩ = some (.int .i64 3) := HX.out.op.cell 0
  have o1 : W.cell? ⟨w.heap.size + 1, 1, none⟩ = some (.int .i64 se) := HX.out.op.cell 1
  have o2 : W.cell? ⟨w.heap.size + 1, 2, none⟩ = some (.int .i64 off) := HX.out.op.cell 2
  have o4 : W.cell? ⟨w.heap.size + 1, 4, none⟩ = some (.int .i64 nn) := HX.out.op.cell 4
  have o5 : W.cell? ⟨w.heap.size + 1, 5, none⟩ = some (.int .i64 kk) := HX.out.op.cell 5
  have o6 : W.cell? ⟨w.heap.size + 1, 6, none⟩ = some (.int .u8 mm) := HX.out.op.cell 6
  go_wp2_with (first
    | (go_at_call 17; refine (of_num _ _ _).mono ?_; rintro e w' ⟨x, y, rfl, hxy, rfl⟩; have HXY := Lib.hid hxy; clear hxy)
    | (go_at_call 20; refine (dev_cut W HD.out nn kk mm (by omega) (by omega) (by omega) (by omega)).mono ?_; rintro e w1 ⟨rfl, hD1, hc1⟩; have HX1 := Lib.hid (HX.out.step hc1 hhw); have HD1 := Lib.hid hD1; clear hD1 hc1 o0 o1 o2 o4 o5 o6; have p4 : w1.cell? ⟨w.heap.size + 1, 4, none⟩ = some (.int .i64 nn) := HX1.out.op.cell 4; have p5 : w1.cell? ⟨w.heap.size + 1, 5, none⟩ = some (.int .i64 kk) := HX1.out.op.cell 5; have p6 : w1.cell? ⟨w.heap.size + 1, 6, none⟩ = some (.int .u8 mm) := HX1.out.op.cell 6)
    | ((with_reducible refine pick (some 144) ?_); refine wpList_load_row rfl _ _ rfl w.heap.size rfl 35 (rc n z db dc wb wc bb bc (!R.on) R.offs R.acts cuts left whole mask) (0, 0) _ HX1.out.box Try.underlying35 rfl info_ref ?_)
    | (go_at_call 36; refine (refCut_calls w1 (.agg (rc n z db dc wb wc bb bc (!R.on) R.offs R.acts cuts left whole mask)) (Ref.of rfl (refP_chg HP.out HX1.out.chg hh) HR.out) nn kk mm (by omega) (by omega) (by omega) (by omega)).mono ?_; rintro e w2 ⟨v', rfl, ⟨db', dc', wb', wc', bb', bc', cuts', left', whole', mask', L', LC', rfl, hP2, hr2⟩, hb2⟩; have HX2 := Lib.hid (HX1.out.below hb2 hhw); have HP2 := Lib.hid hP2; have HR2 := Lib.hid hr2; have HB2 := Lib.hid hb2; clear hP2 hr2 hb2)
    | ((with_reducible refine pick none ?_); refine wpList_store_blk rfl 35 _ _ rfl (w.heap.size + 1 + 1) (rc n z db' dc' wb' wc' bb' bc' (!(R.setCut nn kk mm).on) (R.setCut nn kk mm).offs (R.setCut nn kk mm).acts cuts' left' whole' mask') rfl rfl 35 zeroRef HX2.out.res info_ref rfl (rc_one _ _ _ _ _ _ _ _ _ _ _ _ _ _ _) ?_; intro w3 hb3 hg3))
  refine bodyPost_ret (v := .tuple #[.bool true, .agg (rc n z db' dc' wb' wc' bb' bc' (!(R.setCut nn kk mm).on) (R.setCut nn kk mm).offs (R.setCut nn kk mm).acts cuts' left' whole' mask')]) ?_ rfl ⟨true, _, rfl, fun _ => rfl, (dev_chg (dev_below HD1.out HB2.out) hg3 (fun k h1 h2 e => by omega)), (Ref.of rfl (RefP.other HP2.out HX2.out.res hg3) HR2.out), HX2.out.done hg3⟩
  exact results_tmp_row (fn := Try.f12) rfl _ _ (w.heap.size + 1 + 1) 35 _ (0, 0) _ rfl hb3 Try.underlying35 rfl info_ref
set_option maxRecDepth 100000 in
set_option maxHeartbeats 1000000 in
theorem do_spoil (w : World) (v : Value) (hD : Dev w lo hi d n z K D) (hR : Ref w rl n z K R v) (hh : hi ≤ rl) (hl : rl ≤ w.heap.size) (hK : K + 3 ≤ 1000000) (se off : Int) (B : Option Addr) (bl bq : Nat) (nn kk mm : Int) (kd : Int) (hkd : kd < 0 ∨ 5 < kd) :
    Calls Try.prog 12 #[.pointer (some ⟨d, 0, none⟩), v, .agg #[.int .i64 kd, .int .i64 se, .int .i64 off, .slice B bl bq, .int .i64 nn, .int .i64 kk, .int .u8 mm]] w (DoPost w lo hi d rl n z (K + 1) (D.spoil n se) (R.spoil n se) True) := by
  obtain ⟨db, dc, wb, wc, bb, bc, cuts, left, whole, mask, L, LC, rfl, hP, hr⟩ := hR
  have HP := Lib.hid hP
  have HR := Lib.hid hr
  have HX := Lib.hid (DX.of w lo hi (rc n z db dc wb wc bb bc (!R.on) R.offs R.acts cuts left whole mask) #[.int .i64 kd, .int .i64 se, .int .i64 off, .slice B bl bq, .int .i64 nn, .int .i64 kk, .int .u8 mm])
  have HD := Lib.hid (dev_below hD (three_below w (.cells (rc n z db dc wb wc bb bc (!R.on) R.offs R.acts cuts left whole mask) 35) (.cells #[.int .i64 kd, .int .i64 se, .int .i64 off, .slice B bl bq, .int .i64 nn, .int .i64 kk, .int .u8 mm] 40) (.cells zeroRef 35)))
  clear hP hr hD
  have hhw : hi ≤ w.heap.size := by omega
  unfold refVal
  have e0 : (kd == 0) = false := beq_eq_false_iff_ne.2 (by omega)
  have e1 : (kd == 1) = false := beq_eq_false_iff_ne.2 (by omega)
  have e2 : (kd == 2) = false := beq_eq_false_iff_ne.2 (by omega)
  have e3 : (kd == 3) = false := beq_eq_false_iff_ne.2 (by omega)
  have e4 : (kd == 4) = false := beq_eq_false_iff_ne.2 (by omega)
  have e5 : (kd == 5) = false := beq_eq_false_iff_ne.2 (by omega)
  go_enter Try.func12, Try.ntmps12
  go_upto_region 1 with (fail)
  change Code.wp _ _ _ _ (((w.alloc (.cells (rc n z db dc wb wc bb bc (!R.on) R.offs R.acts cuts left whole mask) 35)).alloc (.cells #[.int .i64 kd, .int .i64 se, .int .i64 off, .slice B bl bq, .int .i64 nn, .int .i64 kk, .int .u8 mm] 40)).alloc (.cells zeroRef 35))
  generalize ((w.alloc (.cells (rc n z db dc wb wc bb bc (!R.on) R.offs R.acts cuts left whole mask) 35)).alloc (.cells #[.int .i64 kd, .int .i64 se, .int .i64 off, .slice B bl bq, .int .i64 nn, .int .i64 kk, .int .u8 mm] 40)).alloc (.cells zeroRef 35) = W at *
  have o0 : W.cell? ⟨w.heap.size + 1, 0, none⟩ = some (.int .i64 kd) := HX.out.op.cell 0
  have o1 : W.cell? ⟨w.heap.size + 1, 1, none⟩ = some (.int .i64 se) := HX.out.op.cell 1
  have o2 : W.cell? ⟨w.heap.size + 1, 2, none⟩ = some (.int .i64 off) := HX.out.op.cell 2
  go_wp2_with (first
    | (go_at_call 17; refine (of_num _ _ _).mono ?_; rintro e w' ⟨x, y, rfl, hxy, rfl⟩; have HXY := Lib.hid hxy; clear hxy)
    | (go_at_call 19; refine (dev_spoil W HD.out (by omega) se).mono ?_; rintro e w1 ⟨rfl, hD1, hc1⟩; have HX1 := Lib.hid (HX.out.step hc1 hhw); have HD1 := Lib.hid hD1; clear hD1 hc1 o0 o1 o2; have p1 : w1.cell? ⟨w.heap.size + 1, 1, none⟩ = some (.int .i64 se) := HX1.out.op.cell 1)
    | ((with_reducible refine pick (some 168) ?_); refine wpList_load_row rfl _ _ rfl w.heap.size rfl 35 (rc n z db dc wb wc bb bc (!R.on) R.offs R.acts cuts left whole mask) (0, 0) _ HX1.out.box Try.underlying35 rfl info_ref ?_)
    | (go_at_call 38; refine (refSpoil_calls w1 (.agg (rc n z db dc wb wc bb bc (!R.on) R.offs R.acts cuts left whole mask)) (Ref.of rfl (refP_chg HP.out HX1.out.chg hh) HR.out) se (by have := HX1.out.lt; omega)).mono ?_; rintro e w2 ⟨v', rfl, ⟨db', dc', wb', wc', bb', bc', cuts', left', whole', mask', L', LC', rfl, hP2, hr2⟩, hb2⟩; have HX2 := Lib.hid (HX1.out.below hb2 hhw); have HP2 := Lib.hid hP2; have HR2 := Lib.hid hr2; have HB2 := Lib.hid hb2; clear hP2 hr2 hb2)
    | ((with_reducible refine pick none ?_); refine wpList_store_blk rfl 35 _ _ rfl (w.heap.size + 1 + 1) (rc n z db' dc' wb' wc' bb' bc' (!(R.spoil n se).on) (R.spoil n se).offs (R.spoil n se).acts cuts' left' whole' mask') rfl rfl 35 zeroRef HX2.out.res info_ref rfl (rc_one _ _ _ _ _ _ _ _ _ _ _ _ _ _ _) ?_; intro w3 hb3 hg3))
  refine bodyPost_ret (v := .tuple #[.bool true, .agg (rc n z db' dc' wb' wc' bb' bc' (!(R.spoil n se).on) (R.spoil n se).offs (R.spoil n se).acts cuts' left' whole' mask')]) ?_ rfl ⟨true, _, rfl, fun _ => rfl, (dev_chg (dev_below HD1.out HB2.out) hg3 (fun k h1 h2 e => by omega)), ((Ref.of rfl (RefP.other HP2.out HX2.out.res hg3) HR2.out).more (by omega) (by omega)), HX2.out.done hg3⟩
  exact results_tmp_row (fn := Try.f12) rfl _ _ (w.heap.size + 1 + 1) 35 _ (0, 0) _ rfl hb3 Try.underlying35 rfl info_ref
end
end Go.Proofs.Ytdcmpkohengnaaa.NorDo
