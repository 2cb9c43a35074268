/- The walk of layer 4's law NorPlays. -/
import Derived.Test.YtdcmpkohengnaaaNorDt
import Derived.Test.YtdcmpkohengnaaaNorSm
import Derived.Test.YtdcmpkohengnaaaNorQ
namespace Go.Proofs.Ytdcmpkohengnaaa.NorPl
set_option linter.unusedVariables false
set_option linter.unusedSimpArgs false
open Go.RowKit
open Go.Proofs.Ytdcmpkohengnaaa.Byte Go.Proofs.Ytdcmpkohengnaaa.NorD Go.Proofs.Ytdcmpkohengnaaa.NorM Go.Proofs.Ytdcmpkohengnaaa.NorS Go.Proofs.Ytdcmpkohengnaaa.NorF Go.Proofs.Ytdcmpkohengnaaa.NorG Go.Proofs.Ytdcmpkohengnaaa.NorH Go.Proofs.Ytdcmpkohengnaaa.NorB Go.Proofs.Ytdcmpkohengnaaa.NorP Go.Proofs.Ytdcmpkohengnaaa.NorR Go.Proofs.Ytdcmpkohengnaaa.NorU Go.Proofs.Ytdcmpkohengnaaa.NorV Go.Proofs.Ytdcmpkohengnaaa.NorX Go.Proofs.Ytdcmpkohengnaaa.NorY Go.Proofs.Ytdcmpkohengnaaa.NorZ Go.Proofs.Ytdcmpkohengnaaa.NorI Go.Proofs.Ytdcmpkohengnaaa.NorJ Go.Proofs.Ytdcmpkohengnaaa.NorK Go.Proofs.Ytdcmpkohengnaaa.NorL Go.Proofs.Ytdcmpkohengnaaa.NorDo Go.Proofs.Ytdcmpkohengnaaa.NorDp Go.Proofs.Ytdcmpkohengnaaa.NorDr Go.Proofs.Ytdcmpkohengnaaa.NorDs Go.Proofs.Ytdcmpkohengnaaa.NorDt Go.Proofs.Ytdcmpkohengnaaa.NorSm Go.Proofs.Ytdcmpkohengnaaa.NorO Go.Proofs.Ytdcmpkohengnaaa.NorQ Go.Proofs.Ytdcmpkohengnaaa.PlaceM Go.Proofs.Ytdcmpkohengnaaa.PlaceV

/-- The box of the geometry, behind whatever was made. -/
structure GX (w W : World) (n z : Int) : Prop where
  box : Blk W w.heap.size 23 #[.int .i64 n, .int .i64 z]
  bel : Below w.heap.size w W
section
variable {w W W' : World} {n z : Int}
theorem GX.of (w : World) (n z : Int) : GX w (w.alloc (.cells #[.int .i64 n, .int .i64 z] 23)) n z := ⟨Blk.new w _ _, (Below.refl _ _).alloc (Nat.le_refl _) _⟩
theorem GX.below (h : GX w W n z) (hb : Below W.heap.size W W') : GX w W' n z := ⟨h.box.of_eq (hb.block _ h.box.lt), h.bel.trans (hb.mono h.bel.size)⟩
theorem GX.c0 (h : GX w W n z) : W.cell? ⟨w.heap.size, 0, none⟩ = some (.int .i64 n) := h.box.cell 0
theorem GX.c1 (h : GX w W n z) : W.cell? ⟨w.heap.size, 1, none⟩ = some (.int .i64 z) := h.box.cell 1
end
theorem may_any (n z : Int) (w : World) : Calls Try.prog 6 #[.agg #[.int .i64 n, .int .i64 z]] w fun e w' => e = .returned (.bool (may n z)) ∧ Below w.heap.size w w' :=
  (refMay_calls n z w).mono fun e w' ⟨h1, h2⟩ => ⟨h1, by subst h2; exact (Below.refl _ _).alloc (Nat.le_refl _) _⟩
set_option maxRecDepth 100000 in
set_option maxHeartbeats 1000000 in
theorem plays_no (n z : Int) (A : Option Addr) (m c : Nat) (w : World) (hno : may n z = false) : Calls Try.prog 3 #[.agg #[.int .i64 n, .int .i64 z], .slice A m c] w fun e w' => e = .returned (.bool true) ∧ Below w.heap.size w w' := by
  have hmay : Hid (∀ w, Calls Try.prog 6 #[.agg #[.int .i64 n, .int .i64 z]] w fun e w' => e = .returned (.bool false) ∧ Below w.heap.size w w') := Lib.hid fun w => by
    have := may_any n z w
    rw [hno] at this
    exact this
  have HX := Lib.hid (GX.of w n z)
  go_enter Try.func3, Try.ntmps3
  go_upto_region 1 with (fail)
  change Code.wp _ _ _ _ (w.alloc (.cells #[.int .i64 n, .int .i64 z] 23))
  generalize w.alloc (.cells #[.int .i64 n, .int .i64 z] 23) = W0 at *
  have b0 := HX.out.c0
  have b1 := HX.out.c1
  go_wp2_with fail
  refine (hmay.out _).mono ?_
  rintro e W1 ⟨rfl, hb⟩
  have HX1 := Lib.hid (HX.out.below hb)
  clear b0 b1 hb
  have b0 := HX1.out.c0
  have b1 := HX1.out.c1
  go_wp2_with fail
  refine (new_no n z _ hno).mono ?_
  rintro e W2 ⟨rfl, hb⟩
  have HX2 := Lib.hid (HX1.out.below hb)
  clear b0 b1 hb
  have b0 := HX2.out.c0
  have b1 := HX2.out.c1
  go_wp2_with fail
  refine (hmay.out _).mono ?_
  rintro e W3 ⟨rfl, hb⟩
  have HX3 := Lib.hid (HX2.out.below hb)
  clear b0 b1 hb
  have b0 := HX3.out.c0
  have b1 := HX3.out.c1
  go_wp2_with fail
  refine (fixed_calls _).mono ?_
  rintro e W4 ⟨rfl, hb⟩
  have HX4 := Lib.hid (HX3.out.below hb)
  clear b0 b1 hb
  have b0 := HX4.out.c0
  have b1 := HX4.out.c1
  go_wp2_with fail
  go_ret
  exact ⟨rfl, HX4.out.bel⟩
set_option maxRecDepth 100000 in
set_option maxHeartbeats 1000000 in
theorem plays_big (n z : Int) (A : Option Addr) (m c : Nat) (w : World) (hyes : may n z = true) (hno : small n z = false) : Calls Try.prog 3 #[.agg #[.int .i64 n, .int .i64 z], .slice A m c] w fun e w' => e = .returned (.bool true) ∧ Below w.heap.size w w' := by
  have hmay : Hid (∀ w, Calls Try.prog 6 #[.agg #[.int .i64 n, .int .i64 z]] w fun e w' => e = .returned (.bool true) ∧ Below w.heap.size w w') := Lib.hid fun w => by
    have := may_any n z w
    rw [hyes] at this
    exact this
  have hsm : Hid (∀ w, Calls Try.prog 7 #[.agg #[.int .i64 n, .int .i64 z]] w fun e w' => e = .returned (.bool false) ∧ Below w.heap.size w w') := Lib.hid fun w => by
    have := small_calls n z w
    rw [hno] at this
    exact this
  have HX := Lib.hid (GX.of w n z)
  go_enter Try.func3, Try.ntmps3
  go_upto_region 1 with (fail)
  change Code.wp _ _ _ _ (w.alloc (.cells #[.int .i64 n, .int .i64 z] 23))
  generalize w.alloc (.cells #[.int .i64 n, .int .i64 z] 23) = W0 at *
  have b0 := HX.out.c0
  have b1 := HX.out.c1
  go_wp2_with fail
  refine (hmay.out _).mono ?_
  rintro e W1 ⟨rfl, hb⟩
  have HX1 := Lib.hid (HX.out.below hb)
  clear b0 b1 hb
  have b0 := HX1.out.c0
  have b1 := HX1.out.c1
  go_wp2_with fail
  refine (hsm.out _).mono ?_
  rintro e W2 ⟨rfl, hb⟩
  have HX2 := Lib.hid (HX1.out.below hb)
  clear b0 b1 hb
  have b0 := HX2.out.c0
  have b1 := HX2.out.c1
  go_wp2_with fail
  refine (fixed_calls _).mono ?_
  rintro e W3 ⟨rfl, hb⟩
  have HX3 := Lib.hid (HX2.out.below hb)
  clear b0 b1 hb
  have b0 := HX3.out.c0
  have b1 := HX3.out.c1
  go_wp2_with fail
  go_ret
  exact ⟨rfl, HX3.out.bel⟩
/-- What the operations behind A must be: bytes that read as bytes, ahead of lo; numbers of their kinds. -/
def OpsOk (w : World) (m : Nat) (ops : Nat → Opr) : Prop := ∀ j, j < m → (∃ bs, Bs w (ops j).B (ops j).bl bs) ∧ ((ops j).B = none → (ops j).bc = 0) ∧
  -9223372036854775808 ≤ (ops j).n ∧ (ops j).n ≤ 9223372036854775807 ∧ (ops j).k ≤ 9223372036854775807 ∧ 0 ≤ (ops j).mask ∧ (ops j).mask ≤ 255
/-- A variable of the document's device is written. -/
theorem RefP.var {w w' : World} {lo n z K : Nat} {s : St} {db wb bb : Nat} {cuts : Bool} {left whole mask : Int} {L LC : Nat → Nat} {g : Nat} {cs : Array Value} {x : Int} (h : RefP w lo n z K s db wb bb cuts left whole mask L LC) (hS : Blk w g 35 cs) (hx : cs[0]? = some (.int .i64 x)) (hg : Chg (fun q => q = g) w w') : RefP w' lo n z K s db wb bb cuts left whole mask L LC := by
  have hd : db ≠ g := by
    obtain ⟨_, cs, hb, _⟩ := h.data
    exact Blk.ne_ hb hS (by decide)
  have hw : wb ≠ g := by
    obtain ⟨_, cs, hb, _⟩ := h.wear
    exact Blk.ne_ hb hS (by decide)
  have hb : bb ≠ g := by
    obtain ⟨_, cs, hb, _⟩ := h.bad
    exact Blk.ne_ hb hS (by decide)
  refine ⟨h.data.of_eq (hg.block db h.data.lt hd), h.wear.of_eq (hg.block wb h.wear.lt hw), h.bad.of_eq (hg.block bb h.bad.lt hb), fun i hi => ?_, h.cut, h.fits, h.geo, h.lw, h.big⟩
  obtain ⟨h1, h2, h3⟩ := h.rows i hi
  refine ⟨h1.chg hg (fun b o e => ?_), h2, Nat.lt_of_lt_of_le h3 hg.size⟩
  rintro rfl
  have hc := h1.2.2 0 h.geo.2.2.1
  obtain ⟨b', o', e', _, hc⟩ := hc
  rw [e] at e'
  injection e' with e'
  injection e' with e1 e2
  injection e with e
  injection e with e3 e4
  subst e1 e2 e4
  have := hS.cell 0
  rw [hx] at this
  rw [hc] at this
  cases this
def RC (n z : Nat) (s : St) (db dc wb wc bb bc : Nat) (cuts : Bool) (left whole mask : Int) : Array Value := rc n z db dc wb wc bb bc (!s.on) s.offs s.acts cuts left whole mask
/-- The loop: device and document's device stand alike. -/
structure PX (w wr : World) (lo hi d rl n z bm K : Nat) (s : St) : Prop where
  dev : Dev wr lo hi d n z K s
  ref : ∃ db dc wb wc bb bc cuts left whole mask, Ref wr rl n z K s (.agg (RC n z s db dc wb wc bb bc cuts left whole mask)) ∧ Blk wr bm 35 (RC n z s db dc wb wc bb bc cuts left whole mask)
  bel : Below w.heap.size w wr
theorem agg_rc {w : World} {rl n z K : Nat} {s : St} {v : Value} (h : Ref w rl n z K s v) : ∃ db dc wb wc bb bc cuts left whole mask, v = .agg (RC n z s db dc wb wc bb bc cuts left whole mask) := by
  obtain ⟨db, dc, wb, wc, bb, bc, cuts, left, whole, mask, L, LC, hv, _⟩ := h
  exact ⟨db, dc, wb, wc, bb, bc, cuts, left, whole, mask, hv⟩
theorem Ref.var {w w' : World} {lo n z K : Nat} {s : St} {v : Value} {g : Nat} {cs : Array Value} {x : Int} (h : Ref w lo n z K s v) (hS : Blk w g 35 cs) (hx : cs[0]? = some (.int .i64 x)) (hg : Chg (fun q => q = g) w w') : Ref w' lo n z K s v := by
  obtain ⟨db, dc, wb, wc, bb, bc, cuts, left, whole, mask, L, LC, hv, hP, hr⟩ := h
  exact ⟨db, dc, wb, wc, bb, bc, cuts, left, whole, mask, L, LC, hv, RefP.var hP hS hx hg, hr⟩
theorem RC_one (n z : Nat) (s : St) (db dc wb wc bb bc : Nat) (cuts : Bool) (left whole mask : Int) : (RC n z s db dc wb wc bb bc cuts left whole mask).all (·.oneCell') = true := rc_one _ _ _ _ _ _ _ _ _ _ _ _ _ _ _
theorem Ref.below {w w' : World} {lo n z K : Nat} {s : St} {v : Value} (h : Ref w lo n z K s v) (hb : Below w.heap.size w w') : Ref w' lo n z K s v := h.keep (fun k _ h2 => hb.block k h2) hb.size
set_option maxRecDepth 100000 in
set_option maxHeartbeats 3000000 in
theorem plays_yes (n z : Nat) (A : Option Addr) (m c : Nat) (ops : Nat → Opr) (w : World) (ho : OpsAt w A m ops) (hk : OpsOk w m ops) (hm : m ≤ 9223372036854775807) (hc : m ≤ c) (hyes : may n z = true) (hsml : small n z = true) : Calls Try.prog 3 #[.agg #[.int .i64 n, .int .i64 z], .slice A m c] w fun e w' => e = .returned (.bool true) ∧ Below w.heap.size w w' := by
  have hmay : Hid (∀ w, Calls Try.prog 6 #[.agg #[.int .i64 (n : Int), .int .i64 (z : Int)]] w fun e w' => e = .returned (.bool true) ∧ Below w.heap.size w w') := Lib.hid fun w => by
    have := may_any n z w
    rw [hyes] at this
    exact this
  have hsm : Hid (∀ w, Calls Try.prog 7 #[.agg #[.int .i64 (n : Int), .int .i64 (z : Int)]] w fun e w' => e = .returned (.bool true) ∧ Below w.heap.size w w') := Lib.hid fun w => by
    have := small_calls n z w
    rw [hsml] at this
    exact this
  have hbd := may_yes hyes
  have HO := Lib.hid ho
  have HK := Lib.hid hk
  have HY := Lib.hid hyes
  clear ho hk hyes hsml
  have HX := Lib.hid (GX.of w n z)
  go_enter Try.func3, Try.ntmps3
  go_upto_region 1 with (fail)
  change Code.wp _ _ _ _ (w.alloc (.cells #[.int .i64 n, .int .i64 z] 23))
  generalize w.alloc (.cells #[.int .i64 n, .int .i64 z] 23) = W0 at *
  have b0 := HX.out.c0
  have b1 := HX.out.c1
  go_wp2_with fail
  refine (hmay.out _).mono ?_
  rintro e W1 ⟨rfl, hb⟩
  have HX1 := Lib.hid (HX.out.below hb)
  clear b0 b1 hb
  have b0 := HX1.out.c0
  have b1 := HX1.out.c1
  go_wp2_with fail
  refine (hsm.out _).mono ?_
  rintro e W2 ⟨rfl, hb⟩
  have HX2 := Lib.hid (HX1.out.below hb)
  clear b0 b1 hb
  have b0 := HX2.out.c0
  have b1 := HX2.out.c1
  go_wp2_with fail
  refine (new_yes n z _ HY.out).mono ?_
  rintro e W3 ⟨d, rfl, hD, hb⟩
  have HX3 := Lib.hid (HX2.out.below hb)
  have HD := Lib.hid hD
  have hs3 := hb.size
  clear b0 b1 hb hD
  have b0 := HX3.out.c0
  have b1 := HX3.out.c1
  go_wp2_with fail
  refine (hmay.out _).mono ?_
  rintro e W4 ⟨rfl, hb⟩
  have HX4 := Lib.hid (HX3.out.below hb)
  have HD4 := Lib.hid (dev_below HD.out hb)
  have hs4 := hb.size
  clear b0 b1 hb
  have b0 := HX4.out.c0
  have b1 := HX4.out.c1
  go_wp2_with fail
  refine (fixed_calls _).mono ?_
  rintro e W5 ⟨rfl, hb⟩
  have HX5 := Lib.hid (HX4.out.below hb)
  have HD5 := Lib.hid (dev_below HD4.out hb)
  have hs5 := hb.size
  clear b0 b1 hb
  have b0 := HX5.out.c0
  have b1 := HX5.out.c1
  go_wp2_with fail
  refine (refNew_calls n z _ (by omega) (by omega) (by omega) (by omega)).mono ?_
  rintro e W6 ⟨v0, rfl, hR, hb⟩
  obtain ⟨db, dc, wb, wc, bb, bc, cuts, left, whole, mask, hv0⟩ := agg_rc hR
  subst hv0
  have HX6 := Lib.hid (HX5.out.below hb)
  have HD6 := Lib.hid (dev_below HD5.out hb)
  have HR6 := Lib.hid hR
  have hs6 := hb.size
  clear b0 b1 hb hR
  unfold RC rc
  go_upto_region 9 with (fail)
  change Code.wp _ _ _ _ (W6.alloc (.cells (RC n z (St.new n z) db dc wb wc bb bc cuts left whole mask) 35))
  have hb7 : Below W6.heap.size W6 (W6.alloc (.cells (RC n z (St.new n z) db dc wb wc bb bc cuts left whole mask) 35)) := (Below.refl _ _).alloc (Nat.le_refl _) _
  have HB7 := Lib.hid (Blk.new W6 35 (RC n z (St.new n z) db dc wb wc bb bc cuts left whole mask))
  have HX7 := Lib.hid (HX6.out.below hb7)
  have HD7 := Lib.hid (dev_below HD6.out hb7)
  have HR7 := Lib.hid (Ref.below HR6.out hb7)
  clear hb7
  generalize W6.alloc (.cells (RC n z (St.new n z) db dc wb wc bb bc cuts left whole mask) 35) = W7 at *
  have hsz2 := HX2.out.bel.size
  have hsz3 := HD.out
  have hlohi : W2.heap.size ≤ W3.heap.size := hs3
  go_wp2_with fail
  refine (cut_calls A m c ops W7 (HO.out.below HX7.out.bel) hm hc).mono ?_
  rintro e W8 ⟨k, rfl, hkm, hk60, hbl, hb⟩
  have HX8 := Lib.hid (HX7.out.below hb)
  have HB8 := Lib.hid (HB7.out.of_eq (hb.block _ HB7.out.lt))
  have HD8 := Lib.hid (dev_below HD7.out hb)
  have HR8 := Lib.hid (Ref.below HR7.out hb)
  have HL := Lib.hid hbl
  have hPX : PX w W8 W2.heap.size W3.heap.size d W5.heap.size n z W6.heap.size (2 * 0) (St.new n z) := ⟨HD8.out, ⟨_, _, _, _, _, _, _, _, _, _, HR8.out, HB8.out⟩, HX8.out.bel⟩
  have HPX := Lib.hid hPX
  clear hb hbl hPX HX HX1 HX2 HX3 HX4 HX5 HX6 HX7 HX8 HB7 HB8 HD HD4 HD5 HD6 HD7 HD8 HR6 HR7 HR8 hmay hsm hsz3
  go_wp2_with fail
  go_loopw [51] (fun i wr => ∃ (j : Nat) (s : St), j ≤ k ∧ i = .int .i64 j ∧ PX w wr W2.heap.size W3.heap.size d W5.heap.size n z W6.heap.size (2 * j) s) (fun i _ => k - (intOf i).toNat)
  case atStart => exact ⟨0, _, Nat.zero_le _, rfl, HPX.out⟩
  case round =>
    obtain ⟨j, s, hjk, rfl, hP⟩ := hrel
    have HP := Lib.hid hP
    obtain ⟨db, dc, wb, wc, bb, bc, cuts, left, whole, mask, hR, hB⟩ := hP.ref
    have HR := Lib.hid hR
    have HB := Lib.hid hB
    clear hP hR hB HPX
    by_cases hlt : j < k
    · obtain ⟨b, o, hA, hbs, hcell⟩ := (HO.out.below HP.out.bel) j (by omega)
      subst hA
      obtain ⟨hbs', hB0, hn0, hn1, hk1, hm0, hm1⟩ := HK.out j (by omega)
      have hblj := HL.out j hlt
      obtain ⟨op, hop⟩ : ∃ op, ops j = op := ⟨_, rfl⟩
      rw [hop] at hcell hbs' hB0 hn0 hn1 hk1 hm0 hm1 hblj
      obtain ⟨kd, se, off, B, bl, bq, nn, kk, mm⟩ := op
      obtain ⟨bs, hBS⟩ := hbs'
      dsimp only at hBS hB0 hn0 hn1 hk1 hm0 hm1 hblj
      have HC : Hid (wr.rangeAt b (o + j * 7) [.int .i64 kd, .int .i64 se, .int .i64 off, .slice B bl bq, .int .i64 nn, .int .i64 kk, .int .u8 mm]) := hcell
      have HBS := Lib.hid hBS
      have HB0 := Lib.hid hB0
      have HBb : Hid (0 < bl → ∀ b o, B = some ⟨b, o, none⟩ → b < w.heap.size) := Lib.hid fun hp b o e => by
        obtain ⟨b', o', e', hlt, _⟩ := hBS.2.2 0 hp
        rw [e] at e'
        injection e' with e'
        injection e' with e1 e2
        subst e1
        exact hlt
      clear hcell hop hBS hB0
      go_upto_region 13 with ((with_reducible refine pick (some 54) ?_); refine wpList_load_mid rfl 40 _ rfl b (o + j * 7) rfl [.int .i64 kd, .int .i64 se, .int .i64 off, .slice B bl bq, .int .i64 nn, .int .i64 kk, .int .u8 mm] _ HC.out Try.underlying40 rfl info_op ?_)
      change Code.wp _ _ _ _ (wr.alloc (.cells #[.int .i64 kd, .int .i64 se, .int .i64 off, .slice B bl bq, .int .i64 nn, .int .i64 kk, .int .u8 mm] 40))
      have hb9 : Below wr.heap.size wr (wr.alloc (.cells #[.int .i64 kd, .int .i64 se, .int .i64 off, .slice B bl bq, .int .i64 nn, .int .i64 kk, .int .u8 mm] 40)) := (Below.refl _ _).alloc (Nat.le_refl _) _
      have HO9 := Lib.hid (Blk.new wr 40 #[.int .i64 kd, .int .i64 se, .int .i64 off, .slice B bl bq, .int .i64 nn, .int .i64 kk, .int .u8 mm])
      have HD9 := Lib.hid (dev_below HP.out.dev hb9)
      have HR9 := Lib.hid (Ref.below HR.out hb9)
      have HB9 := Lib.hid (HB.out.of_eq (hb9.block _ HB.out.lt))
      have HW9 := Lib.hid (HP.out.bel.trans (hb9.mono HP.out.bel.size))
      clear hb9
      generalize wr.alloc (.cells #[.int .i64 kd, .int .i64 se, .int .i64 off, .slice B bl bq, .int .i64 nn, .int .i64 kk, .int .u8 mm] 40) = W9 at *
      have hl9 : W6.heap.size < W9.heap.size := HB9.out.lt
      have HBS9 := Lib.hid (HBS.out.below HW9.out)
      go_wp2_with (first
        | ((with_reducible refine pick (some 57) ?_); refine wpList_load_row rfl _ _ rfl W6.heap.size rfl 35 (RC n z s db dc wb wc bb bc cuts left whole mask) (0, 0) _ HB9.out Try.underlying35 rfl info_ref ?_)
        | ((with_reducible refine pick (some 58) ?_); refine wpList_load_row rfl _ _ rfl wr.heap.size rfl 40 #[.int .i64 kd, .int .i64 se, .int .i64 off, .slice B bl bq, .int .i64 nn, .int .i64 kk, .int .u8 mm] (0, 0) _ HO9.out Try.underlying40 rfl info_op ?_)
        | (go_at_call 12; refine (do_calls W9 (.agg (RC n z s db dc wb wc bb bc cuts left whole mask)) HD9.out HR9.out (by omega) (by omega) (by omega) kd se off B bl bq nn kk mm bs HBS9.out HB0.out (by omega) (fun hp b o e => by have := HBb.out hp b o e; omega) hn0 hn1 hk1 hm0 hm1).mono ?_; rintro e w10 ⟨ok, v', rfl, hok, hD10, hR10, hC10⟩; obtain rfl := hok rfl; obtain ⟨db', dc', wb', wc', bb', bc', cuts', left', whole', mask', hv'⟩ := agg_rc hR10; subst hv'; have HD10 := Lib.hid hD10; have HR10 := Lib.hid hR10; have HC10 := Lib.hid hC10; have HB10 := Lib.hid (HB9.out.chg hC10 (by omega)); clear hD10 hR10 hC10 hok)
        | ((with_reducible refine pick none ?_); refine wpList_store_blk rfl 35 _ _ rfl W6.heap.size (RC n z (St.step s n z kd se off nn kk mm bs) db' dc' wb' wc' bb' bc' cuts' left' whole' mask') rfl rfl 35 (RC n z s db dc wb wc bb bc cuts left whole mask) HB10.out info_ref rfl (RC_one _ _ _ _ _ _ _ _ _ _ _ _ _) ?_; intro w11 hb11 hg11; have HB11 := Lib.hid hb11; have HG11 := Lib.hid hg11; clear hb11 hg11))
      have hw9 := HW9.out.size
      have hw10 := HC10.out.size
      have HE : Hid (Below w.heap.size w w11) := Lib.hid ((HW9.out.trans (HC10.out.below (by omega) (fun k hk e => by omega))).trans (HG11.out.below (by omega) (fun k hk e => by omega)))
      go_roundw
      case rel => exact ⟨j + 1, St.step s n z kd se off nn kk mm bs, by omega, by go_num, dev_more (dev_chg HD10.out HG11.out (fun k h1 h2 e => by omega)) (by omega) (by omega), ⟨_, _, _, _, _, _, _, _, _, _, (Ref.var HR10.out HB10.out rfl HG11.out).more (by omega) (by omega), HB11.out⟩, HE.out⟩
      case measure => simp [intOf]; omega
    · obtain rfl : j = k := by omega
      go_wp2_with (first
        | ((with_reducible refine pick (some 66) ?_); refine wpList_load_row rfl _ _ rfl W6.heap.size rfl 35 (RC n z s db dc wb wc bb bc cuts left whole mask) (0, 0) _ HB.out Try.underlying35 rfl info_ref ?_)
        | (go_at_call 13; refine (same_calls wr (.agg (RC n z s db dc wb wc bb bc cuts left whole mask)) HP.out.dev HR.out (by omega) (by have := HB.out.lt; omega)).mono ?_; rintro e w12 ⟨rfl, hC12⟩; have HC12 := Lib.hid hC12; clear hC12))
      go_ret
      exact ⟨rfl, HP.out.bel.trans (HC12.out.below HP.out.bel.size (fun k hk e => by omega))⟩
theorem plays_law (n z : Int) (A : Option Addr) (m c : Nat) (ops : Nat → Opr) (w : World) (ho : OpsAt w A m ops) (hk : OpsOk w m ops) (hm : m ≤ 9223372036854775807) (hc : m ≤ c) : Calls Try.prog 3 #[.agg #[.int .i64 n, .int .i64 z], .slice A m c] w fun e w' => e = .returned (.bool true) ∧ Below w.heap.size w w' := by
  cases hy : may n z with
  | false => exact plays_no n z A m c w hy
  | true =>
    cases hs : small n z with
    | false => exact plays_big n z A m c w hy hs
    | true =>
      have hb := may_yes hy
      obtain ⟨n', rfl⟩ := Int.eq_ofNat_of_zero_le (show 0 ≤ n by omega)
      obtain ⟨z', rfl⟩ := Int.eq_ofNat_of_zero_le (show 0 ≤ z by omega)
      exact plays_yes n' z' A m c ops w ho hk hm hc hy hs
end Go.Proofs.Ytdcmpkohengnaaa.NorPl
