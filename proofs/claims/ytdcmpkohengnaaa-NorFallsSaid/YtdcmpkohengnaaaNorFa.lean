/- The walk of layer 4's law NorFalls. -/
import Derived.Test.YtdcmpkohengnaaaNorAl
import Derived.Test.YtdcmpkohengnaaaNorPl
import Derived.Laws.BitsAllLaws
namespace Go.Proofs.Ytdcmpkohengnaaa.NorFa
set_option linter.unusedVariables false
set_option linter.unusedSimpArgs false
open Go.RowKit
open Go.Proofs.Ytdcmpkohengnaaa.Byte Go.Proofs.Ytdcmpkohengnaaa.NorD Go.Proofs.Ytdcmpkohengnaaa.NorM Go.Proofs.Ytdcmpkohengnaaa.NorS Go.Proofs.Ytdcmpkohengnaaa.NorF Go.Proofs.Ytdcmpkohengnaaa.NorG Go.Proofs.Ytdcmpkohengnaaa.NorH Go.Proofs.Ytdcmpkohengnaaa.NorB Go.Proofs.Ytdcmpkohengnaaa.NorP Go.Proofs.Ytdcmpkohengnaaa.NorR Go.Proofs.Ytdcmpkohengnaaa.NorU Go.Proofs.Ytdcmpkohengnaaa.NorV Go.Proofs.Ytdcmpkohengnaaa.NorX Go.Proofs.Ytdcmpkohengnaaa.NorY Go.Proofs.Ytdcmpkohengnaaa.NorZ Go.Proofs.Ytdcmpkohengnaaa.NorI Go.Proofs.Ytdcmpkohengnaaa.NorJ Go.Proofs.Ytdcmpkohengnaaa.NorK Go.Proofs.Ytdcmpkohengnaaa.NorL Go.Proofs.Ytdcmpkohengnaaa.NorDo Go.Proofs.Ytdcmpkohengnaaa.NorDp Go.Proofs.Ytdcmpkohengnaaa.NorDr Go.Proofs.Ytdcmpkohengnaaa.NorDs Go.Proofs.Ytdcmpkohengnaaa.NorDt Go.Proofs.Ytdcmpkohengnaaa.NorSm Go.Proofs.Ytdcmpkohengnaaa.NorO Go.Proofs.Ytdcmpkohengnaaa.NorQ Go.Proofs.Ytdcmpkohengnaaa.NorPl Go.Proofs.Ytdcmpkohengnaaa.NorFm Go.Proofs.Ytdcmpkohengnaaa.NorAl Go.Proofs.Ytdcmpkohengnaaa.PlaceM Go.Proofs.Ytdcmpkohengnaaa.PlaceV
attribute [local go_sem ↓] Go.wp_at_zero Go.wp_at_succ

section
variable {lo hi d n z K : Nat} {s : St}
theorem wear_any (w : World) (hD : Dev w lo hi d n z K s) (se : Int) :
    Calls Try.prog 15 #[.pointer (some ⟨d, 0, none⟩), .int .i64 se] w fun e w' => e = .returned (.int .i64 (wearAt s n se)) ∧ w = w' := by
  obtain ⟨_, _, _, _, _, _, _, _, _, h⟩ := hD
  unfold wearAt
  by_cases hin : 0 ≤ se ∧ se < (n : Int)
  · rw [if_pos hin]
    obtain ⟨i, rfl⟩ := Int.eq_ofNat_of_zero_le hin.1
    rw [Int.toNat_natCast]
    exact wear_yes w h i (by omega)
  · rw [if_neg hin]
    exact wear_no w h se (by omega)
theorem wearAt_up (s : St) (n : Nat) (se : Int) : wearAt s.up n se = wearAt s n se := rfl
end
theorem falls_no (n z : Int) (A : Option Addr) (m c : Nat) (w : World) (hno : small n z = false) : Calls Try.prog 4 #[.agg #[.int .i64 n, .int .i64 z], .slice A m c] w fun e w' => e = .returned (.bool true) ∧ Below w.heap.size w w' := by
  have hsm : Hid (∀ w, Calls Try.prog 7 #[.agg #[.int .i64 n, .int .i64 z]] w fun e w' => e = .returned (.bool false) ∧ Below w.heap.size w w') := Lib.hid fun w => by
    have := small_calls n z w
    rw [hno] at this
    exact this
  have HX := Lib.hid (GX.of w n z)
  go_enter Try.func4, Try.ntmps4
  go_upto_region 1 with (fail)
  change Code.wp _ _ _ _ (w.alloc (.cells #[.int .i64 n, .int .i64 z] 23))
  generalize w.alloc (.cells #[.int .i64 n, .int .i64 z] 23) = W0 at *
  have b0 := HX.out.c0
  have b1 := HX.out.c1
  go_wp2_with fail
  refine (hsm.out _).mono ?_
  rintro e W1 ⟨rfl, hb⟩
  have HX1 := Lib.hid (HX.out.below hb)
  clear b0 b1 hb
  go_wp2_with fail
  refine (fixed_calls _).mono ?_
  rintro e W2 ⟨rfl, hb⟩
  have HX2 := Lib.hid (HX1.out.below hb)
  go_wp2_with fail
  go_ret
  exact ⟨rfl, HX2.out.bel⟩
theorem and_self (y : Int) (h0 : 0 ≤ y) (h1 : y ≤ 255) : ((y.toNat &&& (255 - y.toNat) : Nat) : Int) = 0 := by
  have : y.toNat &&& (255 - y.toNat) = 0 := by
    apply Nat.eq_of_testBit_eq
    intro j
    rw [Nat.testBit_and, not_bit (by omega)]
    cases y.toNat.testBit j <;> simp
  rw [this]
  rfl
/-- The ways of a byte: its sector was erased; it stays; bits of it fell. -/
theorem falls_ways {kd se : Int} {er : Bool} {q p m : Nat} {P : Nat × Nat} {x y : Int} (h : ¬ ((q : Int) = se ∧ er = true) → Falls kd q P p m x y) :
    ((q : Int) = se ∧ er = true) ∨ ((((q : Int) == se) && er) = false ∧ (y = x ∨ (y ≠ x ∧ kd = 0 ∧ q = P.1 ∧ P.2 ≤ p ∧ p < P.2 + m ∧ y.toNat &&& (255 - x.toNat) = 0))) := by
  by_cases h1 : (q : Int) = se ∧ er = true
  · exact .inl h1
  · refine .inr ⟨?_, ?_⟩
    · by_cases e : (q : Int) = se
      · have : er = false := by
          cases er with
          | false => rfl
          | true => exact absurd ⟨e, rfl⟩ h1
        rw [this, Bool.and_false]
      · rw [beq_eq_false_iff_ne.2 e, Bool.false_and]
    · by_cases e : y = x
      · exact .inl e
      · rcases h h1 with h2 | h2
        · exact absurd h2 e
        · exact .inr ⟨e, h2⟩
/-- A new device that is kept: the loop. -/
structure FX (w wr : World) (lo hi d n z K base b cap : Nat) (gs : List (Nat × Nat)) (s : St) : Prop where
  dev : Dev wr lo hi d n z K s
  on : s.on = true
  fit : Fits n z K s
  tab : Tab wr base z n (.slice (some ⟨b, 0, none⟩) n cap) gs s.row
  hb : hi ≤ base
  box : Blk wr w.heap.size 23 #[.int .i64 n, .int .i64 z]
  bel : Below w.heap.size w wr
theorem dev_fits {w : World} {lo hi d n z K : Nat} {s : St} (h : Dev w lo hi d n z K s) : Fits n z K s := by
  obtain ⟨_, _, _, _, _, _, _, _, _, h⟩ := h
  exact h.fits
theorem row_bd {n z K : Nat} {s : St} (h : Fits n z K s) {i : Nat} (hi : i < n) (p : Nat) (hp : p < z) : 0 ≤ (s.row i).getD p 0 ∧ (s.row i).getD p 0 ≤ 255 := by
  have hl := (h.row i hi).1
  rw [List.getD_eq_getElem?_getD, List.getElem?_eq_getElem (by omega), Option.getD_some]
  exact (h.row i hi).2 _ (List.getElem_mem _)
set_option maxRecDepth 100000 in
set_option maxHeartbeats 6000000 in
theorem falls_yes (n z : Nat) (A : Option Addr) (m c : Nat) (ops : Nat → Opr) (w : World) (ho : OpsAt w A m ops) (hk : OpsOk w m ops) (hm : m ≤ 9223372036854775807) (hc : m ≤ c) (hyes : may n z = true) (hsml : small n z = true) : Calls Try.prog 4 #[.agg #[.int .i64 n, .int .i64 z], .slice A m c] w fun e w' => e = .returned (.bool true) ∧ Below w.heap.size w w' := by
  have hsm : Hid (∀ w, Calls Try.prog 7 #[.agg #[.int .i64 (n : Int), .int .i64 (z : Int)]] w fun e w' => e = .returned (.bool true) ∧ Below w.heap.size w w') := Lib.hid fun w => by
    have := small_calls n z w
    rw [hsml] at this
    exact this
  have hbd := may_yes hyes
  have HO := Lib.hid ho
  have HK := Lib.hid hk
  have HY := Lib.hid hyes
  clear ho hk hyes hsml
  have HX := Lib.hid (GX.of w n z)
  go_enter Try.func4, Try.ntmps4
  go_upto_region 1 with (fail)
  change Code.wp _ _ _ _ (w.alloc (.cells #[.int .i64 (n : Int), .int .i64 (z : Int)] 23))
  generalize w.alloc (.cells #[.int .i64 (n : Int), .int .i64 (z : Int)] 23) = W0 at *
  have b0 := HX.out.c0
  have b1 := HX.out.c1
  go_wp2_with fail
  refine (hsm.out _).mono ?_
  rintro e W1 ⟨rfl, hb⟩
  have HX1 := Lib.hid (HX.out.below hb)
  clear b0 b1 hb
  have b0 := HX1.out.c0
  have b1 := HX1.out.c1
  go_wp2_with fail
  refine (new_yes n z _ HY.out).mono ?_
  rintro e W2 ⟨d, rfl, hD, hb⟩
  have HX2 := Lib.hid (HX1.out.below hb)
  have HD := Lib.hid hD
  have hs2 := hb.size
  have hs1 := HX1.out.box.lt
  clear b0 b1 hb hD
  have b0 := HX2.out.c0
  have b1 := HX2.out.c1
  go_wp2_with fail
  refine (all_calls _ HD.out rfl).mono ?_
  rintro e W3 ⟨b, cap, gs, rfl, hT, hb⟩
  have HX3 := Lib.hid (HX2.out.below hb)
  have HD3 := Lib.hid (dev_below HD.out hb)
  have HT3 := Lib.hid hT
  have hs3 := hb.size
  clear b0 b1 hb hT
  have b0 := HX3.out.c0
  have b1 := HX3.out.c1
  go_wp2_with fail
  refine (cut_calls A m c ops W3 (HO.out.below HX3.out.bel) hm hc).mono ?_
  rintro e W4 ⟨k, rfl, hkm, hk60, hbl, hb⟩
  have HX4 := Lib.hid (HX3.out.below hb)
  have HD4 := Lib.hid (dev_below HD3.out hb)
  have HT4 := Lib.hid (HT3.out.below hb)
  have HL := Lib.hid hbl
  have hPX : FX w W4 W1.heap.size W2.heap.size d n z (2 * 0) W2.heap.size b cap gs (St.new n z) := ⟨HD4.out, rfl, dev_fits HD4.out, HT4.out, Nat.le_refl _, HX4.out.box, HX4.out.bel⟩
  have HPX := Lib.hid hPX
  clear hb hbl hPX b0 b1 HX HX1 HX2 HX3 HX4 HD HD3 HD4 HT3 HT4 hsm
  go_wp2_with fail
  go_loopw [7, 40] (fun was i wr => ∃ (j : Nat) (s : St) (base b cap : Nat) (gs : List (Nat × Nat)), j ≤ k ∧ i = .int .i64 j ∧ was = .slice (some ⟨b, 0, none⟩) n cap ∧ FX w wr W1.heap.size W2.heap.size d n z (2 * j) base b cap gs s) (fun _ i _ => k - (intOf i).toNat)
  case atStart => exact ⟨0, _, _, _, _, _, Nat.zero_le _, rfl, rfl, HPX.out⟩
  case round =>
    clear HPX
    obtain ⟨j, s, base, b, cap, gs, hjk, rfl, rfl, hP⟩ := hrel
    have HP := Lib.hid hP
    clear hP
    by_cases hlt : j < k
    · obtain ⟨bA, oA, hA, hbs, hcell⟩ := (HO.out.below HP.out.bel) j (by omega)
      subst hA
      obtain ⟨hbs', hB0, hn0, hn1, hk1, hm0, hm1⟩ := HK.out j (by omega)
      have hblj := HL.out j hlt
      obtain ⟨op, hop⟩ : ∃ op, ops j = op := ⟨_, rfl⟩
      rw [hop] at hcell hbs' hB0 hn0 hn1 hk1 hm0 hm1 hblj
      obtain ⟨kd, se, off, B, bl, bq, nn, kk, mm⟩ := op
      obtain ⟨bs, hBS⟩ := hbs'
      dsimp only at hBS hB0 hn0 hn1 hk1 hm0 hm1 hblj
      have HC : Hid (wr.rangeAt bA (oA + j * 7) [.int .i64 kd, .int .i64 se, .int .i64 off, .slice B bl bq, .int .i64 nn, .int .i64 kk, .int .u8 mm]) := hcell
      have HBS := Lib.hid hBS
      have HB0 := Lib.hid hB0
      have HBb : Hid (0 < bl → ∀ b o, B = some ⟨b, o, none⟩ → b < w.heap.size) := Lib.hid fun hp b o e => by
        obtain ⟨b', o', e', hlt, _⟩ := hBS.2.2 0 hp
        rw [e] at e'
        injection e' with e'
        injection e' with e1 e2
        subst e1
        exact hlt
      clear hcell hop hBS hB0
      go_upto_region 10 with ((with_reducible refine pick (some 43) ?_); refine wpList_load_mid rfl 40 _ rfl bA (oA + j * 7) rfl [.int .i64 kd, .int .i64 se, .int .i64 off, .slice B bl bq, .int .i64 nn, .int .i64 kk, .int .u8 mm] _ HC.out Try.underlying40 rfl info_op ?_)
      change Code.wp _ _ _ _ (wr.alloc (.cells #[.int .i64 kd, .int .i64 se, .int .i64 off, .slice B bl bq, .int .i64 nn, .int .i64 kk, .int .u8 mm] 40))
      have hb9 : Below wr.heap.size wr (wr.alloc (.cells #[.int .i64 kd, .int .i64 se, .int .i64 off, .slice B bl bq, .int .i64 nn, .int .i64 kk, .int .u8 mm] 40)) := (Below.refl _ _).alloc (Nat.le_refl _) _
      have HO9 := Lib.hid (Blk.new wr 40 #[.int .i64 kd, .int .i64 se, .int .i64 off, .slice B bl bq, .int .i64 nn, .int .i64 kk, .int .u8 mm])
      have HD9 := Lib.hid (dev_below HP.out.dev hb9)
      have HT9 := Lib.hid (HP.out.tab.below hb9)
      have HB9 := Lib.hid (HP.out.box.of_eq (hb9.block _ HP.out.box.lt))
      have HW9 := Lib.hid (HP.out.bel.trans (hb9.mono HP.out.bel.size))
      clear hb9
      generalize wr.alloc (.cells #[.int .i64 kd, .int .i64 se, .int .i64 off, .slice B bl bq, .int .i64 nn, .int .i64 kk, .int .u8 mm] 40) = W9 at *
      have hl9 : wr.heap.size < W9.heap.size := HO9.out.lt
      have hlr : W2.heap.size ≤ wr.heap.size := dev_hi HP.out.dev
      have HBS9 := Lib.hid (HBS.out.below HW9.out)
      obtain ⟨wb, hwb⟩ : ∃ wb, wearAt s n se = wb := ⟨_, rfl⟩
      have HWB := Lib.hid hwb
      obtain ⟨wa, hwa⟩ : ∃ wa, wearAt (St.step s n z kd se off nn kk mm bs) n se = wa := ⟨_, rfl⟩
      have HWA := Lib.hid hwa
      clear hwb hwa
      have o1 : W9.cell? ⟨wr.heap.size, 1, none⟩ = some (.int .i64 se) := HO9.out.cell 1
      have o2 : W9.cell? ⟨wr.heap.size, 2, none⟩ = some (.int .i64 off) := HO9.out.cell 2
      have RD : Hid (∀ v, Chg (fun q => W1.heap.size ≤ q ∧ q < W2.heap.size) W9 v → Chg (fun q => W1.heap.size ≤ q ∧ q < W2.heap.size) W9 v ∧ v.cell? ⟨w.heap.size, 0, none⟩ = some (.int .i64 n) ∧ v.cell? ⟨w.heap.size, 1, none⟩ = some (.int .i64 z) ∧
          v.cell? ⟨wr.heap.size, 0, none⟩ = some (.int .i64 kd) ∧ v.cell? ⟨wr.heap.size, 1, none⟩ = some (.int .i64 se) ∧ v.cell? ⟨wr.heap.size, 2, none⟩ = some (.int .i64 off) ∧ v.cell? ⟨wr.heap.size, 3, none⟩ = some (.slice B bl bq) ∧ v.cell? ⟨wr.heap.size, 4, none⟩ = some (.int .i64 nn) ∧ v.cell? ⟨wr.heap.size, 5, none⟩ = some (.int .i64 kk) ∧ v.cell? ⟨wr.heap.size, 6, none⟩ = some (.int .u8 mm)) := Lib.hid fun v hv => by
        have hx := HB9.out.chg hv (by omega)
        have hy := HO9.out.chg hv (by omega)
        exact ⟨hv, hx.cell 0, hx.cell 1, hy.cell 0, hy.cell 1, hy.cell 2, hy.cell 3, hy.cell 4, hy.cell 5, hy.cell 6⟩
      go_upto_region 12 with (first
        | (go_at_call 15; refine (wear_any W9 HD9.out se).mono ?_; rw [HWB.out]; rintro e w' ⟨rfl, rfl⟩)
        | (go_at_call 17; refine (of_num _ _ _).mono ?_; rintro e w' ⟨x, y, rfl, hxy, rfl⟩; have HXY := Lib.hid hxy; clear hxy)
        | (go_at_call 16; refine (parts_yes _ _ _ HXY.out.1 HXY.out.2.1).mono ?_; rw [HXY.out.2.2.1, HXY.out.2.2.2]; rintro e w' ⟨rfl, rfl⟩))
      refine wp_region_noPanic ?_
      go_region_held3 (fun v => Chg (fun q => W1.heap.size ≤ q ∧ q < W2.heap.size) W9 v ∧ v.cell? ⟨w.heap.size, 0, none⟩ = some (.int .i64 n) ∧ v.cell? ⟨w.heap.size, 1, none⟩ = some (.int .i64 z) ∧
          v.cell? ⟨wr.heap.size, 0, none⟩ = some (.int .i64 kd) ∧ v.cell? ⟨wr.heap.size, 1, none⟩ = some (.int .i64 se) ∧ v.cell? ⟨wr.heap.size, 2, none⟩ = some (.int .i64 off) ∧ v.cell? ⟨wr.heap.size, 3, none⟩ = some (.slice B bl bq) ∧ v.cell? ⟨wr.heap.size, 4, none⟩ = some (.int .i64 nn) ∧ v.cell? ⟨wr.heap.size, 5, none⟩ = some (.int .i64 kk) ∧ v.cell? ⟨wr.heap.size, 6, none⟩ = some (.int .u8 mm))
        (first
          | exact RD.out _ (Chg.refl _ _)
          | exact RD.out _ (by assumption)
          | exact RD.out _ (Chg.drew (Chg.refl _ _))
          | exact RD.out _ (Chg.drew (by assumption))
          | exact RD.out _ (And.left (by assumption)))
        (first
          | (go_at_call 10; refine (refNew_calls n z W9.drew (by omega) (by omega) (by omega) (by omega)).mono ?_; rintro e w10 ⟨v0, rfl, hR10, hb10⟩; have HR10 := Lib.hid hR10; have hb10' : Below W9.heap.size W9 w10 := ((Below.refl _ W9).drew).trans hb10; have HB10 := Lib.hid hb10'; have hn10 : Chg (fun q => W1.heap.size ≤ q ∧ q < W2.heap.size) W9 w10 := Chg.of_below HB10.out; clear hR10 hb10 hb10')
          | (go_at_call 12; refine (do_calls w10 v0 (dev_below HD9.out HB10.out) (HR10.out.more (Nat.zero_le _) (by omega)) (by show W2.heap.size ≤ W9.heap.size; omega) (show W9.heap.size ≤ w10.heap.size from HB10.out.size) (by omega) kd se off B bl bq nn kk mm bs (HBS9.out.below HB10.out) HB0.out (by omega) (fun hp b o e => by have := HBb.out hp b o e; omega) hn0 hn1 hk1 hm0 hm1).mono ?_; rintro e w11 ⟨ok, v', rfl, _, hD11, _, hC11⟩; have HD11 := Lib.hid hD11; have hn11 : Chg (fun q => W1.heap.size ≤ q ∧ q < W2.heap.size) W9 w11 := hn10.trans hC11; clear hD11 hC11))
      refine NoPanic.normal ?_
      rename_i hH
      have HH : Hid (Chg (fun q => W1.heap.size ≤ q ∧ q < W2.heap.size) W9 w11) := Lib.hid hn11
      clear hH hn11 hn10 RD o1 o2
      have hw11 : W9.heap.size ≤ w11.heap.size := HH.out.size
      have hpb := HP.out.hb
      have HO11 := Lib.hid (HO9.out.chg HH.out (by omega))
      have HB11 := Lib.hid (HB9.out.chg HH.out (by omega))
      have HT11 := Lib.hid (HT9.out.chg HH.out (fun q hq e => by omega))
      have HW11 := Lib.hid (HW9.out.trans (HH.out.below (by omega) (fun q hq e => by omega)))
      have o1 : w11.cell? ⟨wr.heap.size, 1, none⟩ = some (.int .i64 se) := HO11.out.cell 1
      obtain ⟨er, her⟩ : ∃ er, decide (wb < wa) = er := ⟨_, rfl⟩
      go_upto_region 15 with (first
        | (go_at_call 15; refine (wear_any w11 HD11.out se).mono ?_; rw [HWA.out]; rintro e w' ⟨rfl, rfl⟩)
        | (go_at_call 18; refine (dev_on w11 HD11.out).mono ?_; rintro e w12 ⟨rfl, hD12, hC12⟩; have HD12 := Lib.hid hD12; have HC12 := Lib.hid hC12; clear hD12 hC12 o1; have o0 := HO11.out.chg HC12.out (by omega)))
      have HER := Lib.hid her
      clear her o0
      have hw12 : w11.heap.size ≤ w12.heap.size := HC12.out.size
      have HO12 := Lib.hid (HO11.out.chg HC12.out (by omega))
      have HB12 := Lib.hid (HB11.out.chg HC12.out (by omega))
      have HT12 := Lib.hid (HT11.out.chg HC12.out (fun q hq e => by omega))
      have HW12 := Lib.hid (HW11.out.trans (HC12.out.below (by omega) (fun q hq e => by omega)))
      have b0 := HB12.out.cell 0
      have b1 := HB12.out.cell 1
      go_wp2_with fail
      refine (all_calls w12 HD12.out rfl).mono ?_
      rintro e W13 ⟨b2, cap2, gs2, rfl, hT, hb⟩
      have HO13 := Lib.hid (HO12.out.of_eq (hb.block _ HO12.out.lt))
      have HB13 := Lib.hid (HB12.out.of_eq (hb.block _ HB12.out.lt))
      have HT13 := Lib.hid (HT12.out.below hb)
      have HN13 := Lib.hid hT
      have HD13 := Lib.hid (dev_below HD12.out hb)
      have HW13 := Lib.hid (HW12.out.trans (hb.mono HW12.out.size))
      clear b0 b1 hb hT HO9 HO11 HO12 HB9 HB11 HB12 HT9 HT11 HT12 HW9 HW11 HW12 HD9 HD11 HD12 HH HC12 HR10 HB10 HBS9
      have HF : Hid (∀ i p, i < n → p < z → ¬ ((i : Int) = se ∧ er = true) → Falls kd i (pl se off) p bl ((s.row i).getD p 0) (((St.step s n z kd se off nn kk mm bs).up.row i).getD p 0)) := Lib.hid fun i p hi hp h => by
        have := step_falls HP.out.fit kd se off nn kk mm bs i p hi hp (by
          rw [HWB.out, HWA.out]
          rintro ⟨h1, h2⟩
          exact h ⟨h1, by rw [← HER.out]; exact decide_eq_true h2⟩)
        rw [HBS.out.1] at this
        exact this
      have HR1 : Hid (∀ i p, i < n → p < z → 0 ≤ (s.row i).getD p 0 ∧ (s.row i).getD p 0 ≤ 255) := Lib.hid fun i p hi hp => row_bd HP.out.fit hi p hp
      have HR2 : Hid (∀ i p, i < n → p < z → 0 ≤ ((St.step s n z kd se off nn kk mm bs).up.row i).getD p 0 ∧ ((St.step s n z kd se off nn kk mm bs).up.row i).getD p 0 ≤ 255) := Lib.hid fun i p hi hp => row_bd (dev_fits HD13.out) hi p hp
      have hbs0 : pl se off = ((pl se off).1, (pl se off).2) := rfl
      have hpl : (pl se off).1 ≤ 2147483647 ∧ (pl se off).2 ≤ 2147483647 := by
        unfold pl
        split
        · omega
        · simp
      have b0 : W13.cell? ⟨w.heap.size, 0, none⟩ = some (.int .i64 n) := HB13.out.cell 0
      clear hbs0
      go_wp2_with fail
      clear b0
      obtain ⟨wo, rfl⟩ : ∃ wo : World, wo = wr := ⟨_, rfl⟩
      go_loopw [76] (fun i wq => ∃ q : Nat, q ≤ n ∧ i = .int .i64 q ∧ Below W13.heap.size W13 wq) (fun i _ => n - (intOf i).toNat)
      case atStart => exact ⟨0, Nat.zero_le _, rfl, Below.refl _ _⟩
      case round =>
        obtain ⟨q, hqn, rfl, hq13⟩ := hrel
        have HQ := Lib.hid hq13
        clear hq13
        by_cases hq : q < n
        · have HBd := Lib.hid HQ.out.drew
          go_wp2_with fail
          refine lit_drew (by kernel_rfl) (by kernel_rfl) ?_
          generalize hvw : wr.drew = Wv at *
          have HOv := Lib.hid (HO13.out.of_eq (HBd.out.block _ HO13.out.lt))
          have HBv := Lib.hid (HB13.out.of_eq (HBd.out.block _ HB13.out.lt))
          obtain ⟨g1, c1, k1, hr1⟩ := (HT13.out.below HBd.out).at_ hq
          obtain ⟨g2, c2, k2, hr2⟩ := (HN13.out.below HBd.out).at_ hq
          have HR1v := Lib.hid hr1
          have HR2v := Lib.hid hr2
          have v1 : Wv.cell? ⟨w.heap.size, 1, none⟩ = some (.int .i64 z) := HBv.out.cell 1
          clear hr1 hr2
          refine still_val (.slice (some ⟨b2, 0, none⟩) n cap2) (by kernel_rfl) (by kernel_rfl) ?_
          refine still_val (.int .i64 (q : Int)) (by kernel_rfl) (by kernel_rfl) ?_
          refine still_val (.pointer (some ⟨b2, q, none⟩)) (by kernel_rfl) (still_index (.slice (some ⟨b2, 0, none⟩) n cap2) (.int .i64 (q : Int)) rfl (by kernel_rfl) (by kernel_rfl) (at_of hq)) ?_
          refine still_val (.slice (some ⟨g2, 0, none⟩) z c2) (by kernel_rfl) (still_load (.pointer (some ⟨b2, q, none⟩)) rfl (by kernel_rfl) (by go_simp)) ?_
          refine still_val (.int .i64 (z : Int)) (by kernel_rfl) (by kernel_rfl) ?_
          refine still_val (.pointer (some ⟨w.heap.size, 1, none⟩)) (by kernel_rfl) (by kernel_rfl) ?_
          refine still_val (.int .i64 (z : Int)) (by kernel_rfl) (still_load (.pointer (some ⟨w.heap.size, 1, none⟩)) rfl (by kernel_rfl) (by go_simp)) ?_
          refine still_val (.bool false) (by kernel_rfl) (still_bin (.int .i64 (z : Int)) (.int .i64 (z : Int)) rfl (by kernel_rfl) (by kernel_rfl) (by go_simp) (by go_simp)) ?_
          refine still_val (.bool false) (by kernel_rfl) (by kernel_rfl) ?_
          refine still_val (.slice (some ⟨b, 0, none⟩) n cap) (by kernel_rfl) (by kernel_rfl) ?_
          refine still_val (.int .i64 (q : Int)) (by kernel_rfl) (by kernel_rfl) ?_
          refine still_val (.pointer (some ⟨b, q, none⟩)) (by kernel_rfl) (still_index (.slice (some ⟨b, 0, none⟩) n cap) (.int .i64 (q : Int)) rfl (by kernel_rfl) (by kernel_rfl) (at_of hq)) ?_
          refine still_val (.slice (some ⟨g1, 0, none⟩) z c1) (by kernel_rfl) (still_load (.pointer (some ⟨b, q, none⟩)) rfl (by kernel_rfl) (by go_simp)) ?_
          refine still_val (.int .i64 (z : Int)) (by kernel_rfl) (by kernel_rfl) ?_
          refine still_val (.pointer (some ⟨w.heap.size, 1, none⟩)) (by kernel_rfl) (by kernel_rfl) ?_
          refine still_val (.int .i64 (z : Int)) (by kernel_rfl) (still_load (.pointer (some ⟨w.heap.size, 1, none⟩)) rfl (by kernel_rfl) (by go_simp)) ?_
          refine still_val (.bool false) (by kernel_rfl) (still_bin (.int .i64 (z : Int)) (.int .i64 (z : Int)) rfl (by kernel_rfl) (by kernel_rfl) (by go_simp) (by go_simp)) ?_
          refine still_val (.bool false) (by kernel_rfl) (by kernel_rfl) ?_
          refine still_end ?_
          simp only [Act.put, List.setIfInBounds_toArray, List.set_cons_zero, List.set_cons_succ]
          clear v1
          go_wp2_with fail
          go_loop [102] (fun i => ∃ p : Nat, p ≤ z ∧ i = .int .i64 p) (fun i => z - (intOf i).toNat)
          case atStart => exact ⟨0, Nat.zero_le _, rfl⟩
          case round =>
            obtain ⟨p, hpz, rfl⟩ := hrel
            by_cases hp : p < z
            · have x0 := HR1.out q p hq hp
              have x1 := HR2.out q p hq hp
              have hf := HF.out q p hq hp
              have cw := HR1v.out.cell p hp
              have cn := HR2v.out.cell p hp
              have o0 : Wv.cell? ⟨wo.heap.size, 0, none⟩ = some (.int .i64 kd) := HOv.out.cell 0
              have o1 : Wv.cell? ⟨wo.heap.size, 1, none⟩ = some (.int .i64 se) := HOv.out.cell 1
              have o3 : Wv.cell? ⟨wo.heap.size, 3, none⟩ = some (.slice B bl bq) := HOv.out.cell 3
              clear HF HR1 HR2 HR1v HR2v HOv
              generalize (s.row q).getD p 0 = x at x0 hf cw
              generalize ((St.step s n z kd se off nn kk mm bs).up.row q).getD p 0 = y at x1 hf cn
              rcases falls_ways hf with ⟨hqs, rfl⟩ | ⟨hqs, F⟩
              · have e1 : ((q : Int) == se) = true := beq_iff_eq.2 hqs
                clear hqs hf
                go_wp2_with fail
                go_round
                case rel => exact ⟨p + 1, by omega, by go_num⟩
                case measure => simp [intOf]; omega
              have hqe : (((q : Int) == se) && er) = false := hqs
              clear hf hqs
              cases h1 : ((q : Int) == se)
              case' true => obtain rfl : er = false := by rw [h1] at hqe; simpa using hqe
              all_goals clear hqe
              all_goals rcases F with F1 | F2
              · subst F1
                have e2 : bits .andNot .u8 y y = 0 := (u8_andNot y y x1.1 (by omega) x1.1 (by omega)).trans (and_self y x1.1 x1.2)
                go_wp2_with fail
                go_round
                case rel => exact ⟨p + 1, by omega, by go_num⟩
                case measure => simp [intOf]; omega
              · obtain ⟨F1, F2, F3, F4, F5, F6⟩ := F2
                subst F2
                have e2 : bits .andNot .u8 y x = 0 := (u8_andNot y x x1.1 (by omega) x0.1 (by omega)).trans (by rw [F6]; rfl)
                have e3 : (y != x) = true := by rw [bne_iff_ne]; exact F1
                have e4 : ((q : Int) != ((pl se off).1 : Int)) = false := by rw [← F3]; simp
                have e5 : decide ((p : Int) < ((pl se off).2 : Int)) = false := by simp; omega
                have e6 : IntKind.i64.wrap (((pl se off).2 : Int) + (bl : Int)) = ((pl se off).2 : Int) + (bl : Int) := IntWalk.i64_in _ (by omega)
                have e7 : decide (((pl se off).2 : Int) + (bl : Int) ≤ (p : Int)) = false := by simp; omega
                have e8 : decide (p < (pl se off).2) = false := by simp; omega
                have e9 : decide ((pl se off).2 + bl ≤ p) = false := by simp; omega
                clear F1 F3 F4 F5 F6
                go_wp2_with fail
                go_round
                case rel => exact ⟨p + 1, by omega, by go_num⟩
                case measure => simp [intOf]; omega
              · subst F1
                have e2 : bits .andNot .u8 y y = 0 := (u8_andNot y y x1.1 (by omega) x1.1 (by omega)).trans (and_self y x1.1 x1.2)
                go_wp2_with fail
                go_round
                case rel => exact ⟨p + 1, by omega, by go_num⟩
                case measure => simp [intOf]; omega
              · obtain ⟨F1, F2, F3, F4, F5, F6⟩ := F2
                subst F2
                have e2 : bits .andNot .u8 y x = 0 := (u8_andNot y x x1.1 (by omega) x0.1 (by omega)).trans (by rw [F6]; rfl)
                have e3 : (y != x) = true := by rw [bne_iff_ne]; exact F1
                have e4 : ((q : Int) != ((pl se off).1 : Int)) = false := by rw [← F3]; simp
                have e5 : decide ((p : Int) < ((pl se off).2 : Int)) = false := by simp; omega
                have e6 : IntKind.i64.wrap (((pl se off).2 : Int) + (bl : Int)) = ((pl se off).2 : Int) + (bl : Int) := IntWalk.i64_in _ (by omega)
                have e7 : decide (((pl se off).2 : Int) + (bl : Int) ≤ (p : Int)) = false := by simp; omega
                have e8 : decide (p < (pl se off).2) = false := by simp; omega
                have e9 : decide ((pl se off).2 + bl ≤ p) = false := by simp; omega
                clear F1 F3 F4 F5 F6
                go_wp2_with fail
                go_round
                case rel => exact ⟨p + 1, by omega, by go_num⟩
                case measure => simp [intOf]; omega
            · obtain rfl : p = z := by omega
              go_wp2_with fail
              go_roundw
              case rel => exact ⟨q + 1, by omega, by go_num, HBd.out⟩
              case measure => simp [intOf]; omega
        · obtain rfl : q = n := by omega
          go_wp2_with fail
          go_roundw
          case rel => exact ⟨j + 1, (St.step s q z kd se off nn kk mm bs).up, _, _, _, _, by omega, by go_num, rfl, ⟨dev_more (dev_below HD13.out HQ.out) (by omega) (by omega), rfl, dev_fits (dev_more (dev_below HD13.out HQ.out) (by omega) (by omega) : Dev _ _ _ _ _ _ (2 * (j + 1)) _), HN13.out.below HQ.out, by omega, HB13.out.of_eq (HQ.out.block _ HB13.out.lt), HW13.out.trans (HQ.out.mono HW13.out.size)⟩⟩
          case measure => simp [intOf]; omega
    · obtain rfl : j = k := by omega
      go_wp2_with fail
      refine (fixed_calls _).mono ?_
      rintro e W12 ⟨rfl, hb⟩
      have HB12 := Lib.hid hb
      clear hb
      go_wp2_with fail
      go_ret
      exact ⟨rfl, HP.out.bel.trans (HB12.out.mono HP.out.bel.size)⟩
theorem falls_law (n z : Int) (A : Option Addr) (m c : Nat) (ops : Nat → Opr) (w : World) (ho : OpsAt w A m ops) (hk : OpsOk w m ops) (hm : m ≤ 9223372036854775807) (hc : m ≤ c) : Calls Try.prog 4 #[.agg #[.int .i64 n, .int .i64 z], .slice A m c] w fun e w' => e = .returned (.bool true) ∧ Below w.heap.size w w' := by
  cases hs : small n z with
  | false => exact falls_no n z A m c w hs
  | true =>
    have hy : may n z = true := by
      unfold small at hs
      cases h : may n z with
      | true => rfl
      | false => rw [h] at hs; cases hs
    have hb := may_yes hy
    obtain ⟨n', rfl⟩ := Int.eq_ofNat_of_zero_le (show 0 ≤ n by omega)
    obtain ⟨z', rfl⟩ := Int.eq_ofNat_of_zero_le (show 0 ≤ z by omega)
    exact falls_yes n' z' A m c ops w ho hk hm hc hy hs
end Go.Proofs.Ytdcmpkohengnaaa.NorFa
