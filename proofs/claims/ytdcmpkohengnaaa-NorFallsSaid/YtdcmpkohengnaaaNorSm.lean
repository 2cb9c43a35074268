/- same: a device of a state shows the document's device of that state. -/
import Derived.Test.YtdcmpkohengnaaaNorDs
import Derived.Deep.RegionHeld3
import Derived.Deep.DrawnRows
namespace Go.Proofs.Ytdcmpkohengnaaa.NorSm
set_option linter.unusedVariables false
set_option linter.unusedSimpArgs false
open Go.RowKit
open Go.Proofs.Ytdcmpkohengnaaa.Byte Go.Proofs.Ytdcmpkohengnaaa.NorD Go.Proofs.Ytdcmpkohengnaaa.NorM Go.Proofs.Ytdcmpkohengnaaa.NorS Go.Proofs.Ytdcmpkohengnaaa.NorF Go.Proofs.Ytdcmpkohengnaaa.NorG Go.Proofs.Ytdcmpkohengnaaa.NorH Go.Proofs.Ytdcmpkohengnaaa.NorB Go.Proofs.Ytdcmpkohengnaaa.NorP Go.Proofs.Ytdcmpkohengnaaa.NorR Go.Proofs.Ytdcmpkohengnaaa.NorU Go.Proofs.Ytdcmpkohengnaaa.NorV Go.Proofs.Ytdcmpkohengnaaa.NorX Go.Proofs.Ytdcmpkohengnaaa.NorY Go.Proofs.Ytdcmpkohengnaaa.NorZ Go.Proofs.Ytdcmpkohengnaaa.NorI Go.Proofs.Ytdcmpkohengnaaa.NorJ Go.Proofs.Ytdcmpkohengnaaa.NorK Go.Proofs.Ytdcmpkohengnaaa.NorL Go.Proofs.Ytdcmpkohengnaaa.NorDo Go.Proofs.Ytdcmpkohengnaaa.NorDp Go.Proofs.Ytdcmpkohengnaaa.NorDr Go.Proofs.Ytdcmpkohengnaaa.NorDs Go.Proofs.Ytdcmpkohengnaaa.NorW Go.Proofs.Ytdcmpkohengnaaa.PlaceM Go.Proofs.Ytdcmpkohengnaaa.PlaceV
attribute [local go_sem ↓] Go.wp_at_zero Go.wp_at_succ

section
variable {lo hi d rl n z K : Nat} {s : St} {sb scap mb : Nat} {there : Bool} {leftD wholeD maskD : Int} {G C : Nat → Nat}
theorem keeps {w v v' : World} (h : Below w.heap.size w v) (hb : Below v.heap.size v v') : Below w.heap.size w v' := h.trans (hb.mono h.size)
set_option maxHeartbeats 400000 in
theorem offs_calls (d : Nat) (w : World) {on : Bool} {left whole mask acts offs : Int} (h : Core w d n z sb scap mb on there left whole mask acts offs) :
    Calls Try.prog 27 #[.pointer (some ⟨d, 0, none⟩)] w fun e w' => e = .returned (.int .i64 offs) ∧ w = w' := by
  have c10 := h.c10
  go_enter Try.func27, Try.ntmps27
  go_wp2
  go_ret
  exact ⟨rfl, rfl⟩
theorem pl_nat (k : Nat) (h : k ≤ 2147483647) : pl (k : Int) 0 = (k, 0) := by
  unfold pl
  rw [if_pos (by omega)]
  rfl
theorem dread_all (w : World) (hD : Dev w lo hi d n z K s) (x y k : Nat) (hk : k < n) (hx : rt x = true) (hy : rt y = true) (hi' : nm x = (k : Int)) (ho : nm y = ((0 : Nat) : Int)) (hon : s.on = true) :
    Calls Try.prog 22 #[.pointer (some ⟨d, 0, none⟩), .complex .f64 x y, .int .i64 (z : Int)] w
      fun e w' => ∃ g cap, e = .returned (.tuple #[.slice (some ⟨g, 0, none⟩) z cap, .int .i64 0]) ∧ Ob w' w.heap.size 5 g z cap (s.row k) ∧ Below w.heap.size w w' := by
  have hD' := hD
  obtain ⟨_, _, _, _, _, _, _, _, _, h⟩ := hD'
  have hr := (h.fits.row k hk).1
  have hin : inside n z k 0 z = true := by
    unfold inside
    rw [decide_eq_true_eq]
    omega
  refine (dread_ok w hD x y z k 0 ?_ hx hy hi' ho hin).mono fun e w' ⟨g, cap, h1, h2, h3⟩ => ⟨g, cap, h1, ?_, h3⟩
  · exact hon
  · rw [List.drop_zero, List.take_of_length_le (by omega)] at h2
    exact h2
theorem at_ints {w : World} {db n dc i : Nat} (hi : i < n) : (Instr.indexAt 32 (.slice (some ⟨db, 0, none⟩) n dc) (.int .i64 (i : Int))).run Try.prog w = .ok (.pointer (some ⟨db, i, none⟩)) w := by
  have hs : (sizeOf (Try.prog.elem 32)).run Try.prog w = .ok 1 w := by kernel_rfl
  have hT : Try.prog.underlying 32 = some (.slice (Try.prog.elem 32)) := by kernel_rfl
  rw [run_indexAt_slice (h := hT), if_pos (by omega), hs]
  have e2 : (i : Int).toNat = i := by omega
  simp [Addr.add, e2]
  omega
/-- What the first test of 'same' reads. -/
def SameS (W : World) (g n z : Nat) (s : St) (v : World) : Prop :=
  Below W.heap.size W v ∧ v.cell? ⟨g, 0, none⟩ = some (.int .i64 n) ∧ v.cell? ⟨g, 1, none⟩ = some (.int .i64 z) ∧ v.cell? ⟨g, 5, none⟩ = some (.bool (!s.on)) ∧ v.cell? ⟨g, 6, none⟩ = some (.int .i64 s.offs) ∧ v.cell? ⟨g, 7, none⟩ = some (.int .i64 s.acts)
set_option maxRecDepth 100000 in
set_option maxHeartbeats 4000000 in
theorem same_calls (w : World) (v : Value) (hD : Dev w lo hi d n z K s) (hR : Ref w rl n z K s v) (hh : hi ≤ rl) (hl : rl ≤ w.heap.size) :
    Calls Try.prog 13 #[.pointer (some ⟨d, 0, none⟩), v] w fun e w' => e = .returned (.bool true) ∧ Chg (fun q => lo ≤ q ∧ q < hi) w w' := by
  obtain ⟨db, dc, wb, wc, bb, bc, cuts, left, whole, mask, L, LC, rfl, hP, hr⟩ := hR
  have HP := Lib.hid hP
  have HR := Lib.hid hr
  have hg := hP.geo
  have hhw : hi ≤ w.heap.size := by omega
  have hbw : Below w.heap.size w (w.alloc (.cells (rc n z db dc wb wc bb bc (!s.on) s.offs s.acts cuts left whole mask) 35)) := (Below.refl _ _).alloc (Nat.le_refl _) _
  have HDW := Lib.hid (dev_below hD hbw)
  have HCW := Lib.hid (Chg.of_below (S := fun q => lo ≤ q ∧ q < hi) hbw)
  have HBX := Lib.hid (Blk.new w 35 (rc n z db dc wb wc bb bc (!s.on) s.offs s.acts cuts left whole mask))
  clear hP hr hD hbw
  unfold refVal
  go_enter Try.func13, Try.ntmps13
  go_upto_region 1 with (fail)
  change Code.wp _ _ _ _ (w.alloc (.cells (rc n z db dc wb wc bb bc (!s.on) s.offs s.acts cuts left whole mask) 35))
  generalize w.alloc (.cells (rc n z db dc wb wc bb bc (!s.on) s.offs s.acts cuts left whole mask) 35) = W at *
  obtain ⟨sb, scap, mb, there, leftD, wholeD, maskD, G, C, hDP⟩ := HDW.out
  have HDP := Lib.hid hDP
  clear hDP
  have HDPb : Hid (∀ v, Below W.heap.size W v → DevP v lo hi d n z K s sb scap mb there leftD wholeD maskD G C) := Lib.hid fun v hv => DevP.below HDP.out hv
  have HCo : Hid (∀ v, Below W.heap.size W v → Core v d n z sb scap mb s.on there leftD wholeD maskD s.acts s.offs) := Lib.hid fun v hv => Blk.of_eq HDP.out.core (hv.block _ HDP.out.core.lt)
  have RD : Hid (∀ v, Below W.heap.size W v → Below W.heap.size W v ∧ v.cell? ⟨w.heap.size, 0, none⟩ = some (.int .i64 n) ∧ v.cell? ⟨w.heap.size, 1, none⟩ = some (.int .i64 z) ∧ v.cell? ⟨w.heap.size, 5, none⟩ = some (.bool (!s.on)) ∧ v.cell? ⟨w.heap.size, 6, none⟩ = some (.int .i64 s.offs) ∧ v.cell? ⟨w.heap.size, 7, none⟩ = some (.int .i64 s.acts)) := Lib.hid fun v hv => by
    obtain ⟨t0, t1, t2, t3, t4, t5, t6, t7, t8, t9, t10, t11⟩ := twelve (HBX.out.of_eq (hv.block _ HBX.out.lt))
    exact ⟨hv, t0, t1, t5, t6, t7⟩
  have hsz : w.heap.size < W.heap.size := HBX.out.lt
  have hon : (s.on == !s.on) = false := by cases s.on <;> rfl
  have ho1 : (s.offs != s.offs) = false := by simp
  have ho2 : (s.acts != s.acts) = false := by simp
  refine wp_region_noPanic ?_
  go_region_held3 (fun v => Below W.heap.size W v ∧ v.cell? ⟨w.heap.size, 0, none⟩ = some (.int .i64 n) ∧ v.cell? ⟨w.heap.size, 1, none⟩ = some (.int .i64 z) ∧ v.cell? ⟨w.heap.size, 5, none⟩ = some (.bool (!s.on)) ∧ v.cell? ⟨w.heap.size, 6, none⟩ = some (.int .i64 s.offs) ∧ v.cell? ⟨w.heap.size, 7, none⟩ = some (.int .i64 s.acts))
    (first
      | exact RD.out _ (Below.refl _ _)
      | exact RD.out _ (by assumption)
      | exact RD.out _ (below_drewN (Below.refl _ _) _)
      | exact RD.out _ (Below.drew (by assumption))
      | exact RD.out _ (Below.drew (Below.refl _ _))
      | exact RD.out _ (And.left (by assumption)))
    (first
      | (go_at_call 26; refine (isOn_calls _ _ (HCo.out _ (And.left (by assumption)))).mono ?_; rintro e w' ⟨rfl, rfl⟩)
      | (go_at_call 27; refine (offs_calls _ _ (HCo.out _ (And.left (by assumption)))).mono ?_; rintro e w' ⟨rfl, rfl⟩)
      | (go_at_call 25; refine (acts_calls _ _ (HCo.out _ (And.left (by assumption)))).mono ?_; rintro e w' ⟨rfl, rfl⟩)
      | (go_at_call 28; refine (geometry_calls _ _ (HCo.out _ (And.left (by assumption)))).mono ?_; rintro e w4 ⟨rfl, hb4⟩; have hn4 : Below W.heap.size W w4 := keeps (And.left (by assumption)) hb4; clear hb4)
      | (go_at_call 15; refine (wear_no _ (HDPb.out _ (And.left (by assumption))) _ (by first | exact .inl (by decide) | exact .inr (Int.le_refl _))).mono ?_; rintro e w' ⟨rfl, rfl⟩))
  refine NoPanic.normal ?_
  rename_i hH
  have HH : Below W.heap.size W _ := hH.1
  clear hH
  have HB0 := Lib.hid (HBX.out.of_eq (HH.block _ HBX.out.lt))
  have HC0 := Lib.hid (HCW.out.trans (Chg.of_below (S := fun q => lo ≤ q ∧ q < hi) HH))
  have HDV := Lib.hid (dev_below HDW.out HH)
  clear HH HCo HDPb HDP RD hon ho1 ho2 HDW HBX HCW
  go_wp2_with (go_at_call 18; refine (dev_on _ HDV.out).mono ?_; rintro e V1 ⟨rfl, hD1, hc1⟩; have HD1 := Lib.hid hD1; have HB1 := Lib.hid (HB0.out.chg hc1 (by omega)); have HC1 := Lib.hid (HC0.out.trans hc1); have b0 : V1.cell? ⟨w.heap.size, 0, none⟩ = some (.int .i64 n) := (twelve HB1.out).1; clear hD1 hc1)
  clear b0 HB0 HC0 HDV hsz
  go_loopw [52] (fun i wr => ∃ k : Nat, k ≤ n ∧ i = .int .i64 k ∧ Dev wr lo hi d n z K s.up ∧ Blk wr w.heap.size 35 (rc n z db dc wb wc bb bc (!s.on) s.offs s.acts cuts left whole mask) ∧ Chg (fun q => lo ≤ q ∧ q < hi) w wr) (fun i _ => n - (intOf i).toNat)
  case atStart => exact ⟨0, Nat.zero_le _, rfl, HD1.out, HB1.out, HC1.out⟩
  case round =>
    obtain ⟨k, hkn, rfl, hD, hB, hC⟩ := hrel
    clear HD1 HB1 HC1
    have HB := Lib.hid hB
    have HC := Lib.hid hC
    have HD := Lib.hid hD
    clear hB hC hD
    by_cases hlt : k < n
    · have hxy : ∀ w, Calls Try.prog 17 #[.int .i64 (k : Int), .int .i64 0] w fun e w' => ∃ x y, e = .returned (.complex .f64 x y) ∧ (rt x = true ∧ rt y = true ∧ nm x = (k : Int) ∧ nm y = ((0 : Nat) : Int)) ∧ w = w' := fun w => by
        have := of_num (k : Int) 0 w
        rw [pl_nat k (by omega)] at this
        exact this
      have HOF := Lib.hid hxy
      have RD : Hid (∀ v, Below wr.heap.size wr v → Below wr.heap.size wr v ∧ v.cell? ⟨w.heap.size, 1, none⟩ = some (.int .i64 z)) := Lib.hid fun v hv => ⟨hv, (twelve (HB.out.of_eq (hv.block _ HB.out.lt))).2.1⟩
      clear hxy
      go_wp2_with fail
      refine wp_region_noPanic ?_
      go_region_held3 (fun v => Below wr.heap.size wr v ∧ v.cell? ⟨w.heap.size, 1, none⟩ = some (.int .i64 z))
        (first
          | exact RD.out _ (Below.refl _ _)
          | exact RD.out _ (by assumption)
          | exact RD.out _ (below_drewN (Below.refl _ _) _)
          | exact RD.out _ (Below.drew (by assumption))
          | exact RD.out _ (Below.drew (Below.refl _ _))
          | exact RD.out _ (And.left (by assumption)))
        (first
          | (go_at_call 17; refine (HOF.out _).mono ?_; rintro e w' ⟨x, y, rfl, hxy, rfl⟩; have HXY := Lib.hid hxy; clear hxy)
          | (go_at_call 22; refine (dread_all _ (dev_below HD.out (And.left (by assumption))) x y k hlt HXY.out.1 HXY.out.2.1 HXY.out.2.2.1 HXY.out.2.2.2 rfl).mono ?_; rintro e w4 ⟨g1, cap1, rfl, ho1, hb4⟩; have hn4 : Below wr.heap.size wr w4 := keeps (And.left (by assumption)) hb4; have HO4 := Lib.hid ho1; clear ho1 hb4))
      refine NoPanic.normal ?_
      rename_i hH
      have HH : Hid (Below wr.heap.size wr _) := Lib.hid hH.1
      clear hH hn4
      go_wp2_with fail
      have HBv := Lib.hid (HB.out.of_eq ((HH.out.drew).block _ HB.out.lt))
      have HCv := Lib.hid (HC.out.trans (Chg.of_below (S := fun q => lo ≤ q ∧ q < hi) HH.out.drew))
      have HPv := Lib.hid (refP_chg (lo := lo) (hi := hi) HP.out HCv.out hh)
      have HOv := Lib.hid (HO4.out.below ((Below.refl _ w4).drew))
      have HDv := Lib.hid (dev_below HD.out HH.out.drew)
      refine lit_drew (by kernel_rfl) (by kernel_rfl) ?_
      generalize hvw : w4.drew = Wv at *
      have hs1 := HOv.out.str_ (P := Try.prog) 38 9 Try.underlying38 Try.underlying5 Try.underlying9
      rw [show s.up.row k = s.row k from rfl] at hs1
      have hs2 := (HPv.out.rows k hlt).1.str_ (P := Try.prog) (c := LC k) 38 9 Try.underlying38 Try.underlying5 Try.underlying9
      have hwear : Calls Try.prog 15 #[.pointer (some ⟨d, 0, none⟩), .int .i64 (k : Int)] Wv (fun e w'' => e = .returned (.int .i64 (s.wear.getD k 0)) ∧ w'' = Wv) := by
        obtain ⟨_, _, _, _, _, _, _, _, _, h⟩ := HDv.out
        exact (wear_yes Wv h k hlt).mono fun e w' ⟨h1, h2⟩ => ⟨h1, h2.symm⟩
      have kd : Wv.cell? ⟨db, k, none⟩ = some (.slice (some ⟨L k, 0, none⟩) z (LC k)) := HPv.out.data.cell hlt
      have kw : Wv.cell? ⟨wb, k, none⟩ = some (.int .i64 (s.wear.getD k 0)) := HPv.out.wear.cell hlt
      have t2 : Wv.cell? ⟨w.heap.size, 2, none⟩ = some (.slice (some ⟨db, 0, none⟩) n dc) := (twelve HBv.out).2.2.1
      have t3 : Wv.cell? ⟨w.heap.size, 3, none⟩ = some (.slice (some ⟨wb, 0, none⟩) n wc) := (twelve HBv.out).2.2.2.1
      generalize str (s.row k) = tt at hs1 hs2
      generalize s.wear.getD k 0 = wk at hwear kw
      clear RD HOF HO4 HH hvw
      refine still_val (.int .i64 0) (by kernel_rfl) (by kernel_rfl) ?_
      refine still_val (.bool false) (by kernel_rfl) (by kernel_rfl) ?_
      refine still_val (.bool false) (by kernel_rfl) (by kernel_rfl) ?_
      refine still_val (.slice (some ⟨g1, 0, none⟩) z cap1) (by kernel_rfl) (by kernel_rfl) ?_
      refine still_val (.string tt) (by kernel_rfl) (still_conv rfl (by kernel_rfl) hs1) ?_
      refine still_val (.pointer (some ⟨w.heap.size, 2, none⟩)) (by kernel_rfl) (by kernel_rfl) ?_
      refine still_val (.slice (some ⟨db, 0, none⟩) n dc) (by kernel_rfl) (still_load (.pointer (some ⟨w.heap.size, 2, none⟩)) rfl (by kernel_rfl) (by go_simp)) ?_
      refine still_val (.int .i64 (k : Int)) (by kernel_rfl) (by kernel_rfl) ?_
      refine still_val (.pointer (some ⟨db, k, none⟩)) (by kernel_rfl) (still_index (.slice (some ⟨db, 0, none⟩) n dc) (.int .i64 (k : Int)) rfl (by kernel_rfl) (by kernel_rfl) (at_of hlt)) ?_
      refine still_val (.slice (some ⟨L k, 0, none⟩) z (LC k)) (by kernel_rfl) (still_load (.pointer (some ⟨db, k, none⟩)) rfl (by kernel_rfl) (by go_simp)) ?_
      refine still_val (.string tt) (by kernel_rfl) (still_conv rfl (by kernel_rfl) hs2) ?_
      refine still_val (.bool false) (by kernel_rfl) (still_bin (.string tt) (.string tt) rfl (by kernel_rfl) (by kernel_rfl) (by go_simp) (by go_simp)) ?_
      refine still_val (.bool false) (by kernel_rfl) (by kernel_rfl) ?_
      refine still_val (.bool false) (by kernel_rfl) (by kernel_rfl) ?_
      refine still_val (.pointer (some ⟨d, 0, none⟩)) (by kernel_rfl) (by kernel_rfl) ?_
      refine still_val (.int .i64 (k : Int)) (by kernel_rfl) (by kernel_rfl) ?_
      refine still_ent (.int .i64 wk) (by kernel_rfl) (by kernel_rfl) hwear ?_
      refine still_val (.pointer (some ⟨w.heap.size, 3, none⟩)) (by kernel_rfl) (by kernel_rfl) ?_
      refine still_val (.slice (some ⟨wb, 0, none⟩) n wc) (by kernel_rfl) (still_load (.pointer (some ⟨w.heap.size, 3, none⟩)) rfl (by kernel_rfl) (by go_simp)) ?_
      refine still_val (.int .i64 (k : Int)) (by kernel_rfl) (by kernel_rfl) ?_
      refine still_val (.pointer (some ⟨wb, k, none⟩)) (by kernel_rfl) (still_index (.slice (some ⟨wb, 0, none⟩) n wc) (.int .i64 (k : Int)) rfl (by kernel_rfl) (by kernel_rfl) (at_ints hlt)) ?_
      refine still_val (.int .i64 wk) (by kernel_rfl) (still_load (.pointer (some ⟨wb, k, none⟩)) rfl (by kernel_rfl) (by go_simp)) ?_
      refine still_val (.bool false) (by kernel_rfl) (still_bin (.int .i64 wk) (.int .i64 wk) rfl (by kernel_rfl) (by kernel_rfl) (by go_simp) (by go_simp)) ?_
      refine still_val (.bool false) (by kernel_rfl) (by kernel_rfl) ?_
      refine still_end ?_
      simp only [Act.put, List.setIfInBounds_toArray, List.set_cons_zero, List.set_cons_succ]
      clear hs1 hs2 hwear kd kw t2 t3
      go_wp2
      go_roundw
      case rel => exact ⟨k + 1, by omega, by go_num, HDv.out, HBv.out, HCv.out⟩
      case measure => simp [intOf]; omega
    · obtain rfl : k = n := by omega
      go_wp2
      go_ret
      exact ⟨rfl, HC.out⟩
end
end Go.Proofs.Ytdcmpkohengnaaa.NorSm
