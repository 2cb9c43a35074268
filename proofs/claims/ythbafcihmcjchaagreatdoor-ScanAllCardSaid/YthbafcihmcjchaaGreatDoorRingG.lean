/- The contract of the document's Get of layer 7. -/
import Derived.Test.YthbafcihmcjchaaGreatDoorRingB
import Derived.Test.YthbafcihmcjchaaGreatDoorRingN
import Derived.Test.YthbafcihmcjchaaGreatDoorPlaceH
import Derived.StillTailTactics
import Derived.Deep.RegionHeld3
import Derived.Deep.RegionHeld
import Derived.IntWalk
namespace Go.Proofs.YthbafcihmcjchaaGreatDoor.RingG
set_option linter.unusedVariables false
set_option linter.unusedSimpArgs false
open Go.RowKit
open Go.Proofs.YthbafcihmcjchaaGreatDoor.Byte Go.Proofs.YthbafcihmcjchaaGreatDoor.PackM Go.Proofs.YthbafcihmcjchaaGreatDoor.PackW Go.Proofs.YthbafcihmcjchaaGreatDoor.PackR Go.Proofs.YthbafcihmcjchaaGreatDoor.PlaceM Go.Proofs.YthbafcihmcjchaaGreatDoor.PlaceV Go.Proofs.YthbafcihmcjchaaGreatDoor.PlaceH Go.Proofs.YthbafcihmcjchaaGreatDoor.RingM Go.Proofs.YthbafcihmcjchaaGreatDoor.RingN Go.Proofs.YthbafcihmcjchaaGreatDoor.RingR Go.Proofs.YthbafcihmcjchaaGreatDoor.RingC Go.Proofs.YthbafcihmcjchaaGreatDoor.RingB Go.Proofs.YthbafcihmcjchaaGreatDoor.Own

attribute [local go_sem] Own.run_store_complex
theorem refget3 (a b c : Int) (w : World) (a0 : 0 ≤ a) (a1 : a ≤ 255) (b0 : 0 ≤ b) (b1 : b ≤ 255) (c0 : 0 ≤ c) (c1 : c ≤ 255) :
    Calls Tryz.prog 67 #[.int .u8 a, .int .u8 b, .int .u8 c] w fun e w' => e = .returned (.complex .f64 (gre a b c) (gim a b c)) ∧ w = w' := by
  by_cases h : a = 255 ∧ b = 255 ∧ c = 255
  · obtain ⟨rfl, rfl, rfl⟩ := h
    exact refget_none w
  · unfold gre gim
    rw [if_neg h, if_neg h]
    exact refget_yes a b c w a0 a1 b0 b1 c0 c1 h
set_option maxRecDepth 100000 in
set_option maxHeartbeats 4000000 in
theorem refget_short (A : Option Addr) (n c : Nat) (xs : List Int) (w : World) (hb : Bs w A n xs) (h : n < 22) :
    Calls Tryz.prog 49 #[.slice A n c] w (ItE (gans xs) (gerr xs) w) := by
  obtain ⟨e1, e2⟩ := ge_short (xs := xs) (by rw [hb.len]; exact h)
  rw [e1, e2]
  clear e1 e2 hb
  have H2 := Lib.hid (two_box w zer zer 99)
  go_enter Tryz.func49, Tryz.ntmps49
  go_wp2_with fail
  exact bodyPost_ret (v := .tuple #[.agg zer, .int .i64 3]) (by simp [results, Tryz.results49, go_sem, none_]) rfl ⟨rfl, H2.out.2.2⟩
set_option maxRecDepth 100000 in
set_option maxHeartbeats 4000000 in
theorem refget_long (b o : Nat) (n c : Nat) (xs : List Int) (w : World) (hb : Bs w (some ⟨b, o, none⟩) n xs) (hn : n ≤ 140737488355328) (h : 22 ≤ n) :
    Calls Tryz.prog 49 #[.slice (some ⟨b, o, none⟩) n c] w (ItE (gans xs) (gerr xs) w) := by
  have HB := Lib.hid hb
  have G1 := Lib.hid (fun w hb => refget_calls (some ⟨b, o, none⟩) n c xs 0 8 w hb hn (by omega) (by omega) (by omega) (by omega))
  have G2 := Lib.hid (fun w hb => refget_calls (some ⟨b, o, none⟩) n c xs 8 8 w hb hn (by omega) (by omega) (by omega) (by omega))
  clear hb
  have H2 := Lib.hid (two_box w zer zer 99)
  go_enter Tryz.func49, Tryz.ntmps49
  go_wp2_with fail
  change Calls _ _ _ ((w.alloc (.cells zer 99)).alloc (.cells zer 99)) _
  obtain ⟨W, hW⟩ : ∃ W, (w.alloc (.cells zer 99)).alloc (.cells zer 99) = W := ⟨_, rfl⟩
  have HWZ : Hid (w.heap.size + 2 = W.heap.size) := Lib.hid (by rw [← hW]; simp)
  rw [hW] at H2 ⊢
  clear hW
  have HB1 := Lib.hid (HB.out.below H2.out.2.2)
  refine (G1.out _ HB1.out).mono ?_
  rintro e w' ⟨rfl, rfl⟩
  go_wp2_with fail
  refine (G2.out _ HB1.out).mono ?_
  rintro e w' ⟨rfl, rfl⟩
  go_wp2_with fail
  have hat := fun k (hk : k < n) v (hv : Below W.heap.size W v) => (HB1.out.below hv).at_ k hk
  have y16 := HB.out.bd 16
  have y17 := HB.out.bd 17
  have y18 := HB.out.bd 18
  have y19 := HB.out.bd 19
  have y20 := HB.out.bd 20
  have y21 := HB.out.bd 21
  have i16 : (16 : Int) < (n : Int) := by omega
  have i17 : (17 : Int) < (n : Int) := by omega
  have i18 : (18 : Int) < (n : Int) := by omega
  have i19 : (19 : Int) < (n : Int) := by omega
  have i20 : (20 : Int) < (n : Int) := by omega
  have i21 : (21 : Int) < (n : Int) := by omega
  have j16 : 16 < n := by omega
  have j17 : 17 < n := by omega
  have j18 : 18 < n := by omega
  have j19 : 19 < n := by omega
  have j20 : 20 < n := by omega
  have j21 : 21 < n := by omega
  have x16 := Lib.hid (hat 16 j16)
  have x17 := Lib.hid (hat 17 j17)
  have x18 := Lib.hid (hat 18 j18)
  have x19 := Lib.hid (hat 19 j19)
  have x20 := Lib.hid (hat 20 j20)
  have x21 := Lib.hid (hat 21 j21)
  clear hat
  have HI : Hid (gitem xs = ⟨gx xs 0 8, gx xs 8 8, xs.getD 16 0, xs.getD 17 0, gre (xs.getD 18 0) (xs.getD 19 0) (xs.getD 20 0), gim (xs.getD 18 0) (xs.getD 19 0) (xs.getD 20 0), xs.getD 21 0 == 1, tx xs 22 48, tx xs (ti xs 22 48) 64⟩) := Lib.hid (by
    have l8 : ((8 : Nat) : Int) = 8 := rfl
    have e1 := (g_ok xs 0 8 (by rw [HB.out.len]; omega) (by rw [HB.out.len, show (width 8 : Int) = 8 from rfl]; omega)).1
    have e2 := (g_ok xs 8 8 (by rw [HB.out.len]; omega) (by rw [HB.out.len, show (width 8 : Int) = 8 from rfl]; omega)).1
    rw [e1, e2]
    rfl)
  have H5 := Lib.hid (fun h => ge_form (xs := xs) (by rw [HB.out.len]; omega) h)
  obtain ⟨v16, h16⟩ : ∃ v, xs.getD 16 0 = v := ⟨_, rfl⟩
  obtain ⟨v17, h17⟩ : ∃ v, xs.getD 17 0 = v := ⟨_, rfl⟩
  obtain ⟨v18, h18⟩ : ∃ v, xs.getD 18 0 = v := ⟨_, rfl⟩
  obtain ⟨v19, h19⟩ : ∃ v, xs.getD 19 0 = v := ⟨_, rfl⟩
  obtain ⟨v20, h20⟩ : ∃ v, xs.getD 20 0 = v := ⟨_, rfl⟩
  obtain ⟨v21, h21⟩ : ∃ v, xs.getD 21 0 = v := ⟨_, rfl⟩
  rw [h16] at x16 y16 HI
  rw [h17] at x17 y17 HI
  rw [h18] at x18 y18 HI
  rw [h19] at x19 y19 HI
  rw [h20] at x20 y20 HI
  rw [h21] at x21 y21 HI
  have H21 := Lib.hid h21
  clear h16 h17 h18 h19 h20 h21
  have q16 : IntKind.i64.wrap v16 = v16 := IntWalk.i64_in _ (by omega)
  have q17 : IntKind.i64.wrap v17 = v17 := IntWalk.i64_in _ (by omega)
  have RD : Hid (∀ v, Below W.heap.size W v → Below W.heap.size W v ∧ v.cell? ⟨b, o + 16, none⟩ = some (.int .u8 v16) ∧ v.cell? ⟨b, o + 17, none⟩ = some (.int .u8 v17) ∧ v.cell? ⟨b, o + 21, none⟩ = some (.int .u8 v21)) := Lib.hid fun v hv => ⟨hv, x16.out v hv, x17.out v hv, x21.out v hv⟩
  refine wp_region_noPanic ?_
  go_region_held3 (fun v => Below W.heap.size W v ∧ v.cell? ⟨b, o + 16, none⟩ = some (.int .u8 v16) ∧ v.cell? ⟨b, o + 17, none⟩ = some (.int .u8 v17) ∧ v.cell? ⟨b, o + 21, none⟩ = some (.int .u8 v21))
    (first
      | exact RD.out _ (Below.refl _ _)
      | exact RD.out _ (by assumption)
      | exact RD.out _ (Below.drew (by assumption))
      | exact RD.out _ (Below.drew (Below.refl _ _))
      | exact RD.out _ (And.left (by assumption))
      | exact RD.out _ (Below.alloc (And.left (by assumption)) (Below.size (And.left (by assumption))) _)
      | exact RD.out _ (Below.alloc (Below.refl _ _) (Nat.le_refl _) _)
      | exact RD.out _ (Below.drew (Below.alloc (Below.refl _ _) (Nat.le_refl _) _)))
    (first
      | fail)
  refine NoPanic.normal ?_
  clear q16 q17
  go_wp2_with fail
  obtain ⟨V, hVe⟩ : ∃ V, (W.alloc (.cells #[.int .u64 (gx xs 0 8), .int .u64 (gx xs 8 8), .int .i64 v16, .int .i64 v17, .complex .f64 0 0, .bool (v21 == 1), .string ⟨#[]⟩, .string ⟨#[]⟩] 99)).drew = V := ⟨_, rfl⟩
  rw [hVe]
  have hV : Below W.heap.size W V := by
    rw [← hVe]
    exact ((Below.refl _ _).alloc (Nat.le_refl _) _).drew
  have hX : Blk V W.heap.size (cells ⟨gx xs 0 8, gx xs 8 8, v16, v17, 0, 0, v21 == 1, ⟨#[]⟩, ⟨#[]⟩⟩) 99 := by
    rw [← hVe]
    exact Blk.new_ W _ _
  clear hVe
  have z18 := x18.out _ hV
  have z19 := x19.out _ hV
  have z20 := x20.out _ hV
  have z21 := x21.out _ hV
  have z4 := hX.cell 4
  have hlt := hX.lt
  have hfr := hX.frozen 4
  have hbl : b < W.heap.size := by
    obtain ⟨b', o', e, hlt', _⟩ := HB1.out.2.2 16 j16
    injection e with e
    injection e with e1
    omega
  have hwz : w.heap.size + 2 = W.heap.size := HWZ.out
  have n1 : ¬ b = W.heap.size := by omega
  go_still_tail 11, (by kernel_rfl)
  still_call ((refget3 v18 v19 v20 _ y18.1 y18.2 y19.1 y19.2 y20.1 y20.2).mono fun _ _ h => ⟨h.1, h.2.symm⟩)
  repeat still_step
  refine wpStill_nil ?_
  change wpList _ _ _ _ _ V.drew
  generalize gre v18 v19 v20 = re at *
  generalize gim v18 v19 v20 = im at *
  have hU : Below W.heap.size W (V.setCell ⟨W.heap.size, 4, none⟩ (.complex .f64 re im)).drew := (hV.setCell (p := ⟨W.heap.size, 4, none⟩) (Nat.le_refl _) _).drew
  have hUX : Blk (V.setCell ⟨W.heap.size, 4, none⟩ (.complex .f64 re im)).drew W.heap.size (cells ⟨gx xs 0 8, gx xs 8 8, v16, v17, re, im, v21 == 1, ⟨#[]⟩, ⟨#[]⟩⟩) 99 := by
    have h5 : Blk (V.setCell ⟨W.heap.size, 4, none⟩ (.complex .f64 re im)) W.heap.size (cells ⟨gx xs 0 8, gx xs 8 8, v16, v17, re, im, v21 == 1, ⟨#[]⟩, ⟨#[]⟩⟩) 99 := by simpa using hX.set_ 4 (.complex .f64 re im)
    exact h5.drew
  have HU := Lib.hid hU
  have HUX := Lib.hid hUX
  have HUR := Lib.hid ((H2.out.1.below hU))
  have HUN := Lib.hid ((H2.out.2.1.below hU))
  clear hU hUX
  by_cases hv : 1 < v21
  · have E := Lib.hid (H5.out (by rw [H21.out]; exact hv))
    have hv1 : decide (1 < v21) = true := by simpa using hv
    clear hv
    go_wp2_with (first
      | ((with_reducible refine pick (some _) ?_); refine load_blk rfl 99 (.tmp 4) rfl (w.heap.size + 1) rfl 99 zer _ HUN.out Tryz.underlying99 rfl info_item ?_)
      | ((with_reducible refine pick none ?_); refine store_blk rfl 99 (.tmp 2) _ rfl w.heap.size zer rfl rfl 99 zer HUR.out info_item rfl zer_one ?_; intro w2 hB2 hg2; have hW2 := (H2.out.2.2.trans (HU.out.mono H2.out.2.2.size)).grown hg2 (H2.out.2.2.trans (HU.out.mono H2.out.2.2.size)).size (by intro k hk; injection hk with hk; omega)))
    refine bodyPost_ret (v := .tuple #[.agg zer, .int .i64 2]) (results_cell_tmp_row (fn := Tryz.f49) rfl _ _ w.heap.size 99 zer (0, 0) _ rfl hB2 Tryz.underlying99 rfl info_item) rfl ⟨by rw [E.out.1, E.out.2], hW2⟩
  · have hv1 : decide (1 < v21) = false := by simpa using hv
    have hvN : ¬ 1 < xs.getD 21 0 := by rw [H21.out]; exact hv
    have HVN := Lib.hid hvN
    have hl22 : ¬ xs.length < 22 := by rw [HB.out.len]; omega
    have HLN := Lib.hid hl22
    have HGA := Lib.hid (fun h3 => ge_key hl22 hvN h3)
    have HGB := Lib.hid (fun h3 h4 => ge_value hl22 hvN h3 h4)
    have HGC := Lib.hid (fun h3 h4 h5 => ge_left hl22 hvN h3 h4 h5)
    have HGD := Lib.hid (fun h3 h4 h5 h6 => ge_arg hl22 hvN h3 h4 h5 h6)
    have HGE := Lib.hid (fun h3 h4 h5 h6 => ge_ok hl22 hvN h3 h4 h5 h6)
    have HTB := Lib.hid (fun h => ti_bd (xs := xs) (a := 22) (m := 48) HB.out.2.1 h)
    have HTS := Lib.hid (tx_size xs 22 48)
    clear hv hvN hl22 z18 z19 z20
    go_wp2_with fail
    clear z4 hlt hfr
    generalize (V.setCell ⟨W.heap.size, 4, none⟩ (.complex .f64 re im)).drew = U at *
    have T1 := Lib.hid (refgettext_calls (some ⟨b, o, none⟩) n c xs 22 48 U (HB1.out.below HU.out) hn (by omega) (by omega))
    obtain ⟨K1, hK1⟩ : ∃ k, tx xs 22 48 = k := ⟨_, rfl⟩
    obtain ⟨P1, hP1⟩ : ∃ k, ti xs 22 48 = k := ⟨_, rfl⟩
    obtain ⟨E1, hE1⟩ : ∃ k, te xs 22 48 = k := ⟨_, rfl⟩
    rw [hK1] at HI HTS T1
    rw [hP1] at HI HTB HGB HGC HGD HGE T1
    rw [hE1] at HTB HGA HGB HGC HGD HGE T1
    clear hK1 hP1 hE1 z21
    refine (T1.out).mono ?_
    rintro e U1 ⟨rfl, hb1⟩
    have HU1 := Lib.hid (keeps HU.out hb1)
    have HUX1 := Lib.hid (HUX.out.below hb1)
    have HUR1 := Lib.hid (HUR.out.below hb1)
    have HUN1 := Lib.hid (HUN.out.below hb1)
    clear hb1
    by_cases hE1 : E1 = 0
    rotate_left
    · have E := Lib.hid (HGA.out hE1)
      have hb1 : (E1 != 0) = true := by rw [bne_iff_ne]; exact hE1
      clear hE1
      go_wp2_with (first
        | ((with_reducible refine pick (some _) ?_); refine load_blk rfl 99 (.tmp 4) rfl (w.heap.size + 1) rfl 99 zer _ HUN1.out Tryz.underlying99 rfl info_item ?_)
        | ((with_reducible refine pick none ?_); refine store_blk rfl 99 (.tmp 2) _ rfl w.heap.size zer rfl rfl 99 zer HUR1.out info_item rfl zer_one ?_; intro w2 hB2 hg2; have hW2 := (H2.out.2.2.trans (HU1.out.mono H2.out.2.2.size)).grown hg2 (H2.out.2.2.trans (HU1.out.mono H2.out.2.2.size)).size (by intro k hk; injection hk with hk; omega)))
      refine bodyPost_ret (v := .tuple #[.agg zer, .int .i64 E1]) (results_cell_tmp_row (fn := Tryz.f49) rfl _ _ w.heap.size 99 zer (0, 0) _ rfl hB2 Tryz.underlying99 rfl info_item) rfl ⟨by rw [E.out.1, E.out.2], hW2⟩
    · subst hE1
      have hnn : ¬ (0 : Int) ≠ 0 := by decide
      have HNN := Lib.hid hnn
      have hpb := HTB.out rfl
      rw [HB.out.len] at hpb
      have T2 := Lib.hid (refgettext_calls (some ⟨b, o, none⟩) n c xs P1 64 U1 (HB1.out.below HU1.out) hn (by omega) (by omega))
      have HTS2 := Lib.hid (tx_size xs P1 64)
      obtain ⟨K2, hK2⟩ : ∃ k, tx xs P1 64 = k := ⟨_, rfl⟩
      obtain ⟨P2, hP2⟩ : ∃ k, ti xs P1 64 = k := ⟨_, rfl⟩
      obtain ⟨E2, hE2⟩ : ∃ k, te xs P1 64 = k := ⟨_, rfl⟩
      rw [hK2] at HI HTS2 T2
      rw [hP2] at HGC HGD HGE T2
      rw [hE2] at HGB HGC HGD HGE T2
      clear hK2 hP2 hE2 hnn
      go_wp2_with fail
      refine (T2.out).mono ?_
      rintro e U2 ⟨rfl, hb2⟩
      have HU2 := Lib.hid (keeps HU1.out hb2)
      have HUX2 := Lib.hid (HUX1.out.below hb2)
      have HUR2 := Lib.hid (HUR1.out.below hb2)
      have HUN2 := Lib.hid (HUN1.out.below hb2)
      clear hb2
      by_cases hE2 : E2 = 0
      rotate_left
      · have E := Lib.hid (HGB.out HNN.out hE2)
        have hb2 : (E2 != 0) = true := by rw [bne_iff_ne]; exact hE2
        clear hE2
        go_wp2_with (first
          | ((with_reducible refine pick (some _) ?_); refine load_blk rfl 99 (.tmp 4) rfl (w.heap.size + 1) rfl 99 zer _ HUN2.out Tryz.underlying99 rfl info_item ?_)
          | ((with_reducible refine pick none ?_); refine store_blk rfl 99 (.tmp 2) _ rfl w.heap.size zer rfl rfl 99 zer HUR2.out info_item rfl zer_one ?_; intro w2 hB2 hg2; have hW2 := (H2.out.2.2.trans (HU2.out.mono H2.out.2.2.size)).grown hg2 (H2.out.2.2.trans (HU2.out.mono H2.out.2.2.size)).size (by intro k hk; injection hk with hk; omega)))
        refine bodyPost_ret (v := .tuple #[.agg zer, .int .i64 E2]) (results_cell_tmp_row (fn := Tryz.f49) rfl _ _ w.heap.size 99 zer (0, 0) _ rfl hB2 Tryz.underlying99 rfl info_item) rfl ⟨by rw [E.out.1, E.out.2], hW2⟩
      · subst hE2
        have u6 := HUX2.out.cell 6
        have u7 := HUX2.out.cell 7
        have f6 := HUX2.out.frozen 6
        have f7 := HUX2.out.frozen 7
        have hS : Blk ((U2.setCell ⟨W.heap.size, 6, none⟩ (.string K1)).setCell ⟨W.heap.size, 7, none⟩ (.string K2)) W.heap.size (cells ⟨gx xs 0 8, gx xs 8 8, v16, v17, re, im, v21 == 1, K1, K2⟩) 99 := by simpa using (HUX2.out.set_ 6 (.string K1)).set_ 7 (.string K2)
        have hSW : Below W.heap.size W ((U2.setCell ⟨W.heap.size, 6, none⟩ (.string K1)).setCell ⟨W.heap.size, 7, none⟩ (.string K2)) := (HU2.out.setCell (p := ⟨W.heap.size, 6, none⟩) (Nat.le_refl _) _).setCell (p := ⟨W.heap.size, 7, none⟩) (Nat.le_refl _) _
        rw [← HI.out] at hS
        have HS := Lib.hid hS
        have HSW := Lib.hid hSW
        have HSR := Lib.hid (H2.out.1.below hSW)
        have HSN := Lib.hid (H2.out.2.1.below hSW)
        clear hS hSW
        by_cases hP : P2 = (n : Int)
        rotate_left
        · have E := Lib.hid (HGC.out HNN.out HNN.out (by rw [HB.out.len]; exact hP))
          have hb3 : (P2 != (n : Int)) = true := by rw [bne_iff_ne]; exact hP
          clear hP
          go_wp2_with (first
            | ((with_reducible refine pick (some _) ?_); refine load_blk rfl 99 (.tmp 4) rfl (w.heap.size + 1) rfl 99 zer _ HSN.out Tryz.underlying99 rfl info_item ?_)
            | ((with_reducible refine pick none ?_); refine store_blk rfl 99 (.tmp 2) _ rfl w.heap.size zer rfl rfl 99 zer HSR.out info_item rfl zer_one ?_; intro w2 hB2 hg2; have hW2 := (H2.out.2.2.trans (HSW.out.mono H2.out.2.2.size)).grown hg2 (H2.out.2.2.trans (HSW.out.mono H2.out.2.2.size)).size (by intro k hk; injection hk with hk; omega)))
          refine bodyPost_ret (v := .tuple #[.agg zer, .int .i64 2]) (results_cell_tmp_row (fn := Tryz.f49) rfl _ _ w.heap.size 99 zer (0, 0) _ rfl hB2 Tryz.underlying99 rfl info_item) rfl ⟨by rw [E.out.1, E.out.2], hW2⟩
        · subst hP
          have hb3 : ((n : Int) != (n : Int)) = false := by simp
          have hnn2 : ¬ ((n : Int) ≠ (xs.length : Int)) := by rw [HB.out.len]; simp
          have HMD := Lib.hid (fun h6 => HGD.out HNN.out HNN.out hnn2 h6)
          have HME := Lib.hid (fun h6 => HGE.out HNN.out HNN.out hnn2 h6)
          have hks : (gitem xs).key.size ≤ maxLen := by rw [HI.out]; have := HTS.out; rw [HB.out.len] at this; unfold maxLen; dsimp only; omega
          have hvs : (gitem xs).value.size ≤ maxLen := by rw [HI.out]; have := HTS2.out; rw [HB.out.len] at this; unfold maxLen; dsimp only; omega
          have HM := Lib.hid (fun w => refmay_calls (gitem xs) w hks hvs)
          clear hnn2 hks hvs
          cases hm : may (gitem xs)
          all_goals
            rw [hm] at HM
          case' true => have E := Lib.hid (HME.out hm)
          case' false => have E := Lib.hid (HMD.out hm)
          all_goals
            clear hm
            go_wp2_with ((with_reducible refine pick (some 94) ?_); refine load_blk rfl 99 (.tmp 11) rfl W.heap.size rfl 99 (cells (gitem xs)) _ HS.out Tryz.underlying99 rfl info_item ?_)
            refine (HM.out _).mono ?_
            rintro e W3 ⟨rfl, hb4⟩
            have HS3 := Lib.hid (HS.out.below hb4)
            have HSR3 := Lib.hid (HSR.out.below hb4)
            have HSN3 := Lib.hid (HSN.out.below hb4)
            have HW3 := Lib.hid ((H2.out.2.2.trans (HSW.out.mono H2.out.2.2.size)).trans (hb4.mono ((H2.out.2.2.trans (HSW.out.mono H2.out.2.2.size)).size)))
            clear hb4
          · go_wp2_with (first
              | ((with_reducible refine pick (some _) ?_); refine load_blk rfl 99 (.tmp 4) rfl (w.heap.size + 1) rfl 99 zer _ HSN3.out Tryz.underlying99 rfl info_item ?_)
              | ((with_reducible refine pick none ?_); refine store_blk rfl 99 (.tmp 2) _ rfl w.heap.size zer rfl rfl 99 zer HSR3.out info_item rfl (zer_one) ?_; intro w2 hB2 hg2; have hW2 := (HW3.out).grown hg2 (HW3.out).size (by intro k hk; injection hk with hk; omega)))
            refine bodyPost_ret (v := .tuple #[.agg zer, .int .i64 1]) (results_cell_tmp_row (fn := Tryz.f49) rfl _ _ w.heap.size 99 zer (0, 0) _ rfl hB2 Tryz.underlying99 rfl info_item) rfl ⟨by rw [E.out.1, E.out.2], hW2⟩
          · go_wp2_with (first
              | ((with_reducible refine pick (some _) ?_); refine load_blk rfl 99 (.tmp 11) rfl W.heap.size rfl 99 (cells (gitem xs)) _ HS3.out Tryz.underlying99 rfl info_item ?_)
              | ((with_reducible refine pick none ?_); refine store_blk rfl 99 (.tmp 2) _ rfl w.heap.size (cells (gitem xs)) rfl rfl 99 zer HSR3.out info_item rfl (cells_one _) ?_; intro w2 hB2 hg2; have hW2 := (HW3.out).grown hg2 (HW3.out).size (by intro k hk; injection hk with hk; omega)))
            refine bodyPost_ret (v := .tuple #[.agg (cells (gitem xs)), .int .i64 0]) (results_cell_tmp_row (fn := Tryz.f49) rfl _ _ w.heap.size 99 (cells (gitem xs)) (0, 0) _ rfl hB2 Tryz.underlying99 rfl info_item) rfl ⟨by rw [E.out.1, E.out.2], hW2⟩
theorem refget_item (A : Option Addr) (n c : Nat) (xs : List Int) (w : World) (hb : Bs w A n xs) (hn : n ≤ 140737488355328) :
    Calls Tryz.prog 49 #[.slice A n c] w (ItE (gans xs) (gerr xs) w) := by
  rcases Nat.lt_or_ge n 22 with h | h
  · exact refget_short A n c xs w hb h
  · obtain ⟨b, o, rfl, _, _⟩ := hb.2.2 0 (by omega)
    exact refget_long b o n c xs w hb hn h
end Go.Proofs.YthbafcihmcjchaaGreatDoor.RingG
