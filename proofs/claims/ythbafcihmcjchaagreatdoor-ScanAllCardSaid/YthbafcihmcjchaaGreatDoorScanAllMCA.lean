/- Merged: ScanAw RecF ScanX ScanY ScanG NorOp Open. -/
import Derived.Deep.DeepCutAuto
import Derived.Deep.CutBlock
import Derived.Deep.RegionHeld
import Derived.Test.YthbafcihmcjchaaGreatDoorScanAllMBY
import Derived.Test.YthbafcihmcjchaaGreatDoorScanAllMBO
import Derived.Test.YthbafcihmcjchaaGreatDoorScanAllMBZ
import Derived.Lib.SlBytesConst
import Derived.Test.YthbafcihmcjchaaGreatDoorRecY
import Derived.Lib.AppendStr
import Derived.Deep.RegionLaw
import Derived.BigRegion
import Derived.Test.YthbafcihmcjchaaGreatDoorRows
import Derived.OpenShut
import Derived.LaidMore
import Derived.LaidHandle
import Derived.MakeChecks
import Derived.Stop.Joined
import Derived.Deep.Slices
import Derived.ChangeSlices
import Derived.ChangeArms
import Derived.ChangeShapes
import Derived.WideShapes
import Derived.Below
/- The walk of layer 8's law ScanAll. -/
namespace Go.Proofs.YthbafcihmcjchaaGreatDoor.ScanAw
set_option linter.unusedVariables false
set_option linter.unusedSimpArgs false
open Go.RowKit
open Go.Proofs.YthbafcihmcjchaaGreatDoor.Byte Go.Proofs.YthbafcihmcjchaaGreatDoor.PlaceM Go.Proofs.YthbafcihmcjchaaGreatDoor.PlaceV Go.Proofs.YthbafcihmcjchaaGreatDoor.RingK Go.Proofs.YthbafcihmcjchaaGreatDoor.RingS Go.Proofs.YthbafcihmcjchaaGreatDoor.ScanM Go.Proofs.YthbafcihmcjchaaGreatDoor.ScanO Go.Proofs.YthbafcihmcjchaaGreatDoor.ScanP Go.Proofs.YthbafcihmcjchaaGreatDoor.ScanB Go.Proofs.YthbafcihmcjchaaGreatDoor.ScanAl

/-- The device and the document's stand alike, after at most N operations or so. -/
def Alike (w wr : World) (lo hi d rl bm N : Nat) : Prop := ∃ (s : NorS.St) (K : Nat), K ≤ N ∧ NorPl.PX w wr lo hi d rl 6 512 bm K s
theorem own_fs {w : World} {base : Nat} {v : Value} {L : List Fnd} (h : w.ownsRow base 103 11 v L.length (flat L)) : ∃ A p, v = .slice A L.length p ∧ FsAt w A L.length L := by
  have h0 := h
  rcases h.2 with ⟨h4, h5⟩ | ⟨g, cap, cur, h4, _⟩
  · obtain rfl : L = [] := List.eq_nil_of_length_eq_zero h5
    exact ⟨none, 0, by rw [h4]; rfl, FsAt.nil_ _ _⟩
  · subst h4
    have hfo : Fo w base g L.length cap L := ⟨rfl, h0⟩
    exact ⟨_, cap, rfl, hfo.fs⟩
theorem sec_at {w : World} {g : Nat} {row : Nat → List Int} {n z k : Nat} (h : Sects w g n z row n) (hk : k < n) : ∃ A p, w.rangeAt g (k * 4) (secCells n z (row k) k (.slice A (fo n z (row k) k).length p)) ∧ FsAt w A (fo n z (row k) k).length (fo n z (row k) k) := by
  obtain ⟨v, h1, h2⟩ := h.2 k hk
  obtain ⟨A, p, rfl, h3⟩ := own_fs h2
  exact ⟨A, p, h1, h3⟩
theorem set12 {w : World} {g : Nat} {t : TypeId} (c0 c1 c2 c3 c4 c5 c6 c7 c8 c9 c10 c11 : Value) (h : NorD.Blk w g t #[c0, c1, c2, c3, c4, c5, c6, c7, c8, c9, c10, c11]) (a0 a1 a2 a3 a4 a5 a6 a7 a8 a9 a10 a11 : Value) : NorD.Blk ((((((((((((w.setCell ⟨g, 0, none⟩ a0).setCell ⟨g, 1, none⟩ a1).setCell ⟨g, 2, none⟩ a2).setCell ⟨g, 3, none⟩ a3).setCell ⟨g, 4, none⟩ a4).setCell ⟨g, 5, none⟩ a5).setCell ⟨g, 6, none⟩ a6).setCell ⟨g, 7, none⟩ a7).setCell ⟨g, 8, none⟩ a8).setCell ⟨g, 9, none⟩ a9).setCell ⟨g, 10, none⟩ a10).setCell ⟨g, 11, none⟩ a11) g t #[a0, a1, a2, a3, a4, a5, a6, a7, a8, a9, a10, a11] ∧ NorD.Chg (fun q => q = g) w ((((((((((((w.setCell ⟨g, 0, none⟩ a0).setCell ⟨g, 1, none⟩ a1).setCell ⟨g, 2, none⟩ a2).setCell ⟨g, 3, none⟩ a3).setCell ⟨g, 4, none⟩ a4).setCell ⟨g, 5, none⟩ a5).setCell ⟨g, 6, none⟩ a6).setCell ⟨g, 7, none⟩ a7).setCell ⟨g, 8, none⟩ a8).setCell ⟨g, 9, none⟩ a9).setCell ⟨g, 10, none⟩ a10).setCell ⟨g, 11, none⟩ a11) := by
  have h1 := ((((((((((((h.set_ 0 a0).set_ 1 a1).set_ 2 a2).set_ 3 a3).set_ 4 a4).set_ 5 a5).set_ 6 a6).set_ 7 a7).set_ 8 a8).set_ 9 a9).set_ 10 a10).set_ 11 a11)
  have cc : ∀ (W : World) (i : Nat) (u : Value), NorD.Chg (fun q => q = g) W (W.setCell ⟨g, i, none⟩ u) := fun W i u => (NorD.Chg.refl _ W).own i u
  refine ⟨?_, (cc _ 0 a0).trans ((cc _ 1 a1).trans ((cc _ 2 a2).trans ((cc _ 3 a3).trans ((cc _ 4 a4).trans ((cc _ 5 a5).trans ((cc _ 6 a6).trans ((cc _ 7 a7).trans ((cc _ 8 a8).trans ((cc _ 9 a9).trans ((cc _ 10 a10).trans (cc _ 11 a11)))))))))))⟩
  simpa using h1
theorem ref_chg {w w' : World} {rl lo hi n z K : Nat} {s : NorS.St} {v : Value} (h : NorP.Ref w rl n z K s v) (hc : NorD.Chg (fun q => lo ≤ q ∧ q < hi) w w') (hh : hi ≤ rl) : NorP.Ref w' rl n z K s v := h.keep (fun k h1 h2 => hc.block k h2 (by omega)) hc.size
theorem twenty {w : World} {g n z db dc wb wc bb bc : Nat} {off : Bool} {offs acts : Int} {cuts : Bool} {left whole mask : Int} (h : NorD.Blk w g 33 (NorR.rc n z db dc wb wc bb bc off offs acts cuts left whole mask)) : ∀ i, w.frozen? ⟨g, i, none⟩ = false := fun i => h.frozen i
set_option maxRecDepth 100000 in
set_option maxHeartbeats 8000000 in
theorem all_law (hX : FixedOk) (hdd : Bool) (A : Option Addr) (m c : Nat) (ops : Nat → NorK.Opr) (w : World) (ho : NorK.OpsAt w A m ops) (hk : NorPl.OpsOk w m ops) (hm : m ≤ 9223372036854775807) (hc : m ≤ c) (hE : Example w) (hN : PlaceH.Nowhere w) :
    Calls Tryz.prog 3 #[.slice A m c, .bool hdd] w fun e w' => e = .returned (.bool true) ∧ Below w.heap.size w w' := by
  have HO := Lib.hid ho
  have HK := Lib.hid hk
  have HE := Lib.hid hE
  have HN := Lib.hid hN
  have HX := Lib.hid hX
  clear ho hk hN hX
  have NW := Lib.hid (fun w => NorQ.new_yes 6 512 w (by decide))
  have RN := Lib.hid (fun w => NorI.refNew_calls 6 512 w (by omega) (by omega) (by omega) (by omega))
  have x0 := hE.2.1
  have x1 := hE.2.2
  have hxl := hE.1
  clear hE
  go_enter Tryz.func3, Tryz.ntmps3
  go_wp2_with fail
  refine (NW.out _).mono ?_
  rintro e W3 ⟨d, rfl, hD, hb⟩
  have HB3 := Lib.hid hb
  have HD3 := Lib.hid hD
  have hs3 := hb.size
  have hE3 := HE.out.below hb
  have y0 := hE3.2.1
  have y1 := hE3.2.2
  clear hb hD hE3
  go_wp2_with fail
  refine (RN.out _).mono ?_
  rintro e W6 ⟨v0, rfl, hR, hb⟩
  obtain ⟨db, dc, wb, wc, bb, bc, cuts, left, whole, mask, hv0⟩ := NorPl.agg_rc hR
  subst hv0
  have HB6 := Lib.hid (Own.keeps HB3.out hb)
  have HD6 := Lib.hid (NorJ.dev_below HD3.out hb)
  have HR6 := Lib.hid hR
  have hs6 := hb.size
  clear hb hR y0 y1
  unfold NorPl.RC NorR.rc
  go_upto_region 5 with (fail)
  change Code.wp _ _ _ _ (W6.alloc (.cells (NorPl.RC 6 512 (NorS.St.new 6 512) db dc wb wc bb bc cuts left whole mask) 33))
  have hb7 : Below W6.heap.size W6 (W6.alloc (.cells (NorPl.RC 6 512 (NorS.St.new 6 512) db dc wb wc bb bc cuts left whole mask) 33)) := (Below.refl _ _).alloc (Nat.le_refl _) _
  have HP7 : Hid (Alike w (W6.alloc (.cells (NorPl.RC 6 512 (NorS.St.new 6 512) db dc wb wc bb bc cuts left whole mask) 33)) w.heap.size W3.heap.size d W3.heap.size W6.heap.size 0) := Lib.hid ⟨_, 0, Nat.le_refl _, NorJ.dev_below HD6.out hb7, ⟨_, _, _, _, _, _, _, _, _, _, NorPl.Ref.below HR6.out hb7, NorD.Blk.new _ _ _⟩, Own.keeps HB6.out hb7⟩
  clear hb7
  generalize W6.alloc (.cells (NorPl.RC 6 512 (NorS.St.new 6 512) db dc wb wc bb bc cuts left whole mask) 33) = W7 at *
  obtain ⟨bm, hbm⟩ : ∃ b, W6.heap.size = b := ⟨_, rfl⟩
  obtain ⟨hi, hhi⟩ : ∃ b, W3.heap.size = b := ⟨_, rfl⟩
  rw [hbm, hhi] at HP7
  rw [hhi] at hs3
  rw [hbm, hhi] at hs6
  rw [hbm]
  clear HD3 HD6 HR6 HB3 HB6 hbm hhi NW RN
  go_upto_if 31 with (fail)
  go_cut [] (fun wx => Alike w wx w.heap.size hi d hi bm 20)
  case first =>
    obtain ⟨s7, K7, hK7, hP7⟩ := HP7.out
    obtain rfl : K7 = 0 := by omega
    have hE7 := HE.out.below hP7.bel
    have z0 := hE7.2.1
    have HPX := Lib.hid hP7
    clear hP7 HP7 hE7 x0 x1
    cases hdd with
    | false =>
      go_wp2_with fail
      go_meet
      case rel => exact ⟨s7, 0, by omega, HPX.out⟩
    | true =>
      have HD0 : Hid (∀ w, Calls Tryz.prog 8 #[.agg #[.int .i64 6, .int .i64 512]] w fun e w' => e = .returned (.string (str (HeadM.hd ((6 : Nat) : Int) ((512 : Nat) : Int)))) ∧ Below w.heap.size w w') := Lib.hid (fun w => HeadR.refof_calls ((6 : Nat) : Int) ((512 : Nat) : Int) w)
      have CV := Lib.hid (fun w => ConvS.conv_fresh (P := Tryz.prog) w 9 38 5 (HeadM.hd ((6 : Nat) : Int) ((512 : Nat) : Int)) 8 (HeadM.hd_len _ _) (HeadM.hd_bd _ _) Tryz.underlying9 Tryz.underlying38 Tryz.underlying5)
      obtain ⟨hb, hhb⟩ : ∃ x, (HeadM.hd ((6 : Nat) : Int) ((512 : Nat) : Int)) = x := ⟨_, rfl⟩
      rw [hhb] at HD0 CV
      obtain ⟨hst, hhst⟩ : ∃ x, str hb = x := ⟨_, rfl⟩
      rw [hhst] at HD0 CV
      clear hhst hhb
      go_wp2_with fail
      clear z0
      go_loopw [34] (fun i wr => ∃ (k : Nat) (s : NorS.St), k ≤ 6 ∧ i = .int .i64 k ∧ NorPl.PX w wr w.heap.size hi d hi 6 512 bm k s) (fun i _ => 6 - (intOf i).toNat)
      case atStart => exact ⟨0, s7, by omega, rfl, HPX.out⟩
      case round =>
        obtain ⟨k, s, hk6, rfl, hP⟩ := hrel
        have HP := Lib.hid hP
        obtain ⟨db, dc, wb, wc, bb, bc, cuts, left, whole, mask, hR, hB⟩ := hP.ref
        have HR := Lib.hid hR
        have HB := Lib.hid hB
        have hbl := hB.lt
        have HEr := Lib.hid (HE.out.below hP.bel)
        clear hP hR hB HPX
        by_cases hlt : k < 6
        · have hxy : ∀ w, Calls Tryz.prog 7 #[.int .i64 (k : Int), .int .i64 0] w fun e w' => ∃ x y, e = .returned (.complex .f64 x y) ∧ (rt x = true ∧ rt y = true ∧ nm x = (k : Int) ∧ nm y = ((0 : Nat) : Int)) ∧ w = w' := fun w => by
            have := NorDo.of_num (k : Int) 0 w
            rw [NorSm.pl_nat k (by omega)] at this
            exact this
          have HOF := Lib.hid hxy
          have RD : Hid (∀ v, NorD.Chg (fun q => w.heap.size ≤ q ∧ q < hi) wr v → NorD.Chg (fun q => w.heap.size ≤ q ∧ q < hi) wr v ∧ v.cell? ⟨0, 0, none⟩ = some (.int .i64 6) ∧ v.cell? ⟨0, 1, none⟩ = some (.int .i64 512)) := Lib.hid fun v hv => ⟨hv, hv.cell HEr.out.2.1 (by show ¬ (w.heap.size ≤ 0 ∧ _); omega), hv.cell HEr.out.2.2 (by show ¬ (w.heap.size ≤ 0 ∧ _); omega)⟩
          clear hxy
          go_upto_region 9 with (fail)
          refine wp_region_noPanic ?_
          go_region_held (fun v => NorD.Chg (fun q => w.heap.size ≤ q ∧ q < hi) wr v ∧ v.cell? ⟨0, 0, none⟩ = some (.int .i64 6) ∧ v.cell? ⟨0, 1, none⟩ = some (.int .i64 512))
            (first
              | exact RD.out _ (NorD.Chg.refl _ _)
              | exact RD.out _ (by assumption)
              | exact RD.out _ (NorD.Chg.drew (by assumption))
              | exact RD.out _ (NorD.Chg.drew (NorD.Chg.refl _ _))
              | exact RD.out _ (And.left (by assumption)))
            (first
              | (go_at_call 7; refine (HOF.out _).mono ?_; rintro e w' ⟨x, y, rfl, hxy, rfl⟩; have HXY := Lib.hid hxy; clear hxy)
              | (go_at_call 8; refine (HD0.out _).mono ?_; rintro e w3 ⟨rfl, hb3⟩; have hr3 : Below wr.heap.size wr w3 := Own.keeps (Below.drew (Below.refl _ _)) hb3; obtain ⟨cap5, w5, hrun, hf5, hb5⟩ := CV.out w3; have hc3 : NorD.Chg (fun q => w.heap.size ≤ q ∧ q < hi) wr w3 := NorD.Chg.of_below hr3; have hr5 : Below wr.heap.size wr w5 := Own.keeps hr3 hb5; have hc5 : NorD.Chg (fun q => w.heap.size ≤ q ∧ q < hi) wr w5 := NorD.Chg.of_below hr5; have HF5 := Lib.hid hf5; have HD5 := Lib.hid (NorJ.dev_below HP.out.dev hr5); have hz3 := hr3.size; clear hb3 hr3 hf5 hb5)
              | (go_at_call 6; refine (NorH.program_calls _ HD5.out (by omega) x y (some ⟨w3.heap.size, 0, none⟩) 8 cap5 k 0 hb HF5.out.bs (fun b o e => .inr (by injection e with e; injection e with e; omega)) (by omega) HXY.out.1 HXY.out.2.1 HXY.out.2.2.1 HXY.out.2.2.2).mono ?_; rintro e w6 ⟨rfl, hD6, hc6⟩; have hc6' : NorD.Chg (fun q => w.heap.size ≤ q ∧ q < hi) wr w6 := hc5.trans hc6; have HD6 := Lib.hid hD6; clear hD6 hc6))
          refine NoPanic.normal ?_
          rename_i hH
          have HC6 := Lib.hid hc6'
          have HBm := Lib.hid (HB.out.chg hc6' (by omega))
          have HRm := Lib.hid (ref_chg HR.out hc6' (Nat.le_refl _))
          have HBl := Lib.hid (HP.out.bel.trans (hc6'.below HP.out.bel.size (fun k hk e => by omega)))
          have HE6 := Lib.hid (HE.out.below HBl.out)
          have hz6 := hc6'.size
          have hE6 := HE6.out
          have y0 := hE6.2.1
          have y1 := hE6.2.2
          clear hH hc6' hc5 hc3 hrun hE6 HF5 HD5 HXY hr5
          obtain ⟨zx, hzx⟩ : ∃ x, floatOfInt .f64 (k : Int) = x := ⟨_, rfl⟩
          obtain ⟨zy, hzy⟩ : ∃ x, floatOfInt .f64 (0 : Int) = x := ⟨_, rfl⟩
          have HZ : Hid (rt zx = true ∧ rt zy = true ∧ nm zx = (k : Int) ∧ nm zy = ((0 : Nat) : Int)) := Lib.hid ⟨by rw [← hzx]; exact fi_rt _ (by omega) (by omega), by rw [← hzy]; exact fi_rt _ (by omega) (by omega), by rw [← hzx]; exact fi_nm _ (by omega) (by omega), by rw [← hzy]; exact fi_nm _ (by omega) (by omega)⟩
          have PL := Lib.hid (fun w => PlaceH.refof_yes (k : Int) 0 w (by omega) (by omega) (by omega) (by omega))
          rw [hzx, hzy] at PL
          clear hzx hzy
          obtain ⟨t0, t1, t2, t3, t4, t5, t6, t7, t8, t9, t10, t11⟩ := NorU.twelve HBm.out
          go_upto_region 10 with (fail)
          go_region_law (first
            | (go_simp; go_at_call 10; refine (PL.out _).mono ?_; rintro e w' ⟨rfl, rfl⟩)
            | (go_simp; go_at_call 8; refine (HD0.out _).mono ?_; rintro e w3 ⟨rfl, hb3⟩; have hr3 : Below w6.heap.size w6 w3 := Own.keeps (Below.drew (Below.refl _ _)) hb3; obtain ⟨cap5, w5, hrun, hf5, hb5⟩ := CV.out w3; have hr5 : Below w6.heap.size w6 w5 := Own.keeps hr3 hb5; have HF5 := Lib.hid hf5; have HB3 := HBm.out.of_eq (hr3.block _ HBm.out.lt); have HB5 := HBm.out.of_eq (hr5.block _ HBm.out.lt); obtain ⟨p0, p1, p2, p3, p4, p5, p6, p7, p8, p9, p10, p11⟩ := NorU.twelve HB3; obtain ⟨q0, q1, q2, q3, q4, q5, q6, q7, q8, q9, q10, q11⟩ := NorU.twelve HB5; have HR5 := Lib.hid (NorPl.Ref.below HRm.out hr5); have hz3 := hr3.size; have hz5 := hb5.size; have HR5B := Lib.hid hr5; have HB5H := Lib.hid HB5; clear hb3 hr3 hf5 hb5 hr5 HB3 HB5)
            | (go_simp; go_at_call 9; refine (NorY.refProgram_calls _ (.agg (NorPl.RC 6 512 s db dc wb wc bb bc cuts left whole mask)) HR5.out zx zy (some ⟨w3.heap.size, 0, none⟩) 8 cap5 k 0 hb HF5.out.bs (by omega) (by omega) (by omega) HZ.out.1 HZ.out.2.1 HZ.out.2.2.1 HZ.out.2.2.2).mono ?_; rintro e w8 ⟨v', rfl, hR8, hb8⟩; obtain ⟨db', dc', wb', wc', bb', bc', cuts', left', whole', mask', hv'⟩ := NorPl.agg_rc hR8; subst hv'; unfold NorPl.RC NorR.rc; have HB8 := HB5H.out.of_eq (hb8.block _ HB5H.out.lt); obtain ⟨r0, r1, r2, r3, r4, r5, r6, r7, r8, r9, r10, r11⟩ := NorU.twelve HB8; have f0 := HB8.frozen 0; have f1 := HB8.frozen 1; have f2 := HB8.frozen 2; have f3 := HB8.frozen 3; have f4 := HB8.frozen 4; have f5 := HB8.frozen 5; have f6 := HB8.frozen 6; have f7 := HB8.frozen 7; have f8 := HB8.frozen 8; have f9 := HB8.frozen 9; have f10 := HB8.frozen 10; have f11 := HB8.frozen 11; have HB8H := Lib.hid HB8; have HR8 := Lib.hid hR8; have HR8B := Lib.hid (Own.keeps HR5B.out hb8); clear hR8 hb8 HB8))
          all_goals
            have hb8 := HB8H.out
            unfold NorPl.RC NorR.rc at hb8
            have HSET := Lib.hid (set12 _ _ _ _ _ _ _ _ _ _ _ _ hb8 (.int .i64 6) (.int .i64 512) (.slice (some ⟨db', 0, none⟩) 6 dc') (.slice (some ⟨wb', 0, none⟩) 6 wc') (.slice (some ⟨bb', 0, none⟩) 6 bc') (.bool (!(s.program 6 512 k 0 hb).2.on)) (.int .i64 (s.program 6 512 k 0 hb).2.offs) (.int .i64 (s.program 6 512 k 0 hb).2.acts) (.bool cuts') (.int .i64 left') (.int .i64 whole') (.int .u8 mask'))
            have HB9 := Lib.hid (Own.keeps HBl.out HR8B.out)
            clear hb8 t0 t1 t2 t3 t4 t5 t6 t7 t8 t9 t10 t11 p0 p1 p2 p3 p4 p5 p6 p7 p8 p9 p10 p11 q0 q1 q2 q3 q4 q5 q6 q7 q8 q9 q10 q11 r0 r1 r2 r3 r4 r5 r6 r7 r8 r9 r10 r11 f0 f1 f2 f3 f4 f5 f6 f7 f8 f9 f10 f11 y0 y1
            go_wp2_with fail
            go_roundw
            case rel => exact ⟨k + 1, (s.program 6 512 k 0 hb).2, by omega, by go_num, NorDo.dev_chg (NorJ.dev_below HD6.out HR8B.out) HSET.out.2 (fun k h1 h2 e => by omega), ⟨_, _, _, _, _, _, _, _, _, _, NorPl.Ref.var HR8.out HB8H.out rfl HSET.out.2, HSET.out.1⟩, HB9.out.trans (HSET.out.2.below HB9.out.size (fun k hk e => by omega))⟩
            case measure => simp [intOf]; omega
        · obtain rfl : k = 6 := by omega
          go_wp2_with fail
          go_meet
          case rel => exact ⟨s, 6, by omega, HP.out⟩
  case rest =>
    go_upto_block 2 with (fail)
    go_cut [] (fun wx => Alike w wx w.heap.size hi d hi bm 200)
    case first =>
      have HA := Lib.hid hcut
      clear hcut
      go_wp2_with fail
      go_loopw [57] (fun i wr => ∃ j : Nat, j ≤ m ∧ j ≤ 31 ∧ i = .int .i64 j ∧ Alike w wr w.heap.size hi d hi bm (20 + 2 * j)) (fun i _ => m - (intOf i).toNat)
      case atStart => exact ⟨0, Nat.zero_le _, by omega, rfl, HA.out⟩
      case round =>
        obtain ⟨j, hjm, hj31, rfl, s, K, hK, hP⟩ := hrel
        have HP := Lib.hid hP
        obtain ⟨db, dc, wb, wc, bb, bc, cuts, left, whole, mask, hR, hB⟩ := hP.ref
        have HR := Lib.hid hR
        have HB := Lib.hid hB
        clear hP hR hB HA
        by_cases hlt : j < m
        · obtain ⟨b, o, hA, hbs, hcell⟩ := (HO.out.below HP.out.bel) j (by omega)
          subst hA
          obtain ⟨hbs', hB0, hn0, hn1, hk1, hm0, hm1⟩ := HK.out j (by omega)
          obtain ⟨op, hop⟩ : ∃ op, ops j = op := ⟨_, rfl⟩
          rw [hop] at hcell hbs' hB0 hn0 hn1 hk1 hm0 hm1
          obtain ⟨kd, se, off, B, bl, bq, nn, kk, mm⟩ := op
          obtain ⟨bs, hBS⟩ := hbs'
          dsimp only at hBS hB0 hn0 hn1 hk1 hm0 hm1
          have HC : Hid (wr.rangeAt b (o + j * 7) [.int .i64 kd, .int .i64 se, .int .i64 off, .slice B bl bq, .int .i64 nn, .int .i64 kk, .int .u8 mm]) := hcell
          have HBS := Lib.hid hBS
          have HB0 := Lib.hid hB0
          have HBb : Hid (0 < bl → ∀ b o, B = some ⟨b, o, none⟩ → b < w.heap.size) := Lib.hid fun hp b o e => by
            obtain ⟨b', o', e', hlt, _⟩ := hBS.2.2 0 hp
            rw [e] at e'
            injection e' with e'
            injection e' with e1 e2
            subst e1
            exact hlt
          clear hcell hop hBS hB0
          go_upto_region 15 with ((with_reducible refine pick (some 61) ?_); refine wpList_load_mid rfl 43 _ rfl b (o + j * 7) rfl [.int .i64 kd, .int .i64 se, .int .i64 off, .slice B bl bq, .int .i64 nn, .int .i64 kk, .int .u8 mm] _ HC.out Tryz.underlying43 rfl NorK.info_op ?_)
          change Code.wp _ _ _ _ (wr.alloc (.cells #[.int .i64 kd, .int .i64 se, .int .i64 off, .slice B bl bq, .int .i64 nn, .int .i64 kk, .int .u8 mm] 43))
          have hb9 : Below wr.heap.size wr (wr.alloc (.cells #[.int .i64 kd, .int .i64 se, .int .i64 off, .slice B bl bq, .int .i64 nn, .int .i64 kk, .int .u8 mm] 43)) := (Below.refl _ _).alloc (Nat.le_refl _) _
          have HO9 := Lib.hid (NorD.Blk.new wr 43 #[.int .i64 kd, .int .i64 se, .int .i64 off, .slice B bl bq, .int .i64 nn, .int .i64 kk, .int .u8 mm])
          have HD9 := Lib.hid (NorJ.dev_below HP.out.dev hb9)
          have HR9 := Lib.hid (NorPl.Ref.below HR.out hb9)
          have HB9 := Lib.hid (HB.out.of_eq (hb9.block _ HB.out.lt))
          have HW9 := Lib.hid (Own.keeps HP.out.bel hb9)
          have HA9 : Hid (Alike w (wr.alloc (.cells #[.int .i64 kd, .int .i64 se, .int .i64 off, .slice B bl bq, .int .i64 nn, .int .i64 kk, .int .u8 mm] 43)) w.heap.size hi d hi bm 200) := Lib.hid ⟨s, K, by omega, HD9.out, ⟨_, _, _, _, _, _, _, _, _, _, HR9.out, HB9.out⟩, HW9.out⟩
          clear hb9
          generalize wr.alloc (.cells #[.int .i64 kd, .int .i64 se, .int .i64 off, .slice B bl bq, .int .i64 nn, .int .i64 kk, .int .u8 mm] 43) = W9 at *
          have hl9 : bm < W9.heap.size := HB9.out.lt
          have o3 : W9.cell? ⟨wr.heap.size, 3, none⟩ = some (.slice B bl bq) := HO9.out.cell 3
          rcases (show (30 : Int) < (j : Int) ∨ ((j : Int) ≤ 30 ∧ (600 : Int) < (bl : Int)) ∨ ((j : Int) ≤ 30 ∧ (bl : Int) ≤ 600) by omega) with h6 | ⟨h6, h7⟩ | ⟨h6, h7⟩
          · have d0 : decide ((30 : Int) < (j : Int)) = true := by simpa using h6
            go_wp2_with fail
            go_meet
            case rel => exact HA9.out
          · have d0 : decide ((30 : Int) < (j : Int)) = false := by simp; omega
            have d1 : decide ((600 : Int) < (bl : Int)) = true := by simpa using h7
            go_wp2_with fail
            go_meet
            case rel => exact HA9.out
          · have d0 : decide ((30 : Int) < (j : Int)) = false := by simp; omega
            have d1 : decide ((600 : Int) < (bl : Int)) = false := by simp; omega
            have HBS9 := Lib.hid (HBS.out.below HW9.out)
            go_wp2_with (first
              | ((with_reducible refine pick (some 72) ?_); refine wpList_load_row rfl _ _ rfl bm rfl 33 (NorPl.RC 6 512 s db dc wb wc bb bc cuts left whole mask) (0, 0) _ HB9.out Tryz.underlying33 rfl NorR.info_ref ?_)
              | ((with_reducible refine pick (some 73) ?_); refine wpList_load_row rfl _ _ rfl wr.heap.size rfl 43 #[.int .i64 kd, .int .i64 se, .int .i64 off, .slice B bl bq, .int .i64 nn, .int .i64 kk, .int .u8 mm] (0, 0) _ HO9.out Tryz.underlying43 rfl NorK.info_op ?_)
              | (go_at_call 11; refine (NorDt.do_calls W9 (.agg (NorPl.RC 6 512 s db dc wb wc bb bc cuts left whole mask)) HD9.out HR9.out (by omega) (by omega) (by omega) kd se off B bl bq nn kk mm bs HBS9.out HB0.out (by omega) (fun hp b o e => by have := HBb.out hp b o e; omega) hn0 hn1 hk1 hm0 hm1).mono ?_; rintro e w10 ⟨ok, v', rfl, hok, hD10, hR10, hC10⟩; obtain ⟨db', dc', wb', wc', bb', bc', cuts', left', whole', mask', hv'⟩ := NorPl.agg_rc hR10; subst hv'; have HD10 := Lib.hid hD10; have HR10 := Lib.hid hR10; have HC10 := Lib.hid hC10; have HB10 := Lib.hid (HB9.out.chg hC10 (by omega)); clear hok hD10 hR10 hC10)
              | ((with_reducible refine pick none ?_); refine NorR.wpList_store_blk rfl 33 _ _ rfl bm (NorPl.RC 6 512 (NorDt.St.step s 6 512 kd se off nn kk mm bs) db' dc' wb' wc' bb' bc' cuts' left' whole' mask') rfl rfl 33 (NorPl.RC 6 512 s db dc wb wc bb bc cuts left whole mask) HB10.out NorR.info_ref rfl (NorPl.RC_one _ _ _ _ _ _ _ _ _ _ _ _ _) ?_; intro w11 hb11 hg11; have HB11 := Lib.hid hb11; have HG11 := Lib.hid hg11; clear hb11 hg11))
            have hw9 := HW9.out.size
            have hw10 := HC10.out.size
            have HF : Hid (Below w.heap.size w w11) := Lib.hid ((HW9.out.trans (HC10.out.below (by omega) (fun k hk e => by omega))).trans (HG11.out.below (by omega) (fun k hk e => by omega)))
            go_roundw
            case rel => exact ⟨j + 1, by omega, by omega, by go_num, NorDt.St.step s 6 512 kd se off nn kk mm bs, K + 2, by omega, NorDo.dev_more (NorDo.dev_chg HD10.out HG11.out (fun k h1 h2 e => by omega)) (by omega) (by omega), ⟨_, _, _, _, _, _, _, _, _, _, (NorPl.Ref.var HR10.out HB10.out rfl HG11.out).more (by omega) (by omega), HB11.out⟩, HF.out⟩
            case measure => simp [intOf]; omega
        · obtain rfl : j = m := by omega
          go_wp2_with fail
          go_meet
          case rel => exact ⟨s, K, by omega, HP.out⟩
    case rest =>
      obtain ⟨s, K, hK, hP⟩ := hcut
      have HPD := Lib.hid hP.dev
      have HPB := Lib.hid hP.bel
      obtain ⟨db0, dc0, wb0, wc0, bb0, bc0, cuts0, left0, whole0, mask0, hR, hB⟩ := hP.ref
      obtain ⟨db, dc, wb, wc', bb, bc, cuts, left, whole, mask, L, LC, hv, hRP, hdc, _⟩ := hR
      injection hv with hv
      rw [hv] at hB
      have HB := Lib.hid hB
      have HRP := Lib.hid hRP
      have HNx : Hid (PlaceH.Nowhere wc) := Lib.hid (HN.out.below hP.bel)
      have HEx : Hid (Example wc) := Lib.hid (HE.out.below hP.bel)
      clear hP hv hB hRP x0 x1 HO HK HP7
      have bml := HB.out.lt
      have FX := Lib.hid (fun v (hv : Below wc.heap.size wc v) => HX.out v (HEx.out.below hv) (HNx.out.below hv))
      cases hon : s.on with
      | false =>
        have AO := Lib.hid (all_off wc HPD.out hon)
        have c5 : wc.cell? ⟨bm, 5, none⟩ = some (.bool true) := by
          have := HB.out.cell 5
          rw [hon] at this
          exact this
        clear hon
        go_wp2_with fail
        refine AO.out.mono ?_
        rintro e w' ⟨rfl, rfl⟩
        go_wp2_with fail
        refine (FX.out _ (Below.refl _ _)).mono ?_
        rintro e w9 ⟨rfl, hb9⟩
        have HB9 := Lib.hid (Own.keeps HPB.out hb9)
        clear hb9 c5
        go_wp2_with fail
        go_ret
        exact ⟨rfl, HB9.out⟩
      | true =>
        have AO := Lib.hid (all_on wc HPD.out hon (by omega) (by omega) HNx.out)
        have c5 : wc.cell? ⟨bm, 5, none⟩ = some (.bool false) := by
          have := HB.out.cell 5
          rw [hon] at this
          exact this
        clear hon
        go_wp2_with fail
        refine AO.out.mono ?_
        rintro e w8 ⟨g, rfl, hsc, hb8⟩
        have HSC := Lib.hid hsc
        have HB8 := Lib.hid (Own.keeps HPB.out hb8)
        have HM8 := Lib.hid (HB.out.of_eq (hb8.block _ HB.out.lt))
        have HR8 := Lib.hid (HRP.out.below hb8)
        have HE8 := Lib.hid (HEx.out.below hb8)
        have HN8 := Lib.hid (HNx.out.below hb8)
        have FX8 := Lib.hid (fun v (hv : Below w8.heap.size w8 v) => FX.out v (Own.keeps hb8 hv))
        have d5 : w8.cell? ⟨bm, 5, none⟩ = some (.bool false) := (hb8.cell (p := ⟨bm, 5, none⟩) bml).trans c5
        have y0 := HE8.out.2.1
        have hgl := hsc.lt
        have hml := HM8.out.lt
        clear hsc hb8 c5
        go_wp2_with fail
        go_loopw [106] (fun i wr => ∃ k : Nat, k ≤ 6 ∧ i = .int .i64 k ∧ Below w8.heap.size w8 wr) (fun i _ => 6 - (intOf i).toNat)
        case atStart => exact ⟨0, by omega, rfl, Below.refl _ _⟩
        case round =>
          obtain ⟨k, hk6, rfl, hbel⟩ := hrel
          have HBL := Lib.hid hbel
          clear hbel y0 d5
          by_cases hlt : k < 6
          · obtain ⟨A6, p6, hrg, hf6⟩ := sec_at (HSC.out.below HBL.out) hlt
            have hfit := HRP.out.fits.row k hlt
            have hrf := rf_fo (n := ((6 : Nat) : Int)) (z := ((512 : Nat) : Int)) hfit.2 (by rw [hfit.1]; omega) (k : Int).toNat (by omega)
            rw [Int.toNat_natCast] at hrf
            have hfl : (fo ((6 : Nat) : Int) ((512 : Nat) : Int) (s.row k) (k : Int)).length ≤ 1000000 := by
              unfold fo
              split
              · have := sc_few (s.row k) (k : Int) 8
                have := hfit.1
                omega
              · simp
            have HF := Lib.hid hfit
            have RF8 := Lib.hid (fun v (hv : Below w8.heap.size w8 v) => ScanO.refof_calls ((6 : Nat) : Int) ((512 : Nat) : Int) (some ⟨L k, 0, none⟩) 512 (LC k) k (s.row k) v ((HR8.out.rows k hlt).1.below hv) (HR8.out.rows k hlt).2.1.2.1 (by omega) (by omega))
            unfold secCells at hrg
            obtain ⟨cc, hcc⟩ : ∃ x, cl ((6 : Nat) : Int) ((512 : Nat) : Int) (s.row k) = x := ⟨_, rfl⟩
            obtain ⟨ee, hee⟩ : ∃ x, en ((6 : Nat) : Int) ((512 : Nat) : Int) (s.row k) (k : Int) = x := ⟨_, rfl⟩
            obtain ⟨ff, hff⟩ : ∃ x, fu ((6 : Nat) : Int) ((512 : Nat) : Int) (s.row k) (k : Int) = x := ⟨_, rfl⟩
            obtain ⟨LL, hLL⟩ : ∃ x, fo ((6 : Nat) : Int) ((512 : Nat) : Int) (s.row k) (k : Int) = x := ⟨_, rfl⟩
            obtain ⟨N, hNN⟩ : ∃ N, LL.length = N := ⟨_, rfl⟩
            rw [hcc, hee, hff, hLL] at RF8
            rw [hcc, hee, hff, hLL, hNN] at hrg
            rw [hLL, hNN] at hf6
            rw [hLL] at hrf hfl
            rw [hNN] at hfl
            have HRG := Lib.hid hrg
            have HRF := Lib.hid hrf
            have HNN := Lib.hid hNN
            have HF6 := Lib.hid hf6
            have i0 : (k : Int) < 6 := by omega
            clear hrg hf6 hrf hcc hee hff hLL hNN hfit
            go_upto_region 26 with ((with_reducible refine pick (some 110) ?_); refine wpList_load_mid rfl 52 _ rfl g (k * 4) rfl [.int .i64 cc, .int .i64 ee, .bool ff, .slice A6 N p6] _ HRG.out Tryz.underlying52 rfl ScanZo.info_ssec ?_)
            obtain ⟨V, hV⟩ : ∃ V, wr.alloc (.cells #[.int .i64 cc, .int .i64 ee, .bool ff, .slice A6 N p6] 52) = V := ⟨_, rfl⟩
            have hbV : Below wr.heap.size wr V := by rw [← hV]; exact (Below.refl _ _).alloc (Nat.le_refl _) _
            have hbx : Own.Blk V wr.heap.size #[.int .i64 cc, .int .i64 ee, .bool ff, .slice A6 N p6] 52 := by rw [← hV]; exact Own.Blk.new_ _ _ _
            have HBX := Lib.hid hbx
            have HBV := Lib.hid (Own.keeps HBL.out hbV)
            have HF7 := Lib.hid (HF6.out.below hbV)
            have RF := Lib.hid (fun v (hv : Below V.heap.size V v) => RF8.out v (Own.keeps HBV.out hv))
            have FXV := Lib.hid (fun v (hv : Below V.heap.size V v) => FX8.out v (Own.keeps HBV.out hv))
            have RD : Hid (∀ v, Below V.heap.size V v → ((fun v => Below V.heap.size V v ∧ v.cell? ⟨wr.heap.size, 0, none⟩ = some (.int .i64 cc) ∧ v.cell? ⟨wr.heap.size, 1, none⟩ = some (.int .i64 ee) ∧ v.cell? ⟨wr.heap.size, 2, none⟩ = some (.bool ff) ∧ v.cell? ⟨wr.heap.size, 3, none⟩ = some (.slice A6 N p6) ∧ v.cell? ⟨0, 0, none⟩ = some (.int .i64 6) ∧ v.cell? ⟨0, 1, none⟩ = some (.int .i64 512) ∧ v.cell? ⟨bm, 2, none⟩ = some (.slice (some ⟨db, 0, none⟩) 6 dc) ∧ v.cell? ⟨db, k, none⟩ = some (.slice (some ⟨L k, 0, none⟩) 512 (LC k)))) v) := Lib.hid fun v hv => by
              have h1 := HBX.out.below hv
              have h2 := HE8.out.below (Own.keeps HBV.out hv)
              have h3 : v.cell? ⟨bm, 2, none⟩ = some (.slice (some ⟨db, 0, none⟩) 6 dc) := ((Own.keeps HBV.out hv).cell (p := ⟨bm, 2, none⟩) hml).trans (HM8.out.cell 2)
              have h4 := (HR8.out.below (Own.keeps HBV.out hv)).data.cell hlt
              exact ⟨hv, h1.cell 0, h1.cell 1, h1.cell 2, h1.cell 3, h2.2.1, h2.2.2, h3, h4⟩
            have hix : ∀ w, (Instr.indexAt 29 (.slice (some ⟨db, 0, none⟩) 6 dc) (.int .i64 (k : Int))).run Tryz.prog w = .ok (.pointer (some ⟨db, k, none⟩)) w := fun w => NorDs.at_of hlt
            have hvl := hbx.lt
            clear hbV hbx hlt
            rw [hV]
            clear hV
            refine wp_region_noPanic ?_
            go_region_held (fun v => Below V.heap.size V v ∧ v.cell? ⟨wr.heap.size, 0, none⟩ = some (.int .i64 cc) ∧ v.cell? ⟨wr.heap.size, 1, none⟩ = some (.int .i64 ee) ∧ v.cell? ⟨wr.heap.size, 2, none⟩ = some (.bool ff) ∧ v.cell? ⟨wr.heap.size, 3, none⟩ = some (.slice A6 N p6) ∧ v.cell? ⟨0, 0, none⟩ = some (.int .i64 6) ∧ v.cell? ⟨0, 1, none⟩ = some (.int .i64 512) ∧ v.cell? ⟨bm, 2, none⟩ = some (.slice (some ⟨db, 0, none⟩) 6 dc) ∧ v.cell? ⟨db, k, none⟩ = some (.slice (some ⟨L k, 0, none⟩) 512 (LC k)))
              (first
                | exact RD.out _ (Below.refl _ _)
                | exact RD.out _ (by assumption)
                | exact RD.out _ (Below.drew (by assumption))
                | exact RD.out _ (Below.drew (Below.refl _ _))
                | exact RD.out _ (And.left (by assumption)))
              (first
                | (go_at_call 15; refine (ScanB.of_calls cc ee ff A6 N p6 _).mono ?_; rintro e w7 ⟨rfl, hb7⟩; have hn7 : Below V.heap.size V w7 := Own.keeps (And.left (by assumption)) hb7; clear hb7)
                | (go_at_call 16; refine (RF.out _ (And.left (by assumption))).mono ?_; intro e w9 hm9; obtain ⟨A9, p9, rfl, hf9, hb9⟩ := SecE.named hm9 HNN.out; have hn9 : Below V.heap.size V w9 := Own.keeps (And.left (by assumption)) hb9; have HF9 := Lib.hid hf9; clear hm9 hb9 hf9)
                | (go_at_call 14; refine (samesector_calls cc ee ff A6 A9 N p6 p9 LL _ hfl (HF7.out.below (And.left (by assumption))) (by first | exact HF9.out | exact HF9.out.below (by assumption) | (refine HF9.out.below ?_; rename_i hq; exact hq)) HRF.out).mono ?_; rintro e w10 ⟨rfl, hb10⟩; have hn10 : Below V.heap.size V w10 := Own.keeps (And.left (by assumption)) hb10; clear hb10))
            all_goals
              refine NoPanic.normal ?_
              have HN10 := Lib.hid (Own.keeps HBV.out hn10)
              go_wp2_with fail
              go_roundw
              case rel => exact ⟨k + 1, by omega, by go_num, HN10.out⟩
              case measure => simp [intOf]; omega
          · obtain rfl : k = 6 := by omega
            have AN := Lib.hid (fun w => all_nil w)
            go_wp2_with fail
            refine (AN.out _).mono ?_
            rintro e w' ⟨rfl, rfl⟩
            go_wp2_with fail
            refine (FX8.out _ HBL.out).mono ?_
            rintro e w9 ⟨rfl, hb9⟩
            have HB9 := Lib.hid (Own.keeps HB8.out (Own.keeps HBL.out hb9))
            clear hb9
            go_wp2_with fail
            go_ret
            exact ⟨rfl, HB9.out⟩
end Go.Proofs.YthbafcihmcjchaaGreatDoor.ScanAw

/- The walks of layer 6's chapter's example, and of the laws RecFrames, RecClass, RecPuts. -/
namespace Go.Proofs.YthbafcihmcjchaaGreatDoor.RecF
set_option linter.unusedVariables false
set_option linter.unusedSimpArgs false
open Go.RowKit
open Go.Proofs.YthbafcihmcjchaaGreatDoor.Byte Go.Proofs.YthbafcihmcjchaaGreatDoor.PackM Go.Proofs.YthbafcihmcjchaaGreatDoor.PackV Go.Proofs.YthbafcihmcjchaaGreatDoor.RecM Go.Proofs.YthbafcihmcjchaaGreatDoor.RecW Go.Proofs.YthbafcihmcjchaaGreatDoor.RecP Go.Proofs.YthbafcihmcjchaaGreatDoor.RecX

theorem slice_front {g n cap h : Nat} (w : World) (h0 : 0 < cap) (hc : h ≤ cap) : (Instr.sliceAt 38 (.slice (some ⟨g, 0, none⟩) n cap) none (some (.int .i64 h)) none).run Tryz.prog w = .ok (.slice (some ⟨g, 0, none⟩) h cap) w := by
  have hs : (sizeOf (Tryz.prog.elem 38)).run Tryz.prog w = .ok 1 w := by kernel_rfl
  have hT : Tryz.prog.underlying 38 = some (.slice (Tryz.prog.elem 38)) := by kernel_rfl
  have r := run_slice_h (P := Tryz.prog) (w := w) 38 (some ⟨g, 0, none⟩) n cap hT .i64 h (by omega) (by omega)
  rw [hs] at r
  rw [run_sliceAt_slice (h := hT), r]
  show Result.ok _ w = _
  unfold sliced
  have e : ¬ cap = 0 := by omega
  simp [Addr.add, e]
theorem conv_of {w : World} {A : Option Addr} {n c : Nat} {xs : List Int} {t : ByteArray} (h : Bs w A n xs) (ht : str xs = t) : (convert 38 9 (.slice A n c)).run Tryz.prog w = .ok (.string t) w := by
  subst ht
  exact h.str_ (P := Tryz.prog) 38 9 Tryz.underlying38 Tryz.underlying5 Tryz.underlying9
theorem frame_a : (frame 127 [97]).length = 9 ∧ str ((frame 127 [97]).take 3) = ⟨#[127, 0, 1]⟩ ∧ (frame 127 [97]).getD 7 0 = 97 ∧ (frame 127 [97]).getD 8 0 = 0 := by
  refine ⟨frame_len _ _, by rfl, by rfl, by rfl⟩
end Go.Proofs.YthbafcihmcjchaaGreatDoor.RecF

/- Layer 8's law's bytes, without parts, and its fixed. -/
namespace Go.Proofs.YthbafcihmcjchaaGreatDoor.ScanX
set_option linter.unusedVariables false
set_option linter.unusedSimpArgs false
open Go.RowKit
open Go.Proofs.YthbafcihmcjchaaGreatDoor.Byte Go.Proofs.YthbafcihmcjchaaGreatDoor.RecM Go.Proofs.YthbafcihmcjchaaGreatDoor.RecF Go.Proofs.YthbafcihmcjchaaGreatDoor.HeadM Go.Proofs.YthbafcihmcjchaaGreatDoor.ScanM Go.Proofs.YthbafcihmcjchaaGreatDoor.ScanO Go.Proofs.YthbafcihmcjchaaGreatDoor.ScanB Go.Proofs.YthbafcihmcjchaaGreatDoor.Own

theorem info8 : (Tryz.prog.info? 5).map (fun i => (i.zero, i.size, i.bytes)) = some (some (.int .u8 0), 1, 1) := by kernel_rfl
theorem wpList_append_str_nil {w : World} {P : Program} {ops : Array Oper} {rest : List Oper} {o : Oper} {a : Act} {Q : Exit → Act → World → Prop} (hgd : o.guard = none) (s x : Operand) (t u : TypeId)
    (ho : o.op = .call { callee := .builtin .append, args := #[s, x], argTypes := #[t, u] })
    (base : Nat) (e : TypeId) (ht : P.underlying t = some (.slice e)) (hu : P.underlying u = some .string) (hinfo : (P.info? e).map (fun i => (i.zero, i.size, i.bytes)) = some (some (.int .u8 0), 1, 1))
    (hs : a.eval s = .slice none 0 0) (y : ByteArray) (hx : a.eval x = .string y) (N : Nat) (hN : y.size = N) (h0 : 0 < N) (h63 : N ≤ 140737488355328) (hbase : base ≤ w.heap.size)
    (h : ∀ g' cap' w', Ob w' base e g' N cap' (txt y) → w.grownBy w' none → wpList P ops Q rest (a.put o.dst (.slice (some ⟨g', 0, none⟩) N cap')) w') :
    wpList P ops Q (o :: rest) a w := by
  subst hN
  obtain ⟨i, hi, hz0, hz1, hz2⟩ := info_parts hinfo
  refine Lib.wpList_append_own_string w hgd s x t u ho base e i ht hu hi hz0 hz1 hz2 _ 0 [] hs (World.ownsRow_nil _ _ _ _) y hx (by simp only [maxLen]; omega) (by omega) hbase ?_
  intro v' w' hown' hg hnil
  rw [Nat.zero_add] at hown'
  obtain ⟨g', cap', rfl⟩ : ∃ g' cap', v' = .slice (some ⟨g', 0, none⟩) y.size cap' := by
    rcases hown'.2 with ⟨rfl, h1⟩ | ⟨g', cap', _, rfl, _⟩
    · omega
    · exact ⟨g', cap', rfl⟩
  exact h g' cap' w' ⟨txt_len y, txt_bd y, by rw [← strCells_txt]; simpa using hown'⟩ hg
/-- A head, and 255 behind it, as far as it stands. -/
def hdz (n : Int) (z j : Nat) : List Int := hd n z ++ List.replicate (j - 8) 255
theorem hdz_len (n : Int) (z j : Nat) (h : 8 ≤ j) : (hdz n z j).length = j := by unfold hdz; rw [List.length_append, hd_len, List.length_replicate]; omega
theorem hdz_next (n : Int) (z j : Nat) (h : 8 ≤ j) : hdz n z j ++ [255] = hdz n z (j + 1) := by unfold hdz; rw [List.append_assoc, show j + 1 - 8 = (j - 8) + 1 by omega, List.replicate_succ']
def lenOf (v : Value) : Nat := match v with | .slice _ n _ => n | _ => 0
set_option maxRecDepth 100000 in
set_option maxHeartbeats 2000000 in
theorem bytes_calls (n : Int) (z : Nat) (w : World) (hm : MayM.may n z = true) : Calls Tryz.prog 44 #[.agg #[.int .i64 n, .int .i64 z], .bool true, .slice none 0 0] w fun e w' => ∃ g cap, e = .returned (.slice (some ⟨g, 0, none⟩) z cap) ∧ z ≤ cap ∧ Bs w' (some ⟨g, 0, none⟩) z (hdz n z z) ∧ Below w.heap.size w w' := by
  have hz := MayM.may_yes hm
  have RO := Lib.hid (fun w => HeadR.refof_calls n z w)
  obtain ⟨y, hy⟩ : ∃ y, str (hd n z) = y := ⟨_, rfl⟩
  rw [hy] at RO
  have hyl : y.size = 8 := by rw [← hy, str_size, hd_len]
  have HYL := Lib.hid hyl
  have HY : Hid (txt y = hdz n z 8) := Lib.hid (by rw [← hy, txt_str _ (hd_bd n z)]; unfold hdz; simp)
  clear hm hy hyl
  obtain ⟨W, hW⟩ : ∃ W, w.alloc (.cells #[.int .i64 n, .int .i64 z] 28) = W := ⟨_, rfl⟩
  have hbW : Below w.heap.size w W := by rw [← hW]; exact (Below.refl _ _).alloc (Nat.le_refl _) _
  have hA : Blk W w.heap.size #[.int .i64 n, .int .i64 z] 28 := by rw [← hW]; exact Blk.new_ _ _ _
  have HA := Lib.hid hA
  have HBW := Lib.hid hbW
  have HW := Lib.hid hW
  have hAl := hA.lt
  clear hW hbW hA
  go_enter Tryz.func44, Tryz.ntmps44
  go_wp2_with fail
  rw [HW.out]
  refine (RO.out _).mono ?_
  rintro e w1 ⟨rfl, hb1⟩
  have HA1 := Lib.hid (HA.out.below hb1)
  have HB1 := Lib.hid (keeps HBW.out hb1)
  have hz1 := hb1.size
  clear hb1
  go_wp2_with ((with_reducible refine pick (some 16) ?_); refine wpList_append_str_nil rfl _ _ _ _ rfl (w.heap.size + 1) 5 Tryz.underlying38 Tryz.underlying9 info8 rfl y rfl 8 HYL.out (by omega) (by omega) (by omega) ?_; intro g2 cap2 w2 ho2 hg2)
  have HA2 : Hid (Blk w2 w.heap.size #[.int .i64 n, .int .i64 z] 28) := Lib.hid (blk_grown HA1.out hg2 (by simp))
  have hb2 : Below w.heap.size w w2 := HB1.out.grown hg2 HB1.out.size (by intro k hk; cases hk)
  have HB2 := Lib.hid hb2
  rw [HY.out] at ho2
  have HO2 := Lib.hid ho2
  clear ho2 hg2 hb2
  go_wp2_with fail
  go_loopw [7, 19] (fun u i wr => u = .slice (some ⟨g2, 0, none⟩) 8 cap2 ∧ i = .int .i64 0 ∧ w2 = wr) (fun _ _ _ => 0)
  case atStart => exact ⟨rfl, rfl, rfl⟩
  case round =>
    obtain ⟨rfl, rfl, rfl⟩ := hrel
    go_wp2_with fail
    go_loopw [7] (fun u wr => ∃ (j g cap : Nat), 8 ≤ j ∧ j ≤ z ∧ u = .slice (some ⟨g, 0, none⟩) j cap ∧ Ob wr (w.heap.size + 1) 5 g j cap (hdz n z j) ∧ Blk wr w.heap.size #[.int .i64 n, .int .i64 z] 28 ∧ Below w.heap.size w wr) (fun u _ => z - lenOf u)
    case atStart => exact ⟨8, g2, cap2, Nat.le_refl _, by omega, rfl, HO2.out, HA2.out, HB2.out⟩
    case round =>
      obtain ⟨j, g, cap, hj8, hj, rfl, ho, hbk, hbel⟩ := hrel
      have HO := Lib.hid ho
      have HK := Lib.hid hbk
      have HBL := Lib.hid hbel
      have k1 : wr.cell? ⟨w.heap.size, 1, none⟩ = some (.int .i64 z) := hbk.cell 1
      have hkl := hbk.lt
      have hpl := ho.place
      have hcap := ho.capLe
      clear ho hbk hbel
      by_cases hlt : j < z
      · have d : decide ((j : Int) < (z : Int)) = true := by simp; omega
        go_wp2_with ((with_reducible refine pick (some 54) ?_); refine wpList_append_bytes rfl _ _ _ rfl (w.heap.size + 1) 5 Tryz.underlying38 info8 g j cap (hdz n z j) rfl (HO.out.below ((Below.refl _ _).alloc (Nat.le_refl _) (.cells #[.int .u8 255] 5))) (some ⟨wr.heap.size, 0, none⟩) 1 1 [255] rfl (RingB.bs_one wr 255 (by omega) (by omega) (0, 0)) (fun e => by cases e) (j + 1) rfl _ (hdz_next n z j hj8) (by omega) (by have := HBL.out.size; simp; omega) ?_; intro g3 cap3 w3 ho3 hg3 _)
        have hb3 : Below w.heap.size w w3 := (HBL.out.alloc HBL.out.size _).grown hg3 (by have := HBL.out.size; simp; omega) (by intro k hk; injection hk with hk; omega)
        have hk3 := blk_grown (HK.out.alloc _) hg3 (by simp; omega)
        have HO3 := Lib.hid ho3
        have HB3 := Lib.hid hb3
        have HK3 := Lib.hid hk3
        clear ho3 hb3 hk3 hg3
        go_roundw
        case rel => exact ⟨j + 1, g3, cap3, by omega, by omega, rfl, HO3.out, HK3.out, HB3.out⟩
        case measure => simp [lenOf]; omega
      · obtain rfl : j = z := by omega
        have d : decide ((j : Int) < (j : Int)) = false := by simp
        have sf := slice_front (n := j) (g := g) (cap := cap) (h := j) wr (by omega) hcap
        go_wp2_with fail
        go_ret
        exact ⟨g, cap, rfl, hcap, HO.out.bs, HBL.out⟩
end Go.Proofs.YthbafcihmcjchaaGreatDoor.ScanX

/- Layer 8's example: the law's fixed, over the project's Of and Next. -/
namespace Go.Proofs.YthbafcihmcjchaaGreatDoor.ScanY
set_option linter.unusedVariables false
set_option linter.unusedSimpArgs false
open Go.RowKit
open Go.Proofs.YthbafcihmcjchaaGreatDoor.Byte Go.Proofs.YthbafcihmcjchaaGreatDoor.RecM Go.Proofs.YthbafcihmcjchaaGreatDoor.HeadM Go.Proofs.YthbafcihmcjchaaGreatDoor.RingK Go.Proofs.YthbafcihmcjchaaGreatDoor.ScanM Go.Proofs.YthbafcihmcjchaaGreatDoor.ScanO Go.Proofs.YthbafcihmcjchaaGreatDoor.ScanB Go.Proofs.YthbafcihmcjchaaGreatDoor.ScanX Go.Proofs.YthbafcihmcjchaaGreatDoor.Own

theorem hdz_sec (n : Int) (z : Nat) (k : Int) (hm : MayM.may n z = true) : cl n z (hdz n z z) = 1 ∧ en n z (hdz n z z) k = 8 ∧ fu n z (hdz n z z) k = false ∧ fo n z (hdz n z z) k = [] := by
  have hz := MayM.may_yes hm
  have hl := hdz_len n z z (by omega)
  have h1 : cl n z (hdz n z z) = 1 := by
    unfold cl
    rw [HeadR.cls_in hm (by rw [hl]), if_pos]
    unfold hdz
    exact List.take_left' (hd_len n z)
  have hb : RecM.blank (hdz n z z) 8 = true := by
    unfold RecM.blank hdz
    rw [List.drop_left' (hd_len n z), List.all_eq_true]
    intro y hy
    rw [List.eq_of_mem_replicate hy]
    rfl
  have h0 := (c_blank (xs := hdz n z z) (a := 8) (by omega) hb).1
  have ho : on (hdz n z z) 8 = false := by unfold on; rw [h0]; rfl
  have hs := sc_off (k := k) ho
  rw [h0] at hs
  have hd8 : decide (8 = (hdz n z z).length) = false := by rw [decide_eq_false_iff_not, hl]; omega
  rw [hd8] at hs
  unfold en fu fo
  rw [h1, if_pos rfl, if_pos rfl, if_pos rfl, hs]
  exact ⟨rfl, rfl, rfl, rfl⟩
theorem may_6 : MayM.may 6 ((512 : Nat) : Int) = true := by decide
set_option maxRecDepth 100000 in
set_option maxHeartbeats 4000000 in
theorem fixed_calls (hO : OfOk) (hX : NextOk) : FixedOk := by
  intro w hE hN
  have NX := Lib.hid hX
  have BY := Lib.hid (fun w => bytes_calls 6 512 w may_6)
  have OF : Hid (∀ (g cap : Nat) (v : World), 512 ≤ cap → Bs v (some ⟨g, 0, none⟩) 512 (hdz 6 512 512) → Below w.heap.size w v → Calls Tryz.prog 43 #[.agg #[.int .i64 6, .int .i64 512], .int .i64 3, .slice (some ⟨g, 0, none⟩) 512 cap] v fun e v' => ∃ A p, e = .returned (.agg #[.int .i64 1, .int .i64 8, .bool false, .slice A 0 p]) ∧ Below v.heap.size v v') := Lib.hid (by
    intro g cap v hc hb hv
    have h := hO 6 512 (some ⟨g, 0, none⟩) 512 cap 3 (hdz 6 512 512) v hb hc (by omega) (by omega) (hN.below hv)
    obtain ⟨p1, p2, p3, p4⟩ := hdz_sec 6 512 ((3 : Nat) : Int) may_6
    refine h.mono ?_
    intro e v' hs
    have hs2 : SecE 1 8 false [] v e v' := by
      have e1 : cl 6 512 (hdz 6 512 512) = 1 := p1
      have e2 : en 6 512 (hdz 6 512 512) ((3 : Nat) : Int) = 8 := p2
      have e3 : fu 6 512 (hdz 6 512 512) ((3 : Nat) : Int) = false := p3
      have e4 : fo 6 512 (hdz 6 512 512) ((3 : Nat) : Int) = [] := p4
      rw [e1, e2, e3, e4] at hs
      exact hs
    obtain ⟨A, p, q1, _, q3⟩ := SecE.at_ hs2
    exact ⟨A, p, q1, q3⟩)
  have x0 := hE.2.1
  have x1 := hE.2.2
  have hxl := hE.1
  have hx6 := hE.below ((Below.refl w.heap.size w).alloc (Nat.le_refl _) (.cells #[.int .i64 0, .int .i64 0, .bool false, .slice none 0 0] 52))
  have x6 := hx6.2.1
  have x7 := hx6.2.2
  clear hx6
  have HXE := Lib.hid (fun v (hv : Below w.heap.size w v) => hE.below hv)
  clear hE hN hO hX
  go_enter Tryz.func13, Tryz.ntmps13
  go_wp2_with fail
  go_region_law (first
    | (go_simp; go_at_call 44; refine (BY.out _).mono ?_; rintro e w2 ⟨g2, cap2, rfl, hc2, hbs2, hb2⟩; have hw2 : Below w.heap.size w w2 := (by first | exact hb2 | exact keeps ((Below.refl _ _).drew) hb2 | exact keeps (((Below.refl _ _).alloc (Nat.le_refl _) _).drew) hb2 | exact keeps ((Below.refl _ _).drew.alloc (by simp) _) hb2); have hx2 := HXE.out w2 hw2; have x2 := hx2.2.1; have x3 := hx2.2.2; have hx4 := hx2.below ((Below.refl w2.heap.size w2).alloc (Nat.le_refl _) (.cells #[.int .i64 0, .int .i64 0, .bool false, .slice none 0 0] 52)); have x4 := hx4.2.1; have x5 := hx4.2.2; clear hx2 hx4)
    | (go_simp; go_at_call 43; refine (OF.out g2 cap2 _ hc2 (by first | exact hbs2 | exact hbs2.below ((Below.refl _ _).alloc (Nat.le_refl _) _)) (by first | exact hw2 | exact hw2.alloc hw2.size _)).mono ?_; rintro e w3 ⟨A3, p3, rfl, hb3⟩; have hw3 : Below w.heap.size w w3 := (by first | exact keeps hw2 hb3 | exact keeps (hw2.alloc hw2.size _) hb3); have hz3 : Blk w3 w2.heap.size #[.int .i64 0, .int .i64 0, .bool false, .slice none 0 0] 52 := (Blk.new_ w2 _ _).below hb3; have c0 : w3.cell? ⟨w2.heap.size, 0, none⟩ = some (.int .i64 0) := hz3.cell 0; have f0 : w3.frozen? ⟨w2.heap.size, 0, none⟩ = false := hz3.frozen 0; have c1 : w3.cell? ⟨w2.heap.size, 1, none⟩ = some (.int .i64 0) := hz3.cell 1; have f1 : w3.frozen? ⟨w2.heap.size, 1, none⟩ = false := hz3.frozen 1; have c2 : w3.cell? ⟨w2.heap.size, 2, none⟩ = some (.bool false) := hz3.cell 2; have f2 : w3.frozen? ⟨w2.heap.size, 2, none⟩ = false := hz3.frozen 2; have c3 : w3.cell? ⟨w2.heap.size, 3, none⟩ = some (.slice none 0 0) := hz3.cell 3; have f3 : w3.frozen? ⟨w2.heap.size, 3, none⟩ = false := hz3.frozen 3)
    | (go_simp; go_at_call 43; refine (OF.out g2 cap2 _ hc2 (by first | exact hbs2 | exact hbs2.below ((Below.refl _ _).alloc (Nat.le_refl _) _)) (by first | exact hw2 | exact hw2.alloc hw2.size _)).mono ?_; rintro e w3 ⟨A3, p3, rfl, hb3⟩; have hw3 : Below w.heap.size w w3 := (by first | exact keeps hw2 hb3 | exact keeps (hw2.alloc hw2.size _) hb3); have hz3 : Blk w3 w.heap.size #[.int .i64 0, .int .i64 0, .bool false, .slice none 0 0] 52 := (by first | exact ((Blk.new_ w _ _).drew.below hb2).below hb3 | exact ((Blk.new_ w.drew _ _).below hb2).below hb3); have c0 : w3.cell? ⟨w.heap.size, 0, none⟩ = some (.int .i64 0) := hz3.cell 0; have f0 : w3.frozen? ⟨w.heap.size, 0, none⟩ = false := hz3.frozen 0; have c1 : w3.cell? ⟨w.heap.size, 1, none⟩ = some (.int .i64 0) := hz3.cell 1; have f1 : w3.frozen? ⟨w.heap.size, 1, none⟩ = false := hz3.frozen 1; have c2 : w3.cell? ⟨w.heap.size, 2, none⟩ = some (.bool false) := hz3.cell 2; have f2 : w3.frozen? ⟨w.heap.size, 2, none⟩ = false := hz3.frozen 2; have c3 : w3.cell? ⟨w.heap.size, 3, none⟩ = some (.slice none 0 0) := hz3.cell 3; have f3 : w3.frozen? ⟨w.heap.size, 3, none⟩ = false := hz3.frozen 3)
    | (go_simp; go_at_call 43; refine (OF.out g2 cap2 _ hc2 (by first | exact hbs2 | exact hbs2.below ((Below.refl _ _).alloc (Nat.le_refl _) _)) (by first | exact hw2 | exact hw2.alloc hw2.size _)).mono ?_; rintro e w3 ⟨A3, p3, rfl, hb3⟩; have hw3 : Below w.heap.size w w3 := (by first | exact keeps hw2 hb3 | exact keeps (hw2.alloc hw2.size _) hb3)))
  all_goals
    have hs2 := hw2.size
    go_wp2_with (go_at_call 45; refine (NX.out _).mono ?_; rintro e w4 ⟨rfl, hb4⟩; have hn4 : Below w.heap.size w w4 := keeps (by first | exact hw3.alloc hw3.size _ | exact ((((hw3.setCell (p := ⟨_, 0, none⟩) (by first | exact Nat.le_refl _ | exact hs2) _).setCell (p := ⟨_, 1, none⟩) (by first | exact Nat.le_refl _ | exact hs2) _).setCell (p := ⟨_, 2, none⟩) (by first | exact Nat.le_refl _ | exact hs2) _).setCell (p := ⟨_, 3, none⟩) (by first | exact Nat.le_refl _ | exact hs2) _)) hb4)
    go_ret
    exact ⟨rfl, hn4⟩
end Go.Proofs.YthbafcihmcjchaaGreatDoor.ScanY

/- What the row's condition on the package's variables 'nowhere' and 'example' gives the walk. -/
namespace Go.Proofs.YthbafcihmcjchaaGreatDoor.ScanG
open Go.ChangeShapes Go.WideShapes Go.RowKit

theorem gNo : Tryz.prog.globalNamed "flint/place.nowhere" = some 3 := by kernel_rfl
theorem tNo : (Tryz.prog.globals[3]?).map (·.type) = some 158 := by kernel_rfl
theorem gEx : Tryz.prog.globalNamed "flint/flintlaw08.example" = some 0 := by kernel_rfl
theorem tEx : (Tryz.prog.globals[0]?).map (·.type) = some 28 := by kernel_rfl
theorem c1 : Tryz.prog.cellsOf 5 = 1 := by kernel_rfl
theorem cInt : Tryz.prog.cellsOf 3 = 1 := by kernel_rfl
theorem of_laid {W : World} (h : laidMetH Tryz.prog [("flint/place.nowhere", Rows.laid_flint_place_nowhere), ("flint/flintlaw08.example", Rows.laid_flint_flintlaw08_example)] W) : ScanB.Example W ∧ PlaceH.Nowhere W := by
  rw [MakeChecks.laidMetH_plain _ _ _ (by kernel_rfl)] at h
  obtain ⟨ps, ⟨g0, t0, cs0, f0, p0, q0, hg0, ht0, hv0, hd0, ⟨g1, t1, cs1, f1, p1, q1, hg1, ht1, hv1, hd1, _, _⟩, _⟩, _, _⟩ := h
  obtain rfl := Option.some.inj (gNo.symm.trans hg0)
  obtain rfl := Option.some.inj (tNo.symm.trans ht0)
  obtain rfl := Option.some.inj (gEx.symm.trans hg1)
  obtain rfl := Option.some.inj (tEx.symm.trans ht1)
  constructor
  · obtain ⟨y0, y1, n, hx1, hl, e0, e1⟩ := trod_struct2 Tryz.underlying28 hd1
    simp only [Prod.mk.injEq] at hx1
    have one : ∀ (o : Nat) (y : DataW Unit × List MemPlace) (z : Int), DataW.trod (fun _ => ()) Tryz.prog W 0 (fun _ => true) false n 3 ((cs1.toList.drop o).take (Tryz.prog.cellsOf 3)) = some y → y.1 = .lit (.int .i64 z) → W.cell? ⟨0, o, none⟩ = some (.int .i64 z) := by
      intro o y z hy hz
      obtain ⟨k, a1, a2, _⟩ := DataW.trod_int Tryz.underlying3 hy
      rw [cInt] at a1
      have hcell : cs1.toList[o]? = some (.int .i64 k) := by
        have := congrArg (fun l => l[0]?) a1
        simpa [List.getElem?_take, List.getElem?_drop] using this
      have hk : k = z := by
        rw [a2] at hz
        simpa using hz
      subst hk
      have := World.var?_cell hg1 hv1 o
      rw [this]
      simpa using hcell
    have hm := hx1.1
    simp only [Rows.laid_flint_flintlaw08_example, DataW.agg.injEq, List.cons.injEq, and_true] at hm
    have k0 := one 0 y0 6 e0 hm.1.symm
    exact ⟨World.block_lt_of_cell? W ⟨0, 0, none⟩ k0, k0, one 1 y1 512 e1 hm.2.symm⟩
  · obtain ⟨xs, m1, rfl, hx1, hlen, hn3, hel⟩ := DataW.trod_array Tryz.underlying158 hd0
    simp only [Prod.mk.injEq] at hx1
    have key : ∀ i, i < 3 → W.cell? ⟨3, i, none⟩ = some (.int .u8 255) := by
      intro i hi
      have hi' : i < xs.length := by omega
      have h0 := hel i hi
      rw [List.getElem?_eq_getElem hi'] at h0
      obtain ⟨k, e1, e2, _⟩ := DataW.trod_int Tryz.underlying5 h0
      rw [c1, Nat.mul_one] at e1
      have hcell : cs0.toList[i]? = some (.int .u8 k) := by
        have := congrArg (fun l => l[0]?) e1
        simpa [List.getElem?_take, List.getElem?_drop] using this
      have hk : k = 255 := by
        have hm := congrArg (fun d => match d with | DataW.agg l => l[i]? | _ => none) hx1.1
        simp only [Rows.laid_flint_place_nowhere, List.getElem?_map, List.getElem?_eq_getElem hi', e2, Option.map_some] at hm
        have : i = 0 ∨ i = 1 ∨ i = 2 := by omega
        rcases this with rfl | rfl | rfl <;> simpa using hm.symm
      subst hk
      have := World.var?_cell hg0 hv0 i
      rw [this]
      simpa using hcell
    exact ⟨World.block_lt_of_cell? W ⟨3, 0, none⟩ (key 0 (by omega)), key 0 (by omega), key 1 (by omega), key 2 (by omega)⟩
end Go.Proofs.YthbafcihmcjchaaGreatDoor.ScanG

/- The operations that came in, as the walks want them: out of the reading of a slice of structs one of whose fields is a slice of bytes. -/
namespace Go.Proofs.YthbafcihmcjchaaGreatDoor.NorOp
set_option linter.unusedVariables false
open Go.RowKit Go.Maps Go.ChangeShapes Go.Deep
open Go.Proofs.YthbafcihmcjchaaGreatDoor.Byte Go.Proofs.YthbafcihmcjchaaGreatDoor.NorK Go.Proofs.YthbafcihmcjchaaGreatDoor.NorPl

instance : Inhabited Opr := ⟨⟨0, 0, 0, none, 0, 0, 0, 0, 0⟩⟩
/-- What is told of one operation's bytes and numbers. -/
def Good (w : World) (o : Opr) : Prop := (∃ bs, Bs w o.B o.bl bs) ∧ (o.B = none → o.bc = 0) ∧
  -9223372036854775808 ≤ o.n ∧ o.n ≤ 9223372036854775807 ∧ o.k ≤ 9223372036854775807 ∧ 0 ≤ o.mask ∧ o.mask ≤ 255
section
variable {H : Type} {enc : TypeId × Value → H} {w : World} {base fuel : Nat}
theorem take_at (cs : List Value) (i : Nat) (h : i < cs.length) : (cs.drop i).take 1 = [cs[i]] := by
  rw [List.drop_eq_getElem_cons h]
  rfl
theorem int_of {cs : List Value} {x : DataW H × List MemPlace} (h : DataW.trod enc Tryz.prog w base (fun _ => true) true fuel 3 cs = some x) : ∃ n, cs = [.int .i64 n] ∧ -9223372036854775808 ≤ n ∧ n ≤ 9223372036854775807 := by
  obtain ⟨n, h1, _, h2⟩ := DataW.trod_int Tryz.underlying3 h
  have := bounds_i64 h2
  exact ⟨n, h1, this.1, this.2⟩
theorem byte_of {cs : List Value} {x : DataW H × List MemPlace} (h : DataW.trod enc Tryz.prog w base (fun _ => true) true fuel 5 cs = some x) : ∃ n, cs = [.int .u8 n] ∧ 0 ≤ n ∧ n ≤ 255 := by
  obtain ⟨n, h1, _, h2⟩ := DataW.trod_int Tryz.underlying5 h
  have := bounds_u8 h2
  exact ⟨n, h1, this.1, this.2⟩
theorem bytes_of {cs : List Value} {x : DataW H × List MemPlace} (h : DataW.trod enc Tryz.prog w base (fun _ => true) true fuel 38 cs = some x) : ∃ A len cap, cs = [.slice A len cap] ∧ (∃ bs, Bs w A len bs) ∧ (A = none → cap = 0) := by
  rcases open_ints Tryz.underlying38 Tryz.underlying5 (by kernel_rfl) h with ⟨hcs, _⟩ | ⟨a, l, c, zs, hcs, _, hl, hm, hz, _, hcell, hwz⟩
  · exact ⟨none, 0, 0, hcs, ⟨[], Bs.nil_ _ _⟩, fun _ => rfl⟩
  · have := Bs.of_row (w := w) (a := some a) (len := l) (cap := c) (zs := zs) (.inr ⟨a, rfl, hl, hm, by simpa using hz, hcell, hwz⟩)
    exact ⟨some a, l, c, hcs, ⟨_, this.1⟩, this.2.2⟩
theorem seven {α : Type} {l : List α} (h : l.length = 7) : ∃ a b c d e f g, l = [a, b, c, d, e, f, g] := by
  match l, h with
  | [a, b, c, d, e, f, g], _ => exact ⟨a, b, c, d, e, f, g, rfl⟩
theorem op_of {cs : List Value} {x : DataW H × List MemPlace} (h : DataW.trod enc Tryz.prog w base (fun _ => true) true fuel 43 cs = some x) : ∃ o : Opr, cs = o.cells.toList ∧ Good w o := by
  obtain ⟨xs, n, _, _, hlen, hxl, hg⟩ := DataW.trod_struct Tryz.underlying43 h
  have h7 : Tryz.prog.cellsOf 43 = 7 := by kernel_rfl
  have hi : Tryz.prog.cellsOf 3 = 1 := by kernel_rfl
  have hb : Tryz.prog.cellsOf 5 = 1 := by kernel_rfl
  have hs : Tryz.prog.cellsOf 38 = 1 := by kernel_rfl
  rw [h7] at hlen
  have hxl : xs.length = 7 := hxl
  obtain ⟨c0, c1, c2, c3, c4, c5, c6, rfl⟩ := seven hlen
  · clear hlen
    have g0 : DataW.trod enc Tryz.prog w base (fun _ => true) true n 3 (([c0, c1, c2, c3, c4, c5, c6].drop 0).take (Tryz.prog.cellsOf 3)) = xs[0]? := hg 0 _ rfl
    have g1 : DataW.trod enc Tryz.prog w base (fun _ => true) true n 3 (([c0, c1, c2, c3, c4, c5, c6].drop 1).take (Tryz.prog.cellsOf 3)) = xs[1]? := hg 1 _ rfl
    have g2 : DataW.trod enc Tryz.prog w base (fun _ => true) true n 3 (([c0, c1, c2, c3, c4, c5, c6].drop 2).take (Tryz.prog.cellsOf 3)) = xs[2]? := hg 2 _ rfl
    have g3 : DataW.trod enc Tryz.prog w base (fun _ => true) true n 38 (([c0, c1, c2, c3, c4, c5, c6].drop 3).take (Tryz.prog.cellsOf 38)) = xs[3]? := hg 3 _ rfl
    have g4 : DataW.trod enc Tryz.prog w base (fun _ => true) true n 3 (([c0, c1, c2, c3, c4, c5, c6].drop 4).take (Tryz.prog.cellsOf 3)) = xs[4]? := hg 4 _ rfl
    have g5 : DataW.trod enc Tryz.prog w base (fun _ => true) true n 3 (([c0, c1, c2, c3, c4, c5, c6].drop 5).take (Tryz.prog.cellsOf 3)) = xs[5]? := hg 5 _ rfl
    have g6 : DataW.trod enc Tryz.prog w base (fun _ => true) true n 5 (([c0, c1, c2, c3, c4, c5, c6].drop 6).take (Tryz.prog.cellsOf 5)) = xs[6]? := hg 6 _ rfl
    rw [hi, List.getElem?_eq_getElem (by omega)] at g0 g1 g2 g4 g5
    rw [hs, List.getElem?_eq_getElem (by omega)] at g3
    rw [hb, List.getElem?_eq_getElem (by omega)] at g6
    obtain ⟨n0, e0, _⟩ := int_of g0
    obtain ⟨n1, e1, _⟩ := int_of g1
    obtain ⟨n2, e2, _⟩ := int_of g2
    obtain ⟨A, l, c, e3, k3, k3'⟩ := bytes_of g3
    obtain ⟨n4, e4, k4, k4'⟩ := int_of g4
    obtain ⟨n5, e5, k5, k5'⟩ := int_of g5
    obtain ⟨n6, e6, k6, k6'⟩ := byte_of g6
    simp at e0 e1 e2 e3 e4 e5 e6
    subst e0 e1 e2 e3 e4 e5 e6
    exact ⟨⟨n0, n1, n2, A, l, c, n4, n5, n6⟩, rfl, k3, k3', k4, k4', k5', k6, k6'⟩
theorem ops_of {cs : List Value} {x : DataW H × List MemPlace} (h : DataW.trod enc Tryz.prog w base (fun _ => true) true fuel 22 cs = some x) :
    ∃ A m c ops, cs = [.slice A m c] ∧ m ≤ c ∧ m ≤ 9223372036854775807 ∧ OpsAt w A m ops ∧ OpsOk w m ops := by
  have h7 : Tryz.prog.cellsOf 43 = 7 := by kernel_rfl
  rcases open_slice Tryz.underlying22 h with ⟨hcs, _⟩ | ⟨a, len, cap, m, n, D, Pl, hcs, _, hl, hm, hmm, _, hx⟩
  · exact ⟨none, 0, 0, fun _ => default, hcs, by omega, by omega, fun j hj => absurd hj (by omega), fun j hj => absurd hj (by omega)⟩
  · have hmc : m = cap := by simpa using hmm
    subst hmc
    obtain ⟨ops, ho⟩ := choose_lt (α := Opr) (n := len) (p := fun i o => (∀ j v, o.cells.toList[j]? = some v → w.cell? (a.add (i * 7 + j)) = some v) ∧ Good w o) (fun i hi => by
      obtain ⟨cs', h1, h2⟩ := hx i (by omega)
      obtain ⟨o, rfl, hg⟩ := op_of h2
      rw [h7] at h1
      obtain ⟨_, _, hc⟩ := World.cells?_some h1
      refine ⟨o, fun j v hv => ?_, hg⟩
      have hj : j < 7 := (List.getElem?_eq_some_iff.1 hv).1
      rw [← Go.Deep.add_add, hc j hj, hv])
    unfold maxLen at hm
    refine ⟨some a, len, m, ops, hcs, hl, by omega, fun j hj => ?_, fun j hj => (ho j hj).2⟩
    obtain ⟨hc, _⟩ := ho j hj
    obtain ⟨b, o, spot⟩ := a
    have h0 := (ho 0 (by omega)).1 0 _ rfl
    have hspot : spot = none := by simpa [Addr.add] using World.cell?_spot h0
    subst hspot
    have hadd : ∀ k, (⟨b, o, none⟩ : Addr).add k = ⟨b, o + k, none⟩ := fun k => by
      unfold Addr.add
      by_cases h0 : k = 0 <;> simp [h0]
    have hb : b < w.heap.size := World.block_lt_of_cell? w (⟨b, o, none⟩ : Addr) (by rw [hadd] at h0; simpa using h0)
    refine ⟨b, o, rfl, hb, fun k v hv => ?_⟩
    have := hc k v hv
    rw [hadd] at this
    rw [Nat.add_assoc]
    exact this
end
end Go.Proofs.YthbafcihmcjchaaGreatDoor.NorOp

/- How an argument that is an array or a struct of plain cells is opened: its cells in their order, each with its form and bounds, out of the outer form alone. -/
namespace Go.Proofs.YthbafcihmcjchaaGreatDoor.Open
open Go.RowKit Go.WideShapes Go.ChangeShapes

def CellsOk (P : Program) (w : World) (r : Reach) (b : Nat) : List TypeId → List Value → Prop
  | [], [] => True
  | t :: ts, v :: vs => Cell.okWide P w r b t v ∧ CellsOk P w r b ts vs
  | _, _ => False
section
variable {P : Program} {w : World} {r : Reach} {b : Nat}
theorem CellsOk.nil_ {cs : List Value} (h : CellsOk P w r b [] cs) : cs = [] := by
  cases cs with
  | nil => rfl
  | cons _ _ => exact h.elim
theorem CellsOk.cons_ {t : TypeId} {ts : List TypeId} {cs : List Value} (h : CellsOk P w r b (t :: ts) cs) : ∃ v vs, cs = v :: vs ∧ Cell.okWide P w r b t v ∧ CellsOk P w r b ts vs := by
  cases cs with
  | nil => exact h.elim
  | cons v vs => exact ⟨v, vs, rfl, h.1, h.2⟩
theorem CellsOk.of {ts : List TypeId} : ∀ {cs : List Value}, cs.length = ts.length → (∀ (i : Nat) v u, cs[i]? = some v → ts[i]? = some u → Cell.okWide P w r b u v) → CellsOk P w r b ts cs := by
  induction ts with
  | nil =>
    intro cs hl _
    cases cs with
    | nil => trivial
    | cons _ _ => simp at hl
  | cons t ts ih =>
    intro cs hl h
    cases cs with
    | nil => simp at hl
    | cons v vs => exact ⟨h 0 v t rfl rfl, ih (by simpa using hl) fun i v' u h1 h2 => h (i + 1) v' u (by simpa using h1) (by simpa using h2)⟩
theorem open_cells {t : TypeId} {ts : List TypeId} {v : Value} (hagg : (match P.underlying t with | some (.struct _) | some (.array _ _) => true | _ => false) = true) (hts : P.cellTypes P.depth t = some ts) (hn : P.cellsOf t = ts.length)
    (h : Value.okWide P w r b t v) : ∃ cs : List Value, v = .agg cs.toArray ∧ CellsOk P w r b ts cs := by
  have key : (∃ cs, v = .agg cs ∧ cs.size = P.cellsOf t ∧ Row.okWide P w r b t cs) := by
    unfold Value.okWide at h
    split at h <;> simp_all
  obtain ⟨cs, rfl, hs, ts', h1, _, h2⟩ := key
  rw [hts] at h1
  injection h1 with h1
  subst h1
  obtain ⟨l⟩ := cs
  refine ⟨l, rfl, CellsOk.of (by rw [← hn, ← hs]; rfl) fun i v u hv hu => ?_⟩
  obtain ⟨u', hu', hok⟩ := h2 i v (by simpa using hv)
  have hi : i < ts.length := by
    rcases Nat.lt_or_ge i ts.length with h | h
    · exact h
    · rw [List.getElem?_eq_none h] at hu; cases hu
  rw [Nat.mod_eq_of_lt hi, hu] at hu'
  injection hu' with hu'
  subst hu'
  exact hok
theorem cell_int {t : TypeId} {k : IntKind} {v : Value} (ht : P.underlying t = some (.int k)) (h : Cell.okWide P w r b t v) : ∃ n, v = .int k n ∧ (Lit.int k n).wf = true := by
  unfold Cell.okWide at h
  rw [ht] at h
  cases v <;> simp [Cell.ok, ht] at h
  rename_i k' n
  obtain ⟨rfl, h1⟩ := h
  refine ⟨n, rfl, ?_⟩
  simpa [Lit.wf, IntKind.has] using h1
theorem cell_slice {t e : TypeId} {v : Value} (ht : P.underlying t = some (.slice e)) (h : Cell.okWide P w r b t v) : ∃ a len cap, v = .slice a len cap := by
  simp only [Cell.okWide, ht] at h
  cases v <;> simp_all [Cell.ok]
theorem cell_bool {t : TypeId} {v : Value} (ht : P.underlying t = some .bool) (h : Cell.okWide P w r b t v) : ∃ x, v = .bool x := by
  unfold Cell.okWide at h
  rw [ht] at h
  cases v <;> simp [Cell.ok, ht] at h
  exact ⟨_, rfl⟩
end
end Go.Proofs.YthbafcihmcjchaaGreatDoor.Open
