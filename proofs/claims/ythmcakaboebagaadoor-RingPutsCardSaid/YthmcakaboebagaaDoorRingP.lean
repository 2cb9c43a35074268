/- The walk of layer 7's law RingPuts, over what the project's functions are asked. -/
import Derived.Test.YthmcakaboebagaaDoorRingW
import Derived.Test.YthmcakaboebagaaDoorRingI
import Derived.Deep.RegionHeld3
import Derived.Deep.RegionHeld
import Derived.WalkSmall
namespace Go.Proofs.YthmcakaboebagaaDoor.RingP
set_option linter.unusedVariables false
set_option linter.unusedSimpArgs false
open Go.RowKit
open Go.Proofs.YthmcakaboebagaaDoor.Byte Go.Proofs.YthmcakaboebagaaDoor.PackM Go.Proofs.YthmcakaboebagaaDoor.PackW Go.Proofs.YthmcakaboebagaaDoor.PlaceM Go.Proofs.YthmcakaboebagaaDoor.PlaceV Go.Proofs.YthmcakaboebagaaDoor.PlaceG Go.Proofs.YthmcakaboebagaaDoor.PlaceH Go.Proofs.YthmcakaboebagaaDoor.RingM Go.Proofs.YthmcakaboebagaaDoor.RingN Go.Proofs.YthmcakaboebagaaDoor.RingR Go.Proofs.YthmcakaboebagaaDoor.RingC Go.Proofs.YthmcakaboebagaaDoor.RingB Go.Proofs.YthmcakaboebagaaDoor.RingG Go.Proofs.YthmcakaboebagaaDoor.RingX Go.Proofs.YthmcakaboebagaaDoor.RingQ Go.Proofs.YthmcakaboebagaaDoor.RingW Go.Proofs.YthmcakaboebagaaDoor.Own

attribute [local go_sem] Own.run_store_complex
set_option maxRecDepth 100000 in
set_option maxHeartbeats 4000000 in
theorem puts_law (hX : FixedOk) (hS : SizeOk) (hM : MayOk) (hG : GetOk) (hP : PutOk) (hQ : PutNo) (seq ver index count a b : Int) (gone : Bool) (key value : ByteArray) (w : World) (hs0 : 0 ≤ seq) (hs1 : seq ≤ 18446744073709551615) (hv0 : 0 ≤ ver) (hv1 : ver ≤ 18446744073709551615) (hk : key.size ≤ maxLen) (hvl : value.size ≤ maxLen) (hN : Nowhere w) :
    Calls Tryd.prog 3 #[.agg #[.int .u64 seq, .int .u64 ver, .int .i64 index, .int .i64 count, .int .u64 a, .int .u64 b, .bool gone, .string key, .string value]] w fun e w' => e = .returned (.bool true) ∧ Below w.heap.size w w' := by
  have HX := Lib.hid hX
  have HN := Lib.hid hN
  have HII := Lib.hid (fun w => RingI.item_calls seq ver index count a b gone key value w)
  have HM := Lib.hid (fun w => hM ⟨seq, ver, index, count, a.toNat, b.toNat, gone, key, value⟩ w hk hvl)
  have HR := Lib.hid (fun w => refmay_calls ⟨seq, ver, index, count, a.toNat, b.toNat, gone, key, value⟩ w hk hvl)
  have HSI := Lib.hid (fun w => hS key value w hk hvl)
  have HSR := Lib.hid (fun w => refsize_calls key value w hk hvl)
  have HA : Hid (Blk (w.alloc (.cells #[.int .u64 seq, .int .u64 ver, .int .i64 index, .int .i64 count, .int .u64 a, .int .u64 b, .bool gone, .string key, .string value] 25)) w.heap.size #[.int .u64 seq, .int .u64 ver, .int .i64 index, .int .i64 count, .int .u64 a, .int .u64 b, .bool gone, .string key, .string value] 25) := Lib.hid (Blk.new_ _ _ _)
  have HW0 : Hid (Below w.heap.size w (w.alloc (.cells #[.int .u64 seq, .int .u64 ver, .int .i64 index, .int .i64 count, .int .u64 a, .int .u64 b, .bool gone, .string key, .string value] 25))) := Lib.hid ((Below.refl _ _).alloc (Nat.le_refl _) _)
  clear hX hN hM hS
  cases hm : may ⟨seq, ver, index, count, a.toNat, b.toNat, gone, key, value⟩ with
  | false =>
    have HQ := Lib.hid (fun w => hQ ⟨seq, ver, index, count, a.toNat, b.toNat, gone, key, value⟩ w hm hk hvl)
    rw [hm] at HM HR
    clear hm hG hP hQ
    go_enter Tryd.func3, Tryd.ntmps3
    go_wp2_with fail
    refine (HII.out _).mono ?_
    rintro e w1 ⟨rfl, hb1⟩
    have HB1 := Lib.hid ((keeps HW0.out hb1).alloc (keeps HW0.out hb1).size (.cells (cells ⟨seq, ver, index, count, a.toNat, b.toNat, gone, key, value⟩) 28))
    have HI1 := Lib.hid (Blk.new_ w1 (cells ⟨seq, ver, index, count, a.toNat, b.toNat, gone, key, value⟩) 28)
    clear hb1
    go_wp2_with fail
    refine (HQ.out _).mono ?_
    rintro e w2 ⟨B, cb, rfl, hb2⟩
    have HB2 := Lib.hid (keeps HB1.out hb2)
    have HI2 := Lib.hid (HI1.out.below hb2)
    clear hb2
    have i0 := HI2.out.cell 0
    have i1 := HI2.out.cell 1
    have i2 := HI2.out.cell 2
    have i3 := HI2.out.cell 3
    have i4 := HI2.out.cell 4
    have i5 := HI2.out.cell 5
    have i6 := HI2.out.cell 6
    have i7 := HI2.out.cell 7
    go_wp2_with fail
    refine (HR.out _).mono ?_
    rintro e w3 ⟨rfl, hb3⟩
    have HB3 := Lib.hid (keeps HB2.out hb3)
    have HI3 := Lib.hid (HI2.out.below hb3)
    clear hb3 i0 i1 i2 i3 i4 i5 i6 i7
    go_wp2_with fail
    refine (HX.out _).mono ?_
    rintro e w4 ⟨rfl, hb4⟩
    have HB4 := Lib.hid (keeps HB3.out hb4)
    have hI4 := HI3.out.below hb4
    have i0 := hI4.cell 0
    have i1 := hI4.cell 1
    have i2 := hI4.cell 2
    have i3 := hI4.cell 3
    have i4 := hI4.cell 4
    have i5 := hI4.cell 5
    have i6 := hI4.cell 6
    have i7 := hI4.cell 7
    clear hb4
    go_wp2_with fail
    refine (HM.out _).mono ?_
    rintro e w5 ⟨rfl, hb5⟩
    have HB5 := Lib.hid (keeps HB4.out hb5)
    clear hb5 i0 i1 i2 i3 i4 i5 i6 i7
    go_wp2_with fail
    go_ret
    exact ⟨rfl, HB5.out⟩
  | true =>
    have hmp := may_yes hm
    have hgot := got (x := ⟨seq, ver, index, count, a.toNat, b.toNat, gone, key, value⟩) hmp hs0 hs1 hv0 hv1
    have HQ := Lib.hid (fun w hN => hP ⟨seq, ver, index, count, a.toNat, b.toNat, gone, key, value⟩ w hmp hs0 hs1 hv0 hv1 hN)
    have HRP := Lib.hid (fun w => refput_item ⟨seq, ver, index, count, a.toNat, b.toNat, gone, key, value⟩ w hmp hs0 hs1 hv0 hv1)
    have hwl := writ_len ⟨seq, ver, index, count, a.toNat, b.toNat, gone, key, value⟩
    have hn100 : (writ ⟨seq, ver, index, count, a.toNat, b.toNat, gone, key, value⟩).length ≤ 100000 := by
      have := hmp.2.2.2.2.2.2
      dsimp only at this hwl
      omega
    obtain ⟨xs, hxs⟩ : ∃ xs, writ ⟨seq, ver, index, count, a.toNat, b.toNat, gone, key, value⟩ = xs := ⟨_, rfl⟩
    rw [hxs] at hgot HQ HRP hn100
    obtain ⟨N, hNl⟩ : ∃ N, xs.length = N := ⟨_, rfl⟩
    rw [hNl] at HQ hn100
    have HNL := Lib.hid hNl
    have HG := Lib.hid (fun A n c w hb hn hc hN => hG A n c xs w hb hn hc hN)
    rw [hgot.1, hgot.2] at HG
    have heq := fun w => eq_item seq ver index count (wd (nm a.toNat)) (wd (nm b.toNat)) a.toNat b.toNat gone key value w (order_back hmp.1) (order_back hmp.2.1)
    rw [hm] at HM HR
    obtain ⟨sz, hsz⟩ : ∃ z, size key.size value.size = z := ⟨_, rfl⟩
    rw [hsz] at HSI HSR
    clear hm hP hQ hG hmp hgot hwl hxs hNl hsz
    go_enter Tryd.func3, Tryd.ntmps3
    go_wp2_with fail
    refine (HII.out _).mono ?_
    rintro e w1 ⟨rfl, hb1⟩
    have HB1 := Lib.hid ((keeps HW0.out hb1).alloc (keeps HW0.out hb1).size (.cells (cells ⟨seq, ver, index, count, a.toNat, b.toNat, gone, key, value⟩) 28))
    have HI1 := Lib.hid (Blk.new_ w1 (cells ⟨seq, ver, index, count, a.toNat, b.toNat, gone, key, value⟩) 28)
    clear hb1
    go_wp2_with fail
    refine (HQ.out _ (HN.out.below HB1.out)).mono ?_
    rintro e w2 ⟨B, cb, rfl, hbs, hcb, hb2⟩
    have HB2 := Lib.hid (keeps HB1.out hb2)
    have HI2 := Lib.hid (HI1.out.below hb2)
    have HBS2 := Lib.hid hbs
    clear hb2 hbs
    have i0 := HI2.out.cell 0
    have i1 := HI2.out.cell 1
    have i2 := HI2.out.cell 2
    have i3 := HI2.out.cell 3
    have i4 := HI2.out.cell 4
    have i5 := HI2.out.cell 5
    have i6 := HI2.out.cell 6
    have i7 := HI2.out.cell 7
    go_wp2_with fail
    refine (HR.out _).mono ?_
    rintro e w2' ⟨rfl, hb3⟩
    have HB3 := Lib.hid (keeps HB2.out hb3)
    have HI3 := Lib.hid (HI2.out.below hb3)
    have HBS3 := Lib.hid (HBS2.out.below hb3)
    clear hb3 i0 i1 i2 i3 i4 i5 i6 i7
    go_wp2_with fail
    refine (HG.out _ _ _ _ HBS3.out hn100 hcb (HN.out.below HB3.out)).mono ?_
    rintro e w3 ⟨rfl, hb4⟩
    have HB4 := Lib.hid ((keeps HB3.out hb4).alloc (keeps HB3.out hb4).size (.cells (cells ⟨seq, ver, index, count, wd (nm a.toNat), wd (nm b.toNat), gone, key, value⟩) 28))
    have hI4 := (HI3.out.below hb4).alloc (.cells (cells ⟨seq, ver, index, count, wd (nm a.toNat), wd (nm b.toNat), gone, key, value⟩) 28)
    have hJ4 := Blk.new_ w3 (cells ⟨seq, ver, index, count, wd (nm a.toNat), wd (nm b.toNat), gone, key, value⟩) 28
    have hBS4 := (HBS3.out.below hb4).below ((Below.refl _ _).alloc (Nat.le_refl _) (.cells (cells ⟨seq, ver, index, count, wd (nm a.toNat), wd (nm b.toNat), gone, key, value⟩) 28))
    unfold RingX.back
    dsimp only
    go_wp2_with fail
    obtain ⟨W, hW⟩ : ∃ W, w3.alloc (.cells (cells ⟨seq, ver, index, count, wd (nm a.toNat), wd (nm b.toNat), gone, key, value⟩) 28) = W := ⟨_, rfl⟩
    change Code.wp _ _ _ _ (w3.alloc (.cells (cells ⟨seq, ver, index, count, wd (nm a.toNat), wd (nm b.toNat), gone, key, value⟩) 28))
    rw [hW] at HB4 hI4 hJ4 hBS4 ⊢
    have HI4 := Lib.hid hI4
    have HJ4 := Lib.hid hJ4
    have HBS4 := Lib.hid hBS4
    clear hb4 hW hI4 hJ4 hBS4
    obtain ⟨t, ht⟩ : ∃ t, str xs = t := ⟨_, rfl⟩
    have HT := Lib.hid ht
    clear ht
    have RD : Hid (∀ v, Below W.heap.size W v → Below W.heap.size W v ∧ v.cell? ⟨w1.heap.size, 0, none⟩ = some (.int .u64 seq) ∧ v.cell? ⟨w1.heap.size, 1, none⟩ = some (.int .u64 ver) ∧ v.cell? ⟨w1.heap.size, 2, none⟩ = some (.int .i64 index) ∧ v.cell? ⟨w1.heap.size, 3, none⟩ = some (.int .i64 count) ∧ v.cell? ⟨w1.heap.size, 4, none⟩ = some (.complex .f64 a.toNat b.toNat) ∧ v.cell? ⟨w1.heap.size, 5, none⟩ = some (.bool gone) ∧ v.cell? ⟨w1.heap.size, 6, none⟩ = some (.string key) ∧ v.cell? ⟨w1.heap.size, 7, none⟩ = some (.string value) ∧ v.cell? ⟨w3.heap.size, 0, none⟩ = some (.int .u64 seq) ∧ v.cell? ⟨w3.heap.size, 1, none⟩ = some (.int .u64 ver) ∧ v.cell? ⟨w3.heap.size, 2, none⟩ = some (.int .i64 index) ∧ v.cell? ⟨w3.heap.size, 3, none⟩ = some (.int .i64 count) ∧ v.cell? ⟨w3.heap.size, 4, none⟩ = some (.complex .f64 (wd (nm a.toNat)) (wd (nm b.toNat))) ∧ v.cell? ⟨w3.heap.size, 5, none⟩ = some (.bool gone) ∧ v.cell? ⟨w3.heap.size, 6, none⟩ = some (.string key) ∧ v.cell? ⟨w3.heap.size, 7, none⟩ = some (.string value) ∧ (convert 30 9 (.slice B N cb)).run Tryd.prog v = .ok (.string t) v) := Lib.hid fun v hv => ⟨hv, (HI4.out.below hv).cell 0, (HI4.out.below hv).cell 1, (HI4.out.below hv).cell 2, (HI4.out.below hv).cell 3, (HI4.out.below hv).cell 4, (HI4.out.below hv).cell 5, (HI4.out.below hv).cell 6, (HI4.out.below hv).cell 7, (HJ4.out.below hv).cell 0, (HJ4.out.below hv).cell 1, (HJ4.out.below hv).cell 2, (HJ4.out.below hv).cell 3, (HJ4.out.below hv).cell 4, (HJ4.out.below hv).cell 5, (HJ4.out.below hv).cell 6, (HJ4.out.below hv).cell 7, conv_of (HBS4.out.below hv) HT.out⟩
    refine wp_region_noPanic ?_
    go_region_held (fun v => Below W.heap.size W v ∧ v.cell? ⟨w1.heap.size, 0, none⟩ = some (.int .u64 seq) ∧ v.cell? ⟨w1.heap.size, 1, none⟩ = some (.int .u64 ver) ∧ v.cell? ⟨w1.heap.size, 2, none⟩ = some (.int .i64 index) ∧ v.cell? ⟨w1.heap.size, 3, none⟩ = some (.int .i64 count) ∧ v.cell? ⟨w1.heap.size, 4, none⟩ = some (.complex .f64 a.toNat b.toNat) ∧ v.cell? ⟨w1.heap.size, 5, none⟩ = some (.bool gone) ∧ v.cell? ⟨w1.heap.size, 6, none⟩ = some (.string key) ∧ v.cell? ⟨w1.heap.size, 7, none⟩ = some (.string value) ∧ v.cell? ⟨w3.heap.size, 0, none⟩ = some (.int .u64 seq) ∧ v.cell? ⟨w3.heap.size, 1, none⟩ = some (.int .u64 ver) ∧ v.cell? ⟨w3.heap.size, 2, none⟩ = some (.int .i64 index) ∧ v.cell? ⟨w3.heap.size, 3, none⟩ = some (.int .i64 count) ∧ v.cell? ⟨w3.heap.size, 4, none⟩ = some (.complex .f64 (wd (nm a.toNat)) (wd (nm b.toNat))) ∧ v.cell? ⟨w3.heap.size, 5, none⟩ = some (.bool gone) ∧ v.cell? ⟨w3.heap.size, 6, none⟩ = some (.string key) ∧ v.cell? ⟨w3.heap.size, 7, none⟩ = some (.string value) ∧ (convert 30 9 (.slice B N cb)).run Tryd.prog v = .ok (.string t) v)
      (first
        | exact RD.out _ (Below.refl _ _)
        | exact RD.out _ (by assumption)
        | exact RD.out _ (Below.drew (by assumption))
        | exact RD.out _ (Below.drew (Below.refl _ _))
        | exact RD.out _ (below_drewN (Below.refl _ _) _)
        | exact RD.out _ (And.left (by assumption)))
      (first
        | (go_at_call 8; refine (HX.out _).mono ?_; rintro e w6 ⟨rfl, hb6⟩; have hn6 : Below W.heap.size W w6 := keeps (And.left (by assumption)) hb6; clear hb6)
        | (go_at_call 9; refine (HM.out _).mono ?_; rintro e w7 ⟨rfl, hb7⟩; have hn7 : Below W.heap.size W w7 := keeps (And.left (by assumption)) hb7; clear hb7)
        | (go_at_call 11; refine (HRP.out _).mono ?_; intro e w8 hm8; obtain ⟨g8, cap8, rfl, ho8, hb8⟩ := hm8.at_ HNL.out; have hn8 : Below W.heap.size W w8 := keeps (And.left (by assumption)) hb8; have hcv8 := conv_of (c := cap8) ho8.bs HT.out; clear hm8 ho8 hb8)
        | (go_at_call 12; refine (HSI.out _).mono ?_; rintro e w9 ⟨rfl, rfl⟩)
        | (go_at_call 13; refine (HSR.out _).mono ?_; rintro e w9 ⟨rfl, rfl⟩))
    refine NoPanic.normal ?_
    rename_i hH
    have HH : Below W.heap.size W _ := hH.1
    clear hH
    go_wp2_with fail
    go_ret
    exact ⟨rfl, keeps HB4.out HH⟩
end Go.Proofs.YthmcakaboebagaaDoor.RingP
