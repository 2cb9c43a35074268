/- The contract of the project's Put of layer 7. -/
import Derived.Test.YthmcakaboebagaaDoorRingB
import Derived.Test.YthmcakaboebagaaDoorRingE
import Derived.Test.YthmcakaboebagaaDoorPlaceH
import Derived.Test.YthmcakaboebagaaDoorRingX
import Derived.WalkMore
namespace Go.Proofs.YthmcakaboebagaaDoor.RingBp
set_option linter.unusedVariables false
set_option linter.unusedSimpArgs false
open Go.RowKit
open Go.Proofs.YthmcakaboebagaaDoor.Byte Go.Proofs.YthmcakaboebagaaDoor.PackM Go.Proofs.YthmcakaboebagaaDoor.PackW Go.Proofs.YthmcakaboebagaaDoor.PlaceM Go.Proofs.YthmcakaboebagaaDoor.PlaceV Go.Proofs.YthmcakaboebagaaDoor.PlaceH Go.Proofs.YthmcakaboebagaaDoor.RingM Go.Proofs.YthmcakaboebagaaDoor.RingC Go.Proofs.YthmcakaboebagaaDoor.RingE Go.Proofs.YthmcakaboebagaaDoor.RingX Go.Proofs.YthmcakaboebagaaDoor.Own

set_option maxHeartbeats 400000 in
theorem goneas_calls (g : Bool) (w : World) : Calls Tryd.prog 18 #[.bool g] w fun e w' => e = .returned (.int .u64 (if g = true then 1 else 0)) ∧ w = w' := by
  cases g
  all_goals
    go_enter Tryd.func18, Tryd.ntmps18
    go_wp2
    go_ret
    exact ⟨rfl, rfl⟩
theorem bs_three (W : World) (g : Nat) (t : TypeId) (a b c : Int) (h : Blk W g #[.int .u8 a, .int .u8 b, .int .u8 c] t) (ha : 0 ≤ a ∧ a ≤ 255) (hb : 0 ≤ b ∧ b ≤ 255) (hc : 0 ≤ c ∧ c ≤ 255) : Bs W (some ⟨g, 0, none⟩) 3 [a, b, c] := by
  refine ⟨rfl, fun x hx => ?_, fun k hk => ⟨g, 0, rfl, h.lt, ?_⟩⟩
  · simp only [List.mem_cons, List.mem_nil_iff, or_false] at hx
    rcases hx with rfl | rfl | rfl <;> assumption
  · rw [Nat.zero_add, h.cell k]
    rcases (show k = 0 ∨ k = 1 ∨ k = 2 by omega) with rfl | rfl | rfl <;> rfl
set_option maxRecDepth 100000 in
set_option maxHeartbeats 1000000 in
theorem put_no (x : It) (w : World) (h : may x = false) (hk : x.key.size ≤ maxLen) (hv : x.value.size ≤ maxLen) :
    Calls Tryd.prog 6 #[.agg (cells x)] w fun e w' => ∃ A c, e = .returned (.tuple #[.slice A 0 c, .int .i64 1]) ∧ Below w.heap.size w w' := by
  have M := Lib.hid (fun w => may_calls x w hk hv)
  rw [h] at M
  have HX := Lib.hid (IX.of w x)
  clear h hk hv
  obtain ⟨seq, ver, index, count, re, im, gone, key, value⟩ := x
  go_enter Tryd.func6, Tryd.ntmps6
  go_wp2_with fail
  refine (M.out _).mono ?_
  rintro e w1 ⟨rfl, hb1⟩
  have HB := Lib.hid (HX.out.below hb1).bel
  clear hb1
  go_wp2_with fail
  go_ret2
  exact ⟨_, _, rfl, HB.out⟩
set_option maxRecDepth 100000 in
set_option maxHeartbeats 4000000 in
theorem put_ok (x : It) (w : World) (h : mayP x) (hs0 : 0 ≤ x.seq) (hs1 : x.seq ≤ 18446744073709551615) (hv0 : 0 ≤ x.ver) (hv1 : x.ver ≤ 18446744073709551615) :
    Calls Tryd.prog 6 #[.agg (cells x)] w fun e w' => ∃ A c, e = .returned (.tuple #[.slice A (writ x).length c, .int .i64 0]) ∧ Bs w' A (writ x).length (writ x) ∧ (writ x).length ≤ c ∧ Below w.heap.size w w' := by
  have hmt := may_of h
  obtain ⟨h1, h2, h3, h4, h5, h6, h7, h8, h9, h10, h11, h12⟩ := h
  have M := Lib.hid (fun w => may_calls x w (by unfold maxLen; omega) (by unfold maxLen; omega))
  rw [hmt] at M
  clear hmt
  have HX := Lib.hid (IX.of w x)
  have HWL := Lib.hid (writ_len x)
  obtain ⟨L1, hL1⟩ : ∃ L, low 8 x.seq = L := ⟨_, rfl⟩
  obtain ⟨L2, hL2⟩ : ∃ L, L1 ++ low 8 x.ver = L := ⟨_, rfl⟩
  obtain ⟨L3, hL3⟩ : ∃ L, L2 ++ low 1 x.index = L := ⟨_, rfl⟩
  obtain ⟨L4, hL4⟩ : ∃ L, L3 ++ low 1 x.count = L := ⟨_, rfl⟩
  obtain ⟨L5, hL5⟩ : ∃ L, L4 ++ low 1 (nm x.re) = L := ⟨_, rfl⟩
  obtain ⟨L6, hL6⟩ : ∃ L, L5 ++ low 2 (nm x.im) = L := ⟨_, rfl⟩
  have HH : Hid (head x = L6 ++ [if x.gone then 1 else 0]) := Lib.hid (by unfold head; rw [hL1, hL2, hL3, hL4, hL5, hL6])
  have HW : Hid (writ x = L6 ++ [if x.gone then 1 else 0] ++ ((x.key.size : Int) :: txt x.key) ++ ((x.value.size : Int) :: txt x.value)) := Lib.hid (by unfold writ; rw [HH.out])
  have l1 : L1.length = 8 := by rw [← hL1, low_len]
  have l2 : L2.length = 16 := by rw [← hL2, List.length_append, low_len, l1]
  have l3 : L3.length = 17 := by rw [← hL3, List.length_append, low_len, l2]
  have l4 : L4.length = 18 := by rw [← hL4, List.length_append, low_len, l3]
  have l5 : L5.length = 19 := by rw [← hL5, List.length_append, low_len, l4]
  have l6 : L6.length = 21 := by rw [← hL6, List.length_append, low_len, l5]
  have HL1 := Lib.hid hL1
  have HL2 := Lib.hid hL2
  have HL3 := Lib.hid hL3
  have HL4 := Lib.hid hL4
  have HL5 := Lib.hid hL5
  have HL6 := Lib.hid hL6
  have N1 := Lib.hid l1
  have N2 := Lib.hid l2
  have N3 := Lib.hid l3
  have N4 := Lib.hid l4
  have N5 := Lib.hid l5
  have N6 := Lib.hid l6
  have hn1 := (rt_fv h1).2.1
  have hn2 := (rt_fv h2).2.1
  obtain ⟨s, hs⟩ : ∃ s, nm x.re = s := ⟨_, rfl⟩
  obtain ⟨o, ho⟩ : ∃ o, nm x.im = o := ⟨_, rfl⟩
  have PP := Lib.hid (fun w => put_yes x.re x.im s o w h1 h2 hs ho (by omega) (by omega) (by omega) (by omega))
  rw [hs] at h3 hn1 HL5
  rw [ho] at h4 hn2 HL6
  obtain ⟨seq, ver, index, count, re, im, gone, key, value⟩ := x
  dsimp only at *
  have HG6 : Hid (L4 ++ [s, o / 256, o % 256] = L6) := Lib.hid (by rw [← HL6.out, ← HL5.out, low_one_small s (by omega) (by omega), low_two o (by omega) (by omega)]; simp)
  have HK1 := Lib.hid (ext_all key (by omega))
  have HK2 := Lib.hid (ext_all value (by omega))
  clear hL1 hL2 hL3 hL4 hL5 hL6 l1 l2 l3 l4 l5 l6 h1 h2 hs ho h5
  go_enter Tryd.func6, Tryd.ntmps6
  go_wp2_with fail
  refine (M.out _).mono ?_
  rintro e w0 ⟨rfl, hb0⟩
  have HX0 := Lib.hid (HX.out.below hb0)
  have c0 := HX0.out.blk.cell 0
  clear hb0
  go_wp2_with fail
  refine (put_calls none 0 0 [] 8 seq _ (Bs.nil_ _ _) (by omega) (by omega) (by omega)).mono ?_
  intro e w1 hm
  have he : ([] ++ low (width 8) seq : List Int) = L1 := HL1.out
  rw [he] at hm
  obtain ⟨g1, cap1, rfl, ho1, hb1⟩ := hm.at_ N1.out
  have HX1 := Lib.hid (HX0.out.below hb1)
  have c1 := HX1.out.blk.cell 1
  have HO1 := Lib.hid (lower ho1 (show w.heap.size + 1 ≤ _ from HX0.out.blk.lt))
  clear hm ho1 hb1 he c0
  go_wp2_with fail
  refine (put_calls (some ⟨g1, 0, none⟩) 8 cap1 L1 8 ver _ HO1.out.bs (by omega) (by omega) (by omega)).mono ?_
  intro e w2 hm
  have he : (L1 ++ low (width 8) ver : List Int) = L2 := HL2.out
  rw [he] at hm
  obtain ⟨g2, cap2, rfl, ho2, hb2⟩ := hm.at_ N2.out
  have HX2 := Lib.hid (HX1.out.below hb2)
  have HO2 := Lib.hid (lower ho2 (show w.heap.size + 1 ≤ _ from HX1.out.blk.lt))
  clear hm ho2 hb2 he c1
  have c2 := HX2.out.blk.cell 2
  go_wp2_with fail
  refine (put_calls (some ⟨g2, 0, none⟩) 16 cap2 L2 1 index _ HO2.out.bs (by omega) (by omega) (by omega)).mono ?_
  intro e w3 hm
  have he : (L2 ++ low (width 1) index : List Int) = L3 := HL3.out
  rw [he] at hm
  obtain ⟨g3, cap3, rfl, ho3, hb3⟩ := hm.at_ N3.out
  have HX3 := Lib.hid (HX2.out.below hb3)
  have HO3 := Lib.hid (lower ho3 (show w.heap.size + 1 ≤ _ from HX2.out.blk.lt))
  clear hm ho3 hb3 he c2
  have c3 := HX3.out.blk.cell 3
  go_wp2_with fail
  refine (put_calls (some ⟨g3, 0, none⟩) 17 cap3 L3 1 count _ HO3.out.bs (by omega) (by omega) (by omega)).mono ?_
  intro e w4 hm
  have he : (L3 ++ low (width 1) count : List Int) = L4 := HL4.out
  rw [he] at hm
  obtain ⟨g4, cap4, rfl, ho4, hb4⟩ := hm.at_ N4.out
  have HX4 := Lib.hid (HX3.out.below hb4)
  have HO4 := Lib.hid (lower ho4 (show w.heap.size + 1 ≤ _ from HX3.out.blk.lt))
  clear hm ho4 hb4 he c3
  have c4 := HX4.out.blk.cell 4
  go_wp2_with fail
  refine (PP.out _).mono ?_
  rintro e w5 ⟨rfl, hb5⟩
  have HX5 := Lib.hid (HX4.out.below hb5)
  have HO5 := Lib.hid (HO4.out.below hb5)
  have hA5 : Blk (w5.alloc (.cells #[.int .u8 s, .int .u8 (o / 256), .int .u8 (o % 256)] 46)) w5.heap.size #[.int .u8 s, .int .u8 (o / 256), .int .u8 (o % 256)] 46 := Blk.new_ _ _ _
  have HA5 := Lib.hid (bs_three _ _ _ s (o / 256) (o % 256) hA5 (by omega) (by omega) (by omega))
  have hp5 := HO5.out.place
  have hz5 : w.heap.size + 1 ≤ w5.heap.size := HX5.out.blk.lt
  clear hb5 hA5 c4
  go_wp2_with ((with_reducible refine pick (some 31) ?_); refine wpList_append_bytes rfl (.tmp 29) (.tmp 30) _ rfl (w.heap.size + 1) 5 Tryd.underlying30 info8 g4 18 cap4 L4 rfl (HO5.out.below ((Below.refl _ _).alloc (Nat.le_refl _) _)) (some ⟨w5.heap.size, 0, none⟩) 3 3 [s, o / 256, o % 256] rfl HA5.out (fun e => by cases e) 21 rfl L6 HG6.out (by omega) (by simp; omega) ?_; intro g6 cap6 w6 hown6 hg6 _; have hbel6 : Below w.heap.size w w6 := (HX5.out.bel.alloc (by omega) (.cells #[.int .u8 s, .int .u8 (o / 256), .int .u8 (o % 256)] 46)).grown hg6 (by simp; omega) (by intro k hk; injection hk with hk; omega); have hblk6 : Blk w6 w.heap.size _ _ := ((HX5.out.blk.below ((Below.refl _ _).alloc (Nat.le_refl _) (.cells #[.int .u8 s, .int .u8 (o / 256), .int .u8 (o % 256)] 46))).grown hg6 (by omega)); have HO6 := Lib.hid hown6; have c5 := hblk6.cell 5; clear hg6 hown6)
  obtain ⟨gb, hgb⟩ : ∃ gb : Int, (if gone = true then 1 else 0) = gb := ⟨_, rfl⟩
  have hgb0 : 0 ≤ gb ∧ gb ≤ 255 := by rw [← hgb]; split <;> omega
  have GA : Hid (∀ w, Calls Tryd.prog 18 #[.bool gone] w fun e w' => e = .returned (.int .u64 gb) ∧ w = w') := Lib.hid (fun w => by rw [← hgb]; exact goneas_calls gone w)
  have HGL : Hid (L6 ++ low (width 1) gb = L6 ++ [gb]) := Lib.hid (by rw [show width 1 = 1 from rfl, low_one_small gb hgb0.1 hgb0.2])
  rw [hgb] at HW
  have HB6 := Lib.hid hbel6
  have hsz6 : w.heap.size < w6.heap.size := hblk6.lt
  clear hgb
  refine (GA.out _).mono ?_
  rintro e w' ⟨rfl, rfl⟩
  go_wp2_with fail
  refine (put_calls (some ⟨g6, 0, none⟩) 21 cap6 L6 1 gb _ HO6.out.bs (by omega) (by omega) (by omega)).mono ?_
  rw [HGL.out]
  intro e w7 hm
  obtain ⟨g7, cap7, rfl, ho7, hb7⟩ := hm.at_ (N := 22) (by simp only [List.length_append, List.length_cons, List.length_nil, N6.out])
  have hblk7 := hblk6.below hb7
  have c6 := hblk7.cell 6
  have HO7 := Lib.hid ho7
  have HB7 := Lib.hid (keeps HB6.out hb7)
  clear c5 hm ho7 hb7 hblk6 hbel6
  go_wp2_with fail
  refine (puttext_calls (some ⟨g7, 0, none⟩) 22 cap7 (L6 ++ [gb]) key _ HO7.out.bs (by omega) (by unfold maxLen; omega)).mono ?_
  rw [HK1.out]
  intro e w8 hm
  obtain ⟨g8, cap8, rfl, ho8, hb8⟩ := hm.at_ (N := 23 + key.size) (by simp only [List.length_append, List.length_cons, List.length_nil, N6.out, txt_len]; omega)
  have hblk8 := hblk7.below hb8
  have c8 := hblk8.cell 7
  have HO8 := Lib.hid ho8
  have HB8 := Lib.hid (keeps HB7.out hb8)
  clear c6 hm ho8 hb8 hblk7
  go_wp2_with fail
  refine (puttext_calls (some ⟨g8, 0, none⟩) (23 + key.size) cap8 (L6 ++ [gb] ++ ((key.size : Int) :: txt key)) value _ HO8.out.bs (by omega) (by unfold maxLen; omega)).mono ?_
  rw [HK2.out]
  intro e w9 hm
  have he : (L6 ++ [gb] ++ ((key.size : Int) :: txt key) ++ ((value.size : Int) :: txt value) : List Int) = writ ⟨seq, ver, index, count, re, im, gone, key, value⟩ := HW.out.symm
  rw [he] at hm
  obtain ⟨g9, cap9, rfl, ho9, hb9⟩ := hm.at_ HWL.out
  have HO9 := Lib.hid ho9
  have HB9 := Lib.hid (keeps HB8.out hb9)
  clear c8 hm ho9 hb9 hblk8
  go_wp2_with fail
  go_ret2
  refine ⟨some ⟨g9, 0, none⟩, cap9, ?_, ?_, ?_, HB9.out⟩
  · skip
    rw [HWL.out]
    rfl
  · rw [HWL.out]
    exact HO9.out.bs
  · rw [HWL.out]
    exact HO9.out.capLe
end Go.Proofs.YthmcakaboebagaaDoor.RingBp
