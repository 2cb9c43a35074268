/- An item's box in memory, and the contract of the document's Put of layer 7. -/
import Derived.Test.YthbafcihmcjchaaGreatDoorRingR
import Derived.Test.YthbafcihmcjchaaGreatDoorPackR
import Derived.Test.YthbafcihmcjchaaGreatDoorRingC
namespace Go.Proofs.YthbafcihmcjchaaGreatDoor.RingB
set_option linter.unusedVariables false
set_option linter.unusedSimpArgs false
open Go.RowKit
open Go.Proofs.YthbafcihmcjchaaGreatDoor.Byte Go.Proofs.YthbafcihmcjchaaGreatDoor.PackM Go.Proofs.YthbafcihmcjchaaGreatDoor.PackW Go.Proofs.YthbafcihmcjchaaGreatDoor.PackR Go.Proofs.YthbafcihmcjchaaGreatDoor.PlaceM Go.Proofs.YthbafcihmcjchaaGreatDoor.PlaceV Go.Proofs.YthbafcihmcjchaaGreatDoor.RingM Go.Proofs.YthbafcihmcjchaaGreatDoor.RingR Go.Proofs.YthbafcihmcjchaaGreatDoor.RingC Go.Proofs.YthbafcihmcjchaaGreatDoor.Own

theorem bs_one (w : World) (v : Int) (h0 : 0 ≤ v) (h1 : v ≤ 255) (f : Nat × Nat) : Bs (w.alloc (.cells #[.int .u8 v] 5 f)) (some ⟨w.heap.size, 0, none⟩) 1 [v] :=
  Bs.new_ w 5 f [v] (by intro x hx; rw [List.mem_singleton] at hx; subst hx; exact ⟨h0, h1⟩)
set_option maxRecDepth 100000 in
set_option maxHeartbeats 4000000 in
theorem refput_item (x : It) (w : World) (h : mayP x) (hs0 : 0 ≤ x.seq) (hs1 : x.seq ≤ 18446744073709551615) (hv0 : 0 ≤ x.ver) (hv1 : x.ver ≤ 18446744073709551615) :
    Calls Tryz.prog 65 #[.agg #[.int .u64 x.seq, .int .u64 x.ver, .int .i64 x.index, .int .i64 x.count, .complex .f64 x.re x.im, .bool x.gone, .string x.key, .string x.value]] w (Made (writ x) w) := by
  obtain ⟨h1, h2, h3, h4, h5, h6, h7, h8, h9, h10, h11, h12⟩ := h
  have HX := Lib.hid (IX.of w x)
  have HWL := Lib.hid (writ_len x)
  obtain ⟨L1, hL1⟩ : ∃ L, low 8 x.seq = L := ⟨_, rfl⟩
  obtain ⟨L2, hL2⟩ : ∃ L, L1 ++ low 8 x.ver = L := ⟨_, rfl⟩
  obtain ⟨L3, hL3⟩ : ∃ L, L2 ++ low 1 x.index = L := ⟨_, rfl⟩
  obtain ⟨L4, hL4⟩ : ∃ L, L3 ++ low 1 x.count = L := ⟨_, rfl⟩
  obtain ⟨L5, hL5⟩ : ∃ L, L4 ++ low 1 (nm x.re) = L := ⟨_, rfl⟩
  obtain ⟨L6, hL6⟩ : ∃ L, L5 ++ low 2 (nm x.im) = L := ⟨_, rfl⟩
  have HH : Hid (head x = L6 ++ [if x.gone then 1 else 0]) := Lib.hid (by unfold head; rw [hL1, hL2, hL3, hL4, hL5, hL6])
  have HW : Hid (writ x = L6 ++ [if x.gone then 1 else 0] ++ ((x.key.size : Int) :: txt x.key) ++ ((x.value.size : Int) :: txt x.value)) := Lib.hid (by unfold writ; rw [HH.out])
  have l1 : L1.length = 8 := by rw [← hL1, low_len]
  have l2 : L2.length = 16 := by rw [← hL2, List.length_append, low_len, l1]
  have l3 : L3.length = 17 := by rw [← hL3, List.length_append, low_len, l2]
  have l4 : L4.length = 18 := by rw [← hL4, List.length_append, low_len, l3]
  have l5 : L5.length = 19 := by rw [← hL5, List.length_append, low_len, l4]
  have l6 : L6.length = 21 := by rw [← hL6, List.length_append, low_len, l5]
  have HL1 := Lib.hid hL1
  have HL2 := Lib.hid hL2
  have HL3 := Lib.hid hL3
  have HL4 := Lib.hid hL4
  have HL5 := Lib.hid hL5
  have HL6 := Lib.hid hL6
  have N1 := Lib.hid l1
  have N2 := Lib.hid l2
  have N3 := Lib.hid l3
  have N4 := Lib.hid l4
  have N5 := Lib.hid l5
  have N6 := Lib.hid l6
  have hn1 := (rt_fv h1).2.1
  have hn2 := (rt_fv h2).2.1
  obtain ⟨s, hs⟩ : ∃ s, nm x.re = s := ⟨_, rfl⟩
  obtain ⟨o, ho⟩ : ∃ o, nm x.im = o := ⟨_, rfl⟩
  have S := Lib.hid (fun w => sector_is (y := x.im) w h1 hs)
  have O := Lib.hid (fun w => offset_is (x := x.re) w h2 ho)
  rw [hs] at h3 hn1 HL5
  rw [ho] at h4 hn2 HL6
  obtain ⟨seq, ver, index, count, re, im, gone, key, value⟩ := x
  dsimp only at *
  have HK1 := Lib.hid (ext_all key (by omega))
  have HK2 := Lib.hid (ext_all value (by omega))
  clear hL1 hL2 hL3 hL4 hL5 hL6 l1 l2 l3 l4 l5 l6 h1 h2 hs ho
  go_enter Tryz.func65, Tryz.ntmps65
  go_wp2_with fail
  refine (refput_calls (some ⟨_, 0, none⟩) 0 0 [] 8 seq _ (Bs.nil_ _ _) (fun e => by cases e) (by omega) (by omega) (by omega) hs0 hs1).mono ?_
  intro e w1 hm
  have he : ([] ++ low (width 8) seq : List Int) = L1 := HL1.out
  rw [he] at hm
  obtain ⟨g1, cap1, rfl, ho1, hb1⟩ := hm.at_ N1.out
  have HX1 := Lib.hid (HX.out.below (((Below.refl _ _).alloc (Nat.le_refl _) (.cells #[] 5)).trans (hb1.mono (by simp))))
  have c1 := HX1.out.blk.cell 1
  have HO1 := Lib.hid (lower ho1 (show w.heap.size + 1 ≤ _ by simp))
  clear hm ho1 hb1 he
  go_wp2_with fail
  refine (refput_calls (some ⟨g1, 0, none⟩) 8 cap1 L1 8 ver _ HO1.out.bs (fun e => by cases e) (by omega) (by omega) (by omega) hv0 hv1).mono ?_
  intro e w2 hm
  have he : (L1 ++ low (width 8) ver : List Int) = L2 := HL2.out
  rw [he] at hm
  obtain ⟨g2, cap2, rfl, ho2, hb2⟩ := hm.at_ N2.out
  have HX2 := Lib.hid (HX1.out.below hb2)
  have HO2 := Lib.hid (lower ho2 (show w.heap.size + 1 ≤ _ from HX1.out.blk.lt))
  clear hm ho2 hb2 he c1
  have c2 := HX2.out.blk.cell 2
  go_wp2_with fail
  refine (refput_calls (some ⟨g2, 0, none⟩) 16 cap2 L2 1 index _ HO2.out.bs (fun e => by cases e) (by omega) (by omega) (by omega) (by omega) (by omega)).mono ?_
  intro e w3 hm
  have he : (L2 ++ low (width 1) index : List Int) = L3 := HL3.out
  rw [he] at hm
  obtain ⟨g3, cap3, rfl, ho3, hb3⟩ := hm.at_ N3.out
  have HX3 := Lib.hid (HX2.out.below hb3)
  have HO3 := Lib.hid (lower ho3 (show w.heap.size + 1 ≤ _ from HX2.out.blk.lt))
  clear hm ho3 hb3 he c2
  have c3 := HX3.out.blk.cell 3
  go_wp2_with fail
  refine (refput_calls (some ⟨g3, 0, none⟩) 17 cap3 L3 1 count _ HO3.out.bs (fun e => by cases e) (by omega) (by omega) (by omega) (by omega) (by omega)).mono ?_
  intro e w4 hm
  have he : (L3 ++ low (width 1) count : List Int) = L4 := HL4.out
  rw [he] at hm
  obtain ⟨g4, cap4, rfl, ho4, hb4⟩ := hm.at_ N4.out
  have HX4 := Lib.hid (HX3.out.below hb4)
  have HO4 := Lib.hid (lower ho4 (show w.heap.size + 1 ≤ _ from HX3.out.blk.lt))
  clear hm ho4 hb4 he c3
  have c4 := HX4.out.blk.cell 4
  go_wp2_with (go_at_call 29; refine (S.out _).mono ?_; rintro e w' ⟨rfl, rfl⟩)
  refine (refput_calls (some ⟨g4, 0, none⟩) 18 cap4 L4 1 s _ HO4.out.bs (fun e => by cases e) (by omega) (by omega) (by omega) (by omega) (by omega)).mono ?_
  intro e w5 hm
  have he : (L4 ++ low (width 1) s : List Int) = L5 := HL5.out
  rw [he] at hm
  obtain ⟨g5, cap5, rfl, ho5, hb5⟩ := hm.at_ N5.out
  have HX5 := Lib.hid (HX4.out.below hb5)
  have HO5 := Lib.hid (lower ho5 (show w.heap.size + 1 ≤ _ from HX4.out.blk.lt))
  clear hm ho5 hb5 he c4
  have c5 := HX5.out.blk.cell 4
  go_wp2_with (go_at_call 31; refine (O.out _).mono ?_; rintro e w' ⟨rfl, rfl⟩)
  refine (refput_calls (some ⟨g5, 0, none⟩) 19 cap5 L5 2 o _ HO5.out.bs (fun e => by cases e) (by omega) (by omega) (by omega) (by omega) (by omega)).mono ?_
  intro e w6 hm
  have he : (L5 ++ low (width 2) o : List Int) = L6 := HL6.out
  rw [he] at hm
  obtain ⟨g6, cap6, rfl, ho6, hb6⟩ := hm.at_ N6.out
  have HX6 := Lib.hid (HX5.out.below hb6)
  have HO6 := Lib.hid (lower ho6 (show w.heap.size + 1 ≤ _ from HX5.out.blk.lt))
  clear hm ho6 hb6 he c5
  have c6 := HX6.out.blk.cell 5
  have hp6 := HO6.out.place
  have hz6 : w.heap.size + 1 ≤ w6.heap.size := HX6.out.blk.lt
  have HB6 := Lib.hid HX6.out
  clear h5
  cases gone
  · go_wp2_with ((with_reducible refine pick (some 41) ?_); refine wpList_append_bytes rfl (.tmp 39) (.tmp 40) _ rfl (w.heap.size + 1) 5 Tryz.underlying38 info8 g6 21 cap6 L6 rfl (HO6.out.below ((Below.refl _ _).alloc (Nat.le_refl _) _)) (some ⟨w6.heap.size, 0, none⟩) 1 1 [0] rfl (bs_one w6 0 (by omega) (by omega) _) (fun e => by cases e) 22 rfl (L6 ++ [0]) rfl (by omega) (by simp; omega) ?_; intro g7 cap7 w7 hown7 hg7 _; have hbel7 : Below w.heap.size w w7 := (HX6.out.bel.alloc (by omega) (.cells #[.int .u8 0] 5)).grown hg7 (by simp; omega) (by intro k hk; injection hk with hk; omega); have hblk7 : Blk w7 w.heap.size _ _ := ((HX6.out.blk.below ((Below.refl _ _).alloc (Nat.le_refl _) (.cells #[.int .u8 0] 5))).grown hg7 (by omega)); have HO7 := Lib.hid hown7; have c7 := hblk7.cell 6; clear hg7 hown7)
    refine (refputtext_calls (some ⟨g7, 0, none⟩) 22 cap7 (L6 ++ [0]) key _ HO7.out.bs (fun e => by cases e) (by omega) (by unfold maxLen; omega)).mono ?_
    rw [HK1.out]
    intro e w8 hm
    obtain ⟨g8, cap8, rfl, ho8, hb8⟩ := hm.at_ (N := 23 + key.size) (by simp only [List.length_append, List.length_cons, List.length_nil, N6.out, txt_len]; omega)
    have hblk8 := hblk7.below hb8
    have c8 := hblk8.cell 7
    have HO8 := Lib.hid ho8
    have HB8 := Lib.hid (keeps hbel7 hb8)
    clear c7 hm ho8 hb8 hblk7 hbel7
    go_wp2_with fail
    refine (refputtext_calls (some ⟨g8, 0, none⟩) (23 + key.size) cap8 (L6 ++ [0] ++ ((key.size : Int) :: txt key)) value _ HO8.out.bs (fun e => by cases e) (by omega) (by unfold maxLen; omega)).mono ?_
    rw [HK2.out]
    intro e w9 hm
    have he : (L6 ++ [0] ++ ((key.size : Int) :: txt key) ++ ((value.size : Int) :: txt value) : List Int) = writ ⟨seq, ver, index, count, re, im, false, key, value⟩ := HW.out.symm
    rw [he] at hm
    obtain ⟨g9, cap9, rfl, ho9, hb9⟩ := hm.at_ HWL.out
    have HO9 := Lib.hid (lower ho9 HB8.out.size)
    have HB9 := Lib.hid (keeps HB8.out hb9)
    clear c8 hm ho9 hb9 hblk8
    go_wp2_with fail
    go_ret
    exact Made.of HWL.out rfl HO9.out HB9.out
  · go_wp2_with ((with_reducible refine pick (some 38) ?_); refine wpList_append_bytes rfl (.tmp 36) (.tmp 37) _ rfl (w.heap.size + 1) 5 Tryz.underlying38 info8 g6 21 cap6 L6 rfl (HO6.out.below ((Below.refl _ _).alloc (Nat.le_refl _) _)) (some ⟨w6.heap.size, 0, none⟩) 1 1 [1] rfl (bs_one w6 1 (by omega) (by omega) _) (fun e => by cases e) 22 rfl (L6 ++ [1]) rfl (by omega) (by simp; omega) ?_; intro g7 cap7 w7 hown7 hg7 _; have hbel7 : Below w.heap.size w w7 := (HX6.out.bel.alloc (by omega) (.cells #[.int .u8 1] 5)).grown hg7 (by simp; omega) (by intro k hk; injection hk with hk; omega); have hblk7 : Blk w7 w.heap.size _ _ := ((HX6.out.blk.below ((Below.refl _ _).alloc (Nat.le_refl _) (.cells #[.int .u8 1] 5))).grown hg7 (by omega)); have HO7 := Lib.hid hown7; have c7 := hblk7.cell 6; clear hg7 hown7)
    refine (refputtext_calls (some ⟨g7, 0, none⟩) 22 cap7 (L6 ++ [1]) key _ HO7.out.bs (fun e => by cases e) (by omega) (by unfold maxLen; omega)).mono ?_
    rw [HK1.out]
    intro e w8 hm
    obtain ⟨g8, cap8, rfl, ho8, hb8⟩ := hm.at_ (N := 23 + key.size) (by simp only [List.length_append, List.length_cons, List.length_nil, N6.out, txt_len]; omega)
    have hblk8 := hblk7.below hb8
    have c8 := hblk8.cell 7
    have HO8 := Lib.hid ho8
    have HB8 := Lib.hid (keeps hbel7 hb8)
    clear c7 hm ho8 hb8 hblk7 hbel7
    go_wp2_with fail
    refine (refputtext_calls (some ⟨g8, 0, none⟩) (23 + key.size) cap8 (L6 ++ [1] ++ ((key.size : Int) :: txt key)) value _ HO8.out.bs (fun e => by cases e) (by omega) (by unfold maxLen; omega)).mono ?_
    rw [HK2.out]
    intro e w9 hm
    have he : (L6 ++ [1] ++ ((key.size : Int) :: txt key) ++ ((value.size : Int) :: txt value) : List Int) = writ ⟨seq, ver, index, count, re, im, true, key, value⟩ := HW.out.symm
    rw [he] at hm
    obtain ⟨g9, cap9, rfl, ho9, hb9⟩ := hm.at_ HWL.out
    have HO9 := Lib.hid (lower ho9 HB8.out.size)
    have HB9 := Lib.hid (keeps HB8.out hb9)
    clear c8 hm ho9 hb9 hblk8
    go_wp2_with fail
    go_ret
    exact Made.of HWL.out rfl HO9.out HB9.out
end Go.Proofs.YthbafcihmcjchaaGreatDoor.RingB
