/- The contract of the document's Class of layer 6. Condition: the bytes read as numbers 0..255. -/
import Derived.Test.YthbafcihmcjchaaGreatDoorRecX
namespace Go.Proofs.YthbafcihmcjchaaGreatDoor.RecY
set_option linter.unusedVariables false
set_option linter.unusedSimpArgs false
open Go.RowKit
open Go.Proofs.YthbafcihmcjchaaGreatDoor.Byte Go.Proofs.YthbafcihmcjchaaGreatDoor.PackM Go.Proofs.YthbafcihmcjchaaGreatDoor.PackV Go.Proofs.YthbafcihmcjchaaGreatDoor.PackS Go.Proofs.YthbafcihmcjchaaGreatDoor.PackH Go.Proofs.YthbafcihmcjchaaGreatDoor.SumV Go.Proofs.YthbafcihmcjchaaGreatDoor.RecM Go.Proofs.YthbafcihmcjchaaGreatDoor.RecW Go.Proofs.YthbafcihmcjchaaGreatDoor.RecX

/-- All from a on up to k. -/
def allTo (xs : List Int) (a k : Nat) : Bool := ((xs.take k).drop a).all (· == 255)
theorem allTo_start (xs : List Int) (a : Nat) : allTo xs a a = true := by
  unfold allTo
  rw [List.drop_eq_nil_of_le (by rw [List.length_take]; omega)]
  rfl
theorem allTo_succ (xs : List Int) (a k : Nat) (ha : a ≤ k) (hk : k < xs.length) : allTo xs a (k + 1) = (allTo xs a k && (xs.getD k 0 == 255)) := by
  unfold allTo
  rw [List.take_succ_eq_append_getElem hk, List.drop_append_of_le_length (by rw [List.length_take]; omega), List.all_append]
  simp [List.getD_eq_getElem?_getD, List.getElem?_eq_getElem hk]
theorem allTo_end (xs : List Int) (a n : Nat) (hn : xs.length ≤ n) : allTo xs a n = RecM.blank xs a := by
  unfold allTo RecM.blank
  rw [List.take_of_length_le hn]
theorem get_sum (A : Option Addr) (n c : Nat) (xs : List Int) (a : Nat) (w : World) (hb : Bs w A n xs) (hn : n ≤ 140737488355328) (h : a + 7 ≤ n) :
    Calls Tryz.prog 66 #[.slice A n c, .int .i64 ((a : Int) + 3), .int .i64 4] w fun e w' => e = .returned (.tuple #[.int .u64 (getn xs (a + 3) 4), .int .i64 ((a : Int) + 7), .int .i64 0]) ∧ w = w' := by
  have H := refget_calls A n c xs ((a + 3 : Nat) : Int) 4 w hb hn (by omega) (by omega) (by omega) (by omega)
  obtain ⟨e1, e2, e3⟩ := g_ok xs ((a + 3 : Nat) : Int) 4 (by rw [hb.len]; omega) (by rw [hb.len, show (width 4 : Int) = 4 from rfl]; omega)
  rw [e1, e2, e3, Int.toNat_natCast, show (width 4 : Int) = 4 from rfl] at H
  refine H.mono ?_
  rintro e w' ⟨rfl, rfl⟩
  exact ⟨by congr 5, rfl⟩
theorem ret_cls {v : Value} {x y x' y' : Int} (h : x = x') (h2 : y = y') : Ending.returned (.tuple #[.int .i64 x, v, .int .i64 y]) = .returned (.tuple #[.int .i64 x', v, .int .i64 y']) := by rw [h, h2]
theorem none_bs (w : World) (g : Nat) : Bs w (some ⟨g, 0, none⟩) 0 [] := Bs.nil_ _ _
theorem st_other {f : Int} (h1 : f ≠ 127) (h2 : f ≠ 63) (h3 : f ≠ 95) (h4 : f ≠ 31) : stOf f = 3 := by
  unfold stOf
  rw [if_neg h1, if_neg h2, if_neg (by omega)]
theorem slice_two {g r cap : Nat} (hc : r + 2 ≤ cap) : ∃ O, (∀ w : World, (Instr.sliceAt 38 (.slice (some ⟨g, 0, none⟩) (r + 2) cap) (some (.int .i64 2)) none none).run Tryz.prog w = .ok (.slice (some ⟨g, O, none⟩) r (cap - 2)) w) ∧ (0 < r → O = 2) := by
  refine ⟨if cap = 2 then 0 else 2, fun w => ?_, fun h => if_neg (by omega)⟩
  have hs : (sizeOf (Tryz.prog.elem 38)).run Tryz.prog w = .ok 1 w := by kernel_rfl
  have hT : Tryz.prog.underlying 38 = some (.slice (Tryz.prog.elem 38)) := by kernel_rfl
  have r := run_slice_l (P := Tryz.prog) (w := w) 38 (some ⟨g, 0, none⟩) (r + 2) cap hT .i64 2 (by omega) (by omega)
  rw [hs] at r
  rw [run_sliceAt_slice (h := hT), r]
  show Result.ok _ w = _
  unfold sliced
  by_cases e : cap = 2
  · simp [Addr.add, e]
  · simp [Addr.add, e]
theorem two_of {w : World} {g r O : Nat} {fs rs : List Int} (h : Bs w (some ⟨g, 0, none⟩) (r + 2) (fs ++ rs)) (h2 : fs.length = 2) (hr : rs.length = r) (hO : 0 < r → O = 2) : Bs w (some ⟨g, O, none⟩) r rs := by
  rcases Nat.eq_zero_or_pos r with h0 | h0
  · subst h0
    rw [List.eq_nil_of_length_eq_zero hr]
    exact Bs.nil_ _ _
  · rw [hO h0]
    have := h.sub 2 r (by omega)
    rw [List.drop_left' h2, List.take_of_length_le (by omega), Nat.zero_add] at this
    exact this
set_option maxHeartbeats 1000000 in
theorem class_arg (A : Option Addr) (n c : Nat) (xs : List Int) (a : Int) (w : World) (hb : Bs w A n xs) (h : a < 0 ∨ (n : Int) < a) :
    Calls Tryz.prog 48 #[.slice A n c, .int .i64 a] w (Cls (cs xs a) (cr xs a) (ce xs a) w) := by
  obtain ⟨e1, e2, e3⟩ := c_arg (xs := xs) (a := a) (by rw [hb.len]; exact h)
  rw [e1, e2, e3]
  clear e1 e2 e3 hb
  rcases h with h | h
  · go_enter Tryz.func48, Tryz.ntmps48
    go_wp2
    go_ret3
    exact Cls.of rfl rfl (none_bs _ _) (fun e => by cases e) (Nat.le_refl _) ((Below.refl _ _).alloc (Nat.le_refl _) _)
  · have d : decide (a < 0) = false := by simp; omega
    go_enter Tryz.func48, Tryz.ntmps48
    go_wp2
    go_ret3
    exact Cls.of rfl rfl (none_bs _ _) (fun e => by cases e) (Nat.le_refl _) ((Below.refl _ _).alloc (Nat.le_refl _) _)
set_option maxRecDepth 100000 in
set_option maxHeartbeats 4000000 in
theorem class_in (A : Option Addr) (n c : Nat) (xs : List Int) (a : Nat) (w : World) (hb : Bs w A n xs) (hn : n ≤ 140737488355328) (hc : n ≤ c) (ha : a ≤ n) :
    Calls Tryz.prog 48 #[.slice A n c, .int .i64 a] w (Cls (cs xs a) (cr xs a) (ce xs a) w) := by
  have HL := Lib.hid hb.len
  have HB := Lib.hid hb
  clear hb
  have d : decide ((a : Int) < 0) = false := by simp
  have d2 : decide (n < a) = false := by simp; omega
  have hbel : Below w.heap.size w (w.alloc (.cells #[] 5)) := (Below.refl _ _).alloc (Nat.le_refl _) _
  have HB1 := Lib.hid (HB.out.below hbel)
  have HW := Lib.hid hbel
  clear hbel
  obtain ⟨W, hW⟩ : ∃ W, w.alloc (.cells #[] 5) = W := ⟨_, rfl⟩
  have HWE := Lib.hid hW
  rw [hW] at HB1 HW
  clear hW
  have hsz : W.heap.size = w.heap.size + 1 := by rw [← HWE.out]; simp
  have HZ := Lib.hid hsz
  clear hsz
  go_enter Tryz.func48, Tryz.ntmps48
  go_wp2_with fail
  rw [HWE.out]
  go_loop [8, 9] (fun v i => ∃ k : Nat, a ≤ k ∧ k ≤ n ∧ i = .int .i64 k ∧ v = .bool (allTo xs a k)) (fun _ i => n - (intOf i).toNat)
  case atStart => exact ⟨a, Nat.le_refl _, ha, rfl, by rw [allTo_start]⟩
  case round =>
    obtain ⟨k, hak, hk, rfl, rfl⟩ := hrel
    by_cases hlt : k < n
    · obtain ⟨b, o, rfl, _, hcell⟩ := HB1.out.2.2 k hlt
      have HS := Lib.hid (allTo_succ xs a k hak (by rw [HL.out]; exact hlt))
      generalize xs.getD k 0 = y at hcell HS
      generalize hB : allTo xs a k = B at HS ⊢
      clear hB
      cases B
      all_goals
        go_wp2_with fail
        go_round
        case rel => exact ⟨k + 1, by omega, by omega, by go_num, by rw [HS.out]; simp⟩
        case measure => simp [intOf]; omega
    · obtain rfl : k = n := by omega
      rw [allTo_end xs a k (by rw [HL.out]; exact Nat.le_refl _)]
      cases hbl : RecM.blank xs a with
      | true =>
        have E := Lib.hid (c_blank (xs := xs) (a := a) (by rw [HL.out]; exact ha) hbl)
        clear hbl
        go_wp2_with fail
        go_ret3
        obtain ⟨e1, e2, e3⟩ := E.out
        rw [e1, e2, e3]
        exact Cls.of rfl rfl (none_bs _ _) (fun e => by cases e) (Nat.le_refl _) HW.out
      | false =>
        have halt : a < k := by
          rcases Nat.lt_or_ge a k with h | h
          · exact h
          · have : RecM.blank xs a = true := by
              unfold RecM.blank
              rw [List.drop_eq_nil_of_le (by rw [HL.out]; exact h)]
              rfl
            rw [hbl] at this
            cases this
        have HBL := Lib.hid hbl
        obtain ⟨b, o, rfl, _, hcell⟩ := HB1.out.2.2 a halt
        clear hbl
        obtain ⟨f, hf⟩ : ∃ f, xs.getD a 0 = f := ⟨_, rfl⟩
        have HF := Lib.hid hf
        rw [hf] at hcell
        clear hf
        by_cases hst : stOf f = 3
        · have E := Lib.hid (c_torn (xs := xs) (a := a) (by rw [HL.out]; exact ha) HBL.out (.inl (by rw [HF.out]; exact hst)))
          have f1 : (f == 127) = false := beq_eq_false_iff_ne.2 (by rintro rfl; revert hst; decide)
          have f2 : (f == 63) = false := beq_eq_false_iff_ne.2 (by rintro rfl; revert hst; decide)
          have f3 : (f == 95) = false := beq_eq_false_iff_ne.2 (by rintro rfl; revert hst; decide)
          have f4 : (f == 31) = false := beq_eq_false_iff_ne.2 (by rintro rfl; revert hst; decide)
          clear hst
          go_wp2_with fail
          go_ret3
          obtain ⟨e1, e2, e3⟩ := E.out
          rw [e1, e2, e3]
          exact Cls.of rfl rfl (none_bs _ _) (fun e => by cases e) (Nat.le_refl _) HW.out
        · have hff : f = 127 ∨ f = 63 ∨ f = 95 ∨ f = 31 := by
            by_cases g1 : f = 127
            · exact .inl g1
            by_cases g2 : f = 63
            · exact .inr (.inl g2)
            by_cases g3 : f = 95
            · exact .inr (.inr (.inl g3))
            by_cases g4 : f = 31
            · exact .inr (.inr (.inr g4))
            · exact absurd (st_other g1 g2 g3 g4) hst
          have HST := Lib.hid hst
          clear hst
          by_cases h8 : k < a + 8
          · have E := Lib.hid (c_torn (xs := xs) (a := a) (by rw [HL.out]; exact ha) HBL.out (.inr fun h => by have := h.1; rw [HL.out] at this; omega))
            have d8 : decide ((k : Int) - a < 8) = true := by simp; omega
            rcases hff with rfl | rfl | rfl | rfl
            all_goals
              go_wp2_with fail
              go_ret3
              obtain ⟨e1, e2, e3⟩ := E.out
              rw [e1, e2, e3]
              exact Cls.of rfl rfl (none_bs _ _) (fun e => by cases e) (Nat.le_refl _) HW.out
          · have d8 : decide ((k : Int) - a < 8) = false := by simp; omega
            obtain ⟨r, hr⟩ : ∃ r, rlen xs a = r := ⟨_, rfl⟩
            have hrb := rlen_bd HB.out.2.1 a
            have hx1 := HB.out.bd (a + 1)
            have hx2 := HB.out.bd (a + 2)
            have hc1 := HB1.out.at_ (a + 1) (by omega)
            have hc2 := HB1.out.at_ (a + 2) (by omega)
            rw [hr] at hrb
            generalize xs.getD (a + 1) 0 = x1 at *
            generalize xs.getD (a + 2) 0 = x2 at *
            have HR := Lib.hid hr
            obtain ⟨hrb, hre0⟩ := hrb
            have hre : 256 * x1 + x2 = (r : Int) := hre0.symm
            clear hre0
            have i1 : IntKind.i64.wrap (256 * x1) = 256 * x1 := IntWalk.i64_in _ (by omega)
            have i2 : IntKind.i64.wrap (256 * x1 + x2) = (r : Int) := by rw [hre]; exact IntWalk.i64_in _ (by omega)
            clear hr
            have s1 := fun w : World => slice_mid (w := w) (b := b) (o := o) (n := k) (c := c) (lo := a + 1) (hi := a + 3) (N := 2) (l := (a : Int) + 1) (h := (a : Int) + 3) (by omega) (by omega) (by omega) (by omega) (by omega)
            by_cases h9 : k < a + 8 + r
            · have E := Lib.hid (c_torn (xs := xs) (a := a) (by rw [HL.out]; exact ha) HBL.out (.inr fun h => by have := h.1; rw [HL.out, HR.out] at this; omega))
              have d9 : decide ((k : Int) - a - 8 < r) = true := by simp; omega
              rcases hff with rfl | rfl | rfl | rfl
              all_goals
                go_wp2_with fail
                go_quiet (fail)
                go_wp2_with fail
                go_ret3
                obtain ⟨e1, e2, e3⟩ := E.out
                rw [e1, e2, e3]
                exact Cls.of rfl rfl (none_bs _ _) (fun e => by cases e) (Nat.le_refl _) (HW.out.trans (below_drewN (Below.refl _ _) _))
            · have d9 : decide ((k : Int) - a - 8 < r) = false := by simp; omega
              have hy := HB1.out.at_ (a + 7 + r) (by omega)
              obtain ⟨y, hye⟩ : ∃ y, xs.getD (a + 7 + r) 0 = y := ⟨_, rfl⟩
              have HY := Lib.hid hye
              rw [hye] at hy
              clear hye
              by_cases hy0 : y = 0
              · subst hy0
                have HFR := Lib.hid (front_of HB1.out a (by omega))
                have hre0 := rec_of HB1.out a (by rw [HR.out]; omega)
                rw [HR.out] at hre0
                have HRE := Lib.hid hre0
                clear hre0
                have s2 := fun w : World => slice_mid (w := w) (b := b) (o := o) (n := k) (c := c) (lo := a + 7) (hi := a + 7 + r) (N := r) (l := (a : Int) + 7) (h := (a : Int) + 7 + r) (by omega) (by omega) (by omega) (by omega) (by omega)
                have HG := Lib.hid (fun (v : World) (h : Bs v (some ⟨b, o, none⟩) k xs) => get_sum _ k c xs a v h hn (by omega))
                obtain ⟨fs, hfs⟩ : ∃ fs, (xs.drop (a + 1)).take 2 = fs := ⟨_, rfl⟩
                obtain ⟨rs, hrs⟩ : ∃ rs, rec_ xs a = rs := ⟨_, rfl⟩
                obtain ⟨s, hs⟩ : ∃ s, getn xs (a + 3) 4 = s := ⟨_, rfl⟩
                have HFS := Lib.hid hfs
                have HRS := Lib.hid hrs
                have HSS := Lib.hid hs
                rw [hfs] at HFR
                rw [hrs] at HRE
                rw [hs] at HG
                clear hfs hrs hs
                have hub := SumM.sum_bd (fs ++ rs)
                obtain ⟨u, hu⟩ : ∃ u, SumM.sum (fs ++ rs) = u := ⟨_, rfl⟩
                have HU := Lib.hid hu
                rw [hu] at hub
                clear hu
                rcases hff with rfl | rfl | rfl | rfl
                all_goals
                  go_wp2_with fail
                  go_quiet (fail)
                  have hd1 : Below W.heap.size W (W.drewN nq) := below_drewN (Below.refl _ _) _
                  obtain ⟨V, hV⟩ : ∃ V, W.drewN nq = V := ⟨_, rfl⟩
                  rw [hV] at hd1 ⊢
                  have hvz : V.heap.size = W.heap.size := by rw [← hV]; rfl
                  have HD := Lib.hid hd1
                  have HVZ := Lib.hid hvz
                  have HFR1 := Lib.hid (HFR.out.below hd1)
                  have HRE1 := Lib.hid (HRE.out.below hd1)
                  have HB2 := Lib.hid (HB1.out.below hd1)
                  have hy2 : V.cell? ⟨b, o + (a + 7 + r), none⟩ = some (.int .u8 0) := by rw [← hV]; exact hy
                  clear hV hd1 hvz
                  go_wp2_with (first
                    | ((with_reducible refine pick (some 106) ?_); refine wpList_append_bytes rfl (.tmp 99) (.tmp 105) _ rfl V.heap.size 5 Tryz.underlying38 info8 V.heap.size 0 0 [] rfl (Ob.new_ V _ (Nat.le_refl _)) (some ⟨b, o + (a + 1), none⟩) 2 (c - (a + 1)) fs rfl (HFR1.out.below ((Below.refl _ _).alloc (Nat.le_refl _) _)) (fun e => by cases e) 2 rfl fs rfl (by omega) (by simp) ?_; intro g3 cap3 w3 hown3 hg3 _; have hbel3 : Below V.heap.size V w3 := ((Below.refl _ _).alloc (Nat.le_refl _) _).grown hg3 (by simp) (by intro k hk; injection hk with hk; omega); clear hg3; have hz3 := hbel3.size; have hp3 := hown3.place)
                    | ((with_reducible refine pick (some 116) ?_); refine wpList_append_bytes rfl (.tmp 107) (.tmp 115) _ rfl V.heap.size 5 Tryz.underlying38 info8 g3 2 cap3 fs rfl hown3 (some ⟨b, o + (a + 7), none⟩) r (c - (a + 7)) rs rfl (HRE1.out.below hbel3) (fun e => by cases e) (r + 2) (by omega) (fs ++ rs) rfl (by omega) (by omega) ?_; intro g4 cap4 w4 hown4 hg4 _; have hbel4 : Below V.heap.size V w4 := hbel3.grown hg4 (by omega) (by intro k hk; injection hk with hk; omega); clear hg4 hown3 hbel3))
                  refine (HG.out _ (HB2.out.below hbel4)).mono ?_
                  rintro e w' ⟨rfl, rfl⟩
                  have HO4 := Lib.hid hown4
                  have HB4 := Lib.hid hbel4
                  clear hown4 hbel4
                  go_wp2_with fail
                  refine (refsum_calls _ (r + 2) cap4 (fs ++ rs) _ HO4.out.bs (by unfold maxLen; omega)).mono ?_
                  rintro e w' ⟨rfl, rfl⟩
                  rw [HU.out]
                  by_cases hus : u = s
                  · have E := Lib.hid (c_rec (xs := xs) (a := a) (by rw [HL.out]; exact ha) HBL.out (by rw [HF.out]; exact HST.out) ⟨by rw [HL.out, HR.out]; omega, by rw [HR.out]; exact HY.out, by rw [HFS.out, HRS.out, HU.out, HSS.out]; exact hus⟩)
                    subst hus
                    have hne : (u != u) = false := by simp
                    have HO := slice_two (g := g4) HO4.out.capLe
                    obtain ⟨O, hsl, hO⟩ := HO
                    have HOO := Lib.hid hO
                    have q1 : IntKind.i64.wrap ((a : Int) + 8) = (a : Int) + 8 := IntWalk.i64_in _ (by omega)
                    have q2 : IntKind.i64.wrap ((a : Int) + 8 + r) = (a : Int) + 8 + r := IntWalk.i64_in _ (by omega)
                    clear hO
                    go_wp2_with fail
                    go_quiet (fail)
                    go_wp2_with fail
                    go_ret3
                    obtain ⟨e1, e2, e3⟩ := E.out
                    have h1 := HD.out.trans (HB4.out.mono (Nat.le_of_eq HVZ.out.symm))
                    rw [e1, e2, e3, HF.out, HR.out, HRS.out]
                    exact Cls.of HRE.out.len (ret_cls (by decide) (by omega)) (two_of HO4.out.bs HFR.out.len HRE.out.len HOO.out) (fun e => by cases e) (by have := HO4.out.capLe; omega) ((HW.out.trans (h1.mono HW.out.size)).trans (below_drewN (Below.refl _ _) _))
                  · have E := Lib.hid (c_torn (xs := xs) (a := a) (by rw [HL.out]; exact ha) HBL.out (.inr fun h => by have := h.2.2; rw [HFS.out, HRS.out, HU.out, HSS.out] at this; exact hus this))
                    have hne : (u != s) = true := by rw [bne_iff_ne]; exact hus
                    clear hus
                    go_wp2_with fail
                    go_ret3
                    obtain ⟨e1, e2, e3⟩ := E.out
                    rw [e1, e2, e3]
                    refine Cls.of rfl rfl (none_bs _ _) (fun e => by cases e) (Nat.le_refl _) ?_
                    have h1 := HD.out.trans (HB4.out.mono (Nat.le_of_eq HVZ.out.symm))
                    exact HW.out.trans (h1.mono HW.out.size)
              · have E := Lib.hid (c_torn (xs := xs) (a := a) (by rw [HL.out]; exact ha) HBL.out (.inr fun h => by have := h.2.1; rw [HR.out, HY.out] at this; exact hy0 this))
                have hne : (y != 0) = true := by rw [bne_iff_ne]; exact hy0
                clear hy0
                rcases hff with rfl | rfl | rfl | rfl
                all_goals
                  go_wp2_with fail
                  go_quiet (fail)
                  go_wp2_with fail
                  go_ret3
                  obtain ⟨e1, e2, e3⟩ := E.out
                  rw [e1, e2, e3]
                  exact Cls.of rfl rfl (none_bs _ _) (fun e => by cases e) (Nat.le_refl _) (HW.out.trans (below_drewN (Below.refl _ _) _))
theorem class_calls (A : Option Addr) (n c : Nat) (xs : List Int) (a : Int) (w : World) (hb : Bs w A n xs) (hn : n ≤ 140737488355328) (hc : n ≤ c) :
    Calls Tryz.prog 48 #[.slice A n c, .int .i64 a] w (Cls (cs xs a) (cr xs a) (ce xs a) w) := by
  by_cases ha : a < 0 ∨ (n : Int) < a
  · exact class_arg A n c xs a w hb ha
  · obtain ⟨i, rfl⟩ := Int.eq_ofNat_of_zero_le (show 0 ≤ a by omega)
    exact class_in A n c xs i w hb hn hc (by omega)
end Go.Proofs.YthbafcihmcjchaaGreatDoor.RecY
