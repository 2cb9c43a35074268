/- The walk of layer 5's law HeadLess. -/
import Derived.Test.YthiienhlklommaaDoorHeadX
import Derived.Test.YthiienhlklommaaDoorStillV
import Derived.IntWalk
namespace Go.Proofs.YthiienhlklommaaDoor.HeadE
set_option linter.unusedVariables false
set_option linter.unusedSimpArgs false
open Go.RowKit
open Go.Proofs.YthiienhlklommaaDoor.Byte Go.Proofs.YthiienhlklommaaDoor.PackM Go.Proofs.YthiienhlklommaaDoor.PackV Go.Proofs.YthiienhlklommaaDoor.MayM Go.Proofs.YthiienhlklommaaDoor.MayR Go.Proofs.YthiienhlklommaaDoor.HeadM Go.Proofs.YthiienhlklommaaDoor.HeadR Go.Proofs.YthiienhlklommaaDoor.HeadS Go.Proofs.YthiienhlklommaaDoor.HeadW Go.Proofs.YthiienhlklommaaDoor.HeadF Go.Proofs.YthiienhlklommaaDoor.HeadX Go.Proofs.YthiienhlklommaaDoor.StillV
attribute [local go_sem ↓] Go.wp_at_zero Go.wp_at_succ

theorem u8and (a b : Int) (h0 : 0 ≤ a) (h1 : a ≤ 255) (h2 : 0 ≤ b) (h3 : b ≤ 255) : 0 ≤ bits .and .u8 a b ∧ bits .and .u8 a b ≤ 255 := by
  rw [u8_and _ _ h0 (by omega) h2 (by omega)]
  have : a.toNat &&& b.toNat ≤ a.toNat := Nat.and_le_left
  omega
theorem xor_bd (x y : Int) (h0 : 0 ≤ x) (h1 : x ≤ 255) (h2 : 0 ≤ y) (h3 : y ≤ 255) : 0 ≤ bits .xor .u8 x y ∧ bits .xor .u8 x y ≤ 255 := by
  rw [u8_xor x y h0 (by omega) h2 (by omega)]
  have hlt : x.toNat ^^^ y.toNat < 2 ^ 8 := Nat.xor_lt_two_pow (by omega) (by omega)
  exact ⟨by omega, by omega⟩
theorem grown_cell (w : World) (p : Addr) (v : Value) : w.grownBy (w.setCell p v) (some p.block) :=
  ⟨rfl, rfl, rfl, by simp [World.setCell], fun k _ hne => Below.heap_setCell w p v k (fun e => hne (by rw [e]))⟩
theorem cell_grown {w w' : World} {g : Nat} {a : Addr} {v : Value} (h : w.cell? a = some v) (hg : w.grownBy w' (some g)) (hne : a.block ≠ g) : w'.cell? a = some v :=
  (World.cell?_of_block (w := w) (hg.block a.block (World.block_lt_of_cell? w a h) (fun e => hne (by injection e)))).trans h
theorem GX.grown {w W W' : World} {n z : Int} {g base : Nat} (h : GX w W n z) (hg : W.grownBy W' (some g)) (_ : w.heap.size ≤ base) (hb : base ≤ g) (hlt : w.heap.size < base) : GX w W' n z :=
  ⟨cell_grown h.c0 hg (by show w.heap.size ≠ g; omega), cell_grown h.c1 hg (by show w.heap.size ≠ g; omega), h.bel.grown hg h.bel.size (by intro k hk; injection hk with hk; omega)⟩
theorem bs_grown {w w' : World} {b g n : Nat} {xs : List Int} (h : Bs w (some ⟨b, 0, none⟩) n xs) (hg : w.grownBy w' (some g)) (hne : b ≠ g) : Bs w' (some ⟨b, 0, none⟩) n xs :=
  ⟨h.1, h.2.1, fun k hk => by
    obtain ⟨b', o', e, hlt, hc⟩ := h.2.2 k hk
    injection e with e
    injection e with e1 e2
    subst e1
    exact ⟨b, o', by rw [e2], Nat.lt_of_lt_of_le hlt hg.size, cell_grown hc hg hne⟩⟩
theorem andNot_bd (a b : Int) (h0 : 0 ≤ a) (h1 : a ≤ 255) (h2 : 0 ≤ b) (h3 : b ≤ 255) : 0 ≤ bits .andNot .u8 a b ∧ bits .andNot .u8 a b ≤ 255 := by
  rw [u8_andNot _ _ h0 (by omega) h2 (by omega)]
  have : a.toNat &&& (255 - b.toNat) ≤ a.toNat := Nat.and_le_left
  omega
theorem at_bytes {w : World} {g n c i : Nat} (hi : i < n) : (Instr.indexAt 26 (.slice (some ⟨g, 0, none⟩) n c) (.int .i64 (i : Int))).run Tryd.prog w = .ok (.pointer (some ⟨g, i, none⟩)) w := by
  have hs : (sizeOf (Tryd.prog.elem 26)).run Tryd.prog w = .ok 1 w := by kernel_rfl
  have hT : Tryd.prog.underlying 26 = some (.slice (Tryd.prog.elem 26)) := by kernel_rfl
  rw [run_indexAt_slice (h := hT), if_pos (by omega), hs]
  have e2 : (i : Int).toNat = i := by omega
  simp [Addr.add, e2]
  omega
theorem at_eight {w : World} {g i : Nat} (hi : i < 8) : (Instr.indexAt 24 (.pointer (some ⟨g, 0, none⟩)) (.int .i64 (i : Int))).run Tryd.prog w = .ok (.pointer (some ⟨g, i, none⟩)) w := by
  rcases (show i = 0 ∨ i = 1 ∨ i = 2 ∨ i = 3 ∨ i = 4 ∨ i = 5 ∨ i = 6 ∨ i = 7 by omega) with rfl | rfl | rfl | rfl | rfl | rfl | rfl | rfl <;> kernel_rfl
set_option maxRecDepth 100000 in
set_option maxHeartbeats 4000000 in
theorem less_no (n z k mask : Int) (w : World) (hmz : may n z = false) (hE : Example w) : Calls Tryd.prog 5 #[.agg #[.int .i64 n, .int .i64 z], .int .u8 k, .int .u8 mask] w fun e w' => e = .returned (.bool true) ∧ Below w.heap.size w w' := by
  have HE := Lib.hid hE
  have HX := Lib.hid (GX.of w n z)
  have hmay : Hid (∀ w, Calls Tryd.prog 11 #[.agg #[.int .i64 n, .int .i64 z]] w fun e w' => e = .returned (.bool false) ∧ Below w.heap.size w w') := Lib.hid fun w => by
    have := refMay_any n z w
    rw [hmz] at this
    exact this
  clear hE hmz
  go_enter Tryd.func5, Tryd.ntmps5
  go_wp2_with fail
  refine (hmay.out _).mono ?_
  rintro e w1 ⟨rfl, hb1⟩
  have HX1 := Lib.hid (HX.out.below hb1)
  clear hb1
  go_wp2_with fail
  refine (fixed_calls _ (HE.out.below HX1.out.bel)).mono ?_
  rintro e w2 ⟨rfl, hb2⟩
  have HX2 := Lib.hid (HX1.out.below hb2)
  go_wp2_with fail
  go_ret
  exact ⟨rfl, HX2.out.bel⟩
set_option maxRecDepth 100000 in
set_option maxHeartbeats 6000000 in
theorem less_yes (n : Int) (z : Nat) (k mask : Int) (w : World) (hmz : may n z = true) (hk0 : 0 ≤ k) (hk1 : k ≤ 255) (hm0 : 0 ≤ mask) (hm1 : mask ≤ 255) (hE : Example w) : Calls Tryd.prog 5 #[.agg #[.int .i64 n, .int .i64 z], .int .u8 k, .int .u8 mask] w fun e w' => e = .returned (.bool true) ∧ Below w.heap.size w w' := by
  have HE := Lib.hid hE
  have hz := may_yes hmz
  have HM := Lib.hid hmz
  have HX := Lib.hid (GX.of w n z)
  have hmay : Hid (∀ w, Calls Tryd.prog 11 #[.agg #[.int .i64 n, .int .i64 (z : Int)]] w fun e w' => e = .returned (.bool true) ∧ Below w.heap.size w w') := Lib.hid fun w => by
    have := refMay_any n z w
    rw [hmz] at this
    exact this
  obtain ⟨q, hq⟩ : ∃ q : Nat, k % 8 = (q : Int) := ⟨(k % 8).toNat, by omega⟩
  have hq8 : q < 8 := by omega
  obtain ⟨x0, x1, x2, x3, x4, x5, x6, x7, hx⟩ := hd8 n z
  have hbd := hd_bd n z
  clear hE hmz
  go_enter Tryd.func5, Tryd.ntmps5
  go_upto_region 1 with (fail)
  change Code.wp _ _ _ _ (w.alloc (.cells #[.int .i64 n, .int .i64 (z : Int)] 23))
  generalize w.alloc (.cells #[.int .i64 n, .int .i64 (z : Int)] 23) = W0 at *
  have b0 := HX.out.c0
  have b1 := HX.out.c1
  go_wp2_with fail
  refine (hmay.out _).mono ?_
  rintro e w1 ⟨rfl, hb1⟩
  have HX1 := Lib.hid (HX.out.below hb1)
  clear b0 b1 hb1
  have b0 := HX1.out.c0
  have b1 := HX1.out.c1
  go_wp2_with fail
  refine (of_calls n z _).mono ?_
  rintro e w2 ⟨rfl, hb2⟩
  have HX2 := Lib.hid (HX1.out.below hb2)
  have hbs := hd_bs w2 24 n z
  rw [hx] at hbs hbd ⊢
  simp only [List.map_cons, List.map_nil]
  have HX0 := Lib.hid hx
  have HBD := Lib.hid hbd
  clear hb2 b0 b1 hx hbd
  go_upto_region 4 with (fail)
  change Code.wp _ _ _ _ (w2.alloc (.cells #[.int .u8 x0, .int .u8 x1, .int .u8 x2, .int .u8 x3, .int .u8 x4, .int .u8 x5, .int .u8 x6, .int .u8 x7] 24))
  have hb3 : Below w2.heap.size w2 (w2.alloc (.cells #[.int .u8 x0, .int .u8 x1, .int .u8 x2, .int .u8 x3, .int .u8 x4, .int .u8 x5, .int .u8 x6, .int .u8 x7] 24)) := (Below.refl _ _).alloc (Nat.le_refl _) _
  have HBS : Hid (Bs (w2.alloc (.cells #[.int .u8 x0, .int .u8 x1, .int .u8 x2, .int .u8 x3, .int .u8 x4, .int .u8 x5, .int .u8 x6, .int .u8 x7] 24)) (some ⟨w2.heap.size, 0, none⟩) 8 [x0, x1, x2, x3, x4, x5, x6, x7]) := Lib.hid hbs
  have HX3 := Lib.hid (HX2.out.below hb3)
  have hgh : w2.heap.size < (w2.alloc (.cells #[.int .u8 x0, .int .u8 x1, .int .u8 x2, .int .u8 x3, .int .u8 x4, .int .u8 x5, .int .u8 x6, .int .u8 x7] 24)).heap.size := by simp
  clear hbs hb3
  generalize w2.alloc (.cells #[.int .u8 x0, .int .u8 x1, .int .u8 x2, .int .u8 x3, .int .u8 x4, .int .u8 x5, .int .u8 x6, .int .u8 x7] 24) = W3 at *
  have b0 := HX3.out.c0
  have b1 := HX3.out.c1
  have hqi : (q : Int) ≤ 8 := by omega
  go_upto_region 7 with (first
    | (go_at_call 12; refine (sector_calls n z none 0 0 [] W3 (by omega) (by omega) (Bs.nil_ _ _)).mono ?_; rintro e w4 ⟨g1, cap1, rfl, hcl1, ho1, hb4⟩; have HX4 := Lib.hid (HX3.out.below hb4); have HO1 := Lib.hid ho1; have HBS4 := Lib.hid (HBS.out.below hb4); have hs4 := hb4.size; clear b0 b1 ho1 hb4)
    | ((with_reducible refine pick (some 30) ?_); refine wpList_copy_any rfl _ _ _ _ rfl 5 Tryd.underlying26 size8 W3.heap.size g1 z cap1 (sec z []) rfl HO1.out (some ⟨w2.heap.size, 0, none⟩) q 8 ([x0, x1, x2, x3, x4, x5, x6, x7].take q) rfl (by have := HBS4.out.sub 0 q (by omega); rwa [List.drop_zero, Nat.add_zero] at this) _ rfl ?_; intro w5 hown5 hg5; have HO5 := Lib.hid hown5; have HG5 := Lib.hid hg5; clear hown5 hg5))
  have hg1p := HO1.out.place
  have hs5 := HG5.out.size
  generalize over (sec z []) 0 (([x0, x1, x2, x3, x4, x5, x6, x7].take q).take (min q z)) = La at HO5
  have HX5 := Lib.hid (GX.grown HX4.out HG5.out (by have := HX3.out.bel.size; omega) (by omega) (by have := HX3.out.c0; exact World.block_lt_of_cell? W3 ⟨w.heap.size, 0, none⟩ this))
  have HBS5 := Lib.hid (bs_grown HBS4.out HG5.out (by omega))
  have b0 := HX5.out.c0
  simp only [Act.put, List.setIfInBounds_toArray, List.set_cons_zero, List.set_cons_succ]
  refine tail_drew 12 (by kernel_rfl) (by kernel_rfl) ?_
  have HX6 := Lib.hid (HX5.out.below ((Below.refl _ w5).drew))
  have HO6 := Lib.hid (HO5.out.below ((Below.refl _ w5).drew))
  have HBS6 := Lib.hid (HBS5.out.below ((Below.refl _ w5).drew))
  have hs6 : w5.drew.heap.size = w5.heap.size := rfl
  clear b0
  generalize w5.drew = W6 at *
  have y1c := HO6.out.cell q (by omega)
  have y1f := HO6.out.frozen q
  have hhc := HBS6.out.at_ q hq8
  rw [Nat.zero_add] at hhc
  have y1b := HO6.out.bs.bd q
  have hhb := HBS6.out.bd q
  generalize hy1 : La.getD q 0 = y1 at y1c y1b
  generalize hh1 : ([x0, x1, x2, x3, x4, x5, x6, x7] : List Int).getD q 0 = hh at hhc hhb
  clear hy1 hh1
  simp only [List.take_succ_cons, List.take_zero, List.drop_succ_cons, List.drop_zero]
  refine still_val (.slice (some ⟨g1, 0, none⟩) z cap1) (by kernel_rfl) (by kernel_rfl) ?_
  refine still_val (.int .i64 (q : Int)) (by kernel_rfl) (by kernel_rfl) ?_
  refine still_val (.pointer (some ⟨g1, q, none⟩)) (by kernel_rfl) (still_index (.slice (some ⟨g1, 0, none⟩) z cap1) (.int .i64 (q : Int)) rfl (by kernel_rfl) (by kernel_rfl) (at_bytes (by omega))) ?_
  refine still_val (.int .u8 y1) (by kernel_rfl) (still_load (.pointer (some ⟨g1, q, none⟩)) rfl (by kernel_rfl) (by go_simp)) ?_
  refine still_val (.int .i64 (q : Int)) (by kernel_rfl) (by kernel_rfl) ?_
  refine still_val (.pointer (some ⟨w2.heap.size, q, none⟩)) (by kernel_rfl) (still_index (.pointer (some ⟨w2.heap.size, 0, none⟩)) (.int .i64 (q : Int)) rfl (by kernel_rfl) (by kernel_rfl) (at_eight hq8)) ?_
  refine still_val (.int .u8 hh) (by kernel_rfl) (still_load (.pointer (some ⟨w2.heap.size, q, none⟩)) rfl (by kernel_rfl) (by go_simp)) ?_
  refine still_val (.int .u8 mask) (by kernel_rfl) (by kernel_rfl) ?_
  refine still_val (.int .u8 (bits .xor .u8 255 mask)) (by kernel_rfl) (still_un (.int .u8 mask) rfl (by kernel_rfl) (by kernel_rfl)) ?_
  refine still_val (.int .u8 (bits .or .u8 hh (bits .xor .u8 255 mask))) (by kernel_rfl) (still_bin (.int .u8 hh) (.int .u8 (bits .xor .u8 255 mask)) rfl (by kernel_rfl) (by kernel_rfl) (by go_simp) (by go_simp)) ?_
  refine still_val (.int .u8 (bits .and .u8 y1 (bits .or .u8 hh (bits .xor .u8 255 mask)))) (by kernel_rfl) (still_bin (.int .u8 y1) (.int .u8 (bits .or .u8 hh (bits .xor .u8 255 mask))) rfl (by kernel_rfl) (by kernel_rfl) (by go_simp) (by go_simp)) ?_
  refine still_val (.pointer (some ⟨g1, q, none⟩)) (by kernel_rfl) (still_index (.slice (some ⟨g1, 0, none⟩) z cap1) (.int .i64 (q : Int)) rfl (by kernel_rfl) (by kernel_rfl) (at_bytes (by omega))) ?_
  refine still_end ?_
  simp only [Act.put, List.setIfInBounds_toArray, List.set_cons_zero, List.set_cons_succ]
  have hvb := u8and y1 (bits .or .u8 hh (bits .xor .u8 255 mask)) y1b.1 y1b.2 (u8or _ _ hhb.1 hhb.2 (xor_bd 255 mask (by omega) (by omega) hm0 hm1).1 (xor_bd 255 mask (by omega) (by omega) hm0 hm1).2).1 (u8or _ _ hhb.1 hhb.2 (xor_bd 255 mask (by omega) (by omega) hm0 hm1).1 (xor_bd 255 mask (by omega) (by omega) hm0 hm1).2).2
  generalize bits .and .u8 y1 (bits .or .u8 hh (bits .xor .u8 255 mask)) = va at *
  have HOa := Lib.hid (HO6.out.set_ q va hvb.1 hvb.2)
  have HXa := Lib.hid (GX.grown HX6.out (grown_cell W6 ⟨g1, q, none⟩ (.int .u8 va)) (by have := HX3.out.bel.size; omega) (by show W3.heap.size ≤ g1; omega) (by have := HX3.out.c0; exact World.block_lt_of_cell? W3 ⟨w.heap.size, 0, none⟩ this))
  have HBSa := Lib.hid (bs_grown HBS6.out (grown_cell W6 ⟨g1, q, none⟩ (.int .u8 va)) (by show w2.heap.size ≠ g1; omega))
  go_wp2_with fail
  generalize W6.setCell ⟨g1, q, none⟩ (.int .u8 va) = Wa at *
  generalize La.set q va = La2 at HOa
  have hsa : W3.heap.size ≤ Wa.heap.size := by have := HOa.out.place; omega
  have RD : Hid (∀ v, Below Wa.heap.size Wa v → Below Wa.heap.size Wa v ∧ v.cell? ⟨w.heap.size, 0, none⟩ = some (.int .i64 n) ∧ v.cell? ⟨w.heap.size, 1, none⟩ = some (.int .i64 (z : Int))) := Lib.hid fun v hv => ⟨hv, (HXa.out.below hv).c0, (HXa.out.below hv).c1⟩
  refine wp_region_noPanic ?_
  go_region_held3 (fun v => Below Wa.heap.size Wa v ∧ v.cell? ⟨w.heap.size, 0, none⟩ = some (.int .i64 n) ∧ v.cell? ⟨w.heap.size, 1, none⟩ = some (.int .i64 (z : Int)))
    (first
      | exact RD.out _ (Below.refl _ _)
      | exact RD.out _ (by assumption)
      | exact RD.out _ (Below.drew (by assumption))
      | exact RD.out _ (Below.drew (Below.refl _ _))
      | exact RD.out _ (And.left (by assumption)))
    (first
      | (go_at_call 12; refine (sector_calls n z (some ⟨w2.heap.size, 0, none⟩) 8 8 [x0, x1, x2, x3, x4, x5, x6, x7] _ (by omega) (by omega) (HBSa.out.below (And.left (by assumption)))).mono ?_; rintro e w8 ⟨g2, cap2, rfl, hcl2, ho2, hb8⟩; have hn8 : Below Wa.heap.size Wa w8 := keeps (And.left (by assumption)) hb8; have HO8 := Lib.hid (ob_base ho2 (Below.size (And.left (by assumption) : Below Wa.heap.size Wa _))); clear ho2 hb8))
  refine NoPanic.normal ?_
  have HX8 := Lib.hid (HXa.out.below hn8)
  have HA8 := Lib.hid (HOa.out.below hn8)
  have HBS8 := Lib.hid (HBSa.out.below hn8)
  have hg2p := HO8.out.place
  have hga : g1 < Wa.heap.size := HOa.out.place.2
  clear hn8 RD
  go_upto_region 10 with ((with_reducible refine pick none ?_); refine wpList_clear_front rfl _ _ rfl Wa.heap.size 5 Tryd.underlying26 zero_u8 g2 q z cap2 cap2 _ rfl HO8.out (by omega) ?_; intro w9 hown9 hg9; have HO9 := Lib.hid hown9; have HG9 := Lib.hid hg9; clear hown9 hg9)
  have hlt0 : w.heap.size < W3.heap.size := World.block_lt_of_cell? W3 ⟨w.heap.size, 0, none⟩ HX3.out.c0
  have HX9 := Lib.hid (GX.grown HX8.out HG9.out (Nat.le_of_lt hlt0) (by omega) hlt0)
  have HA9 := Lib.hid (bs_grown HA8.out.bs HG9.out (by omega))
  have HBS9 := Lib.hid (bs_grown HBS8.out HG9.out (by omega))
  generalize List.replicate q 0 ++ (sec z [x0, x1, x2, x3, x4, x5, x6, x7]).drop q = Lb at HO9
  have y2c := HO9.out.cell q (by omega)
  have y2f := HO9.out.frozen q
  have y2b := HO9.out.bs.bd q
  generalize Lb.getD q 0 = y2 at y2c y2b
  have hvb2 := andNot_bd y2 mask y2b.1 y2b.2 hm0 hm1
  go_upto_region 11 with (fail)
  generalize bits .andNot .u8 y2 mask = vb at *
  have HOb := Lib.hid (HO9.out.set_ q vb hvb2.1 hvb2.2)
  have HXb := Lib.hid (GX.grown HX9.out (grown_cell w9 ⟨g2, q, none⟩ (.int .u8 vb)) (Nat.le_of_lt hlt0) (by show W3.heap.size ≤ g2; omega) hlt0)
  have HBSb := Lib.hid (bs_grown HBS9.out (grown_cell w9 ⟨g2, q, none⟩ (.int .u8 vb)) (by show w2.heap.size ≠ g2; omega))
  have HAb := Lib.hid (bs_grown HA9.out (grown_cell w9 ⟨g2, q, none⟩ (.int .u8 vb)) (by show g1 ≠ g2; omega))
  clear y2c y2f
  generalize w9.setCell ⟨g2, q, none⟩ (.int .u8 vb) = Wb at *
  generalize Lb.set q vb = Lb2 at HOb
  have hg2b : g2 < Wb.heap.size := HOb.out.place.2
  have RDb : Hid (∀ v, Below Wb.heap.size Wb v → Below Wb.heap.size Wb v ∧ v.cell? ⟨w.heap.size, 0, none⟩ = some (.int .i64 n) ∧ v.cell? ⟨w.heap.size, 1, none⟩ = some (.int .i64 (z : Int))) := Lib.hid fun v hv => ⟨hv, (HXb.out.below hv).c0, (HXb.out.below hv).c1⟩
  clear HX HX1 HX2 HX3 HX4 HX5 HX6 HX8 HX9 HXa HA8 HA9 HBS HBS4 HBS5 HBS6 HBS8 HBS9 HBSa HO1 HO5 HO6 HO8 HO9 HOa HG5 HG9 y1c y1f y1b y2b hvb hvb2 hhb hhc
  refine wp_region_noPanic ?_
  go_region_held3 (fun v => Below Wb.heap.size Wb v ∧ v.cell? ⟨w.heap.size, 0, none⟩ = some (.int .i64 n) ∧ v.cell? ⟨w.heap.size, 1, none⟩ = some (.int .i64 (z : Int)))
    (first
      | exact RDb.out _ (Below.refl _ _)
      | exact RDb.out _ (by assumption)
      | exact RDb.out _ (Below.drew (by assumption))
      | exact RDb.out _ (Below.drew (Below.refl _ _))
      | exact RDb.out _ (And.left (by assumption)))
    (first
      | (go_at_call 8; refine (death_calls _).mono ?_; rintro e wd hmd; obtain ⟨g3, cap3, rfl, hod, hbd⟩ := hmd.at_ (N := 8) rfl; have hnd : Below Wb.heap.size Wb wd := keeps (And.left (by assumption)) hbd; have HOD := Lib.hid hod; clear hmd hod hbd)
      | (go_at_call 12; refine (sector_calls n z (some ⟨g3, 0, none⟩) 8 cap3 (List.replicate 8 0) wd (by omega) (by omega) HOD.out.bs).mono ?_; rintro e wc ⟨g4, cap4, rfl, hcl4, ho4, hb4⟩; have hnc : Below Wb.heap.size Wb wc := keeps (by assumption) hb4; have HOC := Lib.hid (ob_base ho4 (Below.size (by assumption) : Wb.heap.size ≤ wd.heap.size)); clear ho4 hb4))
  refine NoPanic.normal ?_
  have hg3 : Wb.heap.size ≤ g4 ∧ g4 < wc.heap.size := HOC.out.place
  have HBC := Lib.hid hnc
  have hlc : (sec z (List.replicate 8 0)).length = z := sec_len _ _
  obtain ⟨C0, hC0⟩ : ∃ C0, sec z (List.replicate 8 0) = C0 := ⟨_, rfl⟩
  rw [hC0] at HOC hlc
  have HC0 := Lib.hid hC0
  clear hC0 hnc HOD hnd RDb
  go_wp2_with fail
  go_loopw [60] (fun i wr => ∃ j : Nat, j ≤ q ∧ i = .int .i64 j ∧ Ob wr Wb.heap.size 5 g4 z cap4 (List.replicate j 255 ++ C0.drop j) ∧ Below Wb.heap.size Wb wr) (fun i _ => q - (intOf i).toNat)
  case atStart => exact ⟨0, Nat.zero_le _, rfl, HOC.out, HBC.out⟩
  case round =>
    obtain ⟨j, hj, rfl, hO, hL⟩ := hrel
    have HO := Lib.hid hO
    have HL := Lib.hid hL
    clear hO hL
    by_cases hlt : j < q
    · have hc := HO.out.cell j (by omega)
      have hf := HO.out.frozen j
      have hjz : j < z := by omega
      go_wp2_with fail
      have hset := HO.out.set_ j 255 (by omega) (by omega)
      rw [fillk_set C0 j (by omega)] at hset
      go_roundw
      case rel => exact ⟨j + 1, by omega, by go_num, hset, HL.out.setCell (by show Wb.heap.size ≤ g4; omega) _⟩
      case measure => simp [intOf]; omega
    · obtain rfl : j = q := by omega
      have hC1 : Hid (C0 = [0, 0, 0, 0, 0, 0, 0, 0] ++ List.replicate (z - 8) 255) := Lib.hid (by rw [← HC0.out, sec8 z (by omega)])
      have hc := HO.out.cell j (by omega)
      have hf := HO.out.frozen j
      have hC2 : (List.replicate j (255 : Int) ++ C0.drop j).getD j 0 = 0 := by
        rw [List.getD_eq_getElem?_getD, List.getElem?_append_right (by simp), List.length_replicate, Nat.sub_self, List.getElem?_drop, Nat.add_zero, hC1.out]
        rcases (show j = 0 ∨ j = 1 ∨ j = 2 ∨ j = 3 ∨ j = 4 ∨ j = 5 ∨ j = 6 ∨ j = 7 by omega) with rfl | rfl | rfl | rfl | rfl | rfl | rfl | rfl <;> rfl
      rw [hC2] at hc
      have hor := or0 mask hm0 hm1
      have HS := Lib.hid (HO.out.set_ j mask hm0 hm1)
      have HCL := Lib.hid (cls_c (n := n) (z := z) (q := j) (mask := mask) HM.out hq8)
      rw [HC0.out] at HCL
      have hjz : j < z := by omega
      clear hC2 hC1 HC0 hj hlt
      go_upto_region 18 with fail
      have HBd := Lib.hid (HL.out.setCell (p := ⟨g4, j, none⟩) (by show Wb.heap.size ≤ g4; omega) (.int .u8 mask))
      clear hc hf hor HL HO
      have hWs : wr.heap.size = (wr.setCell ⟨g4, j, none⟩ (.int .u8 mask)).heap.size := by simp
      generalize (List.replicate j (255 : Int) ++ C0.drop j).set j mask = C at HS HCL
      generalize wr.setCell ⟨g4, j, none⟩ (.int .u8 mask) = Wd at *
      have hl1 := HAb.out.len
      have hl2 := HOb.out.len
      have HLV1 := Lib.hid (live_is (n := n) HM.out hl1 HAb.out.2.1)
      have HLV2 := Lib.hid (live_is (n := n) HM.out hl2 HOb.out.bs.2.1)
      rw [HX0.out] at HLV1 HLV2
      generalize hx1 : cls n z La2 = k1 at HLV1
      generalize hx2 : cls n z Lb2 = k2 at HLV2
      obtain ⟨k3, hx3⟩ : ∃ k3, cls n z C = k3 := ⟨_, rfl⟩
      have HN3 := Lib.hid hx3
      have HCL3 : Hid (k3 = if j = 7 ∧ mask = 255 then 0 else 2) := Lib.hid (hx3.symm.trans HCL.out)
      clear hx3 HCL
      have HN1 := Lib.hid hx1
      have HN2 := Lib.hid hx2
      have HXd := Lib.hid (HXb.out.below HBd.out)
      have HAd := Lib.hid (HAb.out.below HBd.out)
      have HBe := Lib.hid (HOb.out.bs.below HBd.out)
      have HSd := Lib.hid (HBSb.out.below HBd.out)
      clear hx1 hx2 hl1 hl2 HAb HOb HBSb HXb
      have RDd : Hid (∀ v, Below Wd.heap.size Wd v → Below Wd.heap.size Wd v ∧ v.cell? ⟨w.heap.size, 0, none⟩ = some (.int .i64 n) ∧ v.cell? ⟨w.heap.size, 1, none⟩ = some (.int .i64 (z : Int))) := Lib.hid fun v hv => ⟨hv, (HXd.out.below hv).c0, (HXd.out.below hv).c1⟩
      refine wp_region_noPanic ?_
      go_region_held3 (fun v => Below Wd.heap.size Wd v ∧ v.cell? ⟨w.heap.size, 0, none⟩ = some (.int .i64 n) ∧ v.cell? ⟨w.heap.size, 1, none⟩ = some (.int .i64 (z : Int)))
        (first
          | exact RDd.out _ (Below.refl _ _)
          | exact RDd.out _ (by assumption)
          | exact RDd.out _ (Below.drew (by assumption))
          | exact RDd.out _ (Below.drew (Below.refl _ _))
          | exact RDd.out _ (And.left (by assumption)))
        (first
          | (go_at_call 13; (with_reducible refine (class_calls n z (some ⟨g1, 0, none⟩) z cap1 La2 _ (HAd.out.below (And.left (by assumption))) hcl1).mono ?_); rw [HN1.out]; rintro e we ⟨rfl, hb5⟩; have hne : Below Wd.heap.size Wd we := keeps (And.left (by assumption)) hb5; clear hb5)
          | (go_at_call 13; (with_reducible refine (class_calls n z (some ⟨g2, 0, none⟩) z cap2 Lb2 _ (HBe.out.below (And.left (by assumption))) hcl2).mono ?_); rw [HN2.out]; rintro e wf ⟨rfl, hb6⟩; have hnf : Below Wd.heap.size Wd wf := keeps (And.left (by assumption)) hb6; clear hb6)
          | (go_at_call 13; (with_reducible refine (class_calls n z (some ⟨g4, 0, none⟩) z cap4 C _ (HS.out.bs.below (And.left (by assumption))) hcl4).mono ?_); rw [HN3.out]; rintro e wg ⟨rfl, hb7⟩; have hng : Below Wd.heap.size Wd wg := keeps (And.left (by assumption)) hb7; clear hb7))
      refine NoPanic.normal ?_
      have HE9 := Lib.hid (HXd.out.below hng)
      have HA9 := Lib.hid (HAd.out.below hng)
      have HB9 := Lib.hid (HBe.out.below hng)
      have HS9 := Lib.hid (HSd.out.below hng)
      clear hne hnf hng HN1 HN2 HN3 RDd
      go_upto_region 19 with fail
      refine lit_drew (by kernel_rfl) (by kernel_rfl) ?_
      have HEa := Lib.hid (HE9.out.below ((Below.refl _ wg).drew))
      have hv1 := conv8 (c := cap1) (HA9.out.below ((Below.refl _ wg).drew)) (by omega)
      have hv2 := conv8 (c := cap2) (HB9.out.below ((Below.refl _ wg).drew)) (by omega)
      have hvU := conv8 (c := 8) (HS9.out.below ((Below.refl _ wg).drew)) (Nat.le_refl _)
      clear HE9 HA9 HB9 HS9
      have eU : ([x0, x1, x2, x3, x4, x5, x6, x7] : List Int).take 8 = [x0, x1, x2, x3, x4, x5, x6, x7] := rfl
      rw [eU] at hvU
      generalize wg.drew = Wg at *
      generalize str (La2.take 8) = T1 at *
      generalize str (Lb2.take 8) = T2 at *
      generalize str [x0, x1, x2, x3, x4, x5, x6, x7] = U at *
      refine still_val (.int .i64 k1) (by kernel_rfl) (by kernel_rfl) ?_
      refine still_val (.bool (decide (k1 = 1))) (by kernel_rfl) (still_bin (.int .i64 k1) (.int .i64 1) rfl (by kernel_rfl) (by kernel_rfl) (by go_simp) (eq_int k1 1)) ?_
      refine still_val (.slice (some ⟨g1, 0, none⟩) z cap1) (by kernel_rfl) (by kernel_rfl) ?_
      refine still_val (.slice (some ⟨g1, 0, none⟩) 8 cap1) (by kernel_rfl) (still_slice_hi (.slice (some ⟨g1, 0, none⟩) z cap1) (.int .i64 8) rfl (by kernel_rfl) (by kernel_rfl) (slice8 (by omega))) ?_
      refine still_val (.string T1) (by kernel_rfl) (still_conv (u := .slice (some ⟨g1, 0, none⟩) 8 cap1) rfl (by kernel_rfl) hv1) ?_
      refine still_val (.slice (some ⟨w2.heap.size, 0, none⟩) 8 8) (by kernel_rfl) (still_slice_all (.pointer (some ⟨w2.heap.size, 0, none⟩)) rfl (by kernel_rfl) slice88) ?_
      refine still_val (.string U) (by kernel_rfl) (still_conv (u := .slice (some ⟨w2.heap.size, 0, none⟩) 8 8) rfl (by kernel_rfl) hvU) ?_
      refine still_val (.bool (decide (k1 = 1))) (by kernel_rfl) (still_bin (.string T1) (.string U) rfl (by kernel_rfl) (by kernel_rfl) (by go_simp) ((eq_str T1 U).trans (by rw [HLV1.out]))) ?_
      refine still_val (.bool false) (by kernel_rfl) (still_bin (.bool (decide (k1 = 1))) (.bool (decide (k1 = 1))) rfl (by kernel_rfl) (by kernel_rfl) (by go_simp) (ne_bool _)) ?_
      refine still_val (.bool false) (by kernel_rfl) (by kernel_rfl) ?_
      refine still_val (.int .i64 k2) (by kernel_rfl) (by kernel_rfl) ?_
      refine still_val (.bool (decide (k2 = 1))) (by kernel_rfl) (still_bin (.int .i64 k2) (.int .i64 1) rfl (by kernel_rfl) (by kernel_rfl) (by go_simp) (eq_int k2 1)) ?_
      refine still_val (.slice (some ⟨g2, 0, none⟩) z cap2) (by kernel_rfl) (by kernel_rfl) ?_
      refine still_val (.slice (some ⟨g2, 0, none⟩) 8 cap2) (by kernel_rfl) (still_slice_hi (.slice (some ⟨g2, 0, none⟩) z cap2) (.int .i64 8) rfl (by kernel_rfl) (by kernel_rfl) (slice8 (by omega))) ?_
      refine still_val (.string T2) (by kernel_rfl) (still_conv (u := .slice (some ⟨g2, 0, none⟩) 8 cap2) rfl (by kernel_rfl) hv2) ?_
      refine still_val (.slice (some ⟨w2.heap.size, 0, none⟩) 8 8) (by kernel_rfl) (still_slice_all (.pointer (some ⟨w2.heap.size, 0, none⟩)) rfl (by kernel_rfl) slice88) ?_
      refine still_val (.string U) (by kernel_rfl) (still_conv (u := .slice (some ⟨w2.heap.size, 0, none⟩) 8 8) rfl (by kernel_rfl) hvU) ?_
      refine still_val (.bool (decide (k2 = 1))) (by kernel_rfl) (still_bin (.string T2) (.string U) rfl (by kernel_rfl) (by kernel_rfl) (by go_simp) ((eq_str T2 U).trans (by rw [HLV2.out]))) ?_
      refine still_val (.bool false) (by kernel_rfl) (still_bin (.bool (decide (k2 = 1))) (.bool (decide (k2 = 1))) rfl (by kernel_rfl) (by kernel_rfl) (by go_simp) (ne_bool _)) ?_
      refine still_val (.bool false) (by kernel_rfl) (by kernel_rfl) ?_
      refine still_end ?_
      simp only [Act.put, List.setIfInBounds_toArray, List.set_cons_zero, List.set_cons_succ]
      have HW := Lib.hid HEa.out.bel
      have HEx := Lib.hid (HE.out.below HW.out)
      have hK := HCL3.out
      clear HEa hv1 hv2 hvU HLV1 HLV2 HCL3 HXd HAd HBe HSd HS HBd HBC HOC
      have hcase : (j = 7 ∧ mask = 255 ∧ k3 = 0) ∨ (j = 7 ∧ (mask == 255) = false ∧ k3 = 2) ∨ (((j : Int) == 7) = false ∧ (j == 7) = false ∧ k3 = 2) := by
        by_cases h7 : j = 7
        · by_cases hm : mask = 255
          · exact .inl ⟨h7, hm, by rw [hK, if_pos ⟨h7, hm⟩]⟩
          · exact .inr (.inl ⟨h7, beq_eq_false_iff_ne.2 hm, by rw [hK, if_neg (fun h => hm h.2)]⟩)
        · exact .inr (.inr ⟨beq_eq_false_iff_ne.2 (by omega), beq_eq_false_iff_ne.2 h7, by rw [hK, if_neg (fun h => h7 h.1)]⟩)
      clear hK
      rcases hcase with ⟨rfl, rfl, rfl⟩ | ⟨rfl, e255, rfl⟩ | ⟨e7, e7', rfl⟩
      all_goals
        go_wp2_with fail
        refine (fixed_calls _ HEx.out).mono ?_
        rintro e wh ⟨rfl, hbh⟩
        have HBH := Lib.hid (keeps HW.out hbh)
        clear hbh
        go_wp2_with fail
      all_goals
        go_ret
        exact ⟨rfl, HBH.out⟩
theorem less_law (n z k mask : Int) (w : World) (hk0 : 0 ≤ k) (hk1 : k ≤ 255) (hm0 : 0 ≤ mask) (hm1 : mask ≤ 255) (hE : Example w) : Calls Tryd.prog 5 #[.agg #[.int .i64 n, .int .i64 z], .int .u8 k, .int .u8 mask] w fun e w' => e = .returned (.bool true) ∧ Below w.heap.size w w' := by
  cases h : may n z with
  | false => exact less_no n z k mask w h hE
  | true =>
    have hz := may_yes h
    obtain ⟨y, rfl⟩ := Int.eq_ofNat_of_zero_le (by omega : 0 ≤ z)
    exact less_yes n y k mask w h hk0 hk1 hm0 hm1 hE
end Go.Proofs.YthiienhlklommaaDoor.HeadE
