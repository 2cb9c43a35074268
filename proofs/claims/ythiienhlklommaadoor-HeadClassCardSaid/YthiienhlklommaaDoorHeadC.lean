/- The walk of layer 5's law HeadClass. -/
import Derived.Test.YthiienhlklommaaDoorHeadF
import Derived.Test.YthiienhlklommaaDoorConvS
namespace Go.Proofs.YthiienhlklommaaDoor.HeadC
set_option linter.unusedVariables false
set_option linter.unusedSimpArgs false
open Go.RowKit
open Go.Proofs.YthiienhlklommaaDoor.Byte Go.Proofs.YthiienhlklommaaDoor.PackM Go.Proofs.YthiienhlklommaaDoor.PackV Go.Proofs.YthiienhlklommaaDoor.MayM Go.Proofs.YthiienhlklommaaDoor.MayR Go.Proofs.YthiienhlklommaaDoor.HeadM Go.Proofs.YthiienhlklommaaDoor.HeadR Go.Proofs.YthiienhlklommaaDoor.HeadS Go.Proofs.YthiienhlklommaaDoor.HeadW Go.Proofs.YthiienhlklommaaDoor.HeadF Go.Proofs.YthiienhlklommaaDoor.ConvS
attribute [local go_sem ↓] Go.wp_at_zero Go.wp_at_succ

set_option maxRecDepth 100000 in
set_option maxHeartbeats 4000000 in
theorem class_plain (n z : Int) {a3 : Bool} (A : Option Addr) (m c : Nat) (xs : List Int) (w : World) (hb : Bs w A m xs) (hA : A = none → c = 0) (hm : m ≤ 5000) (hE : Example w) : Calls Tryd.prog 4 #[.agg #[.int .i64 n, .int .i64 z], .slice A m c, .bool false, .bool a3] w fun e w' => e = .returned (.bool true) ∧ Below w.heap.size w w' := by
  have HE := Lib.hid hE
  have HB := Lib.hid hb
  have d1 : decide ((5000 : Int) < (m : Int)) = false := by simp; omega
  have HX := Lib.hid (GX.of w n z)
  clear hE hb
  go_enter Tryd.func4, Tryd.ntmps4
  go_upto_region 1 with (fail)
  change Code.wp _ _ _ _ (w.alloc (.cells #[.int .i64 n, .int .i64 z] 23))
  generalize w.alloc (.cells #[.int .i64 n, .int .i64 z] 23) = W at *
  have HBW := Lib.hid (HB.out.below HX.out.bel)
  go_upto_region 4 with ((with_reducible refine pick (some 16) ?_); refine wpList_append_bytes rfl _ _ _ rfl W.heap.size 5 Tryd.underlying26 info8 W.heap.size 0 0 [] rfl (Ob.new_ W _ (Nat.le_refl _)) A m c xs rfl (HBW.out.below ((Below.refl _ _).alloc (Nat.le_refl _) _)) hA m (by omega) xs rfl (by omega) (by simp) ?_; intro g1 cap1 w1 ho1 hg1 hat1; have hb1 : Below W.heap.size W w1 := ((Below.refl _ _).alloc (Nat.le_refl _) _).grown hg1 (by simp) (by intro k hk; injection hk with hk; omega); have HX1 := Lib.hid (HX.out.below hb1); have HO1 := Lib.hid ho1.bs; have hcl1 := ho1.capLe; clear ho1 hg1 hat1 hb1)
  have b0 := HX1.out.c0
  have b1 := HX1.out.c1
  clear b0 b1
  have RD : Hid (∀ v, Below w1.heap.size w1 v → Below w1.heap.size w1 v ∧ v.cell? ⟨w.heap.size, 0, none⟩ = some (.int .i64 n) ∧ v.cell? ⟨w.heap.size, 1, none⟩ = some (.int .i64 z)) := Lib.hid fun v hv => ⟨hv, (HX1.out.below hv).c0, (HX1.out.below hv).c1⟩
  go_wp2_with fail
  refine wp_region_noPanic ?_
  go_region_held3 (fun v => Below w1.heap.size w1 v ∧ v.cell? ⟨w.heap.size, 0, none⟩ = some (.int .i64 n) ∧ v.cell? ⟨w.heap.size, 1, none⟩ = some (.int .i64 z))
    (first
      | exact RD.out _ (Below.refl _ _)
      | exact RD.out _ (by assumption)
      | exact RD.out _ (Below.drew (by assumption))
      | exact RD.out _ (Below.drew (Below.refl _ _))
      | exact RD.out _ (And.left (by assumption)))
    (first
      | (go_at_call 9; refine (fixed_calls _ (HE.out.below (HX1.out.bel.trans ((And.left (by assumption) : Below w1.heap.size w1 _).mono HX1.out.bel.size)))).mono ?_; rintro e v4 ⟨rfl, hb4⟩; have hn4 : Below w1.heap.size w1 v4 := keeps (And.left (by assumption)) hb4; clear hb4)
      | (go_at_call 13; refine (class_calls n z (some ⟨g1, 0, none⟩) m cap1 xs v4 (HO1.out.below hn4) hcl1).mono ?_; rintro e v5 ⟨rfl, hb5⟩; have hn5 : Below w1.heap.size w1 v5 := keeps hn4 hb5; clear hb5)
      | (go_at_call 14; refine (refclass_calls n z (some ⟨g1, 0, none⟩) m cap1 xs v5 (HO1.out.below hn5) hcl1).mono ?_; rintro e v6 ⟨rfl, hb6⟩; have hn6 : Below w1.heap.size w1 v6 := keeps hn5 hb6; clear hb6))
  refine NoPanic.normal ?_
  have HW := Lib.hid (HX1.out.bel.trans (hn6.mono HX1.out.bel.size))
  go_wp2_with fail
  go_ret
  exact ⟨rfl, HW.out⟩
set_option maxRecDepth 100000 in
set_option maxHeartbeats 4000000 in
theorem class_not (n z : Int) {a3 : Bool} (A : Option Addr) (m c : Nat) (xs : List Int) (w : World) (hb : Bs w A m xs) (hA : A = none → c = 0) (hm : m ≤ 5000) (hE : Example w) (hmz : may n z = false) : Calls Tryd.prog 4 #[.agg #[.int .i64 n, .int .i64 z], .slice A m c, .bool true, .bool a3] w fun e w' => e = .returned (.bool true) ∧ Below w.heap.size w w' := by
  have HE := Lib.hid hE
  have HB := Lib.hid hb
  have d1 : decide ((5000 : Int) < (m : Int)) = false := by simp; omega
  have HX := Lib.hid (GX.of w n z)
  have hmay : Hid (∀ w, Calls Tryd.prog 11 #[.agg #[.int .i64 n, .int .i64 z]] w fun e w' => e = .returned (.bool false) ∧ Below w.heap.size w w') := Lib.hid fun w => by
    have := refMay_any n z w
    rw [hmz] at this
    exact this
  clear hmz
  clear hE hb
  go_enter Tryd.func4, Tryd.ntmps4
  go_upto_region 1 with (fail)
  change Code.wp _ _ _ _ (w.alloc (.cells #[.int .i64 n, .int .i64 z] 23))
  generalize w.alloc (.cells #[.int .i64 n, .int .i64 z] 23) = W at *
  have HBW := Lib.hid (HB.out.below HX.out.bel)
  go_upto_region 4 with ((with_reducible refine pick (some 16) ?_); refine wpList_append_bytes rfl _ _ _ rfl W.heap.size 5 Tryd.underlying26 info8 W.heap.size 0 0 [] rfl (Ob.new_ W _ (Nat.le_refl _)) A m c xs rfl (HBW.out.below ((Below.refl _ _).alloc (Nat.le_refl _) _)) hA m (by omega) xs rfl (by omega) (by simp) ?_; intro g1 cap1 w1 ho1 hg1 hat1; have hb1 : Below W.heap.size W w1 := ((Below.refl _ _).alloc (Nat.le_refl _) _).grown hg1 (by simp) (by intro k hk; injection hk with hk; omega); have HX1 := Lib.hid (HX.out.below hb1); have HO1 := Lib.hid ho1.bs; have hcl1 := ho1.capLe; clear ho1 hg1 hat1 hb1)
  have b0 := HX1.out.c0
  have b1 := HX1.out.c1
  go_wp2_with fail
  refine (hmay.out _).mono ?_
  rintro e w2 ⟨rfl, hb2⟩
  have HX2 := Lib.hid (HX1.out.below hb2)
  have HO2 := Lib.hid (HO1.out.below hb2)
  clear b0 b1 hb2
  have RD : Hid (∀ v, Below w2.heap.size w2 v → Below w2.heap.size w2 v ∧ v.cell? ⟨w.heap.size, 0, none⟩ = some (.int .i64 n) ∧ v.cell? ⟨w.heap.size, 1, none⟩ = some (.int .i64 z)) := Lib.hid fun v hv => ⟨hv, (HX2.out.below hv).c0, (HX2.out.below hv).c1⟩
  go_wp2_with fail
  refine wp_region_noPanic ?_
  go_region_held3 (fun v => Below w2.heap.size w2 v ∧ v.cell? ⟨w.heap.size, 0, none⟩ = some (.int .i64 n) ∧ v.cell? ⟨w.heap.size, 1, none⟩ = some (.int .i64 z))
    (first
      | exact RD.out _ (Below.refl _ _)
      | exact RD.out _ (by assumption)
      | exact RD.out _ (Below.drew (by assumption))
      | exact RD.out _ (Below.drew (Below.refl _ _))
      | exact RD.out _ (And.left (by assumption)))
    (first
      | (go_at_call 9; refine (fixed_calls _ (HE.out.below (HX2.out.bel.trans ((And.left (by assumption) : Below w2.heap.size w2 _).mono HX2.out.bel.size)))).mono ?_; rintro e v4 ⟨rfl, hb4⟩; have hn4 : Below w2.heap.size w2 v4 := keeps (And.left (by assumption)) hb4; clear hb4)
      | (go_at_call 13; refine (class_calls n z (some ⟨g1, 0, none⟩) m cap1 xs v4 (HO2.out.below hn4) hcl1).mono ?_; rintro e v5 ⟨rfl, hb5⟩; have hn5 : Below w2.heap.size w2 v5 := keeps hn4 hb5; clear hb5)
      | (go_at_call 14; refine (refclass_calls n z (some ⟨g1, 0, none⟩) m cap1 xs v5 (HO2.out.below hn5) hcl1).mono ?_; rintro e v6 ⟨rfl, hb6⟩; have hn6 : Below w2.heap.size w2 v6 := keeps hn5 hb6; clear hb6))
  refine NoPanic.normal ?_
  have HW := Lib.hid (HX2.out.bel.trans (hn6.mono HX2.out.bel.size))
  go_wp2_with fail
  go_ret
  exact ⟨rfl, HW.out⟩
set_option maxRecDepth 100000 in
set_option maxHeartbeats 4000000 in
theorem class_sector (n : Int) (z : Nat) (A : Option Addr) (m c : Nat) (xs : List Int) (w : World) (hb : Bs w A m xs) (hA : A = none → c = 0) (hm : m ≤ 5000) (hE : Example w) (hmz : may n z = true) : Calls Tryd.prog 4 #[.agg #[.int .i64 n, .int .i64 z], .slice A m c, .bool true, .bool false] w fun e w' => e = .returned (.bool true) ∧ Below w.heap.size w w' := by
  have HE := Lib.hid hE
  have HB := Lib.hid hb
  have d1 : decide ((5000 : Int) < (m : Int)) = false := by simp; omega
  have HX := Lib.hid (GX.of w n z)
  have hmay : Hid (∀ w, Calls Tryd.prog 11 #[.agg #[.int .i64 n, .int .i64 z]] w fun e w' => e = .returned (.bool true) ∧ Below w.heap.size w w') := Lib.hid fun w => by
    have := refMay_any n z w
    rw [hmz] at this
    exact this
  have hz := may_yes hmz
  clear hmz
  clear hE hb
  go_enter Tryd.func4, Tryd.ntmps4
  go_upto_region 1 with (fail)
  change Code.wp _ _ _ _ (w.alloc (.cells #[.int .i64 n, .int .i64 z] 23))
  generalize w.alloc (.cells #[.int .i64 n, .int .i64 z] 23) = W at *
  have HBW := Lib.hid (HB.out.below HX.out.bel)
  go_upto_region 4 with ((with_reducible refine pick (some 16) ?_); refine wpList_append_bytes rfl _ _ _ rfl W.heap.size 5 Tryd.underlying26 info8 W.heap.size 0 0 [] rfl (Ob.new_ W _ (Nat.le_refl _)) A m c xs rfl (HBW.out.below ((Below.refl _ _).alloc (Nat.le_refl _) _)) hA m (by omega) xs rfl (by omega) (by simp) ?_; intro g1 cap1 w1 ho1 hg1 hat1; have hb1 : Below W.heap.size W w1 := ((Below.refl _ _).alloc (Nat.le_refl _) _).grown hg1 (by simp) (by intro k hk; injection hk with hk; omega); have HX1 := Lib.hid (HX.out.below hb1); have HO1 := Lib.hid ho1.bs; have hcl1 := ho1.capLe; clear ho1 hg1 hat1 hb1)
  have b0 := HX1.out.c0
  have b1 := HX1.out.c1
  go_wp2_with fail
  refine (hmay.out _).mono ?_
  rintro e w2 ⟨rfl, hb2⟩
  have HX2 := Lib.hid (HX1.out.below hb2)
  have HO2 := Lib.hid (HO1.out.below hb2)
  clear b0 b1 hb2
  have b0 := HX2.out.c0
  have b1 := HX2.out.c1
  go_wp2_with fail
  refine (sector_calls n z (some ⟨g1, 0, none⟩) m cap1 xs w2 (by omega) (by omega) HO2.out).mono ?_
  rintro e w9 ⟨g9, cap9, rfl, hcl9, ho9, hb9⟩
  have HX9 := Lib.hid (HX2.out.below hb9)
  have HO9 := Lib.hid ho9.bs
  clear b0 b1 hb9 ho9
  have RD : Hid (∀ v, Below w9.heap.size w9 v → Below w9.heap.size w9 v ∧ v.cell? ⟨w.heap.size, 0, none⟩ = some (.int .i64 n) ∧ v.cell? ⟨w.heap.size, 1, none⟩ = some (.int .i64 z)) := Lib.hid fun v hv => ⟨hv, (HX9.out.below hv).c0, (HX9.out.below hv).c1⟩
  go_wp2_with fail
  refine wp_region_noPanic ?_
  go_region_held3 (fun v => Below w9.heap.size w9 v ∧ v.cell? ⟨w.heap.size, 0, none⟩ = some (.int .i64 n) ∧ v.cell? ⟨w.heap.size, 1, none⟩ = some (.int .i64 z))
    (first
      | exact RD.out _ (Below.refl _ _)
      | exact RD.out _ (by assumption)
      | exact RD.out _ (Below.drew (by assumption))
      | exact RD.out _ (Below.drew (Below.refl _ _))
      | exact RD.out _ (And.left (by assumption)))
    (first
      | (go_at_call 9; refine (fixed_calls _ (HE.out.below (HX9.out.bel.trans ((And.left (by assumption) : Below w9.heap.size w9 _).mono HX9.out.bel.size)))).mono ?_; rintro e v4 ⟨rfl, hb4⟩; have hn4 : Below w9.heap.size w9 v4 := keeps (And.left (by assumption)) hb4; clear hb4)
      | (go_at_call 13; refine (class_calls n z (some ⟨g9, 0, none⟩) z cap9 (sec z xs) v4 (HO9.out.below hn4) hcl9).mono ?_; rintro e v5 ⟨rfl, hb5⟩; have hn5 : Below w9.heap.size w9 v5 := keeps hn4 hb5; clear hb5)
      | (go_at_call 14; refine (refclass_calls n z (some ⟨g9, 0, none⟩) z cap9 (sec z xs) v5 (HO9.out.below hn5) hcl9).mono ?_; rintro e v6 ⟨rfl, hb6⟩; have hn6 : Below w9.heap.size w9 v6 := keeps hn5 hb6; clear hb6))
  refine NoPanic.normal ?_
  have HW := Lib.hid (HX9.out.bel.trans (hn6.mono HX9.out.bel.size))
  go_wp2_with fail
  go_ret
  exact ⟨rfl, HW.out⟩
set_option maxRecDepth 100000 in
set_option maxHeartbeats 4000000 in
theorem class_headed (n : Int) (z : Nat) (A : Option Addr) (m c : Nat) (xs : List Int) (w : World) (hb : Bs w A m xs) (hA : A = none → c = 0) (hm : m ≤ 5000) (hE : Example w) (hmz : may n z = true) : Calls Tryd.prog 4 #[.agg #[.int .i64 n, .int .i64 z], .slice A m c, .bool true, .bool true] w fun e w' => e = .returned (.bool true) ∧ Below w.heap.size w w' := by
  have HE := Lib.hid hE
  have HB := Lib.hid hb
  have d1 : decide ((5000 : Int) < (m : Int)) = false := by simp; omega
  have HX := Lib.hid (GX.of w n z)
  have hmay : Hid (∀ w, Calls Tryd.prog 11 #[.agg #[.int .i64 n, .int .i64 z]] w fun e w' => e = .returned (.bool true) ∧ Below w.heap.size w w') := Lib.hid fun w => by
    have := refMay_any n z w
    rw [hmz] at this
    exact this
  have hz := may_yes hmz
  clear hmz
  clear hE hb
  go_enter Tryd.func4, Tryd.ntmps4
  go_upto_region 1 with (fail)
  change Code.wp _ _ _ _ (w.alloc (.cells #[.int .i64 n, .int .i64 z] 23))
  generalize w.alloc (.cells #[.int .i64 n, .int .i64 z] 23) = W at *
  have HBW := Lib.hid (HB.out.below HX.out.bel)
  go_upto_region 4 with ((with_reducible refine pick (some 16) ?_); refine wpList_append_bytes rfl _ _ _ rfl W.heap.size 5 Tryd.underlying26 info8 W.heap.size 0 0 [] rfl (Ob.new_ W _ (Nat.le_refl _)) A m c xs rfl (HBW.out.below ((Below.refl _ _).alloc (Nat.le_refl _) _)) hA m (by omega) xs rfl (by omega) (by simp) ?_; intro g1 cap1 w1 ho1 hg1 hat1; have hb1 : Below W.heap.size W w1 := ((Below.refl _ _).alloc (Nat.le_refl _) _).grown hg1 (by simp) (by intro k hk; injection hk with hk; omega); have HX1 := Lib.hid (HX.out.below hb1); have HO1 := Lib.hid ho1.bs; have hcl1 := ho1.capLe; clear ho1 hg1 hat1 hb1)
  have b0 := HX1.out.c0
  have b1 := HX1.out.c1
  go_wp2_with fail
  refine (hmay.out _).mono ?_
  rintro e w2 ⟨rfl, hb2⟩
  have HX2 := Lib.hid (HX1.out.below hb2)
  have HO2 := Lib.hid (HO1.out.below hb2)
  clear b0 b1 hb2
  have b0 := HX2.out.c0
  have b1 := HX2.out.c1
  have hlen : (hd n z ++ xs).length = 8 + m := by rw [List.length_append, hd_len, HB.out.len]
  go_upto_region 7 with (first
    | (go_at_call 10; refine (refof_calls n z _).mono ?_; rintro e w3 ⟨rfl, hb3⟩; have HX3 := Lib.hid (HX2.out.below hb3); have HO3 := Lib.hid (HO2.out.below hb3); obtain ⟨cap5, w5, hrun, hf5, hb5⟩ := conv_fresh (P := Tryd.prog) w3 9 26 5 (hd n z) 8 (hd_len n z) (hd_bd n z) Tryd.underlying9 Tryd.underlying26 Tryd.underlying5; have HRUN := Lib.hid hrun; have HF5 := Lib.hid hf5; have HO5 := Lib.hid (HO3.out.below hb5); have hs5 := hb5.size; have HB5 := Lib.hid hb5; clear b0 b1 hb3 hf5 hb5 hrun)
    | ((with_reducible refine pick (some 25) ?_); refine wpList_conv rfl 9 26 _ rfl (.string (str (hd n z))) (.slice (some ⟨w3.heap.size, 0, none⟩) 8 cap5) rfl HRUN.out ?_)
    | ((with_reducible refine pick (some 27) ?_); refine wpList_append_fresh rfl _ _ _ rfl 5 Tryd.underlying26 info8 w3.heap.size w3.heap.size 8 cap5 (hd n z) rfl HF5.out g1 m cap1 xs rfl HO5.out (by omega) hs5 (8 + m) rfl (hd n z ++ xs) rfl ?_ (by omega); intro g6 cap6 w6 hbs6 hcl6 hb6 _; have HO6 := Lib.hid hbs6; have HX6 := Lib.hid (HX3.out.below (HB5.out.trans (hb6.mono (Nat.le_refl _)))); clear hbs6 hb6))
  have b0 := HX6.out.c0
  have b1 := HX6.out.c1
  go_wp2_with fail
  refine (sector_calls n z (some ⟨g6, 0, none⟩) (8 + m) cap6 (hd n z ++ xs) w6 (by omega) (by omega) HO6.out).mono ?_
  rintro e w9 ⟨g9, cap9, rfl, hcl9, ho9, hb9⟩
  have HX9 := Lib.hid (HX6.out.below hb9)
  have HO9 := Lib.hid ho9.bs
  clear b0 b1 hb9 ho9
  have RD : Hid (∀ v, Below w9.heap.size w9 v → Below w9.heap.size w9 v ∧ v.cell? ⟨w.heap.size, 0, none⟩ = some (.int .i64 n) ∧ v.cell? ⟨w.heap.size, 1, none⟩ = some (.int .i64 z)) := Lib.hid fun v hv => ⟨hv, (HX9.out.below hv).c0, (HX9.out.below hv).c1⟩
  go_wp2_with fail
  refine wp_region_noPanic ?_
  go_region_held3 (fun v => Below w9.heap.size w9 v ∧ v.cell? ⟨w.heap.size, 0, none⟩ = some (.int .i64 n) ∧ v.cell? ⟨w.heap.size, 1, none⟩ = some (.int .i64 z))
    (first
      | exact RD.out _ (Below.refl _ _)
      | exact RD.out _ (by assumption)
      | exact RD.out _ (Below.drew (by assumption))
      | exact RD.out _ (Below.drew (Below.refl _ _))
      | exact RD.out _ (And.left (by assumption)))
    (first
      | (go_at_call 9; refine (fixed_calls _ (HE.out.below (HX9.out.bel.trans ((And.left (by assumption) : Below w9.heap.size w9 _).mono HX9.out.bel.size)))).mono ?_; rintro e v4 ⟨rfl, hb4⟩; have hn4 : Below w9.heap.size w9 v4 := keeps (And.left (by assumption)) hb4; clear hb4)
      | (go_at_call 13; refine (class_calls n z (some ⟨g9, 0, none⟩) z cap9 (sec z (hd n z ++ xs)) v4 (HO9.out.below hn4) hcl9).mono ?_; rintro e v5 ⟨rfl, hb5⟩; have hn5 : Below w9.heap.size w9 v5 := keeps hn4 hb5; clear hb5)
      | (go_at_call 14; refine (refclass_calls n z (some ⟨g9, 0, none⟩) z cap9 (sec z (hd n z ++ xs)) v5 (HO9.out.below hn5) hcl9).mono ?_; rintro e v6 ⟨rfl, hb6⟩; have hn6 : Below w9.heap.size w9 v6 := keeps hn5 hb6; clear hb6))
  refine NoPanic.normal ?_
  have HW := Lib.hid (HX9.out.bel.trans (hn6.mono HX9.out.bel.size))
  go_wp2_with fail
  go_ret
  exact ⟨rfl, HW.out⟩
theorem class_law (n z : Int) (A : Option Addr) (m c : Nat) (xs : List Int) (a2 a3 : Bool) (w : World) (hb : Bs w A m xs) (hA : A = none → c = 0) (hE : Example w) : Calls Tryd.prog 4 #[.agg #[.int .i64 n, .int .i64 z], .slice A m c, .bool a2, .bool a3] w fun e w' => e = .returned (.bool true) ∧ Below w.heap.size w w' := by
  by_cases hbig : m ≤ 5000
  · cases a2 with
    | false => exact class_plain n z A m c xs w hb hA hbig hE
    | true =>
      cases hmz : may n z with
      | false => exact class_not n z A m c xs w hb hA hbig hE hmz
      | true =>
        have hz := may_yes hmz
        obtain ⟨z', rfl⟩ := Int.eq_ofNat_of_zero_le (show 0 ≤ z by omega)
        cases a3 with
        | false => exact class_sector n z' A m c xs w hb hA hbig hE hmz
        | true => exact class_headed n z' A m c xs w hb hA hbig hE hmz
  · have d1 : decide ((5000 : Int) < (m : Int)) = true := by simp; omega
    have HX := Lib.hid (GX.of w n z)
    go_enter Tryd.func4, Tryd.ntmps4
    go_upto_region 1 with (fail)
    change Code.wp _ _ _ _ (w.alloc (.cells #[.int .i64 n, .int .i64 z] 23))
    generalize w.alloc (.cells #[.int .i64 n, .int .i64 z] 23) = W at *
    go_wp2_with fail
    refine (fixed_calls _ (hE.below HX.out.bel)).mono ?_
    rintro e w2 ⟨rfl, hb2⟩
    have HB2 := Lib.hid hb2
    clear hb2
    go_wp2_with fail
    go_ret
    exact ⟨rfl, HX.out.bel.trans (HB2.out.mono HX.out.bel.size)⟩
end Go.Proofs.YthiienhlklommaaDoor.HeadC
