/- The contract of the project's layer 5: Class. -/
import Derived.Test.YthiienhlklommaaDoorHeadV
import Derived.Laws.StructEq
namespace Go.Proofs.YthiienhlklommaaDoor.HeadP
set_option linter.unusedVariables false
set_option linter.unusedSimpArgs false
open Go.RowKit
open Go.Proofs.YthiienhlklommaaDoor.Byte Go.Proofs.YthiienhlklommaaDoor.SumV Go.Proofs.YthiienhlklommaaDoor.PackM Go.Proofs.YthiienhlklommaaDoor.PackV Go.Proofs.YthiienhlklommaaDoor.MayM Go.Proofs.YthiienhlklommaaDoor.MayV Go.Proofs.YthiienhlklommaaDoor.HeadM Go.Proofs.YthiienhlklommaaDoor.HeadR Go.Proofs.YthiienhlklommaaDoor.HeadS Go.Proofs.YthiienhlklommaaDoor.HeadV

theorem eights {xs : List Int} (h : xs.length = 8) : ∃ a b c d e f g i, xs = [a, b, c, d, e, f, g, i] := by
  match xs, h with
  | [a, b, c, d, e, f, g, i], _ => exact ⟨a, b, c, d, e, f, g, i, rfl⟩
set_option maxHeartbeats 1000000 in
theorem eq8 (xs ys : List Int) (hx : xs.length = 8) (hy : ys.length = 8) (w : World) : (Op.equalIn 10000 24 (.agg (xs.map (Value.int .u8)).toArray) (.agg (ys.map (Value.int .u8)).toArray)).run Tryd.prog w = .ok (decide (xs = ys)) w := by
  obtain ⟨a, b, c, d, e, f, g, i, rfl⟩ := eights hx
  obtain ⟨a', b', c', d', e', f', g', i', rfl⟩ := eights hy
  have u5 := Tryd.underlying5
  have a5 := Tryd.isAgg5
  have z5 := Tryd.sizeOf5
  rw [show (10000 : Nat) = 9999 + 1 from rfl, Op.equalIn]
  simp only [Sem.run_bind, run_underlying Tryd.underlying24, Result.andThen_ok]
  simp only [Std.Legacy.Range.forIn_eq_forIn_range', Std.Legacy.Range.size, Nat.sub_zero, Nat.add_sub_cancel, Nat.div_one, List.range'_succ, List.range'_zero, List.forIn_cons, List.forIn_nil]
  go_simp
  by_cases h1 : a = a' <;> try (simp [h1]; done)
  by_cases h2 : b = b' <;> try (simp [h1, h2]; done)
  by_cases h3 : c = c' <;> try (simp [h1, h2, h3]; done)
  by_cases h4 : d = d' <;> try (simp [h1, h2, h3, h4]; done)
  by_cases h5 : e = e' <;> try (simp [h1, h2, h3, h4, h5]; done)
  by_cases h6 : f = f' <;> try (simp [h1, h2, h3, h4, h5, h6]; done)
  by_cases h7 : g = g' <;> try (simp [h1, h2, h3, h4, h5, h6, h7]; done)
  by_cases h8 : i = i' <;> simp [h1, h2, h3, h4, h5, h6, h7, h8]
theorem arr_in (w : World) (A : Option Addr) (m c : Nat) (h : 8 ≤ m) : (Instr.arrayAt 24 (.slice A m c)).run Tryd.prog w = .ok (.pointer A) w := by
  unfold Instr.arrayAt
  simp only [Sem.run_bind, run_underlying Tryd.underlying24, Result.andThen_ok]
  rw [if_neg (by omega)]
  rfl
theorem load8 {w : World} {b o n : Nat} {xs : List Int} (h : Bs w (some ⟨b, o, none⟩) n xs) (h8 : 8 ≤ n) : (Instr.loadAt 24 (.pointer (some ⟨b, o, none⟩))).run Tryd.prog w = .ok (.agg ((xs.take 8).map (Value.int .u8)).toArray) w := by
  have hb8 : Bs w (some ⟨b, o, none⟩) 8 (xs.take 8) := by
    have := h.sub 0 8 (by omega)
    rwa [List.drop_zero, Nat.add_zero] at this
  exact run_loadAt_mid w b o 24 _ _ (range_of hb8) Tryd.underlying24 rfl (by rw [List.length_map, hb8.len]; exact info24)
set_option maxHeartbeats 1000000 in
theorem class_may (n z : Int) (A : Option Addr) (m c : Nat) (xs : List Int) (w : World) (h : may n z = false) : Calls Tryd.prog 13 #[.agg #[.int .i64 n, .int .i64 z], .slice A m c] w fun e w' => e = .returned (.int .i64 (cls n z xs)) ∧ Below w.heap.size w w' := by
  have hm : Hid (∀ w, Calls Tryd.prog 16 #[.agg #[.int .i64 n, .int .i64 z]] w fun e w' => e = .returned (.bool false) ∧ Below w.heap.size w w') := Lib.hid fun w => by
    have := may_any n z w
    rw [h] at this
    exact this
  rw [cls_may h]
  have HX := Lib.hid (GX.of w n z)
  clear h
  go_enter Tryd.func13, Tryd.ntmps13
  go_wp2_with fail
  refine (hm.out _).mono ?_
  rintro e w1 ⟨rfl, hb⟩
  have HX1 := Lib.hid (HX.out.below hb)
  clear hb
  go_wp2_with fail
  go_ret
  exact ⟨rfl, HX1.out.bel⟩
set_option maxHeartbeats 1000000 in
theorem class_len (n z : Int) (A : Option Addr) (m c : Nat) (xs : List Int) (w : World) (h : may n z = true) (hl : xs.length = m) (hne : (m : Int) ≠ z) : Calls Tryd.prog 13 #[.agg #[.int .i64 n, .int .i64 z], .slice A m c] w fun e w' => e = .returned (.int .i64 (cls n z xs)) ∧ Below w.heap.size w w' := by
  have hm : Hid (∀ w, Calls Tryd.prog 16 #[.agg #[.int .i64 n, .int .i64 z]] w fun e w' => e = .returned (.bool true) ∧ Below w.heap.size w w') := Lib.hid fun w => by
    have := may_any n z w
    rw [h] at this
    exact this
  rw [cls_len (by rw [hl]; exact hne)]
  have HX := Lib.hid (GX.of w n z)
  have e1 : ((m : Int) != z) = true := by rw [bne_iff_ne]; exact hne
  clear h hl hne
  go_enter Tryd.func13, Tryd.ntmps13
  go_wp2_with fail
  refine (hm.out _).mono ?_
  rintro e w1 ⟨rfl, hb⟩
  have HX1 := Lib.hid (HX.out.below hb)
  have b1 := HX1.out.c1
  clear hb
  go_wp2_with fail
  go_ret
  exact ⟨rfl, HX1.out.bel⟩
set_option maxRecDepth 100000 in
set_option maxHeartbeats 2000000 in
theorem class_blank (n : Int) (m : Nat) (b o c : Nat) (xs : List Int) (w : World) (h : may n m = true) (hb : Bs w (some ⟨b, o, none⟩) m xs) (hc : m ≤ c) (hall : xs.all (· == 255) = true) : Calls Tryd.prog 13 #[.agg #[.int .i64 n, .int .i64 m], .slice (some ⟨b, o, none⟩) m c] w fun e w' => e = .returned (.int .i64 (cls n m xs)) ∧ Below w.heap.size w w' := by
  have hz := may_yes h
  have hm : Hid (∀ w, Calls Tryd.prog 16 #[.agg #[.int .i64 n, .int .i64 (m : Int)]] w fun e w' => e = .returned (.bool true) ∧ Below w.heap.size w w') := Lib.hid fun w => by
    have := may_any n m w
    rw [h] at this
    exact this
  have HBl : Hid (∀ w, Bs w (some ⟨b, o, none⟩) m xs → Calls Tryd.prog 21 #[.slice (some ⟨b, o, none⟩) m c] w fun e w' => e = .returned (.bool true) ∧ w = w') := Lib.hid fun w hb => by
    have := blank_calls (some ⟨b, o, none⟩) m c xs w hb (by unfold maxLen; omega)
    rw [hall] at this
    exact this
  have HCL : Hid (cls n m xs = 0) := Lib.hid (by
    rw [cls_in h (by rw [hb.len]), if_neg (fun e => ?_), hall]
    · rfl
    · have h1 : (xs.take 8).getD 0 0 = 84 := by rw [e]; exact head0 h
      have h0 : xs.getD 0 0 = 255 := by
        have hlt : 0 < xs.length := by rw [hb.len]; omega
        have := List.all_eq_true.1 hall xs[0] (List.getElem_mem hlt)
        rw [List.getD_eq_getElem?_getD, List.getElem?_eq_getElem hlt, Option.getD_some]
        simpa using this
      rw [List.getD_eq_getElem?_getD, List.getElem?_take, if_pos (by omega), ← List.getD_eq_getElem?_getD, h0] at h1
      omega)
  rw [HCL.out]
  have HX := Lib.hid (GX.of w n m)
  have HB := Lib.hid hb
  clear h hall hb HCL
  have e1 : ((m : Int) != (m : Int)) = false := by simp
  go_enter Tryd.func13, Tryd.ntmps13
  go_wp2_with fail
  refine (hm.out _).mono ?_
  rintro e w1 ⟨rfl, hb⟩
  have HX1 := Lib.hid (HX.out.below hb)
  have b1 := HX1.out.c1
  have HB1 := Lib.hid (HB.out.below HX1.out.bel)
  clear hb
  go_wp2_with fail
  refine (HBl.out _ HB1.out).mono ?_
  rintro e w' ⟨rfl, rfl⟩
  go_wp2_with fail
  go_ret
  exact ⟨rfl, HX1.out.bel⟩
set_option maxRecDepth 100000 in
set_option maxHeartbeats 2000000 in
theorem class_full (n : Int) (m : Nat) (b o c : Nat) (xs : List Int) (w : World) (h : may n m = true) (hb : Bs w (some ⟨b, o, none⟩) m xs) (hc : m ≤ c) (hall : xs.all (· == 255) = false) : Calls Tryd.prog 13 #[.agg #[.int .i64 n, .int .i64 m], .slice (some ⟨b, o, none⟩) m c] w fun e w' => e = .returned (.int .i64 (cls n m xs)) ∧ Below w.heap.size w w' := by
  have hz := may_yes h
  have hm : Hid (∀ w, Calls Tryd.prog 16 #[.agg #[.int .i64 n, .int .i64 (m : Int)]] w fun e w' => e = .returned (.bool true) ∧ Below w.heap.size w w') := Lib.hid fun w => by
    have := may_any n m w
    rw [h] at this
    exact this
  have HBl : Hid (∀ w, Bs w (some ⟨b, o, none⟩) m xs → Calls Tryd.prog 21 #[.slice (some ⟨b, o, none⟩) m c] w fun e w' => e = .returned (.bool false) ∧ w = w') := Lib.hid fun w hb => by
    have := blank_calls (some ⟨b, o, none⟩) m c xs w hb (by unfold maxLen; omega)
    rw [hall] at this
    exact this
  have HCL : Hid (cls n m xs = if decide (xs.take 8 = hd n m) = true then 1 else 2) := Lib.hid (by
    rw [cls_in h (by rw [hb.len]), hall]
    simp)
  have HX := Lib.hid (GX.of w n m)
  have HB := Lib.hid hb
  have e1 : ((m : Int) != (m : Int)) = false := by simp
  have HA := Lib.hid (fun v => arr_in v (some ⟨b, o, none⟩) m c (by omega))
  have HU := Lib.hid (fun v => of_calls n m v)
  have h8 : (xs.take 8).length = 8 := by rw [List.length_take, hb.len]; omega
  have HE := Lib.hid (fun v => eq8 (xs.take 8) (hd n m) h8 (hd_len n m) v)
  have HK : Hid (∀ v, Below w.heap.size w v → ∀ k, k < 8 → v.cell? ⟨b, o + k, none⟩ = some (.int .u8 ((xs.take 8).getD k 0))) := Lib.hid fun v hv k hk => by
    rw [(hb.below hv).at_ k (by omega), List.getD_eq_getElem?_getD, List.getD_eq_getElem?_getD, List.getElem?_take, if_pos hk]
  obtain ⟨B, hB⟩ : ∃ B, decide (xs.take 8 = hd n m) = B := ⟨_, rfl⟩
  rw [hB] at HE HCL
  generalize ((hd n m).map (Value.int .u8)).toArray = U at HU HE
  generalize xs.take 8 = ts at HE HK h8 hB
  obtain ⟨t0, t1, t2, t3, t4, t5, t6, t7, rfl⟩ := eights h8
  have he : ∀ v, (Op.equalIn 10000 24 (.agg #[.int .u8 t0, .int .u8 t1, .int .u8 t2, .int .u8 t3, .int .u8 t4, .int .u8 t5, .int .u8 t6, .int .u8 t7]) (.agg U)).run Tryd.prog v = .ok B v := HE.out
  have HE2 := Lib.hid he
  clear h hall hb hB HE h8 he
  go_enter Tryd.func13, Tryd.ntmps13
  go_wp2_with fail
  refine (hm.out _).mono ?_
  rintro e w1 ⟨rfl, hb⟩
  have HX1 := Lib.hid (HX.out.below hb)
  have b1 := HX1.out.c1
  have HB1 := Lib.hid (HB.out.below HX1.out.bel)
  clear hb
  go_wp2_with fail
  refine (HBl.out _ HB1.out).mono ?_
  rintro e w' ⟨rfl, rfl⟩
  have RD : Hid (∀ v, Below w1.heap.size w1 v → Below w1.heap.size w1 v ∧ v.cell? ⟨w.heap.size, 0, none⟩ = some (.int .i64 n) ∧ v.cell? ⟨w.heap.size, 1, none⟩ = some (.int .i64 m) ∧ v.cell? ⟨b, o, none⟩ = some (.int .u8 t0) ∧ v.cell? ⟨b, o + 1, none⟩ = some (.int .u8 t1) ∧ v.cell? ⟨b, o + 2, none⟩ = some (.int .u8 t2) ∧ v.cell? ⟨b, o + 3, none⟩ = some (.int .u8 t3) ∧ v.cell? ⟨b, o + 4, none⟩ = some (.int .u8 t4) ∧ v.cell? ⟨b, o + 5, none⟩ = some (.int .u8 t5) ∧ v.cell? ⟨b, o + 6, none⟩ = some (.int .u8 t6) ∧ v.cell? ⟨b, o + 7, none⟩ = some (.int .u8 t7)) := Lib.hid fun v hv => by
    have hk := HK.out v (HX1.out.below hv).bel
    exact ⟨hv, (HX1.out.below hv).c0, (HX1.out.below hv).c1, hk 0 (by omega), hk 1 (by omega), hk 2 (by omega), hk 3 (by omega), hk 4 (by omega), hk 5 (by omega), hk 6 (by omega), hk 7 (by omega)⟩
  have ha := HA.out
  have he := HE2.out
  clear HK HB1 HBl hm HE2
  go_wp2_with fail
  refine wp_region_noPanic ?_
  go_region_held3 (fun v => Below w1.heap.size w1 v ∧ v.cell? ⟨w.heap.size, 0, none⟩ = some (.int .i64 n) ∧ v.cell? ⟨w.heap.size, 1, none⟩ = some (.int .i64 m) ∧ v.cell? ⟨b, o, none⟩ = some (.int .u8 t0) ∧ v.cell? ⟨b, o + 1, none⟩ = some (.int .u8 t1) ∧ v.cell? ⟨b, o + 2, none⟩ = some (.int .u8 t2) ∧ v.cell? ⟨b, o + 3, none⟩ = some (.int .u8 t3) ∧ v.cell? ⟨b, o + 4, none⟩ = some (.int .u8 t4) ∧ v.cell? ⟨b, o + 5, none⟩ = some (.int .u8 t5) ∧ v.cell? ⟨b, o + 6, none⟩ = some (.int .u8 t6) ∧ v.cell? ⟨b, o + 7, none⟩ = some (.int .u8 t7))
    (first
      | exact RD.out _ (Below.refl _ _)
      | exact RD.out _ (by assumption)
      | exact RD.out _ (Below.drew (by assumption))
      | exact RD.out _ (Below.drew (Below.refl _ _))
      | exact RD.out _ (And.left (by assumption)))
    (first
      | (go_at_call 7; refine (HU.out _).mono ?_; rintro e w4 ⟨rfl, hb4⟩; have hn4 : Below w1.heap.size w1 w4 := (And.left (by assumption) : Below w1.heap.size w1 _).trans (hb4.mono (Below.size (And.left (by assumption)))); clear hb4))
  all_goals
    refine NoPanic.normal ?_
    have HW4 := Lib.hid (HX1.out.bel.trans (hn4.mono HX1.out.bel.size))
    clear RD HU b1 ha he hn4
    cases B with
    | true =>
      go_wp2_with fail
      go_ret
      exact ⟨Byte.ret_int HCL.out.symm, HW4.out⟩
    | false =>
      go_wp2_with fail
      go_ret
      exact ⟨Byte.ret_int HCL.out.symm, HW4.out⟩
theorem class_calls (n z : Int) (A : Option Addr) (m c : Nat) (xs : List Int) (w : World) (hb : Bs w A m xs) (hc : m ≤ c) : Calls Tryd.prog 13 #[.agg #[.int .i64 n, .int .i64 z], .slice A m c] w fun e w' => e = .returned (.int .i64 (cls n z xs)) ∧ Below w.heap.size w w' := by
  cases h : may n z with
  | false => exact class_may n z A m c xs w h
  | true =>
    by_cases e : (m : Int) = z
    · subst e
      have hz := may_yes h
      obtain ⟨b, o, rfl, _, _⟩ := hb.2.2 0 (by omega)
      cases hall : xs.all (· == 255) with
      | true => exact class_blank n m b o c xs w h hb hc hall
      | false => exact class_full n m b o c xs w h hb hc hall
    · exact class_len n z A m c xs w h hb.len e
end Go.Proofs.YthiienhlklommaaDoor.HeadP
