/- The contracts of the document's answer for layer 5. -/
import Derived.Test.YthbafcihmcjchaaGreatDoorHeadM
import Derived.Test.YthbafcihmcjchaaGreatDoorSumV
import Derived.Test.YthbafcihmcjchaaGreatDoorPackS
import Derived.Test.YthbafcihmcjchaaGreatDoorMayR
import Derived.Deep.RegionHeld
import Derived.Lib.SlBytesConst
import Derived.Deep.RegionHeld3
import Derived.IntWalk
namespace Go.Proofs.YthbafcihmcjchaaGreatDoor.HeadR
set_option linter.unusedVariables false
set_option linter.unusedSimpArgs false
open Go.RowKit
open Go.Proofs.YthbafcihmcjchaaGreatDoor.Byte Go.Proofs.YthbafcihmcjchaaGreatDoor.PackM Go.Proofs.YthbafcihmcjchaaGreatDoor.PackV Go.Proofs.YthbafcihmcjchaaGreatDoor.PackS Go.Proofs.YthbafcihmcjchaaGreatDoor.SumV Go.Proofs.YthbafcihmcjchaaGreatDoor.MayM Go.Proofs.YthbafcihmcjchaaGreatDoor.MayR Go.Proofs.YthbafcihmcjchaaGreatDoor.HeadM

theorem cell_at {w w' : World} {g i : Nat} {v : Value} (h : w.cell? ⟨g, i, none⟩ = some v) (hb : Below w.heap.size w w') : w'.cell? ⟨g, i, none⟩ = some v :=
  (hb.cell (p := ⟨g, i, none⟩) (World.block_lt_of_cell? w ⟨g, i, none⟩ h)).trans h
/-- The box of a geometry, behind whatever was made. -/
structure GX (w W : World) (n z : Int) : Prop where
  c0 : W.cell? ⟨w.heap.size, 0, none⟩ = some (.int .i64 n)
  c1 : W.cell? ⟨w.heap.size, 1, none⟩ = some (.int .i64 z)
  bel : Below w.heap.size w W
section
variable {w W W' : World} {n z : Int}
theorem GX.of (w : World) (n z : Int) : GX w (w.alloc (.cells #[.int .i64 n, .int .i64 z] 28)) n z := by
  have h : (w.alloc (.cells #[.int .i64 n, .int .i64 z] 28)).heap[w.heap.size]? = some (.cells #[.int .i64 n, .int .i64 z] 28 (0, 0)) := heap_alloc_new w _
  exact ⟨cell_of_row _ _ 0 _ _ _ h, cell_of_row _ _ 1 _ _ _ h, (Below.refl _ _).alloc (Nat.le_refl _) _⟩
theorem GX.below (h : GX w W n z) (hb : Below W.heap.size W W') : GX w W' n z := ⟨cell_at h.c0 hb, cell_at h.c1 hb, h.bel.trans (hb.mono h.bel.size)⟩
end
theorem zeros8 : str (List.replicate 8 0) = ⟨#[0, 0, 0, 0, 0, 0, 0, 0]⟩ := by rfl
theorem letters_bs (w : World) (f : Nat × Nat) : Bs (w.alloc (.cells #[.int .u8 84, .int .u8 120, .int .u8 78, .int .u8 82] 5 f)) (some ⟨w.heap.size, 0, none⟩) 4 [84, 120, 78, 82] :=
  Bs.new_ w 5 f [84, 120, 78, 82] (by simp)
theorem letters_str : (⟨#[84, 120, 78, 82]⟩ : ByteArray) = str [84, 120, 78, 82] := by rfl
set_option maxHeartbeats 1000000 in
theorem refof_no (n z : Int) (w : World) (h : may n z = false) : Calls Tryz.prog 8 #[.agg #[.int .i64 n, .int .i64 z]] w fun e w' => e = .returned (.string (str (hd n z))) ∧ Below w.heap.size w w' := by
  have hm : Hid (∀ w, Calls Tryz.prog 25 #[.agg #[.int .i64 n, .int .i64 z]] w fun e w' => e = .returned (.bool false) ∧ Below w.heap.size w w') := Lib.hid fun w => by
    have := refMay_any n z w
    rw [h] at this
    exact this
  rw [hd_no h, zeros8]
  have HX := Lib.hid (GX.of w n z)
  clear h
  go_enter Tryz.func8, Tryz.ntmps8
  go_wp2_with fail
  refine (hm.out _).mono ?_
  rintro e w1 ⟨rfl, hb⟩
  have HX1 := Lib.hid (HX.out.below hb)
  clear hb
  go_wp2_with fail
  go_ret
  exact ⟨rfl, HX1.out.bel⟩
set_option maxRecDepth 100000 in
set_option maxHeartbeats 2000000 in
theorem refof_yes (n z : Int) (w : World) (h : may n z = true) : Calls Tryz.prog 8 #[.agg #[.int .i64 n, .int .i64 z]] w fun e w' => e = .returned (.string (str (hd n z))) ∧ Below w.heap.size w w' := by
  have hz := may_yes h
  have hm : Hid (∀ w, Calls Tryz.prog 25 #[.agg #[.int .i64 n, .int .i64 z]] w fun e w' => e = .returned (.bool true) ∧ Below w.heap.size w w') := Lib.hid fun w => by
    have := refMay_any n z w
    rw [h] at this
    exact this
  have hp1 : ([84, 120, 78, 82] ++ low 2 n).length = 6 := by rw [List.length_append, low_len]; rfl
  have hp2 : (body n z).length = 8 := by unfold body; rw [List.length_append, hp1, low_len]
  have hsb := SumM.sum_bd (body n z)
  have HE := Lib.hid (show str [84, 120, 78, 82] ++ str (low 4 (SumM.sum (body n z))) = str (hd n z) by rw [str_append, hd_yes h])
  have HP1 := Lib.hid hp1
  have HP2 := Lib.hid hp2
  have HX := Lib.hid (GX.of w n z)
  clear h hp1 hp2
  have kc := fun (w : World) (C : Array Value) (n c : Nat) => Lib.run_convert_bytes_const (P := Tryz.prog) w 38 5 C n c Tryz.underlying38 Tryz.underlying5
  go_enter Tryz.func8, Tryz.ntmps8
  go_wp2_with fail
  refine (hm.out _).mono ?_
  rintro e w1 ⟨rfl, hb⟩
  have HX1 := Lib.hid (HX.out.below hb)
  have b0 := HX1.out.c0
  have b1 := HX1.out.c1
  have hl := World.block_lt_of_cell? w1 ⟨w.heap.size, 0, none⟩ b0
  clear hb
  dsimp only at hl
  go_wp2_with fail
  refine (refput_calls (some ⟨w1.heap.size, 0, none⟩) 4 4 [84, 120, 78, 82] 2 n _ (letters_bs w1 _) (fun e => by cases e) (by omega) (by omega) (by omega) (by omega) (by omega)).mono ?_
  intro e w2 hm2
  obtain ⟨g2, cap2, rfl, ho2, hb2⟩ := hm2.at_ HP1.out
  have hb2' : Below w1.heap.size w1 w2 := ((Below.refl _ _).alloc (Nat.le_refl _) _).trans (hb2.mono (by simp))
  have HX2 := Lib.hid (HX1.out.below hb2')
  clear b0 b1 hm2 hb2
  have b1 := HX2.out.c1
  go_wp2_with fail
  refine (refput_calls (some ⟨g2, 0, none⟩) 6 cap2 ([84, 120, 78, 82] ++ low 2 n) 2 z _ ho2.bs (fun e => by cases e) (by omega) (by omega) (by omega) (by omega) (by omega)).mono ?_
  intro e w3 hm3
  obtain ⟨g3, cap3, rfl, ho3, hb3⟩ := hm3.at_ HP2.out
  have HX3 := Lib.hid (HX2.out.below hb3)
  have HO3 : Hid (Ob w3 w2.heap.size 5 g3 8 cap3 (body n z)) := Lib.hid ho3
  clear b1 hm3 hb3 ho3
  go_wp2_with (first
    | (go_at_call 27; refine (refsum_calls (some ⟨g3, 0, none⟩) 8 cap3 (body n z) _ (HO3.out.bs.below ((Below.refl _ _).alloc (Nat.le_refl _) _)) (by decide)).mono ?_; rintro e w' ⟨rfl, rfl⟩)
    | (go_at_call 26; refine (refput_calls (some ⟨w3.heap.size, 0, none⟩) 0 0 [] 4 (SumM.sum (body n z)) _ (Bs.nil_ _ _) (fun e => by cases e) (by omega) (by omega) (by omega) (by omega) (by omega)).mono ?_; intro e w4 hm4; obtain ⟨g4, cap4, rfl, ho4, hb4⟩ := hm4.at_ (N := 4) (by rw [List.nil_append, low_len]; rfl); rw [List.nil_append] at ho4; have hs4 := ho4.str_ (P := Tryz.prog) 38 9 Tryz.underlying38 Tryz.underlying5 Tryz.underlying9; have HB4 := Lib.hid hb4; clear hm4 ho4 hb4))
  have e1 : (⟨#[84, 120, 78, 82]⟩ : ByteArray) ++ str (low (width 4) (SumM.sum (body n z))) = str (hd n z) := by
    rw [letters_str]
    exact HE.out
  go_ret
  exact ⟨congrArg (fun s => Ending.returned (Value.string s)) e1, HX3.out.bel.trans ((((Below.refl _ _).alloc (Nat.le_refl _) _).trans (HB4.out.mono (by simp))).mono HX3.out.bel.size)⟩
theorem refof_calls (n z : Int) (w : World) : Calls Tryz.prog 8 #[.agg #[.int .i64 n, .int .i64 z]] w fun e w' => e = .returned (.string (str (hd n z))) ∧ Below w.heap.size w w' := by
  cases h : may n z with
  | false => exact refof_no n z w h
  | true => exact refof_yes n z w h
theorem str_inj {xs ys : List Int} (hx : ∀ x ∈ xs, 0 ≤ x ∧ x ≤ 255) (hy : ∀ x ∈ ys, 0 ≤ x ∧ x ≤ 255) (h : str xs = str ys) : xs = ys := by
  rw [← txt_str xs hx, ← txt_str ys hy, h]
theorem toList_inj {s t : ByteArray} (h : s.toList = t.toList) : s = t := by
  rw [ByteArray.toList_eq, ByteArray.toList_eq] at h
  exact ByteArray.ext (Array.toList_inj.1 h)
theorem ret_int {k : IntKind} {a b : Int} (h : a = b) : Ending.returned (.int k a) = .returned (.int k b) := by rw [h]
theorem cls_may {n z : Int} {xs : List Int} (h : may n z = false) : cls n z xs = 2 := by unfold cls; rw [if_pos (.inl h)]
theorem cls_len {n z : Int} {xs : List Int} (h : (xs.length : Int) ≠ z) : cls n z xs = 2 := by unfold cls; rw [if_pos (.inr h)]
theorem cls_in {n z : Int} {xs : List Int} (h : may n z = true) (hl : (xs.length : Int) = z) : cls n z xs = if xs.take 8 = hd n z then 1 else if xs.all (· == 255) then 0 else 2 := by
  unfold cls
  rw [if_neg (by simp [h, hl])]
theorem all_not {xs : List Int} {k : Nat} (hk : k < xs.length) (h : xs.getD k 0 ≠ 255) : xs.all (· == 255) = false := by
  rw [List.all_eq_false]
  refine ⟨xs[k], List.getElem_mem hk, ?_⟩
  rw [List.getD_eq_getElem?_getD, List.getElem?_eq_getElem hk, Option.getD_some] at h
  simpa using h
theorem all_yes {xs : List Int} (h : ∀ k, k < xs.length → xs.getD k 0 = 255) : xs.all (· == 255) = true := by
  rw [List.all_eq_true]
  intro x hx
  obtain ⟨k, hk, rfl⟩ := List.getElem_of_mem hx
  have := h k hk
  rw [List.getD_eq_getElem?_getD, List.getElem?_eq_getElem hk, Option.getD_some] at this
  simpa using this
set_option maxHeartbeats 1000000 in
theorem refclass_may (n z : Int) (A : Option Addr) (m c : Nat) (xs : List Int) (w : World) (h : may n z = false) : Calls Tryz.prog 47 #[.agg #[.int .i64 n, .int .i64 z], .slice A m c] w fun e w' => e = .returned (.int .i64 (cls n z xs)) ∧ Below w.heap.size w w' := by
  have hm : Hid (∀ w, Calls Tryz.prog 25 #[.agg #[.int .i64 n, .int .i64 z]] w fun e w' => e = .returned (.bool false) ∧ Below w.heap.size w w') := Lib.hid fun w => by
    have := refMay_any n z w
    rw [h] at this
    exact this
  rw [cls_may h]
  have HX := Lib.hid (GX.of w n z)
  clear h
  go_enter Tryz.func47, Tryz.ntmps47
  go_wp2_with fail
  refine (hm.out _).mono ?_
  rintro e w1 ⟨rfl, hb⟩
  have HX1 := Lib.hid (HX.out.below hb)
  clear hb
  go_wp2_with fail
  go_ret
  exact ⟨rfl, HX1.out.bel⟩
set_option maxHeartbeats 1000000 in
theorem refclass_len (n z : Int) (A : Option Addr) (m c : Nat) (xs : List Int) (w : World) (h : may n z = true) (hl : xs.length = m) (hne : (m : Int) ≠ z) : Calls Tryz.prog 47 #[.agg #[.int .i64 n, .int .i64 z], .slice A m c] w fun e w' => e = .returned (.int .i64 (cls n z xs)) ∧ Below w.heap.size w w' := by
  have hm : Hid (∀ w, Calls Tryz.prog 25 #[.agg #[.int .i64 n, .int .i64 z]] w fun e w' => e = .returned (.bool true) ∧ Below w.heap.size w w') := Lib.hid fun w => by
    have := refMay_any n z w
    rw [h] at this
    exact this
  rw [cls_len (by rw [hl]; exact hne)]
  have HX := Lib.hid (GX.of w n z)
  have e1 : ((m : Int) != z) = true := by rw [bne_iff_ne]; exact hne
  clear h hl hne
  go_enter Tryz.func47, Tryz.ntmps47
  go_wp2_with fail
  refine (hm.out _).mono ?_
  rintro e w1 ⟨rfl, hb⟩
  have HX1 := Lib.hid (HX.out.below hb)
  have b1 := HX1.out.c1
  clear hb
  go_wp2_with fail
  go_ret
  exact ⟨rfl, HX1.out.bel⟩
set_option maxRecDepth 100000 in
set_option maxHeartbeats 2000000 in
theorem refclass_in (n : Int) (m : Nat) (b o c : Nat) (xs : List Int) (w : World) (h : may n m = true) (hb : Bs w (some ⟨b, o, none⟩) m xs) (hc : m ≤ c) : Calls Tryz.prog 47 #[.agg #[.int .i64 n, .int .i64 m], .slice (some ⟨b, o, none⟩) m c] w fun e w' => e = .returned (.int .i64 (cls n m xs)) ∧ Below w.heap.size w w' := by
  have hz := may_yes h
  have hm : Hid (∀ w, Calls Tryz.prog 25 #[.agg #[.int .i64 n, .int .i64 (m : Int)]] w fun e w' => e = .returned (.bool true) ∧ Below w.heap.size w w') := Lib.hid fun w => by
    have := refMay_any n m w
    rw [h] at this
    exact this
  have HCL := Lib.hid (cls_in (xs := xs) h (by rw [hb.len]))
  have HB := Lib.hid hb
  have HX := Lib.hid (GX.of w n m)
  have hc8 : ¬ (c : Int) = 8 ∨ True := .inr trivial
  clear h hb hc8
  have e1 : ((m : Int) != (m : Int)) = false := by simp
  go_enter Tryz.func47, Tryz.ntmps47
  go_wp2_with fail
  refine (hm.out _).mono ?_
  rintro e w1 ⟨rfl, hb⟩
  have HX1 := Lib.hid (HX.out.below hb)
  have b1 := HX1.out.c1
  clear hb
  have hb8 : Bs w (some ⟨b, o, none⟩) 8 (xs.take 8) := by
    have := HB.out.sub 0 8 (by omega)
    rwa [List.drop_zero, Nat.add_zero] at this
  have h8 : (8 : Int) ≤ (c : Int) := by omega
  have h8n : 8 ≤ c := by omega
  have hcx : ¬ (c = 0) := by omega
  have HT := Lib.hid (fun v (hv : Below w.heap.size w v) => (hb8.below hv).str_ (P := Tryz.prog) (c := c) 38 9 Tryz.underlying38 Tryz.underlying5 Tryz.underlying9)
  have HS : Hid ((xs.take 8 = hd n m ∧ str (xs.take 8) = str (hd n m)) ∨ (xs.take 8 ≠ hd n m ∧ ¬ (str (xs.take 8)).toList = (str (hd n m)).toList)) := Lib.hid (by
    by_cases e : xs.take 8 = hd n m
    · exact .inl ⟨e, by rw [e]⟩
    · refine .inr ⟨e, fun h => e (str_inj (fun x hx => HB.out.2.1 x (List.mem_of_mem_take hx)) (hd_bd n m) ?_)⟩
      exact toList_inj h)
  have HU := Lib.hid (fun v => refof_calls n m v)
  clear hb8
  generalize str (xs.take 8) = T at HT HS
  generalize str (hd n m) = U at HU HS
  have RD : Hid (∀ v, Below w1.heap.size w1 v → Below w1.heap.size w1 v ∧ v.cell? ⟨w.heap.size, 0, none⟩ = some (.int .i64 n) ∧ v.cell? ⟨w.heap.size, 1, none⟩ = some (.int .i64 m) ∧ (convert 38 9 (.slice (some ⟨b, o, none⟩) 8 c)).run Tryz.prog v = .ok (.string T) v) := Lib.hid fun v hv => ⟨hv, (HX1.out.below hv).c0, (HX1.out.below hv).c1, HT.out v (HX1.out.below hv).bel⟩
  rcases HS.out with ⟨e3, rfl⟩ | ⟨e3, e4⟩
  case' inl => have HQ := Lib.hid (HCL.out.trans (if_pos e3))
  case' inr => have HQ := Lib.hid (HCL.out.trans (if_neg e3))
  case' inr => have e5 : (T.toList == U.toList) = false := beq_eq_false_iff_ne.2 e4
  all_goals
    clear e3 HCL
    try clear HS
    go_wp2_with fail
    refine wp_region_noPanic ?_
    go_region_held3 (fun v => Below w1.heap.size w1 v ∧ v.cell? ⟨w.heap.size, 0, none⟩ = some (.int .i64 n) ∧ v.cell? ⟨w.heap.size, 1, none⟩ = some (.int .i64 m) ∧ (convert 38 9 (.slice (some ⟨b, o, none⟩) 8 c)).run Tryz.prog v = .ok (.string T) v)
      (first
        | exact RD.out _ (Below.refl _ _)
        | exact RD.out _ (by assumption)
        | exact RD.out _ (Below.drew (by assumption))
        | exact RD.out _ (Below.drew (Below.refl _ _))
        | exact RD.out _ (And.left (by assumption)))
      (first
        | (go_at_call 8; refine (HU.out _).mono ?_; rintro e w4 ⟨rfl, hb4⟩; have hn4 : Below w1.heap.size w1 w4 := (And.left (by assumption) : Below w1.heap.size w1 _).trans (hb4.mono (Below.size (And.left (by assumption)))); clear hb4))
    refine NoPanic.normal ?_
    clear RD HU HT b1
    have HW4 := Lib.hid (HX1.out.bel.trans (hn4.mono HX1.out.bel.size))
    have HB4 := Lib.hid (HB.out.below HW4.out)
    clear hn4
  rotate_left
  · go_wp2_with fail
    go_ret
    exact ⟨ret_int HQ.out.symm, HW4.out⟩
  · go_wp2_with fail
    go_loop [24] (fun i => ∃ k : Nat, k ≤ m ∧ i = .int .i64 k ∧ Hid (∀ j, j < k → xs.getD j 0 = 255)) (fun i => m - (intOf i).toNat)
    case atStart => exact ⟨0, Nat.zero_le _, rfl, Lib.hid fun j hj => absurd hj (by omega)⟩
    case round =>
      obtain ⟨k, hk, rfl, HK⟩ := hrel
      by_cases hlt : k < m
      · have hcell := HB4.out.at_ k hlt
        have hl : xs.length = m := HB4.out.len
        by_cases hx : xs.getD k 0 = 255
        · have HK1 : Hid (∀ j, j < k + 1 → xs.getD j 0 = 255) := Lib.hid fun j hj => by
            rcases Nat.lt_or_eq_of_le (Nat.le_of_lt_succ hj) with h1 | h1
            · exact HK.out j h1
            · rw [h1]; exact hx
          rw [hx] at hcell
          clear hx HK
          go_wp2_with fail
          go_round
          case rel => exact ⟨k + 1, by omega, by go_num, HK1⟩
          case measure => simp [intOf]; omega
        · have HQ2 := Lib.hid (HQ.out.trans (by rw [all_not (by omega) hx]; rfl : _ = (2 : Int)))
          have hne : (xs.getD k 0 != 255) = true := by rw [bne_iff_ne]; exact hx
          generalize xs.getD k 0 = y at hcell hne
          clear hx hl
          go_wp2_with fail
          go_ret
          exact ⟨ret_int HQ2.out.symm, HW4.out⟩
      · obtain rfl : k = m := by omega
        have hl : xs.length = k := HB4.out.len
        have HQ2 := Lib.hid (HQ.out.trans (by rw [all_yes (fun j hj => HK.out j (by omega))]; rfl : _ = (0 : Int)))
        go_wp2_with fail
        go_ret
        exact ⟨ret_int HQ2.out.symm, HW4.out⟩
theorem refclass_calls (n z : Int) (A : Option Addr) (m c : Nat) (xs : List Int) (w : World) (hb : Bs w A m xs) (hc : m ≤ c) : Calls Tryz.prog 47 #[.agg #[.int .i64 n, .int .i64 z], .slice A m c] w fun e w' => e = .returned (.int .i64 (cls n z xs)) ∧ Below w.heap.size w w' := by
  cases h : may n z with
  | false => exact refclass_may n z A m c xs w h
  | true =>
    by_cases e : (m : Int) = z
    · subst e
      have hz := may_yes h
      obtain ⟨b, o, rfl, _, _⟩ := hb.2.2 0 (by omega)
      exact refclass_in n m b o c xs w h hb hc
    · exact refclass_len n z A m c xs w h hb.len e
end Go.Proofs.YthbafcihmcjchaaGreatDoor.HeadR
