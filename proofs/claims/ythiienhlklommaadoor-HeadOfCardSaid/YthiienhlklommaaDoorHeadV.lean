/- The contracts of the project's layer 5: isBlank, Death, Of. -/
import Derived.Test.YthiienhlklommaaDoorHeadS
import Derived.Test.YthiienhlklommaaDoorMayV
import Derived.Laws.Tables
namespace Go.Proofs.YthiienhlklommaaDoor.HeadV
set_option linter.unusedVariables false
set_option linter.unusedSimpArgs false
open Go.RowKit
open Go.Proofs.YthiienhlklommaaDoor.Byte Go.Proofs.YthiienhlklommaaDoor.SumV Go.Proofs.YthiienhlklommaaDoor.PackM Go.Proofs.YthiienhlklommaaDoor.PackV Go.Proofs.YthiienhlklommaaDoor.MayM Go.Proofs.YthiienhlklommaaDoor.MayV Go.Proofs.YthiienhlklommaaDoor.HeadM Go.Proofs.YthiienhlklommaaDoor.HeadR Go.Proofs.YthiienhlklommaaDoor.HeadS

set_option maxHeartbeats 400000 in
theorem death_calls (w : World) : Calls Tryd.prog 8 #[] w (Made (List.replicate 8 0) w) := by
  go_enter Tryd.func8, Tryd.ntmps8
  go_wp2_with (at_make; refine wpList_make_bytes rfl _ _ _ rfl w.heap.size 5 Tryd.underlying26 info8 _ _ _ _ 8 rfl rfl (by omega) (by omega) (by omega) (Nat.le_refl _) ?_; intro w1 hown1 hg1)
  go_ret
  exact Made.of (by simp) rfl hown1 ((Below.refl _ _).grown hg1 (Nat.le_refl _) (by intro k hk; cases hk))

set_option maxHeartbeats 1000000 in
theorem blank_calls (A : Option Addr) (n c : Nat) (xs : List Int) (w : World) (hb : Bs w A n xs) (hn : n ≤ maxLen) : Calls Tryd.prog 21 #[.slice A n c] w fun e w' => e = .returned (.bool (xs.all (· == 255))) ∧ w = w' := by
  unfold maxLen at hn
  have HB := Lib.hid hb
  clear hb
  obtain ⟨B, hB⟩ : ∃ B, xs.all (· == 255) = B := ⟨_, rfl⟩
  have HQ := Lib.hid hB
  rw [hB]
  clear hB
  go_enter Tryd.func21, Tryd.ntmps21
  go_wp2
  go_loop [7] (fun i => ∃ k : Nat, k ≤ n ∧ i = .int .i64 k ∧ Hid (∀ j, j < k → xs.getD j 0 = 255)) (fun i => n - (intOf i).toNat)
  case atStart => exact ⟨0, Nat.zero_le _, rfl, Lib.hid fun j hj => absurd hj (by omega)⟩
  case round =>
    obtain ⟨k, hk, rfl, HK⟩ := hrel
    by_cases hlt : k < n
    · obtain ⟨b, o, rfl, _, hcell⟩ := HB.out.2.2 k hlt
      have hl : xs.length = n := HB.out.len
      by_cases hx : xs.getD k 0 = 255
      · have HK1 : Hid (∀ j, j < k + 1 → xs.getD j 0 = 255) := Lib.hid fun j hj => by
          rcases Nat.lt_or_eq_of_le (Nat.le_of_lt_succ hj) with h1 | h1
          · exact HK.out j h1
          · rw [h1]; exact hx
        rw [hx] at hcell
        clear hx HK hl
        go_wp2
        go_round
        case rel => exact ⟨k + 1, by omega, by go_num, HK1⟩
        case measure => simp [intOf]; omega
      · have HQ2 : Hid (B = false) := Lib.hid (HQ.out.symm.trans (all_not (by omega) hx))
        have hne : (xs.getD k 0 != 255) = true := by rw [bne_iff_ne]; exact hx
        generalize xs.getD k 0 = y at hcell hne
        clear hx hl
        go_wp2
        go_ret
        exact ⟨ret_bool HQ2.out.symm, rfl⟩
    · have HQ2 : Hid (B = true) := Lib.hid (HQ.out.symm.trans (all_yes (fun j hj => HK.out j (by have := HB.out.len; omega))))
      go_wp2
      go_ret
      exact ⟨ret_bool HQ2.out.symm, rfl⟩

set_option maxRecDepth 100000 in
set_option maxHeartbeats 1000000 in
theorem of_no (n z : Int) (w : World) (h : may n z = false) : Calls Tryd.prog 7 #[.agg #[.int .i64 n, .int .i64 z]] w fun e w' => e = .returned (.agg ((hd n z).map (Value.int .u8)).toArray) ∧ Below w.heap.size w w' := by
  have hm : Hid (∀ w, Calls Tryd.prog 16 #[.agg #[.int .i64 n, .int .i64 z]] w fun e w' => e = .returned (.bool false) ∧ w.alloc (.cells #[.int .i64 n, .int .i64 z] 23) = w') := Lib.hid fun w => by
    have := may_calls n z w
    rw [h] at this
    exact this
  rw [hd_no h]
  clear h
  go_enter Tryd.func7, Tryd.ntmps7
  go_wp2_with fail
  refine (hm.out _).mono ?_
  rintro e w1 ⟨rfl, rfl⟩
  go_wp2_with fail
  exact bodyPost_ret (v := .agg ((List.replicate 8 (0 : Int)).map (Value.int .u8)).toArray) (by simp [results, Tryd.results7, go_sem]) rfl ⟨rfl, (((Below.refl _ _).alloc (Nat.le_refl _) _).alloc (by simp) _).alloc (by simp; omega) _⟩
theorem arr_at (w : World) (g cap : Nat) : (Instr.arrayAt 24 (.slice (some ⟨g, 0, none⟩) 8 cap)).run Tryd.prog w = .ok (.pointer (some ⟨g, 0, none⟩)) w := by
  kernel_rfl
theorem range_of {w : World} {b o n : Nat} {xs : List Int} (h : Bs w (some ⟨b, o, none⟩) n xs) : w.rangeAt b o (xs.map (Value.int .u8)) := fun j v hv => by
  have hj : j < xs.length := by simpa using (List.getElem?_eq_some_iff.1 hv).1
  rw [h.at_ j (by rw [← h.len]; exact hj), ← hv]
  simp [List.getElem?_eq_getElem hj]
theorem info24 : (Tryd.prog.info? 24).map (·.size) = some 8 := by kernel_rfl
/-- The box of a geometry, and the result's array behind it. -/
structure OX (w W : World) (n z : Int) (cs : Array Value) : Prop where
  bx : GX w W n z
  blk : W.heap[w.heap.size + 1]? = some (.cells cs 24 (0, 0))
theorem OX.below {w W W' : World} {n z : Int} {cs : Array Value} (h : OX w W n z cs) (hb : Below W.heap.size W W') : OX w W' n z cs :=
  ⟨h.bx.below hb, (hb.block _ (by
    rcases Nat.lt_or_ge (w.heap.size + 1) W.heap.size with h' | h'
    · exact h'
    · have := h.blk; rw [Array.getElem?_eq_none h'] at this; cases this)).trans h.blk⟩
set_option maxRecDepth 100000 in
set_option maxHeartbeats 2000000 in
theorem of_yes (n z : Int) (w : World) (h : may n z = true) : Calls Tryd.prog 7 #[.agg #[.int .i64 n, .int .i64 z]] w fun e w' => e = .returned (.agg ((hd n z).map (Value.int .u8)).toArray) ∧ Below w.heap.size w w' := by
  have hz := may_yes h
  have hm : Hid (∀ w, Calls Tryd.prog 16 #[.agg #[.int .i64 n, .int .i64 z]] w fun e w' => e = .returned (.bool true) ∧ Below w.heap.size w w') := Lib.hid fun w => by
    have := may_any n z w
    rw [h] at this
    exact this
  have hp1 : ([84, 120, 78, 82] ++ low 2 n).length = 6 := by rw [List.length_append, low_len]; rfl
  have hp2 : (body n z).length = 8 := by unfold body; rw [List.length_append, hp1, low_len]
  have hsb := SumM.sum_bd (body n z)
  have HE := Lib.hid (hd_yes h)
  have HL := Lib.hid (hd_len n z)
  have HP1 := Lib.hid hp1
  have HP2 := Lib.hid hp2
  clear h hp1 hp2
  have kc := fun (w : World) (C : Array Value) (n c : Nat) => Lib.run_convert_bytes_const (P := Tryd.prog) w 26 5 C n c Tryd.underlying26 Tryd.underlying5
  go_enter Tryd.func7, Tryd.ntmps7
  go_wp2_with fail
  refine (hm.out _).mono ?_
  rintro e w1 ⟨rfl, hb⟩
  have HX1 : Hid (OX w w1 n z (List.replicate 8 (Value.int .u8 0)).toArray) := Lib.hid (by
    refine OX.below ?_ hb
    refine ⟨(GX.of w n z).below ((Below.refl _ _).alloc (Nat.le_refl _) _), ?_⟩
    have := heap_alloc_new (w.alloc (.cells #[.int .i64 n, .int .i64 z] 23)) (.cells (List.replicate 8 (Value.int .u8 0)).toArray 24)
    simpa using this)
  have b0 := HX1.out.bx.c0
  have b1 := HX1.out.bx.c1
  clear hb
  have hl : w.heap.size < w1.heap.size := World.block_lt_of_cell? w1 ⟨w.heap.size, 0, none⟩ b0
  go_wp2_with fail
  refine (put_calls (some ⟨w1.heap.size, 0, none⟩) 4 4 [84, 120, 78, 82] 2 n _ (letters_bs w1 _) (by omega) (by omega) (by omega)).mono ?_
  intro e w2 hm2
  obtain ⟨g2, cap2, rfl, ho2, hb2⟩ := hm2.at_ HP1.out
  have HB2 : Hid (Bs w2 (some ⟨w1.heap.size, 0, none⟩) 4 [84, 120, 78, 82]) := Lib.hid ((letters_bs w1 _).below hb2)
  have hb2' : Below w1.heap.size w1 w2 := ((Below.refl _ _).alloc (Nat.le_refl _) _).trans (hb2.mono (by simp))
  have HX2 := Lib.hid (HX1.out.below hb2')
  have hl2 := hb2'.size
  clear b0 b1 hm2 hb2 hb2'
  have b1 := HX2.out.bx.c1
  go_wp2_with fail
  refine (put_calls (some ⟨g2, 0, none⟩) 6 cap2 ([84, 120, 78, 82] ++ low 2 n) 2 z _ ho2.bs (by omega) (by omega) (by omega)).mono ?_
  intro e w3 hm3
  obtain ⟨g3, cap3, rfl, ho3, hb3⟩ := hm3.at_ HP2.out
  have HX3 := Lib.hid (HX2.out.below hb3)
  have HB3 := Lib.hid (HB2.out.below hb3)
  have HO3 : Hid (Ob w3 w2.heap.size 5 g3 8 cap3 (body n z)) := Lib.hid ho3
  clear b1 hm3 hb3 ho3 ho2
  go_wp2_with fail
  refine (sum_calls (some ⟨g3, 0, none⟩) 8 cap3 (body n z) _ HO3.out.bs (by decide)).mono ?_
  rintro e w' ⟨rfl, rfl⟩
  go_wp2_with fail
  refine (put_calls (some ⟨w1.heap.size, 0, none⟩) 4 4 [84, 120, 78, 82] 4 (SumM.sum (body n z)) _ HB3.out (by omega) (by omega) (by omega)).mono ?_
  intro e w4 hm4
  have he4 : ([84, 120, 78, 82] ++ low (width 4) (SumM.sum (body n z)) : List Int) = hd n z := HE.out.symm
  rw [he4] at hm4
  obtain ⟨g4, cap4, rfl, ho4, hb4⟩ := hm4.at_ HL.out
  have HX4 := Lib.hid (HX3.out.below hb4)
  have HR4 := Lib.hid (range_of ho4.bs)
  have HA := Lib.hid (fun w => arr_at w g4 cap4)
  clear hm4 he4 hb4 ho4
  have ha := HA.out
  go_wp2_with (first
    | ((with_reducible refine pick (some 27) ?_); refine wpList_load_mid rfl _ _ rfl g4 0 rfl ((hd n z).map (Value.int .u8)) _ HR4.out Tryd.underlying24 rfl (by rw [List.length_map, HL.out]; exact info24) ?_)
    | ((with_reducible refine pick none ?_); refine wpList_store_row rfl _ _ _ rfl (w.heap.size + 1) ((hd n z).map (Value.int .u8)).toArray rfl rfl 24 _ HX4.out.blk (by rw [List.size_toArray, List.length_map, HL.out]; exact info24) (by simp [HL.out]) (by simp [Value.oneCell']) ?_))
  have hX := HX4.out
  refine bodyPost_ret (v := .agg ((hd n z).map (Value.int .u8)).toArray) (results_cell_row rfl _ _ (w.heap.size + 1) 24 ((hd n z).map (Value.int .u8)).toArray (0, 0) _ rfl (setRow_heap _ _ _ _ _ _ hX.blk) Tryd.underlying24 rfl (by rw [List.size_toArray, List.length_map, HL.out]; exact info24)) rfl ⟨rfl, ?_⟩
  exact hX.bx.bel.grown (grown_setRow _ _ _) hX.bx.bel.size (by intro k hk; injection hk with hk; omega)
theorem of_calls (n z : Int) (w : World) : Calls Tryd.prog 7 #[.agg #[.int .i64 n, .int .i64 z]] w fun e w' => e = .returned (.agg ((hd n z).map (Value.int .u8)).toArray) ∧ Below w.heap.size w w' := by
  cases h : may n z with
  | false => exact of_no n z w h
  | true => exact of_yes n z w h
end Go.Proofs.YthiienhlklommaaDoor.HeadV
