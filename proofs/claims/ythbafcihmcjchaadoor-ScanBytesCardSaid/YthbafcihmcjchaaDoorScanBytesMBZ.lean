/- Merged: HeadS MayV HeadV HeadP ScanZo Open. -/
import Derived.Deep.Cut
import Derived.LoopTactic
import Derived.Test.YthbafcihmcjchaaDoorHeadR
import Derived.Test.YthbafcihmcjchaaDoorProg
import Derived.WalkSpells
import Derived.BigGuardPart
import Derived.Test.YthbafcihmcjchaaDoorByte
import Derived.Test.YthbafcihmcjchaaDoorMayM
import Derived.Laws.Tables
import Derived.Laws.StructEq
import Derived.Test.YthbafcihmcjchaaDoorScanZ
import Derived.Test.YthbafcihmcjchaaDoorScanB
import Derived.ChangeShapes
import Derived.WideShapes
import Derived.OpenShut
import Derived.Below
/- Layer 5's law file: sector; copy of as many bytes as there is room for; the variable 'example'. -/
namespace Go.Proofs.YthbafcihmcjchaaDoor.HeadS
set_option linter.unusedVariables false
set_option linter.unusedSimpArgs false
open Go.RowKit
open Go.Proofs.YthbafcihmcjchaaDoor.Byte Go.Proofs.YthbafcihmcjchaaDoor.PackM Go.Proofs.YthbafcihmcjchaaDoor.PackV Go.Proofs.YthbafcihmcjchaaDoor.MayM Go.Proofs.YthbafcihmcjchaaDoor.HeadM Go.Proofs.YthbafcihmcjchaaDoor.HeadR

section
variable {P : Program} {w : World}
/-- copy into an own row, of as many of some bytes as there is room for. -/
theorem wpList_copy_any {ops : Array Oper} {rest : List Oper} {o : Oper} {a : Act} {Q : Exit → Act → World → Prop} (hgd : o.guard = none) (d s : Operand) (dT sT : TypeId)
    (ho : o.op = .call { callee := .builtin .copy, args := #[d, s], argTypes := #[dT, sT] }) (e : TypeId) (hu : P.underlying dT = some (.slice e)) (hsz : (P.info? e).map (·.size) = some 1)
    (base g n cap : Nat) (xs : List Int) (hd : a.eval d = .slice (some ⟨g, 0, none⟩) n cap) (hown : Ob w base e g n cap xs)
    (A : Option Addr) (m c : Nat) (ys : List Int) (hs : a.eval s = .slice A m c) (hr : Bs w A m ys)
    (zs : List Int) (hz : over xs 0 (ys.take (min m n)) = zs)
    (h : ∀ w', Ob w' base e g n cap zs → w.grownBy w' (some g) → wpList P ops Q rest (a.put o.dst (goInt (min m n : Nat))) w') : wpList P ops Q (o :: rest) a w := by
  subst hz
  obtain ⟨cur, hg, hb, hnc, hcm, hcs, ht⟩ := hown.row
  rcases Nat.eq_zero_or_pos (min m n) with h0 | h0
  · refine wpList_copy_nothing hgd d s dT sT ho e hu hsz (some ⟨g, 0, none⟩) A n cap m c hd hs h0 ?_
    have := h w (by rw [h0, List.take_zero]; simpa [over] using hown) (World.grownBy.refl w _)
    rw [h0] at this
    exact this
  · obtain ⟨b, o', rfl, _, _⟩ := hr.2.2 0 (by omega)
    have hq : (ys.take (min m n)).length = min m n := by rw [List.length_take, hr.1]; omega
    have hlen : ((ys.take (min m n)).map (Value.int .u8)).length = min m n := by rw [List.length_map, hq]
    refine wpList_copy_own hgd d s dT sT ho e hu hsz g 0 n cap ⟨b, o', none⟩ m c hd hs cur e hg ((ys.take (min m n)).map (Value.int .u8)) hlen (fun j v hj => ?_) (by rw [hlen]; omega) (fun v hv => by obtain ⟨_, _, rfl⟩ := List.mem_map.1 hv; rfl) ?_
    · have hj' : j < min m n := by
        have := (List.getElem?_eq_some_iff.1 hj).1
        rwa [hlen] at this
      have e2 : (⟨b, o', none⟩ : Addr).add j = ⟨b, o' + j, none⟩ := by
        unfold Addr.add
        by_cases h0 : j = 0 <;> simp [h0]
      rw [e2, hr.at_ j (by omega), ← hj, List.getElem?_map, List.getElem?_take, if_pos hj', List.getElem?_eq_getElem (by rw [hr.1]; omega), List.getD_eq_getElem?_getD, List.getElem?_eq_getElem (by rw [hr.1]; omega)]
      rfl
    · rw [hlen]
      have e3 := hown.setRow cur hg ht hcs 0 (ys.take (min m n)) (by rw [hq]; omega) (fun y hy => hr.2.1 y (List.mem_of_mem_take hy))
      rw [hq] at e3
      exact h _ e3 (grown_setRow w g _)
end
theorem ob_base {w : World} {b0 b1 : Nat} {e : TypeId} {g n cap : Nat} {xs : List Int} (h : Ob w b1 e g n cap xs) (hb : b0 ≤ b1) : Ob w b0 e g n cap xs := by
  refine ⟨h.1, h.2.1, h.2.2.1, ?_⟩
  rcases h.2.2.2 with h' | ⟨g', cap', cur, h1, h2, r⟩
  · exact .inl h'
  · exact .inr ⟨g', cap', cur, h1, Nat.le_trans hb h2, r⟩
theorem over_sec (z : Nat) (xs : List Int) (m : Nat) (hm : xs.length = m) : over (List.replicate z 255) 0 (xs.take (min m z)) = sec z xs := by
  unfold over sec
  rw [List.take_zero, List.nil_append, List.length_take, List.drop_replicate, Nat.zero_add]
  have e1 : xs.take (min m z) = xs.take z := by
    rcases Nat.le_total m z with h | h
    · rw [Nat.min_eq_left h, List.take_of_length_le (by omega), List.take_of_length_le (by omega)]
    · rw [Nat.min_eq_right h]
  have e2 : z - min (min m z) xs.length = z - xs.length := by omega
  rw [e1, e2]
theorem fill_set (k z : Nat) (h : k < z) : (List.replicate k (255 : Int) ++ List.replicate (z - k) 0).set k 255 = List.replicate (k + 1) 255 ++ List.replicate (z - (k + 1)) 0 := by
  have e : z - k = (z - (k + 1)) + 1 := by omega
  rw [e, List.replicate_succ, List.set_append_right _ _ (by simp), List.length_replicate, Nat.sub_self, List.set_cons_zero, List.replicate_succ', List.append_assoc]
  rfl
/-- The variable 'example'. -/
def Example (w : World) : Prop := 0 < w.heap.size ∧ w.cell? ⟨0, 0, none⟩ = some (.int .i64 6) ∧ w.cell? ⟨0, 1, none⟩ = some (.int .i64 512)
theorem Example.below {w w' : World} (h : Example w) (hb : Below w.heap.size w w') : Example w' :=
  ⟨Nat.lt_of_lt_of_le h.1 hb.size, (hb.cell (p := ⟨0, 0, none⟩) h.1).trans h.2.1, (hb.cell (p := ⟨0, 1, none⟩) h.1).trans h.2.2⟩
/-- Behind A stand n integers. -/
def Is (w : World) (A : Option Addr) (n : Nat) (xs : List Int) : Prop :=
  xs.length = n ∧ (∀ x ∈ xs, -9223372036854775808 ≤ x ∧ x ≤ 9223372036854775807) ∧ ∀ k, k < n → ∃ b o, A = some ⟨b, o, none⟩ ∧ b < w.heap.size ∧ w.cell? ⟨b, o + k, none⟩ = some (.int .i64 (xs.getD k 0))
theorem Is.at_ {w : World} {b o n : Nat} {xs : List Int} (h : Is w (some ⟨b, o, none⟩) n xs) (k : Nat) (hk : k < n) : w.cell? ⟨b, o + k, none⟩ = some (.int .i64 (xs.getD k 0)) := by
  obtain ⟨b', o', e, _, hc⟩ := h.2.2 k hk
  injection e with e
  injection e with e1 e2
  subst e1 e2
  exact hc
theorem Is.below {w w' : World} {A : Option Addr} {n : Nat} {xs : List Int} (h : Is w A n xs) (hb : Below w.heap.size w w') : Is w' A n xs :=
  ⟨h.1, h.2.1, fun k hk => by
    obtain ⟨b, o, e, hlt, hc⟩ := h.2.2 k hk
    exact ⟨b, o, e, Nat.lt_of_lt_of_le hlt hb.size, (hb.cell (p := ⟨b, o + k, none⟩) hlt).trans hc⟩⟩
end Go.Proofs.YthbafcihmcjchaaDoor.HeadS

/- Whether a geometry may be: the project's answer. -/
namespace Go.Proofs.YthbafcihmcjchaaDoor.MayV
set_option linter.unusedVariables false
set_option linter.unusedSimpArgs false
open Go.RowKit
open Go.Proofs.YthbafcihmcjchaaDoor.Byte Go.Proofs.YthbafcihmcjchaaDoor.MayM

set_option maxHeartbeats 400000 in
theorem may_calls (n z : Int) (w : World) : Calls Tryd.prog 22 #[.agg #[.int .i64 n, .int .i64 z]] w fun e w' => e = .returned (.bool (may n z)) ∧ w.alloc (.cells #[.int .i64 n, .int .i64 z] 23) = w' := by
  cases h : may n z
  · rcases may_ways h with h1 | ⟨h1, h2⟩ | ⟨h1, h2, h3⟩ | ⟨h1, h2, h3, h4⟩
    all_goals
      clear h
      go_enter Tryd.func22, Tryd.ntmps22
      go_wp2
      go_ret
      first | exact ⟨rfl, rfl⟩ | exact ⟨Byte.ret_bool (by rw [decide_eq_false_iff_not]; omega), rfl⟩
  · obtain ⟨h1, h2, h3, h4⟩ := may_yes h
    clear h
    go_enter Tryd.func22, Tryd.ntmps22
    go_wp2
    go_ret
    first | exact ⟨rfl, rfl⟩ | exact ⟨Byte.ret_bool (by rw [decide_eq_true_eq]; omega), rfl⟩
theorem may_any (n z : Int) (w : World) : Calls Tryd.prog 22 #[.agg #[.int .i64 n, .int .i64 z]] w fun e w' => e = .returned (.bool (may n z)) ∧ Below w.heap.size w w' :=
  (may_calls n z w).mono fun e w' ⟨h1, h2⟩ => ⟨h1, by subst h2; exact (Below.refl _ _).alloc (Nat.le_refl _) _⟩
end Go.Proofs.YthbafcihmcjchaaDoor.MayV

/- The contracts of the project's layer 5: isBlank, Death, Of. -/
namespace Go.Proofs.YthbafcihmcjchaaDoor.HeadV
set_option linter.unusedVariables false
set_option linter.unusedSimpArgs false
open Go.RowKit
open Go.Proofs.YthbafcihmcjchaaDoor.Byte Go.Proofs.YthbafcihmcjchaaDoor.SumV Go.Proofs.YthbafcihmcjchaaDoor.PackM Go.Proofs.YthbafcihmcjchaaDoor.PackV Go.Proofs.YthbafcihmcjchaaDoor.MayM Go.Proofs.YthbafcihmcjchaaDoor.MayV Go.Proofs.YthbafcihmcjchaaDoor.HeadM Go.Proofs.YthbafcihmcjchaaDoor.HeadR Go.Proofs.YthbafcihmcjchaaDoor.HeadS

set_option maxHeartbeats 1000000 in
theorem blank_calls (A : Option Addr) (n c : Nat) (xs : List Int) (w : World) (hb : Bs w A n xs) (hn : n ≤ maxLen) : Calls Tryd.prog 23 #[.slice A n c] w fun e w' => e = .returned (.bool (xs.all (· == 255))) ∧ w = w' := by
  unfold maxLen at hn
  have HB := Lib.hid hb
  clear hb
  obtain ⟨B, hB⟩ : ∃ B, xs.all (· == 255) = B := ⟨_, rfl⟩
  have HQ := Lib.hid hB
  rw [hB]
  clear hB
  go_enter Tryd.func23, Tryd.ntmps23
  go_wp2
  go_loop [7] (fun i => ∃ k : Nat, k ≤ n ∧ i = .int .i64 k ∧ Hid (∀ j, j < k → xs.getD j 0 = 255)) (fun i => n - (intOf i).toNat)
  case atStart => exact ⟨0, Nat.zero_le _, rfl, Lib.hid fun j hj => absurd hj (by omega)⟩
  case round =>
    obtain ⟨k, hk, rfl, HK⟩ := hrel
    by_cases hlt : k < n
    · obtain ⟨b, o, rfl, _, hcell⟩ := HB.out.2.2 k hlt
      have hl : xs.length = n := HB.out.len
      by_cases hx : xs.getD k 0 = 255
      · have HK1 : Hid (∀ j, j < k + 1 → xs.getD j 0 = 255) := Lib.hid fun j hj => by
          rcases Nat.lt_or_eq_of_le (Nat.le_of_lt_succ hj) with h1 | h1
          · exact HK.out j h1
          · rw [h1]; exact hx
        rw [hx] at hcell
        clear hx HK hl
        go_wp2
        go_round
        case rel => exact ⟨k + 1, by omega, by go_num, HK1⟩
        case measure => simp [intOf]; omega
      · have HQ2 : Hid (B = false) := Lib.hid (HQ.out.symm.trans (all_not (by omega) hx))
        have hne : (xs.getD k 0 != 255) = true := by rw [bne_iff_ne]; exact hx
        generalize xs.getD k 0 = y at hcell hne
        clear hx hl
        go_wp2
        go_ret
        exact ⟨ret_bool HQ2.out.symm, rfl⟩
    · have HQ2 : Hid (B = true) := Lib.hid (HQ.out.symm.trans (all_yes (fun j hj => HK.out j (by have := HB.out.len; omega))))
      go_wp2
      go_ret
      exact ⟨ret_bool HQ2.out.symm, rfl⟩

set_option maxRecDepth 100000 in
set_option maxHeartbeats 1000000 in
theorem of_no (n z : Int) (w : World) (h : may n z = false) : Calls Tryd.prog 24 #[.agg #[.int .i64 n, .int .i64 z]] w fun e w' => e = .returned (.agg ((hd n z).map (Value.int .u8)).toArray) ∧ Below w.heap.size w w' := by
  have hm : Hid (∀ w, Calls Tryd.prog 22 #[.agg #[.int .i64 n, .int .i64 z]] w fun e w' => e = .returned (.bool false) ∧ w.alloc (.cells #[.int .i64 n, .int .i64 z] 23) = w') := Lib.hid fun w => by
    have := may_calls n z w
    rw [h] at this
    exact this
  rw [hd_no h]
  clear h
  go_enter Tryd.func24, Tryd.ntmps24
  go_wp2_with fail
  refine (hm.out _).mono ?_
  rintro e w1 ⟨rfl, rfl⟩
  go_wp2_with fail
  exact bodyPost_ret (v := .agg ((List.replicate 8 (0 : Int)).map (Value.int .u8)).toArray) (by simp [results, Tryd.results24, go_sem]) rfl ⟨rfl, (((Below.refl _ _).alloc (Nat.le_refl _) _).alloc (by simp) _).alloc (by simp; omega) _⟩
theorem arr_at (w : World) (g cap : Nat) : (Instr.arrayAt 63 (.slice (some ⟨g, 0, none⟩) 8 cap)).run Tryd.prog w = .ok (.pointer (some ⟨g, 0, none⟩)) w := by
  kernel_rfl
theorem range_of {w : World} {b o n : Nat} {xs : List Int} (h : Bs w (some ⟨b, o, none⟩) n xs) : w.rangeAt b o (xs.map (Value.int .u8)) := fun j v hv => by
  have hj : j < xs.length := by simpa using (List.getElem?_eq_some_iff.1 hv).1
  rw [h.at_ j (by rw [← h.len]; exact hj), ← hv]
  simp [List.getElem?_eq_getElem hj]
theorem info24 : (Tryd.prog.info? 63).map (·.size) = some 8 := by kernel_rfl
/-- The box of a geometry, and the result's array behind it. -/
structure OX (w W : World) (n z : Int) (cs : Array Value) : Prop where
  bx : GX w W n z
  blk : W.heap[w.heap.size + 1]? = some (.cells cs 63 (0, 0))
theorem OX.below {w W W' : World} {n z : Int} {cs : Array Value} (h : OX w W n z cs) (hb : Below W.heap.size W W') : OX w W' n z cs :=
  ⟨h.bx.below hb, (hb.block _ (by
    rcases Nat.lt_or_ge (w.heap.size + 1) W.heap.size with h' | h'
    · exact h'
    · have := h.blk; rw [Array.getElem?_eq_none h'] at this; cases this)).trans h.blk⟩
set_option maxRecDepth 100000 in
set_option maxHeartbeats 2000000 in
theorem of_yes (n z : Int) (w : World) (h : may n z = true) : Calls Tryd.prog 24 #[.agg #[.int .i64 n, .int .i64 z]] w fun e w' => e = .returned (.agg ((hd n z).map (Value.int .u8)).toArray) ∧ Below w.heap.size w w' := by
  have hz := may_yes h
  have hm : Hid (∀ w, Calls Tryd.prog 22 #[.agg #[.int .i64 n, .int .i64 z]] w fun e w' => e = .returned (.bool true) ∧ Below w.heap.size w w') := Lib.hid fun w => by
    have := may_any n z w
    rw [h] at this
    exact this
  have hp1 : ([84, 120, 78, 82] ++ low 2 n).length = 6 := by rw [List.length_append, low_len]; rfl
  have hp2 : (body n z).length = 8 := by unfold body; rw [List.length_append, hp1, low_len]
  have hsb := SumM.sum_bd (body n z)
  have HE := Lib.hid (hd_yes h)
  have HL := Lib.hid (hd_len n z)
  have HP1 := Lib.hid hp1
  have HP2 := Lib.hid hp2
  clear h hp1 hp2
  have kc := fun (w : World) (C : Array Value) (n c : Nat) => Lib.run_convert_bytes_const (P := Tryd.prog) w 24 5 C n c Tryd.underlying24 Tryd.underlying5
  go_enter Tryd.func24, Tryd.ntmps24
  go_wp2_with fail
  refine (hm.out _).mono ?_
  rintro e w1 ⟨rfl, hb⟩
  have HX1 : Hid (OX w w1 n z (List.replicate 8 (Value.int .u8 0)).toArray) := Lib.hid (by
    refine OX.below ?_ hb
    refine ⟨(GX.of w n z).below ((Below.refl _ _).alloc (Nat.le_refl _) _), ?_⟩
    have := heap_alloc_new (w.alloc (.cells #[.int .i64 n, .int .i64 z] 23)) (.cells (List.replicate 8 (Value.int .u8 0)).toArray 63)
    simpa using this)
  have b0 := HX1.out.bx.c0
  have b1 := HX1.out.bx.c1
  clear hb
  have hl : w.heap.size < w1.heap.size := World.block_lt_of_cell? w1 ⟨w.heap.size, 0, none⟩ b0
  go_wp2_with fail
  refine (put_calls (some ⟨w1.heap.size, 0, none⟩) 4 4 [84, 120, 78, 82] 2 n _ (letters_bs w1 _) (by omega) (by omega) (by omega)).mono ?_
  intro e w2 hm2
  obtain ⟨g2, cap2, rfl, ho2, hb2⟩ := hm2.at_ HP1.out
  have HB2 : Hid (Bs w2 (some ⟨w1.heap.size, 0, none⟩) 4 [84, 120, 78, 82]) := Lib.hid ((letters_bs w1 _).below hb2)
  have hb2' : Below w1.heap.size w1 w2 := ((Below.refl _ _).alloc (Nat.le_refl _) _).trans (hb2.mono (by simp))
  have HX2 := Lib.hid (HX1.out.below hb2')
  have hl2 := hb2'.size
  clear b0 b1 hm2 hb2 hb2'
  have b1 := HX2.out.bx.c1
  go_wp2_with fail
  refine (put_calls (some ⟨g2, 0, none⟩) 6 cap2 ([84, 120, 78, 82] ++ low 2 n) 2 z _ ho2.bs (by omega) (by omega) (by omega)).mono ?_
  intro e w3 hm3
  obtain ⟨g3, cap3, rfl, ho3, hb3⟩ := hm3.at_ HP2.out
  have HX3 := Lib.hid (HX2.out.below hb3)
  have HB3 := Lib.hid (HB2.out.below hb3)
  have HO3 : Hid (Ob w3 w2.heap.size 5 g3 8 cap3 (body n z)) := Lib.hid ho3
  clear b1 hm3 hb3 ho3 ho2
  go_wp2_with fail
  refine (sum_calls (some ⟨g3, 0, none⟩) 8 cap3 (body n z) _ HO3.out.bs (by decide)).mono ?_
  rintro e w' ⟨rfl, rfl⟩
  go_wp2_with fail
  refine (put_calls (some ⟨w1.heap.size, 0, none⟩) 4 4 [84, 120, 78, 82] 4 (SumM.sum (body n z)) _ HB3.out (by omega) (by omega) (by omega)).mono ?_
  intro e w4 hm4
  have he4 : ([84, 120, 78, 82] ++ low (width 4) (SumM.sum (body n z)) : List Int) = hd n z := HE.out.symm
  rw [he4] at hm4
  obtain ⟨g4, cap4, rfl, ho4, hb4⟩ := hm4.at_ HL.out
  have HX4 := Lib.hid (HX3.out.below hb4)
  have HR4 := Lib.hid (range_of ho4.bs)
  have HA := Lib.hid (fun w => arr_at w g4 cap4)
  clear hm4 he4 hb4 ho4
  have ha := HA.out
  go_wp2_with (first
    | ((with_reducible refine pick (some 27) ?_); refine wpList_load_mid rfl _ _ rfl g4 0 rfl ((hd n z).map (Value.int .u8)) _ HR4.out Tryd.underlying63 rfl (by rw [List.length_map, HL.out]; exact info24) ?_)
    | ((with_reducible refine pick none ?_); refine wpList_store_row rfl _ _ _ rfl (w.heap.size + 1) ((hd n z).map (Value.int .u8)).toArray rfl rfl 63 _ HX4.out.blk (by rw [List.size_toArray, List.length_map, HL.out]; exact info24) (by simp [HL.out]) (by simp [Value.oneCell']) ?_))
  have hX := HX4.out
  refine bodyPost_ret (v := .agg ((hd n z).map (Value.int .u8)).toArray) (results_cell_row rfl _ _ (w.heap.size + 1) 63 ((hd n z).map (Value.int .u8)).toArray (0, 0) _ rfl (setRow_heap _ _ _ _ _ _ hX.blk) Tryd.underlying63 rfl (by rw [List.size_toArray, List.length_map, HL.out]; exact info24)) rfl ⟨rfl, ?_⟩
  exact hX.bx.bel.grown (grown_setRow _ _ _) hX.bx.bel.size (by intro k hk; injection hk with hk; omega)
theorem of_calls (n z : Int) (w : World) : Calls Tryd.prog 24 #[.agg #[.int .i64 n, .int .i64 z]] w fun e w' => e = .returned (.agg ((hd n z).map (Value.int .u8)).toArray) ∧ Below w.heap.size w w' := by
  cases h : may n z with
  | false => exact of_no n z w h
  | true => exact of_yes n z w h
end Go.Proofs.YthbafcihmcjchaaDoor.HeadV

/- The contract of the project's layer 5: Class. -/
namespace Go.Proofs.YthbafcihmcjchaaDoor.HeadP
set_option linter.unusedVariables false
set_option linter.unusedSimpArgs false
open Go.RowKit
open Go.Proofs.YthbafcihmcjchaaDoor.Byte Go.Proofs.YthbafcihmcjchaaDoor.SumV Go.Proofs.YthbafcihmcjchaaDoor.PackM Go.Proofs.YthbafcihmcjchaaDoor.PackV Go.Proofs.YthbafcihmcjchaaDoor.MayM Go.Proofs.YthbafcihmcjchaaDoor.MayV Go.Proofs.YthbafcihmcjchaaDoor.HeadM Go.Proofs.YthbafcihmcjchaaDoor.HeadR Go.Proofs.YthbafcihmcjchaaDoor.HeadS Go.Proofs.YthbafcihmcjchaaDoor.HeadV

theorem eights {xs : List Int} (h : xs.length = 8) : ∃ a b c d e f g i, xs = [a, b, c, d, e, f, g, i] := by
  match xs, h with
  | [a, b, c, d, e, f, g, i], _ => exact ⟨a, b, c, d, e, f, g, i, rfl⟩
set_option maxHeartbeats 1000000 in
theorem eq8 (xs ys : List Int) (hx : xs.length = 8) (hy : ys.length = 8) (w : World) : (Op.equalIn 10000 63 (.agg (xs.map (Value.int .u8)).toArray) (.agg (ys.map (Value.int .u8)).toArray)).run Tryd.prog w = .ok (decide (xs = ys)) w := by
  obtain ⟨a, b, c, d, e, f, g, i, rfl⟩ := eights hx
  obtain ⟨a', b', c', d', e', f', g', i', rfl⟩ := eights hy
  have u5 := Tryd.underlying5
  have a5 := Tryd.isAgg5
  have z5 := Tryd.sizeOf5
  rw [show (10000 : Nat) = 9999 + 1 from rfl, Op.equalIn]
  simp only [Sem.run_bind, run_underlying Tryd.underlying63, Result.andThen_ok]
  simp only [Std.Legacy.Range.forIn_eq_forIn_range', Std.Legacy.Range.size, Nat.sub_zero, Nat.add_sub_cancel, Nat.div_one, List.range'_succ, List.range'_zero, List.forIn_cons, List.forIn_nil]
  go_simp
  by_cases h1 : a = a' <;> try (simp [h1]; done)
  by_cases h2 : b = b' <;> try (simp [h1, h2]; done)
  by_cases h3 : c = c' <;> try (simp [h1, h2, h3]; done)
  by_cases h4 : d = d' <;> try (simp [h1, h2, h3, h4]; done)
  by_cases h5 : e = e' <;> try (simp [h1, h2, h3, h4, h5]; done)
  by_cases h6 : f = f' <;> try (simp [h1, h2, h3, h4, h5, h6]; done)
  by_cases h7 : g = g' <;> try (simp [h1, h2, h3, h4, h5, h6, h7]; done)
  by_cases h8 : i = i' <;> simp [h1, h2, h3, h4, h5, h6, h7, h8]
theorem arr_in (w : World) (A : Option Addr) (m c : Nat) (h : 8 ≤ m) : (Instr.arrayAt 63 (.slice A m c)).run Tryd.prog w = .ok (.pointer A) w := by
  unfold Instr.arrayAt
  simp only [Sem.run_bind, run_underlying Tryd.underlying63, Result.andThen_ok]
  rw [if_neg (by omega)]
  rfl
theorem load8 {w : World} {b o n : Nat} {xs : List Int} (h : Bs w (some ⟨b, o, none⟩) n xs) (h8 : 8 ≤ n) : (Instr.loadAt 63 (.pointer (some ⟨b, o, none⟩))).run Tryd.prog w = .ok (.agg ((xs.take 8).map (Value.int .u8)).toArray) w := by
  have hb8 : Bs w (some ⟨b, o, none⟩) 8 (xs.take 8) := by
    have := h.sub 0 8 (by omega)
    rwa [List.drop_zero, Nat.add_zero] at this
  exact run_loadAt_mid w b o 63 _ _ (range_of hb8) Tryd.underlying63 rfl (by rw [List.length_map, hb8.len]; exact info24)
set_option maxHeartbeats 1000000 in
theorem class_may (n z : Int) (A : Option Addr) (m c : Nat) (xs : List Int) (w : World) (h : may n z = false) : Calls Tryd.prog 12 #[.agg #[.int .i64 n, .int .i64 z], .slice A m c] w fun e w' => e = .returned (.int .i64 (cls n z xs)) ∧ Below w.heap.size w w' := by
  have hm : Hid (∀ w, Calls Tryd.prog 22 #[.agg #[.int .i64 n, .int .i64 z]] w fun e w' => e = .returned (.bool false) ∧ Below w.heap.size w w') := Lib.hid fun w => by
    have := may_any n z w
    rw [h] at this
    exact this
  rw [cls_may h]
  have HX := Lib.hid (GX.of w n z)
  clear h
  go_enter Tryd.func12, Tryd.ntmps12
  go_wp2_with fail
  refine (hm.out _).mono ?_
  rintro e w1 ⟨rfl, hb⟩
  have HX1 := Lib.hid (HX.out.below hb)
  clear hb
  go_wp2_with fail
  go_ret
  exact ⟨rfl, HX1.out.bel⟩
set_option maxHeartbeats 1000000 in
theorem class_len (n z : Int) (A : Option Addr) (m c : Nat) (xs : List Int) (w : World) (h : may n z = true) (hl : xs.length = m) (hne : (m : Int) ≠ z) : Calls Tryd.prog 12 #[.agg #[.int .i64 n, .int .i64 z], .slice A m c] w fun e w' => e = .returned (.int .i64 (cls n z xs)) ∧ Below w.heap.size w w' := by
  have hm : Hid (∀ w, Calls Tryd.prog 22 #[.agg #[.int .i64 n, .int .i64 z]] w fun e w' => e = .returned (.bool true) ∧ Below w.heap.size w w') := Lib.hid fun w => by
    have := may_any n z w
    rw [h] at this
    exact this
  rw [cls_len (by rw [hl]; exact hne)]
  have HX := Lib.hid (GX.of w n z)
  have e1 : ((m : Int) != z) = true := by rw [bne_iff_ne]; exact hne
  clear h hl hne
  go_enter Tryd.func12, Tryd.ntmps12
  go_wp2_with fail
  refine (hm.out _).mono ?_
  rintro e w1 ⟨rfl, hb⟩
  have HX1 := Lib.hid (HX.out.below hb)
  have b1 := HX1.out.c1
  clear hb
  go_wp2_with fail
  go_ret
  exact ⟨rfl, HX1.out.bel⟩
set_option maxRecDepth 100000 in
set_option maxHeartbeats 2000000 in
theorem class_blank (n : Int) (m : Nat) (b o c : Nat) (xs : List Int) (w : World) (h : may n m = true) (hb : Bs w (some ⟨b, o, none⟩) m xs) (hc : m ≤ c) (hall : xs.all (· == 255) = true) : Calls Tryd.prog 12 #[.agg #[.int .i64 n, .int .i64 m], .slice (some ⟨b, o, none⟩) m c] w fun e w' => e = .returned (.int .i64 (cls n m xs)) ∧ Below w.heap.size w w' := by
  have hz := may_yes h
  have hm : Hid (∀ w, Calls Tryd.prog 22 #[.agg #[.int .i64 n, .int .i64 (m : Int)]] w fun e w' => e = .returned (.bool true) ∧ Below w.heap.size w w') := Lib.hid fun w => by
    have := may_any n m w
    rw [h] at this
    exact this
  have HBl : Hid (∀ w, Bs w (some ⟨b, o, none⟩) m xs → Calls Tryd.prog 23 #[.slice (some ⟨b, o, none⟩) m c] w fun e w' => e = .returned (.bool true) ∧ w = w') := Lib.hid fun w hb => by
    have := blank_calls (some ⟨b, o, none⟩) m c xs w hb (by unfold maxLen; omega)
    rw [hall] at this
    exact this
  have HCL : Hid (cls n m xs = 0) := Lib.hid (by
    rw [cls_in h (by rw [hb.len]), if_neg (fun e => ?_), hall]
    · rfl
    · have h1 : (xs.take 8).getD 0 0 = 84 := by rw [e]; exact head0 h
      have h0 : xs.getD 0 0 = 255 := by
        have hlt : 0 < xs.length := by rw [hb.len]; omega
        have := List.all_eq_true.1 hall xs[0] (List.getElem_mem hlt)
        rw [List.getD_eq_getElem?_getD, List.getElem?_eq_getElem hlt, Option.getD_some]
        simpa using this
      rw [List.getD_eq_getElem?_getD, List.getElem?_take, if_pos (by omega), ← List.getD_eq_getElem?_getD, h0] at h1
      omega)
  rw [HCL.out]
  have HX := Lib.hid (GX.of w n m)
  have HB := Lib.hid hb
  clear h hall hb HCL
  have e1 : ((m : Int) != (m : Int)) = false := by simp
  go_enter Tryd.func12, Tryd.ntmps12
  go_wp2_with fail
  refine (hm.out _).mono ?_
  rintro e w1 ⟨rfl, hb⟩
  have HX1 := Lib.hid (HX.out.below hb)
  have b1 := HX1.out.c1
  have HB1 := Lib.hid (HB.out.below HX1.out.bel)
  clear hb
  go_wp2_with fail
  refine (HBl.out _ HB1.out).mono ?_
  rintro e w' ⟨rfl, rfl⟩
  go_wp2_with fail
  go_ret
  exact ⟨rfl, HX1.out.bel⟩
set_option maxRecDepth 100000 in
set_option maxHeartbeats 2000000 in
theorem class_full (n : Int) (m : Nat) (b o c : Nat) (xs : List Int) (w : World) (h : may n m = true) (hb : Bs w (some ⟨b, o, none⟩) m xs) (hc : m ≤ c) (hall : xs.all (· == 255) = false) : Calls Tryd.prog 12 #[.agg #[.int .i64 n, .int .i64 m], .slice (some ⟨b, o, none⟩) m c] w fun e w' => e = .returned (.int .i64 (cls n m xs)) ∧ Below w.heap.size w w' := by
  have hz := may_yes h
  have hm : Hid (∀ w, Calls Tryd.prog 22 #[.agg #[.int .i64 n, .int .i64 (m : Int)]] w fun e w' => e = .returned (.bool true) ∧ Below w.heap.size w w') := Lib.hid fun w => by
    have := may_any n m w
    rw [h] at this
    exact this
  have HBl : Hid (∀ w, Bs w (some ⟨b, o, none⟩) m xs → Calls Tryd.prog 23 #[.slice (some ⟨b, o, none⟩) m c] w fun e w' => e = .returned (.bool false) ∧ w = w') := Lib.hid fun w hb => by
    have := blank_calls (some ⟨b, o, none⟩) m c xs w hb (by unfold maxLen; omega)
    rw [hall] at this
    exact this
  have HCL : Hid (cls n m xs = if decide (xs.take 8 = hd n m) = true then 1 else 2) := Lib.hid (by
    rw [cls_in h (by rw [hb.len]), hall]
    simp)
  have HX := Lib.hid (GX.of w n m)
  have HB := Lib.hid hb
  have e1 : ((m : Int) != (m : Int)) = false := by simp
  have HA := Lib.hid (fun v => arr_in v (some ⟨b, o, none⟩) m c (by omega))
  have HU := Lib.hid (fun v => of_calls n m v)
  have h8 : (xs.take 8).length = 8 := by rw [List.length_take, hb.len]; omega
  have HE := Lib.hid (fun v => eq8 (xs.take 8) (hd n m) h8 (hd_len n m) v)
  have HK : Hid (∀ v, Below w.heap.size w v → ∀ k, k < 8 → v.cell? ⟨b, o + k, none⟩ = some (.int .u8 ((xs.take 8).getD k 0))) := Lib.hid fun v hv k hk => by
    rw [(hb.below hv).at_ k (by omega), List.getD_eq_getElem?_getD, List.getD_eq_getElem?_getD, List.getElem?_take, if_pos hk]
  obtain ⟨B, hB⟩ : ∃ B, decide (xs.take 8 = hd n m) = B := ⟨_, rfl⟩
  rw [hB] at HE HCL
  generalize ((hd n m).map (Value.int .u8)).toArray = U at HU HE
  generalize xs.take 8 = ts at HE HK h8 hB
  obtain ⟨t0, t1, t2, t3, t4, t5, t6, t7, rfl⟩ := eights h8
  have he : ∀ v, (Op.equalIn 10000 63 (.agg #[.int .u8 t0, .int .u8 t1, .int .u8 t2, .int .u8 t3, .int .u8 t4, .int .u8 t5, .int .u8 t6, .int .u8 t7]) (.agg U)).run Tryd.prog v = .ok B v := HE.out
  have HE2 := Lib.hid he
  clear h hall hb hB HE h8 he
  go_enter Tryd.func12, Tryd.ntmps12
  go_wp2_with fail
  refine (hm.out _).mono ?_
  rintro e w1 ⟨rfl, hb⟩
  have HX1 := Lib.hid (HX.out.below hb)
  have b1 := HX1.out.c1
  have HB1 := Lib.hid (HB.out.below HX1.out.bel)
  clear hb
  go_wp2_with fail
  refine (HBl.out _ HB1.out).mono ?_
  rintro e w' ⟨rfl, rfl⟩
  have RD : Hid (∀ v, Below w1.heap.size w1 v → Below w1.heap.size w1 v ∧ v.cell? ⟨w.heap.size, 0, none⟩ = some (.int .i64 n) ∧ v.cell? ⟨w.heap.size, 1, none⟩ = some (.int .i64 m) ∧ v.cell? ⟨b, o, none⟩ = some (.int .u8 t0) ∧ v.cell? ⟨b, o + 1, none⟩ = some (.int .u8 t1) ∧ v.cell? ⟨b, o + 2, none⟩ = some (.int .u8 t2) ∧ v.cell? ⟨b, o + 3, none⟩ = some (.int .u8 t3) ∧ v.cell? ⟨b, o + 4, none⟩ = some (.int .u8 t4) ∧ v.cell? ⟨b, o + 5, none⟩ = some (.int .u8 t5) ∧ v.cell? ⟨b, o + 6, none⟩ = some (.int .u8 t6) ∧ v.cell? ⟨b, o + 7, none⟩ = some (.int .u8 t7)) := Lib.hid fun v hv => by
    have hk := HK.out v (HX1.out.below hv).bel
    exact ⟨hv, (HX1.out.below hv).c0, (HX1.out.below hv).c1, hk 0 (by omega), hk 1 (by omega), hk 2 (by omega), hk 3 (by omega), hk 4 (by omega), hk 5 (by omega), hk 6 (by omega), hk 7 (by omega)⟩
  have ha := HA.out
  have he := HE2.out
  clear HK HB1 HBl hm HE2
  go_wp2_with fail
  refine wp_region_noPanic ?_
  go_region_held3 (fun v => Below w1.heap.size w1 v ∧ v.cell? ⟨w.heap.size, 0, none⟩ = some (.int .i64 n) ∧ v.cell? ⟨w.heap.size, 1, none⟩ = some (.int .i64 m) ∧ v.cell? ⟨b, o, none⟩ = some (.int .u8 t0) ∧ v.cell? ⟨b, o + 1, none⟩ = some (.int .u8 t1) ∧ v.cell? ⟨b, o + 2, none⟩ = some (.int .u8 t2) ∧ v.cell? ⟨b, o + 3, none⟩ = some (.int .u8 t3) ∧ v.cell? ⟨b, o + 4, none⟩ = some (.int .u8 t4) ∧ v.cell? ⟨b, o + 5, none⟩ = some (.int .u8 t5) ∧ v.cell? ⟨b, o + 6, none⟩ = some (.int .u8 t6) ∧ v.cell? ⟨b, o + 7, none⟩ = some (.int .u8 t7))
    (first
      | exact RD.out _ (Below.refl _ _)
      | exact RD.out _ (by assumption)
      | exact RD.out _ (Below.drew (by assumption))
      | exact RD.out _ (Below.drew (Below.refl _ _))
      | exact RD.out _ (And.left (by assumption)))
    (first
      | (go_at_call 24; refine (HU.out _).mono ?_; rintro e w4 ⟨rfl, hb4⟩; have hn4 : Below w1.heap.size w1 w4 := (And.left (by assumption) : Below w1.heap.size w1 _).trans (hb4.mono (Below.size (And.left (by assumption)))); clear hb4))
  all_goals
    refine NoPanic.normal ?_
    have HW4 := Lib.hid (HX1.out.bel.trans (hn4.mono HX1.out.bel.size))
    clear RD HU b1 ha he hn4
    cases B with
    | true =>
      go_wp2_with fail
      go_ret
      exact ⟨Byte.ret_int HCL.out.symm, HW4.out⟩
    | false =>
      go_wp2_with fail
      go_ret
      exact ⟨Byte.ret_int HCL.out.symm, HW4.out⟩
theorem class_calls (n z : Int) (A : Option Addr) (m c : Nat) (xs : List Int) (w : World) (hb : Bs w A m xs) (hc : m ≤ c) : Calls Tryd.prog 12 #[.agg #[.int .i64 n, .int .i64 z], .slice A m c] w fun e w' => e = .returned (.int .i64 (cls n z xs)) ∧ Below w.heap.size w w' := by
  cases h : may n z with
  | false => exact class_may n z A m c xs w h
  | true =>
    by_cases e : (m : Int) = z
    · subst e
      have hz := may_yes h
      obtain ⟨b, o, rfl, _, _⟩ := hb.2.2 0 (by omega)
      cases hall : xs.all (· == 255) with
      | true => exact class_blank n m b o c xs w h hb hc hall
      | false => exact class_full n m b o c xs w h hb hc hall
    · exact class_len n z A m c xs w h hb.len e
end Go.Proofs.YthbafcihmcjchaaDoor.HeadP

/- The project's isFull, Of and Next (of nothing) of layer 8. -/
namespace Go.Proofs.YthbafcihmcjchaaDoor.ScanZo
set_option linter.unusedVariables false
set_option linter.unusedSimpArgs false
open Go.RowKit
open Go.Proofs.YthbafcihmcjchaaDoor.Byte Go.Proofs.YthbafcihmcjchaaDoor.PlaceM Go.Proofs.YthbafcihmcjchaaDoor.PlaceV Go.Proofs.YthbafcihmcjchaaDoor.RecM Go.Proofs.YthbafcihmcjchaaDoor.RecX Go.Proofs.YthbafcihmcjchaaDoor.RingM Go.Proofs.YthbafcihmcjchaaDoor.RingK Go.Proofs.YthbafcihmcjchaaDoor.RingS Go.Proofs.YthbafcihmcjchaaDoor.ScanM Go.Proofs.YthbafcihmcjchaaDoor.ScanO Go.Proofs.YthbafcihmcjchaaDoor.ScanZ Go.Proofs.YthbafcihmcjchaaDoor.Own

theorem sc_full (xs : List Int) (k : Int) (a : Nat) : (sc xs k a).2.2 = (decide ((sc xs k a).2.1 = xs.length) || !decide (cs xs ((sc xs k a).2.1 : Nat) = 0)) := by
  generalize hn : xs.length - a = n
  induction n using Nat.strongRecOn generalizing a with
  | ind n ih =>
    cases ho : on xs a with
    | false => rw [sc_off ho]
    | true =>
      obtain ⟨r, he, hl, hr⟩ := on_end ho
      have h1 := ih (xs.length - (a + 8 + r)) (by omega) (a + 8 + r) rfl
      rcases on_cases ho with h | ⟨h, hg⟩
      · rw [sc_skip h he]
        exact h1
      · rw [sc_one h hg he]
        exact h1
set_option maxHeartbeats 1000000 in
theorem full_calls (A : Option Addr) (m c : Nat) (xs : List Int) (a : Nat) (w : World) (hb : Bs w A m xs) (hc : m ≤ c) (hm : m ≤ 100000) :
    Calls Tryd.prog 14 #[.slice A m c, .int .i64 a] w fun e w' => e = .returned (.bool (decide (a = xs.length) || !decide (cs xs a = 0))) ∧ Below w.heap.size w w' := by
  have HL : Hid (xs.length = m) := Lib.hid hb.len
  have CA := Lib.hid (RecX.class_calls A m c xs a w hb (by omega) hc)
  clear hb
  obtain ⟨s, hs⟩ : ∃ s, cs xs a = s := ⟨_, rfl⟩
  obtain ⟨r, hr⟩ : ∃ r, cr xs a = r := ⟨_, rfl⟩
  obtain ⟨q, hq⟩ : ∃ q, ce xs a = q := ⟨_, rfl⟩
  rw [hs, hr, hq] at CA
  rw [hs, HL.out]
  clear hs hr hq
  by_cases h0 : s = 0
  · subst h0
    by_cases ha : a = m
    · subst ha
      have d : ((a : Int) == (a : Int)) = true := by simp
      go_enter Tryd.func14, Tryd.ntmps14
      go_wp2_with fail
      refine CA.out.mono ?_
      rintro e w2 ⟨A2, c2, rfl, _, _, _, hb2⟩
      have HB2 := Lib.hid hb2
      clear hb2
      go_wp2_with fail
      go_ret
      exact ⟨by simp, HB2.out⟩
    · have d : ((a : Int) == (m : Int)) = false := by rw [beq_eq_false_iff_ne]; omega
      have HA := Lib.hid ha
      clear ha
      go_enter Tryd.func14, Tryd.ntmps14
      go_wp2_with fail
      refine CA.out.mono ?_
      rintro e w2 ⟨A2, c2, rfl, _, _, _, hb2⟩
      have HB2 := Lib.hid hb2
      clear hb2
      go_wp2_with fail
      go_ret
      exact ⟨by simp [HA.out], HB2.out⟩
  · have d : (s != 0) = true := by rw [bne_iff_ne]; exact h0
    have HZ := Lib.hid h0
    clear h0
    go_enter Tryd.func14, Tryd.ntmps14
    go_wp2_with fail
    refine CA.out.mono ?_
    rintro e w2 ⟨A2, c2, rfl, _, _, _, hb2⟩
    have HB2 := Lib.hid hb2
    clear hb2
    go_wp2_with fail
    go_ret
    exact ⟨by simp [HZ.out], HB2.out⟩
theorem next_ok : ScanB.NextOk := by
  intro w
  go_enter Tryd.func10, Tryd.ntmps10
  go_wp2_with fail
  go_loopw [3, 10] (fun u i wr => u = .int .u64 0 ∧ i = .int .i64 0 ∧ w = wr) (fun _ _ _ => 0)
  case atStart => exact ⟨rfl, rfl, rfl⟩
  case round =>
    obtain ⟨rfl, rfl, rfl⟩ := hrel
    go_wp2_with fail
    go_ret
    exact ⟨rfl, Below.refl _ _⟩
theorem info_ssec : (Tryd.prog.info? 31).map (·.size) = some 4 := by kernel_rfl
set_option maxRecDepth 100000 in
set_option maxHeartbeats 4000000 in
theorem of_calls (n z : Int) (A : Option Addr) (m c k : Nat) (xs : List Int) (w : World) (hb : Bs w A m xs) (hc : m ≤ c) (hm : m ≤ 100000) (hk : k ≤ 1000000) (hN : PlaceH.Nowhere w) :
    Calls Tryd.prog 7 #[.agg #[.int .i64 n, .int .i64 z], .int .i64 k, .slice A m c] w (SecE (cl n z xs) (en n z xs k) (fu n z xs k) (fo n z xs k) w) := by
  have HB := Lib.hid hb
  have HN := Lib.hid hN
  clear hb hN
  have RC := Lib.hid (fun w hb => HeadP.class_calls n z A m c xs w hb hc)
  obtain ⟨cc, hcc⟩ : ∃ cc, HeadM.cls n z xs = cc := ⟨_, rfl⟩
  rw [hcc] at RC
  have hcl : cl n z xs = cc := hcc
  obtain ⟨en0, hen⟩ : ∃ x, en n z xs k = x := ⟨_, rfl⟩
  obtain ⟨fu0, hfu⟩ : ∃ x, fu n z xs k = x := ⟨_, rfl⟩
  obtain ⟨fo0, hfo⟩ : ∃ x, fo n z xs k = x := ⟨_, rfl⟩
  rw [hcl, hen, hfu, hfo]
  go_enter Tryd.func7, Tryd.ntmps7
  go_wp2_with fail
  obtain ⟨hR, hW0, hz0⟩ := blk2 w #[.int .i64 n, .int .i64 z] #[.int .i64 0, .int .i64 0, .bool false, .slice none 0 0] 23 31
  obtain ⟨W0, hW⟩ : ∃ W0, (w.alloc (.cells #[.int .i64 n, .int .i64 z] 23)).alloc (.cells #[.int .i64 0, .int .i64 0, .bool false, .slice none 0 0] 31) = W0 := ⟨_, rfl⟩
  rw [hW] at hR hW0 hz0 ⊢
  clear hW
  refine (RC.out _ (HB.out.below hW0)).mono ?_
  rintro e w1 ⟨rfl, hb1⟩
  have HR1 := Lib.hid (hR.below hb1)
  have HW1 := Lib.hid (keeps hW0 hb1)
  have hz1 := hb1.size
  rw [hz0] at hz1
  clear hR hW0 hz0 hb1
  have hrl : w.heap.size + 1 < w1.heap.size := by omega
  rcases (show cc = 0 ∨ cc = 2 ∨ cc = 1 by rw [← hcc]; rcases cls_three n z xs with h | h | h <;> simp [h]) with h | h | h
  · subst h
    obtain rfl : en0 = 0 := by rw [← hen]; unfold en; rw [hcl]; rfl
    obtain rfl : fu0 = false := by rw [← hfu]; unfold fu; rw [hcl]; rfl
    obtain rfl : fo0 = [] := by rw [← hfo]; unfold fo; rw [hcl]; rfl
    clear hen hfu hfo hcl hcc
    go_wp2_with ((with_reducible refine pick none ?_); refine store_blk rfl 31 (.tmp 6) _ rfl (w.heap.size + 1) #[.int .i64 0, .int .i64 0, .bool false, .slice none 0 0] rfl rfl 31 _ HR1.out info_ssec rfl (by simp [Value.oneCell']) ?_; intro w2 hB2 hg2; have hW2 := HW1.out.grown hg2 HW1.out.size (by intro k hk; injection hk with hk; omega))
    refine bodyPost_ret (v := .agg #[.int .i64 0, .int .i64 0, .bool false, .slice none 0 0]) (results_cell_row rfl _ _ (w.heap.size + 1) 31 _ (0, 0) _ rfl hB2 Tryd.underlying31 rfl info_ssec) rfl ?_
    exact ⟨.slice none 0 0, rfl, World.ownsRow_nil _ _ _ _, hW2⟩
  · subst h
    obtain rfl : en0 = 0 := by rw [← hen]; unfold en; rw [hcl]; rfl
    obtain rfl : fu0 = true := by rw [← hfu]; unfold fu; rw [hcl]; rfl
    obtain rfl : fo0 = [] := by rw [← hfo]; unfold fo; rw [hcl]; rfl
    clear hen hfu hfo hcl hcc
    go_wp2_with ((with_reducible refine pick none ?_); refine store_blk rfl 31 (.tmp 6) _ rfl (w.heap.size + 1) #[.int .i64 2, .int .i64 0, .bool true, .slice none 0 0] rfl rfl 31 _ HR1.out info_ssec rfl (by simp [Value.oneCell']) ?_; intro w2 hB2 hg2; have hW2 := HW1.out.grown hg2 HW1.out.size (by intro k hk; injection hk with hk; omega))
    refine bodyPost_ret (v := .agg #[.int .i64 2, .int .i64 0, .bool true, .slice none 0 0]) (results_cell_row rfl _ _ (w.heap.size + 1) 31 _ (0, 0) _ rfl hB2 Tryd.underlying31 rfl info_ssec) rfl ?_
    exact ⟨.slice none 0 0, rfl, World.ownsRow_nil _ _ _ _, hW2⟩
  · subst h
    have h8 : 8 ≤ m := by rw [← HB.out.len]; exact live_len hcc
    have HEN : Hid (en0 = (sc xs k 8).2.1 ∧ fu0 = (sc xs k 8).2.2 ∧ fo0 = (sc xs k 8).1) := Lib.hid ⟨by rw [← hen]; unfold en; rw [hcl]; rfl, by rw [← hfu]; unfold fu; rw [hcl]; rfl, by rw [← hfo]; unfold fo; rw [hcl]; rfl⟩
    clear hen hfu hfo hcl hcc
    have TK := Lib.hid (take_calls A m c k xs w1 (HB.out.below HW1.out) hc hm hk h8 (HN.out.below HW1.out))
    obtain ⟨z1, z2, z3⟩ := HEN.out
    have z4 := sc_full xs k 8
    rw [← z2, ← z1] at z4
    rw [← z1, ← z3] at TK
    have HZ4 := Lib.hid z4
    clear z1 z2 z3 z4
    go_wp2_with fail
    refine TK.out.mono ?_
    rintro e w2 ⟨v, rfl, ho2, hb2⟩
    have HR2 := Lib.hid (HR1.out.below hb2)
    have HW2 := Lib.hid (keeps HW1.out hb2)
    have HO2 := Lib.hid ho2
    obtain ⟨D, N, p, rfl⟩ := own_slice ho2
    have hz2 := hb2.size
    have FU := Lib.hid (full_calls A m c xs en0 w2 (HB.out.below HW2.out) hc hm)
    rw [← HZ4.out] at FU
    clear ho2 hb2
    go_wp2_with (first
      | (go_at_call 14; refine FU.out.mono ?_; rintro e w3 ⟨rfl, hb3⟩; have HR3 := Lib.hid (HR2.out.below hb3); have HW3 := Lib.hid (keeps HW2.out hb3); have HO3 := Lib.hid (RingF.own_below HO2.out hb3); clear hb3)
      | ((with_reducible refine pick none ?_); refine store_blk rfl 31 (.tmp 6) _ rfl (w.heap.size + 1) #[.int .i64 1, .int .i64 en0, .bool fu0, .slice D N p] rfl rfl 31 _ HR3.out info_ssec rfl (by simp [Value.oneCell']) ?_; intro w4 hB4 hg4; have hW4 := HW3.out.grown hg4 HW3.out.size (by intro k hk; injection hk with hk; omega); have hO4 := HO3.out.kept hg4 (own_not HO3.out (by omega))))
    refine bodyPost_ret (v := .agg #[.int .i64 1, .int .i64 en0, .bool fu0, .slice D N p]) (results_cell_row rfl _ _ (w.heap.size + 1) 31 _ (0, 0) _ rfl hB4 Tryd.underlying31 rfl info_ssec) rfl ?_
    exact ⟨.slice D N p, rfl, hO4.mono (by omega), hW4⟩
theorem of_ok : ScanB.OfOk := fun n z A m c k xs w hb hc hm hk hN => of_calls n z A m c k xs w hb hc (by omega) (by omega) hN
end Go.Proofs.YthbafcihmcjchaaDoor.ScanZo

/- How an argument that is an array or a struct of plain cells is opened: its cells in their order, each with its form and bounds, out of the outer form alone. -/
namespace Go.Proofs.YthbafcihmcjchaaDoor.Open
open Go.RowKit Go.WideShapes Go.ChangeShapes

def CellsOk (P : Program) (w : World) (r : Reach) (b : Nat) : List TypeId → List Value → Prop
  | [], [] => True
  | t :: ts, v :: vs => Cell.okWide P w r b t v ∧ CellsOk P w r b ts vs
  | _, _ => False
section
variable {P : Program} {w : World} {r : Reach} {b : Nat}
theorem CellsOk.nil_ {cs : List Value} (h : CellsOk P w r b [] cs) : cs = [] := by
  cases cs with
  | nil => rfl
  | cons _ _ => exact h.elim
theorem CellsOk.cons_ {t : TypeId} {ts : List TypeId} {cs : List Value} (h : CellsOk P w r b (t :: ts) cs) : ∃ v vs, cs = v :: vs ∧ Cell.okWide P w r b t v ∧ CellsOk P w r b ts vs := by
  cases cs with
  | nil => exact h.elim
  | cons v vs => exact ⟨v, vs, rfl, h.1, h.2⟩
theorem CellsOk.of {ts : List TypeId} : ∀ {cs : List Value}, cs.length = ts.length → (∀ (i : Nat) v u, cs[i]? = some v → ts[i]? = some u → Cell.okWide P w r b u v) → CellsOk P w r b ts cs := by
  induction ts with
  | nil =>
    intro cs hl _
    cases cs with
    | nil => trivial
    | cons _ _ => simp at hl
  | cons t ts ih =>
    intro cs hl h
    cases cs with
    | nil => simp at hl
    | cons v vs => exact ⟨h 0 v t rfl rfl, ih (by simpa using hl) fun i v' u h1 h2 => h (i + 1) v' u (by simpa using h1) (by simpa using h2)⟩
theorem open_cells {t : TypeId} {ts : List TypeId} {v : Value} (hagg : (match P.underlying t with | some (.struct _) | some (.array _ _) => true | _ => false) = true) (hts : P.cellTypes P.depth t = some ts) (hn : P.cellsOf t = ts.length)
    (h : Value.okWide P w r b t v) : ∃ cs : List Value, v = .agg cs.toArray ∧ CellsOk P w r b ts cs := by
  have key : (∃ cs, v = .agg cs ∧ cs.size = P.cellsOf t ∧ Row.okWide P w r b t cs) := by
    unfold Value.okWide at h
    split at h <;> simp_all
  obtain ⟨cs, rfl, hs, ts', h1, _, h2⟩ := key
  rw [hts] at h1
  injection h1 with h1
  subst h1
  obtain ⟨l⟩ := cs
  refine ⟨l, rfl, CellsOk.of (by rw [← hn, ← hs]; rfl) fun i v u hv hu => ?_⟩
  obtain ⟨u', hu', hok⟩ := h2 i v (by simpa using hv)
  have hi : i < ts.length := by
    rcases Nat.lt_or_ge i ts.length with h | h
    · exact h
    · rw [List.getElem?_eq_none h] at hu; cases hu
  rw [Nat.mod_eq_of_lt hi, hu] at hu'
  injection hu' with hu'
  subst hu'
  exact hok
theorem cell_int {t : TypeId} {k : IntKind} {v : Value} (ht : P.underlying t = some (.int k)) (h : Cell.okWide P w r b t v) : ∃ n, v = .int k n ∧ (Lit.int k n).wf = true := by
  unfold Cell.okWide at h
  rw [ht] at h
  cases v <;> simp [Cell.ok, ht] at h
  rename_i k' n
  obtain ⟨rfl, h1⟩ := h
  refine ⟨n, rfl, ?_⟩
  simpa [Lit.wf, IntKind.has] using h1
theorem cell_slice {t e : TypeId} {v : Value} (ht : P.underlying t = some (.slice e)) (h : Cell.okWide P w r b t v) : ∃ a len cap, v = .slice a len cap := by
  simp only [Cell.okWide, ht] at h
  cases v <;> simp_all [Cell.ok]
theorem cell_bool {t : TypeId} {v : Value} (ht : P.underlying t = some .bool) (h : Cell.okWide P w r b t v) : ∃ x, v = .bool x := by
  unfold Cell.okWide at h
  rw [ht] at h
  cases v <;> simp [Cell.ok, ht] at h
  exact ⟨_, rfl⟩
end
end Go.Proofs.YthbafcihmcjchaaDoor.Open
