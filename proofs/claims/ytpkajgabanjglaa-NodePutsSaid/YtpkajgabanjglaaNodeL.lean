/- The walks of layer 15's laws, over what the project's functions are asked. -/
import Derived.Test.YtpkajgabanjglaaNodeG
import Derived.Test.YtpkajgabanjglaaLst
import Derived.Test.YtpkajgabanjglaaHo
import Derived.Deep.MidRow
import Derived.Lib.MinMax
namespace Go.Proofs.Ytpkajgabanjglaa.NodeL
set_option linter.unusedVariables false
set_option linter.unusedSimpArgs false
open Go.RowKit
open Go.Proofs.Ytpkajgabanjglaa.Byte Go.Proofs.Ytpkajgabanjglaa.PackM Go.Proofs.Ytpkajgabanjglaa.KeysR Go.Proofs.Ytpkajgabanjglaa.NodeM Go.Proofs.Ytpkajgabanjglaa.NodeR Go.Proofs.Ytpkajgabanjglaa.NodeG Go.Proofs.Ytpkajgabanjglaa.Lst Go.Proofs.Ytpkajgabanjglaa.Ho
open Go.Proofs.Ytpkajgabanjglaa.Own hiding keeps

/-- A piece: which block, from which byte in it on, how many. -/
def trE : Enc (Int × Int × Int) := ⟨fun x => [.int .i64 x.1, .int .i64 x.2.1, .int .i64 x.2.2], 3, fun _ => rfl, fun x u hu => by simp at hu; rcases hu with rfl | rfl | rfl <;> rfl, by omega⟩
theorem info3 : (Try.prog.info? 36).map (·.size) = some 3 := by kernel_rfl
def cutL (a n : Int) : List (Int × Int × Int) := if a < 0 ∨ n ≤ 0 ∨ 4096 < a ∨ 4096 - a < n then [] else cuts n.toNat a n
def blk (size : Int) : Int := if size ≤ 0 then 0 else (size - 1) / 64 + 1
def newV (k p : Int) : Value := if k = 1 then .agg #[.int .u8 1, .int .u32 1, .int .u32 0, .int .u32 0] else .agg #[.int .u8 2, .int .u32 2, .int .u32 0, .int .u32 p]
def MayOk : Prop := ∀ (k l s p : Int) (w : World), 0 ≤ k → k ≤ 255 → 0 ≤ l → l ≤ 4294967295 → 0 ≤ s → s ≤ 4294967295 → 0 ≤ p → p ≤ 4294967295 → Calls Try.prog 11 #[.agg #[.int .u8 k, .int .u32 l, .int .u32 s, .int .u32 p]] w fun e w' => e = .returned (.bool (may k l s p)) ∧ Below w.heap.size w w'
def PutOk : Prop := ∀ (k l s p : Int) (w : World), 0 ≤ k → k ≤ 255 → 0 ≤ l → l ≤ 4294967295 → 0 ≤ s → s ≤ 4294967295 → 0 ≤ p → p ≤ 4294967295 → Calls Try.prog 8 #[.agg #[.int .u8 k, .int .u32 l, .int .u32 s, .int .u32 p]] w fun e w' => e = .returned (.string (nput k l s p)) ∧ Below w.heap.size w w'
def GetOk : Prop := ∀ (t : ByteArray) (w : World), t.size ≤ maxLen → Calls Try.prog 9 #[.string t] w (GetE t w)
def NewOk : Prop := ∀ (k p : Int) (w : World), 0 ≤ k → k ≤ 255 → 0 ≤ p → p ≤ 4294967295 → Calls Try.prog 15 #[.int .u8 k, .int .u32 p] w fun e w' => e = .returned (newV k p) ∧ Below w.heap.size w w'
def RootOk : Prop := ∀ (w : World), Calls Try.prog 16 #[] w fun e w' => e = .returned (.agg #[.int .u8 2, .int .u32 2, .int .u32 0, .int .u32 1]) ∧ Below w.heap.size w w'
def BlocksOk : Prop := ∀ (n : Int) (w : World), -9223372036854775808 ≤ n → n ≤ 9223372036854775807 → Calls Try.prog 18 #[.int .i64 n] w fun e w' => e = .returned (.int .i64 (blk n)) ∧ Below w.heap.size w w'
/-- The pieces, in a new row. -/
def CutE (a n : Int) (w : World) (e : Ending) (w' : World) : Prop := ∃ A m c, e = .returned (.slice A m c) ∧ So trE 36 w' w.heap.size (.slice A m c) m (cutL a n) ∧ Below w.heap.size w w'
def CutOk : Prop := ∀ (a n : Int) (w : World), -9223372036854775808 ≤ a → a ≤ 9223372036854775807 → -9223372036854775808 ≤ n → n ≤ 9223372036854775807 → Calls Try.prog 17 #[.int .i64 a, .int .i64 n] w (CutE a n w)
/-- The law's fixed, as the walks take it. -/
def FixOk : Prop := ∀ w : World, Calls Try.prog 13 #[] w fun e w' => e = .returned (.bool true) ∧ Below w.heap.size w w'

theorem eq3 (a b c : Int) (w : World) : (Op.equalIn 10000 36 (.agg #[.int .i64 a, .int .i64 b, .int .i64 c]) (.agg #[.int .i64 a, .int .i64 b, .int .i64 c])).run Try.prog w = .ok true w := by
  have u5 := Try.underlying3
  have a5 := Try.isAgg3
  have z5 := Try.sizeOf3
  rw [show (10000 : Nat) = 9999 + 1 from rfl, Op.equalIn]
  simp only [Sem.run_bind, run_underlying Try.underlying36, Result.andThen_ok]
  simp only [Std.Legacy.Range.forIn_eq_forIn_range', Std.Legacy.Range.size, Nat.sub_zero, Nat.add_sub_cancel, Nat.div_one, List.range'_succ, List.range'_zero, List.forIn_cons, List.forIn_nil]
  go_simp
theorem eq4 (k l s p : Int) (w : World) : (Op.equalIn 10000 24 (.agg #[.int .u8 k, .int .u32 l, .int .u32 s, .int .u32 p]) (.agg #[.int .u8 k, .int .u32 l, .int .u32 s, .int .u32 p])).run Try.prog w = .ok true w := by
  rw [show (10000 : Nat) = 9999 + 1 from rfl, run_equalIn_struct w 9999 24 _ _ (by kernel_rfl) (by kernel_rfl)]
  have u1 := Try.underlying5
  have u2 := Try.underlying22
  have hfs : Try.prog.fieldsOf 24 = (match Try.prog.underlying 24 with | some (.struct fs) => fs | _ => #[]) := rfl
  rw [hfs, Try.underlying24]
  go_simp

set_option maxRecDepth 100000 in
set_option maxHeartbeats 2000000 in
theorem fixed_calls (hC : CutOk) (hB : BlocksOk) : FixOk := by
  intro w
  have HC := Lib.hid (hC 60 10 w (by omega) (by omega) (by omega) (by omega))
  have HB := Lib.hid (fun w => hB 65 w (by omega) (by omega))
  have eb : blk 65 = 2 := by decide
  rw [eb] at HB
  have EL := Lib.hid (show cutL 60 10 = [(0, 60, 4), (1, 0, 6)] by decide +kernel)
  have E1 := eq3 0 60 4
  have E2 := eq3 1 0 6
  clear hC hB eb
  go_enter Try.func13, Try.ntmps13
  go_wp2_with fail
  refine HC.out.mono ?_
  rintro e w1 ⟨A, m, c, rfl, hso, hb1⟩
  rw [EL.out] at hso
  obtain rfl : 2 = m := hso.1
  rcases hso.form with ⟨_, hm⟩ | ⟨g, cap, hv, hg1, hg2, _⟩
  · cases hm
  injection hv with hA _ hcc
  subst hA
  subst hcc
  have hc1 := (hso.sl.at_ 0 (0, 60, 4) rfl).2
  have hc2 := (hso.sl.at_ 1 (1, 0, 6) rfl).2
  have c0 : w1.cell? ⟨g, 0, none⟩ = some (.int .i64 0) := hc1 0 _ rfl
  have c1 : w1.cell? ⟨g, 1, none⟩ = some (.int .i64 60) := hc1 1 _ rfl
  have c2 : w1.cell? ⟨g, 2, none⟩ = some (.int .i64 4) := hc1 2 _ rfl
  have c3 : w1.cell? ⟨g, 3, none⟩ = some (.int .i64 1) := hc2 0 _ rfl
  have c4 : w1.cell? ⟨g, 4, none⟩ = some (.int .i64 0) := hc2 1 _ rfl
  have c5 : w1.cell? ⟨g, 5, none⟩ = some (.int .i64 6) := hc2 2 _ rfl
  have HB1 := Lib.hid hb1
  clear hso hg1 hg2 hc1 hc2 hb1
  go_wp2_with ((go_at_call 18; refine (HB.out _).mono ?_; rintro e w2 ⟨rfl, hb2⟩; have HB2 := Lib.hid (keeps HB1.out hb2); clear hb2))
  go_ret
  exact ⟨rfl, HB2.out⟩

set_option maxRecDepth 100000 in
set_option maxHeartbeats 8000000 in
theorem puts_law (hM : MayOk) (hP : PutOk) (hG : GetOk) (hF : FixOk) (k l s p : Int) (w : World) (k0 : 0 ≤ k) (k1 : k ≤ 255) (l0 : 0 ≤ l) (l1 : l ≤ 4294967295) (s0 : 0 ≤ s) (s1 : s ≤ 4294967295) (p0 : 0 ≤ p) (p1 : p ≤ 4294967295) :
    Calls Try.prog 3 #[.agg #[.int .u8 k, .int .u32 l, .int .u32 s, .int .u32 p]] w fun e w' => e = .returned (.bool true) ∧ Below w.heap.size w w' := by
  have HF := Lib.hid hF
  have HM := Lib.hid (fun w => hM k l s p w k0 k1 l0 l1 s0 s1 p0 p1)
  have HMR := Lib.hid (fun w => refmay_calls k l s p w k0 k1 l0 l1 s0 s1 p0 p1)
  have HP := Lib.hid (fun w => hP k l s p w k0 k1 l0 l1 s0 s1 p0 p1)
  have HPR := Lib.hid (fun w => refput_all k l s p w k0 k1 l0 l1 s0 s1 p0 p1)
  have HG := Lib.hid (fun w => hG (nput k l s p) w (by rw [nput_size]; decide))
  have hgok := gok_put k0 k1 l0 l1 s0 s1 p0 p1
  have hv : GetV (nput k l s p) = if may k l s p then .tuple #[.agg #[.int .u8 k, .int .u32 l, .int .u32 s, .int .u32 p], .bool true] else .tuple #[.agg #[.int .u8 0, .int .u32 0, .int .u32 0, .int .u32 0], .bool false] := by
    unfold GetV
    rw [hgok, gk_put k0 k1, gl_put k0 k1 l0 l1, gs_put k0 k1 s0 s1, gp_put k0 k1 p0 p1]
  unfold GetE at HG
  rw [hv] at HG
  clear hM hP hG hF hgok hv
  generalize nput k l s p = ss at *
  have EQ := eq4 k l s p
  have EZ := eq4 0 0 0 0
  have hb0 : Below w.heap.size w (w.alloc (.cells #[.int .u8 k, .int .u32 l, .int .u32 s, .int .u32 p] 24)) := (Below.refl _ _).alloc (Nat.le_refl _) _
  have HB0 := Lib.hid hb0
  have HX0 := Lib.hid (Blk.new_ w #[.int .u8 k, .int .u32 l, .int .u32 s, .int .u32 p] 24)
  clear hb0
  cases hb : may k l s p with
  | true =>
    rw [hb] at HM HMR HG
    simp only [if_true, if_false, Bool.false_eq_true] at HG
    clear hb
    go_enter Try.func3, Try.ntmps3
    go_wp2_with fail
    refine (HP.out _).mono ?_
    rintro e w1 ⟨rfl, hb1⟩
    have HX1 := Lib.hid (HX0.out.below hb1)
    have HB1 := Lib.hid (keeps HB0.out hb1)
    clear hb1
    go_wp2_with fail
    refine (HG.out _).mono ?_
    rintro e w2 ⟨rfl, hb2⟩
    have HX2 := Lib.hid ((HX1.out.below hb2).alloc (.cells #[.int .u8 k, .int .u32 l, .int .u32 s, .int .u32 p] 24))
    have HY2 := Lib.hid (Blk.new_ w2 #[.int .u8 k, .int .u32 l, .int .u32 s, .int .u32 p] 24)
    have HB2 := Lib.hid ((keeps HB1.out hb2).alloc (keeps HB1.out hb2).size (.cells #[.int .u8 k, .int .u32 l, .int .u32 s, .int .u32 p] 24))
    clear hb2
    go_wp2_with fail
    obtain ⟨W, hW⟩ : ∃ W, w2.alloc (.cells #[.int .u8 k, .int .u32 l, .int .u32 s, .int .u32 p] 24) = W := ⟨_, rfl⟩
    rw [hW] at HX2 HB2 HY2 ⊢
    clear hW
    have RD : Hid (∀ v, Below W.heap.size W v → Below W.heap.size W v ∧ v.cell? ⟨w.heap.size, 0, none⟩ = some (.int .u8 k) ∧ v.cell? ⟨w.heap.size, 1, none⟩ = some (.int .u32 l) ∧ v.cell? ⟨w.heap.size, 2, none⟩ = some (.int .u32 s) ∧ v.cell? ⟨w.heap.size, 3, none⟩ = some (.int .u32 p)) := Lib.hid (fun v hv => by
      have hx := HX2.out.below hv
      exact ⟨hv, hx.cell 0, hx.cell 1, hx.cell 2, hx.cell 3⟩)
    refine wp_region_held_drew (S := fun v => Below W.heap.size W v ∧ v.cell? ⟨w.heap.size, 0, none⟩ = some (.int .u8 k) ∧ v.cell? ⟨w.heap.size, 1, none⟩ = some (.int .u32 l) ∧ v.cell? ⟨w.heap.size, 2, none⟩ = some (.int .u32 s) ∧ v.cell? ⟨w.heap.size, 3, none⟩ = some (.int .u32 p)) (by kernel_rfl) (RD.out W.drew ((Below.refl _ _).drew)) (fun hHeld => ?_)
    refine ho_val (v := ?_) 0 (some 13) rfl rfl (by kernel_rfl) (by kernel_rfl) (by kernel_rfl) (fun _ _ _ h => h) (by kernel_rfl) (fun w hSw => ?_) (by assumption) ?_
    rotate_left
    · ((try dsimp only at hSw); go_simp; try with_reducible rfl)
    simp only [Act.put, List.setIfInBounds_toArray, List.set_cons_zero, List.set_cons_succ]
    refine ho_val (v := ?_) 1 (some 14) rfl rfl (by kernel_rfl) (by kernel_rfl) (by kernel_rfl) (fun _ _ _ h => h) (by kernel_rfl) (fun w hSw => ?_) (by assumption) ?_
    rotate_left
    · ((try dsimp only at hSw); go_simp; try with_reducible rfl)
    simp only [Act.put, List.setIfInBounds_toArray, List.set_cons_zero, List.set_cons_succ]
    refine ho_step 2 (some 15) rfl rfl (by kernel_rfl) (by kernel_rfl) (fun K hK => ?_)
    go_simp
    refine (HPR.out _).mono ?_
    rintro e v1 ⟨rfl, hv1⟩
    try go_wp2_with fail
    refine hK.out _ _ (RD.out _ (hHeld.1.trans (hv1.mono hHeld.1.size))) (fun hHeld2 => ?_)
    clear hHeld
    have hHeld := hHeld2
    clear hHeld2
    clear hK K
    try simp only [Act.put, List.setIfInBounds_toArray, List.set_cons_zero, List.set_cons_succ]
    refine ho_val (v := ?_) 3 (some 16) rfl rfl (by kernel_rfl) (by kernel_rfl) (by kernel_rfl) (fun _ _ _ h => h) (by kernel_rfl) (fun w hSw => ?_) (by assumption) ?_
    rotate_left
    · ((try dsimp only at hSw); go_simp; try with_reducible rfl)
    simp only [Act.put, List.setIfInBounds_toArray, List.set_cons_zero, List.set_cons_succ]
    refine ho_val (v := ?_) 4 (some 17) rfl rfl (by kernel_rfl) (by kernel_rfl) (by kernel_rfl) (fun _ _ _ h => h) (by kernel_rfl) (fun w hSw => ?_) (by assumption) ?_
    rotate_left
    · ((try dsimp only at hSw); go_simp; try with_reducible rfl)
    simp only [Act.put, List.setIfInBounds_toArray, List.set_cons_zero, List.set_cons_succ]
    refine ho_val (v := ?_) 5 (some 18) rfl rfl (by kernel_rfl) (by kernel_rfl) (by kernel_rfl) (fun _ _ _ h => h) (by kernel_rfl) (fun w hSw => ?_) (by assumption) ?_
    rotate_left
    · ((try dsimp only at hSw); go_simp; try with_reducible rfl)
    simp only [Act.put, List.setIfInBounds_toArray, List.set_cons_zero, List.set_cons_succ]
    refine ho_val (v := ?_) 7 (some 20) rfl rfl (by kernel_rfl) (by kernel_rfl) (by kernel_rfl) (fun _ _ _ h => h) (by kernel_rfl) (fun w hSw => ?_) (by assumption) ?_
    rotate_left
    · ((try dsimp only at hSw); go_simp; try with_reducible rfl)
    simp only [Act.put, List.setIfInBounds_toArray, List.set_cons_zero, List.set_cons_succ]
    refine ho_step 6 (some 19) rfl rfl (by kernel_rfl) (by kernel_rfl) (fun K hK => ?_)
    go_simp
    refine (HM.out _).mono ?_
    rintro e v1 ⟨rfl, hv1⟩
    try go_wp2_with fail
    refine hK.out _ _ (RD.out _ (hHeld.1.trans (hv1.mono hHeld.1.size))) (fun hHeld2 => ?_)
    clear hHeld
    have hHeld := hHeld2
    clear hHeld2
    clear hK K
    try simp only [Act.put, List.setIfInBounds_toArray, List.set_cons_zero, List.set_cons_succ]
    refine ho_step 8 (some 21) rfl rfl (by kernel_rfl) (by kernel_rfl) (fun K hK => ?_)
    go_simp
    refine (HMR.out _).mono ?_
    rintro e v1 ⟨rfl, hv1⟩
    try go_wp2_with fail
    refine hK.out _ _ (RD.out _ (hHeld.1.trans (hv1.mono hHeld.1.size))) (fun hHeld2 => ?_)
    clear hHeld
    have hHeld := hHeld2
    clear hHeld2
    clear hK K
    try simp only [Act.put, List.setIfInBounds_toArray, List.set_cons_zero, List.set_cons_succ]
    refine ho_val (v := ?_) 9 (some 22) rfl rfl (by kernel_rfl) (by kernel_rfl) (by kernel_rfl) (fun _ _ _ h => h) (by kernel_rfl) (fun w hSw => ?_) (by assumption) ?_
    rotate_left
    · ((try dsimp only at hSw); go_simp; try with_reducible rfl)
    simp only [Act.put, List.setIfInBounds_toArray, List.set_cons_zero, List.set_cons_succ]
    refine ho_val (v := ?_) 10 (some 23) rfl rfl (by kernel_rfl) (by kernel_rfl) (by kernel_rfl) (fun _ _ _ h => h) (by kernel_rfl) (fun w hSw => ?_) (by assumption) ?_
    rotate_left
    · ((try dsimp only at hSw); go_simp; try with_reducible rfl)
    simp only [Act.put, List.setIfInBounds_toArray, List.set_cons_zero, List.set_cons_succ]
    refine ho_val (v := ?_) 11 (some 24) rfl rfl (by kernel_rfl) (by kernel_rfl) (by kernel_rfl) (fun _ _ _ h => h) (by kernel_rfl) (fun w hSw => ?_) (by assumption) ?_
    rotate_left
    · ((try dsimp only at hSw); go_simp; try with_reducible rfl)
    simp only [Act.put, List.setIfInBounds_toArray, List.set_cons_zero, List.set_cons_succ]
    refine ho_val (v := ?_) 12 (some 25) rfl rfl (by kernel_rfl) (by kernel_rfl) (by kernel_rfl) (fun _ _ _ h => h) (by kernel_rfl) (fun w hSw => ?_) (by assumption) ?_
    rotate_left
    · ((try dsimp only at hSw); go_simp; try with_reducible rfl)
    simp only [Act.put, List.setIfInBounds_toArray, List.set_cons_zero, List.set_cons_succ]
    refine ho_val (v := ?_) 13 (some 26) rfl rfl (by kernel_rfl) (by kernel_rfl) (by kernel_rfl) (fun _ _ _ h => h) (by kernel_rfl) (fun w hSw => ?_) (by assumption) ?_
    rotate_left
    · ((try dsimp only at hSw); go_simp; try with_reducible rfl)
    simp only [Act.put, List.setIfInBounds_toArray, List.set_cons_zero, List.set_cons_succ]
    refine ho_step 14 (some 27) rfl rfl (by kernel_rfl) (by kernel_rfl) (fun K hK => ?_)
    go_simp
    refine (HMR.out _).mono ?_
    rintro e v1 ⟨rfl, hv1⟩
    try go_wp2_with fail
    refine hK.out _ _ (RD.out _ (hHeld.1.trans (hv1.mono hHeld.1.size))) (fun hHeld2 => ?_)
    clear hHeld
    have hHeld := hHeld2
    clear hHeld2
    clear hK K
    try simp only [Act.put, List.setIfInBounds_toArray, List.set_cons_zero, List.set_cons_succ]
    refine ho_val (v := ?_) 15 (some 28) rfl rfl (by kernel_rfl) (by kernel_rfl) (by kernel_rfl) (fun _ _ _ h => h) (by kernel_rfl) (fun w hSw => ?_) (by assumption) ?_
    rotate_left
    · ((try dsimp only at hSw); go_simp; try with_reducible rfl)
    simp only [Act.put, List.setIfInBounds_toArray, List.set_cons_zero, List.set_cons_succ]
    refine ho_val (v := ?_) 16 (some 29) rfl rfl (by kernel_rfl) (by kernel_rfl) (by kernel_rfl) (fun _ _ _ h => h) (by kernel_rfl) (fun w hSw => ?_) (by assumption) ?_
    rotate_left
    · ((try dsimp only at hSw); go_simp; try with_reducible rfl)
    simp only [Act.put, List.setIfInBounds_toArray, List.set_cons_zero, List.set_cons_succ]
    refine wpAnyH_done (by kernel_rfl) ?_ _
    have HX5 := Lib.hid (HX2.out.below hHeld.1)
    have HY5 := Lib.hid (HY2.out.below hHeld.1)
    have HB5 := Lib.hid (keeps HB2.out hHeld.1)
    clear hHeld RD
    go_wp2_with fail
    refine (HF.out _).mono ?_
    rintro e w6 ⟨rfl, hb6⟩
    have HX6 := Lib.hid (HX5.out.below hb6)
    have HY6 := Lib.hid (HY5.out.below hb6)
    have HB6 := Lib.hid (keeps HB5.out hb6)
    clear hb6
    obtain ⟨d0, d1, d2, d3⟩ : w6.cell? ⟨w.heap.size, 0, none⟩ = some (.int .u8 k) ∧ w6.cell? ⟨w.heap.size, 1, none⟩ = some (.int .u32 l) ∧ w6.cell? ⟨w.heap.size, 2, none⟩ = some (.int .u32 s) ∧ w6.cell? ⟨w.heap.size, 3, none⟩ = some (.int .u32 p) := ⟨HX6.out.cell 0, HX6.out.cell 1, HX6.out.cell 2, HX6.out.cell 3⟩
    obtain ⟨g0, g1, g2, g3⟩ : w6.cell? ⟨w2.heap.size, 0, none⟩ = some (.int .u8 k) ∧ w6.cell? ⟨w2.heap.size, 1, none⟩ = some (.int .u32 l) ∧ w6.cell? ⟨w2.heap.size, 2, none⟩ = some (.int .u32 s) ∧ w6.cell? ⟨w2.heap.size, 3, none⟩ = some (.int .u32 p) := ⟨HY6.out.cell 0, HY6.out.cell 1, HY6.out.cell 2, HY6.out.cell 3⟩
    go_wp2
    go_ret
    exact ⟨rfl, HB6.out⟩
  | false =>
    rw [hb] at HM HMR HG
    simp only [if_true, if_false, Bool.false_eq_true] at HG
    clear hb
    go_enter Try.func3, Try.ntmps3
    go_wp2_with fail
    refine (HP.out _).mono ?_
    rintro e w1 ⟨rfl, hb1⟩
    have HX1 := Lib.hid (HX0.out.below hb1)
    have HB1 := Lib.hid (keeps HB0.out hb1)
    clear hb1
    go_wp2_with fail
    refine (HG.out _).mono ?_
    rintro e w2 ⟨rfl, hb2⟩
    have HX2 := Lib.hid ((HX1.out.below hb2).alloc (.cells #[.int .u8 0, .int .u32 0, .int .u32 0, .int .u32 0] 24))
    have HY2 := Lib.hid (Blk.new_ w2 #[.int .u8 0, .int .u32 0, .int .u32 0, .int .u32 0] 24)
    have HB2 := Lib.hid ((keeps HB1.out hb2).alloc (keeps HB1.out hb2).size (.cells #[.int .u8 0, .int .u32 0, .int .u32 0, .int .u32 0] 24))
    clear hb2
    go_wp2_with fail
    obtain ⟨W, hW⟩ : ∃ W, w2.alloc (.cells #[.int .u8 0, .int .u32 0, .int .u32 0, .int .u32 0] 24) = W := ⟨_, rfl⟩
    rw [hW] at HX2 HB2 HY2 ⊢
    clear hW
    have RD : Hid (∀ v, Below W.heap.size W v → Below W.heap.size W v ∧ v.cell? ⟨w.heap.size, 0, none⟩ = some (.int .u8 k) ∧ v.cell? ⟨w.heap.size, 1, none⟩ = some (.int .u32 l) ∧ v.cell? ⟨w.heap.size, 2, none⟩ = some (.int .u32 s) ∧ v.cell? ⟨w.heap.size, 3, none⟩ = some (.int .u32 p)) := Lib.hid (fun v hv => by
      have hx := HX2.out.below hv
      exact ⟨hv, hx.cell 0, hx.cell 1, hx.cell 2, hx.cell 3⟩)
    refine wp_region_held_drew (S := fun v => Below W.heap.size W v ∧ v.cell? ⟨w.heap.size, 0, none⟩ = some (.int .u8 k) ∧ v.cell? ⟨w.heap.size, 1, none⟩ = some (.int .u32 l) ∧ v.cell? ⟨w.heap.size, 2, none⟩ = some (.int .u32 s) ∧ v.cell? ⟨w.heap.size, 3, none⟩ = some (.int .u32 p)) (by kernel_rfl) (RD.out W.drew ((Below.refl _ _).drew)) (fun hHeld => ?_)
    refine ho_val (v := ?_) 0 (some 13) rfl rfl (by kernel_rfl) (by kernel_rfl) (by kernel_rfl) (fun _ _ _ h => h) (by kernel_rfl) (fun w hSw => ?_) (by assumption) ?_
    rotate_left
    · ((try dsimp only at hSw); go_simp; try with_reducible rfl)
    simp only [Act.put, List.setIfInBounds_toArray, List.set_cons_zero, List.set_cons_succ]
    refine ho_val (v := ?_) 1 (some 14) rfl rfl (by kernel_rfl) (by kernel_rfl) (by kernel_rfl) (fun _ _ _ h => h) (by kernel_rfl) (fun w hSw => ?_) (by assumption) ?_
    rotate_left
    · ((try dsimp only at hSw); go_simp; try with_reducible rfl)
    simp only [Act.put, List.setIfInBounds_toArray, List.set_cons_zero, List.set_cons_succ]
    refine ho_step 2 (some 15) rfl rfl (by kernel_rfl) (by kernel_rfl) (fun K hK => ?_)
    go_simp
    refine (HPR.out _).mono ?_
    rintro e v1 ⟨rfl, hv1⟩
    try go_wp2_with fail
    refine hK.out _ _ (RD.out _ (hHeld.1.trans (hv1.mono hHeld.1.size))) (fun hHeld2 => ?_)
    clear hHeld
    have hHeld := hHeld2
    clear hHeld2
    clear hK K
    try simp only [Act.put, List.setIfInBounds_toArray, List.set_cons_zero, List.set_cons_succ]
    refine ho_val (v := ?_) 3 (some 16) rfl rfl (by kernel_rfl) (by kernel_rfl) (by kernel_rfl) (fun _ _ _ h => h) (by kernel_rfl) (fun w hSw => ?_) (by assumption) ?_
    rotate_left
    · ((try dsimp only at hSw); go_simp; try with_reducible rfl)
    simp only [Act.put, List.setIfInBounds_toArray, List.set_cons_zero, List.set_cons_succ]
    refine ho_val (v := ?_) 4 (some 17) rfl rfl (by kernel_rfl) (by kernel_rfl) (by kernel_rfl) (fun _ _ _ h => h) (by kernel_rfl) (fun w hSw => ?_) (by assumption) ?_
    rotate_left
    · ((try dsimp only at hSw); go_simp; try with_reducible rfl)
    simp only [Act.put, List.setIfInBounds_toArray, List.set_cons_zero, List.set_cons_succ]
    refine ho_val (v := ?_) 5 (some 18) rfl rfl (by kernel_rfl) (by kernel_rfl) (by kernel_rfl) (fun _ _ _ h => h) (by kernel_rfl) (fun w hSw => ?_) (by assumption) ?_
    rotate_left
    · ((try dsimp only at hSw); go_simp; try with_reducible rfl)
    simp only [Act.put, List.setIfInBounds_toArray, List.set_cons_zero, List.set_cons_succ]
    refine ho_val (v := ?_) 7 (some 20) rfl rfl (by kernel_rfl) (by kernel_rfl) (by kernel_rfl) (fun _ _ _ h => h) (by kernel_rfl) (fun w hSw => ?_) (by assumption) ?_
    rotate_left
    · ((try dsimp only at hSw); go_simp; try with_reducible rfl)
    simp only [Act.put, List.setIfInBounds_toArray, List.set_cons_zero, List.set_cons_succ]
    refine ho_step 6 (some 19) rfl rfl (by kernel_rfl) (by kernel_rfl) (fun K hK => ?_)
    go_simp
    refine (HM.out _).mono ?_
    rintro e v1 ⟨rfl, hv1⟩
    try go_wp2_with fail
    refine hK.out _ _ (RD.out _ (hHeld.1.trans (hv1.mono hHeld.1.size))) (fun hHeld2 => ?_)
    clear hHeld
    have hHeld := hHeld2
    clear hHeld2
    clear hK K
    try simp only [Act.put, List.setIfInBounds_toArray, List.set_cons_zero, List.set_cons_succ]
    refine ho_step 8 (some 21) rfl rfl (by kernel_rfl) (by kernel_rfl) (fun K hK => ?_)
    go_simp
    refine (HMR.out _).mono ?_
    rintro e v1 ⟨rfl, hv1⟩
    try go_wp2_with fail
    refine hK.out _ _ (RD.out _ (hHeld.1.trans (hv1.mono hHeld.1.size))) (fun hHeld2 => ?_)
    clear hHeld
    have hHeld := hHeld2
    clear hHeld2
    clear hK K
    try simp only [Act.put, List.setIfInBounds_toArray, List.set_cons_zero, List.set_cons_succ]
    refine ho_val (v := ?_) 9 (some 22) rfl rfl (by kernel_rfl) (by kernel_rfl) (by kernel_rfl) (fun _ _ _ h => h) (by kernel_rfl) (fun w hSw => ?_) (by assumption) ?_
    rotate_left
    · ((try dsimp only at hSw); go_simp; try with_reducible rfl)
    simp only [Act.put, List.setIfInBounds_toArray, List.set_cons_zero, List.set_cons_succ]
    refine ho_val (v := ?_) 10 (some 23) rfl rfl (by kernel_rfl) (by kernel_rfl) (by kernel_rfl) (fun _ _ _ h => h) (by kernel_rfl) (fun w hSw => ?_) (by assumption) ?_
    rotate_left
    · ((try dsimp only at hSw); go_simp; try with_reducible rfl)
    simp only [Act.put, List.setIfInBounds_toArray, List.set_cons_zero, List.set_cons_succ]
    refine ho_val (v := ?_) 11 (some 24) rfl rfl (by kernel_rfl) (by kernel_rfl) (by kernel_rfl) (fun _ _ _ h => h) (by kernel_rfl) (fun w hSw => ?_) (by assumption) ?_
    rotate_left
    · ((try dsimp only at hSw); go_simp; try with_reducible rfl)
    simp only [Act.put, List.setIfInBounds_toArray, List.set_cons_zero, List.set_cons_succ]
    refine ho_val (v := ?_) 12 (some 25) rfl rfl (by kernel_rfl) (by kernel_rfl) (by kernel_rfl) (fun _ _ _ h => h) (by kernel_rfl) (fun w hSw => ?_) (by assumption) ?_
    rotate_left
    · ((try dsimp only at hSw); go_simp; try with_reducible rfl)
    simp only [Act.put, List.setIfInBounds_toArray, List.set_cons_zero, List.set_cons_succ]
    refine ho_val (v := ?_) 13 (some 26) rfl rfl (by kernel_rfl) (by kernel_rfl) (by kernel_rfl) (fun _ _ _ h => h) (by kernel_rfl) (fun w hSw => ?_) (by assumption) ?_
    rotate_left
    · ((try dsimp only at hSw); go_simp; try with_reducible rfl)
    simp only [Act.put, List.setIfInBounds_toArray, List.set_cons_zero, List.set_cons_succ]
    refine ho_step 14 (some 27) rfl rfl (by kernel_rfl) (by kernel_rfl) (fun K hK => ?_)
    go_simp
    refine (HMR.out _).mono ?_
    rintro e v1 ⟨rfl, hv1⟩
    try go_wp2_with fail
    refine hK.out _ _ (RD.out _ (hHeld.1.trans (hv1.mono hHeld.1.size))) (fun hHeld2 => ?_)
    clear hHeld
    have hHeld := hHeld2
    clear hHeld2
    clear hK K
    try simp only [Act.put, List.setIfInBounds_toArray, List.set_cons_zero, List.set_cons_succ]
    refine ho_val (v := ?_) 15 (some 28) rfl rfl (by kernel_rfl) (by kernel_rfl) (by kernel_rfl) (fun _ _ _ h => h) (by kernel_rfl) (fun w hSw => ?_) (by assumption) ?_
    rotate_left
    · ((try dsimp only at hSw); go_simp; try with_reducible rfl)
    simp only [Act.put, List.setIfInBounds_toArray, List.set_cons_zero, List.set_cons_succ]
    refine ho_val (v := ?_) 16 (some 29) rfl rfl (by kernel_rfl) (by kernel_rfl) (by kernel_rfl) (fun _ _ _ h => h) (by kernel_rfl) (fun w hSw => ?_) (by assumption) ?_
    rotate_left
    · ((try dsimp only at hSw); go_simp; try with_reducible rfl)
    simp only [Act.put, List.setIfInBounds_toArray, List.set_cons_zero, List.set_cons_succ]
    refine wpAnyH_done (by kernel_rfl) ?_ _
    have HX5 := Lib.hid (HX2.out.below hHeld.1)
    have HY5 := Lib.hid (HY2.out.below hHeld.1)
    have HB5 := Lib.hid (keeps HB2.out hHeld.1)
    clear hHeld RD
    go_wp2_with fail
    refine (HF.out _).mono ?_
    rintro e w6 ⟨rfl, hb6⟩
    have HX6 := Lib.hid (HX5.out.below hb6)
    have HY6 := Lib.hid (HY5.out.below hb6)
    have HB6 := Lib.hid (keeps HB5.out hb6)
    clear hb6
    obtain ⟨d0, d1, d2, d3⟩ : w6.cell? ⟨w.heap.size, 0, none⟩ = some (.int .u8 k) ∧ w6.cell? ⟨w.heap.size, 1, none⟩ = some (.int .u32 l) ∧ w6.cell? ⟨w.heap.size, 2, none⟩ = some (.int .u32 s) ∧ w6.cell? ⟨w.heap.size, 3, none⟩ = some (.int .u32 p) := ⟨HX6.out.cell 0, HX6.out.cell 1, HX6.out.cell 2, HX6.out.cell 3⟩
    obtain ⟨g0, g1, g2, g3⟩ : w6.cell? ⟨w2.heap.size, 0, none⟩ = some (.int .u8 0) ∧ w6.cell? ⟨w2.heap.size, 1, none⟩ = some (.int .u32 0) ∧ w6.cell? ⟨w2.heap.size, 2, none⟩ = some (.int .u32 0) ∧ w6.cell? ⟨w2.heap.size, 3, none⟩ = some (.int .u32 0) := ⟨HY6.out.cell 0, HY6.out.cell 1, HY6.out.cell 2, HY6.out.cell 3⟩
    go_wp2
    go_ret
    exact ⟨rfl, HB6.out⟩
end Go.Proofs.Ytpkajgabanjglaa.NodeL
