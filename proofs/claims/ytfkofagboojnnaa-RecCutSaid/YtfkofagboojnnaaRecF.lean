/- The walks of layer 6's chapter's example, and of the laws RecFrames, RecClass, RecPuts. -/
import Derived.Test.YtfkofagboojnnaaRecY
import Derived.Lib.SlBytesConst
namespace Go.Proofs.Ytfkofagboojnnaa.RecF
set_option linter.unusedVariables false
set_option linter.unusedSimpArgs false
open Go.RowKit
open Go.Proofs.Ytfkofagboojnnaa.Byte Go.Proofs.Ytfkofagboojnnaa.PackM Go.Proofs.Ytfkofagboojnnaa.PackV Go.Proofs.Ytfkofagboojnnaa.RecM Go.Proofs.Ytfkofagboojnnaa.RecW Go.Proofs.Ytfkofagboojnnaa.RecP Go.Proofs.Ytfkofagboojnnaa.RecX

theorem slice_front {g n cap h : Nat} (w : World) (h0 : 0 < cap) (hc : h ≤ cap) : (Instr.sliceAt 22 (.slice (some ⟨g, 0, none⟩) n cap) none (some (.int .i64 h)) none).run Try.prog w = .ok (.slice (some ⟨g, 0, none⟩) h cap) w := by
  have hs : (sizeOf (Try.prog.elem 22)).run Try.prog w = .ok 1 w := by kernel_rfl
  have hT : Try.prog.underlying 22 = some (.slice (Try.prog.elem 22)) := by kernel_rfl
  have r := run_slice_h (P := Try.prog) (w := w) 22 (some ⟨g, 0, none⟩) n cap hT .i64 h (by omega) (by omega)
  rw [hs] at r
  rw [run_sliceAt_slice (h := hT), r]
  show Result.ok _ w = _
  unfold sliced
  have e : ¬ cap = 0 := by omega
  simp [Addr.add, e]
theorem conv_of {w : World} {A : Option Addr} {n c : Nat} {xs : List Int} {t : ByteArray} (h : Bs w A n xs) (ht : str xs = t) : (convert 22 9 (.slice A n c)).run Try.prog w = .ok (.string t) w := by
  subst ht
  exact h.str_ (P := Try.prog) 22 9 Try.underlying22 Try.underlying5 Try.underlying9
theorem frame_a : (frame 127 [97]).length = 9 ∧ str ((frame 127 [97]).take 3) = ⟨#[127, 0, 1]⟩ ∧ (frame 127 [97]).getD 7 0 = 97 ∧ (frame 127 [97]).getD 8 0 = 0 := by
  refine ⟨frame_len _ _, by rfl, by rfl, by rfl⟩
set_option maxRecDepth 100000 in
set_option maxHeartbeats 2000000 in
theorem fixed_calls (w : World) : Calls Try.prog 8 #[] w fun e w' => e = .returned (.bool true) ∧ Below w.heap.size w w' := by
  obtain ⟨q1, q2, q3, q4⟩ := frame_a
  have Q1 := Lib.hid q1
  have Q2 := Lib.hid q2
  have Q3 := Lib.hid q3
  have Q4 := Lib.hid q4
  clear q1 q2 q3 q4
  have kc := fun (w : World) (C : Array Value) (n c : Nat) => Lib.run_convert_bytes_const (P := Try.prog) w 22 5 C n c Try.underlying22 Try.underlying5
  go_enter Try.func8, Try.ntmps8
  go_wp2_with fail
  refine (put_calls (some ⟨w.heap.size, 0, none⟩) 1 1 [97] _ (bs_one w 97 (by omega) (by omega) _) (fun e => by cases e) (by omega)).mono ?_
  intro e w1 hm
  obtain ⟨g, cap, rfl, ho, hb⟩ := hm.at_ Q1.out
  have hcap := ho.capLe
  have c7 := ho.cell 7 (by omega)
  have c8 := ho.cell 8 (by omega)
  rw [Q3.out] at c7
  rw [Q4.out] at c8
  have hs := fun w : World => slice_front (g := g) (n := 9) (h := 3) w (show 0 < cap by omega) (by omega)
  have h3 := ho.bs.sub 0 3 (by omega)
  rw [List.drop_zero, Nat.add_zero] at h3
  have hcv := fun c => conv_of (c := c) h3 Q2.out
  have HB := Lib.hid (((Below.refl _ _).alloc (Nat.le_refl _) _).trans (hb.mono (by simp)))
  clear hm ho hb h3
  go_wp2_with (go_at_call 11; refine (size_calls 1 _ (by omega) (by omega)).mono ?_; rintro e w' ⟨rfl, rfl⟩)
  go_ret
  exact ⟨rfl, HB.out⟩
set_option maxHeartbeats 2000000 in
theorem frames_law (A : Option Addr) (n c : Nat) (xs : List Int) (w : World) (hb : Bs w A n xs) (hA : A = none → c = 0) (hn : n ≤ maxLen) : Calls Try.prog 4 #[.slice A n c] w fun e w' => e = .returned (.bool true) ∧ Below w.heap.size w w' := by
  unfold maxLen at hn
  by_cases hbig : 3000 < n
  · go_enter Try.func4, Try.ntmps4
    go_wp2_with (go_at_call 8; refine (fixed_calls _).mono ?_; rintro e w' ⟨rfl, hbel⟩)
    go_ret
    exact ⟨rfl, hbel⟩
  have d1 : decide (3000 < (n : Int)) = false := by simp; omega
  have hfl : (frame 127 xs).length = n + 8 := by rw [frame_len, hb.len]
  have HFL := Lib.hid hfl
  have HB := Lib.hid hb
  clear hb hfl
  go_enter Try.func4, Try.ntmps4
  go_wp2_with fail
  refine (RecP.put_calls A n c xs _ HB.out hA (by omega)).mono ?_
  intro e w1 hm
  obtain ⟨g1, cap1, rfl, ho1, hb1⟩ := hm.at_ HFL.out
  have HO1 := Lib.hid ho1
  have HW1 := Lib.hid hb1
  clear hm ho1 hb1
  go_wp2_with fail
  refine (RecP.refput_calls A n c xs _ (HB.out.below HW1.out) hA (by omega)).mono ?_
  intro e w2 hm
  obtain ⟨g2, cap2, rfl, ho2, hb2⟩ := hm.at_ HFL.out
  have HO1' := Lib.hid (HO1.out.below hb2)
  have HO2 := Lib.hid ho2
  have HW2 := Lib.hid (keeps HW1.out hb2)
  clear hm ho2 hb2
  go_wp2_with fail
  refine (fixed_calls _).mono ?_
  rintro e w3 ⟨rfl, hb3⟩
  obtain ⟨t, ht⟩ : ∃ t, str (frame 127 xs) = t := ⟨_, rfl⟩
  have h1 := conv_of (c := cap1) (HO1'.out.bs.below hb3) ht
  have h2 := conv_of (c := cap2) (HO2.out.bs.below hb3) ht
  have HW3 := Lib.hid (keeps HW2.out hb3)
  clear hb3 ht
  go_wp2_with fail
  go_ret
  exact ⟨rfl, HW3.out⟩
set_option maxHeartbeats 2000000 in
theorem class_law (A : Option Addr) (n c : Nat) (xs : List Int) (a : Int) (w : World) (hb : Bs w A n xs) (hn : n ≤ maxLen) (hc : n ≤ c) : Calls Try.prog 5 #[.slice A n c, .int .i64 a] w fun e w' => e = .returned (.bool true) ∧ Below w.heap.size w w' := by
  unfold maxLen at hn
  by_cases hbig : 3000 < n
  · go_enter Try.func5, Try.ntmps5
    go_wp2_with (go_at_call 8; refine (fixed_calls _).mono ?_; rintro e w' ⟨rfl, hbel⟩)
    go_ret
    exact ⟨rfl, hbel⟩
  have d1 : decide (3000 < (n : Int)) = false := by simp; omega
  have HB := Lib.hid hb
  have HC := Lib.hid (fun w hb => RecX.class_calls A n c xs a w hb (by omega) hc)
  have HD := Lib.hid (fun w hb => RecY.class_calls A n c xs a w hb (by omega) hc)
  clear hb
  obtain ⟨rl, hrl⟩ : ∃ rl, (cr xs a).length = rl := ⟨_, rfl⟩
  have HRL := Lib.hid hrl
  clear hrl
  generalize cs xs a = s at *
  generalize cr xs a = r at *
  generalize ce xs a = z at *
  go_enter Try.func5, Try.ntmps5
  go_wp2_with fail
  refine (HC.out _ HB.out).mono ?_
  intro e w1 hm
  obtain ⟨B1, c1, rfl, ho1, _, _, hb1⟩ := hm.at_ HRL.out
  have HO1 := Lib.hid ho1
  have HW1 := Lib.hid hb1
  clear hm ho1 hb1
  go_wp2_with fail
  refine (HD.out _ (HB.out.below HW1.out)).mono ?_
  intro e w2 hm
  obtain ⟨B2, c2, rfl, ho2, _, _, hb2⟩ := hm.at_ HRL.out
  have HO1' := Lib.hid (HO1.out.below hb2)
  have HO2 := Lib.hid ho2
  have HW2 := Lib.hid (keeps HW1.out hb2)
  clear hm ho2 hb2
  go_wp2_with fail
  refine (fixed_calls _).mono ?_
  rintro e w3 ⟨rfl, hb3⟩
  obtain ⟨t, ht⟩ : ∃ t, str r = t := ⟨_, rfl⟩
  have h1 := conv_of (c := c1) (HO1'.out.below hb3) ht
  have h2 := conv_of (c := c2) (HO2.out.below hb3) ht
  have HW3 := Lib.hid (keeps HW2.out hb3)
  clear hb3 ht
  go_wp2_with fail
  go_ret
  exact ⟨rfl, HW3.out⟩
end Go.Proofs.Ytfkofagboojnnaa.RecF
