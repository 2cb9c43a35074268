/- The example, what is gone through, a device that is nil. -/
import Derived.Test.YtdcmpkohengnaaaNorQ
import Derived.Test.YtdcmpkohengnaaaNorH
import Derived.IntWalk
namespace Go.Proofs.Ytdcmpkohengnaaa.NorJ
set_option linter.unusedVariables false
set_option linter.unusedSimpArgs false
open Go.RowKit Go.Maps
open Go.Proofs.Ytdcmpkohengnaaa.Byte Go.Proofs.Ytdcmpkohengnaaa.NorD Go.Proofs.Ytdcmpkohengnaaa.NorW Go.Proofs.Ytdcmpkohengnaaa.NorM Go.Proofs.Ytdcmpkohengnaaa.NorS Go.Proofs.Ytdcmpkohengnaaa.NorF Go.Proofs.Ytdcmpkohengnaaa.NorG Go.Proofs.Ytdcmpkohengnaaa.NorH Go.Proofs.Ytdcmpkohengnaaa.NorN Go.Proofs.Ytdcmpkohengnaaa.NorO Go.Proofs.Ytdcmpkohengnaaa.NorQ Go.Proofs.Ytdcmpkohengnaaa.PlaceM Go.Proofs.Ytdcmpkohengnaaa.PlaceV

set_option maxHeartbeats 400000 in
theorem refMay_calls (n z : Int) (w : World) : Calls Try.prog 6 #[.agg #[.int .i64 n, .int .i64 z]] w fun e w' => e = .returned (.bool (may n z)) ∧ w.alloc (.cells #[.int .i64 n, .int .i64 z] 23) = w' := by
  cases h : may n z
  · rcases may_ways h with h1 | ⟨h1, h2⟩ | ⟨h1, h2, h3⟩ | ⟨h1, h2, h3, h4⟩
    all_goals
      clear h
      go_enter Try.func6, Try.ntmps6
      go_wp2
      go_ret
      first | exact ⟨rfl, rfl⟩ | exact ⟨Byte.ret_bool (by rw [decide_eq_false_iff_not]; omega), rfl⟩
  · obtain ⟨h1, h2, h3, h4⟩ := may_yes h
    clear h
    go_enter Try.func6, Try.ntmps6
    go_wp2
    go_ret
    first | exact ⟨rfl, rfl⟩ | exact ⟨Byte.ret_bool (by rw [decide_eq_true_eq]; omega), rfl⟩
/-- Whether it is gone through. -/
def small (n z : Int) : Bool := may n z && decide (n * z ≤ 20000)
set_option maxHeartbeats 400000 in
theorem small_calls (n z : Int) (w : World) : Calls Try.prog 7 #[.agg #[.int .i64 n, .int .i64 z]] w fun e w' => e = .returned (.bool (small n z)) ∧ Below w.heap.size w w' := by
  have hc := refMay_calls n z (w.alloc (.cells #[.int .i64 n, .int .i64 z] 23))
  have hb : Below w.heap.size w ((w.alloc (.cells #[.int .i64 n, .int .i64 z] 23)).alloc (.cells #[.int .i64 n, .int .i64 z] 23)) := ((Below.refl _ _).alloc (Nat.le_refl _) _).alloc (by simp) _
  cases h : may n z
  · have hs : small n z = false := by unfold small; rw [h]; rfl
    rw [hs]
    rw [h] at hc
    have HC := Lib.hid hc
    have HB := Lib.hid hb
    clear hc hb h hs
    go_enter Try.func7, Try.ntmps7
    go_wp2_with (go_at_call 6; refine (HC.out).mono ?_; rintro e w' ⟨rfl, rfl⟩)
    go_ret
    exact ⟨rfl, HB.out⟩
  · obtain ⟨h1, h2, h3, h4⟩ := may_yes h
    have hs : small n z = decide (n * z ≤ 20000) := by unfold small; rw [h]; rfl
    rw [hs]
    rw [h] at hc
    have hp : 0 ≤ n * z ∧ n * z ≤ 262144 := ⟨Int.mul_nonneg (by omega) (by omega), Int.le_trans (Int.mul_le_mul h2 h4 (by omega) (by omega)) (by decide)⟩
    obtain ⟨p, hpp⟩ : ∃ p, n * z = p := ⟨_, rfl⟩
    rw [hpp] at hp ⊢
    have hw : IntKind.i64.wrap (n * z) = p := by rw [hpp]; exact IntWalk.i64_in _ (by omega)
    have HC := Lib.hid hc
    have HB := Lib.hid hb
    clear hc hb h hs
    go_enter Try.func7, Try.ntmps7
    go_wp2_with (go_at_call 6; refine (HC.out).mono ?_; rintro e w' ⟨rfl, rfl⟩)
    go_ret
    exact ⟨rfl, HB.out⟩
set_option maxHeartbeats 400000 in
theorem off_nil (w : World)  : Calls Try.prog 21 #[.pointer none] w fun e w' => e = .returned (.tuple #[]) ∧ w = w' := by
  go_enter Try.func21, Try.ntmps21
  go_wp2_with (go_at_call 26; refine (isOn_nil _).mono ?_; rintro e w' ⟨rfl, rfl⟩)
  go_end0
  exact ⟨rfl, rfl⟩
set_option maxHeartbeats 400000 in
theorem cut_nil (w : World) (a b m : Int) : Calls Try.prog 20 #[.pointer none, .int .i64 a, .int .i64 b, .int .u8 m] w fun e w' => e = .returned (.tuple #[]) ∧ w = w' := by
  go_enter Try.func20, Try.ntmps20
  go_wp2_with fail
  go_end0
  exact ⟨rfl, rfl⟩
set_option maxHeartbeats 400000 in
theorem spoil_nil (w : World) (se : Int) : Calls Try.prog 19 #[.pointer none, .int .i64 se] w fun e w' => e = .returned (.tuple #[]) ∧ w = w' := by
  go_enter Try.func19, Try.ntmps19
  go_wp2_with (go_at_call 39; refine (has_nil _ _).mono ?_; rintro e w' ⟨rfl, rfl⟩)
  go_end0
  exact ⟨rfl, rfl⟩
set_option maxHeartbeats 400000 in
theorem read_nil (w : World) (x y : Nat) (m : Int) : Calls Try.prog 22 #[.pointer none, .complex .f64 x y, .int .i64 m] w fun e w' => e = .returned (.tuple #[.slice none 0 0, .int .i64 7]) ∧ w = w' := by
  go_enter Try.func22, Try.ntmps22
  go_wp2_with (go_at_call 26; refine (isOn_nil _).mono ?_; rintro e w' ⟨rfl, rfl⟩)
  go_ret2
  exact ⟨rfl, rfl⟩
set_option maxHeartbeats 400000 in
theorem program_nil (w : World) (x y : Nat) (A : Option Addr) (m c : Nat) : Calls Try.prog 23 #[.pointer none, .complex .f64 x y, .slice A m c] w fun e w' => e = .returned (.int .i64 7) ∧ w.alloc (.cells #[.slice A m c] 38) = w' := by
  go_enter Try.func23, Try.ntmps23
  go_wp2_with (go_at_call 26; refine (isOn_nil _).mono ?_; rintro e w' ⟨rfl, rfl⟩)
  go_ret
  exact ⟨rfl, rfl⟩
set_option maxHeartbeats 400000 in
theorem erase_nil (w : World) (se : Int) : Calls Try.prog 24 #[.pointer none, .int .i64 se] w fun e w' => e = .returned (.int .i64 7) ∧ w = w' := by
  go_enter Try.func24, Try.ntmps24
  go_wp2_with (go_at_call 26; refine (isOn_nil _).mono ?_; rintro e w' ⟨rfl, rfl⟩)
  go_ret
  exact ⟨rfl, rfl⟩
set_option maxHeartbeats 400000 in
theorem wear_nil (w : World) (se : Int) : Calls Try.prog 15 #[.pointer none, .int .i64 se] w fun e w' => e = .returned (.int .i64 0) ∧ w = w' := by
  go_enter Try.func15, Try.ntmps15
  go_wp2_with (go_at_call 39; refine (has_nil _ _).mono ?_; rintro e w' ⟨rfl, rfl⟩)
  go_ret
  exact ⟨rfl, rfl⟩
set_option maxHeartbeats 400000 in
theorem acts_nil (w : World)  : Calls Try.prog 25 #[.pointer none] w fun e w' => e = .returned (.int .i64 0) ∧ w = w' := by
  go_enter Try.func25, Try.ntmps25
  go_wp2_with fail
  go_ret
  exact ⟨rfl, rfl⟩
set_option maxHeartbeats 400000 in
theorem offs_nil (w : World)  : Calls Try.prog 27 #[.pointer none] w fun e w' => e = .returned (.int .i64 0) ∧ w = w' := by
  go_enter Try.func27, Try.ntmps27
  go_wp2_with fail
  go_ret
  exact ⟨rfl, rfl⟩
set_option maxHeartbeats 400000 in
theorem geometry_nil (w : World)  : Calls Try.prog 28 #[.pointer none] w fun e w' => e = .returned (.agg #[.int .i64 0, .int .i64 0]) ∧ Below w.heap.size w w' := by
  go_enter Try.func28, Try.ntmps28
  go_wp2_with fail
  exact bodyPost_ret (v := .agg #[.int .i64 0, .int .i64 0]) (by simp [results, Try.results28, go_sem]) rfl ⟨rfl, (Below.refl _ _).alloc (Nat.le_refl _) _⟩

section
variable {lo hi d n z K : Nat} {s : St}
theorem dev_below {w w' : World} (h : Dev w lo hi d n z K s) (hb : Below w.heap.size w w') : Dev w' lo hi d n z K s := by
  obtain ⟨_, _, _, _, _, _, _, _, _, h⟩ := h
  exact (DevP.below h hb).dev
theorem dev_hi {w : World} (h : Dev w lo hi d n z K s) : hi ≤ w.heap.size := by
  obtain ⟨_, _, _, _, _, _, _, _, _, h⟩ := h
  exact h.hs
theorem three : rt 4613937818241073152 = true ∧ nm 4613937818241073152 = 3 ∧ rt 0 = true ∧ nm 0 = 0 := by
  have e3 : wd 3 = 4613937818241073152 := by decide +kernel
  have h3 := rt_wd 3 (by omega) (by omega)
  have h0 := rt_wd 0 (by omega) (by omega)
  rw [e3] at h3
  rw [wd0] at h0
  exact ⟨h3.1, h3.2, h0.1, h0.2⟩
theorem one_at (w : World) (v : Int) (h0 : 0 ≤ v) (h1 : v ≤ 255) : Bs (w.alloc (.cells #[.int .u8 v] 5)) (some ⟨w.heap.size, 0, none⟩) 1 [v] := by
  refine ⟨rfl, fun x hx => by simp at hx; omega, fun k hk => ⟨w.heap.size, 0, rfl, by simp, ?_⟩⟩
  obtain rfl : k = 0 := by omega
  exact (Blk.new w 5 #[.int .u8 v]).cell 0
theorem program_one (w : World) (hD : Dev w lo hi d n z K s) (hK : K + 1 ≤ 1000000) (v : Int) (h0 : 0 ≤ v) (h1 : v ≤ 255) :
    Calls Try.prog 23 #[.pointer (some ⟨d, 0, none⟩), .complex .f64 0 4613937818241073152, .slice (some ⟨w.heap.size, 0, none⟩) 1 1] (w.alloc (.cells #[.int .u8 v] 5))
      fun e w' => ∃ r, e = .returned (.int .i64 r) ∧ Dev w' lo hi d n z (K + 1) (s.program n z 0 3 [v]).2 ∧ Chg (fun q => lo ≤ q ∧ q < hi) w w' := by
  have hh := dev_hi hD
  refine (program_calls _ (dev_below hD ((Below.refl _ _).alloc (Nat.le_refl _) _)) hK 0 4613937818241073152 _ 1 1 0 3 [v] (one_at w v h0 h1) (fun b o e => ?_) (by omega) three.2.2.1 three.1 three.2.2.2 three.2.1).mono fun e w' ⟨he, hd, hc⟩ => ⟨_, he, hd, ((Chg.refl _ w).alloc _).trans hc⟩
  injection e with e
  injection e with e
  subst e
  exact .inr hh
end
def s1 : St := ((St.new 6 512).program 6 512 0 3 [51]).2
def s2 : St := (s1.program 6 512 0 3 [15]).2
theorem s2_row : ((s2.row 0).drop 3).take 1 = [3] := by decide +kernel
theorem s2_on : s2.on = true := by decide +kernel
theorem read_three (w : World) {lo hi d K : Nat} (hD : Dev w lo hi d 6 512 K s2) : Calls Try.prog 22 #[.pointer (some ⟨d, 0, none⟩), .complex .f64 0 4613937818241073152, .int .i64 1] w
      fun e w' => ∃ g cap, e = .returned (.tuple #[.slice (some ⟨g, 0, none⟩) 1 cap, .int .i64 0]) ∧ w'.cell? ⟨g, 0, none⟩ = some (.int .u8 3) ∧ Below w.heap.size w w' := by
  obtain ⟨_, _, _, _, _, _, _, _, _, h⟩ := hD
  refine (read_ok w h 0 4613937818241073152 1 0 3 s2_on three.2.2.1 three.1 three.2.2.2 three.2.1 (by decide +kernel)).mono fun e w' ⟨g, cap, he, ho, hb⟩ => ⟨g, cap, he, ?_, hb⟩
  have := ho.cell 0 (by omega)
  rw [s2_row] at this
  exact this
theorem prog51 (w : World) {lo hi d : Nat} (hD : Dev w lo hi d 6 512 0 (St.new 6 512)) : Calls Try.prog 23 #[.pointer (some ⟨d, 0, none⟩), .complex .f64 0 4613937818241073152, .slice (some ⟨w.heap.size, 0, none⟩) 1 1] (w.alloc (.cells #[.int .u8 51] 5))
    fun e w' => ∃ r, e = .returned (.int .i64 r) ∧ Hid (Dev w' lo hi d 6 512 1 s1 ∧ Chg (fun q => lo ≤ q ∧ q < hi) w w') := (program_one w hD (by omega) 51 (by omega) (by omega)).mono fun e w' ⟨r, he, hd, hc⟩ => ⟨r, he, Lib.hid ⟨hd, hc⟩⟩
theorem prog15 (w : World) {lo hi d : Nat} (hD : Dev w lo hi d 6 512 1 s1) : Calls Try.prog 23 #[.pointer (some ⟨d, 0, none⟩), .complex .f64 0 4613937818241073152, .slice (some ⟨w.heap.size, 0, none⟩) 1 1] (w.alloc (.cells #[.int .u8 15] 5))
    fun e w' => ∃ r, e = .returned (.int .i64 r) ∧ Hid (Dev w' lo hi d 6 512 2 s2 ∧ Chg (fun q => lo ≤ q ∧ q < hi) w w') := (program_one w hD (by omega) 15 (by omega) (by omega)).mono fun e w' ⟨r, he, hd, hc⟩ => ⟨r, he, Lib.hid ⟨hd, hc⟩⟩
set_option maxHeartbeats 1000000 in
theorem fixed_calls (w : World) : Calls Try.prog 8 #[] w fun e w' => e = .returned (.bool true) ∧ Below w.heap.size w w' := by
  have hn : Calls Try.prog 9 #[.agg #[.int .i64 6, .int .i64 512]] w (fun e w' => ∃ d, e = .returned (.tuple #[.pointer (some ⟨d, 0, none⟩), .int .i64 0]) ∧ Dev w' w.heap.size w'.heap.size d 6 512 0 (St.new 6 512) ∧ Below w.heap.size w w') := new_yes 6 512 w (by decide +kernel)
  have HN := Lib.hid hn
  clear hn
  go_enter Try.func8, Try.ntmps8
  go_wp2_with (first
    | (go_at_call 9; refine (HN.out).mono ?_; rintro e w1 ⟨d, rfl, hD1, hb1⟩; have HB1 := Lib.hid hb1; have HD1 := Lib.hid hD1; clear hb1 hD1)
    | (go_at_call 23; with_reducible refine (prog51 w1 HD1.out).mono ?_; rintro e w2 ⟨r2, rfl, HC2⟩)
    | (go_at_call 23; with_reducible refine (prog15 w2 (HC2.out).1).mono ?_; rintro e w3 ⟨r3, rfl, HC3⟩)
    | (go_at_call 22; refine (read_three w3 HC3.out.1).mono ?_; rintro e w4 ⟨g, cap, rfl, kg, hb4⟩; have HB4 := Lib.hid hb4; clear hb4))
  go_ret
  refine ⟨rfl, ?_⟩
  have h3 := (HC2.out.2.trans HC3.out.2).below (B := w.heap.size) HB1.out.size (fun k hk e => by omega)
  exact (HB1.out.trans h3).trans (HB4.out.mono (Nat.le_trans HB1.out.size h3.size))
end Go.Proofs.Ytdcmpkohengnaaa.NorJ
