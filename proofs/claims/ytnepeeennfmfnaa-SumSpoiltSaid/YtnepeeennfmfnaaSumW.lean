/- The contracts of layer 1's functions, of the project's and of the document's answer: each returns what the plain mathematics says, and leaves memory as it was. Condition: the bytes that come in read as numbers 0..255. -/
import Derived.Test.YtnepeeennfmfnaaProg
import Derived.Test.YtnepeeennfmfnaaSumM
import Derived.Test.YtnepeeennfmfnaaByte
import Derived.WalkKit
import Derived.WalkSpells
import Derived.Lib.SlBytesConst
import Derived.Laws.BitsAllLaws
import Derived.BigGuardPart
namespace Go.Proofs.Ytnepeeennfmfnaa.SumW
open Go.RowKit
open Go.Proofs.Ytnepeeennfmfnaa.SumM Go.Proofs.Ytnepeeennfmfnaa.Byte

theorem low16 (s : Int) (h0 : 0 ≤ s) (h1 : s ≤ 4294967295) : bits .and .u32 s 65535 = s % 65536 := by
  rw [u32_and s 65535 h0 (by omega) (by omega) (by omega)]
  have : s.toNat &&& (65535 : Int).toNat = s.toNat % 65536 := Nat.and_two_pow_sub_one_eq_mod s.toNat 16
  rw [this]
  omega
theorem both (l h : Int) (h0 : 0 ≤ l) (h1 : l < 65521) (h2 : 0 ≤ h) (h3 : h < 65521) : bits .or .u32 (h * 65536) l = 65536 * h + l := by
  rw [u32_or _ l (by omega) (by omega) (by omega) (by omega)]
  rw [nat_join 16 _ _ (by omega) (by omega)]
  omega

set_option maxHeartbeats 400000 in
theorem parts_calls (s : Int) (w : World) (h0 : 0 ≤ s) (h1 : s ≤ 4294967295) :
    Calls Try.prog 14 #[.int .u32 s] w fun e w' => e = .returned (.tuple #[.int .u32 (s % 65536), .int .u32 (s / 65536)]) ∧ w = w' := by
  have hl := low16 s h0 h1
  go_enter Try.func14, Try.ntmps14
  go_wp2
  go_ret2
  exact ⟨rfl, rfl⟩
set_option maxHeartbeats 400000 in
theorem whole_calls (l h : Int) (w : World) (h0 : 0 ≤ l) (h1 : l < 65521) (h2 : 0 ≤ h) (h3 : h < 65521) :
    Calls Try.prog 15 #[.int .u32 l, .int .u32 h] w fun e w' => e = .returned (.int .u32 (65536 * h + l)) ∧ w = w' := by
  have hl := both l h h0 h1 h2 h3
  go_enter Try.func15, Try.ntmps15
  go_wp2
  go_ret
  exact ⟨rfl, rfl⟩
set_option maxHeartbeats 400000 in
theorem may_calls (s : Int) (w : World) (h0 : 0 ≤ s) (h1 : s ≤ 4294967295) :
    Calls Try.prog 11 #[.int .u32 s] w fun e w' => e = .returned (.bool (may s)) ∧ w = w' := by
  go_enter Try.func11, Try.ntmps11
  go_wp2_with (go_at_call 14; refine (parts_calls s _ h0 h1).mono ?_; rintro e w' ⟨rfl, rfl⟩)
  all_goals (go_ret; exact ⟨ret_bool (by unfold may; rw [Bool.eq_iff_iff]; simp; omega), rfl⟩)
set_option maxHeartbeats 400000 in
theorem refmay_calls (s : Int) (w : World) (h0 : 0 ≤ s) (h1 : s ≤ 4294967295) :
    Calls Try.prog 12 #[.int .u32 s] w fun e w' => e = .returned (.bool (may s)) ∧ w = w' := by
  go_enter Try.func12, Try.ntmps12
  go_wp2
  all_goals (go_ret; exact ⟨ret_bool (by unfold may; rw [Bool.eq_iff_iff]; simp; omega), rfl⟩)

set_option maxHeartbeats 400000 in
theorem more_no (s : Int) (A : Option Addr) (n c : Nat) (w : World) (h0 : 0 ≤ s) (h1 : s ≤ 4294967295) (hm : may s = false) :
    Calls Try.prog 9 #[.int .u32 s, .slice A n c] w fun e w' => e = .returned (.int .u32 s) ∧ w = w' := by
  go_enter Try.func9, Try.ntmps9
  go_wp2_with (go_at_call 11; refine (may_calls s _ h0 h1).mono ?_; rintro e w' ⟨rfl, rfl⟩)
  go_ret
  exact ⟨rfl, rfl⟩
set_option maxHeartbeats 400000 in
theorem more_yes (s : Int) (A : Option Addr) (n c : Nat) (xs : List Int) (w : World) (h0 : 0 ≤ s) (h1 : s ≤ 4294967295) (hm : may s = true) (hb : Bs w A n xs) (hn : n ≤ maxLen) :
    Calls Try.prog 9 #[.int .u32 s, .slice A n c] w fun e w' => e = .returned (.int .u32 (join (run (s % 65536) (s / 65536) xs))) ∧ w = w' := by
  unfold maxLen at hn
  have hlim := (may_iff s).1 hm
  have HB := Lib.hid hb
  clear hb
  go_enter Try.func9, Try.ntmps9
  go_wp2_with (first | (go_at_call 11; refine (may_calls s _ h0 h1).mono ?_; rintro e w' ⟨rfl, rfl⟩) | (go_at_call 14; refine (parts_calls s _ h0 h1).mono ?_; rintro e w' ⟨rfl, rfl⟩))
  go_loop [5, 6, 20] (fun l h i => ∃ (k : Nat) (L H : Int), k ≤ n ∧ i = .int .i64 k ∧ l = .int .u32 L ∧ h = .int .u32 H ∧ 0 ≤ L ∧ L < 65521 ∧ 0 ≤ H ∧ H < 65521 ∧ Hid (run (s % 65536) (s / 65536) (xs.take k) = (L, H))) (fun _ _ i => n - (intOf i).toNat)
  case atStart => exact ⟨0, _, _, by omega, rfl, rfl, rfl, by omega, by omega, by omega, by omega, by rfl⟩
  case round =>
    obtain ⟨k, L, H, hk, rfl, rfl, rfl, hL0, hL1, hH0, hH1, hR⟩ := hrel
    by_cases hlt : k < n
    · obtain ⟨b, o, rfl, _, hc⟩ := HB.out.2.2 k hlt
      have hx := HB.out.bd k
      generalize hxe : xs.getD k 0 = x at hc hx
      have HX := Lib.hid hxe
      clear hxe
      go_wp2
      go_round
      case rel => exact ⟨k + 1, _, _, by omega, by go_num, rfl, rfl, by omega, by omega, by omega, by omega, by rw [run_take _ _ _ _ (by rw [HB.out.len]; exact hlt), hR.out, HX.out]; rfl⟩
      case measure => simp [intOf]; omega
    · have hkn : n ≤ k := by omega
      go_wp2_with (go_at_call 15; refine (whole_calls L H _ hL0 hL1 hH0 hH1).mono ?_; rintro e w' ⟨rfl, rfl⟩)
      go_ret
      have e := hR.out
      rw [List.take_of_length_le (by rw [HB.out.len]; exact hkn)] at e
      rw [e]
      exact ⟨rfl, rfl⟩
theorem more_calls (s : Int) (A : Option Addr) (n c : Nat) (xs : List Int) (w : World) (h0 : 0 ≤ s) (h1 : s ≤ 4294967295) (hb : Bs w A n xs) (hn : n ≤ maxLen) :
    Calls Try.prog 9 #[.int .u32 s, .slice A n c] w fun e w' => e = .returned (.int .u32 (more s xs)) ∧ w = w' := by
  unfold more
  split
  · rename_i h
    exact more_yes s A n c xs w h0 h1 h hb hn
  · rename_i h
    exact more_no s A n c w h0 h1 (by simpa using h)
set_option maxHeartbeats 400000 in
theorem sum_calls (A : Option Addr) (n c : Nat) (xs : List Int) (w : World) (hb : Bs w A n xs) (hn : n ≤ maxLen) :
    Calls Try.prog 7 #[.slice A n c] w fun e w' => e = .returned (.int .u32 (sum xs)) ∧ w = w' := by
  have H := more_calls 1 A n c xs w (by omega) (by omega) hb hn
  rw [more_one] at H
  have HC := Lib.hid H
  clear H hb hn
  go_enter Try.func7, Try.ntmps7
  go_wp2_with (go_at_call 9; refine (HC.out).mono ?_; rintro e w' ⟨rfl, rfl⟩)
  go_ret
  exact ⟨rfl, rfl⟩

set_option maxHeartbeats 400000 in
theorem refmore_no (s : Int) (A : Option Addr) (n c : Nat) (w : World) (h0 : 0 ≤ s) (h1 : s ≤ 4294967295) (hm : may s = false) :
    Calls Try.prog 10 #[.int .u32 s, .slice A n c] w fun e w' => e = .returned (.int .u32 s) ∧ w = w' := by
  go_enter Try.func10, Try.ntmps10
  go_wp2_with (go_at_call 12; refine (refmay_calls s _ h0 h1).mono ?_; rintro e w' ⟨rfl, rfl⟩)
  go_ret
  exact ⟨rfl, rfl⟩
set_option maxHeartbeats 400000 in
theorem refmore_yes (s : Int) (A : Option Addr) (n c : Nat) (xs : List Int) (w : World) (h0 : 0 ≤ s) (h1 : s ≤ 4294967295) (hm : may s = true) (hb : Bs w A n xs) (hn : n ≤ maxLen) :
    Calls Try.prog 10 #[.int .u32 s, .slice A n c] w fun e w' => e = .returned (.int .u32 (join (run (s % 65536) (s / 65536) xs))) ∧ w = w' := by
  unfold maxLen at hn
  have hlim := (may_iff s).1 hm
  have HB := Lib.hid hb
  clear hb
  go_enter Try.func10, Try.ntmps10
  go_wp2_with (go_at_call 12; refine (refmay_calls s _ h0 h1).mono ?_; rintro e w' ⟨rfl, rfl⟩)
  go_loop [6, 5, 18] (fun l h i => ∃ (k : Nat) (L H : Int), k ≤ n ∧ i = .int .i64 k ∧ l = .int .u32 L ∧ h = .int .u32 H ∧ 0 ≤ L ∧ L < 65521 ∧ 0 ≤ H ∧ H < 65521 ∧ Hid (run (s % 65536) (s / 65536) (xs.take k) = (L, H))) (fun _ _ i => n - (intOf i).toNat)
  case atStart => exact ⟨0, _, _, by omega, rfl, rfl, rfl, by omega, by omega, by omega, by omega, by rfl⟩
  case round =>
    obtain ⟨k, L, H, hk, rfl, rfl, rfl, hL0, hL1, hH0, hH1, hR⟩ := hrel
    by_cases hlt : k < n
    · obtain ⟨b, o, rfl, _, hc⟩ := HB.out.2.2 k hlt
      have hx := HB.out.bd k
      generalize hxe : xs.getD k 0 = x at hc hx
      have HX := Lib.hid hxe
      clear hxe
      go_wp2
      go_round
      case rel => exact ⟨k + 1, _, _, by omega, by go_num, rfl, rfl, by omega, by omega, by omega, by omega, by rw [run_take _ _ _ _ (by rw [HB.out.len]; exact hlt), hR.out, HX.out]; rfl⟩
      case measure => simp [intOf]; omega
    · have hkn : n ≤ k := by omega
      go_wp2
      go_ret
      have e := hR.out
      rw [List.take_of_length_le (by rw [HB.out.len]; exact hkn)] at e
      rw [e]
      exact ⟨rfl, rfl⟩
theorem refmore_calls (s : Int) (A : Option Addr) (n c : Nat) (xs : List Int) (w : World) (h0 : 0 ≤ s) (h1 : s ≤ 4294967295) (hb : Bs w A n xs) (hn : n ≤ maxLen) :
    Calls Try.prog 10 #[.int .u32 s, .slice A n c] w fun e w' => e = .returned (.int .u32 (more s xs)) ∧ w = w' := by
  unfold more
  split
  · rename_i h
    exact refmore_yes s A n c xs w h0 h1 h hb hn
  · rename_i h
    exact refmore_no s A n c w h0 h1 (by simpa using h)
set_option maxHeartbeats 400000 in
theorem refsum_calls (A : Option Addr) (n c : Nat) (xs : List Int) (w : World) (hb : Bs w A n xs) (hn : n ≤ maxLen) :
    Calls Try.prog 8 #[.slice A n c] w fun e w' => e = .returned (.int .u32 (sum xs)) ∧ w = w' := by
  have H := refmore_calls 1 A n c xs w (by omega) (by omega) hb hn
  rw [more_one] at H
  have HC := Lib.hid H
  clear H hb hn
  go_enter Try.func8, Try.ntmps8
  go_wp2_with (go_at_call 10; refine (HC.out).mono ?_; rintro e w' ⟨rfl, rfl⟩)
  go_ret
  exact ⟨rfl, rfl⟩

set_option maxHeartbeats 800000 in
theorem join_calls (a b n : Int) (w : World) (h0 : 0 ≤ a) (h1 : a ≤ 4294967295) (h2 : 0 ≤ b) (h3 : b ≤ 4294967295) (h4 : -9223372036854775808 ≤ n) (h5 : n ≤ 9223372036854775807) :
    Calls Try.prog 13 #[.int .u32 a, .int .u32 b, .int .i64 n] w fun e w' => e = .returned (.int .u32 (joins a b n)) ∧ w = w' := by
  by_cases hn : n < 1
  · have hj : joins a b n = a := by unfold joins; rw [if_pos (.inl hn)]
    rw [hj]
    clear hj
    go_enter Try.func13, Try.ntmps13
    go_wp2
    go_ret
    exact ⟨rfl, rfl⟩
  cases ha : may a with
  | false =>
    have hj : joins a b n = a := by unfold joins; rw [if_pos (.inr (.inl ha))]
    rw [hj]
    clear hj
    go_enter Try.func13, Try.ntmps13
    go_wp2_with (go_at_call 11; refine (may_calls a _ h0 h1).mono ?_; rintro e w' ⟨rfl, rfl⟩)
    go_ret
    exact ⟨rfl, rfl⟩
  | true =>
    cases hb : may b with
    | false =>
      have hj : joins a b n = a := by unfold joins; rw [if_pos (.inr (.inr hb))]
      rw [hj]
      clear hj
      go_enter Try.func13, Try.ntmps13
      go_wp2_with fail
      refine (may_calls a _ h0 h1).mono ?_
      rintro e w' ⟨rfl, rfl⟩
      go_wp2_with fail
      refine (may_calls b _ h2 h3).mono ?_
      rintro e w' ⟨rfl, rfl⟩
      go_wp2_with fail
      go_ret
      exact ⟨rfl, rfl⟩
    | true =>
      have hla := (may_iff a).1 ha
      have hlb := (may_iff b).1 hb
      have hj : joins a b n = 65536 * ((a / 65536 + b / 65536 + (n % 65521) * ((a % 65536 + 65520) % 65521) % 65521) % 65521) + ((a % 65536 + 65520) % 65521 + b % 65536) % 65521 := by
        unfold joins; rw [if_neg (by simp [ha, hb]; omega)]
      rw [hj]
      clear hj
      go_enter Try.func13, Try.ntmps13
      go_wp2_with fail
      refine (may_calls a _ h0 h1).mono ?_
      rintro e w' ⟨rfl, rfl⟩
      go_wp2_with fail
      refine (may_calls b _ h2 h3).mono ?_
      rintro e w' ⟨rfl, rfl⟩
      go_wp2_with fail
      refine (parts_calls a _ h0 h1).mono ?_
      rintro e w' ⟨rfl, rfl⟩
      go_wp2_with fail
      refine (parts_calls b _ h2 h3).mono ?_
      rintro e w' ⟨rfl, rfl⟩
      go_wp2_with fail
      refine (whole_calls _ _ _ (by omega) (by omega) (by omega) (by omega)).mono ?_
      rintro e w' ⟨rfl, rfl⟩
      go_wp2_with fail
      go_ret
      refine ⟨ret_int ?_, rfl⟩
      have t : a % 65536 + 65520 = a % 65536 + 65521 - 1 := by omega
      rw [t]
      have p0 : 0 ≤ n % 65521 * ((a % 65536 + 65521 - 1) % 65521) := Int.mul_nonneg (by omega) (by omega)
      have p1 : n % 65521 * ((a % 65536 + 65521 - 1) % 65521) ≤ 65520 * 65520 := Int.mul_le_mul (by omega) (by omega) (by omega) (by omega)
      generalize n % 65521 * ((a % 65536 + 65521 - 1) % 65521) = z at *
      omega
/-- The document's two examples. -/
theorem ex_one : sum [49, 50, 51, 52, 53, 54, 55, 56, 57] = 152961502 := by decide
theorem ex_none : sum [] = 1 := by decide
theorem bs_nine (w : World) (t : TypeId) (f : Nat × Nat) : Bs (w.alloc (.cells #[.int .u8 49, .int .u8 50, .int .u8 51, .int .u8 52, .int .u8 53, .int .u8 54, .int .u8 55, .int .u8 56, .int .u8 57] t f)) (some ⟨w.heap.size, 0, none⟩) 9 [49, 50, 51, 52, 53, 54, 55, 56, 57] :=
  Bs.new_ w t f [49, 50, 51, 52, 53, 54, 55, 56, 57] (by decide)
set_option maxHeartbeats 800000 in
theorem fixed_calls (w : World) : Calls Try.prog 6 #[] w fun e w' => e = .returned (.bool true) ∧ Below w.heap.size w w' := by
  have kc := fun (w : World) (C : Array Value) (n c : Nat) => Lib.run_convert_bytes_const (P := Try.prog) w 22 5 C n c Try.underlying22 Try.underlying5
  go_enter Try.func6, Try.ntmps6
  go_wp2_with fail
  refine (sum_calls _ _ _ _ _ (bs_nine _ _ _) (by decide)).mono ?_
  rintro e w' ⟨rfl, rfl⟩
  rw [ex_one]
  go_wp2_with fail
  refine (sum_calls _ _ _ _ _ (Bs.nil_ _ _) (by decide)).mono ?_
  rintro e w' ⟨rfl, rfl⟩
  rw [ex_none]
  go_wp2_with fail
  go_ret
  exact ⟨rfl, (Below.refl _ _).alloc (Nat.le_refl _) _⟩
end Go.Proofs.Ytnepeeennfmfnaa.SumW
