/- The contracts of layer 1's functions, of the project's and of the document's answer: each returns what the plain mathematics says, and leaves memory as it was. Condition: the bytes that come in read as numbers 0..255. -/
import Derived.Test.YthbafcihmcjchaaGreatDoorProg
import Derived.Test.YthbafcihmcjchaaGreatDoorSumM
import Derived.Test.YthbafcihmcjchaaGreatDoorByte
import Derived.WalkKit
import Derived.WalkSpells
import Derived.Lib.SlBytesConst
import Derived.Laws.BitsAllLaws
import Derived.BigGuardPart
namespace Go.Proofs.YthbafcihmcjchaaGreatDoor.SumV
open Go.RowKit
open Go.Proofs.YthbafcihmcjchaaGreatDoor.SumM Go.Proofs.YthbafcihmcjchaaGreatDoor.Byte

theorem low16 (s : Int) (h0 : 0 ≤ s) (h1 : s ≤ 4294967295) : bits .and .u32 s 65535 = s % 65536 := by
  rw [u32_and s 65535 h0 (by omega) (by omega) (by omega)]
  have : s.toNat &&& (65535 : Int).toNat = s.toNat % 65536 := Nat.and_two_pow_sub_one_eq_mod s.toNat 16
  rw [this]
  omega
theorem both (l h : Int) (h0 : 0 ≤ l) (h1 : l < 65521) (h2 : 0 ≤ h) (h3 : h < 65521) : bits .or .u32 (h * 65536) l = 65536 * h + l := by
  rw [u32_or _ l (by omega) (by omega) (by omega) (by omega)]
  rw [nat_join 16 _ _ (by omega) (by omega)]
  omega

set_option maxHeartbeats 400000 in
theorem parts_calls (s : Int) (w : World) (h0 : 0 ≤ s) (h1 : s ≤ 4294967295) :
    Calls Tryz.prog 103 #[.int .u32 s] w fun e w' => e = .returned (.tuple #[.int .u32 (s % 65536), .int .u32 (s / 65536)]) ∧ w = w' := by
  have hl := low16 s h0 h1
  go_enter Tryz.func103, Tryz.ntmps103
  go_wp2
  go_ret2
  exact ⟨rfl, rfl⟩
set_option maxHeartbeats 400000 in
theorem whole_calls (l h : Int) (w : World) (h0 : 0 ≤ l) (h1 : l < 65521) (h2 : 0 ≤ h) (h3 : h < 65521) :
    Calls Tryz.prog 104 #[.int .u32 l, .int .u32 h] w fun e w' => e = .returned (.int .u32 (65536 * h + l)) ∧ w = w' := by
  have hl := both l h h0 h1 h2 h3
  go_enter Tryz.func104, Tryz.ntmps104
  go_wp2
  go_ret
  exact ⟨rfl, rfl⟩
set_option maxHeartbeats 400000 in
theorem may_calls (s : Int) (w : World) (h0 : 0 ≤ s) (h1 : s ≤ 4294967295) :
    Calls Tryz.prog 102 #[.int .u32 s] w fun e w' => e = .returned (.bool (may s)) ∧ w = w' := by
  go_enter Tryz.func102, Tryz.ntmps102
  go_wp2_with (go_at_call 103; refine (parts_calls s _ h0 h1).mono ?_; rintro e w' ⟨rfl, rfl⟩)
  all_goals (go_ret; exact ⟨ret_bool (by unfold may; rw [Bool.eq_iff_iff]; simp; omega), rfl⟩)
set_option maxHeartbeats 400000 in
theorem refmay_calls (s : Int) (w : World) (h0 : 0 ≤ s) (h1 : s ≤ 4294967295) :
    Calls Tryz.prog 72 #[.int .u32 s] w fun e w' => e = .returned (.bool (may s)) ∧ w = w' := by
  go_enter Tryz.func72, Tryz.ntmps72
  go_wp2
  all_goals (go_ret; exact ⟨ret_bool (by unfold may; rw [Bool.eq_iff_iff]; simp; omega), rfl⟩)

set_option maxHeartbeats 400000 in
theorem more_no (s : Int) (A : Option Addr) (n c : Nat) (w : World) (h0 : 0 ≤ s) (h1 : s ≤ 4294967295) (hm : may s = false) :
    Calls Tryz.prog 94 #[.int .u32 s, .slice A n c] w fun e w' => e = .returned (.int .u32 s) ∧ w = w' := by
  go_enter Tryz.func94, Tryz.ntmps94
  go_wp2_with (go_at_call 102; refine (may_calls s _ h0 h1).mono ?_; rintro e w' ⟨rfl, rfl⟩)
  go_ret
  exact ⟨rfl, rfl⟩
set_option maxHeartbeats 400000 in
theorem more_yes (s : Int) (A : Option Addr) (n c : Nat) (xs : List Int) (w : World) (h0 : 0 ≤ s) (h1 : s ≤ 4294967295) (hm : may s = true) (hb : Bs w A n xs) (hn : n ≤ maxLen) :
    Calls Tryz.prog 94 #[.int .u32 s, .slice A n c] w fun e w' => e = .returned (.int .u32 (join (run (s % 65536) (s / 65536) xs))) ∧ w = w' := by
  unfold maxLen at hn
  have hlim := (may_iff s).1 hm
  have HB := Lib.hid hb
  clear hb
  go_enter Tryz.func94, Tryz.ntmps94
  go_wp2_with (first | (go_at_call 102; refine (may_calls s _ h0 h1).mono ?_; rintro e w' ⟨rfl, rfl⟩) | (go_at_call 103; refine (parts_calls s _ h0 h1).mono ?_; rintro e w' ⟨rfl, rfl⟩))
  go_loop [5, 6, 20] (fun l h i => ∃ (k : Nat) (L H : Int), k ≤ n ∧ i = .int .i64 k ∧ l = .int .u32 L ∧ h = .int .u32 H ∧ 0 ≤ L ∧ L < 65521 ∧ 0 ≤ H ∧ H < 65521 ∧ Hid (run (s % 65536) (s / 65536) (xs.take k) = (L, H))) (fun _ _ i => n - (intOf i).toNat)
  case atStart => exact ⟨0, _, _, by omega, rfl, rfl, rfl, by omega, by omega, by omega, by omega, by rfl⟩
  case round =>
    obtain ⟨k, L, H, hk, rfl, rfl, rfl, hL0, hL1, hH0, hH1, hR⟩ := hrel
    by_cases hlt : k < n
    · obtain ⟨b, o, rfl, _, hc⟩ := HB.out.2.2 k hlt
      have hx := HB.out.bd k
      generalize hxe : xs.getD k 0 = x at hc hx
      have HX := Lib.hid hxe
      clear hxe
      go_wp2
      go_round
      case rel => exact ⟨k + 1, _, _, by omega, by go_num, rfl, rfl, by omega, by omega, by omega, by omega, by rw [run_take _ _ _ _ (by rw [HB.out.len]; exact hlt), hR.out, HX.out]; rfl⟩
      case measure => simp [intOf]; omega
    · have hkn : n ≤ k := by omega
      go_wp2_with (go_at_call 104; refine (whole_calls L H _ hL0 hL1 hH0 hH1).mono ?_; rintro e w' ⟨rfl, rfl⟩)
      go_ret
      have e := hR.out
      rw [List.take_of_length_le (by rw [HB.out.len]; exact hkn)] at e
      rw [e]
      exact ⟨rfl, rfl⟩
theorem more_calls (s : Int) (A : Option Addr) (n c : Nat) (xs : List Int) (w : World) (h0 : 0 ≤ s) (h1 : s ≤ 4294967295) (hb : Bs w A n xs) (hn : n ≤ maxLen) :
    Calls Tryz.prog 94 #[.int .u32 s, .slice A n c] w fun e w' => e = .returned (.int .u32 (more s xs)) ∧ w = w' := by
  unfold more
  split
  · rename_i h
    exact more_yes s A n c xs w h0 h1 h hb hn
  · rename_i h
    exact more_no s A n c w h0 h1 (by simpa using h)
set_option maxHeartbeats 400000 in
theorem sum_calls (A : Option Addr) (n c : Nat) (xs : List Int) (w : World) (hb : Bs w A n xs) (hn : n ≤ maxLen) :
    Calls Tryz.prog 81 #[.slice A n c] w fun e w' => e = .returned (.int .u32 (sum xs)) ∧ w = w' := by
  have H := more_calls 1 A n c xs w (by omega) (by omega) hb hn
  rw [more_one] at H
  have HC := Lib.hid H
  clear H hb hn
  go_enter Tryz.func81, Tryz.ntmps81
  go_wp2_with (go_at_call 94; refine (HC.out).mono ?_; rintro e w' ⟨rfl, rfl⟩)
  go_ret
  exact ⟨rfl, rfl⟩

set_option maxHeartbeats 400000 in
theorem refmore_no (s : Int) (A : Option Addr) (n c : Nat) (w : World) (h0 : 0 ≤ s) (h1 : s ≤ 4294967295) (hm : may s = false) :
    Calls Tryz.prog 55 #[.int .u32 s, .slice A n c] w fun e w' => e = .returned (.int .u32 s) ∧ w = w' := by
  go_enter Tryz.func55, Tryz.ntmps55
  go_wp2_with (go_at_call 72; refine (refmay_calls s _ h0 h1).mono ?_; rintro e w' ⟨rfl, rfl⟩)
  go_ret
  exact ⟨rfl, rfl⟩
set_option maxHeartbeats 400000 in
theorem refmore_yes (s : Int) (A : Option Addr) (n c : Nat) (xs : List Int) (w : World) (h0 : 0 ≤ s) (h1 : s ≤ 4294967295) (hm : may s = true) (hb : Bs w A n xs) (hn : n ≤ maxLen) :
    Calls Tryz.prog 55 #[.int .u32 s, .slice A n c] w fun e w' => e = .returned (.int .u32 (join (run (s % 65536) (s / 65536) xs))) ∧ w = w' := by
  unfold maxLen at hn
  have hlim := (may_iff s).1 hm
  have HB := Lib.hid hb
  clear hb
  go_enter Tryz.func55, Tryz.ntmps55
  go_wp2_with (go_at_call 72; refine (refmay_calls s _ h0 h1).mono ?_; rintro e w' ⟨rfl, rfl⟩)
  go_loop [6, 5, 18] (fun l h i => ∃ (k : Nat) (L H : Int), k ≤ n ∧ i = .int .i64 k ∧ l = .int .u32 L ∧ h = .int .u32 H ∧ 0 ≤ L ∧ L < 65521 ∧ 0 ≤ H ∧ H < 65521 ∧ Hid (run (s % 65536) (s / 65536) (xs.take k) = (L, H))) (fun _ _ i => n - (intOf i).toNat)
  case atStart => exact ⟨0, _, _, by omega, rfl, rfl, rfl, by omega, by omega, by omega, by omega, by rfl⟩
  case round =>
    obtain ⟨k, L, H, hk, rfl, rfl, rfl, hL0, hL1, hH0, hH1, hR⟩ := hrel
    by_cases hlt : k < n
    · obtain ⟨b, o, rfl, _, hc⟩ := HB.out.2.2 k hlt
      have hx := HB.out.bd k
      generalize hxe : xs.getD k 0 = x at hc hx
      have HX := Lib.hid hxe
      clear hxe
      go_wp2
      go_round
      case rel => exact ⟨k + 1, _, _, by omega, by go_num, rfl, rfl, by omega, by omega, by omega, by omega, by rw [run_take _ _ _ _ (by rw [HB.out.len]; exact hlt), hR.out, HX.out]; rfl⟩
      case measure => simp [intOf]; omega
    · have hkn : n ≤ k := by omega
      go_wp2
      go_ret
      have e := hR.out
      rw [List.take_of_length_le (by rw [HB.out.len]; exact hkn)] at e
      rw [e]
      exact ⟨rfl, rfl⟩
theorem refmore_calls (s : Int) (A : Option Addr) (n c : Nat) (xs : List Int) (w : World) (h0 : 0 ≤ s) (h1 : s ≤ 4294967295) (hb : Bs w A n xs) (hn : n ≤ maxLen) :
    Calls Tryz.prog 55 #[.int .u32 s, .slice A n c] w fun e w' => e = .returned (.int .u32 (more s xs)) ∧ w = w' := by
  unfold more
  split
  · rename_i h
    exact refmore_yes s A n c xs w h0 h1 h hb hn
  · rename_i h
    exact refmore_no s A n c w h0 h1 (by simpa using h)
set_option maxHeartbeats 400000 in
theorem refsum_calls (A : Option Addr) (n c : Nat) (xs : List Int) (w : World) (hb : Bs w A n xs) (hn : n ≤ maxLen) :
    Calls Tryz.prog 27 #[.slice A n c] w fun e w' => e = .returned (.int .u32 (sum xs)) ∧ w = w' := by
  have H := refmore_calls 1 A n c xs w (by omega) (by omega) hb hn
  rw [more_one] at H
  have HC := Lib.hid H
  clear H hb hn
  go_enter Tryz.func27, Tryz.ntmps27
  go_wp2_with (go_at_call 55; refine (HC.out).mono ?_; rintro e w' ⟨rfl, rfl⟩)
  go_ret
  exact ⟨rfl, rfl⟩
end Go.Proofs.YthbafcihmcjchaaGreatDoor.SumV
