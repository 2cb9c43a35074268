import Derived.Test.YtogdjbhjgbnicaaGreatDoorSq
import Derived.Test.YtogdjbhjgbnicaaGreatDoorPackV
import Derived.Test.YtogdjbhjgbnicaaGreatDoorProg
import Derived.WalkKit
import Derived.WalkSpells
import Derived.Laws.BitsAllLaws
import Derived.BigGuardPart
import Derived.Lib.MinMax
set_option maxHeartbeats 16000000
set_option maxRecDepth 100000
namespace Go.Proofs.YtogdjbhjgbnicaaGreatDoor.PackG
open Go.RowKit
open Byte PackM PackV
theorem or64 (x y : Int) (h0 : 0 ≤ x) (h1 : x < 72057594037927936) (h2 : 0 ≤ y) (h3 : y ≤ 255) : bits .or .u64 (x * 256) y = x * 256 + y := by
 rw [u64_or _ y (by omega) (by omega) h2 (by omega),nat_join 8 _ _ (by omega) (by omega)]
 omega
theorem get_calls (A : Option Addr) (n c : Nat) (xs : List Int) (a m : Int) (w : World) (hb : Bs w A n xs) (hn : n ≤ 140737488355328) (h0 : -9223372036854775808 ≤ a) (h1 : a ≤ 9223372036854775807) (h2 : -9223372036854775808 ≤ m) (h3 : m ≤ 9223372036854775807) :
 Calls Tryz.prog 157 #[.slice A n c,.int .i64 a,.int .i64 m] w fun e w' => e = .returned (.tuple #[.int .u64 (gx xs a m),.int .i64 (gi xs a m),.int .i64 (ge xs a m)]) ∧ w = w' := by
 have HB := hQ_ hb
 clear hb
 by_cases ha : a < 0 ∨ (n : Int) < a
 ·have hg := g_arg xs a m (by rw [HB.out.len]; exact ha)
  rw [hg.1,hg.2.1,hg.2.2]
  clear hg
  rcases ha with ha | ha
  ·go_enter Tryz.func157,Tryz.ntmps157
   go_wp2
   go_ret3
   exact ⟨rfl,rfl⟩
  ·have hd : decide (a < 0) = false := by simp; omega
   go_enter Tryz.func157,Tryz.ntmps157
   go_wp2
   go_ret3
   exact ⟨rfl,rfl⟩
 ·have ha' : 0 ≤ a ∧ a ≤ (n : Int) := by omega
  obtain ⟨i,rfl⟩ := Int.eq_ofNat_of_zero_le ha'.1
  have hi : i ≤ n := by omega
  have hwd := width_bd m
  have HA : Hid (¬ ((i : Int) < 0 ∨ (xs.length : Int) < (i : Int))) := by rw [HB.out.len]; exact ha
  clear ha ha' h0 h1
  have d1 : decide ((i : Int) < 0) = false := by simp
  have d2 : decide (n < i) = false := by simp; omega
  have HW := hQ_ (width_calls m w h2 h3)
  by_cases hs : n < i + width m
  ·have hg := g_short xs i m HA.out (by rw [HB.out.len]; omega)
   rw [hg.1,hg.2.1,hg.2.2]
   clear hg
   obtain ⟨k,hk⟩ : ∃ k,width m = k := ⟨_,rfl⟩
   rw [hk] at HW hs hwd
   clear hk
   go_enter Tryz.func157,Tryz.ntmps157
   go_wp2_with fail
   refine (HW.out).mono ?_
   rintro e w' ⟨rfl,rfl⟩
   go_wp2_with fail
   go_ret3
   exact ⟨rfl,rfl⟩
  ·have hg := g_ok xs i m HA.out (by rw [HB.out.len]; omega)
   rw [hg.1,hg.2.1,hg.2.2,Int.toNat_natCast]
   clear hg
   obtain ⟨k,hk⟩ : ∃ k,width m = k := ⟨_,rfl⟩
   rw [hk] at HW hs hwd ⊢
   clear hk
   go_enter Tryz.func157,Tryz.ntmps157
   go_wp2_with fail
   refine (HW.out).mono ?_
   rintro e w' ⟨rfl,rfl⟩
   go_wp2_with fail
   go_loop [28,9] (fun j x => ∃ (t : Nat) (X : Int),t ≤ k ∧ j = .int .i64 t ∧ x = .int .u64 X ∧ Hid (X = getn xs i t)) (fun j _ => k - (intOf j).toNat)
   case atStart => exact ⟨0,0,by omega,rfl,rfl,by exact (getn_zero xs i).symm⟩
   case round =>
    obtain ⟨t,X,ht,rfl,rfl,hX⟩ := hrel
    by_cases hlt : t < k
    ·obtain ⟨b,o,rfl,_,hc⟩ := HB.out.2.2 (i + t) (by omega)
     have hx := HB.out.bd (i + t)
     have hXb := get_bd xs i t HB.out.2.1
     have hp := pow_mono t 7 (by omega)
     rw [← hX.out] at hXb
     have hs' := get_succ xs i t (by rw [HB.out.len]; omega)
     rw [← hX.out] at hs'
     have HS := hQ_ hs'
     clear hs'
     generalize hxe : xs.getD (i + t) 0 = y at hc hx HS
     clear hxe
     have hX0 := hXb.1
     have hX1 : X < 72057594037927936 := Int.lt_of_lt_of_le hXb.2 hp
     have hor := or64 X y hX0 (by omega) hx.1 hx.2
     clear hXb hp
     go_wp2
     go_round
     case rel => exact ⟨t + 1,X * 256 + y,by omega,by go_num,rfl,HS.out.symm⟩
     case measure => simp [intOf]; omega
    ·obtain rfl : t = k := by omega
     go_wp2
     go_ret3
     rw [hX.out]
     exact ⟨rfl,rfl⟩
end Go.Proofs.YtogdjbhjgbnicaaGreatDoor.PackG