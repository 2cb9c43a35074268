import Derived.Test.YtogdjbhjgbnicaaGreatDoorSq
import Derived.Test.YtogdjbhjgbnicaaGreatDoorPackM
import Derived.Test.YtogdjbhjgbnicaaGreatDoorProg
import Derived.WalkKit
import Derived.WalkSpells
import Derived.Laws.BitsAllLaws
import Derived.BigGuardPart
import Derived.Lib.MinMax
set_option maxHeartbeats 16000000
set_option maxRecDepth 100000
namespace Go.Proofs.YtogdjbhjgbnicaaGreatDoor.PackV
open Go.RowKit
open Byte PackM
theorem info8 : (Tryz.prog.info? 5).map (fun i => (i.zero,i.size,i.bytes)) = some (some (.int .u8 0),1,1) := by kernel_rfl
theorem size8 : (Tryz.prog.info? 5).map (·.size) = some 1 := by kernel_rfl
def Made (zs : List Int) (w : World) (e : Ending) (w' : World) : Prop :=
 ∃ g cap,e = .returned (.slice (some ⟨g,0,none⟩) zs.length cap) ∧ Ob w' w.heap.size 5 g zs.length cap zs ∧ Below w.heap.size w w'
theorem Made.of {zs : List Int} {w w' : World} {e : Ending} {g N cap : Nat} (hN : zs.length = N) (he : e = .returned (.slice (some ⟨g,0,none⟩) N cap)) (ho : Ob w' w.heap.size 5 g N cap zs) (hb : Below w.heap.size w w') : Made zs w e w' := by
 subst hN
 exact ⟨g,cap,he,ho,hb⟩
theorem Made.at_ {zs : List Int} {w w' : World} {e : Ending} {N : Nat} (h : Made zs w e w') (hN : zs.length = N) :
 ∃ g cap,e = .returned (.slice (some ⟨g,0,none⟩) N cap) ∧ Ob w' w.heap.size 5 g N cap zs ∧ Below w.heap.size w w' := by
 subst hN
 exact h
theorem width_calls (n : Int) (w : World) (h0 : -9223372036854775808 ≤ n) (h1 : n ≤ 9223372036854775807) :
 Calls Tryz.prog 150 #[.int .i64 n] w fun e w' => e = .returned (.int .i64 (width n : Int)) ∧ w = w' := by
 rw [width_int]
 go_enter Tryz.func150,Tryz.ntmps150
 go_wp2
 all_goals (go_ret; exact ⟨ret_int (by (repeat' split) <;> omega),rfl⟩)
theorem behind_calls (A : Option Addr) (n c : Nat) (xs : List Int) (K : Int) (k : Nat) (hK : K = k) (w : World) (hb : Bs w A n xs) (hn : n + k ≤ 140737488355328) :
 Calls Tryz.prog 151 #[.slice A n c,.int .i64 K] w fun e w' => e = .returned (.slice (some ⟨w.heap.size,0,none⟩) (n + k) (n + k)) ∧ Ob w' w.heap.size 5 w.heap.size (n + k) (n + k) (xs ++ List.replicate k 0) ∧ Below w.heap.size w w' := by
 subst hK
 have HB := hQ_ hb
 clear hb
 have HE : Hid (over (List.replicate (n + k) 0) 0 xs = xs ++ List.replicate k 0) := by
  have e : List.replicate (n + k) (0 : Int) = List.replicate n 0 ++ List.replicate k 0 := (List.replicate_append_replicate ..).symm
  show over _ 0 xs = _
  rw [e]
  exact over_front xs _ n HB.out.len.symm (List.length_replicate) _
 go_enter Tryz.func151,Tryz.ntmps151
 go_wp2_with (first
  | (at_make; refine wpList_make_bytes rfl _ _ _ rfl w.heap.size 5 Tryz.underlying39 info8 _ _ _ _ (n + k) rfl rfl (by omega) (by omega) hn (Nat.le_refl _) ?_; intro w1 hown1 hg1)
  | (refine wpList_copy_bytes (o := ⟨some 13,_,_,_,_,_⟩) rfl _ _ _ _ rfl 5 Tryz.underlying39 size8 w.heap.size w.heap.size 0 (n + k) (n + k) (n + k) (n + k) _ _ rfl hown1 A n c xs rfl (HB.out.below (((Below.refl _ _).grown hg1 (Nat.le_refl _) (by intro k hk; cases hk)))) (by omega) (fun _ => rfl) (by omega) (xs ++ List.replicate k 0) HE.out ?_; intro w2 hown2 hg2))
 go_ret
 exact ⟨rfl,hown2,((Below.refl _ _).grown hg1 (Nat.le_refl _) (by intro k hk; cases hk)).grown hg2 hg1.size (by intro k hk; injection hk with hk; omega)⟩
theorem shr_byte (x : Int) (i : Nat) : x / 2 ^ (8 * i) % 256 = x / 256 ^ i % 256 := by
 rw [Int.pow_mul]
 rfl
theorem put_calls (A : Option Addr) (n c : Nat) (xs : List Int) (m x : Int) (w : World) (hb : Bs w A n xs) (hn : n + 8 ≤ 140737488355328) (h0 : -9223372036854775808 ≤ m) (h1 : m ≤ 9223372036854775807) :
 Calls Tryz.prog 126 #[.slice A n c,.int .i64 m,.int .u64 x] w (Made (xs ++ low (width m) x) w) := by
 have HB := hQ_ hb
 clear hb
 have hwd := width_bd m
 obtain ⟨k,hk⟩ : ∃ k,width m = k := ⟨_,rfl⟩
 have HW := hQ_ (width_calls m w h0 h1)
 rw [hk] at HW hwd ⊢
 clear hk
 go_enter Tryz.func126,Tryz.ntmps126
 go_wp2_with fail
 refine (HW.out).mono ?_
 rintro e w' ⟨rfl,rfl⟩
 go_wp2_with fail
 refine (behind_calls A n c xs _ k rfl _ HB.out (by omega)).mono ?_
 rintro e w1 ⟨rfl,hown1,hbel1⟩
 go_wp2_with fail
 go_loopw [15] (fun i wr => ∃ j : Nat,j ≤ k ∧ i = .int .i64 j ∧ Ob wr w.heap.size 5 w.heap.size (n + k) (n + k) (xs ++ (List.replicate (k - j) 0 ++ low j x)) ∧ Below w.heap.size w wr) (fun i _ => k - (intOf i).toNat)
 case atStart => exact ⟨0,by omega,rfl,by simpa [low] using hown1,hbel1⟩
 case round =>
  obtain ⟨j,hj,rfl,hown2,hbel2⟩ := hrel
  clear hown1 hbel1
  by_cases hlt : j < k
  ·have hfr := hown2.frozen (n + k - 1 - j)
   have hcell := hown2.cell (n + k - 1 - j) (by omega)
   go_wp2
   go_roundw
   case rel =>
    refine ⟨j + 1,by omega,by go_num,?_,hbel2.setCell (Nat.le_refl _) _⟩
    have h3 := hown2.set_ (n + k - 1 - j) (x / 256 ^ j % 256) (by omega) (by omega)
    rw [← HB.out.len,put_round xs k j x hlt,HB.out.len] at h3
    rw [shr_byte]
    exact h3
   case measure => simp [intOf]; omega
  ·obtain rfl : j = k := by omega
   go_wp2
   go_ret
   have e2 : xs ++ (List.replicate (j - j) 0 ++ low j x) = xs ++ low j x := by simp
   rw [e2] at hown2
   have hl : (xs ++ low j x).length = n + j := by rw [List.length_append,HB.out.len,low_len]
   exact Made.of hl rfl hown2 hbel2
end Go.Proofs.YtogdjbhjgbnicaaGreatDoor.PackV