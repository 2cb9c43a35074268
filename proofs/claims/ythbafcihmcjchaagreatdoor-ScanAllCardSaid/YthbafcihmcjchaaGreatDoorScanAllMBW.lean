/- Merged: NorJ NorK NorL NorDo NorDp NorDq NorDr NorDs. -/
import Derived.IntWalk
import Derived.Test.YthbafcihmcjchaaGreatDoorScanAllMBV
import Derived.Test.YthbafcihmcjchaaGreatDoorScanAllMBU
import Derived.Deep.MidRow
import Derived.Deep.RegionLaw
import Derived.StillTailTactics
import Derived.Test.YthbafcihmcjchaaGreatDoorByteS
/- The example, what is gone through, a device that is nil. -/
namespace Go.Proofs.YthbafcihmcjchaaGreatDoor.NorJ
set_option linter.unusedVariables false
set_option linter.unusedSimpArgs false
open Go.RowKit Go.Maps
open Go.Proofs.YthbafcihmcjchaaGreatDoor.Byte Go.Proofs.YthbafcihmcjchaaGreatDoor.NorD Go.Proofs.YthbafcihmcjchaaGreatDoor.NorW Go.Proofs.YthbafcihmcjchaaGreatDoor.NorM Go.Proofs.YthbafcihmcjchaaGreatDoor.NorS Go.Proofs.YthbafcihmcjchaaGreatDoor.NorF Go.Proofs.YthbafcihmcjchaaGreatDoor.NorG Go.Proofs.YthbafcihmcjchaaGreatDoor.NorH Go.Proofs.YthbafcihmcjchaaGreatDoor.NorN Go.Proofs.YthbafcihmcjchaaGreatDoor.NorO Go.Proofs.YthbafcihmcjchaaGreatDoor.NorQ Go.Proofs.YthbafcihmcjchaaGreatDoor.PlaceM Go.Proofs.YthbafcihmcjchaaGreatDoor.PlaceV

set_option maxHeartbeats 400000 in
theorem refMay_calls (n z : Int) (w : World) : Calls Tryz.prog 25 #[.agg #[.int .i64 n, .int .i64 z]] w fun e w' => e = .returned (.bool (may n z)) ∧ w.alloc (.cells #[.int .i64 n, .int .i64 z] 28) = w' := by
  cases h : may n z
  · rcases may_ways h with h1 | ⟨h1, h2⟩ | ⟨h1, h2, h3⟩ | ⟨h1, h2, h3, h4⟩
    all_goals
      clear h
      go_enter Tryz.func25, Tryz.ntmps25
      go_wp2
      go_ret
      first | exact ⟨rfl, rfl⟩ | exact ⟨Byte.ret_bool (by rw [decide_eq_false_iff_not]; omega), rfl⟩
  · obtain ⟨h1, h2, h3, h4⟩ := may_yes h
    clear h
    go_enter Tryz.func25, Tryz.ntmps25
    go_wp2
    go_ret
    first | exact ⟨rfl, rfl⟩ | exact ⟨Byte.ret_bool (by rw [decide_eq_true_eq]; omega), rfl⟩
/-- Whether it is gone through. -/
def small (n z : Int) : Bool := may n z && decide (n * z ≤ 20000)
set_option maxHeartbeats 400000 in
theorem off_nil (w : World)  : Calls Tryz.prog 37 #[.pointer none] w fun e w' => e = .returned (.tuple #[]) ∧ w = w' := by
  go_enter Tryz.func37, Tryz.ntmps37
  go_wp2_with (go_at_call 19; refine (isOn_nil _).mono ?_; rintro e w' ⟨rfl, rfl⟩)
  go_end0
  exact ⟨rfl, rfl⟩
set_option maxHeartbeats 400000 in
theorem cut_nil (w : World) (a b m : Int) : Calls Tryz.prog 35 #[.pointer none, .int .i64 a, .int .i64 b, .int .u8 m] w fun e w' => e = .returned (.tuple #[]) ∧ w = w' := by
  go_enter Tryz.func35, Tryz.ntmps35
  go_wp2_with fail
  go_end0
  exact ⟨rfl, rfl⟩
set_option maxHeartbeats 400000 in
theorem spoil_nil (w : World) (se : Int) : Calls Tryz.prog 40 #[.pointer none, .int .i64 se] w fun e w' => e = .returned (.tuple #[]) ∧ w = w' := by
  go_enter Tryz.func40, Tryz.ntmps40
  go_wp2_with (go_at_call 58; refine (has_nil _ _).mono ?_; rintro e w' ⟨rfl, rfl⟩)
  go_end0
  exact ⟨rfl, rfl⟩
set_option maxHeartbeats 400000 in
theorem read_nil (w : World) (x y : Nat) (m : Int) : Calls Tryz.prog 34 #[.pointer none, .complex .f64 x y, .int .i64 m] w fun e w' => e = .returned (.tuple #[.slice none 0 0, .int .i64 7]) ∧ w = w' := by
  go_enter Tryz.func34, Tryz.ntmps34
  go_wp2_with (go_at_call 19; refine (isOn_nil _).mono ?_; rintro e w' ⟨rfl, rfl⟩)
  go_ret2
  exact ⟨rfl, rfl⟩
set_option maxHeartbeats 400000 in
theorem program_nil (w : World) (x y : Nat) (A : Option Addr) (m c : Nat) : Calls Tryz.prog 6 #[.pointer none, .complex .f64 x y, .slice A m c] w fun e w' => e = .returned (.int .i64 7) ∧ w.alloc (.cells #[.slice A m c] 38) = w' := by
  go_enter Tryz.func6, Tryz.ntmps6
  go_wp2_with (go_at_call 19; refine (isOn_nil _).mono ?_; rintro e w' ⟨rfl, rfl⟩)
  go_ret
  exact ⟨rfl, rfl⟩
set_option maxHeartbeats 400000 in
theorem erase_nil (w : World) (se : Int) : Calls Tryz.prog 33 #[.pointer none, .int .i64 se] w fun e w' => e = .returned (.int .i64 7) ∧ w = w' := by
  go_enter Tryz.func33, Tryz.ntmps33
  go_wp2_with (go_at_call 19; refine (isOn_nil _).mono ?_; rintro e w' ⟨rfl, rfl⟩)
  go_ret
  exact ⟨rfl, rfl⟩
set_option maxHeartbeats 400000 in
theorem geometry_nil (w : World)  : Calls Tryz.prog 42 #[.pointer none] w fun e w' => e = .returned (.agg #[.int .i64 0, .int .i64 0]) ∧ Below w.heap.size w w' := by
  go_enter Tryz.func42, Tryz.ntmps42
  go_wp2_with fail
  exact bodyPost_ret (v := .agg #[.int .i64 0, .int .i64 0]) (by simp [results, Tryz.results42, go_sem]) rfl ⟨rfl, (Below.refl _ _).alloc (Nat.le_refl _) _⟩

section
variable {lo hi d n z K : Nat} {s : St}
theorem dev_below {w w' : World} (h : Dev w lo hi d n z K s) (hb : Below w.heap.size w w') : Dev w' lo hi d n z K s := by
  obtain ⟨_, _, _, _, _, _, _, _, _, h⟩ := h
  exact (DevP.below h hb).dev
theorem dev_hi {w : World} (h : Dev w lo hi d n z K s) : hi ≤ w.heap.size := by
  obtain ⟨_, _, _, _, _, _, _, _, _, h⟩ := h
  exact h.hs
theorem three : rt 4613937818241073152 = true ∧ nm 4613937818241073152 = 3 ∧ rt 0 = true ∧ nm 0 = 0 := by
  have e3 : wd 3 = 4613937818241073152 := by decide +kernel
  have h3 := rt_wd 3 (by omega) (by omega)
  have h0 := rt_wd 0 (by omega) (by omega)
  rw [e3] at h3
  rw [wd0] at h0
  exact ⟨h3.1, h3.2, h0.1, h0.2⟩
theorem one_at (w : World) (v : Int) (h0 : 0 ≤ v) (h1 : v ≤ 255) : Bs (w.alloc (.cells #[.int .u8 v] 5)) (some ⟨w.heap.size, 0, none⟩) 1 [v] := by
  refine ⟨rfl, fun x hx => by simp at hx; omega, fun k hk => ⟨w.heap.size, 0, rfl, by simp, ?_⟩⟩
  obtain rfl : k = 0 := by omega
  exact (Blk.new w 5 #[.int .u8 v]).cell 0
theorem program_one (w : World) (hD : Dev w lo hi d n z K s) (hK : K + 1 ≤ 1000000) (v : Int) (h0 : 0 ≤ v) (h1 : v ≤ 255) :
    Calls Tryz.prog 6 #[.pointer (some ⟨d, 0, none⟩), .complex .f64 0 4613937818241073152, .slice (some ⟨w.heap.size, 0, none⟩) 1 1] (w.alloc (.cells #[.int .u8 v] 5))
      fun e w' => ∃ r, e = .returned (.int .i64 r) ∧ Dev w' lo hi d n z (K + 1) (s.program n z 0 3 [v]).2 ∧ Chg (fun q => lo ≤ q ∧ q < hi) w w' := by
  have hh := dev_hi hD
  refine (program_calls _ (dev_below hD ((Below.refl _ _).alloc (Nat.le_refl _) _)) hK 0 4613937818241073152 _ 1 1 0 3 [v] (one_at w v h0 h1) (fun b o e => ?_) (by omega) three.2.2.1 three.1 three.2.2.2 three.2.1).mono fun e w' ⟨he, hd, hc⟩ => ⟨_, he, hd, ((Chg.refl _ w).alloc _).trans hc⟩
  injection e with e
  injection e with e
  subst e
  exact .inr hh
end
def s1 : St := ((St.new 6 512).program 6 512 0 3 [51]).2
def s2 : St := (s1.program 6 512 0 3 [15]).2
theorem s2_row : ((s2.row 0).drop 3).take 1 = [3] := by decide +kernel
theorem s2_on : s2.on = true := by decide +kernel
theorem read_three (w : World) {lo hi d K : Nat} (hD : Dev w lo hi d 6 512 K s2) : Calls Tryz.prog 34 #[.pointer (some ⟨d, 0, none⟩), .complex .f64 0 4613937818241073152, .int .i64 1] w
      fun e w' => ∃ g cap, e = .returned (.tuple #[.slice (some ⟨g, 0, none⟩) 1 cap, .int .i64 0]) ∧ w'.cell? ⟨g, 0, none⟩ = some (.int .u8 3) ∧ Below w.heap.size w w' := by
  obtain ⟨_, _, _, _, _, _, _, _, _, h⟩ := hD
  refine (read_ok w h 0 4613937818241073152 1 0 3 s2_on three.2.2.1 three.1 three.2.2.2 three.2.1 (by decide +kernel)).mono fun e w' ⟨g, cap, he, ho, hb⟩ => ⟨g, cap, he, ?_, hb⟩
  have := ho.cell 0 (by omega)
  rw [s2_row] at this
  exact this
theorem prog51 (w : World) {lo hi d : Nat} (hD : Dev w lo hi d 6 512 0 (St.new 6 512)) : Calls Tryz.prog 6 #[.pointer (some ⟨d, 0, none⟩), .complex .f64 0 4613937818241073152, .slice (some ⟨w.heap.size, 0, none⟩) 1 1] (w.alloc (.cells #[.int .u8 51] 5))
    fun e w' => ∃ r, e = .returned (.int .i64 r) ∧ Hid (Dev w' lo hi d 6 512 1 s1 ∧ Chg (fun q => lo ≤ q ∧ q < hi) w w') := (program_one w hD (by omega) 51 (by omega) (by omega)).mono fun e w' ⟨r, he, hd, hc⟩ => ⟨r, he, Lib.hid ⟨hd, hc⟩⟩
theorem prog15 (w : World) {lo hi d : Nat} (hD : Dev w lo hi d 6 512 1 s1) : Calls Tryz.prog 6 #[.pointer (some ⟨d, 0, none⟩), .complex .f64 0 4613937818241073152, .slice (some ⟨w.heap.size, 0, none⟩) 1 1] (w.alloc (.cells #[.int .u8 15] 5))
    fun e w' => ∃ r, e = .returned (.int .i64 r) ∧ Hid (Dev w' lo hi d 6 512 2 s2 ∧ Chg (fun q => lo ≤ q ∧ q < hi) w w') := (program_one w hD (by omega) 15 (by omega) (by omega)).mono fun e w' ⟨r, he, hd, hc⟩ => ⟨r, he, Lib.hid ⟨hd, hc⟩⟩
end Go.Proofs.YthbafcihmcjchaaGreatDoor.NorJ

/- Operations in memory, and how many are gone through. -/
namespace Go.Proofs.YthbafcihmcjchaaGreatDoor.NorK
set_option linter.unusedVariables false
set_option linter.unusedSimpArgs false
open Go.RowKit Go.Maps
open Go.Proofs.YthbafcihmcjchaaGreatDoor.Byte Go.Proofs.YthbafcihmcjchaaGreatDoor.NorD Go.Proofs.YthbafcihmcjchaaGreatDoor.NorM Go.Proofs.YthbafcihmcjchaaGreatDoor.NorS

structure Opr where
  kind : Int
  se : Int
  off : Int
  B : Option Addr
  bl : Nat
  bc : Nat
  n : Int
  k : Int
  mask : Int
def Opr.cells (o : Opr) : Array Value := #[.int .i64 o.kind, .int .i64 o.se, .int .i64 o.off, .slice o.B o.bl o.bc, .int .i64 o.n, .int .i64 o.k, .int .u8 o.mask]
theorem info_op : (Tryz.prog.info? 43).map (·.size) = some 7 := by kernel_rfl
/-- Behind A stand m operations. -/
def OpsAt (w : World) (A : Option Addr) (m : Nat) (ops : Nat → Opr) : Prop :=
  ∀ j, j < m → ∃ b o, A = some ⟨b, o, none⟩ ∧ b < w.heap.size ∧ w.rangeAt b (o + j * 7) (ops j).cells.toList
theorem OpsAt.below {w w' : World} {A : Option Addr} {m : Nat} {ops : Nat → Opr} (h : OpsAt w A m ops) (hb : Below w.heap.size w w') : OpsAt w' A m ops := fun j hj => by
  obtain ⟨b, o, e, hlt, hc⟩ := h j hj
  exact ⟨b, o, e, Nat.lt_of_lt_of_le hlt hb.size, fun i v hv => (hb.cell (p := ⟨b, o + j * 7 + i, none⟩) hlt).trans (hc i v hv)⟩
end Go.Proofs.YthbafcihmcjchaaGreatDoor.NorK

/- The law of a device that is nil. -/
namespace Go.Proofs.YthbafcihmcjchaaGreatDoor.NorL
set_option linter.unusedVariables false
set_option linter.unusedSimpArgs false
open Go.RowKit Go.Maps
open Go.Proofs.YthbafcihmcjchaaGreatDoor.Byte Go.Proofs.YthbafcihmcjchaaGreatDoor.NorD Go.Proofs.YthbafcihmcjchaaGreatDoor.NorW Go.Proofs.YthbafcihmcjchaaGreatDoor.NorF Go.Proofs.YthbafcihmcjchaaGreatDoor.NorJ Go.Proofs.YthbafcihmcjchaaGreatDoor.NorK Go.Proofs.YthbafcihmcjchaaGreatDoor.PlaceM Go.Proofs.YthbafcihmcjchaaGreatDoor.PlaceV

theorem of_any (s o : Int) (w : World) : Calls Tryz.prog 7 #[.int .i64 s, .int .i64 o] w fun e w' => ∃ x y, e = .returned (.complex .f64 x y) ∧ w = w' := by
  by_cases h : 0 ≤ s ∧ s ≤ 2147483647 ∧ 0 ≤ o ∧ o ≤ 2147483647
  · exact (of_yes s o w h.1 h.2.1 h.2.2.1 h.2.2.2).mono fun e w' ⟨h1, h2⟩ => ⟨_, _, h1, h2⟩
  · exact (of_no s o w (by omega)).mono fun e w' ⟨h1, h2⟩ => ⟨_, _, h1, h2⟩
theorem two_below (w : World) (o o' : Obj) : Below w.heap.size w ((w.alloc o).alloc o') := ((Below.refl _ _).alloc (Nat.le_refl _) _).alloc (by simp) _
theorem one_op (w : World) (op : Opr) : OpsAt (w.alloc (.cells op.cells 43)) (some ⟨w.heap.size, 0, none⟩) 1 (fun _ => op) := fun j hj => by
  obtain rfl : j = 0 := by omega
  refine ⟨w.heap.size, 0, rfl, by simp, fun i v hv => ?_⟩
  have := (Blk.new w 43 op.cells).cell i
  simp only [Nat.zero_mul, Nat.zero_add]
  rw [this, ← Array.getElem?_toList]
  exact hv
end Go.Proofs.YthbafcihmcjchaaGreatDoor.NorL

/- Do, the operations that answer nothing (Cut, Off, On, Spoil): the contract, for any state of the device and any of the document's. -/
namespace Go.Proofs.YthbafcihmcjchaaGreatDoor.NorDo
set_option linter.unusedVariables false
set_option linter.unusedSimpArgs false
open Go.RowKit
open Go.Proofs.YthbafcihmcjchaaGreatDoor.Byte Go.Proofs.YthbafcihmcjchaaGreatDoor.NorD Go.Proofs.YthbafcihmcjchaaGreatDoor.NorM Go.Proofs.YthbafcihmcjchaaGreatDoor.NorS Go.Proofs.YthbafcihmcjchaaGreatDoor.NorF Go.Proofs.YthbafcihmcjchaaGreatDoor.NorH Go.Proofs.YthbafcihmcjchaaGreatDoor.NorB Go.Proofs.YthbafcihmcjchaaGreatDoor.NorP Go.Proofs.YthbafcihmcjchaaGreatDoor.NorR Go.Proofs.YthbafcihmcjchaaGreatDoor.NorU Go.Proofs.YthbafcihmcjchaaGreatDoor.NorV Go.Proofs.YthbafcihmcjchaaGreatDoor.NorX Go.Proofs.YthbafcihmcjchaaGreatDoor.NorY Go.Proofs.YthbafcihmcjchaaGreatDoor.NorZ Go.Proofs.YthbafcihmcjchaaGreatDoor.NorI Go.Proofs.YthbafcihmcjchaaGreatDoor.NorJ Go.Proofs.YthbafcihmcjchaaGreatDoor.NorK Go.Proofs.YthbafcihmcjchaaGreatDoor.NorL Go.Proofs.YthbafcihmcjchaaGreatDoor.PlaceM Go.Proofs.YthbafcihmcjchaaGreatDoor.PlaceV

/-- The place of two numbers: 0 if they are no place's. -/
def pl (se off : Int) : Nat × Nat := if 0 ≤ se ∧ se ≤ 2147483647 ∧ 0 ≤ off ∧ off ≤ 2147483647 then (se.toNat, off.toNat) else (0, 0)
theorem of_num (se off : Int) (w : World) : Calls Tryz.prog 7 #[.int .i64 se, .int .i64 off] w fun e w' => ∃ x y, e = .returned (.complex .f64 x y) ∧ (rt x = true ∧ rt y = true ∧ nm x = ((pl se off).1 : Int) ∧ nm y = ((pl se off).2 : Int)) ∧ w = w' := by
  by_cases h : 0 ≤ se ∧ se ≤ 2147483647 ∧ 0 ≤ off ∧ off ≤ 2147483647
  · have e : pl se off = (se.toNat, off.toNat) := if_pos h
    refine (of_yes se off w h.1 h.2.1 h.2.2.1 h.2.2.2).mono fun e' w' ⟨h1, h2⟩ => ⟨_, _, h1, ⟨fi_rt _ h.1 h.2.1, fi_rt _ h.2.2.1 h.2.2.2, ?_, ?_⟩, h2⟩
    · rw [fi_nm _ h.1 h.2.1, e]
      omega
    · rw [fi_nm _ h.2.2.1 h.2.2.2, e]
      omega
  · have e : pl se off = (0, 0) := if_neg h
    refine (of_no se off w (by omega)).mono fun e' w' ⟨h1, h2⟩ => ⟨_, _, h1, ⟨three.2.2.1, three.2.2.1, ?_, ?_⟩, h2⟩
    · rw [three.2.2.2, e]
      rfl
    · rw [three.2.2.2, e]
      rfl
section
variable {lo hi d n z K : Nat} {s : St}
theorem dev_chg {w w' : World} {S : Nat → Prop} (h : Dev w lo hi d n z K s) (hc : Chg S w w') (hS : ∀ k, lo ≤ k → k < hi → ¬ S k) : Dev w' lo hi d n z K s := by
  obtain ⟨_, _, _, _, _, _, _, _, _, h⟩ := h
  exact (DevP.chg h hc hS).dev
theorem dev_more {w : World} (h : Dev w lo hi d n z K s) {K' : Nat} (hK : K ≤ K') (hb : K' ≤ 1000000) : Dev w lo hi d n z K' s := by
  obtain ⟨_, _, _, _, _, _, _, _, _, h⟩ := h
  exact (DevP.more h hK hb).dev
theorem dev_off (w : World) (hD : Dev w lo hi d n z K s) (hK : K + 1 ≤ 1000000) : Calls Tryz.prog 37 #[.pointer (some ⟨d, 0, none⟩)] w fun e w' => e = .returned (.tuple #[]) ∧ Dev w' lo hi d n z (K + 1) s.turn ∧ Chg (fun q => lo ≤ q ∧ q < hi) w w' := by
  obtain ⟨_, _, _, _, _, _, _, _, _, h⟩ := hD
  exact turnOff_calls w h hK
theorem dev_on (w : World) (hD : Dev w lo hi d n z K s) : Calls Tryz.prog 39 #[.pointer (some ⟨d, 0, none⟩)] w fun e w' => e = .returned (.tuple #[]) ∧ Dev w' lo hi d n z K s.up ∧ Chg (fun q => lo ≤ q ∧ q < hi) w w' := by
  obtain ⟨_, _, _, _, _, _, _, _, _, h⟩ := hD
  exact turnOn_calls w h
theorem dev_cut (w : World) (hD : Dev w lo hi d n z K s) (a b m : Int) (ha : a ≤ 9223372036854775807) (hb : b ≤ 9223372036854775807) (h0 : 0 ≤ m) (h1 : m ≤ 255) :
    Calls Tryz.prog 35 #[.pointer (some ⟨d, 0, none⟩), .int .i64 a, .int .i64 b, .int .u8 m] w fun e w' => e = .returned (.tuple #[]) ∧ Dev w' lo hi d n z K (s.setCut a b m) ∧ Chg (fun q => lo ≤ q ∧ q < hi) w w' := by
  obtain ⟨_, _, _, _, _, _, _, _, _, h⟩ := hD
  exact cut_calls w h a b m ha hb h0 h1
theorem dev_spoil (w : World) (hD : Dev w lo hi d n z K s) (hK : K + 1 ≤ 1000000) (se : Int) :
    Calls Tryz.prog 40 #[.pointer (some ⟨d, 0, none⟩), .int .i64 se] w fun e w' => e = .returned (.tuple #[]) ∧ Dev w' lo hi d n z (K + 1) (s.spoil n se) ∧ Chg (fun q => lo ≤ q ∧ q < hi) w w' := by
  have hD' := hD
  obtain ⟨_, _, _, _, _, _, _, _, _, h⟩ := hD
  by_cases hin : 0 ≤ se ∧ se < (n : Int)
  · obtain ⟨i, rfl⟩ := Int.eq_ofNat_of_zero_le hin.1
    exact spoil_yes w h hK i (by omega)
  · have e1 : s.spoil n se = s := by
      unfold St.spoil
      rw [if_neg hin]
    rw [e1]
    exact (spoil_no w h se (by omega)).mono fun e w' ⟨he, hw⟩ => by
      subst hw
      exact ⟨he, dev_more hD' (by omega) hK, Chg.refl _ _⟩
end
theorem refP_chg {w w' : World} {rl lo hi n z K : Nat} {s : St} {db wb bb : Nat} {cuts : Bool} {left whole mask : Int} {L LC : Nat → Nat} (h : RefP w rl n z K s db wb bb cuts left whole mask L LC) (hc : Chg (fun q => lo ≤ q ∧ q < hi) w w') (hh : hi ≤ rl) : RefP w' rl n z K s db wb bb cuts left whole mask L LC :=
  h.keep (fun k h1 h2 => hc.block k h2 (by omega)) hc.size
/-- Inside Do: the boxes of the document's device and of the operation, the result's variable. -/
structure DX (w W : World) (lo hi : Nat) (c oc : Array Value) : Prop where
  box : Blk W w.heap.size 33 c
  op : Blk W (w.heap.size + 1) 43 oc
  res : Blk W (w.heap.size + 1 + 1) 33 zeroRef
  chg : Chg (fun q => lo ≤ q ∧ q < hi) w W
theorem three_below (w : World) (o o' o2 : Obj) : Below w.heap.size w (((w.alloc o).alloc o').alloc o2) := (two_allocs w o o').alloc (by simp; omega) _
theorem DX.of (w : World) (lo hi : Nat) (c oc : Array Value) : DX w (((w.alloc (.cells c 33)).alloc (.cells oc 43)).alloc (.cells zeroRef 33)) lo hi c oc := by
  refine ⟨((Blk.new w _ _).alloc _).alloc _, ?_, ?_, Chg.of_below (three_below w _ _ _)⟩
  · have := (Blk.new (w.alloc (.cells c 33)) 43 oc).alloc (.cells zeroRef 33)
    simpa using this
  · have := Blk.new ((w.alloc (.cells c 33)).alloc (.cells oc 43)) 33 zeroRef
    simpa using this
section
variable {w W W' : World} {lo hi : Nat} {c oc : Array Value}
theorem DX.step (h : DX w W lo hi c oc) (hc : Chg (fun q => lo ≤ q ∧ q < hi) W W') (hh : hi ≤ w.heap.size) : DX w W' lo hi c oc :=
  ⟨h.box.chg hc (by omega), h.op.chg hc (by omega), h.res.chg hc (by omega), h.chg.trans hc⟩
theorem DX.below (h : DX w W lo hi c oc) (hb : Below W.heap.size W W') (hh : hi ≤ w.heap.size) : DX w W' lo hi c oc := h.step (Chg.of_below hb) hh
theorem DX.drew (h : DX w W lo hi c oc) : DX w W.drew lo hi c oc := ⟨h.box, h.op, h.res, h.chg.drew⟩
theorem DX.done (h : DX w W lo hi c oc) (hg : Chg (fun q => q = w.heap.size + 1 + 1) W W') : Chg (fun q => lo ≤ q ∧ q < hi) w W' := h.chg.then_ hg (fun i h1 e => by omega)
theorem DX.lt (h : DX w W lo hi c oc) : w.heap.size + 1 + 1 < W.heap.size := h.res.lt
end
def DoPost (w : World) (lo hi d rl n z K : Nat) (D R : St) (same : Prop) (e : Ending) (w' : World) : Prop :=
  ∃ ok v', e = .returned (.tuple #[.bool ok, v']) ∧ (same → ok = true) ∧ Dev w' lo hi d n z K D ∧ Ref w' rl n z K R v' ∧ Chg (fun q => lo ≤ q ∧ q < hi) w w'

section
variable {lo hi d rl n z K : Nat} {D R : St}
set_option maxRecDepth 100000 in
set_option maxHeartbeats 1000000 in
theorem do_off (w : World) (v : Value) (hD : Dev w lo hi d n z K D) (hR : Ref w rl n z K R v) (hh : hi ≤ rl) (hl : rl ≤ w.heap.size) (hK : K + 3 ≤ 1000000) (se off : Int) (B : Option Addr) (bl bq : Nat) (nn kk mm : Int) :
    Calls Tryz.prog 11 #[.pointer (some ⟨d, 0, none⟩), v, .agg #[.int .i64 4, .int .i64 se, .int .i64 off, .slice B bl bq, .int .i64 nn, .int .i64 kk, .int .u8 mm]] w (DoPost w lo hi d rl n z (K + 1) (D.turn) (R.turn) True) := by
  obtain ⟨db, dc, wb, wc, bb, bc, cuts, left, whole, mask, L, LC, rfl, hP, hr⟩ := hR
  have HP := Lib.hid hP
  have HR := Lib.hid hr
  have HX := Lib.hid (DX.of w lo hi (rc n z db dc wb wc bb bc (!R.on) R.offs R.acts cuts left whole mask) #[.int .i64 4, .int .i64 se, .int .i64 off, .slice B bl bq, .int .i64 nn, .int .i64 kk, .int .u8 mm])
  have HD := Lib.hid (dev_below hD (three_below w (.cells (rc n z db dc wb wc bb bc (!R.on) R.offs R.acts cuts left whole mask) 33) (.cells #[.int .i64 4, .int .i64 se, .int .i64 off, .slice B bl bq, .int .i64 nn, .int .i64 kk, .int .u8 mm] 43) (.cells zeroRef 33)))
  clear hP hr hD
  have hhw : hi ≤ w.heap.size := by omega
  unfold refVal
  go_enter Tryz.func11, Tryz.ntmps11
  go_upto_region 1 with (fail)
  change Code.wp _ _ _ _ (((w.alloc (.cells (rc n z db dc wb wc bb bc (!R.on) R.offs R.acts cuts left whole mask) 33)).alloc (.cells #[.int .i64 4, .int .i64 se, .int .i64 off, .slice B bl bq, .int .i64 nn, .int .i64 kk, .int .u8 mm] 43)).alloc (.cells zeroRef 33))
  generalize ((w.alloc (.cells (rc n z db dc wb wc bb bc (!R.on) R.offs R.acts cuts left whole mask) 33)).alloc (.cells #[.int .i64 4, .int .i64 se, .int .i64 off, .slice B bl bq, .int .i64 nn, .int .i64 kk, .int .u8 mm] 43)).alloc (.cells zeroRef 33) = W at *
  have o0 : W.cell? ⟨w.heap.size + 1, 0, none⟩ = some (.int .i64 4) := HX.out.op.cell 0
  have o1 : W.cell? ⟨w.heap.size + 1, 1, none⟩ = some (.int .i64 se) := HX.out.op.cell 1
  have o2 : W.cell? ⟨w.heap.size + 1, 2, none⟩ = some (.int .i64 off) := HX.out.op.cell 2
  go_wp2_with (first
    | (go_at_call 7; refine (of_num _ _ _).mono ?_; rintro e w' ⟨x, y, rfl, hxy, rfl⟩; have HXY := Lib.hid hxy; clear hxy)
    | (go_at_call 37; refine (dev_off W HD.out (by omega)).mono ?_; rintro e w1 ⟨rfl, hD1, hc1⟩; have HX1 := Lib.hid (HX.out.step hc1 hhw); have HD1 := Lib.hid hD1; clear hD1 hc1 o0 o1 o2)
    | ((with_reducible refine pick (some 156) ?_); refine wpList_load_row rfl _ _ rfl w.heap.size rfl 33 (rc n z db dc wb wc bb bc (!R.on) R.offs R.acts cuts left whole mask) (0, 0) _ HX1.out.box Tryz.underlying33 rfl info_ref ?_)
    | (go_at_call 38; refine (refTurn_calls w1 (.agg (rc n z db dc wb wc bb bc (!R.on) R.offs R.acts cuts left whole mask)) (Ref.of rfl (refP_chg HP.out HX1.out.chg hh) HR.out) (by omega)).mono ?_; rintro e w2 ⟨v', rfl, ⟨db', dc', wb', wc', bb', bc', cuts', left', whole', mask', L', LC', rfl, hP2, hr2⟩, hb2⟩; have HX2 := Lib.hid (HX1.out.below hb2 hhw); have HP2 := Lib.hid hP2; have HR2 := Lib.hid hr2; have HB2 := Lib.hid hb2; clear hP2 hr2 hb2)
    | ((with_reducible refine pick none ?_); refine wpList_store_blk rfl 33 _ _ rfl (w.heap.size + 1 + 1) (rc n z db' dc' wb' wc' bb' bc' (!(R.turn).on) (R.turn).offs (R.turn).acts cuts' left' whole' mask') rfl rfl 33 zeroRef HX2.out.res info_ref rfl (rc_one _ _ _ _ _ _ _ _ _ _ _ _ _ _ _) ?_; intro w3 hb3 hg3))
  refine bodyPost_ret (v := .tuple #[.bool true, .agg (rc n z db' dc' wb' wc' bb' bc' (!(R.turn).on) (R.turn).offs (R.turn).acts cuts' left' whole' mask')]) ?_ rfl ⟨true, _, rfl, fun _ => rfl, (dev_chg (dev_below HD1.out HB2.out) hg3 (fun k h1 h2 e => by omega)), (Ref.of rfl (RefP.other HP2.out HX2.out.res hg3) HR2.out), HX2.out.done hg3⟩
  exact results_tmp_row (fn := Tryz.f11) rfl _ _ (w.heap.size + 1 + 1) 33 _ (0, 0) _ rfl hb3 Tryz.underlying33 rfl info_ref
set_option maxRecDepth 100000 in
set_option maxHeartbeats 1000000 in
theorem do_cut (w : World) (v : Value) (hD : Dev w lo hi d n z K D) (hR : Ref w rl n z K R v) (hh : hi ≤ rl) (hl : rl ≤ w.heap.size) (hK : K + 3 ≤ 1000000) (se off : Int) (B : Option Addr) (bl bq : Nat) (nn kk mm : Int) (hn : nn ≤ 9223372036854775807) (hk : kk ≤ 9223372036854775807) (hm0 : 0 ≤ mm) (hm1 : mm ≤ 255) :
    Calls Tryz.prog 11 #[.pointer (some ⟨d, 0, none⟩), v, .agg #[.int .i64 3, .int .i64 se, .int .i64 off, .slice B bl bq, .int .i64 nn, .int .i64 kk, .int .u8 mm]] w (DoPost w lo hi d rl n z (K) (D.setCut nn kk mm) (R.setCut nn kk mm) True) := by
  obtain ⟨db, dc, wb, wc, bb, bc, cuts, left, whole, mask, L, LC, rfl, hP, hr⟩ := hR
  have HP := Lib.hid hP
  have HR := Lib.hid hr
  have HX := Lib.hid (DX.of w lo hi (rc n z db dc wb wc bb bc (!R.on) R.offs R.acts cuts left whole mask) #[.int .i64 3, .int .i64 se, .int .i64 off, .slice B bl bq, .int .i64 nn, .int .i64 kk, .int .u8 mm])
  have HD := Lib.hid (dev_below hD (three_below w (.cells (rc n z db dc wb wc bb bc (!R.on) R.offs R.acts cuts left whole mask) 33) (.cells #[.int .i64 3, .int .i64 se, .int .i64 off, .slice B bl bq, .int .i64 nn, .int .i64 kk, .int .u8 mm] 43) (.cells zeroRef 33)))
  clear hP hr hD
  have hhw : hi ≤ w.heap.size := by omega
  unfold refVal
  go_enter Tryz.func11, Tryz.ntmps11
  go_upto_region 1 with (fail)
  change Code.wp _ _ _ _ (((w.alloc (.cells (rc n z db dc wb wc bb bc (!R.on) R.offs R.acts cuts left whole mask) 33)).alloc (.cells #[.int .i64 3, .int .i64 se, .int .i64 off, .slice B bl bq, .int .i64 nn, .int .i64 kk, .int .u8 mm] 43)).alloc (.cells zeroRef 33))
  generalize ((w.alloc (.cells (rc n z db dc wb wc bb bc (!R.on) R.offs R.acts cuts left whole mask) 33)).alloc (.cells #[.int .i64 3, .int .i64 se, .int .i64 off, .slice B bl bq, .int .i64 nn, .int .i64 kk, .int .u8 mm] 43)).alloc (.cells zeroRef 33) = W at *
  have o0 : W.cell? ⟨w.heap.size + 1, 0, none⟩ = some (.int .i64 3) := HX.out.op.cell 0
  have o1 : W.cell? ⟨w.heap.size + 1, 1, none⟩ = some (.int .i64 se) := HX.out.op.cell 1
  have o2 : W.cell? ⟨w.heap.size + 1, 2, none⟩ = some (.int .i64 off) := HX.out.op.cell 2
  have o4 : W.cell? ⟨w.heap.size + 1, 4, none⟩ = some (.int .i64 nn) := HX.out.op.cell 4
  have o5 : W.cell? ⟨w.heap.size + 1, 5, none⟩ = some (.int .i64 kk) := HX.out.op.cell 5
  have o6 : W.cell? ⟨w.heap.size + 1, 6, none⟩ = some (.int .u8 mm) := HX.out.op.cell 6
  go_wp2_with (first
    | (go_at_call 7; refine (of_num _ _ _).mono ?_; rintro e w' ⟨x, y, rfl, hxy, rfl⟩; have HXY := Lib.hid hxy; clear hxy)
    | (go_at_call 35; refine (dev_cut W HD.out nn kk mm (by omega) (by omega) (by omega) (by omega)).mono ?_; rintro e w1 ⟨rfl, hD1, hc1⟩; have HX1 := Lib.hid (HX.out.step hc1 hhw); have HD1 := Lib.hid hD1; clear hD1 hc1 o0 o1 o2 o4 o5 o6; have p4 : w1.cell? ⟨w.heap.size + 1, 4, none⟩ = some (.int .i64 nn) := HX1.out.op.cell 4; have p5 : w1.cell? ⟨w.heap.size + 1, 5, none⟩ = some (.int .i64 kk) := HX1.out.op.cell 5; have p6 : w1.cell? ⟨w.heap.size + 1, 6, none⟩ = some (.int .u8 mm) := HX1.out.op.cell 6)
    | ((with_reducible refine pick (some 144) ?_); refine wpList_load_row rfl _ _ rfl w.heap.size rfl 33 (rc n z db dc wb wc bb bc (!R.on) R.offs R.acts cuts left whole mask) (0, 0) _ HX1.out.box Tryz.underlying33 rfl info_ref ?_)
    | (go_at_call 36; refine (refCut_calls w1 (.agg (rc n z db dc wb wc bb bc (!R.on) R.offs R.acts cuts left whole mask)) (Ref.of rfl (refP_chg HP.out HX1.out.chg hh) HR.out) nn kk mm (by omega) (by omega) (by omega) (by omega)).mono ?_; rintro e w2 ⟨v', rfl, ⟨db', dc', wb', wc', bb', bc', cuts', left', whole', mask', L', LC', rfl, hP2, hr2⟩, hb2⟩; have HX2 := Lib.hid (HX1.out.below hb2 hhw); have HP2 := Lib.hid hP2; have HR2 := Lib.hid hr2; have HB2 := Lib.hid hb2; clear hP2 hr2 hb2)
    | ((with_reducible refine pick none ?_); refine wpList_store_blk rfl 33 _ _ rfl (w.heap.size + 1 + 1) (rc n z db' dc' wb' wc' bb' bc' (!(R.setCut nn kk mm).on) (R.setCut nn kk mm).offs (R.setCut nn kk mm).acts cuts' left' whole' mask') rfl rfl 33 zeroRef HX2.out.res info_ref rfl (rc_one _ _ _ _ _ _ _ _ _ _ _ _ _ _ _) ?_; intro w3 hb3 hg3))
  refine bodyPost_ret (v := .tuple #[.bool true, .agg (rc n z db' dc' wb' wc' bb' bc' (!(R.setCut nn kk mm).on) (R.setCut nn kk mm).offs (R.setCut nn kk mm).acts cuts' left' whole' mask')]) ?_ rfl ⟨true, _, rfl, fun _ => rfl, (dev_chg (dev_below HD1.out HB2.out) hg3 (fun k h1 h2 e => by omega)), (Ref.of rfl (RefP.other HP2.out HX2.out.res hg3) HR2.out), HX2.out.done hg3⟩
  exact results_tmp_row (fn := Tryz.f11) rfl _ _ (w.heap.size + 1 + 1) 33 _ (0, 0) _ rfl hb3 Tryz.underlying33 rfl info_ref
set_option maxRecDepth 100000 in
set_option maxHeartbeats 1000000 in
theorem do_spoil (w : World) (v : Value) (hD : Dev w lo hi d n z K D) (hR : Ref w rl n z K R v) (hh : hi ≤ rl) (hl : rl ≤ w.heap.size) (hK : K + 3 ≤ 1000000) (se off : Int) (B : Option Addr) (bl bq : Nat) (nn kk mm : Int) (kd : Int) (hkd : kd < 0 ∨ 5 < kd) :
    Calls Tryz.prog 11 #[.pointer (some ⟨d, 0, none⟩), v, .agg #[.int .i64 kd, .int .i64 se, .int .i64 off, .slice B bl bq, .int .i64 nn, .int .i64 kk, .int .u8 mm]] w (DoPost w lo hi d rl n z (K + 1) (D.spoil n se) (R.spoil n se) True) := by
  obtain ⟨db, dc, wb, wc, bb, bc, cuts, left, whole, mask, L, LC, rfl, hP, hr⟩ := hR
  have HP := Lib.hid hP
  have HR := Lib.hid hr
  have HX := Lib.hid (DX.of w lo hi (rc n z db dc wb wc bb bc (!R.on) R.offs R.acts cuts left whole mask) #[.int .i64 kd, .int .i64 se, .int .i64 off, .slice B bl bq, .int .i64 nn, .int .i64 kk, .int .u8 mm])
  have HD := Lib.hid (dev_below hD (three_below w (.cells (rc n z db dc wb wc bb bc (!R.on) R.offs R.acts cuts left whole mask) 33) (.cells #[.int .i64 kd, .int .i64 se, .int .i64 off, .slice B bl bq, .int .i64 nn, .int .i64 kk, .int .u8 mm] 43) (.cells zeroRef 33)))
  clear hP hr hD
  have hhw : hi ≤ w.heap.size := by omega
  unfold refVal
  have e0 : (kd == 0) = false := beq_eq_false_iff_ne.2 (by omega)
  have e1 : (kd == 1) = false := beq_eq_false_iff_ne.2 (by omega)
  have e2 : (kd == 2) = false := beq_eq_false_iff_ne.2 (by omega)
  have e3 : (kd == 3) = false := beq_eq_false_iff_ne.2 (by omega)
  have e4 : (kd == 4) = false := beq_eq_false_iff_ne.2 (by omega)
  have e5 : (kd == 5) = false := beq_eq_false_iff_ne.2 (by omega)
  go_enter Tryz.func11, Tryz.ntmps11
  go_upto_region 1 with (fail)
  change Code.wp _ _ _ _ (((w.alloc (.cells (rc n z db dc wb wc bb bc (!R.on) R.offs R.acts cuts left whole mask) 33)).alloc (.cells #[.int .i64 kd, .int .i64 se, .int .i64 off, .slice B bl bq, .int .i64 nn, .int .i64 kk, .int .u8 mm] 43)).alloc (.cells zeroRef 33))
  generalize ((w.alloc (.cells (rc n z db dc wb wc bb bc (!R.on) R.offs R.acts cuts left whole mask) 33)).alloc (.cells #[.int .i64 kd, .int .i64 se, .int .i64 off, .slice B bl bq, .int .i64 nn, .int .i64 kk, .int .u8 mm] 43)).alloc (.cells zeroRef 33) = W at *
  have o0 : W.cell? ⟨w.heap.size + 1, 0, none⟩ = some (.int .i64 kd) := HX.out.op.cell 0
  have o1 : W.cell? ⟨w.heap.size + 1, 1, none⟩ = some (.int .i64 se) := HX.out.op.cell 1
  have o2 : W.cell? ⟨w.heap.size + 1, 2, none⟩ = some (.int .i64 off) := HX.out.op.cell 2
  go_wp2_with (first
    | (go_at_call 7; refine (of_num _ _ _).mono ?_; rintro e w' ⟨x, y, rfl, hxy, rfl⟩; have HXY := Lib.hid hxy; clear hxy)
    | (go_at_call 40; refine (dev_spoil W HD.out (by omega) se).mono ?_; rintro e w1 ⟨rfl, hD1, hc1⟩; have HX1 := Lib.hid (HX.out.step hc1 hhw); have HD1 := Lib.hid hD1; clear hD1 hc1 o0 o1 o2; have p1 : w1.cell? ⟨w.heap.size + 1, 1, none⟩ = some (.int .i64 se) := HX1.out.op.cell 1)
    | ((with_reducible refine pick (some 168) ?_); refine wpList_load_row rfl _ _ rfl w.heap.size rfl 33 (rc n z db dc wb wc bb bc (!R.on) R.offs R.acts cuts left whole mask) (0, 0) _ HX1.out.box Tryz.underlying33 rfl info_ref ?_)
    | (go_at_call 41; refine (refSpoil_calls w1 (.agg (rc n z db dc wb wc bb bc (!R.on) R.offs R.acts cuts left whole mask)) (Ref.of rfl (refP_chg HP.out HX1.out.chg hh) HR.out) se (by have := HX1.out.lt; omega)).mono ?_; rintro e w2 ⟨v', rfl, ⟨db', dc', wb', wc', bb', bc', cuts', left', whole', mask', L', LC', rfl, hP2, hr2⟩, hb2⟩; have HX2 := Lib.hid (HX1.out.below hb2 hhw); have HP2 := Lib.hid hP2; have HR2 := Lib.hid hr2; have HB2 := Lib.hid hb2; clear hP2 hr2 hb2)
    | ((with_reducible refine pick none ?_); refine wpList_store_blk rfl 33 _ _ rfl (w.heap.size + 1 + 1) (rc n z db' dc' wb' wc' bb' bc' (!(R.spoil n se).on) (R.spoil n se).offs (R.spoil n se).acts cuts' left' whole' mask') rfl rfl 33 zeroRef HX2.out.res info_ref rfl (rc_one _ _ _ _ _ _ _ _ _ _ _ _ _ _ _) ?_; intro w3 hb3 hg3))
  refine bodyPost_ret (v := .tuple #[.bool true, .agg (rc n z db' dc' wb' wc' bb' bc' (!(R.spoil n se).on) (R.spoil n se).offs (R.spoil n se).acts cuts' left' whole' mask')]) ?_ rfl ⟨true, _, rfl, fun _ => rfl, (dev_chg (dev_below HD1.out HB2.out) hg3 (fun k h1 h2 e => by omega)), ((Ref.of rfl (RefP.other HP2.out HX2.out.res hg3) HR2.out).more (by omega) (by omega)), HX2.out.done hg3⟩
  exact results_tmp_row (fn := Tryz.f11) rfl _ _ (w.heap.size + 1 + 1) 33 _ (0, 0) _ rfl hb3 Tryz.underlying33 rfl info_ref
end
end Go.Proofs.YthbafcihmcjchaaGreatDoor.NorDo

/- Do, On and Erase. -/
namespace Go.Proofs.YthbafcihmcjchaaGreatDoor.NorDp
set_option linter.unusedVariables false
set_option linter.unusedSimpArgs false
open Go.RowKit
open Go.Proofs.YthbafcihmcjchaaGreatDoor.Byte Go.Proofs.YthbafcihmcjchaaGreatDoor.NorD Go.Proofs.YthbafcihmcjchaaGreatDoor.NorM Go.Proofs.YthbafcihmcjchaaGreatDoor.NorS Go.Proofs.YthbafcihmcjchaaGreatDoor.NorF Go.Proofs.YthbafcihmcjchaaGreatDoor.NorH Go.Proofs.YthbafcihmcjchaaGreatDoor.NorB Go.Proofs.YthbafcihmcjchaaGreatDoor.NorP Go.Proofs.YthbafcihmcjchaaGreatDoor.NorR Go.Proofs.YthbafcihmcjchaaGreatDoor.NorU Go.Proofs.YthbafcihmcjchaaGreatDoor.NorV Go.Proofs.YthbafcihmcjchaaGreatDoor.NorX Go.Proofs.YthbafcihmcjchaaGreatDoor.NorY Go.Proofs.YthbafcihmcjchaaGreatDoor.NorZ Go.Proofs.YthbafcihmcjchaaGreatDoor.NorI Go.Proofs.YthbafcihmcjchaaGreatDoor.NorJ Go.Proofs.YthbafcihmcjchaaGreatDoor.NorK Go.Proofs.YthbafcihmcjchaaGreatDoor.NorL Go.Proofs.YthbafcihmcjchaaGreatDoor.NorDo Go.Proofs.YthbafcihmcjchaaGreatDoor.PlaceM Go.Proofs.YthbafcihmcjchaaGreatDoor.PlaceV

theorem RefP.up {w : World} {rl n z K : Nat} {s : St} {db wb bb : Nat} {cuts : Bool} {left whole mask : Int} {L LC : Nat → Nat} (h : RefP w rl n z K s db wb bb cuts left whole mask L LC) : RefP w rl n z K s.up db wb bb cuts left whole mask L LC :=
  ⟨h.data, h.wear, h.bad, h.rows, h.cut, h.fits.up, h.geo, h.lw, h.big⟩
theorem DX.core {w W : World} {lo hi : Nat} {c oc : Array Value} (h : DX w W lo hi c oc) (k : Nat) (u : Value) : DX w (W.setCell ⟨w.heap.size, k, none⟩ u) lo hi (c.setIfInBounds k u) oc :=
  ⟨h.box.set_ k u, h.op.far (p := ⟨w.heap.size, k, none⟩) (by show w.heap.size + 1 ≠ w.heap.size; omega) _, h.res.far (p := ⟨w.heap.size, k, none⟩) (by show w.heap.size + 1 + 1 ≠ w.heap.size; omega) _, h.chg.setCell (p := ⟨w.heap.size, k, none⟩) (.inr (Nat.le_refl _)) _⟩
section
variable {lo hi d rl n z K : Nat} {D R : St}
set_option maxRecDepth 100000 in
set_option maxHeartbeats 1000000 in
theorem do_on (w : World) (v : Value) (hD : Dev w lo hi d n z K D) (hR : Ref w rl n z K R v) (hh : hi ≤ rl) (hl : rl ≤ w.heap.size) (hK : K + 3 ≤ 1000000) (se off : Int) (B : Option Addr) (bl bq : Nat) (nn kk mm : Int) :
    Calls Tryz.prog 11 #[.pointer (some ⟨d, 0, none⟩), v, .agg #[.int .i64 5, .int .i64 se, .int .i64 off, .slice B bl bq, .int .i64 nn, .int .i64 kk, .int .u8 mm]] w (DoPost w lo hi d rl n z (K) (D.up) (R.up) True) := by
  obtain ⟨db, dc, wb, wc, bb, bc, cuts, left, whole, mask, L, LC, rfl, hP, hr⟩ := hR
  have HP := Lib.hid hP
  have HR := Lib.hid hr
  have HX := Lib.hid (DX.of w lo hi (rc n z db dc wb wc bb bc (!R.on) R.offs R.acts cuts left whole mask) #[.int .i64 5, .int .i64 se, .int .i64 off, .slice B bl bq, .int .i64 nn, .int .i64 kk, .int .u8 mm])
  have HD := Lib.hid (dev_below hD (three_below w (.cells (rc n z db dc wb wc bb bc (!R.on) R.offs R.acts cuts left whole mask) 33) (.cells #[.int .i64 5, .int .i64 se, .int .i64 off, .slice B bl bq, .int .i64 nn, .int .i64 kk, .int .u8 mm] 43) (.cells zeroRef 33)))
  clear hP hr hD
  have hhw : hi ≤ w.heap.size := by omega
  unfold refVal
  go_enter Tryz.func11, Tryz.ntmps11
  go_upto_region 1 with (fail)
  change Code.wp _ _ _ _ (((w.alloc (.cells (rc n z db dc wb wc bb bc (!R.on) R.offs R.acts cuts left whole mask) 33)).alloc (.cells #[.int .i64 5, .int .i64 se, .int .i64 off, .slice B bl bq, .int .i64 nn, .int .i64 kk, .int .u8 mm] 43)).alloc (.cells zeroRef 33))
  generalize ((w.alloc (.cells (rc n z db dc wb wc bb bc (!R.on) R.offs R.acts cuts left whole mask) 33)).alloc (.cells #[.int .i64 5, .int .i64 se, .int .i64 off, .slice B bl bq, .int .i64 nn, .int .i64 kk, .int .u8 mm] 43)).alloc (.cells zeroRef 33) = W at *
  have o0 : W.cell? ⟨w.heap.size + 1, 0, none⟩ = some (.int .i64 5) := HX.out.op.cell 0
  have o1 : W.cell? ⟨w.heap.size + 1, 1, none⟩ = some (.int .i64 se) := HX.out.op.cell 1
  have o2 : W.cell? ⟨w.heap.size + 1, 2, none⟩ = some (.int .i64 off) := HX.out.op.cell 2
  go_wp2_with (first
    | (go_at_call 7; refine (of_num _ _ _).mono ?_; rintro e w' ⟨x, y, rfl, hxy, rfl⟩; have HXY := Lib.hid hxy; clear hxy)
    | (go_at_call 39; refine (dev_on W HD.out).mono ?_; rintro e w1 ⟨rfl, hD1, hc1⟩; have HX1 := Lib.hid (HX.out.step hc1 hhw); have HD1 := Lib.hid hD1; clear hD1 hc1 o0 o1 o2; have t5 : w1.cell? ⟨w.heap.size, 5, none⟩ = some (.bool (!R.on)) := HX1.out.box.cell 5; have f5 := HX1.out.box.frozen 5; have l5 := HX1.out.box.lt))
  have HX2 : Hid (DX w (w1.setCell ⟨w.heap.size, 5, none⟩ (.bool false)) lo hi (rc n z db dc wb wc bb bc false R.offs R.acts cuts left whole mask) #[.int .i64 5, .int .i64 se, .int .i64 off, .slice B bl bq, .int .i64 nn, .int .i64 kk, .int .u8 mm]) := Lib.hid (DX.core HX1.out 5 (.bool false))
  have HD2 := Lib.hid (dev_chg HD1.out ((Chg.refl (fun q => q = w.heap.size) w1).own 5 (.bool false)) (fun k h1 h2 e => by omega))
  clear t5 f5 l5
  generalize w1.setCell ⟨w.heap.size, 5, none⟩ (.bool false) = W3 at *
  obtain ⟨t0, t1, t2, t3, t4, t5, t6, t7, t8, t9, t10, t11⟩ := twelve HX2.out.box
  go_still_tail 2, (by kernel_rfl)
  change wpList _ _ _ _ _ W3.drew
  clear t0 t1 t2 t3 t4 t5 t6 t7 t8 t9 t10 t11
  go_wp2_with ((with_reducible refine pick none ?_); refine wpList_store_blk rfl 33 _ _ rfl (w.heap.size + 1 + 1) (rc n z db dc wb wc bb bc false R.offs R.acts cuts left whole mask) rfl rfl 33 zeroRef HX2.out.drew.res info_ref rfl (rc_one _ _ _ _ _ _ _ _ _ _ _ _ _ _ _) ?_; intro w3 hb3 hg3)
  refine bodyPost_ret (v := .tuple #[.bool true, .agg (rc n z db dc wb wc bb bc false R.offs R.acts cuts left whole mask)]) ?_ rfl ⟨true, _, rfl, fun _ => rfl, dev_chg (dev_below HD2.out ((Below.refl _ W3).drew)) hg3 (fun k h1 h2 e => by omega), Ref.of (s := R.up) rfl (RefP.up (RefP.other (refP_chg HP.out HX2.out.drew.chg hh) HX2.out.drew.res hg3)) HR.out, HX2.out.drew.done hg3⟩
  exact results_tmp_row (fn := Tryz.f11) rfl _ _ (w.heap.size + 1 + 1) 33 _ (0, 0) _ rfl hb3 Tryz.underlying33 rfl info_ref
end
end Go.Proofs.YthbafcihmcjchaaGreatDoor.NorDp

/- Do, Erase. -/
namespace Go.Proofs.YthbafcihmcjchaaGreatDoor.NorDq
set_option linter.unusedVariables false
set_option linter.unusedSimpArgs false
open Go.RowKit
open Go.Proofs.YthbafcihmcjchaaGreatDoor.Byte Go.Proofs.YthbafcihmcjchaaGreatDoor.NorD Go.Proofs.YthbafcihmcjchaaGreatDoor.NorM Go.Proofs.YthbafcihmcjchaaGreatDoor.NorS Go.Proofs.YthbafcihmcjchaaGreatDoor.NorF Go.Proofs.YthbafcihmcjchaaGreatDoor.NorH Go.Proofs.YthbafcihmcjchaaGreatDoor.NorB Go.Proofs.YthbafcihmcjchaaGreatDoor.NorP Go.Proofs.YthbafcihmcjchaaGreatDoor.NorR Go.Proofs.YthbafcihmcjchaaGreatDoor.NorU Go.Proofs.YthbafcihmcjchaaGreatDoor.NorV Go.Proofs.YthbafcihmcjchaaGreatDoor.NorX Go.Proofs.YthbafcihmcjchaaGreatDoor.NorY Go.Proofs.YthbafcihmcjchaaGreatDoor.NorZ Go.Proofs.YthbafcihmcjchaaGreatDoor.NorI Go.Proofs.YthbafcihmcjchaaGreatDoor.NorJ Go.Proofs.YthbafcihmcjchaaGreatDoor.NorK Go.Proofs.YthbafcihmcjchaaGreatDoor.NorL Go.Proofs.YthbafcihmcjchaaGreatDoor.NorDo Go.Proofs.YthbafcihmcjchaaGreatDoor.NorDp Go.Proofs.YthbafcihmcjchaaGreatDoor.PlaceM Go.Proofs.YthbafcihmcjchaaGreatDoor.PlaceV

section
variable {lo hi d rl n z K : Nat} {D R : St}
set_option maxRecDepth 100000 in
set_option maxHeartbeats 1000000 in
theorem do_erase (w : World) (v : Value) (hD : Dev w lo hi d n z K D) (hR : Ref w rl n z K R v) (hh : hi ≤ rl) (hl : rl ≤ w.heap.size) (hK : K + 3 ≤ 1000000) (se off : Int) (B : Option Addr) (bl bq : Nat) (nn kk mm : Int) :
    Calls Tryz.prog 11 #[.pointer (some ⟨d, 0, none⟩), v, .agg #[.int .i64 1, .int .i64 se, .int .i64 off, .slice B bl bq, .int .i64 nn, .int .i64 kk, .int .u8 mm]] w (DoPost w lo hi d rl n z (K + 2) ((D.erase n z se).2) ((R.erase n z se).2) (D = R)) := by
  obtain ⟨db, dc, wb, wc, bb, bc, cuts, left, whole, mask, L, LC, rfl, hP, hr⟩ := hR
  have HP := Lib.hid hP
  have HR := Lib.hid hr
  have HX := Lib.hid (DX.of w lo hi (rc n z db dc wb wc bb bc (!R.on) R.offs R.acts cuts left whole mask) #[.int .i64 1, .int .i64 se, .int .i64 off, .slice B bl bq, .int .i64 nn, .int .i64 kk, .int .u8 mm])
  have HD := Lib.hid (dev_below hD (three_below w (.cells (rc n z db dc wb wc bb bc (!R.on) R.offs R.acts cuts left whole mask) 33) (.cells #[.int .i64 1, .int .i64 se, .int .i64 off, .slice B bl bq, .int .i64 nn, .int .i64 kk, .int .u8 mm] 43) (.cells zeroRef 33)))
  clear hP hr hD
  have hhw : hi ≤ w.heap.size := by omega
  unfold refVal
  go_enter Tryz.func11, Tryz.ntmps11
  go_upto_region 1 with (fail)
  change Code.wp _ _ _ _ (((w.alloc (.cells (rc n z db dc wb wc bb bc (!R.on) R.offs R.acts cuts left whole mask) 33)).alloc (.cells #[.int .i64 1, .int .i64 se, .int .i64 off, .slice B bl bq, .int .i64 nn, .int .i64 kk, .int .u8 mm] 43)).alloc (.cells zeroRef 33))
  generalize ((w.alloc (.cells (rc n z db dc wb wc bb bc (!R.on) R.offs R.acts cuts left whole mask) 33)).alloc (.cells #[.int .i64 1, .int .i64 se, .int .i64 off, .slice B bl bq, .int .i64 nn, .int .i64 kk, .int .u8 mm] 43)).alloc (.cells zeroRef 33) = W at *
  have o0 : W.cell? ⟨w.heap.size + 1, 0, none⟩ = some (.int .i64 1) := HX.out.op.cell 0
  have o1 : W.cell? ⟨w.heap.size + 1, 1, none⟩ = some (.int .i64 se) := HX.out.op.cell 1
  have o2 : W.cell? ⟨w.heap.size + 1, 2, none⟩ = some (.int .i64 off) := HX.out.op.cell 2
  go_wp2_with (first
    | (go_at_call 7; refine (of_num _ _ _).mono ?_; rintro e w' ⟨x, y, rfl, hxy, rfl⟩; have HXY := Lib.hid hxy; clear hxy)
    | ((with_reducible refine pick (some 59) ?_); refine wpList_load_row rfl _ _ rfl w.heap.size rfl 33 (rc n z db dc wb wc bb bc (!R.on) R.offs R.acts cuts left whole mask) (0, 0) _ HX.out.box Tryz.underlying33 rfl info_ref ?_)
    | (go_at_call 32; refine (refErase_calls W (.agg (rc n z db dc wb wc bb bc (!R.on) R.offs R.acts cuts left whole mask)) (Ref.of rfl (refP_chg HP.out HX.out.chg hh) HR.out) se (by have := HX.out.lt; omega) hK).mono ?_; rintro e w2 ⟨v', rfl, ⟨db', dc', wb', wc', bb', bc', cuts', left', whole', mask', L', LC', rfl, hP2, hr2⟩, hb2⟩; have HX2 := Lib.hid (HX.out.below hb2 hhw); have HP2 := Lib.hid hP2; have HR2 := Lib.hid hr2; have HD2 := Lib.hid (dev_below HD.out hb2); clear hP2 hr2 hb2 o0 o1 o2; unfold refVal))
  change Code.wp _ _ _ _ (w2.alloc (.cells (rc n z db' dc' wb' wc' bb' bc' (!(R.erase n z se).2.on) (R.erase n z se).2.offs (R.erase n z se).2.acts cuts' left' whole' mask') 33))
  have hb3 : Below w2.heap.size w2 (w2.alloc (.cells (rc n z db' dc' wb' wc' bb' bc' (!(R.erase n z se).2.on) (R.erase n z se).2.offs (R.erase n z se).2.acts cuts' left' whole' mask') 33)) := (Below.refl _ _).alloc (Nat.le_refl _) _
  have HX3 := Lib.hid (HX2.out.below hb3 hhw)
  have HD3 := Lib.hid (dev_below HD2.out hb3)
  have HP3 := Lib.hid (HP2.out.below hb3)
  have HT3 := Lib.hid (Blk.new w2 33 (rc n z db' dc' wb' wc' bb' bc' (!(R.erase n z se).2.on) (R.erase n z se).2.offs (R.erase n z se).2.acts cuts' left' whole' mask'))
  have hgg : w.heap.size + 1 + 1 < w2.heap.size := HX2.out.lt
  clear hb3
  generalize w2.alloc (.cells (rc n z db' dc' wb' wc' bb' bc' (!(R.erase n z se).2.on) (R.erase n z se).2.offs (R.erase n z se).2.acts cuts' left' whole' mask') 33) = W4 at *
  have o1 : W4.cell? ⟨w.heap.size + 1, 1, none⟩ = some (.int .i64 se) := HX3.out.op.cell 1
  obtain ⟨t0, t1, t2, t3, t4, t5, t6, t7, t8, t9, t10, t11⟩ := twelve HT3.out
  go_region_law (go_simp; go_at_call 33; refine (eraseAt_calls W4.drew (dev_below HD3.out ((Below.refl _ W4).drew)) (by omega) se).mono ?_; rintro e w4 ⟨rfl, hD4, hc4⟩; have HD4 := Lib.hid hD4; have HX4 := Lib.hid (HX3.out.drew.step hc4 hhw); have HP4 := Lib.hid (refP_chg (lo := lo) (hi := hi) HP3.out ((Chg.refl _ W4).drew.trans hc4) hh); have hT4 : Blk w4 w2.heap.size 33 (rc n z db' dc' wb' wc' bb' bc' (!(R.erase n z se).2.on) (R.erase n z se).2.offs (R.erase n z se).2.acts cuts' left' whole' mask') := (show Blk W4.drew _ _ _ from HT3.out).chg hc4 (by omega); clear hD4 hc4 t0 t1 t2 t3 t4 t5 t6 t7 t8 t9 t10 t11 o1; obtain ⟨t0, t1, t2, t3, t4, t5, t6, t7, t8, t9, t10, t11⟩ := twelve hT4; obtain ⟨z0, z1, z2, z3, z4, z5, z6, z7, z8, z9, z10, z11, f0, f1, f2, f3, f4, f5, f6, f7, f8, f9, f10, f11⟩ := twelveZ HX4.out.res; try dsimp only)
  all_goals
    have hp6 := fun c0 c1 c2 c3 c4 c5 c6 c7 c8 c9 c10 c11 => stored12 HX4.out.res c0 c1 c2 c3 c4 c5 c6 c7 c8 c9 c10 c11
    have HS6 := Lib.hid hp6
    clear hp6 z0 z1 z2 z3 z4 z5 z6 z7 z8 z9 z10 z11 f0 f1 f2 f3 f4 f5 f6 f7 f8 f9 f10 f11
    go_wp2_with fail
  all_goals
    refine bodyPost_ret (v := .tuple #[.bool ((D.erase n z se).1 == (R.erase n z se).1), .agg (rc n z db' dc' wb' wc' bb' bc' (!(R.erase n z se).2.on) (R.erase n z se).2.offs (R.erase n z se).2.acts cuts' left' whole' mask')]) ?_ rfl ⟨_, _, rfl, fun h => by rw [h]; exact beq_self_eq_true _, dev_chg HD4.out (HS6.out _ _ _ _ _ _ _ _ _ _ _ _).2 (fun k h1 h2 e => by omega), Ref.of rfl (RefP.other HP4.out HX4.out.res (HS6.out _ _ _ _ _ _ _ _ _ _ _ _).2) HR2.out, HX4.out.done (HS6.out _ _ _ _ _ _ _ _ _ _ _ _).2⟩
    exact results_tmp_row (fn := Tryz.f11) rfl _ _ (w.heap.size + 1 + 1) 33 _ (0, 0) _ rfl (HS6.out _ _ _ _ _ _ _ _ _ _ _ _).1 Tryz.underlying33 rfl info_ref
end
end Go.Proofs.YthbafcihmcjchaaGreatDoor.NorDq

/- Do, Program; a region that draws its order, read one operation at a time behind a word that nothing unfolds. -/
namespace Go.Proofs.YthbafcihmcjchaaGreatDoor.NorDr
set_option linter.unusedVariables false
set_option linter.unusedSimpArgs false
open Go.RowKit
open Go.Proofs.YthbafcihmcjchaaGreatDoor.Byte Go.Proofs.YthbafcihmcjchaaGreatDoor.NorD Go.Proofs.YthbafcihmcjchaaGreatDoor.NorM Go.Proofs.YthbafcihmcjchaaGreatDoor.NorS Go.Proofs.YthbafcihmcjchaaGreatDoor.NorF Go.Proofs.YthbafcihmcjchaaGreatDoor.NorH Go.Proofs.YthbafcihmcjchaaGreatDoor.NorB Go.Proofs.YthbafcihmcjchaaGreatDoor.NorP Go.Proofs.YthbafcihmcjchaaGreatDoor.NorR Go.Proofs.YthbafcihmcjchaaGreatDoor.NorU Go.Proofs.YthbafcihmcjchaaGreatDoor.NorV Go.Proofs.YthbafcihmcjchaaGreatDoor.NorX Go.Proofs.YthbafcihmcjchaaGreatDoor.NorY Go.Proofs.YthbafcihmcjchaaGreatDoor.NorZ Go.Proofs.YthbafcihmcjchaaGreatDoor.NorI Go.Proofs.YthbafcihmcjchaaGreatDoor.NorJ Go.Proofs.YthbafcihmcjchaaGreatDoor.NorK Go.Proofs.YthbafcihmcjchaaGreatDoor.NorL Go.Proofs.YthbafcihmcjchaaGreatDoor.NorDo Go.Proofs.YthbafcihmcjchaaGreatDoor.NorDp Go.Proofs.YthbafcihmcjchaaGreatDoor.PlaceM Go.Proofs.YthbafcihmcjchaaGreatDoor.PlaceV

section
variable {P : Program} {ops : Array Oper} {w : World} {Q : Act → Prop} {a : Act} {o : Oper} {rest : List Oper}
/-- What is left of a region's operations ahead of its store, as a word that nothing unfolds. -/
structure WLeft (P : Program) (ops : Array Oper) (w : World) (Q : Act → Prop) (l : List Oper) (a : Act) : Prop where
  out : wpStill P ops w Q l a
theorem still_skip (hw : Region.wanted o (yielded ops a.tmps) = false) (h : WLeft P ops w Q rest (a.put o.dst undef)) : WLeft P ops w Q (o :: rest) a :=
  ⟨wpStill_step fun K hK => by rw [if_neg (by rw [hw]; exact Bool.false_ne_true)]; exact hK _ h.out⟩
/-- A step whose run is known. -/
theorem still_val (v : Value) (hw : Region.wanted o (yielded ops a.tmps) = true) (hr : (execOp a.eval o).run P w = .ok (.value v) w) (h : WLeft P ops w Q rest (a.put o.dst v)) : WLeft P ops w Q (o :: rest) a :=
  ⟨wpStill_step fun K hK => by
    rw [if_pos hw]
    unfold Oper.still
    rw [hr, Oper.stillUpon_value]
    exact hK _ h.out⟩
theorem still_end (h : Q a) : WLeft P ops w Q [] a := ⟨wpStill_nil h⟩
theorem still_conv {s t : TypeId} {x : Operand} {u v : Value} (ho : o.op = .convert s t x) (hx : a.eval x = u) (hr : (convert s t u).run P w = .ok v w) : (execOp a.eval o).run P w = .ok (.value v) w := by
  unfold execOp
  rw [ho]
  simp only [hx, Sem.run_bind, hr, Result.andThen_ok, Sem.run_pure]
theorem still_load {t : TypeId} {x : Operand} (u : Value) {v : Value} (ho : o.op = .load t x) (hx : a.eval x = u) (hr : (Instr.loadAt t u).run P w = .ok v w) : (execOp a.eval o).run P w = .ok (.value v) w := by
  unfold execOp
  rw [ho]
  simp only [hx, Sem.run_bind, hr, Result.andThen_ok, Sem.run_pure]
theorem still_bin {op : BinOp} {t t' : TypeId} {x y : Operand} (u u' : Value) {v : Value} (ho : o.op = .binOp op t x y t') (hx : a.eval x = u) (hy : a.eval y = u') (hg : (eqGuard op t x y u u').run P w = .ok () w) (hr : (binOp op t u u').run P w = .ok v w) : (execOp a.eval o).run P w = .ok (.value v) w := by
  unfold execOp
  rw [ho]
  simp only [hx, hy, Sem.run_bind, hg, hr, Result.andThen_ok, Sem.run_pure]
theorem load_blk {t : TypeId} {g : Nat} {cs : Array Value} {d : TypeDesc} (h : Blk w g t cs) (hu : P.underlying t = some d) (hd : d.isRow = true) (hi : (P.info? t).map (·.size) = some cs.size) : (Instr.loadAt t (.pointer (some ⟨g, 0, none⟩))).run P w = .ok (.agg cs) w := by
  have := run_loadAt_mid (P := P) w g 0 t cs.toList d (fun j v hv => by rw [Nat.zero_add, h.cell]; simpa using hv) hu hd (by simpa using hi)
  simpa using this
end
/-- Bytes outside what was changed; no bytes wherever they are. -/
theorem bs_chg {S : Nat → Prop} {w w' : World} {A : Option Addr} {n : Nat} {xs : List Int} (h : Bs w A n xs) (k : Chg S w w') (hA : 0 < n → ∀ b o, A = some ⟨b, o, none⟩ → ¬ S b) : Bs w' A n xs := by
  rcases Nat.eq_zero_or_pos n with h0 | h0
  · subst h0
    exact ⟨h.1, h.2.1, fun k hk => absurd hk (by omega)⟩
  · exact h.chg k (hA h0)
section
variable {lo hi d rl n z K : Nat} {D R : St}
set_option maxRecDepth 100000 in
set_option maxHeartbeats 1000000 in
theorem do_program (w : World) (v : Value) (hD : Dev w lo hi d n z K D) (hR : Ref w rl n z K R v) (hh : hi ≤ rl) (hl : rl ≤ w.heap.size) (hK : K + 3 ≤ 1000000) (se off : Int) (B : Option Addr) (bl bq : Nat) (nn kk mm : Int) (bs : List Int) (hB : Bs w B bl bs) (hBA : B = none → bq = 0) (hbl : bl ≤ 100000) (hBlo : 0 < bl → ∀ b o, B = some ⟨b, o, none⟩ → b < lo) :
    Calls Tryz.prog 11 #[.pointer (some ⟨d, 0, none⟩), v, .agg #[.int .i64 0, .int .i64 se, .int .i64 off, .slice B bl bq, .int .i64 nn, .int .i64 kk, .int .u8 mm]] w (DoPost w lo hi d rl n z (K + 1) ((D.program n z (pl se off).1 (pl se off).2 bs).2) ((R.program n z (pl se off).1 (pl se off).2 bs).2) (D = R)) := by
  obtain ⟨db, dc, wb, wc, bb, bc, cuts, left, whole, mask, L, LC, rfl, hP, hr⟩ := hR
  have HP := Lib.hid hP
  have HR := Lib.hid hr
  have HX := Lib.hid (DX.of w lo hi (rc n z db dc wb wc bb bc (!R.on) R.offs R.acts cuts left whole mask) #[.int .i64 0, .int .i64 se, .int .i64 off, .slice B bl bq, .int .i64 nn, .int .i64 kk, .int .u8 mm])
  have HD := Lib.hid (dev_below hD (three_below w (.cells (rc n z db dc wb wc bb bc (!R.on) R.offs R.acts cuts left whole mask) 33) (.cells #[.int .i64 0, .int .i64 se, .int .i64 off, .slice B bl bq, .int .i64 nn, .int .i64 kk, .int .u8 mm] 43) (.cells zeroRef 33)))
  clear hP hr hD
  have hhw : hi ≤ w.heap.size := by omega
  unfold refVal
  have HB := Lib.hid hB
  have HBW := Lib.hid (hB.below (three_below w (.cells (rc n z db dc wb wc bb bc (!R.on) R.offs R.acts cuts left whole mask) 33) (.cells #[.int .i64 0, .int .i64 se, .int .i64 off, .slice B bl bq, .int .i64 nn, .int .i64 kk, .int .u8 mm] 43) (.cells zeroRef 33)))
  clear hB
  go_enter Tryz.func11, Tryz.ntmps11
  go_upto_region 1 with (fail)
  change Code.wp _ _ _ _ (((w.alloc (.cells (rc n z db dc wb wc bb bc (!R.on) R.offs R.acts cuts left whole mask) 33)).alloc (.cells #[.int .i64 0, .int .i64 se, .int .i64 off, .slice B bl bq, .int .i64 nn, .int .i64 kk, .int .u8 mm] 43)).alloc (.cells zeroRef 33))
  generalize ((w.alloc (.cells (rc n z db dc wb wc bb bc (!R.on) R.offs R.acts cuts left whole mask) 33)).alloc (.cells #[.int .i64 0, .int .i64 se, .int .i64 off, .slice B bl bq, .int .i64 nn, .int .i64 kk, .int .u8 mm] 43)).alloc (.cells zeroRef 33) = W at *
  have o0 : W.cell? ⟨w.heap.size + 1, 0, none⟩ = some (.int .i64 0) := HX.out.op.cell 0
  have o1 : W.cell? ⟨w.heap.size + 1, 1, none⟩ = some (.int .i64 se) := HX.out.op.cell 1
  have o2 : W.cell? ⟨w.heap.size + 1, 2, none⟩ = some (.int .i64 off) := HX.out.op.cell 2
  have o3 : W.cell? ⟨w.heap.size + 1, 3, none⟩ = some (.slice B bl bq) := HX.out.op.cell 3
  have lo3 : w.heap.size + 1 < W.heap.size := by have := HX.out.lt; omega
  go_wp2_with (first
    | (go_at_call 7; refine (of_num _ _ _).mono ?_; rintro e w' ⟨x, y, rfl, hxy, rfl⟩; have HXY := Lib.hid hxy; clear hxy)
    | ((with_reducible refine pick (some 31) ?_); refine wpList_append_bytes rfl _ _ _ rfl W.heap.size 5 Tryz.underlying38 Go.Proofs.YthbafcihmcjchaaGreatDoor.NorR.info_u8 W.heap.size 0 0 [] rfl (Ob.new_ W _ (Nat.le_refl _)) B bl bq bs rfl (HBW.out.below ((Below.refl _ _).alloc (Nat.le_refl _) _)) hBA bl (by omega) bs rfl (by omega) (by simp) ?_; intro g1 cap1 w1 ho1 hg1 hat1; have hb1 : Below W.heap.size W w1 := ((Below.refl _ _).alloc (Nat.le_refl _) _).grown hg1 (by simp) (by intro k hk; injection hk with hk; omega); have HX1 := Lib.hid (HX.out.below hb1 hhw); have HD1 := Lib.hid (dev_below HD.out hb1); have HO1 := Lib.hid ho1; have hgp := ho1.place; have hWl := HX.out.lt; clear ho1 hg1 hat1 hb1 o0 o1 o2 o3)
    | (go_at_call 6; refine (program_calls w1 HD1.out (by omega) x y (some ⟨g1, 0, none⟩) bl cap1 (pl se off).1 (pl se off).2 bs HO1.out.bs (fun b o e => .inr (by injection e with e; injection e with e; omega)) (by omega) HXY.out.1 HXY.out.2.1 HXY.out.2.2.1 HXY.out.2.2.2).mono ?_; rintro e w2 ⟨rfl, hD2, hc2⟩; have HX2 := Lib.hid (HX1.out.step hc2 hhw); have HD2 := Lib.hid hD2; have HO2 := Lib.hid (HO1.out.chg hc2 (by omega)); have HB2 := Lib.hid (bs_chg HB.out HX2.out.chg (fun hp b o e => by have := hBlo hp b o e; omega)); have p3 : w2.cell? ⟨w.heap.size + 1, 3, none⟩ = some (.slice B bl bq) := HX2.out.op.cell 3; clear hD2 hc2)
    | ((with_reducible refine pick (some 37) ?_); refine wpList_load_row rfl _ _ rfl w.heap.size rfl 33 (rc n z db dc wb wc bb bc (!R.on) R.offs R.acts cuts left whole mask) (0, 0) _ HX2.out.box Tryz.underlying33 rfl info_ref ?_)
    | (go_at_call 9; refine (refProgram_calls w2 (.agg (rc n z db dc wb wc bb bc (!R.on) R.offs R.acts cuts left whole mask)) (Ref.of rfl (refP_chg HP.out HX2.out.chg hh) HR.out) x y B bl bq (pl se off).1 (pl se off).2 bs HB2.out (by have := HX2.out.lt; omega) (by omega) (by omega) HXY.out.1 HXY.out.2.1 HXY.out.2.2.1 HXY.out.2.2.2).mono ?_; rintro e w3 ⟨v', rfl, ⟨db', dc', wb', wc', bb', bc', cuts', left', whole', mask', L', LC', rfl, hP3, hr3⟩, hb3⟩; have HX3 := Lib.hid (HX2.out.below hb3 hhw); have HP3 := Lib.hid hP3; have HR3 := Lib.hid hr3; have HD3 := Lib.hid (dev_below HD2.out hb3); have HO3 := Lib.hid (HO2.out.below hb3); have HB3 := Lib.hid (HB2.out.below hb3); clear hP3 hr3 hb3 p3; unfold refVal))
  change Code.wp _ _ _ _ (w3.alloc (.cells (rc n z db' dc' wb' wc' bb' bc' (!(R.program n z (pl se off).1 (pl se off).2 bs).2.on) (R.program n z (pl se off).1 (pl se off).2 bs).2.offs (R.program n z (pl se off).1 (pl se off).2 bs).2.acts cuts' left' whole' mask') 33))
  have hb4 : Below w3.heap.size w3 (w3.alloc (.cells (rc n z db' dc' wb' wc' bb' bc' (!(R.program n z (pl se off).1 (pl se off).2 bs).2.on) (R.program n z (pl se off).1 (pl se off).2 bs).2.offs (R.program n z (pl se off).1 (pl se off).2 bs).2.acts cuts' left' whole' mask') 33)) := (Below.refl _ _).alloc (Nat.le_refl _) _
  have HX4 := Lib.hid (HX3.out.below hb4 hhw)
  have HD4 := Lib.hid (dev_below HD3.out hb4)
  have HP4 := Lib.hid (HP3.out.below hb4)
  have HO4 := HO3.out.below hb4
  have HB4 := HB3.out.below hb4
  have HT4 := Lib.hid (Blk.new w3 33 (rc n z db' dc' wb' wc' bb' bc' (!(R.program n z (pl se off).1 (pl se off).2 bs).2.on) (R.program n z (pl se off).1 (pl se off).2 bs).2.offs (R.program n z (pl se off).1 (pl se off).2 bs).2.acts cuts' left' whole' mask'))
  clear hb4
  generalize w3.alloc (.cells (rc n z db' dc' wb' wc' bb' bc' (!(R.program n z (pl se off).1 (pl se off).2 bs).2.on) (R.program n z (pl se off).1 (pl se off).2 bs).2.offs (R.program n z (pl se off).1 (pl se off).2 bs).2.acts cuts' left' whole' mask') 33) = W4 at *
  have o3 : W4.cell? ⟨w.heap.size + 1, 3, none⟩ = some (.slice B bl bq) := HX4.out.op.cell 3
  obtain ⟨t0, t1, t2, t3, t4, t5, t6, t7, t8, t9, t10, t11⟩ := twelve HT4.out
  have hs1 := HO4.str_ (P := Tryz.prog) 38 9 Tryz.underlying38 Tryz.underlying5 Tryz.underlying9
  have hs2 := HB4.str_ (P := Tryz.prog) (c := bq) 38 9 Tryz.underlying38 Tryz.underlying5 Tryz.underlying9
  have HOO := Lib.hid HO4
  have HBB := Lib.hid HB4
  obtain ⟨tt, htt⟩ : ∃ tt, str bs = tt := ⟨_, rfl⟩
  clear hs1 hs2 o3 t0 t1 t2 t3 t4 t5 t6 t7 t8 t9 t10 t11
  have HX5 := Lib.hid HX4.out.drew
  have HD5 := Lib.hid (dev_below HD4.out ((Below.refl _ W4).drew))
  have HP5 := Lib.hid (HP4.out.below ((Below.refl _ W4).drew))
  have HT5 := Lib.hid (HT4.out.chg (Chg.drew (Chg.refl (fun _ => False) W4)) (fun h => h))
  have HO5 := HOO.out.below ((Below.refl _ W4).drew)
  have HB5 := HBB.out.below ((Below.refl _ W4).drew)
  have hs1 := HO5.str_ (P := Tryz.prog) 38 9 Tryz.underlying38 Tryz.underlying5 Tryz.underlying9
  have hs2 := HB5.str_ (P := Tryz.prog) (c := bq) 38 9 Tryz.underlying38 Tryz.underlying5 Tryz.underlying9
  rw [htt] at hs1 hs2
  clear HO4 HB4 HO5 HB5 HOO HBB HX4 HD4 HP4 HT4 HO3 HB3 HX3 HD3 HP3 HO2 HB2 HX2 HD2 HO1 HX1 HD1
  refine wp_region_still_tail 13 (by kernel_rfl) (by kernel_rfl) ?_
  change wpStill _ _ W4.drew (fun a' => wpList _ _ _ _ a' W4.drew) _ _
  generalize W4.drew = W5 at *
  have o3 : W5.cell? ⟨w.heap.size + 1, 3, none⟩ = some (.slice B bl bq) := HX5.out.op.cell 3
  obtain ⟨t0, t1, t2, t3, t4, t5, t6, t7, t8, t9, t10, t11⟩ := twelve HT5.out
  simp only [List.take_succ_cons, List.take_zero, List.drop_succ_cons, List.drop_zero]
  still_step
  still_step
  have HNE : ∀ (_ : Hid (((D.program n z (pl se off).1 (pl se off).2 bs).1 == (R.program n z (pl se off).1 (pl se off).2 bs).1) = false)), D = R → False := fun h e => by
    have := h.out
    subst e
    simp at this
  rcases Bool.eq_false_or_eq_true ((D.program n z (pl se off).1 (pl se off).2 bs).1 == (R.program n z (pl se off).1 (pl se off).2 bs).1) with hab | hab
  · still_step
    have HAB := Lib.hid hab
    clear hab
    refine WLeft.out ?_
    refine still_val (.bool true) (by kernel_rfl) (by kernel_rfl) ?_
    refine still_val (.slice (some ⟨g1, 0, none⟩) bl cap1) (by kernel_rfl) (by kernel_rfl) ?_
    refine still_val (.string tt) (by kernel_rfl) (still_conv rfl (by kernel_rfl) hs1) ?_
    refine still_val (.pointer (some ⟨w.heap.size + 1, 3, none⟩)) (by kernel_rfl) (by kernel_rfl) ?_
    refine still_val (.slice B bl bq) (by kernel_rfl) (still_load (.pointer (some ⟨w.heap.size + 1, 3, none⟩)) rfl (by kernel_rfl) (by go_simp)) ?_
    refine still_val (.string tt) (by kernel_rfl) (still_conv rfl (by kernel_rfl) hs2) ?_
    refine still_val (.bool true) (by kernel_rfl) (still_bin (.string tt) (.string tt) rfl (by kernel_rfl) (by kernel_rfl) (by go_simp) (by go_simp)) ?_
    refine still_val (.bool true) (by kernel_rfl) (by kernel_rfl) ?_
    refine still_val (.agg (rc n z db' dc' wb' wc' bb' bc' (!(R.program n z (pl se off).1 (pl se off).2 bs).2.on) (R.program n z (pl se off).1 (pl se off).2 bs).2.offs (R.program n z (pl se off).1 (pl se off).2 bs).2.acts cuts' left' whole' mask')) (by kernel_rfl) (still_load (.pointer (some ⟨w3.heap.size, 0, none⟩)) rfl (by kernel_rfl) (load_blk HT5.out Tryz.underlying33 rfl info_ref)) ?_
    refine still_val (.bool true) (by kernel_rfl) (by kernel_rfl) ?_
    refine still_end ?_
    simp only [Act.put, List.setIfInBounds_toArray, List.set_cons_zero, List.set_cons_succ]
    go_wp2_with ((with_reducible refine pick none ?_); refine wpList_store_blk rfl 33 _ _ rfl (w.heap.size + 1 + 1) (rc n z db' dc' wb' wc' bb' bc' (!(R.program n z (pl se off).1 (pl se off).2 bs).2.on) (R.program n z (pl se off).1 (pl se off).2 bs).2.offs (R.program n z (pl se off).1 (pl se off).2 bs).2.acts cuts' left' whole' mask') rfl rfl 33 zeroRef HX5.out.res info_ref rfl (rc_one _ _ _ _ _ _ _ _ _ _ _ _ _ _ _) ?_; intro w6 hb6 hg6)
    refine bodyPost_ret (v := .tuple #[.bool true, .agg (rc n z db' dc' wb' wc' bb' bc' (!(R.program n z (pl se off).1 (pl se off).2 bs).2.on) (R.program n z (pl se off).1 (pl se off).2 bs).2.offs (R.program n z (pl se off).1 (pl se off).2 bs).2.acts cuts' left' whole' mask')]) ?_ rfl ⟨true, _, rfl, fun _ => rfl, dev_chg HD5.out hg6 (fun k h1 h2 e => by omega), Ref.of rfl (RefP.other HP5.out HX5.out.res hg6) HR3.out, HX5.out.done hg6⟩
    exact results_tmp_row (fn := Tryz.f11) rfl _ _ (w.heap.size + 1 + 1) 33 _ (0, 0) _ rfl hb6 Tryz.underlying33 rfl info_ref
  · still_step
    have HAB := Lib.hid hab
    clear hab
    refine WLeft.out ?_
    refine still_val (.bool false) (by kernel_rfl) (by kernel_rfl) ?_
    refine still_skip (by kernel_rfl) ?_
    refine still_skip (by kernel_rfl) ?_
    refine still_skip (by kernel_rfl) ?_
    refine still_skip (by kernel_rfl) ?_
    refine still_skip (by kernel_rfl) ?_
    refine still_skip (by kernel_rfl) ?_
    refine still_val (.bool false) (by kernel_rfl) (by kernel_rfl) ?_
    refine still_val (.agg (rc n z db' dc' wb' wc' bb' bc' (!(R.program n z (pl se off).1 (pl se off).2 bs).2.on) (R.program n z (pl se off).1 (pl se off).2 bs).2.offs (R.program n z (pl se off).1 (pl se off).2 bs).2.acts cuts' left' whole' mask')) (by kernel_rfl) (still_load (.pointer (some ⟨w3.heap.size, 0, none⟩)) rfl (by kernel_rfl) (load_blk HT5.out Tryz.underlying33 rfl info_ref)) ?_
    refine still_val (.bool false) (by kernel_rfl) (by kernel_rfl) ?_
    refine still_end ?_
    simp only [Act.put, List.setIfInBounds_toArray, List.set_cons_zero, List.set_cons_succ]
    go_wp2_with ((with_reducible refine pick none ?_); refine wpList_store_blk rfl 33 _ _ rfl (w.heap.size + 1 + 1) (rc n z db' dc' wb' wc' bb' bc' (!(R.program n z (pl se off).1 (pl se off).2 bs).2.on) (R.program n z (pl se off).1 (pl se off).2 bs).2.offs (R.program n z (pl se off).1 (pl se off).2 bs).2.acts cuts' left' whole' mask') rfl rfl 33 zeroRef HX5.out.res info_ref rfl (rc_one _ _ _ _ _ _ _ _ _ _ _ _ _ _ _) ?_; intro w6 hb6 hg6)
    refine bodyPost_ret (v := .tuple #[.bool false, .agg (rc n z db' dc' wb' wc' bb' bc' (!(R.program n z (pl se off).1 (pl se off).2 bs).2.on) (R.program n z (pl se off).1 (pl se off).2 bs).2.offs (R.program n z (pl se off).1 (pl se off).2 bs).2.acts cuts' left' whole' mask')]) ?_ rfl ⟨false, _, rfl, fun e => (HNE HAB e).elim, dev_chg HD5.out hg6 (fun k h1 h2 e => by omega), Ref.of rfl (RefP.other HP5.out HX5.out.res hg6) HR3.out, HX5.out.done hg6⟩
    exact results_tmp_row (fn := Tryz.f11) rfl _ _ (w.heap.size + 1 + 1) 33 _ (0, 0) _ rfl hb6 Tryz.underlying33 rfl info_ref
end
end Go.Proofs.YthbafcihmcjchaaGreatDoor.NorDr

/- Do, Read. -/
namespace Go.Proofs.YthbafcihmcjchaaGreatDoor.NorDs
set_option linter.unusedVariables false
set_option linter.unusedSimpArgs false
open Go.RowKit
open Go.Proofs.YthbafcihmcjchaaGreatDoor.Byte Go.Proofs.YthbafcihmcjchaaGreatDoor.NorD Go.Proofs.YthbafcihmcjchaaGreatDoor.NorM Go.Proofs.YthbafcihmcjchaaGreatDoor.NorS Go.Proofs.YthbafcihmcjchaaGreatDoor.NorF Go.Proofs.YthbafcihmcjchaaGreatDoor.NorG Go.Proofs.YthbafcihmcjchaaGreatDoor.NorH Go.Proofs.YthbafcihmcjchaaGreatDoor.NorB Go.Proofs.YthbafcihmcjchaaGreatDoor.NorP Go.Proofs.YthbafcihmcjchaaGreatDoor.NorR Go.Proofs.YthbafcihmcjchaaGreatDoor.NorU Go.Proofs.YthbafcihmcjchaaGreatDoor.NorV Go.Proofs.YthbafcihmcjchaaGreatDoor.NorX Go.Proofs.YthbafcihmcjchaaGreatDoor.NorY Go.Proofs.YthbafcihmcjchaaGreatDoor.NorZ Go.Proofs.YthbafcihmcjchaaGreatDoor.NorI Go.Proofs.YthbafcihmcjchaaGreatDoor.NorJ Go.Proofs.YthbafcihmcjchaaGreatDoor.NorK Go.Proofs.YthbafcihmcjchaaGreatDoor.NorL Go.Proofs.YthbafcihmcjchaaGreatDoor.NorDo Go.Proofs.YthbafcihmcjchaaGreatDoor.NorDp Go.Proofs.YthbafcihmcjchaaGreatDoor.NorDr Go.Proofs.YthbafcihmcjchaaGreatDoor.PlaceM Go.Proofs.YthbafcihmcjchaaGreatDoor.PlaceV

section
variable {P : Program} {ops : Array Oper} {w : World} {Q : Act → Prop} {a : Act} {o : Oper} {rest : List Oper}
theorem lit_drew {id : Nat} {Q : Exit → Act → World → Prop} {l : List Oper} (hm : P.follows .mixedOrders = true) (hB : Region.lexB .any l.toArray = true) (h : WLeft P l.toArray w.drew (fun a' => Q .normal a' w.drew) l a) : (Code.region id l.toArray true).wp P Q a w := wp_region_still_lit hm hB h.out
theorem still_ent (v : Value) {f : FuncId} {args : Array Value} (hw : Region.wanted o (yielded ops a.tmps) = true) (hr : (execOp a.eval o).run P w = .ok (.enter f args) w) (hc : Calls P f args w (fun e w'' => e = .returned v ∧ w'' = w)) (h : WLeft P ops w Q rest (a.put o.dst v)) : WLeft P ops w Q (o :: rest) a :=
  ⟨wpStill_step fun K hK => by
    rw [if_pos hw]
    unfold Oper.still
    rw [hr]
    exact ⟨rfl, v, hc, hK _ h.out⟩⟩
theorem still_index {t : TypeId} {x y : Operand} (u u' : Value) {v : Value} (ho : o.op = .indexAddr t x y) (hx : a.eval x = u) (hy : a.eval y = u') (hr : (Instr.indexAt t u u').run P w = .ok v w) : (execOp a.eval o).run P w = .ok (.value v) w := by
  unfold execOp
  rw [ho]
  simp only [hx, hy, Sem.run_bind, hr, Result.andThen_ok, Sem.run_pure]
theorem still_slice {t : TypeId} {x l h : Operand} (u u' u'' : Value) {v : Value} (ho : o.op = .slice t x (some l) (some h) none) (hx : a.eval x = u) (hl : a.eval l = u') (hh : a.eval h = u'') (hr : (Instr.sliceAt t u (some u') (some u'') none).run P w = .ok v w) : (execOp a.eval o).run P w = .ok (.value v) w := by
  unfold execOp
  rw [ho]
  simp only [hx, hl, hh, Sem.run_bind, hr, Result.andThen_ok, Sem.run_pure, Option.map_some, Option.map_none]
/-- clear of no byte. -/
theorem wpList_clear_none {Q : Exit → Act → World → Prop} (hgd : o.guard = none) (s : Operand) (t e : TypeId)
    (ho : o.op = .call { callee := .builtin .clear, args := #[s], argTypes := #[t] }) (ht : P.underlying t = some (.slice e)) (A : Option Addr) (c : Nat) (hs : a.eval s = .slice A 0 c)
    (h : wpList P ops Q rest (a.put o.dst (.tuple #[])) w) : wpList P ops Q (o :: rest) a w := by
  refine wpList_plain hgd fun K hK => ?_
  have hr : (Builtin.clear_ #[t] o.type #[.slice A 0 c]).run P w = .ok (.tuple #[]) w := by
    cases A <;> simp [Builtin.clear_, run_underlying ht]
  unfold Oper.wp execOp
  simp only [ho, resolve, invoke, builtin, Sem.run_bind, Sem.run_pure, Result.andThen_ok, List.map_toArray, List.map_cons, List.map_nil, hs, hr]
  exact hK _ _ h
end
section
variable {lo hi d n z K : Nat} {s : St}
theorem dread_off (w : World) (hD : Dev w lo hi d n z K s) (x y : Nat) (m : Int) (hon : s.on = false) :
    Calls Tryz.prog 34 #[.pointer (some ⟨d, 0, none⟩), .complex .f64 x y, .int .i64 m] w fun e w' => e = .returned (.tuple #[.slice none 0 0, .int .i64 7]) ∧ Below w.heap.size w w' := by
  obtain ⟨_, _, _, _, _, _, _, _, _, h⟩ := hD
  exact (read_off w h x y m hon).mono fun e w' ⟨h1, h2⟩ => ⟨h1, by subst h2; exact Below.refl _ _⟩
theorem dread_arg (w : World) (hD : Dev w lo hi d n z K s) (x y : Nat) (m : Int) (hon : s.on = true) (hx : rt x = true) (hy : rt y = true) (hin : inside n z (nm x) (nm y) m = false) :
    Calls Tryz.prog 34 #[.pointer (some ⟨d, 0, none⟩), .complex .f64 x y, .int .i64 m] w fun e w' => e = .returned (.tuple #[.slice none 0 0, .int .i64 1]) ∧ Below w.heap.size w w' := by
  obtain ⟨_, _, _, _, _, _, _, _, _, h⟩ := hD
  exact read_arg w h x y m hon hx hy hin
theorem dread_ok (w : World) (hD : Dev w lo hi d n z K s) (x y : Nat) (m i off : Nat) (hon : s.on = true) (hx : rt x = true) (hy : rt y = true) (hi' : nm x = i) (ho : nm y = off) (hin : inside n z i off m = true) :
    Calls Tryz.prog 34 #[.pointer (some ⟨d, 0, none⟩), .complex .f64 x y, .int .i64 m] w
      fun e w' => ∃ g cap, e = .returned (.tuple #[.slice (some ⟨g, 0, none⟩) m cap, .int .i64 0]) ∧ Ob w' w.heap.size 5 g m cap (((s.row i).drop off).take m) ∧ Below w.heap.size w w' := by
  obtain ⟨_, _, _, _, _, _, _, _, _, h⟩ := hD
  exact read_ok w h x y m i off hon hx hy hi' ho hin
end
theorem part_of {w : World} {L z c off m : Nat} {row : List Int} (h : Bs w (some ⟨L, 0, none⟩) z row) (hc : z ≤ c) (hm : off + m ≤ z) :
    ∃ A2 c2, (Instr.sliceAt 38 (.slice (some ⟨L, 0, none⟩) z c) (some (.int .i64 (off : Int))) (some (.int .i64 ((off : Int) + m))) none).run Tryz.prog w = .ok (.slice A2 m c2) w ∧ Bs w A2 m ((row.drop off).take m) := by
  have hs : (sizeOf (Tryz.prog.elem 38)).run Tryz.prog w = .ok 1 w := by kernel_rfl
  have e1 : ((off : Int) + m).toNat - (off : Int).toNat = m := by omega
  refine ⟨if c = off then some ⟨L, 0, none⟩ else some ⟨L, off, none⟩, c - off, ?_, ?_⟩
  · have hT : Tryz.prog.underlying 38 = some (.slice (Tryz.prog.elem 38)) := by kernel_rfl
    have r := run_slice_lh (P := Tryz.prog) (w := w) 38 (some ⟨L, 0, none⟩) z c hT .i64 .i64 (off : Int) ((off : Int) + m) (by omega) (by omega) (by omega)
    rw [hs] at r
    rw [run_sliceAt_slice (h := hT), r]
    show Result.ok _ w = _
    unfold sliced
    rw [e1]
    have e2 : (off : Int).toNat = off := by omega
    rw [e2]
    by_cases e : c = off
    · simp [e]
    · simp [e, Addr.add]
      omega
  · by_cases e : c = off
    · obtain rfl : m = 0 := by omega
      rw [List.take_zero]
      exact Bs.nil_ _ _
    · rw [if_neg e]
      have := h.sub off m hm
      rwa [Nat.zero_add] at this
theorem at_of {w : World} {db n dc i : Nat} (hi : i < n) : (Instr.indexAt 29 (.slice (some ⟨db, 0, none⟩) n dc) (.int .i64 (i : Int))).run Tryz.prog w = .ok (.pointer (some ⟨db, i, none⟩)) w := by
  have hs : (sizeOf (Tryz.prog.elem 29)).run Tryz.prog w = .ok 1 w := by kernel_rfl
  have hT : Tryz.prog.underlying 29 = some (.slice (Tryz.prog.elem 29)) := by kernel_rfl
  rw [run_indexAt_slice (h := hT), if_pos (by omega), hs]
  have e2 : (i : Int).toNat = i := by omega
  simp [Addr.add, e2]
  omega
theorem zero_u8 (w : World) : (zeroValue 5).run Tryz.prog w = .ok (.int .u8 0) w := by kernel_rfl
theorem DX.own {w W W' : World} {lo hi g : Nat} {c oc : Array Value} (h : DX w W lo hi c oc) (hc : Chg (fun q => q = g) W W') (hg : w.heap.size + 1 + 1 < g) : DX w W' lo hi c oc :=
  ⟨h.box.chg hc (by omega), h.op.chg hc (by omega), h.res.chg hc (by omega), h.chg.then_ hc (fun i hi e => by omega)⟩

section
variable {lo hi d rl n z K : Nat} {D R : St}
set_option maxRecDepth 100000 in
set_option maxHeartbeats 1000000 in
theorem do_read_off_off (w : World) (v : Value) (hD : Dev w lo hi d n z K D) (hR : Ref w rl n z K R v) (hh : hi ≤ rl) (hl : rl ≤ w.heap.size) (hK : K + 3 ≤ 1000000) (se off : Int) (B : Option Addr) (bl bq : Nat) (m : Int) (kk mm : Int) (hon : D.on = false) (hron : R.on = false) (hm0 : -9223372036854775808 ≤ m) (hm1 : m ≤ 9223372036854775807) :
    Calls Tryz.prog 11 #[.pointer (some ⟨d, 0, none⟩), v, .agg #[.int .i64 2, .int .i64 se, .int .i64 off, .slice B bl bq, .int .i64 m, .int .i64 kk, .int .u8 mm]] w (DoPost w lo hi d rl n z (K) (D) (R) (D = R)) := by
  obtain ⟨db, dc, wb, wc, bb, bc, cuts, left, whole, mask, L, LC, rfl, hP, hr⟩ := hR
  have HP := Lib.hid hP
  have HR := Lib.hid hr
  have HX := Lib.hid (DX.of w lo hi (rc n z db dc wb wc bb bc (!R.on) R.offs R.acts cuts left whole mask) #[.int .i64 2, .int .i64 se, .int .i64 off, .slice B bl bq, .int .i64 m, .int .i64 kk, .int .u8 mm])
  have HD := Lib.hid (dev_below hD (three_below w (.cells (rc n z db dc wb wc bb bc (!R.on) R.offs R.acts cuts left whole mask) 33) (.cells #[.int .i64 2, .int .i64 se, .int .i64 off, .slice B bl bq, .int .i64 m, .int .i64 kk, .int .u8 mm] 43) (.cells zeroRef 33)))
  clear hP hr hD
  have hhw : hi ≤ w.heap.size := by omega
  unfold refVal
  have HON := Lib.hid hon
  have HRON := Lib.hid hron
  clear hon hron
  go_enter Tryz.func11, Tryz.ntmps11
  go_upto_region 1 with (fail)
  change Code.wp _ _ _ _ (((w.alloc (.cells (rc n z db dc wb wc bb bc (!R.on) R.offs R.acts cuts left whole mask) 33)).alloc (.cells #[.int .i64 2, .int .i64 se, .int .i64 off, .slice B bl bq, .int .i64 m, .int .i64 kk, .int .u8 mm] 43)).alloc (.cells zeroRef 33))
  generalize ((w.alloc (.cells (rc n z db dc wb wc bb bc (!R.on) R.offs R.acts cuts left whole mask) 33)).alloc (.cells #[.int .i64 2, .int .i64 se, .int .i64 off, .slice B bl bq, .int .i64 m, .int .i64 kk, .int .u8 mm] 43)).alloc (.cells zeroRef 33) = W at *
  have o0 : W.cell? ⟨w.heap.size + 1, 0, none⟩ = some (.int .i64 2) := HX.out.op.cell 0
  have o1 : W.cell? ⟨w.heap.size + 1, 1, none⟩ = some (.int .i64 se) := HX.out.op.cell 1
  have o2 : W.cell? ⟨w.heap.size + 1, 2, none⟩ = some (.int .i64 off) := HX.out.op.cell 2
  have o4 : W.cell? ⟨w.heap.size + 1, 4, none⟩ = some (.int .i64 m) := HX.out.op.cell 4
  go_wp2_with (first
    | (go_at_call 7; refine (of_num _ _ _).mono ?_; rintro e w' ⟨x, y, rfl, hxy, rfl⟩; have HXY := Lib.hid hxy; clear hxy)
    | (go_at_call 34; refine (dread_off W HD.out x y _ HON.out).mono ?_; rintro e w1 ⟨rfl, hb1⟩; have HX1 := Lib.hid (HX.out.below hb1 hhw); have HD1 := Lib.hid (dev_below HD.out hb1); clear hb1 o0 o1 o2 o4; have HTW := Lib.hid (twelve HX1.out.box); have t5 : w1.cell? ⟨w.heap.size, 5, none⟩ = some (.bool true) := (by have := HTW.out.2.2.2.2.2.1; rw [HRON.out] at this; exact this); have t0 := HTW.out.1; have t1 := HTW.out.2.1; have o4 : w1.cell? ⟨w.heap.size + 1, 4, none⟩ = some (.int .i64 m) := HX1.out.op.cell 4))
  have HXw := Lib.hid HX1.out.drew
  have HDw := Lib.hid (dev_below HD1.out ((Below.refl _ w1).drew))
  refine wp_region_still_tail 9 (by kernel_rfl) (by kernel_rfl) ?_
  change wpStill _ _ w1.drew (fun a' => wpList _ _ _ _ a' w1.drew) _ _
  simp only [List.take_succ_cons, List.take_zero, List.drop_succ_cons, List.drop_zero]
  refine WLeft.out ?_
  refine still_val (.int .i64 7) (by kernel_rfl) (by kernel_rfl) ?_
  refine still_val (.bool true) (by kernel_rfl) (by kernel_rfl) ?_
  refine still_val (.bool true) (by kernel_rfl) (by kernel_rfl) ?_
  refine still_val (.slice none 0 0) (by kernel_rfl) (by kernel_rfl) ?_
  refine still_val (.int .i64 0) (by kernel_rfl) (by kernel_rfl) ?_
  refine still_val (.bool true) (by kernel_rfl) (by kernel_rfl) ?_
  refine still_val (.bool true) (by kernel_rfl) (by kernel_rfl) ?_
  refine still_val (.agg (rc n z db dc wb wc bb bc (!R.on) R.offs R.acts cuts left whole mask)) (by kernel_rfl) (still_load (.pointer (some ⟨w.heap.size, 0, none⟩)) rfl (by kernel_rfl) (load_blk HXw.out.box Tryz.underlying33 rfl info_ref)) ?_
  refine still_val (.bool true) (by kernel_rfl) (by kernel_rfl) ?_
  refine still_end ?_
  simp only [Act.put, List.setIfInBounds_toArray, List.set_cons_zero, List.set_cons_succ]
  go_wp2_with ((with_reducible refine pick none ?_); refine wpList_store_blk rfl 33 _ _ rfl (w.heap.size + 1 + 1) (rc n z db dc wb wc bb bc (!R.on) R.offs R.acts cuts left whole mask) rfl rfl 33 zeroRef HXw.out.res info_ref rfl (rc_one _ _ _ _ _ _ _ _ _ _ _ _ _ _ _) ?_; intro w6 hb6 hg6)
  refine bodyPost_ret (v := .tuple #[.bool true, .agg (rc n z db dc wb wc bb bc (!R.on) R.offs R.acts cuts left whole mask)]) ?_ rfl ⟨true, _, rfl, fun _ => rfl, dev_chg HDw.out hg6 (fun k h1 h2 e => by omega), Ref.of rfl (RefP.other (refP_chg HP.out HXw.out.chg hh) HXw.out.res hg6) HR.out, HXw.out.done hg6⟩
  exact results_tmp_row (fn := Tryz.f11) rfl _ _ (w.heap.size + 1 + 1) 33 _ (0, 0) _ rfl hb6 Tryz.underlying33 rfl info_ref
set_option maxRecDepth 100000 in
set_option maxHeartbeats 1000000 in
theorem do_read_off_arg (w : World) (v : Value) (hD : Dev w lo hi d n z K D) (hR : Ref w rl n z K R v) (hh : hi ≤ rl) (hl : rl ≤ w.heap.size) (hK : K + 3 ≤ 1000000) (se off : Int) (B : Option Addr) (bl bq : Nat) (m : Int) (kk mm : Int) (hon : D.on = false) (hron : R.on = true) (hin : inside n z (pl se off).1 (pl se off).2 m = false) (hm0 : -9223372036854775808 ≤ m) (hm1 : m ≤ 9223372036854775807) :
    Calls Tryz.prog 11 #[.pointer (some ⟨d, 0, none⟩), v, .agg #[.int .i64 2, .int .i64 se, .int .i64 off, .slice B bl bq, .int .i64 m, .int .i64 kk, .int .u8 mm]] w (DoPost w lo hi d rl n z (K) (D) (R) (D = R)) := by
  obtain ⟨db, dc, wb, wc, bb, bc, cuts, left, whole, mask, L, LC, rfl, hP, hr⟩ := hR
  have HP := Lib.hid hP
  have HR := Lib.hid hr
  have HX := Lib.hid (DX.of w lo hi (rc n z db dc wb wc bb bc (!R.on) R.offs R.acts cuts left whole mask) #[.int .i64 2, .int .i64 se, .int .i64 off, .slice B bl bq, .int .i64 m, .int .i64 kk, .int .u8 mm])
  have HD := Lib.hid (dev_below hD (three_below w (.cells (rc n z db dc wb wc bb bc (!R.on) R.offs R.acts cuts left whole mask) 33) (.cells #[.int .i64 2, .int .i64 se, .int .i64 off, .slice B bl bq, .int .i64 m, .int .i64 kk, .int .u8 mm] 43) (.cells zeroRef 33)))
  clear hP hr hD
  have hhw : hi ≤ w.heap.size := by omega
  unfold refVal
  have HON := Lib.hid hon
  have HRON := Lib.hid hron
  clear hon hron
  have HIN := Lib.hid hin
  go_enter Tryz.func11, Tryz.ntmps11
  go_upto_region 1 with (fail)
  change Code.wp _ _ _ _ (((w.alloc (.cells (rc n z db dc wb wc bb bc (!R.on) R.offs R.acts cuts left whole mask) 33)).alloc (.cells #[.int .i64 2, .int .i64 se, .int .i64 off, .slice B bl bq, .int .i64 m, .int .i64 kk, .int .u8 mm] 43)).alloc (.cells zeroRef 33))
  generalize ((w.alloc (.cells (rc n z db dc wb wc bb bc (!R.on) R.offs R.acts cuts left whole mask) 33)).alloc (.cells #[.int .i64 2, .int .i64 se, .int .i64 off, .slice B bl bq, .int .i64 m, .int .i64 kk, .int .u8 mm] 43)).alloc (.cells zeroRef 33) = W at *
  have o0 : W.cell? ⟨w.heap.size + 1, 0, none⟩ = some (.int .i64 2) := HX.out.op.cell 0
  have o1 : W.cell? ⟨w.heap.size + 1, 1, none⟩ = some (.int .i64 se) := HX.out.op.cell 1
  have o2 : W.cell? ⟨w.heap.size + 1, 2, none⟩ = some (.int .i64 off) := HX.out.op.cell 2
  have o4 : W.cell? ⟨w.heap.size + 1, 4, none⟩ = some (.int .i64 m) := HX.out.op.cell 4
  clear hin
  have hz4 := HP.out.geo.2.2.2
  have hn64 := HP.out.geo.2.1
  go_wp2_with (first
    | (go_at_call 7; refine (of_num _ _ _).mono ?_; rintro e w' ⟨x, y, rfl, hxy, rfl⟩; have HXY := Lib.hid hxy; clear hxy)
    | (go_at_call 34; refine (dread_off W HD.out x y _ HON.out).mono ?_; rintro e w1 ⟨rfl, hb1⟩; have HX1 := Lib.hid (HX.out.below hb1 hhw); have HD1 := Lib.hid (dev_below HD.out hb1); clear hb1 o0 o1 o2 o4; have HTW := Lib.hid (twelve HX1.out.box); have t5 : w1.cell? ⟨w.heap.size, 5, none⟩ = some (.bool false) := (by have := HTW.out.2.2.2.2.2.1; rw [HRON.out] at this; exact this); have t0 := HTW.out.1; have t1 := HTW.out.2.1; have o4 : w1.cell? ⟨w.heap.size + 1, 4, none⟩ = some (.int .i64 m) := HX1.out.op.cell 4)
    | (go_at_call 28; refine (refWithin_calls (n := n) (z := z) x y _ _ HXY.out.1 HXY.out.2.1 (by omega) (by omega) hn64 hz4).mono ?_; rw [HXY.out.2.2.1, HXY.out.2.2.2, HIN.out]; rintro e w2 ⟨rfl, hb2⟩; have HX2 := Lib.hid (HX1.out.below hb2 hhw); have HD2 := Lib.hid (dev_below HD1.out hb2); have HB2 := Lib.hid hb2; clear hb2 t0 t1 t5 o4))
  have HXw := Lib.hid HX2.out.drew
  have HDw := Lib.hid (dev_below HD2.out ((Below.refl _ w2).drew))
  refine wp_region_still_tail 9 (by kernel_rfl) (by kernel_rfl) ?_
  change wpStill _ _ w2.drew (fun a' => wpList _ _ _ _ a' w2.drew) _ _
  simp only [List.take_succ_cons, List.take_zero, List.drop_succ_cons, List.drop_zero]
  refine WLeft.out ?_
  refine still_val (.int .i64 7) (by kernel_rfl) (by kernel_rfl) ?_
  refine still_val (.bool false) (by kernel_rfl) (by kernel_rfl) ?_
  refine still_val (.bool false) (by kernel_rfl) (by kernel_rfl) ?_
  refine still_skip (by kernel_rfl) ?_
  refine still_skip (by kernel_rfl) ?_
  refine still_skip (by kernel_rfl) ?_
  refine still_val (.bool false) (by kernel_rfl) (by kernel_rfl) ?_
  refine still_val (.agg (rc n z db dc wb wc bb bc (!R.on) R.offs R.acts cuts left whole mask)) (by kernel_rfl) (still_load (.pointer (some ⟨w.heap.size, 0, none⟩)) rfl (by kernel_rfl) (load_blk HXw.out.box Tryz.underlying33 rfl info_ref)) ?_
  refine still_val (.bool false) (by kernel_rfl) (by kernel_rfl) ?_
  refine still_end ?_
  simp only [Act.put, List.setIfInBounds_toArray, List.set_cons_zero, List.set_cons_succ]
  go_wp2_with ((with_reducible refine pick none ?_); refine wpList_store_blk rfl 33 _ _ rfl (w.heap.size + 1 + 1) (rc n z db dc wb wc bb bc (!R.on) R.offs R.acts cuts left whole mask) rfl rfl 33 zeroRef HXw.out.res info_ref rfl (rc_one _ _ _ _ _ _ _ _ _ _ _ _ _ _ _) ?_; intro w6 hb6 hg6)
  refine bodyPost_ret (v := .tuple #[.bool false, .agg (rc n z db dc wb wc bb bc (!R.on) R.offs R.acts cuts left whole mask)]) ?_ rfl ⟨false, _, rfl, fun e => (by have h1 := HON.out; have h2 := HRON.out; rw [e] at h1; rw [h1] at h2; cases h2), dev_chg HDw.out hg6 (fun k h1 h2 e => by omega), Ref.of rfl (RefP.other (refP_chg HP.out HXw.out.chg hh) HXw.out.res hg6) HR.out, HXw.out.done hg6⟩
  exact results_tmp_row (fn := Tryz.f11) rfl _ _ (w.heap.size + 1 + 1) 33 _ (0, 0) _ rfl hb6 Tryz.underlying33 rfl info_ref
set_option maxRecDepth 100000 in
set_option maxHeartbeats 1000000 in
theorem do_read_arg_off (w : World) (v : Value) (hD : Dev w lo hi d n z K D) (hR : Ref w rl n z K R v) (hh : hi ≤ rl) (hl : rl ≤ w.heap.size) (hK : K + 3 ≤ 1000000) (se off : Int) (B : Option Addr) (bl bq : Nat) (m : Int) (kk mm : Int) (hon : D.on = true) (hron : R.on = false) (hin : inside n z (pl se off).1 (pl se off).2 m = false) (hm0 : -9223372036854775808 ≤ m) (hm1 : m ≤ 9223372036854775807) :
    Calls Tryz.prog 11 #[.pointer (some ⟨d, 0, none⟩), v, .agg #[.int .i64 2, .int .i64 se, .int .i64 off, .slice B bl bq, .int .i64 m, .int .i64 kk, .int .u8 mm]] w (DoPost w lo hi d rl n z (K) (D) (R) (D = R)) := by
  obtain ⟨db, dc, wb, wc, bb, bc, cuts, left, whole, mask, L, LC, rfl, hP, hr⟩ := hR
  have HP := Lib.hid hP
  have HR := Lib.hid hr
  have HX := Lib.hid (DX.of w lo hi (rc n z db dc wb wc bb bc (!R.on) R.offs R.acts cuts left whole mask) #[.int .i64 2, .int .i64 se, .int .i64 off, .slice B bl bq, .int .i64 m, .int .i64 kk, .int .u8 mm])
  have HD := Lib.hid (dev_below hD (three_below w (.cells (rc n z db dc wb wc bb bc (!R.on) R.offs R.acts cuts left whole mask) 33) (.cells #[.int .i64 2, .int .i64 se, .int .i64 off, .slice B bl bq, .int .i64 m, .int .i64 kk, .int .u8 mm] 43) (.cells zeroRef 33)))
  clear hP hr hD
  have hhw : hi ≤ w.heap.size := by omega
  unfold refVal
  have HON := Lib.hid hon
  have HRON := Lib.hid hron
  clear hon hron
  have HIN := Lib.hid hin
  go_enter Tryz.func11, Tryz.ntmps11
  go_upto_region 1 with (fail)
  change Code.wp _ _ _ _ (((w.alloc (.cells (rc n z db dc wb wc bb bc (!R.on) R.offs R.acts cuts left whole mask) 33)).alloc (.cells #[.int .i64 2, .int .i64 se, .int .i64 off, .slice B bl bq, .int .i64 m, .int .i64 kk, .int .u8 mm] 43)).alloc (.cells zeroRef 33))
  generalize ((w.alloc (.cells (rc n z db dc wb wc bb bc (!R.on) R.offs R.acts cuts left whole mask) 33)).alloc (.cells #[.int .i64 2, .int .i64 se, .int .i64 off, .slice B bl bq, .int .i64 m, .int .i64 kk, .int .u8 mm] 43)).alloc (.cells zeroRef 33) = W at *
  have o0 : W.cell? ⟨w.heap.size + 1, 0, none⟩ = some (.int .i64 2) := HX.out.op.cell 0
  have o1 : W.cell? ⟨w.heap.size + 1, 1, none⟩ = some (.int .i64 se) := HX.out.op.cell 1
  have o2 : W.cell? ⟨w.heap.size + 1, 2, none⟩ = some (.int .i64 off) := HX.out.op.cell 2
  have o4 : W.cell? ⟨w.heap.size + 1, 4, none⟩ = some (.int .i64 m) := HX.out.op.cell 4
  clear hin
  have hz4 := HP.out.geo.2.2.2
  have hn64 := HP.out.geo.2.1
  go_wp2_with (first
    | (go_at_call 7; refine (of_num _ _ _).mono ?_; rintro e w' ⟨x, y, rfl, hxy, rfl⟩; have HXY := Lib.hid hxy; clear hxy)
    | (go_at_call 34; refine (dread_arg W HD.out x y _ HON.out HXY.out.1 HXY.out.2.1 (by rw [HXY.out.2.2.1, HXY.out.2.2.2]; exact HIN.out)).mono ?_; rintro e w1 ⟨rfl, hb1⟩; have HX1 := Lib.hid (HX.out.below hb1 hhw); have HD1 := Lib.hid (dev_below HD.out hb1); clear hb1 o0 o1 o2 o4; have HTW := Lib.hid (twelve HX1.out.box); have t5 : w1.cell? ⟨w.heap.size, 5, none⟩ = some (.bool true) := (by have := HTW.out.2.2.2.2.2.1; rw [HRON.out] at this; exact this); have t0 := HTW.out.1; have t1 := HTW.out.2.1; have o4 : w1.cell? ⟨w.heap.size + 1, 4, none⟩ = some (.int .i64 m) := HX1.out.op.cell 4))
  have HXw := Lib.hid HX1.out.drew
  have HDw := Lib.hid (dev_below HD1.out ((Below.refl _ w1).drew))
  refine wp_region_still_tail 9 (by kernel_rfl) (by kernel_rfl) ?_
  change wpStill _ _ w1.drew (fun a' => wpList _ _ _ _ a' w1.drew) _ _
  simp only [List.take_succ_cons, List.take_zero, List.drop_succ_cons, List.drop_zero]
  refine WLeft.out ?_
  refine still_val (.int .i64 1) (by kernel_rfl) (by kernel_rfl) ?_
  refine still_val (.bool false) (by kernel_rfl) (by kernel_rfl) ?_
  refine still_val (.bool false) (by kernel_rfl) (by kernel_rfl) ?_
  refine still_skip (by kernel_rfl) ?_
  refine still_skip (by kernel_rfl) ?_
  refine still_skip (by kernel_rfl) ?_
  refine still_val (.bool false) (by kernel_rfl) (by kernel_rfl) ?_
  refine still_val (.agg (rc n z db dc wb wc bb bc (!R.on) R.offs R.acts cuts left whole mask)) (by kernel_rfl) (still_load (.pointer (some ⟨w.heap.size, 0, none⟩)) rfl (by kernel_rfl) (load_blk HXw.out.box Tryz.underlying33 rfl info_ref)) ?_
  refine still_val (.bool false) (by kernel_rfl) (by kernel_rfl) ?_
  refine still_end ?_
  simp only [Act.put, List.setIfInBounds_toArray, List.set_cons_zero, List.set_cons_succ]
  go_wp2_with ((with_reducible refine pick none ?_); refine wpList_store_blk rfl 33 _ _ rfl (w.heap.size + 1 + 1) (rc n z db dc wb wc bb bc (!R.on) R.offs R.acts cuts left whole mask) rfl rfl 33 zeroRef HXw.out.res info_ref rfl (rc_one _ _ _ _ _ _ _ _ _ _ _ _ _ _ _) ?_; intro w6 hb6 hg6)
  refine bodyPost_ret (v := .tuple #[.bool false, .agg (rc n z db dc wb wc bb bc (!R.on) R.offs R.acts cuts left whole mask)]) ?_ rfl ⟨false, _, rfl, fun e => (by have h1 := HON.out; have h2 := HRON.out; rw [e] at h1; rw [h1] at h2; cases h2), dev_chg HDw.out hg6 (fun k h1 h2 e => by omega), Ref.of rfl (RefP.other (refP_chg HP.out HXw.out.chg hh) HXw.out.res hg6) HR.out, HXw.out.done hg6⟩
  exact results_tmp_row (fn := Tryz.f11) rfl _ _ (w.heap.size + 1 + 1) 33 _ (0, 0) _ rfl hb6 Tryz.underlying33 rfl info_ref
set_option maxRecDepth 100000 in
set_option maxHeartbeats 1000000 in
theorem do_read_arg_arg (w : World) (v : Value) (hD : Dev w lo hi d n z K D) (hR : Ref w rl n z K R v) (hh : hi ≤ rl) (hl : rl ≤ w.heap.size) (hK : K + 3 ≤ 1000000) (se off : Int) (B : Option Addr) (bl bq : Nat) (m : Int) (kk mm : Int) (hon : D.on = true) (hron : R.on = true) (hin : inside n z (pl se off).1 (pl se off).2 m = false) (hm0 : -9223372036854775808 ≤ m) (hm1 : m ≤ 9223372036854775807) :
    Calls Tryz.prog 11 #[.pointer (some ⟨d, 0, none⟩), v, .agg #[.int .i64 2, .int .i64 se, .int .i64 off, .slice B bl bq, .int .i64 m, .int .i64 kk, .int .u8 mm]] w (DoPost w lo hi d rl n z (K) (D) (R) (D = R)) := by
  obtain ⟨db, dc, wb, wc, bb, bc, cuts, left, whole, mask, L, LC, rfl, hP, hr⟩ := hR
  have HP := Lib.hid hP
  have HR := Lib.hid hr
  have HX := Lib.hid (DX.of w lo hi (rc n z db dc wb wc bb bc (!R.on) R.offs R.acts cuts left whole mask) #[.int .i64 2, .int .i64 se, .int .i64 off, .slice B bl bq, .int .i64 m, .int .i64 kk, .int .u8 mm])
  have HD := Lib.hid (dev_below hD (three_below w (.cells (rc n z db dc wb wc bb bc (!R.on) R.offs R.acts cuts left whole mask) 33) (.cells #[.int .i64 2, .int .i64 se, .int .i64 off, .slice B bl bq, .int .i64 m, .int .i64 kk, .int .u8 mm] 43) (.cells zeroRef 33)))
  clear hP hr hD
  have hhw : hi ≤ w.heap.size := by omega
  unfold refVal
  have HON := Lib.hid hon
  have HRON := Lib.hid hron
  clear hon hron
  have HIN := Lib.hid hin
  go_enter Tryz.func11, Tryz.ntmps11
  go_upto_region 1 with (fail)
  change Code.wp _ _ _ _ (((w.alloc (.cells (rc n z db dc wb wc bb bc (!R.on) R.offs R.acts cuts left whole mask) 33)).alloc (.cells #[.int .i64 2, .int .i64 se, .int .i64 off, .slice B bl bq, .int .i64 m, .int .i64 kk, .int .u8 mm] 43)).alloc (.cells zeroRef 33))
  generalize ((w.alloc (.cells (rc n z db dc wb wc bb bc (!R.on) R.offs R.acts cuts left whole mask) 33)).alloc (.cells #[.int .i64 2, .int .i64 se, .int .i64 off, .slice B bl bq, .int .i64 m, .int .i64 kk, .int .u8 mm] 43)).alloc (.cells zeroRef 33) = W at *
  have o0 : W.cell? ⟨w.heap.size + 1, 0, none⟩ = some (.int .i64 2) := HX.out.op.cell 0
  have o1 : W.cell? ⟨w.heap.size + 1, 1, none⟩ = some (.int .i64 se) := HX.out.op.cell 1
  have o2 : W.cell? ⟨w.heap.size + 1, 2, none⟩ = some (.int .i64 off) := HX.out.op.cell 2
  have o4 : W.cell? ⟨w.heap.size + 1, 4, none⟩ = some (.int .i64 m) := HX.out.op.cell 4
  clear hin
  have hz4 := HP.out.geo.2.2.2
  have hn64 := HP.out.geo.2.1
  go_wp2_with (first
    | (go_at_call 7; refine (of_num _ _ _).mono ?_; rintro e w' ⟨x, y, rfl, hxy, rfl⟩; have HXY := Lib.hid hxy; clear hxy)
    | (go_at_call 34; refine (dread_arg W HD.out x y _ HON.out HXY.out.1 HXY.out.2.1 (by rw [HXY.out.2.2.1, HXY.out.2.2.2]; exact HIN.out)).mono ?_; rintro e w1 ⟨rfl, hb1⟩; have HX1 := Lib.hid (HX.out.below hb1 hhw); have HD1 := Lib.hid (dev_below HD.out hb1); clear hb1 o0 o1 o2 o4; have HTW := Lib.hid (twelve HX1.out.box); have t5 : w1.cell? ⟨w.heap.size, 5, none⟩ = some (.bool false) := (by have := HTW.out.2.2.2.2.2.1; rw [HRON.out] at this; exact this); have t0 := HTW.out.1; have t1 := HTW.out.2.1; have o4 : w1.cell? ⟨w.heap.size + 1, 4, none⟩ = some (.int .i64 m) := HX1.out.op.cell 4)
    | (go_at_call 28; refine (refWithin_calls (n := n) (z := z) x y _ _ HXY.out.1 HXY.out.2.1 (by omega) (by omega) hn64 hz4).mono ?_; rw [HXY.out.2.2.1, HXY.out.2.2.2, HIN.out]; rintro e w2 ⟨rfl, hb2⟩; have HX2 := Lib.hid (HX1.out.below hb2 hhw); have HD2 := Lib.hid (dev_below HD1.out hb2); have HB2 := Lib.hid hb2; clear hb2 t0 t1 t5 o4))
  have HXw := Lib.hid HX2.out.drew
  have HDw := Lib.hid (dev_below HD2.out ((Below.refl _ w2).drew))
  refine wp_region_still_tail 9 (by kernel_rfl) (by kernel_rfl) ?_
  change wpStill _ _ w2.drew (fun a' => wpList _ _ _ _ a' w2.drew) _ _
  simp only [List.take_succ_cons, List.take_zero, List.drop_succ_cons, List.drop_zero]
  refine WLeft.out ?_
  refine still_val (.int .i64 1) (by kernel_rfl) (by kernel_rfl) ?_
  refine still_val (.bool true) (by kernel_rfl) (by kernel_rfl) ?_
  refine still_val (.bool true) (by kernel_rfl) (by kernel_rfl) ?_
  refine still_val (.slice none 0 0) (by kernel_rfl) (by kernel_rfl) ?_
  refine still_val (.int .i64 0) (by kernel_rfl) (by kernel_rfl) ?_
  refine still_val (.bool true) (by kernel_rfl) (by kernel_rfl) ?_
  refine still_val (.bool true) (by kernel_rfl) (by kernel_rfl) ?_
  refine still_val (.agg (rc n z db dc wb wc bb bc (!R.on) R.offs R.acts cuts left whole mask)) (by kernel_rfl) (still_load (.pointer (some ⟨w.heap.size, 0, none⟩)) rfl (by kernel_rfl) (load_blk HXw.out.box Tryz.underlying33 rfl info_ref)) ?_
  refine still_val (.bool true) (by kernel_rfl) (by kernel_rfl) ?_
  refine still_end ?_
  simp only [Act.put, List.setIfInBounds_toArray, List.set_cons_zero, List.set_cons_succ]
  go_wp2_with ((with_reducible refine pick none ?_); refine wpList_store_blk rfl 33 _ _ rfl (w.heap.size + 1 + 1) (rc n z db dc wb wc bb bc (!R.on) R.offs R.acts cuts left whole mask) rfl rfl 33 zeroRef HXw.out.res info_ref rfl (rc_one _ _ _ _ _ _ _ _ _ _ _ _ _ _ _) ?_; intro w6 hb6 hg6)
  refine bodyPost_ret (v := .tuple #[.bool true, .agg (rc n z db dc wb wc bb bc (!R.on) R.offs R.acts cuts left whole mask)]) ?_ rfl ⟨true, _, rfl, fun _ => rfl, dev_chg HDw.out hg6 (fun k h1 h2 e => by omega), Ref.of rfl (RefP.other (refP_chg HP.out HXw.out.chg hh) HXw.out.res hg6) HR.out, HXw.out.done hg6⟩
  exact results_tmp_row (fn := Tryz.f11) rfl _ _ (w.heap.size + 1 + 1) 33 _ (0, 0) _ rfl hb6 Tryz.underlying33 rfl info_ref
set_option maxRecDepth 100000 in
set_option maxHeartbeats 1000000 in
theorem do_read_off_ok (w : World) (v : Value) (hD : Dev w lo hi d n z K D) (hR : Ref w rl n z K R v) (hh : hi ≤ rl) (hl : rl ≤ w.heap.size) (hK : K + 3 ≤ 1000000) (se off : Int) (B : Option Addr) (bl bq : Nat) (m : Nat) (kk mm : Int) (hon : D.on = false) (hron : R.on = true) (hin : inside n z (pl se off).1 (pl se off).2 m = true) :
    Calls Tryz.prog 11 #[.pointer (some ⟨d, 0, none⟩), v, .agg #[.int .i64 2, .int .i64 se, .int .i64 off, .slice B bl bq, .int .i64 m, .int .i64 kk, .int .u8 mm]] w (DoPost w lo hi d rl n z (K) (D) (R) (D = R)) := by
  obtain ⟨db, dc, wb, wc, bb, bc, cuts, left, whole, mask, L, LC, rfl, hP, hr⟩ := hR
  have HP := Lib.hid hP
  have HR := Lib.hid hr
  have HX := Lib.hid (DX.of w lo hi (rc n z db dc wb wc bb bc (!R.on) R.offs R.acts cuts left whole mask) #[.int .i64 2, .int .i64 se, .int .i64 off, .slice B bl bq, .int .i64 m, .int .i64 kk, .int .u8 mm])
  have HD := Lib.hid (dev_below hD (three_below w (.cells (rc n z db dc wb wc bb bc (!R.on) R.offs R.acts cuts left whole mask) 33) (.cells #[.int .i64 2, .int .i64 se, .int .i64 off, .slice B bl bq, .int .i64 m, .int .i64 kk, .int .u8 mm] 43) (.cells zeroRef 33)))
  clear hP hr hD
  have hhw : hi ≤ w.heap.size := by omega
  unfold refVal
  have HON := Lib.hid hon
  have HRON := Lib.hid hron
  clear hon hron
  have HIN := Lib.hid hin
  go_enter Tryz.func11, Tryz.ntmps11
  go_upto_region 1 with (fail)
  change Code.wp _ _ _ _ (((w.alloc (.cells (rc n z db dc wb wc bb bc (!R.on) R.offs R.acts cuts left whole mask) 33)).alloc (.cells #[.int .i64 2, .int .i64 se, .int .i64 off, .slice B bl bq, .int .i64 m, .int .i64 kk, .int .u8 mm] 43)).alloc (.cells zeroRef 33))
  generalize ((w.alloc (.cells (rc n z db dc wb wc bb bc (!R.on) R.offs R.acts cuts left whole mask) 33)).alloc (.cells #[.int .i64 2, .int .i64 se, .int .i64 off, .slice B bl bq, .int .i64 m, .int .i64 kk, .int .u8 mm] 43)).alloc (.cells zeroRef 33) = W at *
  have o0 : W.cell? ⟨w.heap.size + 1, 0, none⟩ = some (.int .i64 2) := HX.out.op.cell 0
  have o1 : W.cell? ⟨w.heap.size + 1, 1, none⟩ = some (.int .i64 se) := HX.out.op.cell 1
  have o2 : W.cell? ⟨w.heap.size + 1, 2, none⟩ = some (.int .i64 off) := HX.out.op.cell 2
  have o4 : W.cell? ⟨w.heap.size + 1, 4, none⟩ = some (.int .i64 m) := HX.out.op.cell 4
  have hin' := HIN.out
  unfold inside at hin'
  rw [decide_eq_true_eq] at hin'
  have hin2 : (pl se off).1 < n := by omega
  have hin3 : (pl se off).2 + m ≤ z := by omega
  have hz4 := HP.out.geo.2.2.2
  have hn64 := HP.out.geo.2.1
  clear hin' hin
  go_wp2_with (first
    | (go_at_call 7; refine (of_num _ _ _).mono ?_; rintro e w' ⟨x, y, rfl, hxy, rfl⟩; have HXY := Lib.hid hxy; clear hxy)
    | (go_at_call 34; refine (dread_off W HD.out x y _ HON.out).mono ?_; rintro e w1 ⟨rfl, hb1⟩; have HX1 := Lib.hid (HX.out.below hb1 hhw); have HD1 := Lib.hid (dev_below HD.out hb1); clear hb1 o0 o1 o2 o4; have HTW := Lib.hid (twelve HX1.out.box); have t5 : w1.cell? ⟨w.heap.size, 5, none⟩ = some (.bool false) := (by have := HTW.out.2.2.2.2.2.1; rw [HRON.out] at this; exact this); have t0 := HTW.out.1; have t1 := HTW.out.2.1; have o4 : w1.cell? ⟨w.heap.size + 1, 4, none⟩ = some (.int .i64 m) := HX1.out.op.cell 4)
    | (go_at_call 28; refine (refWithin_calls (n := n) (z := z) x y _ _ HXY.out.1 HXY.out.2.1 (by omega) (by omega) hn64 hz4).mono ?_; rw [HXY.out.2.2.1, HXY.out.2.2.2, HIN.out]; rintro e w2 ⟨rfl, hb2⟩; have HX2 := Lib.hid (HX1.out.below hb2 hhw); have HD2 := Lib.hid (dev_below HD1.out hb2); have HB2 := Lib.hid hb2; clear hb2 t0 t1 t5 o4)
    | (go_at_call 31; refine (offset_calls x y _ HXY.out.2.1).mono ?_; rw [HXY.out.2.2.2]; rintro e w' ⟨rfl, rfl⟩))
  have HXv := Lib.hid HX2.out.drew
  have HDv := Lib.hid (dev_below HD2.out ((Below.refl _ w2).drew))
  refine lit_drew (by kernel_rfl) (by kernel_rfl) ?_
  generalize hvw : w2.drew = Wv at *
  refine still_val (.int .i64 7) (by kernel_rfl) (by kernel_rfl) ?_
  refine still_val (.bool false) (by kernel_rfl) (by kernel_rfl) ?_
  refine still_val (.bool false) (by kernel_rfl) (by kernel_rfl) ?_
  refine still_skip (by kernel_rfl) ?_
  refine still_skip (by kernel_rfl) ?_
  refine still_skip (by kernel_rfl) ?_
  refine still_skip (by kernel_rfl) ?_
  refine still_skip (by kernel_rfl) ?_
  refine still_skip (by kernel_rfl) ?_
  refine still_skip (by kernel_rfl) ?_
  refine still_skip (by kernel_rfl) ?_
  refine still_skip (by kernel_rfl) ?_
  refine still_skip (by kernel_rfl) ?_
  refine still_skip (by kernel_rfl) ?_
  refine still_skip (by kernel_rfl) ?_
  refine still_skip (by kernel_rfl) ?_
  refine still_skip (by kernel_rfl) ?_
  refine still_skip (by kernel_rfl) ?_
  refine still_skip (by kernel_rfl) ?_
  refine still_val (.bool false) (by kernel_rfl) (by kernel_rfl) ?_
  refine still_val (.bool false) (by kernel_rfl) (by kernel_rfl) ?_
  refine still_end ?_
  simp only [Act.put, List.setIfInBounds_toArray, List.set_cons_zero, List.set_cons_succ]
  go_wp2_with ((with_reducible refine pick none ?_); refine wpList_clear_none rfl _ 38 5 rfl Tryz.underlying38 none 0 rfl ?_)
  have HXw := Lib.hid HXv.out.drew
  have HDw := Lib.hid (dev_below HDv.out ((Below.refl _ Wv).drew))
  refine wp_region_still_tail 3 (by kernel_rfl) (by kernel_rfl) ?_
  change wpStill _ _ Wv.drew (fun a' => wpList _ _ _ _ a' Wv.drew) _ _
  simp only [List.take_succ_cons, List.take_zero, List.drop_succ_cons, List.drop_zero]
  refine WLeft.out ?_
  refine still_val (.bool false) (by kernel_rfl) (by kernel_rfl) ?_
  refine still_val (.agg (rc n z db dc wb wc bb bc (!R.on) R.offs R.acts cuts left whole mask)) (by kernel_rfl) (still_load (.pointer (some ⟨w.heap.size, 0, none⟩)) rfl (by kernel_rfl) (load_blk HXw.out.box Tryz.underlying33 rfl info_ref)) ?_
  refine still_val (.bool false) (by kernel_rfl) (by kernel_rfl) ?_
  refine still_end ?_
  simp only [Act.put, List.setIfInBounds_toArray, List.set_cons_zero, List.set_cons_succ]
  go_wp2_with ((with_reducible refine pick none ?_); refine wpList_store_blk rfl 33 _ _ rfl (w.heap.size + 1 + 1) (rc n z db dc wb wc bb bc (!R.on) R.offs R.acts cuts left whole mask) rfl rfl 33 zeroRef HXw.out.res info_ref rfl (rc_one _ _ _ _ _ _ _ _ _ _ _ _ _ _ _) ?_; intro w6 hb6 hg6)
  refine bodyPost_ret (v := .tuple #[.bool false, .agg (rc n z db dc wb wc bb bc (!R.on) R.offs R.acts cuts left whole mask)]) ?_ rfl ⟨false, _, rfl, fun e => (by have h1 := HON.out; have h2 := HRON.out; rw [e] at h1; rw [h1] at h2; cases h2), dev_chg HDw.out hg6 (fun k h1 h2 e => by omega), Ref.of rfl (RefP.other (refP_chg HP.out HXw.out.chg hh) HXw.out.res hg6) HR.out, HXw.out.done hg6⟩
  exact results_tmp_row (fn := Tryz.f11) rfl _ _ (w.heap.size + 1 + 1) 33 _ (0, 0) _ rfl hb6 Tryz.underlying33 rfl info_ref
set_option maxRecDepth 100000 in
set_option maxHeartbeats 1000000 in
theorem do_read_ok_off (w : World) (v : Value) (hD : Dev w lo hi d n z K D) (hR : Ref w rl n z K R v) (hh : hi ≤ rl) (hl : rl ≤ w.heap.size) (hK : K + 3 ≤ 1000000) (se off : Int) (B : Option Addr) (bl bq : Nat) (m : Nat) (kk mm : Int) (hon : D.on = true) (hron : R.on = false) (hin : inside n z (pl se off).1 (pl se off).2 m = true) :
    Calls Tryz.prog 11 #[.pointer (some ⟨d, 0, none⟩), v, .agg #[.int .i64 2, .int .i64 se, .int .i64 off, .slice B bl bq, .int .i64 m, .int .i64 kk, .int .u8 mm]] w (DoPost w lo hi d rl n z (K) (D) (R) (D = R)) := by
  obtain ⟨db, dc, wb, wc, bb, bc, cuts, left, whole, mask, L, LC, rfl, hP, hr⟩ := hR
  have HP := Lib.hid hP
  have HR := Lib.hid hr
  have HX := Lib.hid (DX.of w lo hi (rc n z db dc wb wc bb bc (!R.on) R.offs R.acts cuts left whole mask) #[.int .i64 2, .int .i64 se, .int .i64 off, .slice B bl bq, .int .i64 m, .int .i64 kk, .int .u8 mm])
  have HD := Lib.hid (dev_below hD (three_below w (.cells (rc n z db dc wb wc bb bc (!R.on) R.offs R.acts cuts left whole mask) 33) (.cells #[.int .i64 2, .int .i64 se, .int .i64 off, .slice B bl bq, .int .i64 m, .int .i64 kk, .int .u8 mm] 43) (.cells zeroRef 33)))
  clear hP hr hD
  have hhw : hi ≤ w.heap.size := by omega
  unfold refVal
  have HON := Lib.hid hon
  have HRON := Lib.hid hron
  clear hon hron
  have HIN := Lib.hid hin
  go_enter Tryz.func11, Tryz.ntmps11
  go_upto_region 1 with (fail)
  change Code.wp _ _ _ _ (((w.alloc (.cells (rc n z db dc wb wc bb bc (!R.on) R.offs R.acts cuts left whole mask) 33)).alloc (.cells #[.int .i64 2, .int .i64 se, .int .i64 off, .slice B bl bq, .int .i64 m, .int .i64 kk, .int .u8 mm] 43)).alloc (.cells zeroRef 33))
  generalize ((w.alloc (.cells (rc n z db dc wb wc bb bc (!R.on) R.offs R.acts cuts left whole mask) 33)).alloc (.cells #[.int .i64 2, .int .i64 se, .int .i64 off, .slice B bl bq, .int .i64 m, .int .i64 kk, .int .u8 mm] 43)).alloc (.cells zeroRef 33) = W at *
  have o0 : W.cell? ⟨w.heap.size + 1, 0, none⟩ = some (.int .i64 2) := HX.out.op.cell 0
  have o1 : W.cell? ⟨w.heap.size + 1, 1, none⟩ = some (.int .i64 se) := HX.out.op.cell 1
  have o2 : W.cell? ⟨w.heap.size + 1, 2, none⟩ = some (.int .i64 off) := HX.out.op.cell 2
  have o4 : W.cell? ⟨w.heap.size + 1, 4, none⟩ = some (.int .i64 m) := HX.out.op.cell 4
  have hin' := HIN.out
  unfold inside at hin'
  rw [decide_eq_true_eq] at hin'
  have hin2 : (pl se off).1 < n := by omega
  have hin3 : (pl se off).2 + m ≤ z := by omega
  have hz4 := HP.out.geo.2.2.2
  have hn64 := HP.out.geo.2.1
  clear hin' hin
  go_wp2_with (first
    | (go_at_call 7; refine (of_num _ _ _).mono ?_; rintro e w' ⟨x, y, rfl, hxy, rfl⟩; have HXY := Lib.hid hxy; clear hxy)
    | (go_at_call 34; refine (dread_ok W HD.out x y m (pl se off).1 (pl se off).2 HON.out HXY.out.1 HXY.out.2.1 HXY.out.2.2.1 HXY.out.2.2.2 HIN.out).mono ?_; rintro e w1 ⟨g1, cap1, rfl, ho1, hb1⟩; have HO1 := Lib.hid ho1; have hgp := ho1.place; have hWl := HX.out.lt; clear ho1; have HX1 := Lib.hid (HX.out.below hb1 hhw); have HD1 := Lib.hid (dev_below HD.out hb1); clear hb1 o0 o1 o2 o4; have HTW := Lib.hid (twelve HX1.out.box); have t5 : w1.cell? ⟨w.heap.size, 5, none⟩ = some (.bool true) := (by have := HTW.out.2.2.2.2.2.1; rw [HRON.out] at this; exact this); have t0 := HTW.out.1; have t1 := HTW.out.2.1; have o4 : w1.cell? ⟨w.heap.size + 1, 4, none⟩ = some (.int .i64 m) := HX1.out.op.cell 4))
  have HXw := Lib.hid HX1.out.drew
  have HDw := Lib.hid (dev_below HD1.out ((Below.refl _ w1).drew))
  refine wp_region_still_tail 9 (by kernel_rfl) (by kernel_rfl) ?_
  change wpStill _ _ w1.drew (fun a' => wpList _ _ _ _ a' w1.drew) _ _
  simp only [List.take_succ_cons, List.take_zero, List.drop_succ_cons, List.drop_zero]
  refine WLeft.out ?_
  refine still_val (.int .i64 0) (by kernel_rfl) (by kernel_rfl) ?_
  refine still_val (.bool false) (by kernel_rfl) (by kernel_rfl) ?_
  refine still_val (.bool false) (by kernel_rfl) (by kernel_rfl) ?_
  refine still_skip (by kernel_rfl) ?_
  refine still_skip (by kernel_rfl) ?_
  refine still_skip (by kernel_rfl) ?_
  refine still_val (.bool false) (by kernel_rfl) (by kernel_rfl) ?_
  refine still_val (.agg (rc n z db dc wb wc bb bc (!R.on) R.offs R.acts cuts left whole mask)) (by kernel_rfl) (still_load (.pointer (some ⟨w.heap.size, 0, none⟩)) rfl (by kernel_rfl) (load_blk HXw.out.box Tryz.underlying33 rfl info_ref)) ?_
  refine still_val (.bool false) (by kernel_rfl) (by kernel_rfl) ?_
  refine still_end ?_
  simp only [Act.put, List.setIfInBounds_toArray, List.set_cons_zero, List.set_cons_succ]
  go_wp2_with ((with_reducible refine pick none ?_); refine wpList_store_blk rfl 33 _ _ rfl (w.heap.size + 1 + 1) (rc n z db dc wb wc bb bc (!R.on) R.offs R.acts cuts left whole mask) rfl rfl 33 zeroRef HXw.out.res info_ref rfl (rc_one _ _ _ _ _ _ _ _ _ _ _ _ _ _ _) ?_; intro w6 hb6 hg6)
  refine bodyPost_ret (v := .tuple #[.bool false, .agg (rc n z db dc wb wc bb bc (!R.on) R.offs R.acts cuts left whole mask)]) ?_ rfl ⟨false, _, rfl, fun e => (by have h1 := HON.out; have h2 := HRON.out; rw [e] at h1; rw [h1] at h2; cases h2), dev_chg HDw.out hg6 (fun k h1 h2 e => by omega), Ref.of rfl (RefP.other (refP_chg HP.out HXw.out.chg hh) HXw.out.res hg6) HR.out, HXw.out.done hg6⟩
  exact results_tmp_row (fn := Tryz.f11) rfl _ _ (w.heap.size + 1 + 1) 33 _ (0, 0) _ rfl hb6 Tryz.underlying33 rfl info_ref
set_option maxRecDepth 100000 in
set_option maxHeartbeats 1000000 in
theorem do_read_ok_ok (w : World) (v : Value) (hD : Dev w lo hi d n z K D) (hR : Ref w rl n z K R v) (hh : hi ≤ rl) (hl : rl ≤ w.heap.size) (hK : K + 3 ≤ 1000000) (se off : Int) (B : Option Addr) (bl bq : Nat) (m : Nat) (kk mm : Int) (hon : D.on = true) (hron : R.on = true) (hin : inside n z (pl se off).1 (pl se off).2 m = true) :
    Calls Tryz.prog 11 #[.pointer (some ⟨d, 0, none⟩), v, .agg #[.int .i64 2, .int .i64 se, .int .i64 off, .slice B bl bq, .int .i64 m, .int .i64 kk, .int .u8 mm]] w (DoPost w lo hi d rl n z (K) (D) (R) (D = R)) := by
  obtain ⟨db, dc, wb, wc, bb, bc, cuts, left, whole, mask, L, LC, rfl, hP, hr⟩ := hR
  have HP := Lib.hid hP
  have HR := Lib.hid hr
  have HX := Lib.hid (DX.of w lo hi (rc n z db dc wb wc bb bc (!R.on) R.offs R.acts cuts left whole mask) #[.int .i64 2, .int .i64 se, .int .i64 off, .slice B bl bq, .int .i64 m, .int .i64 kk, .int .u8 mm])
  have HD := Lib.hid (dev_below hD (three_below w (.cells (rc n z db dc wb wc bb bc (!R.on) R.offs R.acts cuts left whole mask) 33) (.cells #[.int .i64 2, .int .i64 se, .int .i64 off, .slice B bl bq, .int .i64 m, .int .i64 kk, .int .u8 mm] 43) (.cells zeroRef 33)))
  clear hP hr hD
  have hhw : hi ≤ w.heap.size := by omega
  unfold refVal
  have HON := Lib.hid hon
  have HRON := Lib.hid hron
  clear hon hron
  have HIN := Lib.hid hin
  go_enter Tryz.func11, Tryz.ntmps11
  go_upto_region 1 with (fail)
  change Code.wp _ _ _ _ (((w.alloc (.cells (rc n z db dc wb wc bb bc (!R.on) R.offs R.acts cuts left whole mask) 33)).alloc (.cells #[.int .i64 2, .int .i64 se, .int .i64 off, .slice B bl bq, .int .i64 m, .int .i64 kk, .int .u8 mm] 43)).alloc (.cells zeroRef 33))
  generalize ((w.alloc (.cells (rc n z db dc wb wc bb bc (!R.on) R.offs R.acts cuts left whole mask) 33)).alloc (.cells #[.int .i64 2, .int .i64 se, .int .i64 off, .slice B bl bq, .int .i64 m, .int .i64 kk, .int .u8 mm] 43)).alloc (.cells zeroRef 33) = W at *
  have o0 : W.cell? ⟨w.heap.size + 1, 0, none⟩ = some (.int .i64 2) := HX.out.op.cell 0
  have o1 : W.cell? ⟨w.heap.size + 1, 1, none⟩ = some (.int .i64 se) := HX.out.op.cell 1
  have o2 : W.cell? ⟨w.heap.size + 1, 2, none⟩ = some (.int .i64 off) := HX.out.op.cell 2
  have o4 : W.cell? ⟨w.heap.size + 1, 4, none⟩ = some (.int .i64 m) := HX.out.op.cell 4
  have hin' := HIN.out
  unfold inside at hin'
  rw [decide_eq_true_eq] at hin'
  have hin2 : (pl se off).1 < n := by omega
  have hin3 : (pl se off).2 + m ≤ z := by omega
  have hz4 := HP.out.geo.2.2.2
  have hn64 := HP.out.geo.2.1
  clear hin' hin
  go_wp2_with (first
    | (go_at_call 7; refine (of_num _ _ _).mono ?_; rintro e w' ⟨x, y, rfl, hxy, rfl⟩; have HXY := Lib.hid hxy; clear hxy)
    | (go_at_call 34; refine (dread_ok W HD.out x y m (pl se off).1 (pl se off).2 HON.out HXY.out.1 HXY.out.2.1 HXY.out.2.2.1 HXY.out.2.2.2 HIN.out).mono ?_; rintro e w1 ⟨g1, cap1, rfl, ho1, hb1⟩; have HO1 := Lib.hid ho1; have hgp := ho1.place; have hWl := HX.out.lt; clear ho1; have HX1 := Lib.hid (HX.out.below hb1 hhw); have HD1 := Lib.hid (dev_below HD.out hb1); clear hb1 o0 o1 o2 o4; have HTW := Lib.hid (twelve HX1.out.box); have t5 : w1.cell? ⟨w.heap.size, 5, none⟩ = some (.bool false) := (by have := HTW.out.2.2.2.2.2.1; rw [HRON.out] at this; exact this); have t0 := HTW.out.1; have t1 := HTW.out.2.1; have o4 : w1.cell? ⟨w.heap.size + 1, 4, none⟩ = some (.int .i64 m) := HX1.out.op.cell 4)
    | (go_at_call 28; refine (refWithin_calls (n := n) (z := z) x y _ _ HXY.out.1 HXY.out.2.1 (by omega) (by omega) hn64 hz4).mono ?_; rw [HXY.out.2.2.1, HXY.out.2.2.2, HIN.out]; rintro e w2 ⟨rfl, hb2⟩; have HX2 := Lib.hid (HX1.out.below hb2 hhw); have HD2 := Lib.hid (dev_below HD1.out hb2); have HB2 := Lib.hid hb2; clear hb2 t0 t1 t5 o4)
    | (go_at_call 31; refine (offset_calls x y _ HXY.out.2.1).mono ?_; rw [HXY.out.2.2.2]; rintro e w' ⟨rfl, rfl⟩))
  have HXv := Lib.hid HX2.out.drew
  have HDv := Lib.hid (dev_below HD2.out ((Below.refl _ w2).drew))
  have HOv := Lib.hid ((HO1.out.below HB2.out).below ((Below.refl _ w2).drew))
  have HPv := Lib.hid (refP_chg (lo := lo) (hi := hi) HP.out HXv.out.chg hh)
  have hsz2 := HB2.out.size
  refine lit_drew (by kernel_rfl) (by kernel_rfl) ?_
  generalize hvw : w2.drew = Wv at *
  obtain ⟨A2, c2, hsl, hbs2⟩ := part_of (HPv.out.rows (pl se off).1 hin2).1 (HPv.out.rows (pl se off).1 hin2).2.1.2.1 hin3
  have hs1 := HOv.out.str_ (P := Tryz.prog) 38 9 Tryz.underlying38 Tryz.underlying5 Tryz.underlying9
  have hs2 := hbs2.str_ (P := Tryz.prog) (c := c2) 38 9 Tryz.underlying38 Tryz.underlying5 Tryz.underlying9
  have hEQ : Hid (D = R → str (((D.row (pl se off).1).drop (pl se off).2).take m) = str (((R.row (pl se off).1).drop (pl se off).2).take m)) := Lib.hid fun e => by rw [e]
  generalize str (((D.row (pl se off).1).drop (pl se off).2).take m) = tt at hs1 hEQ
  generalize str (((R.row (pl se off).1).drop (pl se off).2).take m) = uu at hs2 hEQ
  have t2 : Wv.cell? ⟨w.heap.size, 2, none⟩ = some (.slice (some ⟨db, 0, none⟩) n dc) := (twelve HXv.out.box).2.2.1
  have kd : Wv.cell? ⟨db, (pl se off).1, none⟩ = some (.slice (some ⟨L (pl se off).1, 0, none⟩) z (LC (pl se off).1)) := HPv.out.data.cell hin2
  have o4 : Wv.cell? ⟨w.heap.size + 1, 4, none⟩ = some (.int .i64 m) := HXv.out.op.cell 4
  have hsec : Calls Tryz.prog 29 #[.complex .f64 x y] Wv (fun e w'' => e = .returned (.int .i64 ((pl se off).1 : Int)) ∧ w'' = Wv) := (sector_calls x y Wv HXY.out.1).mono fun e w' ⟨h1, h2⟩ => ⟨by rw [h1, HXY.out.2.2.1], h2.symm⟩
  have hwr : IntKind.i64.wrap (((pl se off).2 : Int) + (m : Int)) = ((pl se off).2 : Int) + (m : Int) := IntWalk.i64_in _ (by omega)
  have HSL := Lib.hid hsl
  clear hsl hbs2
  refine still_val (.int .i64 0) (by kernel_rfl) (by kernel_rfl) ?_
  refine still_val (.bool true) (by kernel_rfl) (by kernel_rfl) ?_
  refine still_val (.bool true) (by kernel_rfl) (by kernel_rfl) ?_
  refine still_val (.slice (some ⟨g1, 0, none⟩) m cap1) (by kernel_rfl) (by kernel_rfl) ?_
  refine still_val (.string tt) (by kernel_rfl) (still_conv rfl (by kernel_rfl) hs1) ?_
  refine still_val (.pointer (some ⟨w.heap.size, 2, none⟩)) (by kernel_rfl) (by kernel_rfl) ?_
  refine still_val (.slice (some ⟨db, 0, none⟩) n dc) (by kernel_rfl) (still_load (.pointer (some ⟨w.heap.size, 2, none⟩)) rfl (by kernel_rfl) (by go_simp)) ?_
  refine still_val (.complex .f64 x y) (by kernel_rfl) (by kernel_rfl) ?_
  refine still_ent (.int .i64 ((pl se off).1 : Int)) (by kernel_rfl) (by kernel_rfl) hsec ?_
  refine still_val (.pointer (some ⟨db, (pl se off).1, none⟩)) (by kernel_rfl) (still_index (.slice (some ⟨db, 0, none⟩) n dc) (.int .i64 ((pl se off).1 : Int)) rfl (by kernel_rfl) (by kernel_rfl) (at_of hin2)) ?_
  refine still_val (.slice (some ⟨L (pl se off).1, 0, none⟩) z (LC (pl se off).1)) (by kernel_rfl) (still_load (.pointer (some ⟨db, (pl se off).1, none⟩)) rfl (by kernel_rfl) (by go_simp)) ?_
  refine still_val (.int .i64 ((pl se off).2 : Int)) (by kernel_rfl) (by kernel_rfl) ?_
  refine still_val (.int .i64 ((pl se off).2 : Int)) (by kernel_rfl) (by kernel_rfl) ?_
  refine still_val (.pointer (some ⟨w.heap.size + 1, 4, none⟩)) (by kernel_rfl) (by kernel_rfl) ?_
  refine still_val (.int .i64 (m : Int)) (by kernel_rfl) (still_load (.pointer (some ⟨w.heap.size + 1, 4, none⟩)) rfl (by kernel_rfl) (by go_simp)) ?_
  refine still_val (.int .i64 (((pl se off).2 : Int) + (m : Int))) (by kernel_rfl) (still_bin (.int .i64 ((pl se off).2 : Int)) (.int .i64 (m : Int)) rfl (by kernel_rfl) (by kernel_rfl) (by go_simp) (by go_simp)) ?_
  refine still_val (.slice A2 m c2) (by kernel_rfl) (still_slice (.slice (some ⟨L (pl se off).1, 0, none⟩) z (LC (pl se off).1)) (.int .i64 ((pl se off).2 : Int)) (.int .i64 (((pl se off).2 : Int) + (m : Int))) rfl (by kernel_rfl) (by kernel_rfl) (by kernel_rfl) HSL.out) ?_
  refine still_val (.string uu) (by kernel_rfl) (still_conv rfl (by kernel_rfl) hs2) ?_
  by_cases htu : tt.toList = uu.toList
  all_goals rcases Nat.eq_zero_or_pos m with hm | hm
  · refine still_val (.bool true) (by kernel_rfl) (still_bin (.string tt) (.string uu) rfl (by kernel_rfl) (by kernel_rfl) (by go_simp) (by go_simp)) ?_
    refine still_val (.bool true) (by kernel_rfl) (by kernel_rfl) ?_
    refine still_val (.bool true) (by kernel_rfl) (by kernel_rfl) ?_
    refine still_end ?_
    have HTU := Lib.hid htu
    clear htu
    simp only [Act.put, List.setIfInBounds_toArray, List.set_cons_zero, List.set_cons_succ]
    subst hm
    go_wp2_with ((with_reducible refine pick none ?_); refine wpList_clear_none rfl _ 38 5 rfl Tryz.underlying38 (some ⟨g1, 0, none⟩) cap1 rfl ?_)
    have HXw := Lib.hid HXv.out.drew
    have HDw := Lib.hid (dev_below HDv.out ((Below.refl _ Wv).drew))
    refine wp_region_still_tail 3 (by kernel_rfl) (by kernel_rfl) ?_
    change wpStill _ _ Wv.drew (fun a' => wpList _ _ _ _ a' Wv.drew) _ _
    simp only [List.take_succ_cons, List.take_zero, List.drop_succ_cons, List.drop_zero]
    refine WLeft.out ?_
    refine still_val (.bool true) (by kernel_rfl) (by kernel_rfl) ?_
    refine still_val (.agg (rc n z db dc wb wc bb bc (!R.on) R.offs R.acts cuts left whole mask)) (by kernel_rfl) (still_load (.pointer (some ⟨w.heap.size, 0, none⟩)) rfl (by kernel_rfl) (load_blk HXw.out.box Tryz.underlying33 rfl info_ref)) ?_
    refine still_val (.bool true) (by kernel_rfl) (by kernel_rfl) ?_
    refine still_end ?_
    simp only [Act.put, List.setIfInBounds_toArray, List.set_cons_zero, List.set_cons_succ]
    go_wp2_with ((with_reducible refine pick none ?_); refine wpList_store_blk rfl 33 _ _ rfl (w.heap.size + 1 + 1) (rc n z db dc wb wc bb bc (!R.on) R.offs R.acts cuts left whole mask) rfl rfl 33 zeroRef HXw.out.res info_ref rfl (rc_one _ _ _ _ _ _ _ _ _ _ _ _ _ _ _) ?_; intro w6 hb6 hg6)
    refine bodyPost_ret (v := .tuple #[.bool true, .agg (rc n z db dc wb wc bb bc (!R.on) R.offs R.acts cuts left whole mask)]) ?_ rfl ⟨true, _, rfl, fun _ => rfl, dev_chg HDw.out hg6 (fun k h1 h2 e => by omega), Ref.of rfl (RefP.other (refP_chg HP.out HXw.out.chg hh) HXw.out.res hg6) HR.out, HXw.out.done hg6⟩
    exact results_tmp_row (fn := Tryz.f11) rfl _ _ (w.heap.size + 1 + 1) 33 _ (0, 0) _ rfl hb6 Tryz.underlying33 rfl info_ref
  · refine still_val (.bool true) (by kernel_rfl) (still_bin (.string tt) (.string uu) rfl (by kernel_rfl) (by kernel_rfl) (by go_simp) (by go_simp)) ?_
    refine still_val (.bool true) (by kernel_rfl) (by kernel_rfl) ?_
    refine still_val (.bool true) (by kernel_rfl) (by kernel_rfl) ?_
    refine still_end ?_
    have HTU := Lib.hid htu
    clear htu
    simp only [Act.put, List.setIfInBounds_toArray, List.set_cons_zero, List.set_cons_succ]
    go_wp2_with ((with_reducible refine pick none ?_); refine wpList_clear_bytes rfl _ _ rfl W.heap.size 5 Tryz.underlying38 zero_u8 g1 m cap1 _ rfl HOv.out hm ?_; intro w5 hg5)
    have HC5 := Lib.hid (Chg.of_grown (S := fun q => q = g1) hg5 (fun k e => .inl (by injection e with e; exact e.symm)))
    have HXw := Lib.hid (DX.own HXv.out HC5.out (by omega)).drew
    have HDw := Lib.hid (dev_below (dev_chg HDv.out HC5.out (fun k h1 h2 e => by omega)) ((Below.refl _ w5).drew))
    refine wp_region_still_tail 3 (by kernel_rfl) (by kernel_rfl) ?_
    change wpStill _ _ w5.drew (fun a' => wpList _ _ _ _ a' w5.drew) _ _
    simp only [List.take_succ_cons, List.take_zero, List.drop_succ_cons, List.drop_zero]
    refine WLeft.out ?_
    refine still_val (.bool true) (by kernel_rfl) (by kernel_rfl) ?_
    refine still_val (.agg (rc n z db dc wb wc bb bc (!R.on) R.offs R.acts cuts left whole mask)) (by kernel_rfl) (still_load (.pointer (some ⟨w.heap.size, 0, none⟩)) rfl (by kernel_rfl) (load_blk HXw.out.box Tryz.underlying33 rfl info_ref)) ?_
    refine still_val (.bool true) (by kernel_rfl) (by kernel_rfl) ?_
    refine still_end ?_
    simp only [Act.put, List.setIfInBounds_toArray, List.set_cons_zero, List.set_cons_succ]
    go_wp2_with ((with_reducible refine pick none ?_); refine wpList_store_blk rfl 33 _ _ rfl (w.heap.size + 1 + 1) (rc n z db dc wb wc bb bc (!R.on) R.offs R.acts cuts left whole mask) rfl rfl 33 zeroRef HXw.out.res info_ref rfl (rc_one _ _ _ _ _ _ _ _ _ _ _ _ _ _ _) ?_; intro w6 hb6 hg6)
    refine bodyPost_ret (v := .tuple #[.bool true, .agg (rc n z db dc wb wc bb bc (!R.on) R.offs R.acts cuts left whole mask)]) ?_ rfl ⟨true, _, rfl, fun _ => rfl, dev_chg HDw.out hg6 (fun k h1 h2 e => by omega), Ref.of rfl (RefP.other (refP_chg HP.out HXw.out.chg hh) HXw.out.res hg6) HR.out, HXw.out.done hg6⟩
    exact results_tmp_row (fn := Tryz.f11) rfl _ _ (w.heap.size + 1 + 1) 33 _ (0, 0) _ rfl hb6 Tryz.underlying33 rfl info_ref
  · refine still_val (.bool false) (by kernel_rfl) (still_bin (.string tt) (.string uu) rfl (by kernel_rfl) (by kernel_rfl) (by go_simp) (by go_simp)) ?_
    refine still_val (.bool false) (by kernel_rfl) (by kernel_rfl) ?_
    refine still_val (.bool false) (by kernel_rfl) (by kernel_rfl) ?_
    refine still_end ?_
    have HTU := Lib.hid htu
    clear htu
    simp only [Act.put, List.setIfInBounds_toArray, List.set_cons_zero, List.set_cons_succ]
    subst hm
    go_wp2_with ((with_reducible refine pick none ?_); refine wpList_clear_none rfl _ 38 5 rfl Tryz.underlying38 (some ⟨g1, 0, none⟩) cap1 rfl ?_)
    have HXw := Lib.hid HXv.out.drew
    have HDw := Lib.hid (dev_below HDv.out ((Below.refl _ Wv).drew))
    refine wp_region_still_tail 3 (by kernel_rfl) (by kernel_rfl) ?_
    change wpStill _ _ Wv.drew (fun a' => wpList _ _ _ _ a' Wv.drew) _ _
    simp only [List.take_succ_cons, List.take_zero, List.drop_succ_cons, List.drop_zero]
    refine WLeft.out ?_
    refine still_val (.bool false) (by kernel_rfl) (by kernel_rfl) ?_
    refine still_val (.agg (rc n z db dc wb wc bb bc (!R.on) R.offs R.acts cuts left whole mask)) (by kernel_rfl) (still_load (.pointer (some ⟨w.heap.size, 0, none⟩)) rfl (by kernel_rfl) (load_blk HXw.out.box Tryz.underlying33 rfl info_ref)) ?_
    refine still_val (.bool false) (by kernel_rfl) (by kernel_rfl) ?_
    refine still_end ?_
    simp only [Act.put, List.setIfInBounds_toArray, List.set_cons_zero, List.set_cons_succ]
    go_wp2_with ((with_reducible refine pick none ?_); refine wpList_store_blk rfl 33 _ _ rfl (w.heap.size + 1 + 1) (rc n z db dc wb wc bb bc (!R.on) R.offs R.acts cuts left whole mask) rfl rfl 33 zeroRef HXw.out.res info_ref rfl (rc_one _ _ _ _ _ _ _ _ _ _ _ _ _ _ _) ?_; intro w6 hb6 hg6)
    refine bodyPost_ret (v := .tuple #[.bool false, .agg (rc n z db dc wb wc bb bc (!R.on) R.offs R.acts cuts left whole mask)]) ?_ rfl ⟨false, _, rfl, fun e => (by have h1 := hEQ.out e; rw [h1] at HTU; exact (HTU.out rfl).elim), dev_chg HDw.out hg6 (fun k h1 h2 e => by omega), Ref.of rfl (RefP.other (refP_chg HP.out HXw.out.chg hh) HXw.out.res hg6) HR.out, HXw.out.done hg6⟩
    exact results_tmp_row (fn := Tryz.f11) rfl _ _ (w.heap.size + 1 + 1) 33 _ (0, 0) _ rfl hb6 Tryz.underlying33 rfl info_ref
  · refine still_val (.bool false) (by kernel_rfl) (still_bin (.string tt) (.string uu) rfl (by kernel_rfl) (by kernel_rfl) (by go_simp) (by go_simp)) ?_
    refine still_val (.bool false) (by kernel_rfl) (by kernel_rfl) ?_
    refine still_val (.bool false) (by kernel_rfl) (by kernel_rfl) ?_
    refine still_end ?_
    have HTU := Lib.hid htu
    clear htu
    simp only [Act.put, List.setIfInBounds_toArray, List.set_cons_zero, List.set_cons_succ]
    go_wp2_with ((with_reducible refine pick none ?_); refine wpList_clear_bytes rfl _ _ rfl W.heap.size 5 Tryz.underlying38 zero_u8 g1 m cap1 _ rfl HOv.out hm ?_; intro w5 hg5)
    have HC5 := Lib.hid (Chg.of_grown (S := fun q => q = g1) hg5 (fun k e => .inl (by injection e with e; exact e.symm)))
    have HXw := Lib.hid (DX.own HXv.out HC5.out (by omega)).drew
    have HDw := Lib.hid (dev_below (dev_chg HDv.out HC5.out (fun k h1 h2 e => by omega)) ((Below.refl _ w5).drew))
    refine wp_region_still_tail 3 (by kernel_rfl) (by kernel_rfl) ?_
    change wpStill _ _ w5.drew (fun a' => wpList _ _ _ _ a' w5.drew) _ _
    simp only [List.take_succ_cons, List.take_zero, List.drop_succ_cons, List.drop_zero]
    refine WLeft.out ?_
    refine still_val (.bool false) (by kernel_rfl) (by kernel_rfl) ?_
    refine still_val (.agg (rc n z db dc wb wc bb bc (!R.on) R.offs R.acts cuts left whole mask)) (by kernel_rfl) (still_load (.pointer (some ⟨w.heap.size, 0, none⟩)) rfl (by kernel_rfl) (load_blk HXw.out.box Tryz.underlying33 rfl info_ref)) ?_
    refine still_val (.bool false) (by kernel_rfl) (by kernel_rfl) ?_
    refine still_end ?_
    simp only [Act.put, List.setIfInBounds_toArray, List.set_cons_zero, List.set_cons_succ]
    go_wp2_with ((with_reducible refine pick none ?_); refine wpList_store_blk rfl 33 _ _ rfl (w.heap.size + 1 + 1) (rc n z db dc wb wc bb bc (!R.on) R.offs R.acts cuts left whole mask) rfl rfl 33 zeroRef HXw.out.res info_ref rfl (rc_one _ _ _ _ _ _ _ _ _ _ _ _ _ _ _) ?_; intro w6 hb6 hg6)
    refine bodyPost_ret (v := .tuple #[.bool false, .agg (rc n z db dc wb wc bb bc (!R.on) R.offs R.acts cuts left whole mask)]) ?_ rfl ⟨false, _, rfl, fun e => (by have h1 := hEQ.out e; rw [h1] at HTU; exact (HTU.out rfl).elim), dev_chg HDw.out hg6 (fun k h1 h2 e => by omega), Ref.of rfl (RefP.other (refP_chg HP.out HXw.out.chg hh) HXw.out.res hg6) HR.out, HXw.out.done hg6⟩
    exact results_tmp_row (fn := Tryz.f11) rfl _ _ (w.heap.size + 1 + 1) 33 _ (0, 0) _ rfl hb6 Tryz.underlying33 rfl info_ref
end
end Go.Proofs.YthbafcihmcjchaaGreatDoor.NorDs
