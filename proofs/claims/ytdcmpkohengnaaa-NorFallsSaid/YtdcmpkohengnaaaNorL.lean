/- The law of a device that is nil. -/
import Derived.Test.YtdcmpkohengnaaaNorK
namespace Go.Proofs.Ytdcmpkohengnaaa.NorL
set_option linter.unusedVariables false
set_option linter.unusedSimpArgs false
open Go.RowKit Go.Maps
open Go.Proofs.Ytdcmpkohengnaaa.Byte Go.Proofs.Ytdcmpkohengnaaa.NorD Go.Proofs.Ytdcmpkohengnaaa.NorW Go.Proofs.Ytdcmpkohengnaaa.NorF Go.Proofs.Ytdcmpkohengnaaa.NorJ Go.Proofs.Ytdcmpkohengnaaa.NorK Go.Proofs.Ytdcmpkohengnaaa.PlaceM Go.Proofs.Ytdcmpkohengnaaa.PlaceV

theorem of_any (s o : Int) (w : World) : Calls Try.prog 17 #[.int .i64 s, .int .i64 o] w fun e w' => ∃ x y, e = .returned (.complex .f64 x y) ∧ w = w' := by
  by_cases h : 0 ≤ s ∧ s ≤ 2147483647 ∧ 0 ≤ o ∧ o ≤ 2147483647
  · exact (of_yes s o w h.1 h.2.1 h.2.2.1 h.2.2.2).mono fun e w' ⟨h1, h2⟩ => ⟨_, _, h1, h2⟩
  · exact (of_no s o w (by omega)).mono fun e w' ⟨h1, h2⟩ => ⟨_, _, h1, h2⟩
theorem two_below (w : World) (o o' : Obj) : Below w.heap.size w ((w.alloc o).alloc o') := ((Below.refl _ _).alloc (Nat.le_refl _) _).alloc (by simp) _
theorem one_op (w : World) (op : Opr) : OpsAt (w.alloc (.cells op.cells 40)) (some ⟨w.heap.size, 0, none⟩) 1 (fun _ => op) := fun j hj => by
  obtain rfl : j = 0 := by omega
  refine ⟨w.heap.size, 0, rfl, by simp, fun i v hv => ?_⟩
  have := (Blk.new w 40 op.cells).cell i
  simp only [Nat.zero_mul, Nat.zero_add]
  rw [this, ← Array.getElem?_toList]
  exact hv
set_option maxRecDepth 100000 in
set_option maxHeartbeats 1000000 in
theorem nil_law (kd se off : Int) (B : Option Addr) (bl bc : Nat) (n k mask : Int) (w : World) :
    Calls Try.prog 5 #[.agg #[.int .i64 kd, .int .i64 se, .int .i64 off, .slice B bl bc, .int .i64 n, .int .i64 k, .int .u8 mask]] w fun e w' => e = .returned (.bool true) ∧ Below w.heap.size w w' := by
  have hc : Calls Try.prog 11 #[.slice (some ⟨w.heap.size + 1, 0, none⟩) 1 1] ((w.alloc (.cells #[.int .i64 kd, .int .i64 se, .int .i64 off, .slice B bl bc, .int .i64 n, .int .i64 k, .int .u8 mask] 40)).alloc (.cells #[.int .i64 kd, .int .i64 se, .int .i64 off, .slice B bl bc, .int .i64 n, .int .i64 k, .int .u8 mask] 40))
      (fun e w' => ∃ k0 : Nat, e = .returned (.slice (some ⟨w.heap.size + 1, 0, none⟩) k0 1) ∧ Hid (Blk w' w.heap.size 40 #[.int .i64 kd, .int .i64 se, .int .i64 off, .slice B bl bc, .int .i64 n, .int .i64 k, .int .u8 mask] ∧ Below w.heap.size w w')) := by
    have h1 := one_op (w.alloc (.cells #[.int .i64 kd, .int .i64 se, .int .i64 off, .slice B bl bc, .int .i64 n, .int .i64 k, .int .u8 mask] 40)) ⟨kd, se, off, B, bl, bc, n, k, mask⟩
    rw [show (w.alloc (.cells #[.int .i64 kd, .int .i64 se, .int .i64 off, .slice B bl bc, .int .i64 n, .int .i64 k, .int .u8 mask] 40)).heap.size = w.heap.size + 1 by simp] at h1
    refine (cut_calls _ 1 1 _ _ h1 (by omega) (by omega)).mono fun e w' ⟨k0, he, _, _, _, hb⟩ => ⟨k0, he, Lib.hid ⟨?_, (two_below w _ _).trans (hb.mono (by simp; omega))⟩⟩
    exact ((Blk.new w _ _).alloc _).of_eq (hb.block _ (by simp; omega))
  have HC := Lib.hid hc
  clear hc
  go_enter Try.func5, Try.ntmps5
  go_wp2_with (first
    | (go_at_call 11; refine (HC.out).mono ?_; rintro e w1 ⟨k0, rfl, HS⟩; have j1 : w1.cell? ⟨w.heap.size, 1, none⟩ = some (.int .i64 se) := HS.out.1.cell 1; have j2 : w1.cell? ⟨w.heap.size, 2, none⟩ = some (.int .i64 off) := HS.out.1.cell 2; have j4 : w1.cell? ⟨w.heap.size, 4, none⟩ = some (.int .i64 n) := HS.out.1.cell 4; have j5 : w1.cell? ⟨w.heap.size, 5, none⟩ = some (.int .i64 k) := HS.out.1.cell 5; have j6 : w1.cell? ⟨w.heap.size, 6, none⟩ = some (.int .u8 mask) := HS.out.1.cell 6)
    | (go_at_call 8; refine (fixed_calls _).mono ?_; rintro e w2 ⟨rfl, hb2⟩; have HS2 := Lib.hid (HS.out.1.of_eq (hb2.block _ HS.out.1.lt)); have q1 : w2.cell? ⟨w.heap.size, 1, none⟩ = some (.int .i64 se) := HS2.out.cell 1; have q3 : w2.cell? ⟨w.heap.size, 3, none⟩ = some (.slice B bl bc) := HS2.out.cell 3; have l2 : w.heap.size < w2.heap.size := HS2.out.lt; have HB2 := Lib.hid (HS.out.2.trans (hb2.mono HS.out.2.size)); clear hb2)
    | (go_at_call 17; refine (of_any _ _ _).mono ?_; rintro e w' ⟨x, y, rfl, rfl⟩)
    | (go_at_call 19; refine (spoil_nil _ _).mono ?_; rintro e w' ⟨rfl, rfl⟩)
    | (go_at_call 20; refine (cut_nil _ _ _ _).mono ?_; rintro e w' ⟨rfl, rfl⟩)
    | (go_at_call 21; refine (off_nil _).mono ?_; rintro e w' ⟨rfl, rfl⟩)
    | (go_at_call 18; refine (on_nil _).mono ?_; rintro e w' ⟨rfl, rfl⟩)
    | (go_at_call 22; refine (read_nil _ _ _ _).mono ?_; rintro e w' ⟨rfl, rfl⟩)
    | (go_at_call 23; refine (program_nil _ _ _ _ _ _).mono ?_; rintro e w' ⟨rfl, rfl⟩)
    | (go_at_call 24; refine (erase_nil _ _).mono ?_; rintro e w' ⟨rfl, rfl⟩)
    | (go_at_call 15; refine (wear_nil _ _).mono ?_; rintro e w' ⟨rfl, rfl⟩)
    | (go_at_call 25; refine (acts_nil _).mono ?_; rintro e w' ⟨rfl, rfl⟩)
    | (go_at_call 26; refine (isOn_nil _).mono ?_; rintro e w' ⟨rfl, rfl⟩)
    | (go_at_call 27; refine (offs_nil _).mono ?_; rintro e w' ⟨rfl, rfl⟩)
    | (go_at_call 28; refine (geometry_nil _).mono ?_; rintro e w3 ⟨rfl, hb3⟩; have HB3 := Lib.hid hb3; clear hb3))
  all_goals go_ret
  · exact ⟨rfl, HB2.out⟩
  · have h3 := HB2.out.alloc HB2.out.size (.cells #[.slice B bl bc] 38)
    exact ⟨rfl, h3.trans (HB3.out.mono h3.size)⟩
end Go.Proofs.Ytdcmpkohengnaaa.NorL
