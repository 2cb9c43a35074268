/- Merged: NorSm. -/
import Derived.Deep.RegionHeld3
import Derived.Deep.DrawnRows
import Derived.Test.YthbafcihmcjchaaGreatDoorScanAllMBW
/- same: a device of a state shows the document's device of that state. -/
namespace Go.Proofs.YthbafcihmcjchaaGreatDoor.NorSm
set_option linter.unusedVariables false
set_option linter.unusedSimpArgs false
open Go.RowKit
open Go.Proofs.YthbafcihmcjchaaGreatDoor.Byte Go.Proofs.YthbafcihmcjchaaGreatDoor.NorD Go.Proofs.YthbafcihmcjchaaGreatDoor.NorM Go.Proofs.YthbafcihmcjchaaGreatDoor.NorS Go.Proofs.YthbafcihmcjchaaGreatDoor.NorF Go.Proofs.YthbafcihmcjchaaGreatDoor.NorG Go.Proofs.YthbafcihmcjchaaGreatDoor.NorH Go.Proofs.YthbafcihmcjchaaGreatDoor.NorB Go.Proofs.YthbafcihmcjchaaGreatDoor.NorP Go.Proofs.YthbafcihmcjchaaGreatDoor.NorR Go.Proofs.YthbafcihmcjchaaGreatDoor.NorU Go.Proofs.YthbafcihmcjchaaGreatDoor.NorV Go.Proofs.YthbafcihmcjchaaGreatDoor.NorX Go.Proofs.YthbafcihmcjchaaGreatDoor.NorY Go.Proofs.YthbafcihmcjchaaGreatDoor.NorZ Go.Proofs.YthbafcihmcjchaaGreatDoor.NorI Go.Proofs.YthbafcihmcjchaaGreatDoor.NorJ Go.Proofs.YthbafcihmcjchaaGreatDoor.NorK Go.Proofs.YthbafcihmcjchaaGreatDoor.NorL Go.Proofs.YthbafcihmcjchaaGreatDoor.NorDo Go.Proofs.YthbafcihmcjchaaGreatDoor.NorDp Go.Proofs.YthbafcihmcjchaaGreatDoor.NorDr Go.Proofs.YthbafcihmcjchaaGreatDoor.NorDs Go.Proofs.YthbafcihmcjchaaGreatDoor.NorW Go.Proofs.YthbafcihmcjchaaGreatDoor.PlaceM Go.Proofs.YthbafcihmcjchaaGreatDoor.PlaceV
attribute [local go_sem ↓] Go.wp_at_zero Go.wp_at_succ

section
variable {lo hi d rl n z K : Nat} {s : St} {sb scap mb : Nat} {there : Bool} {leftD wholeD maskD : Int} {G C : Nat → Nat}
theorem keeps {w v v' : World} (h : Below w.heap.size w v) (hb : Below v.heap.size v v') : Below w.heap.size w v' := h.trans (hb.mono h.size)
theorem pl_nat (k : Nat) (h : k ≤ 2147483647) : pl (k : Int) 0 = (k, 0) := by
  unfold pl
  rw [if_pos (by omega)]
  rfl
theorem dread_all (w : World) (hD : Dev w lo hi d n z K s) (x y k : Nat) (hk : k < n) (hx : rt x = true) (hy : rt y = true) (hi' : nm x = (k : Int)) (ho : nm y = ((0 : Nat) : Int)) (hon : s.on = true) :
    Calls Tryz.prog 34 #[.pointer (some ⟨d, 0, none⟩), .complex .f64 x y, .int .i64 (z : Int)] w
      fun e w' => ∃ g cap, e = .returned (.tuple #[.slice (some ⟨g, 0, none⟩) z cap, .int .i64 0]) ∧ Ob w' w.heap.size 5 g z cap (s.row k) ∧ Below w.heap.size w w' := by
  have hD' := hD
  obtain ⟨_, _, _, _, _, _, _, _, _, h⟩ := hD'
  have hr := (h.fits.row k hk).1
  have hin : inside n z k 0 z = true := by
    unfold inside
    rw [decide_eq_true_eq]
    omega
  refine (dread_ok w hD x y z k 0 ?_ hx hy hi' ho hin).mono fun e w' ⟨g, cap, h1, h2, h3⟩ => ⟨g, cap, h1, ?_, h3⟩
  · exact hon
  · rw [List.drop_zero, List.take_of_length_le (by omega)] at h2
    exact h2
theorem at_ints {w : World} {db n dc i : Nat} (hi : i < n) : (Instr.indexAt 30 (.slice (some ⟨db, 0, none⟩) n dc) (.int .i64 (i : Int))).run Tryz.prog w = .ok (.pointer (some ⟨db, i, none⟩)) w := by
  have hs : (sizeOf (Tryz.prog.elem 30)).run Tryz.prog w = .ok 1 w := by kernel_rfl
  have hT : Tryz.prog.underlying 30 = some (.slice (Tryz.prog.elem 30)) := by kernel_rfl
  rw [run_indexAt_slice (h := hT), if_pos (by omega), hs]
  have e2 : (i : Int).toNat = i := by omega
  simp [Addr.add, e2]
  omega
/-- What the first test of 'same' reads. -/
def SameS (W : World) (g n z : Nat) (s : St) (v : World) : Prop :=
  Below W.heap.size W v ∧ v.cell? ⟨g, 0, none⟩ = some (.int .i64 n) ∧ v.cell? ⟨g, 1, none⟩ = some (.int .i64 z) ∧ v.cell? ⟨g, 5, none⟩ = some (.bool (!s.on)) ∧ v.cell? ⟨g, 6, none⟩ = some (.int .i64 s.offs) ∧ v.cell? ⟨g, 7, none⟩ = some (.int .i64 s.acts)
end
end Go.Proofs.YthbafcihmcjchaaGreatDoor.NorSm
