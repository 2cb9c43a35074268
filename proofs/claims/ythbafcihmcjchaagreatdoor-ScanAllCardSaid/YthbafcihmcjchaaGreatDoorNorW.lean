/- The contracts of a device's small methods. -/
import Derived.Test.YthbafcihmcjchaaGreatDoorProg
import Derived.Test.YthbafcihmcjchaaGreatDoorNorD
import Derived.Test.YthbafcihmcjchaaGreatDoorPlaceV
import Derived.WalkSpells
import Derived.BigGuardPart
import Derived.Lib.MinMax
import Derived.Deep.QuietTactic
import Derived.BigQuiet
import Derived.RegionTactic
namespace Go.Proofs.YthbafcihmcjchaaGreatDoor.NorW
set_option linter.unusedVariables false
set_option linter.unusedSimpArgs false
open Go.RowKit
open Go.Proofs.YthbafcihmcjchaaGreatDoor.Byte Go.Proofs.YthbafcihmcjchaaGreatDoor.NorD
variable {n z sb scap mb : Nat} {on there : Bool} {left whole mask acts offs : Int}

set_option maxHeartbeats 400000 in
theorem isOn_calls (d : Nat) (w : World) (h : Core w d n z sb scap mb on there left whole mask acts offs) :
    Calls Tryz.prog 19 #[.pointer (some ⟨d, 0, none⟩)] w fun e w' => e = .returned (.bool on) ∧ w = w' := by
  have c4 := h.c4
  go_enter Tryz.func19, Tryz.ntmps19
  go_wp2
  go_ret
  exact ⟨rfl, rfl⟩
set_option maxHeartbeats 400000 in
theorem isOn_nil (w : World) :
    Calls Tryz.prog 19 #[.pointer none] w fun e w' => e = .returned (.bool false) ∧ w = w' := by
  go_enter Tryz.func19, Tryz.ntmps19
  go_wp2
  go_ret
  exact ⟨rfl, rfl⟩
set_option maxHeartbeats 400000 in
theorem on_calls (d : Nat) (w : World) (h : Core w d n z sb scap mb on there left whole mask acts offs) :
    Calls Tryz.prog 39 #[.pointer (some ⟨d, 0, none⟩)] w fun e w' => e = .returned (.tuple #[]) ∧ w' = w.setCell ⟨d, 4, none⟩ (.bool true) := by
  have c4 := h.c4
  have f4 := h.fr 4
  go_enter Tryz.func39, Tryz.ntmps39
  go_wp2
  go_end0
  exact ⟨rfl, rfl⟩
set_option maxHeartbeats 400000 in
theorem on_nil (w : World) :
    Calls Tryz.prog 39 #[.pointer none] w fun e w' => e = .returned (.tuple #[]) ∧ w = w' := by
  go_enter Tryz.func39, Tryz.ntmps39
  go_wp2
  go_end0
  exact ⟨rfl, rfl⟩
set_option maxHeartbeats 400000 in
theorem off_calls (d : Nat) (w : World) (h : Core w d n z sb scap mb true there left whole mask acts offs) (h0 : 0 ≤ offs) (h1 : offs < 9223372036854775807) :
    Calls Tryz.prog 37 #[.pointer (some ⟨d, 0, none⟩)] w fun e w' => e = .returned (.tuple #[]) ∧ Core w' d n z sb scap mb false false 0 0 0 acts (offs + 1) ∧ Chg (· = d) w w' := by
  have c4 := h.c4
  have c5 := h.c5
  have c6 := h.c6
  have c7 := h.c7
  have c8 := h.c8
  have c10 := h.c10
  have f4 := h.fr 4
  have f5 := h.fr 5
  have f6 := h.fr 6
  have f7 := h.fr 7
  have f8 := h.fr 8
  have f10 := h.fr 10
  have H := Lib.hid h
  clear h
  go_enter Tryz.func37, Tryz.ntmps37
  go_wp2_with (go_at_call 19; refine (isOn_calls _ _ H.out).mono ?_; rintro e w' ⟨rfl, rfl⟩)
  go_end0
  refine ⟨rfl, ((((((H.out.set4 false).set5 false).set6 0).set7 0).set8 0).set10 _), ?_⟩
  exact ((((((Chg.refl _ w).own 4 _).own 5 _).own 6 _).own 7 _).own 8 _).own 10 _
set_option maxHeartbeats 400000 in
theorem geometry_calls (d : Nat) (w : World) (h : Core w d n z sb scap mb on there left whole mask acts offs) :
    Calls Tryz.prog 42 #[.pointer (some ⟨d, 0, none⟩)] w fun e w' => e = .returned (.agg #[.int .i64 n, .int .i64 z]) ∧ Below w.heap.size w w' := by
  have c0 := h.c0
  have c1 := h.c1
  have l := h.lt
  go_enter Tryz.func42, Tryz.ntmps42
  go_wp2
  exact bodyPost_ret (v := .agg #[.int .i64 n, .int .i64 z]) (by simp [results, Tryz.results42, go_sem]) rfl ⟨rfl, (Below.refl _ _).alloc (Nat.le_refl _) _⟩
end Go.Proofs.YthbafcihmcjchaaGreatDoor.NorW
