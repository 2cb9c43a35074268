import Derived.Test.YtogdjbhjgbnicaaGreatDoorTreeM
import Derived.Test.YtogdjbhjgbnicaaGreatDoorLst
import Derived.Test.YtogdjbhjgbnicaaGreatDoorProg
import Derived.WalkKit
import Derived.WalkSpells
import Derived.WalkLawsBesides
import Derived.BigGuardPart
import Derived.LoopTactic
set_option linter.unusedVariables false
set_option linter.unusedSimpArgs false
namespace Go.Proofs.YtogdjbhjgbnicaaGreatDoor.TreeR
open Go.RowKit
open Byte KeysM TreeM Own Lst
def prE : Enc Pr := ⟨fun p => [.string p.key,.string p.value,.bool p.gone],3,fun _ => rfl,fun x u hu => by
 simp only [List.mem_cons,List.mem_nil_iff,or_false] at hu
 rcases hu with rfl | rfl | rfl <;> rfl,by decide⟩
theorem info_pair : (Tryz.prog.info? 64).map (fun i => (i.zero,i.size,i.bytes)) = some (some (.agg #[.string ⟨#[]⟩,.string ⟨#[]⟩,.bool false]),prE.size,40) := by kernel_rfl
theorem info_pair3 : (Tryz.prog.info? 64).map (·.size) = some 3 := by kernel_rfl
def Made (L : List Pr) (w : World) (e : Ending) (w' : World) : Prop := ∃ v,e = .returned v ∧ So prE 64 w' w.heap.size v L.length L ∧ Below w.heap.size w w'
theorem pair_cells {w : World} {b o k : Nat} {x : Pr} (h : w.rangeAt b (o + k * prE.size) (prE.cells x)) : w.cell? ⟨b,o + k * 3,none⟩ = some (.string x.key) ∧ w.cell? ⟨b,o + k * 3 + 1,none⟩ = some (.string x.value) ∧ w.cell? ⟨b,o + k * 3 + 2,none⟩ = some (.bool x.gone) ∧ w.rangeAt b (o + k * 3) [.string x.key,.string x.value,.bool x.gone] :=
 ⟨h 0 _ rfl,h 1 _ rfl,h 2 _ rfl,h⟩
theorem eq_list (a b : ByteArray) : (a.toList == b.toList) = decide (a = b) := by
 rw [show a.toList = a.data.toList from ByteArray.toList_eq a,show b.toList = b.data.toList from ByteArray.toList_eq b,Bool.eq_iff_iff,beq_iff_eq,decide_eq_true_eq]
 constructor
 ·intro h
  exact ByteArray.ext (Array.ext' h)
 ·rintro rfl
  rfl
def GotV (o : Option Pr) : Value := match o with | some p => .tuple #[.string p.value,.bool true] | none => .tuple #[.string ⟨#[]⟩,.bool false]
end Go.Proofs.YtogdjbhjgbnicaaGreatDoor.TreeR