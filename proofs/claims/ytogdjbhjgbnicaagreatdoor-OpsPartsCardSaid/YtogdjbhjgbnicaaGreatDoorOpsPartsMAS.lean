import Derived.Deep.MidRow
import Derived.Deep.QuietTactic
import Derived.BigQuiet
import Derived.Test.YtogdjbhjgbnicaaGreatDoorTreeR
import Derived.Test.YtogdjbhjgbnicaaGreatDoorViewM
import Derived.Test.YtogdjbhjgbnicaaGreatDoorHo
import Derived.Laws.ResultCell
import Derived.Deep.Cut
import Derived.Deep.RegionLaw
set_option linter.unusedVariables false
set_option linter.unusedSimpArgs false
namespace Go.Proofs.YtogdjbhjgbnicaaGreatDoor.ViewR
open Go.RowKit
open Byte KeysM TreeM ViewM Own Lst TreeR Ho
def rgE : Enc (ByteArray × ByteArray) := ⟨fun p => [.string p.1,.string p.2],2,fun _ => rfl,fun x u hu => by
 simp only [List.mem_cons,List.mem_nil_iff,or_false] at hu
 rcases hu with rfl | rfl <;> rfl,by decide⟩
theorem info_rg : (Tryz.prog.info? 97).map (fun i => (i.zero,i.size,i.bytes)) = some (some (.agg #[.string ⟨#[]⟩,.string ⟨#[]⟩]),rgE.size,32) := by kernel_rfl
structure Sh where
 a : Option Addr
 n : Nat
 c : Nat
def NewA (w : World) (h : Sh) : Prop := ∀ bb oo,h.a = some ⟨bb,oo,none⟩ → w.heap.size ≤ bb
end Go.Proofs.YtogdjbhjgbnicaaGreatDoor.ViewR
namespace Go.Proofs.YtogdjbhjgbnicaaGreatDoor.ViewS
open Go.RowKit
open Byte KeysM TreeM ViewM Own Lst TreeR Ho ViewR
theorem has_yes {G : List (ByteArray × ByteArray)} {a b : ByteArray} {j : Nat} {x : ByteArray × ByteArray} (h : G[j]? = some x) (h1 : x.1 = a) (h2 : x.2 = b) : hasR a b G = true := by
 unfold hasR
 rw [List.any_eq_true]
 exact ⟨x,List.mem_of_getElem? h,by simp [h1,h2]⟩
theorem has_no {G : List (ByteArray × ByteArray)} {a b : ByteArray} (h : ∀ j x,j < G.length → G[j]? = some x → ¬ (x.1 = a ∧ x.2 = b)) : hasR a b G = false := by
 unfold hasR
 rw [List.any_eq_false]
 intro x hx
 obtain ⟨j,hj,rfl⟩ := List.mem_iff_getElem.1 hx
 have := h j _ hj (List.getElem?_eq_getElem hj)
 simpa using this
end Go.Proofs.YtogdjbhjgbnicaaGreatDoor.ViewS