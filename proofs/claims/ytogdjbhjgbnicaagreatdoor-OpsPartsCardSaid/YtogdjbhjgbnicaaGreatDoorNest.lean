import Derived.Test.YtogdjbhjgbnicaaGreatDoorLst
import Derived.Maps.Views
import Derived.Test.YtogdjbhjgbnicaaGreatDoorProg
import Derived.OpenShut
import Derived.Deep.Slices
import Derived.ChangeSlices
import Derived.ChangeArms
import Derived.WideShapes
set_option linter.unusedVariables false
namespace Go.Proofs.YtogdjbhjgbnicaaGreatDoor.Nest
open Go.RowKit Go.ChangeShapes Go.WideShapes Go.Deep Go.Maps
open Lst
section
variable {H : Type} {enc : TypeId × Value → H} {P : Program} {w : World} {base fuel : Nat} {held : Bool}
theorem slice_deep {t e : TypeId} {cs : List Value} {x : DataW H × List MemPlace} (ht : P.underlying t = some (.slice e)) (hz : 0 < P.cellsOf e) (h : DataW.trod enc P w base (fun _ => true) held fuel t cs = some x) :
 ∃ A m c,cs = [.slice A m c] ∧ m ≤ c ∧ c ≤ maxLen ∧ (A = none → c = 0) ∧ ∀ j,j < m → ∃ b o es,A = some ⟨b,o,none⟩ ∧ b < w.heap.size ∧ es.length = P.cellsOf e ∧ (∃ n y,DataW.trod enc P w base (fun _ => true) held n e es = some y) ∧ ∀ i v,es[i]? = some v → w.cell? ⟨b,o + j * P.cellsOf e + i,none⟩ = some v := by
 rcases open_slice ht h with ⟨hcs,_⟩ | ⟨a,len,cap,m,n,D,Pl,hcs,_,hl,hm,hmm,_,hx⟩
 ·exact ⟨none,0,0,hcs,Nat.le_refl _,by decide,fun _ => rfl,fun j hj => absurd hj (by omega)⟩
 ·have hmc : m = cap := by simpa using hmm
  subst hmc
  refine ⟨some a,len,m,hcs,hl,hm,fun e => (by cases e),fun j hj => ?_⟩
  obtain ⟨b,o,spot⟩ := a
  have hspot : spot = none := by
   obtain ⟨es,h1,_⟩ := hx 0 (by omega)
   obtain ⟨_,hlen,hc⟩ := World.cells?_some h1
   have h0 := hc 0 hz
   rw [List.getElem?_eq_getElem (by omega),Nat.zero_mul] at h0
   exact World.cell?_spot h0
  subst hspot
  have hadd : ∀ k,(⟨b,o,none⟩ : Addr).add k = ⟨b,o + k,none⟩ := fun k => by
   unfold Addr.add
   by_cases h0 : k = 0 <;> simp [h0]
  have hadd2 : ∀ k i,((⟨b,o,none⟩ : Addr).add k).add i = ⟨b,o + k + i,none⟩ := fun k i => by
   rw [hadd]
   unfold Addr.add
   by_cases h0 : i = 0 <;> simp [h0]
  obtain ⟨es,h1,h2⟩ := hx j (by omega)
  obtain ⟨_,hlen,hc⟩ := World.cells?_some h1
  have h0 := hc 0 hz
  rw [List.getElem?_eq_getElem (by omega)] at h0
  refine ⟨b,o,es,rfl,?_,hlen,⟨_,_,h2⟩,fun i v hv => ?_⟩
  ·rw [hadd2] at h0
   exact World.block_lt_of_cell? w _ h0
  ·have hi : i < es.length := (List.getElem?_eq_some_iff.1 hv).1
   have := hc i (by omega)
   rw [hadd2] at this
   rw [this,hv]
theorem sl_deep {α : Type} [Inhabited α] (e : Enc α) (good : α → Prop) {t T : TypeId} {cs : List Value} {x : DataW H × List MemPlace} (ht : P.underlying t = some (.slice T)) (hz : P.cellsOf T = e.size)
 (hform : ∀ es n z,es.length = e.size → DataW.trod enc P w base (fun _ => true) held n T es = some z → ∃ y,es = e.cells y ∧ good y) (h : DataW.trod enc P w base (fun _ => true) held fuel t cs = some x) :
 ∃ A m c,∃ L : List α,cs = [.slice A m c] ∧ m ≤ c ∧ c ≤ maxLen ∧ Sl e w A m L ∧ (∀ y ∈ L,good y) ∧ (A = none → c = 0) := by
 obtain ⟨A,m,c,hcs,hl,hm,hA,hx⟩ := slice_deep ht (by rw [hz]; exact e.pos) h
 rw [hz] at hx
 obtain ⟨f,hf⟩ := choose_lt (α := α) (n := m) (p := fun j y => (∃ b o,A = some ⟨b,o,none⟩ ∧ b < w.heap.size ∧ w.rangeAt b (o + j * e.size) (e.cells y)) ∧ good y) (fun j hj => by
  obtain ⟨b,o,es,hA,hb,hlen,⟨n,z,hs⟩,hc⟩ := hx j hj
  obtain ⟨y,rfl,h1⟩ := hform es n z hlen hs
  exact ⟨y,⟨b,o,hA,hb,fun i v hv => hc i v hv⟩,h1⟩)
 have hL : ∀ j y,((List.range m).map f)[j]? = some y → j < m ∧ y = f j := fun j y hy => by
  rw [List.getElem?_map] at hy
  obtain ⟨i,hi,rfl⟩ := Option.map_eq_some_iff.1 hy
  obtain ⟨h1,h2⟩ := List.getElem?_eq_some_iff.1 hi
  rw [List.length_range] at h1
  rw [List.getElem_range] at h2
  subst h2
  exact ⟨h1,rfl⟩
 refine ⟨A,m,c,(List.range m).map f,hcs,hl,hm,⟨by simp,fun j y hy => ?_⟩,fun y hy => ?_,hA⟩
 ·obtain ⟨h1,rfl⟩ := hL j y hy
  exact (hf j h1).1
 ·obtain ⟨j,hj⟩ := List.mem_iff_getElem?.1 hy
  obtain ⟨h1,rfl⟩ := hL j y hj
  exact (hf j h1).2
end
end Go.Proofs.YtogdjbhjgbnicaaGreatDoor.Nest