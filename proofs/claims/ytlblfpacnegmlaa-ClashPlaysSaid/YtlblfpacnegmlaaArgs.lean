import Derived.Test.YtlblfpacnegmlaaForm
import Derived.Test.YtlblfpacnegmlaaLst
import Derived.Maps.Views
set_option linter.unusedVariables false
namespace Go.Proofs.Ytlblfpacnegmlaa.Args
open Go.RowKit Go.ChangeShapes Go.WideShapes Go.Deep Go.Maps
open Go.Proofs.Ytlblfpacnegmlaa.Form Lst
theorem sl_of {α : Type} [Inhabited α] (e : Enc α) (good : α → Prop) {H : Type} {enc : TypeId × Value → H} {P : Program} {w : World} {base fuel : Nat} {held : Bool} {t T : TypeId} {cs : List Value} {x : DataW H × List MemPlace} (d : Nat) (ht : P.underlying t = some (.slice T)) (hz : P.cellsOf T = e.size)
 (hform : ∀ es,es.length = e.size → Shp P d T es → ∃ y,es = e.cells y ∧ good y) (h : DataW.trod enc P w base (fun _ => true) held fuel t cs = some x) :
 ∃ A m c,∃ L : List α,cs = [.slice A m c] ∧ m ≤ c ∧ c ≤ maxLen ∧ Sl e w A m L ∧ ∀ y ∈ L,good y := by
 obtain ⟨A,m,c,hcs,hl,hm,_,hx⟩ := slice_of d ht (by rw [hz]; exact e.pos) h
 rw [hz] at hx
 obtain ⟨f,hf⟩ := choose_lt (α := α) (n := m) (p := fun j y => (∃ b o,A = some ⟨b,o,none⟩ ∧ b < w.heap.size ∧ w.rangeAt b (o + j * e.size) (e.cells y)) ∧ good y) (fun j hj => by
  obtain ⟨b,o,es,hA,hb,hlen,hs,hc⟩ := hx j hj
  obtain ⟨y,rfl,h1⟩ := hform es hlen hs
  exact ⟨y,⟨b,o,hA,hb,fun i v hv => hc i v hv⟩,h1⟩)
 have hL : ∀ j y,((List.range m).map f)[j]? = some y → j < m ∧ y = f j := fun j y hy => by
  rw [List.getElem?_map] at hy
  obtain ⟨i,hi,rfl⟩ := Option.map_eq_some_iff.1 hy
  obtain ⟨h1,h2⟩ := List.getElem?_eq_some_iff.1 hi
  rw [List.length_range] at h1
  rw [List.getElem_range] at h2
  subst h2
  exact ⟨h1,rfl⟩
 refine ⟨A,m,c,(List.range m).map f,hcs,hl,hm,⟨by simp,fun j y hy => ?_⟩,fun y hy => ?_⟩
 ·obtain ⟨h1,rfl⟩ := hL j y hy
  exact (hf j h1).1
 ·obtain ⟨j,hj⟩ := List.mem_iff_getElem?.1 hy
  obtain ⟨h1,rfl⟩ := hL j y hj
  exact (hf j h1).2
end Go.Proofs.Ytlblfpacnegmlaa.Args