import Derived.Test.YtlblfpacnegmlaaProg
import Derived.OpenShut
import Derived.Deep.Slices
import Derived.ChangeSlices
import Derived.ChangeArms
import Derived.WideShapes
set_option linter.unusedVariables false
namespace Go.Proofs.Ytlblfpacnegmlaa.Form
open Go.RowKit Go.ChangeShapes Go.WideShapes Go.Deep
def Shp (P : Program) : Nat → TypeId → List Value → Prop
 | 0,_,_ => True
 | d + 1,t,cs => match P.underlying t with
   | some (.int k) => ∃ n,cs = [.int k n] ∧ (Lit.int k n).wf = true
   | some .bool => ∃ b,cs = [.bool b]
   | some .string => ∃ s : ByteArray,cs = [.string s] ∧ s.size ≤ maxLen
   | some (.struct fs) => cs.length = P.cellsOf t ∧ ∀ (i : Nat) (f : Field),fs[i]? = some f → Shp P d f.type ((cs.drop f.offset).take (P.cellsOf f.type))
   | some (.array n e) => cs.length = P.cellsOf t ∧ ∀ i : Nat,i < n → Shp P d e ((cs.drop (i * P.cellsOf e)).take (P.cellsOf e))
   | _ => True
section
variable {H : Type} {enc : TypeId × Value → H} {P : Program} {w : World} {base fuel : Nat} {spare : Nat → Bool} {held : Bool}
theorem form_of (d : Nat) : ∀ {t : TypeId} {cs : List Value} {x : DataW H × List MemPlace} {fuel : Nat},DataW.trod enc P w base spare held fuel t cs = some x → Shp P d t cs := by
 induction d with
 | zero => intros; trivial
 | succ d ih =>
   intro t cs x fuel h
   unfold Shp
   split
   ·rename_i ht
    obtain ⟨n,h1,_,h2⟩ := DataW.trod_int ht h
    exact ⟨n,h1,h2⟩
   ·rename_i ht
    obtain ⟨b,h1,_⟩ := DataW.trod_bool ht h
    exact ⟨b,h1⟩
   ·rename_i ht
    obtain ⟨s,h1,_,h2⟩ := DataW.trod_string ht h
    exact ⟨s,h1,h2⟩
   ·rename_i ht
    obtain ⟨xs,n,_,_,hl,hxl,hg⟩ := DataW.trod_struct ht h
    refine ⟨hl,fun i f hf => ?_⟩
    have hi : i < xs.length := by
     rw [hxl]
     exact (Array.getElem?_eq_some_iff.1 hf).1
    have := hg i f hf
    rw [List.getElem?_eq_getElem hi] at this
    exact ih this
   ·rename_i ht
    obtain ⟨xs,m,_,_,hl,hxl,hg⟩ := DataW.trod_array ht h
    refine ⟨hl,fun i hi => ?_⟩
    have := hg i hi
    rw [List.getElem?_eq_getElem (by omega)] at this
    exact ih this
   ·trivial
theorem Shp.string {d : Nat} {t : TypeId} {cs : List Value} (h : Shp P (d + 1) t cs) (ht : P.underlying t = some .string) : ∃ s : ByteArray,cs = [.string s] ∧ s.size ≤ maxLen := by
 unfold Shp at h
 rw [ht] at h
 exact h
theorem slice_of (d : Nat) {t e : TypeId} {cs : List Value} {x : DataW H × List MemPlace} (ht : P.underlying t = some (.slice e)) (hz : 0 < P.cellsOf e) (h : DataW.trod enc P w base (fun _ => true) held fuel t cs = some x) :
 ∃ A m c,cs = [.slice A m c] ∧ m ≤ c ∧ c ≤ maxLen ∧ (A = none → c = 0) ∧ ∀ j,j < m → ∃ b o es,A = some ⟨b,o,none⟩ ∧ b < w.heap.size ∧ es.length = P.cellsOf e ∧ Shp P d e es ∧ ∀ i v,es[i]? = some v → w.cell? ⟨b,o + j * P.cellsOf e + i,none⟩ = some v := by
 rcases open_slice ht h with ⟨hcs,_⟩ | ⟨a,len,cap,m,n,D,Pl,hcs,_,hl,hm,hmm,_,hx⟩
 ·exact ⟨none,0,0,hcs,Nat.le_refl _,by decide,fun _ => rfl,fun j hj => absurd hj (by omega)⟩
 ·have hmc : m = cap := by simpa using hmm
  subst hmc
  refine ⟨some a,len,m,hcs,hl,hm,fun e => (by cases e),fun j hj => ?_⟩
  obtain ⟨b,o,spot⟩ := a
  have hspot : spot = none := by
   obtain ⟨es,h1,_⟩ := hx 0 (by omega)
   obtain ⟨_,hlen,hc⟩ := World.cells?_some h1
   have h0 := hc 0 hz
   rw [List.getElem?_eq_getElem (by omega),Nat.zero_mul] at h0
   exact World.cell?_spot h0
  subst hspot
  have hadd : ∀ k,(⟨b,o,none⟩ : Addr).add k = ⟨b,o + k,none⟩ := fun k => by
   unfold Addr.add
   by_cases h0 : k = 0 <;> simp [h0]
  have hadd2 : ∀ k i,((⟨b,o,none⟩ : Addr).add k).add i = ⟨b,o + k + i,none⟩ := fun k i => by
   rw [hadd]
   unfold Addr.add
   by_cases h0 : i = 0 <;> simp [h0]
  obtain ⟨es,h1,h2⟩ := hx j (by omega)
  obtain ⟨_,hlen,hc⟩ := World.cells?_some h1
  have h0 := hc 0 hz
  rw [List.getElem?_eq_getElem (by omega)] at h0
  refine ⟨b,o,es,rfl,?_,hlen,form_of d h2,fun i v hv => ?_⟩
  ·rw [hadd2] at h0
   exact World.block_lt_of_cell? w _ h0
  ·have hi : i < es.length := (List.getElem?_eq_some_iff.1 hv).1
   have := hc i (by omega)
   rw [hadd2] at this
   rw [this,hv]
end
end Go.Proofs.Ytlblfpacnegmlaa.Form