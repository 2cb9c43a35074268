import Derived.Test.YtlblfpacnegmlaaLst
import Derived.Test.YtlblfpacnegmlaaByteS
set_option linter.unusedVariables false
namespace Go.Proofs.Ytlblfpacnegmlaa.Owc
open Go.RowKit
open Byte Lst
section
variable {P : Program} {w : World}
theorem zero_len (z : Array Value) (n : Nat) : (Builtin.zeroCells z n).toList.length = n * z.size := by simp [Builtin.zeroCells]
theorem zero_one (z : Array Value) (n : Nat) (hz : 0 < z.size) (h1 : ∀ i (h : i < z.size),z[i].oneCell' = true) : ∀ v ∈ (Builtin.zeroCells z n).toList,v.oneCell' = true := by
 intro v hv
 simp only [Builtin.zeroCells,Array.toList_map,List.mem_map] at hv
 obtain ⟨i,_,rfl⟩ := hv
 have hm := Nat.mod_lt i hz
 rw [getElem!_pos z (i % z.size) hm]
 exact h1 _ hm
theorem wpList_clear_own {α : Type} (e : Enc α) (T : TypeId) {ops : Array Oper} {rest : List Oper} {o : Oper} {a : Act} {Q : Exit → Act → World → Prop} (hgd : o.guard = none) (s : Operand) (t : TypeId)
 (ho : o.op = .call { callee := .builtin .clear,args := #[s],argTypes := #[t] })
 (base : Nat) (ht : P.underlying t = some (.slice T)) (z : Value) (hzero : ∀ w,(zeroValue T).run P w = .ok z w) (hsz : z.cells.size = e.size) (h1 : ∀ i (h : i < z.cells.size),z.cells[i].oneCell' = true)
 (g n cap : Nat) (L : List α) (hs : a.eval s = .slice (some ⟨g,0,none⟩) n cap) (hown : So e T w base (.slice (some ⟨g,0,none⟩) n cap) n L)
 (h : ∀ w',w.grownBy w' (some g) → wpList P ops Q rest (a.put o.dst (.tuple #[])) w') :
 wpList P ops Q (o :: rest) a w := by
 refine wpList_plain hgd fun K hK => ?_
 rcases Nat.eq_zero_or_pos n with h0 | h0
 ·subst h0
  have hr : (Builtin.clear_ #[t] o.type #[.slice (some ⟨g,0,none⟩) 0 cap]).run P w = .ok (.tuple #[]) w := by simp [Builtin.clear_,run_underlying ht]
  unfold Oper.wp execOp
  simp only [ho,resolve,invoke,builtin,Sem.run_bind,Sem.run_pure,Result.andThen_ok,List.map_toArray,List.map_cons,List.map_nil,hs,hr]
  exact hK _ _ (h w (World.grownBy.refl w _))
 ·have hlen := zero_len z.cells n
  rw [hsz] at hlen
  have hst := run_storeCells_cells (P := P) g 0 (Builtin.zeroCells z.cells n).toList 0 w
   (fun j hj => by
     rw [hlen] at hj
     rw [Nat.zero_add,hown.2.cellAt j hj,List.getElem?_eq_getElem (by rw [flat_len,hown.1]; exact hj)]
     rfl)
   (fun j _ => by rw [Nat.zero_add]; exact hown.2.frozenAt j)
   (zero_one z.cells n (by rw [hsz]; exact e.pos) h1)
  simp only [Nat.add_zero] at hst
  have hr : (Builtin.clear_ #[t] o.type #[.slice (some ⟨g,0,none⟩) n cap]).run P w = .ok (.tuple #[]) (w.setCells g 0 (Builtin.zeroCells z.cells n).toList) := by
   obtain ⟨m,rfl⟩ : ∃ m,n = m + 1 := ⟨n - 1,by omega⟩
   simp [Builtin.clear_,run_underlying ht,hzero,hst]
  unfold Oper.wp execOp
  simp only [ho,resolve,invoke,builtin,Sem.run_bind,Sem.run_pure,Result.andThen_ok,List.map_toArray,List.map_cons,List.map_nil,hs,hr]
  exact hK _ _ (h _ (grown_setCells g _ 0 w))
end
end Go.Proofs.Ytlblfpacnegmlaa.Owc