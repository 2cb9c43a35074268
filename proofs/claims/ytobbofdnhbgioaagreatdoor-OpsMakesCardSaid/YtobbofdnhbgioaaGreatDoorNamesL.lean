import Derived.Test.YtobbofdnhbgioaaGreatDoorSq
import Derived.Test.YtobbofdnhbgioaaGreatDoorNamesS
import Derived.Lib.MinMax
set_option linter.unusedVariables false
set_option linter.unusedSimpArgs false
namespace Go.Proofs.YtobbofdnhbgioaaGreatDoor.NamesL
open Go.RowKit
open Byte KeysM NamesM Lst Tx NamesR NamesS
open Own (keeps)
def Mx (w : World) : Prop := ∃ m,w.cell? ⟨0,0,none⟩ = some (.int .i64 m)
theorem Mx.below {w w' : World} (h : Mx w) (hb : Below w.heap.size w w') : Mx w' := by
 obtain ⟨m,hm⟩ := h
 have hlt : 0 < w.heap.size := Classical.byContradiction fun hn => by
  have h0 : w.heap[0]? = none := Array.getElem?_eq_none (by omega)
  simp [World.cell?,h0] at hm
 exact ⟨m,(hb.cell (p := ⟨0,0,none⟩) hlt).trans hm⟩
def SplitOk : Prop := ∀ (s : ByteArray) (w : World),s.size ≤ 100000 → Mx w → Calls Tryz.prog 119 #[.string s] w (SplE s w)
theorem below_lit {w : World} (cs : Array Value) (T : TypeId) : Below w.heap.size w (w.alloc (.cells cs T)) := bW_
theorem spl_small (s : ByteArray) : (spl s).1.length ≤ 16 ∧ ∀ x ∈ (spl s).1,x.size ≤ 32 := by
 unfold spl
 split
 ·exact ⟨by decide,fun x hx => by cases hx⟩
 ·split
  ·exact ⟨by decide,fun x hx => by cases hx⟩
  ·split
   ·exact ⟨by decide,fun x hx => by cases hx⟩
   ·split
    ·rename_i h
     rw [Bool.and_eq_true,decide_eq_true_eq] at h
     exact ⟨h.2,fun x hx => (name_pos (List.all_eq_true.1 h.1 x hx)).2⟩
    ·exact ⟨by decide,fun x hx => by cases hx⟩
end Go.Proofs.YtobbofdnhbgioaaGreatDoor.NamesL