import Derived.Test.YtfalhnomhidkcaaGreatDoorSq
import Derived.Test.YtfalhnomhidkcaaGreatDoorNamesS
import Derived.Lib.MinMax
set_option linter.unusedVariables false
set_option linter.unusedSimpArgs false
namespace Go.Proofs.YtfalhnomhidkcaaGreatDoor.NamesL
open Go.RowKit
open Byte KeysM NamesM Lst Tx NamesR NamesS
open Own (keeps)
def Mx (w : World) : Prop := ∃ m,w.cell? ⟨0,0,none⟩ = some (.int .i64 m)
theorem Mx.below {w w' : World} (h : Mx w) (hb : Below w.heap.size w w') : Mx w' := by
 obtain ⟨m,hm⟩ := h
 have hlt : 0 < w.heap.size := Classical.byContradiction fun hn => by
  have h0 : w.heap[0]? = none := Array.getElem?_eq_none (by omega)
  simp [World.cell?,h0] at hm
 exact ⟨m,(hb.cell (p := ⟨0,0,none⟩) hlt).trans hm⟩
def SplitOk : Prop := ∀ (s : ByteArray) (w : World),s.size ≤ 100000 → Mx w → Calls Tryz.prog 68 #[.string s] w (SplE s w)
def UnderOk : Prop := ∀ (A B : Option Addr) (n c m c2 : Nat) (L M : List ByteArray) (w : World),Sl txE w A n L → Sl txE w B m M → n ≤ c → m ≤ c2 → n ≤ 100000 → m ≤ 100000 → Calls Tryz.prog 120 #[.slice A n c,.slice B m c2] w fun e w' => e = .returned (.bool (under L M)) ∧ Below w.heap.size w w'
theorem room_of {T : TypeId} {w : World} {base n c : Nat} {A : Option Addr} {L : List ByteArray} (h : So txE T w base (.slice A n c) n L) : n ≤ c := by
 obtain ⟨A',c',e,h1,_⟩ := So.head h
 injection e with e1 e2 e3
 omega
theorem below_lit {w : World} (cs : Array Value) (T : TypeId) : Below w.heap.size w (w.alloc (.cells cs T)) := bW_
theorem spl_small (s : ByteArray) : (spl s).1.length ≤ 16 ∧ ∀ x ∈ (spl s).1,x.size ≤ 32 := by
 unfold spl
 split
 ·exact ⟨by decide,fun x hx => by cases hx⟩
 ·split
  ·exact ⟨by decide,fun x hx => by cases hx⟩
  ·split
   ·exact ⟨by decide,fun x hx => by cases hx⟩
   ·split
    ·rename_i h
     rw [Bool.and_eq_true,decide_eq_true_eq] at h
     exact ⟨h.2,fun x hx => (name_pos (List.all_eq_true.1 h.1 x hx)).2⟩
    ·exact ⟨by decide,fun x hx => by cases hx⟩
theorem under_no {L M : List ByteArray} (h : ¬ L.length < M.length) : under L M = false := by unfold under; rw [decide_eq_false h]; rfl
theorem under_yes {L M : List ByteArray} (h : L.length < M.length) : under L M = decide (M.take L.length = L) := by unfold under; rw [decide_eq_true h]; rfl
end Go.Proofs.YtfalhnomhidkcaaGreatDoor.NamesL