import Derived.Test.YtlblfpacnegmlaaViewM
set_option linter.unusedVariables false
set_option linter.unusedSimpArgs false
namespace Go.Proofs.Ytlblfpacnegmlaa.ClashM
open Byte KeysM TreeM ViewM
def inR (k : ByteArray) (r : ByteArray × ByteArray) : Bool := !kl k r.1 && kl k r.2
def hitK (R : List ByteArray) (G : List (ByteArray × ByteArray)) (k : ByteArray) : Bool := R.any (fun x => decide (x = k)) || G.any (inR k)
def clashM (R : List ByteArray) (G : List (ByteArray × ByteArray)) (W : List Pr) : Bool := W.any (fun p => hitK R G p.key)
theorem any_next {α : Type} {l : List α} {i : Nat} {x : α} (h : l[i]? = some x) (f : α → Bool) : (l.take (i + 1)).any f = ((l.take i).any f || f x) := by
 obtain ⟨hk,he⟩ := List.getElem?_eq_some_iff.1 h
 rw [List.take_succ_eq_append_getElem hk,he,List.any_append]
 simp
theorem any_hit {α : Type} {l : List α} {i : Nat} {x : α} (h : l[i]? = some x) {f : α → Bool} (hf : f x = true) : l.any f = true := List.any_eq_true.2 ⟨x,List.mem_of_getElem? h,hf⟩
end Go.Proofs.Ytlblfpacnegmlaa.ClashM