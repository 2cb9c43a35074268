/- The plain mathematics of layer 21: what was read, and written. Names no program. -/
import Derived.Test.YtlblfpacnegmlaaViewM
namespace Go.Proofs.Ytlblfpacnegmlaa.ClashM
set_option linter.unusedVariables false
set_option linter.unusedSimpArgs false
open Go.Proofs.Ytlblfpacnegmlaa.Byte Go.Proofs.Ytlblfpacnegmlaa.KeysM Go.Proofs.Ytlblfpacnegmlaa.TreeM Go.Proofs.Ytlblfpacnegmlaa.ViewM

def inR (k : ByteArray) (r : ByteArray × ByteArray) : Bool := !kl k r.1 && kl k r.2
def hitK (R : List ByteArray) (G : List (ByteArray × ByteArray)) (k : ByteArray) : Bool := R.any (fun x => decide (x = k)) || G.any (inR k)
/-- Do they clash? -/
def clashM (R : List ByteArray) (G : List (ByteArray × ByteArray)) (W : List Pr) : Bool := W.any (fun p => hitK R G p.key)
theorem any_next {α : Type} {l : List α} {i : Nat} {x : α} (h : l[i]? = some x) (f : α → Bool) : (l.take (i + 1)).any f = ((l.take i).any f || f x) := by
  obtain ⟨hk, he⟩ := List.getElem?_eq_some_iff.1 h
  rw [List.take_succ_eq_append_getElem hk, he, List.any_append]
  simp
theorem any_hit {α : Type} {l : List α} {i : Nat} {x : α} (h : l[i]? = some x) {f : α → Bool} (hf : f x = true) : l.any f = true := List.any_eq_true.2 ⟨x, List.mem_of_getElem? h, hf⟩
theorem clash_more {R more : List ByteArray} {G : List (ByteArray × ByteArray)} {W others : List Pr} (h : clashM R G W = true) : clashM (more ++ R) G (others ++ W) = true := by
  obtain ⟨p, hp, hk⟩ := List.any_eq_true.1 h
  refine List.any_eq_true.2 ⟨p, by simp [hp], ?_⟩
  unfold hitK at hk ⊢
  rw [List.any_append]
  rw [Bool.or_eq_true] at hk ⊢
  rcases hk with hk | hk
  · left
    rw [hk, Bool.or_true]
  · exact .inr hk
end Go.Proofs.Ytlblfpacnegmlaa.ClashM
