import Derived.Test.YtlblfpacnegmlaaTreeM
set_option linter.unusedVariables false
namespace Go.Proofs.Ytlblfpacnegmlaa.ViewM
open Byte KeysM TreeM
def putP (p : Pr) (l : List Pr) : List Pr := l.filter (fun q => kl q.key p.key) ++ p :: l.filter (fun q => kl p.key q.key)
theorem put_putP (k v : ByteArray) (l : List Pr) : putL k v l = putP ⟨k,v,false⟩ l := rfl
theorem rise_putP {l : List Pr} (h : Rise l) (p : Pr) : Rise (putP p l) := by
 unfold putP Rise
 rw [List.pairwise_append,List.pairwise_cons]
 refine ⟨rise_filter h _,⟨fun q hq => (List.mem_filter.1 hq).2,rise_filter h _⟩,fun a ha q hq => ?_⟩
 have h1 := (List.mem_filter.1 ha).2
 rcases List.mem_cons.1 hq with rfl | hq
 ·exact h1
 ·exact kl_trans h1 (List.mem_filter.1 hq).2
theorem mem_putP {l : List Pr} {p q : Pr} (hq : q ∈ putP p l) : q = p ∨ (q ∈ l ∧ q.key ≠ p.key) := by
 unfold putP at hq
 rcases List.mem_append.1 hq with h | h
 ·have := List.mem_filter.1 h
  exact .inr ⟨this.1,kl_ne this.2⟩
 ·rcases List.mem_cons.1 h with h | h
  ·exact .inl h
  ·have := List.mem_filter.1 h
   exact .inr ⟨this.1,fun e => kl_ne this.2 e.symm⟩
theorem putP_len (p : Pr) (l : List Pr) : (putP p l).length ≤ l.length + 1 := by
 have := put_len p.key p.value l
 unfold putL at this
 unfold putP
 simpa using this
def doneW (l : List Pr) (w : Pr) : List Pr := if w.gone then cutL w.key l else putL w.key w.value l
def shownL (B W : List Pr) : List Pr := W.foldl doneW B
theorem done_len (l : List Pr) (w : Pr) : (doneW l w).length ≤ l.length + 1 := by
 unfold doneW
 split
 ·exact Nat.le_succ_of_le (List.length_filter_le _ _)
 ·exact put_len _ _ _
theorem shown_len (B W : List Pr) : (shownL B W).length ≤ B.length + W.length := by
 unfold shownL
 induction W generalizing B with
 | nil => simp
 | cons w W ih =>
   have := ih (doneW B w)
   have := done_len B w
   rw [List.foldl_cons,List.length_cons]
   omega
structure Vs where
 base : List Pr
 wr : List Pr
 rd : List Pr
 rg : List (ByteArray × ByteArray)
def Vs.shown (v : Vs) : List Pr := shownL v.base v.wr
def Vs.read (v : Vs) (k : ByteArray) : Vs := { v with rd := putP ⟨k,⟨#[]⟩,false⟩ v.rd }
def hasR (a b : ByteArray) (G : List (ByteArray × ByteArray)) : Bool := G.any fun p => decide (p.1 = a) && decide (p.2 = b)
def addR (a b : ByteArray) (G : List (ByteArray × ByteArray)) : List (ByteArray × ByteArray) := if hasR a b G then G else G ++ [(a,b)]
def Vs.ranged (v : Vs) (a b : ByteArray) : Vs := if kl a b then { v with rg := addR a b v.rg } else v
def Vs.rangeOf (v : Vs) (a b : ByteArray) : List Pr := if kl a b then rangeL a b v.shown else []
structure Vs.Ok (v : Vs) : Prop where
 base : Rise v.base
 wr : Rise v.wr
 rd : Rise v.rd
 lw : v.wr.length ≤ 48
theorem ok_read {v : Vs} (h : v.Ok) (k : ByteArray) : (v.read k).Ok := ⟨h.base,h.wr,rise_putP h.rd _,h.lw⟩
theorem ok_ranged {v : Vs} (h : v.Ok) (a b : ByteArray) : (v.ranged a b).Ok := by
 unfold Vs.ranged
 split
 ·exact ⟨h.base,h.wr,h.rd,h.lw⟩
 ·exact h
end Go.Proofs.Ytlblfpacnegmlaa.ViewM