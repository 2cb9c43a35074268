import Derived.Test.YtogdjbhjgbnicaaGreatDoorTreeM
set_option linter.unusedVariables false
namespace Go.Proofs.YtogdjbhjgbnicaaGreatDoor.ViewM
open Byte KeysM TreeM
def putP (p : Pr) (l : List Pr) : List Pr := l.filter (fun q => kl q.key p.key) ++ p :: l.filter (fun q => kl p.key q.key)
theorem put_putP (k v : ByteArray) (l : List Pr) : putL k v l = putP ⟨k,v,false⟩ l := rfl
theorem rise_putP {l : List Pr} (h : Rise l) (p : Pr) : Rise (putP p l) := by
 unfold putP Rise
 rw [List.pairwise_append,List.pairwise_cons]
 refine ⟨rise_filter h _,⟨fun q hq => (List.mem_filter.1 hq).2,rise_filter h _⟩,fun a ha q hq => ?_⟩
 have h1 := (List.mem_filter.1 ha).2
 rcases List.mem_cons.1 hq with rfl | hq
 ·exact h1
 ·exact kl_trans h1 (List.mem_filter.1 hq).2
theorem mem_putP {l : List Pr} {p q : Pr} (hq : q ∈ putP p l) : q = p ∨ (q ∈ l ∧ q.key ≠ p.key) := by
 unfold putP at hq
 rcases List.mem_append.1 hq with h | h
 ·have := List.mem_filter.1 h
  exact .inr ⟨this.1,kl_ne this.2⟩
 ·rcases List.mem_cons.1 h with h | h
  ·exact .inl h
  ·have := List.mem_filter.1 h
   exact .inr ⟨this.1,fun e => kl_ne this.2 e.symm⟩
theorem putP_mem {l : List Pr} {p q : Pr} (hq : q ∈ l) (hk : q.key ≠ p.key) : q ∈ putP p l := by
 unfold putP
 rw [List.mem_append,List.mem_cons]
 cases h1 : kl q.key p.key with
 | true => exact .inl (List.mem_filter.2 ⟨hq,h1⟩)
 | false =>
   cases h2 : kl p.key q.key with
   | true => exact .inr (.inr (List.mem_filter.2 ⟨hq,h2⟩))
   | false => exact absurd (kl_tri h1 h2) hk
theorem putP_new (l : List Pr) (p : Pr) : p ∈ putP p l := by
 unfold putP
 simp
theorem putP_len (p : Pr) (l : List Pr) : (putP p l).length ≤ l.length + 1 := by
 have := put_len p.key p.value l
 unfold putL at this
 unfold putP
 simpa using this
def doneW (l : List Pr) (w : Pr) : List Pr := if w.gone then cutL w.key l else putL w.key w.value l
def shownL (B W : List Pr) : List Pr := W.foldl doneW B
theorem rise_done {l : List Pr} (h : Rise l) (w : Pr) : Rise (doneW l w) := by
 unfold doneW
 split
 ·exact rise_cut h _
 ·exact rise_put h _ _
theorem rise_shown {B : List Pr} (h : Rise B) (W : List Pr) : Rise (shownL B W) := by
 unfold shownL
 induction W generalizing B with
 | nil => exact h
 | cons w W ih => exact ih (rise_done h w)
theorem done_len (l : List Pr) (w : Pr) : (doneW l w).length ≤ l.length + 1 := by
 unfold doneW
 split
 ·exact Nat.le_succ_of_le (List.length_filter_le _ _)
 ·exact put_len _ _ _
theorem shown_len (B W : List Pr) : (shownL B W).length ≤ B.length + W.length := by
 unfold shownL
 induction W generalizing B with
 | nil => simp
 | cons w W ih =>
   have := ih (doneW B w)
   have := done_len B w
   rw [List.foldl_cons,List.length_cons]
   omega
def inW (k : ByteArray) (W : List Pr) : Bool := (getL k W).isSome
def writeW (B W : List Pr) (p : Pr) : List Pr := if p.gone && (getL p.key B).isNone then cutL p.key W else putP p W
def fullW (W : List Pr) (p : Pr) : Bool := !inW p.key W && decide (48 ≤ W.length)
structure Vs where
 base : List Pr
 wr : List Pr
 rd : List Pr
 rg : List (ByteArray × ByteArray)
def Vs.shown (v : Vs) : List Pr := shownL v.base v.wr
def Vs.read (v : Vs) (k : ByteArray) : Vs := { v with rd := putP ⟨k,⟨#[]⟩,false⟩ v.rd }
def hasR (a b : ByteArray) (G : List (ByteArray × ByteArray)) : Bool := G.any fun p => decide (p.1 = a) && decide (p.2 = b)
def addR (a b : ByteArray) (G : List (ByteArray × ByteArray)) : List (ByteArray × ByteArray) := if hasR a b G then G else G ++ [(a,b)]
def Vs.ranged (v : Vs) (a b : ByteArray) : Vs := if kl a b then { v with rg := addR a b v.rg } else v
def Vs.rangeOf (v : Vs) (a b : ByteArray) : List Pr := if kl a b then rangeL a b v.shown else []
def Vs.write (v : Vs) (p : Pr) : Vs := if fullW v.wr p then v else { v with wr := writeW v.base v.wr p }
structure Vs.Ok (v : Vs) : Prop where
 base : Rise v.base
 wr : Rise v.wr
 rd : Rise v.rd
 lw : v.wr.length ≤ 48
theorem rise_write {B W : List Pr} (h : Rise W) (p : Pr) : Rise (writeW B W p) := by
 unfold writeW
 split
 ·exact rise_cut h _
 ·exact rise_putP h _
theorem putP_old {l : List Pr} (hr : Rise l) {p q : Pr} (hq : getL p.key l = some q) : (putP p l).length = l.length := by
 have hk : q.key = p.key := by simpa using List.find?_some hq
 have hm := List.mem_of_find?_eq_some hq
 obtain ⟨A,B,rfl⟩ := List.append_of_mem hm
 unfold Rise at hr
 rw [List.pairwise_append,List.pairwise_cons] at hr
 have hA : ∀ x ∈ A,kl x.key p.key = true := fun x hx => by rw [← hk]; exact hr.2.2 x hx q (by simp)
 have hB : ∀ x ∈ B,kl p.key x.key = true := fun x hx => by rw [← hk]; exact hr.2.1.1 x hx
 unfold putP
 rw [List.filter_append,List.filter_append,List.filter_cons,List.filter_cons,hk,kl_irr,if_neg (by decide),if_neg (by decide),List.filter_eq_self.2 hA,List.filter_eq_self.2 hB,List.filter_eq_nil_iff.2 (fun x hx => by rw [kl_asym (hB x hx)]; decide),List.filter_eq_nil_iff.2 (fun x hx => by rw [kl_asym (hA x hx)]; decide)]
 simp
theorem write_len {B W : List Pr} (hr : Rise W) {p : Pr} (hf : fullW W p = false) (hw : W.length ≤ 48) : (writeW B W p).length ≤ 48 := by
 unfold writeW
 split
 ·exact Nat.le_trans (List.length_filter_le _ _) hw
 ·unfold fullW inW at hf
  cases hg : getL p.key W with
  | none =>
    rw [hg] at hf
    simp at hf
    have := putP_len p W
    omega
  | some q =>
    rw [putP_old hr hg]
    exact hw
theorem ok_write {v : Vs} (h : v.Ok) (p : Pr) : (v.write p).Ok := by
 unfold Vs.write
 split
 ·exact h
 ·rename_i hf
  exact ⟨h.base,rise_write h.wr p,h.rd,write_len h.wr (by simpa using hf) h.lw⟩
theorem ok_read {v : Vs} (h : v.Ok) (k : ByteArray) : (v.read k).Ok := ⟨h.base,h.wr,rise_putP h.rd _,h.lw⟩
theorem ok_ranged {v : Vs} (h : v.Ok) (a b : ByteArray) : (v.ranged a b).Ok := by
 unfold Vs.ranged
 split
 ·exact ⟨h.base,h.wr,h.rd,h.lw⟩
 ·exact h
end Go.Proofs.YtogdjbhjgbnicaaGreatDoor.ViewM