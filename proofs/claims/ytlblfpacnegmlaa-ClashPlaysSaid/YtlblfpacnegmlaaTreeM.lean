import Derived.Test.YtlblfpacnegmlaaKeysM
import GoSem.Op.String
set_option linter.unusedVariables false
namespace Go.Proofs.Ytlblfpacnegmlaa.TreeM
open Byte KeysM
structure Pr where
 key : ByteArray
 value : ByteArray
 gone : Bool
deriving DecidableEq,Inhabited
def kl (a b : ByteArray) : Bool := Op.bytesLess a.toList b.toList
theorem kl_lt (a b : ByteArray) : kl a b = lt (txt a) (txt b) := by
 unfold kl
 rw [show a.toList = a.data.toList from ByteArray.toList_eq a,show b.toList = b.data.toList from ByteArray.toList_eq b,less_lt]
 rfl
theorem lt_irr (l : List Int) : lt l l = false := by
 induction l with
 | nil => rfl
 | cons a l ih => simp [lt,ih]
theorem lt_trans : ∀ (a b c : List Int),lt a b = true → lt b c = true → lt a c = true
 | _,_,[],_,h => by simp [lt_nil'] at h
 | [],_,_ :: _,_,_ => rfl
 | x :: a,[],_,h,_ => by simp [lt] at h
 | x :: a,y :: b,z :: c,h1,h2 => by
   simp only [lt,Bool.or_eq_true,Bool.and_eq_true,decide_eq_true_eq] at h1 h2 ⊢
   rcases h1 with h1 | ⟨rfl,h1⟩
   ·rcases h2 with h2 | ⟨rfl,h2⟩
    ·exact .inl (by omega)
    ·exact .inl h1
   ·rcases h2 with h2 | ⟨rfl,h2⟩
    ·exact .inl h2
    ·exact .inr ⟨rfl,lt_trans a b c h1 h2⟩
where lt_nil' : ∀ l : List Int,lt l [] = false := fun l => by cases l <;> rfl
theorem lt_tri : ∀ (a b : List Int),lt a b = false → lt b a = false → a = b
 | [],[],_,_ => rfl
 | [],_ :: _,h,_ => by simp [lt] at h
 | _ :: _,[],_,h => by simp [lt] at h
 | x :: a,y :: b,h1,h2 => by
   simp only [lt,Bool.or_eq_false_iff,Bool.and_eq_false_iff,decide_eq_false_iff_not] at h1 h2
   obtain rfl : x = y := by omega
   have e1 : lt a b = false := by rcases h1.2 with h | h; exact absurd rfl h; exact h
   have e2 : lt b a = false := by rcases h2.2 with h | h; exact absurd rfl h; exact h
   rw [lt_tri a b e1 e2]
theorem kl_irr (a : ByteArray) : kl a a = false := by rw [kl_lt]; exact lt_irr _
theorem kl_trans {a b c : ByteArray} (h1 : kl a b = true) (h2 : kl b c = true) : kl a c = true := by
 rw [kl_lt] at *
 exact lt_trans _ _ _ h1 h2
theorem kl_tri {a b : ByteArray} (h1 : kl a b = false) (h2 : kl b a = false) : a = b := by
 rw [kl_lt] at *
 exact txt_inj (lt_tri _ _ h1 h2)
theorem kl_asym {a b : ByteArray} (h : kl a b = true) : kl b a = false := by
 cases h2 : kl b a with
 | false => rfl
 | true =>
   have := kl_trans h h2
   rw [kl_irr] at this
   exact absurd this (by decide)
theorem kl_ne {a b : ByteArray} (h : kl a b = true) : a ≠ b := by
 rintro rfl
 rw [kl_irr] at h
 exact absurd h (by decide)
def Rise (l : List Pr) : Prop := l.Pairwise fun p q => kl p.key q.key = true
def putL (k v : ByteArray) (l : List Pr) : List Pr := l.filter (fun p => kl p.key k) ++ ⟨k,v,false⟩ :: l.filter (fun p => kl k p.key)
def cutL (k : ByteArray) (l : List Pr) : List Pr := l.filter fun p => !decide (p.key = k)
def rangeL (a b : ByteArray) (l : List Pr) : List Pr := l.filter fun p => !kl p.key a && kl p.key b
def getL (k : ByteArray) (l : List Pr) : Option Pr := l.find? fun p => decide (p.key = k)
theorem rise_filter {l : List Pr} (h : Rise l) (f : Pr → Bool) : Rise (l.filter f) := List.Pairwise.filter f h
theorem rise_put {l : List Pr} (h : Rise l) (k v : ByteArray) : Rise (putL k v l) := by
 unfold putL Rise
 rw [List.pairwise_append,List.pairwise_cons]
 refine ⟨rise_filter h _,⟨fun q hq => (List.mem_filter.1 hq).2,rise_filter h _⟩,fun p hp q hq => ?_⟩
 have h1 := (List.mem_filter.1 hp).2
 rcases List.mem_cons.1 hq with rfl | hq
 ·exact h1
 ·exact kl_trans h1 (List.mem_filter.1 hq).2
theorem take_next {α : Type} {l : List α} {i : Nat} {x : α} (h : l[i]? = some x) : l.take (i + 1) = l.take i ++ [x] := by
 rw [List.take_add_one,h]
 rfl
theorem put_len (k v : ByteArray) (l : List Pr) : (putL k v l).length ≤ l.length + 1 := by
 unfold putL
 rw [List.length_append,List.length_cons]
 induction l with
 | nil => simp
 | cons p l ih =>
   rw [List.filter_cons,List.filter_cons,List.length_cons]
   cases h1 : kl p.key k with
   | true =>
     rw [kl_asym h1,if_pos rfl,if_neg (by decide),List.length_cons]
     omega
   | false =>
     rw [if_neg (by decide)]
     split
     ·rw [List.length_cons]
      omega
     ·omega
end Go.Proofs.Ytlblfpacnegmlaa.TreeM