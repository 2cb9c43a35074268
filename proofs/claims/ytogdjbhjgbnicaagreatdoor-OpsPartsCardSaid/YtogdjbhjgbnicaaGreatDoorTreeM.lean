import Derived.Test.YtogdjbhjgbnicaaGreatDoorKeysM
import GoSem.Op.String
set_option linter.unusedVariables false
namespace Go.Proofs.YtogdjbhjgbnicaaGreatDoor.TreeM
open Byte KeysM
structure Pr where
 key : ByteArray
 value : ByteArray
 gone : Bool
deriving DecidableEq,Inhabited
def kl (a b : ByteArray) : Bool := Op.bytesLess a.toList b.toList
theorem kl_lt (a b : ByteArray) : kl a b = lt (txt a) (txt b) := by
 unfold kl
 rw [show a.toList = a.data.toList from ByteArray.toList_eq a,show b.toList = b.data.toList from ByteArray.toList_eq b,less_lt]
 rfl
theorem lt_irr (l : List Int) : lt l l = false := by
 induction l with
 | nil => rfl
 | cons a l ih => simp [lt,ih]
theorem lt_trans : ∀ (a b c : List Int),lt a b = true → lt b c = true → lt a c = true
 | _,_,[],_,h => by simp [lt_nil'] at h
 | [],_,_ :: _,_,_ => rfl
 | x :: a,[],_,h,_ => by simp [lt] at h
 | x :: a,y :: b,z :: c,h1,h2 => by
   simp only [lt,Bool.or_eq_true,Bool.and_eq_true,decide_eq_true_eq] at h1 h2 ⊢
   rcases h1 with h1 | ⟨rfl,h1⟩
   ·rcases h2 with h2 | ⟨rfl,h2⟩
    ·exact .inl (by omega)
    ·exact .inl h1
   ·rcases h2 with h2 | ⟨rfl,h2⟩
    ·exact .inl h2
    ·exact .inr ⟨rfl,lt_trans a b c h1 h2⟩
where lt_nil' : ∀ l : List Int,lt l [] = false := fun l => by cases l <;> rfl
theorem lt_tri : ∀ (a b : List Int),lt a b = false → lt b a = false → a = b
 | [],[],_,_ => rfl
 | [],_ :: _,h,_ => by simp [lt] at h
 | _ :: _,[],_,h => by simp [lt] at h
 | x :: a,y :: b,h1,h2 => by
   simp only [lt,Bool.or_eq_false_iff,Bool.and_eq_false_iff,decide_eq_false_iff_not] at h1 h2
   obtain rfl : x = y := by omega
   have e1 : lt a b = false := by rcases h1.2 with h | h; exact absurd rfl h; exact h
   have e2 : lt b a = false := by rcases h2.2 with h | h; exact absurd rfl h; exact h
   rw [lt_tri a b e1 e2]
theorem kl_irr (a : ByteArray) : kl a a = false := by rw [kl_lt]; exact lt_irr _
theorem kl_trans {a b c : ByteArray} (h1 : kl a b = true) (h2 : kl b c = true) : kl a c = true := by
 rw [kl_lt] at *
 exact lt_trans _ _ _ h1 h2
theorem kl_tri {a b : ByteArray} (h1 : kl a b = false) (h2 : kl b a = false) : a = b := by
 rw [kl_lt] at *
 exact txt_inj (lt_tri _ _ h1 h2)
theorem kl_asym {a b : ByteArray} (h : kl a b = true) : kl b a = false := by
 cases h2 : kl b a with
 | false => rfl
 | true =>
   have := kl_trans h h2
   rw [kl_irr] at this
   exact absurd this (by decide)
theorem kl_ne {a b : ByteArray} (h : kl a b = true) : a ≠ b := by
 rintro rfl
 rw [kl_irr] at h
 exact absurd h (by decide)
def Rise (l : List Pr) : Prop := l.Pairwise fun p q => kl p.key q.key = true
def putL (k v : ByteArray) (l : List Pr) : List Pr := l.filter (fun p => kl p.key k) ++ ⟨k,v,false⟩ :: l.filter (fun p => kl k p.key)
def cutL (k : ByteArray) (l : List Pr) : List Pr := l.filter fun p => !decide (p.key = k)
def rangeL (a b : ByteArray) (l : List Pr) : List Pr := l.filter fun p => !kl p.key a && kl p.key b
def getL (k : ByteArray) (l : List Pr) : Option Pr := l.find? fun p => decide (p.key = k)
theorem rise_filter {l : List Pr} (h : Rise l) (f : Pr → Bool) : Rise (l.filter f) := List.Pairwise.filter f h
theorem rise_cut {l : List Pr} (h : Rise l) (k : ByteArray) : Rise (cutL k l) := rise_filter h _
theorem rise_put {l : List Pr} (h : Rise l) (k v : ByteArray) : Rise (putL k v l) := by
 unfold putL Rise
 rw [List.pairwise_append,List.pairwise_cons]
 refine ⟨rise_filter h _,⟨fun q hq => (List.mem_filter.1 hq).2,rise_filter h _⟩,fun p hp q hq => ?_⟩
 have h1 := (List.mem_filter.1 hp).2
 rcases List.mem_cons.1 hq with rfl | hq
 ·exact h1
 ·exact kl_trans h1 (List.mem_filter.1 hq).2
theorem mem_put {l : List Pr} {k v : ByteArray} {p : Pr} (hp : p ∈ putL k v l) : p = ⟨k,v,false⟩ ∨ (p ∈ l ∧ p.key ≠ k) := by
 unfold putL at hp
 rcases List.mem_append.1 hp with h | h
 ·have := List.mem_filter.1 h
  exact .inr ⟨this.1,kl_ne this.2⟩
 ·rcases List.mem_cons.1 h with h | h
  ·exact .inl h
  ·have := List.mem_filter.1 h
   exact .inr ⟨this.1,fun e => kl_ne this.2 e.symm⟩
theorem put_mem {l : List Pr} {k v : ByteArray} {p : Pr} (hp : p ∈ l) (hk : p.key ≠ k) : p ∈ putL k v l := by
 unfold putL
 rw [List.mem_append,List.mem_cons]
 cases h1 : kl p.key k with
 | true => exact .inl (List.mem_filter.2 ⟨hp,h1⟩)
 | false =>
   cases h2 : kl k p.key with
   | true => exact .inr (.inr (List.mem_filter.2 ⟨hp,h2⟩))
   | false => exact absurd (kl_tri h1 h2) hk
theorem put_new (l : List Pr) (k v : ByteArray) : (⟨k,v,false⟩ : Pr) ∈ putL k v l := by
 unfold putL
 simp
theorem rise_ext : ∀ {l m : List Pr},Rise l → Rise m → (∀ p,p ∈ l ↔ p ∈ m) → l = m
 | [],[],_,_,_ => rfl
 | [],q :: m,_,_,h => absurd ((h q).2 (by simp)) (by simp)
 | p :: l,[],_,_,h => absurd ((h p).1 (by simp)) (by simp)
 | p :: l,q :: m,h1,h2,h => by
   have hl := List.pairwise_cons.1 h1
   have hm := List.pairwise_cons.1 h2
   have hpq : p = q := by
    rcases List.mem_cons.1 ((h p).1 (by simp)) with e | e
    ·exact e
    ·rcases List.mem_cons.1 ((h q).2 (by simp)) with e2 | e2
     ·exact e2.symm
     ·have a := hm.1 p e
      have b := hl.1 q e2
      rw [kl_asym a] at b
      exact absurd b (by decide)
   subst hpq
   congr 1
   refine rise_ext hl.2 hm.2 fun x => ?_
   constructor
   ·intro hx
    rcases List.mem_cons.1 ((h x).1 (by simp [hx])) with e | e
    ·subst e
     have := hl.1 x hx
     rw [kl_irr] at this
     exact absurd this (by decide)
    ·exact e
   ·intro hx
    rcases List.mem_cons.1 ((h x).2 (by simp [hx])) with e | e
    ·subst e
     have := hm.1 x hx
     rw [kl_irr] at this
     exact absurd this (by decide)
    ·exact e
theorem rise_keys {l : List Pr} (h : Rise l) {p q : Pr} (hp : p ∈ l) (hq : q ∈ l) (hk : p.key = q.key) : p = q := by
 induction l with
 | nil => simp at hp
 | cons a l ih =>
   have hl := List.pairwise_cons.1 h
   rcases List.mem_cons.1 hp with hp | hp
   ·rcases List.mem_cons.1 hq with hq | hq
    ·rw [hp,hq]
    ·rw [hp] at hk
     exact absurd hk (kl_ne (hl.1 q hq))
   ·rcases List.mem_cons.1 hq with hq | hq
    ·rw [hq] at hk
     exact absurd hk.symm (kl_ne (hl.1 p hp))
    ·exact ih hl.2 hp hq
theorem get_at {l : List Pr} (h : Rise l) {i : Nat} {p : Pr} (hp : l[i]? = some p) : getL p.key l = some p := by
 have hm : p ∈ l := List.mem_of_getElem? hp
 unfold getL
 cases hf : l.find? (fun q => decide (q.key = p.key)) with
 | none =>
   have := List.find?_eq_none.1 hf p hm
   simp at this
 | some q =>
   have h1 := List.find?_some hf
   have h2 := List.mem_of_find?_eq_some hf
   rw [rise_keys h h2 hm (by simpa using h1)]
theorem put_len (k v : ByteArray) (l : List Pr) : (putL k v l).length ≤ l.length + 1 := by
 unfold putL
 rw [List.length_append,List.length_cons]
 induction l with
 | nil => simp
 | cons p l ih =>
   rw [List.filter_cons,List.filter_cons,List.length_cons]
   cases h1 : kl p.key k with
   | true =>
     rw [kl_asym h1,if_pos rfl,if_neg (by decide),List.length_cons]
     omega
   | false =>
     rw [if_neg (by decide)]
     split
     ·rw [List.length_cons]
      omega
     ·omega
end Go.Proofs.YtogdjbhjgbnicaaGreatDoor.TreeM