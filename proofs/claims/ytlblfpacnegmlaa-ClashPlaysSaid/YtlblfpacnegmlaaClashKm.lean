import Derived.Test.YtlblfpacnegmlaaClashM
import Derived.Shelf.Spec.SearchS
set_option linter.unusedVariables false
set_option linter.unusedSimpArgs false
namespace Go.Proofs.Ytlblfpacnegmlaa.ClashKm
open Byte KeysM TreeM ViewM ClashM
def next (k : ByteArray) : ByteArray := k ++ ⟨#[0]⟩
theorem lt_none (x : List Int) : lt x [] = false := by cases x <;> rfl
theorem lt_snoc : ∀ (x y : List Int),(∀ a ∈ x,0 ≤ a) → (!lt x y && lt x (y ++ [0])) = decide (x = y)
 | [],[],_ => rfl
 | [],b :: y,_ => by simp [lt]
 | a :: x,[],h => by
   have := h a (by simp)
   have h1 : ¬ a < 0 := by omega
   simp [lt,lt_none,h1]
 | a :: x,b :: y,h => by
   have ih := lt_snoc x y (fun c hc => h c (by simp [hc]))
   rcases Int.lt_trichotomy a b with h1 | h1 | h1
   ·have h2 : ¬ a = b := by omega
    simp [lt,h1,h2]
   ·subst h1
    simpa [lt] using ih
   ·have h2 : ¬ a = b := by omega
    have h3 : ¬ a < b := by omega
    simp [lt,h2,h3]
theorem txt_bd (s : ByteArray) : ∀ a ∈ txt s,0 ≤ a := by
 intro a ha
 unfold txt at ha
 obtain ⟨b,_,rfl⟩ := List.mem_map.1 ha
 omega
theorem in_next (k x : ByteArray) : inR x (k,next k) = decide (x = k) := by
 unfold inR next
 rw [kl_lt,kl_lt,txt_append,show txt ⟨#[0]⟩ = [0] from rfl,lt_snoc _ _ (txt_bd x)]
 exact decide_eq_decide.2 ⟨txt_inj,fun h => by rw [h]⟩
def Up (K : List ByteArray) : Prop := K.Pairwise (fun a b => kl b a = false)
def lead (f : ByteArray) (K : List ByteArray) : Nat := (K.takeWhile (fun k => kl k f)).length
theorem lead_le (f : ByteArray) (K : List ByteArray) : lead f K ≤ K.length := (List.takeWhile_sublist _).length_le
theorem kl_le {a b f : ByteArray} (h1 : kl b f = true) (h2 : kl a f = false) : kl b a = true := by
 cases h : kl f a with
 | true => exact kl_trans h1 h
 | false =>
   rw [kl_tri h2 h]
   exact h1
theorem kl_up {a b t : ByteArray} (h1 : kl b a = false) (h2 : kl b t = true) : kl a t = true := by
 cases h : kl a b with
 | true => exact kl_trans h h2
 | false =>
   rw [kl_tri h h1]
   exact h2
theorem lead_low {f : ByteArray} {K : List ByteArray} : ∀ t,t < lead f K → kl (K.getD t f) f = true := by
 induction K with
 | nil => intro t h; simp [lead] at h
 | cons a K ih =>
   intro t h
   cases ha : kl a f with
   | false => simp [lead,ha] at h
   | true =>
     cases t with
     | zero => simpa using ha
     | succ t =>
       have : t < lead f K := by simpa [lead,ha] using h
       simpa using ih t this
theorem lead_high {f : ByteArray} {K : List ByteArray} (hK : Up K) : ∀ t,lead f K ≤ t → kl (K.getD t f) f = false := by
 induction K with
 | nil => intro t _; simp [kl_irr]
 | cons a K ih =>
   intro t h
   obtain ⟨h1,h2⟩ := List.pairwise_cons.1 hK
   cases ha : kl a f with
   | true =>
     cases t with
     | zero => simp [lead,ha] at h
     | succ t =>
       have : lead f K ≤ t := by simpa [lead,ha] using h
       simpa using ih h2 t this
   | false =>
     cases t with
     | zero => simpa using ha
     | succ t =>
       rw [List.getD_cons_succ]
       by_cases ht : t < K.length
       ·have hm : K.getD t f ∈ K := by
         rw [List.getD_eq_getElem?_getD,List.getElem?_eq_getElem ht]
         exact List.getElem_mem ht
        have hb := h1 _ hm
        cases hx : kl (K.getD t f) f with
        | false => rfl
        | true =>
          rw [kl_le hx ha] at hb
          cases hb
       ·rw [List.getD_eq_getElem?_getD,List.getElem?_eq_none (by omega)]
        exact kl_irr f
theorem halve {f : ByteArray} {K : List ByteArray} (hK : Up K) {n : Nat} (hn : K.length = n) : Lib.bsGo (fun t => Op.bytesLess (K.getD t f).toList f.toList) n 0 n = lead f K :=
 Lib.bsGo_spec _ _ (fun t h => lead_low t h) (fun t h => lead_high hK t h) n 0 n (by omega) (Nat.zero_le _) (by rw [← hn]; exact lead_le f K)
def amongB (K : List ByteArray) (f t : ByteArray) : Bool := K.any (fun k => inR k (f,t))
theorem among_is {f t : ByteArray} {K : List ByteArray} (hK : Up K) : amongB K f t = (decide (lead f K < K.length) && kl (K.getD (lead f K) f) t) := by
 induction K with
 | nil => simp [amongB,lead]
 | cons a K ih =>
   obtain ⟨h1,h2⟩ := List.pairwise_cons.1 hK
   cases ha : kl a f with
   | true =>
     have e1 : lead f (a :: K) = lead f K + 1 := by simp [lead,ha]
     have e2 : inR a (f,t) = false := by simp [inR,ha]
     have e3 : amongB (a :: K) f t = amongB K f t := by simp [amongB,e2]
     rw [e1,e3,ih h2]
     simp
   | false =>
     have e1 : lead f (a :: K) = 0 := by simp [lead,ha]
     have e2 : inR a (f,t) = kl a t := by simp [inR,ha]
     rw [e1]
     simp only [amongB,List.any_cons,e2,List.getD_cons_zero,List.length_cons,Nat.zero_lt_succ,decide_true,Bool.true_and]
     cases hat : kl a t with
     | true => rfl
     | false =>
       rw [Bool.false_or,List.any_eq_false]
       intro b hb hin
       unfold inR at hin
       rw [Bool.and_eq_true] at hin
       rw [kl_up (h1 b hb) hin.2] at hat
       cases hat
def Same (K : List ByteArray) (W : List Pr) : Prop := ∀ k,k ∈ K ↔ k ∈ W.map Pr.key
theorem swap {R : List ByteArray} {G : List (ByteArray × ByteArray)} {W : List Pr} {K : List ByteArray} (hs : Same K W) : (R.any (fun k => amongB K k (next k)) || G.any (fun r => amongB K r.1 r.2)) = clashM R G W := by
 rw [Bool.eq_iff_iff,Bool.or_eq_true]
 unfold clashM amongB
 simp only [List.any_eq_true,in_next,decide_eq_true_eq]
 constructor
 ·rintro (⟨k,hk,x,hx,rfl⟩ | ⟨r,hr,x,hx,hin⟩)
  ·obtain ⟨p,hp,rfl⟩ := List.mem_map.1 ((hs x).1 hx)
   exact ⟨p,hp,by unfold hitK; rw [any_hit (List.getElem?_eq_getElem (List.getElem_of_mem hk).choose_spec.choose) (f := fun x => decide (x = p.key)) (by simp [(List.getElem_of_mem hk).choose_spec.choose_spec])]; rfl⟩
  ·obtain ⟨p,hp,rfl⟩ := List.mem_map.1 ((hs x).1 hx)
   exact ⟨p,hp,by unfold hitK; rw [Bool.or_eq_true]; exact .inr (List.any_eq_true.2 ⟨r,hr,hin⟩)⟩
 ·rintro ⟨p,hp,hh⟩
  have hk : p.key ∈ K := (hs _).2 (List.mem_map.2 ⟨p,hp,rfl⟩)
  unfold hitK at hh
  rw [Bool.or_eq_true] at hh
  rcases hh with hh | hh
  ·obtain ⟨k,h1,h2⟩ := List.any_eq_true.1 hh
   rw [decide_eq_true_eq] at h2
   exact .inl ⟨k,h1,p.key,hk,h2.symm⟩
  ·obtain ⟨r,h1,h2⟩ := List.any_eq_true.1 hh
   exact .inr ⟨r,h1,p.key,hk,h2⟩
theorem less_eq : ∀ (x y : List UInt8),Op.bytesLess x y = decide (x < y)
 | [],[] => by simp [Op.bytesLess]
 | _ :: _,[] => by simp [Op.bytesLess]
 | [],_ :: _ => by simp [Op.bytesLess]
 | a :: x,b :: y => by
   rw [Op.bytesLess,less_eq x y]
   simp only [List.cons_lt_cons_iff]
   by_cases h1 : a < b <;> by_cases h2 : a = b <;> by_cases h3 : x < y <;> simp [h1,h2,h3]
def raw (s : ByteArray) : List UInt8 := s.data.toList
def back (l : List UInt8) : ByteArray := ⟨l.toArray⟩
theorem back_raw (s : ByteArray) : back (raw s) = s := by simp [back,raw]
def sorted (L : List ByteArray) : List ByteArray := ((L.map raw).mergeSort (fun x y => decide (x ≤ y))).map back
theorem mem_sorted (L : List ByteArray) (k : ByteArray) : k ∈ sorted L ↔ k ∈ L := by
 unfold sorted
 rw [List.mem_map]
 constructor
 ·rintro ⟨l,hl,rfl⟩
  obtain ⟨s,hs,rfl⟩ := List.mem_map.1 (List.mem_mergeSort.1 hl)
  rw [back_raw]
  exact hs
 ·intro h
  exact ⟨raw k,List.mem_mergeSort.2 (List.mem_map.2 ⟨k,h,rfl⟩),back_raw k⟩
theorem len_sorted (L : List ByteArray) : (sorted L).length = L.length := by simp [sorted]
theorem up_sorted (L : List ByteArray) : Up (sorted L) := by
 unfold Up sorted
 rw [List.pairwise_map]
 refine (List.pairwise_mergeSort (le := fun x y : List UInt8 => decide (x ≤ y)) ?_ ?_ _).imp ?_
 ·intro a b c h1 h2
  simp only [decide_eq_true_eq] at *
  exact List.le_trans h1 h2
 ·intro a b
  simp only [Bool.or_eq_true,decide_eq_true_eq]
  exact List.le_total a b
 ·intro a b h
  simp only [decide_eq_true_eq] at h
  unfold kl
  rw [less_eq,show (back b).toList = b by rw [ByteArray.toList_eq]; simp [back],show (back a).toList = a by rw [ByteArray.toList_eq]; simp [back]]
  exact decide_eq_false (List.not_lt.2 h)
theorem same_sorted (W : List Pr) : Same (sorted (W.map Pr.key)) W := fun k => mem_sorted _ k
end Go.Proofs.Ytlblfpacnegmlaa.ClashKm