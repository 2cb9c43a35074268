import Derived.Test.YtogdjbhjgbnicaaGreatDoorTreeR
import Derived.Deep.MidRow
import Derived.Deep.QuietTactic
import Derived.BigQuiet
set_option linter.unusedVariables false
namespace Go.Proofs.YtogdjbhjgbnicaaGreatDoor.TreeB
open Byte KeysM TreeM
inductive Tt where
 | no : Tt
 | nd (l : Tt) (p : Pr) (r : Tt) : Tt
deriving Inhabited
namespace Tt
def sz : Tt → Nat
 | no => 0
 | nd l _ r => l.sz + 1 + r.sz
def ht : Tt → Nat
 | no => 0
 | nd l _ r => max l.ht r.ht + 1
def ino : Tt → List Pr
 | no => []
 | nd l p r => l.ino ++ p :: r.ino
def Avl : Tt → Prop
 | no => True
 | nd l _ r => l.Avl ∧ r.Avl ∧ l.ht ≤ r.ht + 1 ∧ r.ht ≤ l.ht + 1
def leanR (l : Tt) (p : Pr) (r : Tt) : Tt :=
 match l with
 | no => nd no p r
 | nd ll lp inner =>
   if inner.ht ≤ ll.ht then nd ll lp (nd inner p r)
   else match inner with
    | no => nd l p r
    | nd a q b => nd (nd ll lp a) q (nd b p r)
def leanL (l : Tt) (p : Pr) (r : Tt) : Tt :=
 match r with
 | no => nd l p no
 | nd inner rp rr =>
   if inner.ht ≤ rr.ht then nd (nd l p inner) rp rr
   else match inner with
    | no => nd l p r
    | nd a q b => nd (nd l p a) q (nd b rp rr)
def bal (l : Tt) (p : Pr) (r : Tt) : Tt :=
 if r.ht + 1 < l.ht then leanR l p r else if l.ht + 1 < r.ht then leanL l p r else nd l p r
def set : Tt → Pr → Tt
 | no,p => nd no p no
 | nd l q r,p => if kl p.key q.key then bal (l.set p) q r else if kl q.key p.key then bal l q (r.set p) else nd l p r
def first : Tt → Pr
 | no => default
 | nd no p _ => p
 | nd l _ _ => l.first
def cut : Tt → ByteArray → Tt
 | no,_ => no
 | nd l q r,k => if kl k q.key then bal (l.cut k) q r else if kl q.key k then bal l q (r.cut k) else match r with
   | no => l
   | nd _ _ _ => bal l r.first (r.cut r.first.key)
theorem sz_ino (t : Tt) : t.ino.length = t.sz := by
 induction t with
 | no => rfl
 | nd l p r ihl ihr => simp only [ino,sz,List.length_append,List.length_cons,ihl,ihr]; omega
theorem ht_sz (t : Tt) : t.ht ≤ t.sz := by
 induction t with
 | no => exact Nat.le_refl _
 | nd l p r ihl ihr => simp only [ht,sz]; omega
theorem ino_leanR (l : Tt) (p : Pr) (r : Tt) : (leanR l p r).ino = l.ino ++ p :: r.ino := by
 unfold leanR
 cases l with
 | no => rfl
 | nd ll lp inner =>
   dsimp only
   split
   ·simp [ino]
   ·cases inner <;> simp [ino]
theorem ino_leanL (l : Tt) (p : Pr) (r : Tt) : (leanL l p r).ino = l.ino ++ p :: r.ino := by
 unfold leanL
 cases r with
 | no => rfl
 | nd inner rp rr =>
   dsimp only
   split
   ·simp [ino]
   ·cases inner <;> simp [ino]
theorem ino_bal (l : Tt) (p : Pr) (r : Tt) : (bal l p r).ino = l.ino ++ p :: r.ino := by
 unfold bal
 split
 ·exact ino_leanR l p r
 ·split
  ·exact ino_leanL l p r
  ·rfl
theorem sz_bal (l : Tt) (p : Pr) (r : Tt) : (bal l p r).sz = l.sz + 1 + r.sz := by
 rw [← sz_ino,ino_bal,List.length_append,List.length_cons,sz_ino,sz_ino]
 omega
theorem bal_avl {l r : Tt} (p : Pr) (hl : l.Avl) (hr : r.Avl) (h1 : l.ht ≤ r.ht + 2) (h2 : r.ht ≤ l.ht + 2) : (bal l p r).Avl ∧ max l.ht r.ht ≤ (bal l p r).ht ∧ (bal l p r).ht ≤ max l.ht r.ht + 1 ∧ (l.ht ≤ r.ht + 1 → r.ht ≤ l.ht + 1 → (bal l p r).ht = max l.ht r.ht + 1) := by
 unfold bal
 split
 ·rename_i h3
  refine ⟨?_,?_,?_,by omega⟩
  all_goals
   unfold leanR
   cases l with
   | no => simp [ht] at h3
   | nd ll lp inner =>
     simp only [Avl,ht] at hl h1 h2 h3 ⊢
     obtain ⟨a1,a2,a3,a4⟩ := hl
     split
     ·rename_i h4
      simp only [Avl,ht]
      first | omega | (refine ⟨a1,⟨a2,hr,?_,?_⟩,?_,?_⟩ <;> omega)
     ·rename_i h4
      cases inner with
      | no => simp [ht] at h4
      | nd a q b =>
        simp only [Avl,ht] at a2 a3 a4 h1 h3 h4 ⊢
        obtain ⟨b1,b2,b3,b4⟩ := a2
        first | omega | (refine ⟨⟨a1,b1,?_,?_⟩,⟨b2,hr,?_,?_⟩,?_,?_⟩ <;> omega)
 ·rename_i h3
  split
  ·rename_i h5
   refine ⟨?_,?_,?_,by omega⟩
   all_goals
    unfold leanL
    cases r with
    | no => simp [ht] at h5
    | nd inner rp rr =>
      simp only [Avl,ht] at hr h1 h2 h5 ⊢
      obtain ⟨a1,a2,a3,a4⟩ := hr
      split
      ·rename_i h4
       simp only [Avl,ht]
       first | omega | (refine ⟨⟨hl,a1,?_,?_⟩,a2,?_,?_⟩ <;> omega)
      ·rename_i h4
       cases inner with
       | no => simp [ht] at h4
       | nd a q b =>
         simp only [Avl,ht] at a1 a3 a4 h2 h5 h4 ⊢
         obtain ⟨b1,b2,b3,b4⟩ := a1
         first | omega | (refine ⟨⟨hl,b1,?_,?_⟩,⟨b2,a2,?_,?_⟩,?_,?_⟩ <;> omega)
  ·rename_i h5
   simp only [Avl,ht]
   refine ⟨⟨hl,hr,by omega,by omega⟩,by omega,by omega,fun _ _ => trivial⟩
theorem set_avl (t : Tt) (p : Pr) (h : t.Avl) : (t.set p).Avl ∧ t.ht ≤ (t.set p).ht ∧ (t.set p).ht ≤ t.ht + 1 := by
 induction t with
 | no => simp [set,Avl,ht]
 | nd l q r ihl ihr =>
   obtain ⟨a1,a2,a3,a4⟩ := h
   obtain ⟨l1,l2,l3⟩ := ihl a1
   obtain ⟨r1,r2,r3⟩ := ihr a2
   unfold set
   split
   ·obtain ⟨b1,b2,b3,b4⟩ := bal_avl q l1 a2 (by omega) (by omega)
    refine ⟨b1,?_,?_⟩ <;> simp only [ht] <;> omega
   ·split
    ·obtain ⟨b1,b2,b3,b4⟩ := bal_avl q a1 r1 (by omega) (by omega)
     refine ⟨b1,?_,?_⟩ <;> simp only [ht] <;> omega
    ·exact ⟨⟨a1,a2,a3,a4⟩,Nat.le_refl _,Nat.le_succ _⟩
theorem cut_avl (t : Tt) : ∀ (k : ByteArray),t.Avl → (t.cut k).Avl ∧ (t.cut k).ht ≤ t.ht ∧ t.ht ≤ (t.cut k).ht + 1 := by
 induction t with
 | no => intro k h; simp [cut,Avl,ht]
 | nd l q r ihl ihr =>
   intro k h
   obtain ⟨a1,a2,a3,a4⟩ := h
   unfold cut
   split
   ·obtain ⟨l1,l2,l3⟩ := ihl k a1
    obtain ⟨b1,b2,b3,b4⟩ := bal_avl q l1 a2 (by omega) (by omega)
    refine ⟨b1,?_,?_⟩ <;> simp only [ht] <;> omega
   ·split
    ·obtain ⟨r1,r2,r3⟩ := ihr k a2
     obtain ⟨b1,b2,b3,b4⟩ := bal_avl q a1 r1 (by omega) (by omega)
     refine ⟨b1,?_,?_⟩ <;> simp only [ht] <;> omega
    ·cases r with
     | no =>
       simp only [ht] at a3 ⊢
       exact ⟨a1,by omega,by omega⟩
     | nd rl rp rr =>
       dsimp only
       obtain ⟨r1,r2,r3⟩ := ihr (nd rl rp rr).first.key a2
       obtain ⟨b1,b2,b3,b4⟩ := bal_avl (nd rl rp rr).first a1 r1 (by omega) (by omega)
       refine ⟨b1,?_,?_⟩ <;> simp only [ht] at * <;> omega
theorem rise_mid {A B : List Pr} {q : Pr} (h : Rise (A ++ q :: B)) : Rise A ∧ Rise B ∧ (∀ x ∈ A,kl x.key q.key = true) ∧ (∀ x ∈ B,kl q.key x.key = true) ∧ ∀ x ∈ A,∀ y ∈ B,kl x.key y.key = true := by
 unfold Rise at h
 rw [List.pairwise_append,List.pairwise_cons] at h
 exact ⟨h.1,h.2.1.2,fun x hx => h.2.2 x hx q (by simp),h.2.1.1,fun x hx y hy => h.2.2 x hx y (by simp [hy])⟩
theorem all_lt {k : ByteArray} {B : List Pr} (h : ∀ x ∈ B,kl k x.key = true) : B.filter (fun p => kl p.key k) = [] ∧ B.filter (fun p => kl k p.key) = B ∧ B.filter (fun p => !decide (p.key = k)) = B := by
 refine ⟨List.filter_eq_nil_iff.2 fun p hp => ?_,List.filter_eq_self.2 fun p hp => h p hp,List.filter_eq_self.2 fun p hp => ?_⟩
 ·rw [kl_asym (h p hp)]
  decide
 ·simp only [Bool.not_eq_true',decide_eq_false_iff_not]
  exact (kl_ne (h p hp)).symm
theorem all_gt {k : ByteArray} {A : List Pr} (h : ∀ x ∈ A,kl x.key k = true) : A.filter (fun p => kl p.key k) = A ∧ A.filter (fun p => kl k p.key) = [] ∧ A.filter (fun p => !decide (p.key = k)) = A := by
 refine ⟨List.filter_eq_self.2 fun p hp => h p hp,List.filter_eq_nil_iff.2 fun p hp => ?_,List.filter_eq_self.2 fun p hp => ?_⟩
 ·rw [kl_asym (h p hp)]
  decide
 ·simp only [Bool.not_eq_true',decide_eq_false_iff_not]
  exact kl_ne (h p hp)
theorem put_l {A B : List Pr} {q : Pr} (h : Rise (A ++ q :: B)) {k : ByteArray} (v : ByteArray) (hk : kl k q.key = true) : putL k v (A ++ q :: B) = putL k v A ++ q :: B := by
 obtain ⟨_,_,h1,h2,_⟩ := rise_mid h
 have hB := all_lt (k := k) (B := q :: B) fun x hx => by
  rcases List.mem_cons.1 hx with rfl | hx
  ·exact hk
  ·exact kl_trans hk (h2 x hx)
 unfold putL
 rw [List.filter_append,List.filter_append,hB.1,hB.2.1,List.append_nil,List.append_assoc,List.cons_append]
theorem put_r {A B : List Pr} {q : Pr} (h : Rise (A ++ q :: B)) {k : ByteArray} (v : ByteArray) (hk : kl q.key k = true) : putL k v (A ++ q :: B) = A ++ q :: putL k v B := by
 obtain ⟨_,_,h1,h2,_⟩ := rise_mid h
 have hA := all_gt (k := k) (A := A) fun x hx => kl_trans (h1 x hx) hk
 unfold putL
 rw [List.filter_append,List.filter_append,hA.1,hA.2.1,List.filter_cons,List.filter_cons,hk,kl_asym hk,if_pos rfl,if_neg (by decide),List.nil_append,List.append_assoc,List.cons_append]
theorem put_m {A B : List Pr} {q : Pr} (h : Rise (A ++ q :: B)) {k : ByteArray} (v : ByteArray) (hk : q.key = k) : putL k v (A ++ q :: B) = A ++ ⟨k,v,false⟩ :: B := by
 subst hk
 obtain ⟨_,_,h1,h2,_⟩ := rise_mid h
 have hA := all_gt h1
 have hB := all_lt h2
 unfold putL
 rw [List.filter_append,List.filter_append,hA.1,hA.2.1,List.filter_cons,List.filter_cons,kl_irr,if_neg (by decide),hB.1,hB.2.1,List.append_nil,List.nil_append]
 rfl
theorem cut_l {A B : List Pr} {q : Pr} (h : Rise (A ++ q :: B)) {k : ByteArray} (hk : kl k q.key = true) : cutL k (A ++ q :: B) = cutL k A ++ q :: B := by
 obtain ⟨_,_,h1,h2,_⟩ := rise_mid h
 have hB := all_lt (k := k) (B := q :: B) fun x hx => by
  rcases List.mem_cons.1 hx with rfl | hx
  ·exact hk
  ·exact kl_trans hk (h2 x hx)
 unfold cutL
 rw [List.filter_append,hB.2.2]
theorem cut_r {A B : List Pr} {q : Pr} (h : Rise (A ++ q :: B)) {k : ByteArray} (hk : kl q.key k = true) : cutL k (A ++ q :: B) = A ++ q :: cutL k B := by
 obtain ⟨_,_,h1,h2,_⟩ := rise_mid h
 have hA := all_gt (k := k) (A := A) fun x hx => kl_trans (h1 x hx) hk
 unfold cutL
 rw [List.filter_append,hA.2.2,List.filter_cons,if_pos]
 simp only [Bool.not_eq_true',decide_eq_false_iff_not]
 exact kl_ne hk
theorem cut_m {A B : List Pr} {q : Pr} (h : Rise (A ++ q :: B)) : cutL q.key (A ++ q :: B) = A ++ B := by
 obtain ⟨_,_,h1,h2,_⟩ := rise_mid h
 have hA := all_gt h1
 have hB := all_lt h2
 unfold cutL
 rw [List.filter_append,hA.2.2,List.filter_cons,if_neg (by simp),hB.2.2]
theorem ino_set (t : Tt) (k v : ByteArray) (h : Rise t.ino) : (t.set ⟨k,v,false⟩).ino = putL k v t.ino := by
 induction t with
 | no => rfl
 | nd l q r ihl ihr =>
   have hm := rise_mid h
   unfold set
   dsimp only
   split
   ·rename_i h1
    rw [ino_bal,ihl hm.1]
    exact (put_l h v h1).symm
   ·rename_i h1
    split
    ·rename_i h2
     rw [ino_bal,ihr hm.2.1]
     exact (put_r h v h2).symm
    ·rename_i h2
     exact (put_m h v (kl_tri (by simpa using h2) (by simpa using h1))).symm
theorem first_ino : ∀ (t : Tt),t.sz ≠ 0 → t.ino = t.first :: (t.ino.drop 1)
 | no,h => absurd rfl h
 | nd no p r,_ => rfl
 | nd (nd a q b) p r,_ => by
   have := first_ino (nd a q b) (by simp only [sz]; omega)
   show (nd a q b).ino ++ p :: r.ino = (nd a q b).first :: ((nd a q b).ino ++ p :: r.ino).drop 1
   rw [this]
   rfl
theorem ino_cut (t : Tt) : ∀ (k : ByteArray),Rise t.ino → (t.cut k).ino = cutL k t.ino := by
 induction t with
 | no => intro k h; rfl
 | nd l q r ihl ihr =>
   intro k h
   have hm := rise_mid h
   unfold cut
   split
   ·rename_i h1
    rw [ino_bal,ihl k hm.1]
    exact (cut_l h h1).symm
   ·rename_i h1
    split
    ·rename_i h2
     rw [ino_bal,ihr k hm.2.1]
     exact (cut_r h h2).symm
    ·rename_i h2
     obtain rfl : q.key = k := kl_tri (by simpa using h2) (by simpa using h1)
     rw [show (nd l q r).ino = l.ino ++ q :: r.ino from rfl,cut_m h]
     cases r with
     | no => simp [ino]
     | nd a x b =>
       dsimp only
       rw [ino_bal,ihr _ hm.2.1]
       have hf := first_ino (nd a x b) (by simp only [sz]; omega)
       obtain ⟨D,hD⟩ : ∃ D,((nd a x b).ino.drop 1) = D := ⟨_,rfl⟩
       rw [hD] at hf
       have hr := hm.2.1
       rw [hf] at hr ⊢
       congr 1
       have := cut_m (A := []) (B := D) (q := (nd a x b).first) hr
       rw [List.nil_append,List.nil_append] at this
       rw [this]
theorem get_l {A B : List Pr} {q : Pr} (h : Rise (A ++ q :: B)) {k : ByteArray} (hk : kl k q.key = true) : getL k (A ++ q :: B) = getL k A := by
 obtain ⟨_,_,h1,h2,_⟩ := rise_mid h
 unfold getL
 rw [List.find?_append]
 have : (q :: B).find? (fun p => decide (p.key = k)) = none := List.find?_eq_none.2 fun x hx => by
  rw [decide_eq_true_eq]
  rcases List.mem_cons.1 hx with rfl | hx
  ·exact (kl_ne hk).symm
  ·exact (kl_ne (kl_trans hk (h2 x hx))).symm
 rw [this,Option.or_none]
theorem get_r {A B : List Pr} {q : Pr} (h : Rise (A ++ q :: B)) {k : ByteArray} (hk : kl q.key k = true) : getL k (A ++ q :: B) = getL k B := by
 obtain ⟨_,_,h1,h2,_⟩ := rise_mid h
 unfold getL
 rw [List.find?_append]
 have : A.find? (fun p => decide (p.key = k)) = none := List.find?_eq_none.2 fun x hx => by
  rw [decide_eq_true_eq]
  exact kl_ne (kl_trans (h1 x hx) hk)
 rw [this,Option.none_or,List.find?_cons]
 rw [decide_eq_false (kl_ne hk)]
theorem get_m {A B : List Pr} {q : Pr} (h : Rise (A ++ q :: B)) : getL q.key (A ++ q :: B) = some q := by
 obtain ⟨_,_,h1,h2,_⟩ := rise_mid h
 unfold getL
 rw [List.find?_append]
 have : A.find? (fun p => decide (p.key = q.key)) = none := List.find?_eq_none.2 fun x hx => by
  rw [decide_eq_true_eq]
  exact kl_ne (h1 x hx)
 rw [this,Option.none_or,List.find?_cons]
 simp
theorem range_mid (a b : ByteArray) (A B : List Pr) (q : Pr) : rangeL a b (A ++ q :: B) = rangeL a b A ++ (if !kl q.key a && kl q.key b then [q] else []) ++ rangeL a b B := by
 unfold rangeL
 rw [List.filter_append,List.filter_cons,List.append_assoc]
 split <;> rfl
theorem range_low {a b : ByteArray} {A B : List Pr} {q : Pr} (h : Rise (A ++ q :: B)) (hk : kl a q.key = false) : rangeL a b A = [] := by
 obtain ⟨_,_,h1,h2,_⟩ := rise_mid h
 refine List.filter_eq_nil_iff.2 fun p hp => ?_
 have h3 := h1 p hp
 have h4 : kl p.key a = true := by
  cases h5 : kl q.key a with
  | true => exact kl_trans h3 h5
  | false => rw [← kl_tri hk h5] at h3; exact h3
 rw [h4]
 simp
theorem range_high {a b : ByteArray} {A B : List Pr} {q : Pr} (h : Rise (A ++ q :: B)) (hk : kl q.key b = false) : rangeL a b B = [] := by
 obtain ⟨_,_,h1,h2,_⟩ := rise_mid h
 refine List.filter_eq_nil_iff.2 fun p hp => ?_
 have h3 := h2 p hp
 have h4 : kl p.key b = false := by
  cases h5 : kl p.key b with
  | false => rfl
  | true =>
    have := kl_trans h3 h5
    rw [hk] at this
    exact absurd this (by decide)
 rw [h4]
 simp
end Tt
end Go.Proofs.YtogdjbhjgbnicaaGreatDoor.TreeB