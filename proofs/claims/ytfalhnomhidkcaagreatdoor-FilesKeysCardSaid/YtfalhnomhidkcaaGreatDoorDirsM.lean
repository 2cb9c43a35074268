import Derived.Test.YtfalhnomhidkcaaGreatDoorWalkKm
set_option linter.unusedVariables false
set_option linter.unusedSimpArgs false
namespace Go.Proofs.YtfalhnomhidkcaaGreatDoor.DirsM
open Byte PackM KeysM TreeM ViewM ViewKm NodeM NamesM WalkM WalkF WalkKm
structure En where
 name : ByteArray
 ino : Int
structure Nd where
 ino : Int
 kind : Int
 links : Int
 data : ByteArray
 ents : List En
abbrev Fs := List Nd
abbrev NE : ByteArray := ⟨#[]⟩
def nodeM (f : Fs) (i : Int) : Option Nd := f.find? fun n => decide (n.ino = i)
def withL (n : Nd) : Bool → Fs → Fs
 | d,[] => if d then [] else [n]
 | d,x :: r => if x.ino = n.ino then n :: withL n true r else x :: withL n d r
def withM (f : Fs) (n : Nd) : Fs := withL n false f
def entryM (n : Nd) (nm : ByteArray) : Int := match n.ents.find? (fun e => decide (e.name = nm)) with
 | some e => e.ino
 | none => 0
def insE (nm : ByteArray) (i : Int) : Bool → List En → List En
 | d,[] => if d then [] else [⟨nm,i⟩]
 | d,e :: r => (if !d && !kl e.name nm then [⟨nm,i⟩] else []) ++ (if e.name = nm then [] else [e]) ++ insE nm i (d || !kl e.name nm) r
def namedM (f : Fs) (d : Int) (nm : ByteArray) (i : Int) : Fs := match nodeM f d with
 | some n => withM f { n with ents := insE nm i (decide (i = 0)) n.ents }
 | none => f
def linkedM (f : Fs) (i by_ : Int) : Fs := match nodeM f i with
 | some n => withM f { n with links := n.links + by_ }
 | none => f
structure Spt where
 dir : Int
 name : ByteArray
 ino : Int
def spt0 : Spt := ⟨0,NE,0⟩
def fndL (f : Fs) (x : Spt) : List ByteArray → Spt × Int
 | [] => (x,0)
 | nm :: r => if x.ino = 0 then (spt0,10) else match nodeM f x.ino with
   | none => (spt0,0)
   | some n => if n.kind ≠ 2 then (spt0,12) else fndL f ⟨x.ino,nm,entryM n nm⟩ r
def fndM (f : Fs) (path : ByteArray) : Spt × Int := if (spl path).2 ≠ 0 then (spt0,(spl path).2) else fndL f ⟨0,NE,1⟩ (spl path).1
def newNd (kind ino : Int) : Nd := if kind = 1 then ⟨ino,1,1,NE,[]⟩ else ⟨ino,2,2,NE,[]⟩
def makeAt (f : Fs) (s : Spt) (kind ino : Int) : Fs := namedM (if kind = 1 then withM f ⟨ino,1,1,NE,[]⟩ else linkedM (withM f ⟨ino,2,2,NE,[]⟩) s.dir 1) s.dir s.name ino
def makeM (f : Fs) (path : ByteArray) (kind ino : Int) : Int × Fs :=
 if (fndM f path).2 ≠ 0 then ((fndM f path).2,f) else if (fndM f path).1.ino ≠ 0 then (11,f) else (0,makeAt f (fndM f path).1 kind ino)
def Nod (f : Fs) : Prop := f.Pairwise fun a b => a.ino ≠ b.ino
theorem nod_eq {f : Fs} (h : Nod f) : ∀ {a b : Nd},a ∈ f → b ∈ f → a.ino = b.ino → a = b := by
 induction f with
 | nil => intro a b ha; cases ha
 | cons x r ih =>
   intro a b ha hb e
   unfold Nod at h
   rw [List.pairwise_cons] at h
   rcases List.mem_cons.1 ha with rfl | ha2
   ·rcases List.mem_cons.1 hb with rfl | hb
    ·rfl
    ·exact absurd e (h.1 b hb)
   ·rcases List.mem_cons.1 hb with rfl | hb
    ·exact absurd e.symm (h.1 a ha2)
    ·exact ih h.2 ha2 hb e
theorem node_mem {f : Fs} {i : Int} {n : Nd} (h : nodeM f i = some n) : n ∈ f ∧ n.ino = i :=
 ⟨List.mem_of_find?_eq_some h,by simpa using List.find?_some h⟩
theorem node_of {f : Fs} (h : Nod f) {n : Nd} (hn : n ∈ f) : nodeM f n.ino = some n := by
 cases hm : nodeM f n.ino with
 | none =>
   unfold nodeM at hm
   have := List.find?_eq_none.1 hm n hn
   simp at this
 | some m =>
   have h1 := node_mem hm
   rw [nod_eq h h1.1 hn h1.2]
theorem node_iff {f : Fs} (h : Nod f) {i : Int} {n : Nd} : nodeM f i = some n ↔ n ∈ f ∧ n.ino = i := ⟨node_mem,fun ⟨h1,h2⟩ => by rw [← h2]; exact node_of h h1⟩
theorem node_no {f : Fs} {i : Int} (h : ∀ x ∈ f,x.ino ≠ i) : nodeM f i = none := by
 unfold nodeM
 rw [List.find?_eq_none]
 intro x hx
 simpa using h x hx
theorem withL_none (n : Nd) : ∀ (f : Fs) (d : Bool),(∀ x ∈ f,x.ino ≠ n.ino) → withL n d f = f ++ (if d then [] else [n])
 | [],d,_ => rfl
 | x :: r,d,h => by
   unfold withL
   rw [if_neg (h x (by simp)),withL_none n r d (fun y hy => h y (by simp [hy]))]
   rfl
theorem withL_at (n m : Nd) (hi : m.ino = n.ino) : ∀ (f : Fs) (d : Bool),Nod f → m ∈ f → ∃ A B,f = A ++ m :: B ∧ withL n d f = A ++ n :: B
 | [],d,_,h => by cases h
 | x :: r,d,hn,h => by
   unfold Nod at hn
   rw [List.pairwise_cons] at hn
   unfold withL
   rcases List.mem_cons.1 h with rfl | h
   ·rw [if_pos hi,withL_none n r true (fun y hy e => hn.1 y hy (by rw [hi,e]))]
    exact ⟨[],r,rfl,by simp⟩
   ·rw [if_neg (fun e => hn.1 m h (by rw [e,hi]))]
    obtain ⟨A,B,h1,h2⟩ := withL_at n m hi r d hn.2 h
    exact ⟨x :: A,B,by rw [h1]; rfl,by rw [h2]; rfl⟩
theorem with_new {f : Fs} {n : Nd} (h : ∀ x ∈ f,x.ino ≠ n.ino) : withM f n = f ++ [n] := withL_none n f false h
theorem with_at {f : Fs} (h : Nod f) {n m : Nd} (hm : m ∈ f) (hi : m.ino = n.ino) : ∃ A B,f = A ++ m :: B ∧ withM f n = A ++ n :: B := withL_at n m hi f false h hm
theorem nod_parts {A B : Fs} {m : Nd} (h : Nod (A ++ m :: B)) : (∀ x ∈ A,x.ino ≠ m.ino) ∧ (∀ x ∈ B,x.ino ≠ m.ino) ∧ Nod (A ++ B) := by
 unfold Nod at h ⊢
 rw [List.pairwise_append,List.pairwise_cons] at h
 refine ⟨fun x hx => h.2.2 x hx m (by simp),fun x hx e => h.2.1.1 x hx e.symm,?_⟩
 rw [List.pairwise_append]
 exact ⟨h.1,h.2.1.2,fun a ha b hb => h.2.2 a ha b (by simp [hb])⟩
theorem nod_put {A B : Fs} {m n : Nd} (h : Nod (A ++ m :: B)) (hi : m.ino = n.ino) : Nod (A ++ n :: B) := by
 unfold Nod at h ⊢
 rw [List.pairwise_append,List.pairwise_cons] at h ⊢
 refine ⟨h.1,⟨fun x hx => by rw [← hi]; exact h.2.1.1 x hx,h.2.1.2⟩,fun a ha b hb => ?_⟩
 rcases List.mem_cons.1 hb with rfl | hb
 ·rw [← hi]; exact h.2.2 a ha m (by simp)
 ·exact h.2.2 a ha b (by simp [hb])
theorem mem_with {f : Fs} (h : Nod f) {n m : Nd} (hm : m ∈ f) (hi : m.ino = n.ino) {x : Nd} : x ∈ withM f n ↔ x = n ∨ (x ∈ f ∧ x.ino ≠ n.ino) := by
 obtain ⟨A,B,h1,h2⟩ := with_at h hm hi
 rw [h2]
 subst h1
 have hp := nod_parts h
 rw [List.mem_append,List.mem_cons,List.mem_append,List.mem_cons]
 constructor
 ·rintro (h3 | h3 | h3)
  ·exact .inr ⟨.inl h3,by rw [← hi]; exact hp.1 x h3⟩
  ·exact .inl h3
  ·exact .inr ⟨.inr (.inr h3),by rw [← hi]; exact hp.2.1 x h3⟩
 ·rintro (h3 | ⟨h3 | h3 | h3,h4⟩)
  ·exact .inr (.inl h3)
  ·exact .inl h3
  ·subst h3; exact absurd hi h4
  ·exact .inr (.inr h3)
theorem nod_with {f : Fs} (h : Nod f) {n m : Nd} (hm : m ∈ f) (hi : m.ino = n.ino) : Nod (withM f n) := by
 obtain ⟨A,B,h1,h2⟩ := with_at h hm hi
 rw [h2]
 subst h1
 exact nod_put h hi
theorem nod_new {f : Fs} (h : Nod f) {n : Nd} (hn : ∀ x ∈ f,x.ino ≠ n.ino) : Nod (withM f n) := by
 rw [with_new hn]
 unfold Nod
 rw [List.pairwise_append]
 exact ⟨h,List.pairwise_singleton _ _,fun a ha b hb => by rw [List.mem_singleton.1 hb]; exact hn a ha⟩
theorem mem_new {f : Fs} {n : Nd} (hn : ∀ x ∈ f,x.ino ≠ n.ino) {x : Nd} : x ∈ withM f n ↔ x = n ∨ x ∈ f := by
 rw [with_new hn,List.mem_append,List.mem_singleton]
 exact or_comm
def S (f : Fs) (g : Nd → Nat) : Nat := (f.map g).sum
theorem S_app (A B : Fs) (g : Nd → Nat) : S (A ++ B) g = S A g + S B g := by unfold S; rw [List.map_append,List.sum_append]
theorem S_cons (x : Nd) (B : Fs) (g : Nd → Nat) : S (x :: B) g = g x + S B g := rfl
theorem S_with {f : Fs} (h : Nod f) {n m : Nd} (hm : m ∈ f) (hi : m.ino = n.ino) (g : Nd → Nat) : S (withM f n) g + g m = S f g + g n := by
 obtain ⟨A,B,h1,h2⟩ := with_at h hm hi
 rw [h2,h1,S_app,S_app,S_cons,S_cons]
 omega
theorem S_new {f : Fs} {n : Nd} (hn : ∀ x ∈ f,x.ino ≠ n.ino) (g : Nd → Nat) : S (withM f n) g = S f g + g n := by
 rw [with_new hn,S_app,S_cons]
 rfl
theorem S_le {f : Fs} {n : Nd} (h : n ∈ f) (g : Nd → Nat) : g n ≤ S f g := by
 obtain ⟨A,B,rfl⟩ := List.append_of_mem h
 rw [S_app,S_cons]
 omega
def toE (i : Int) (n : Nd) : Nat := n.ents.countP fun e => decide (e.ino = i)
def cnt (f : Fs) (i : Int) : Nat := S f (toE i)
theorem toE_pos {i : Int} {n : Nd} : 0 < toE i n ↔ ∃ e ∈ n.ents,e.ino = i := by
 unfold toE
 rw [List.countP_pos_iff]
 simp
theorem cnt_pos {f : Fs} {i : Int} : 0 < cnt f i ↔ ∃ n ∈ f,∃ e ∈ n.ents,e.ino = i := by
 constructor
 ·intro h
  unfold cnt S at h
  induction f with
  | nil => simp at h
  | cons x r ih =>
    rw [List.map_cons,List.sum_cons] at h
    by_cases hx : 0 < toE i x
    ·obtain ⟨e,h1,h2⟩ := toE_pos.1 hx
     exact ⟨x,by simp,e,h1,h2⟩
    ·obtain ⟨n,h1,h2⟩ := ih (by omega)
     exact ⟨n,by simp [h1],h2⟩
 ·rintro ⟨n,h1,h2⟩
  exact Nat.lt_of_lt_of_le (toE_pos.2 h2) (S_le h1 _)
def Ord (l : List En) : Prop := l.Pairwise fun a b => kl a.name b.name = true
theorem ord_eq {l : List En} (h : Ord l) {a b : En} (ha : a ∈ l) (hb : b ∈ l) (e : a.name = b.name) : a = b := by
 induction l with
 | nil => cases ha
 | cons x r ih =>
   unfold Ord at h
   rw [List.pairwise_cons] at h
   rcases List.mem_cons.1 ha with rfl | ha2
   ·rcases List.mem_cons.1 hb with rfl | hb
    ·rfl
    ·exact absurd e (kl_ne (h.1 b hb))
   ·rcases List.mem_cons.1 hb with rfl | hb
    ·exact absurd e.symm (kl_ne (h.1 a ha2))
    ·exact ih h.2 ha2 hb
theorem ins_gone (nm : ByteArray) (i : Int) : ∀ l : List En,insE nm i true l = l.filter fun e => !decide (e.name = nm)
 | [] => rfl
 | e :: r => by
   unfold insE
   rw [List.filter_cons,Bool.true_or,ins_gone nm i r]
   by_cases h : e.name = nm <;> simp [h]
theorem ins_is (nm : ByteArray) (i : Int) : ∀ l : List En,Ord l → insE nm i false l = l.filter (fun e => kl e.name nm) ++ ⟨nm,i⟩ :: l.filter (fun e => kl nm e.name)
 | [],_ => rfl
 | e :: r,h => by
   unfold Ord at h
   rw [List.pairwise_cons] at h
   unfold insE
   cases h1 : kl e.name nm with
   | true =>
     rw [List.filter_cons,List.filter_cons,if_pos h1,kl_asym h1,if_neg (kl_ne h1)]
     simp only [Bool.not_false,Bool.not_true,Bool.and_false,Bool.false_or,Bool.false_eq_true,if_false,List.nil_append,List.cons_append]
     rw [ins_is nm i r h.2]
   | false =>
     rw [List.filter_cons,List.filter_cons,h1]
     simp only [Bool.not_false,Bool.and_true,Bool.false_or,Bool.false_eq_true,if_false,if_true,List.cons_append,List.nil_append]
     have hr : ∀ x ∈ r,kl nm x.name = true := fun x hx => by
      by_cases e2 : e.name = nm
      ·rw [← e2]; exact h.1 x hx
      ·cases h2 : kl nm e.name with
       | true => exact kl_trans h2 (h.1 x hx)
       | false => exact absurd (kl_tri h1 h2) e2
     rw [ins_gone,List.filter_eq_self.2 (fun x hx => by simpa using (kl_ne (hr x hx)).symm),List.filter_eq_nil_iff.2 (fun x hx => by rw [kl_asym (hr x hx)]; decide),List.filter_eq_self.2 hr,List.nil_append]
     by_cases e2 : e.name = nm
     ·rw [if_pos e2,e2,kl_irr]; simp
     ·rw [if_neg e2]
      have h2 : kl nm e.name = true := by
       cases h2 : kl nm e.name with
       | true => rfl
       | false => exact absurd (kl_tri h1 h2) e2
      rw [h2]; simp
theorem ord_filter {l : List En} (h : Ord l) (p : En → Bool) : Ord (l.filter p) := List.Pairwise.filter _ h
theorem mem_ins {l : List En} (h : Ord l) {nm : ByteArray} {i : Int} {e : En} : e ∈ insE nm i (decide (i = 0)) l ↔ (i ≠ 0 ∧ e = ⟨nm,i⟩) ∨ (e ∈ l ∧ e.name ≠ nm) := by
 by_cases hi : i = 0
 ·rw [decide_eq_true hi,ins_gone,List.mem_filter]
  simp [hi]
 ·rw [decide_eq_false hi,ins_is nm i l h,List.mem_append,List.mem_cons,List.mem_filter,List.mem_filter]
  constructor
  ·rintro (⟨h1,h2⟩ | h1 | ⟨h1,h2⟩)
   ·exact .inr ⟨h1,kl_ne h2⟩
   ·exact .inl ⟨hi,h1⟩
   ·exact .inr ⟨h1,(kl_ne h2).symm⟩
  ·rintro (⟨_,h1⟩ | ⟨h1,h2⟩)
   ·exact .inr (.inl h1)
   ·cases h3 : kl e.name nm with
    | true => exact .inl ⟨h1,rfl⟩
    | false =>
      cases h4 : kl nm e.name with
      | true => exact .inr (.inr ⟨h1,rfl⟩)
      | false => exact absurd (kl_tri h3 h4) h2
theorem ord_ins {l : List En} (h : Ord l) (nm : ByteArray) (i : Int) : Ord (insE nm i (decide (i = 0)) l) := by
 by_cases hi : i = 0
 ·rw [decide_eq_true hi,ins_gone]
  exact ord_filter h _
 ·rw [decide_eq_false hi,ins_is nm i l h]
  unfold Ord
  rw [List.pairwise_append,List.pairwise_cons]
  refine ⟨ord_filter h _,⟨fun q hq => (List.mem_filter.1 hq).2,ord_filter h _⟩,fun a ha q hq => ?_⟩
  have h1 := (List.mem_filter.1 ha).2
  rcases List.mem_cons.1 hq with rfl | hq
  ·exact h1
  ·exact kl_trans h1 (List.mem_filter.1 hq).2
theorem count_ins {l : List En} (h : Ord l) (nm : ByteArray) (i : Int) (p : En → Bool) : (insE nm i (decide (i = 0)) l).countP p + (l.filter fun e => decide (e.name = nm)).countP p = l.countP p + (if i ≠ 0 ∧ p ⟨nm,i⟩ = true then 1 else 0) := by
 have hsplit : ∀ m : List En,m.countP p = (m.filter fun e => !decide (e.name = nm)).countP p + (m.filter fun e => decide (e.name = nm)).countP p := by
  intro m
  induction m with
  | nil => rfl
  | cons x r ih =>
    rw [List.countP_cons,ih,List.filter_cons,List.filter_cons]
    by_cases e : x.name = nm
    ·simp [e,List.countP_cons]; omega
    ·simp [e,List.countP_cons]; omega
 by_cases hi : i = 0
 ·rw [decide_eq_true hi,ins_gone,hsplit l,if_neg (fun h => h.1 hi)]
  omega
 ·rw [decide_eq_false hi,ins_is nm i l h,List.countP_append,List.countP_cons,hsplit l]
  have h2 : ∀ m : List En,Ord m → (m.filter fun e => !decide (e.name = nm)).countP p = (m.filter fun e => kl e.name nm).countP p + (m.filter fun e => kl nm e.name).countP p := by
   intro m hm
   induction m with
   | nil => rfl
   | cons x r ih =>
     unfold Ord at hm
     rw [List.pairwise_cons] at hm
     have := ih hm.2
     rw [List.filter_cons,List.filter_cons,List.filter_cons]
     by_cases e : x.name = nm
     ·rw [e,kl_irr]; simp; omega
     ·cases h3 : kl x.name nm with
      | true => rw [kl_asym h3]; simp [e,List.countP_cons]; omega
      | false =>
        cases h4 : kl nm x.name with
        | true => simp [e,List.countP_cons]; omega
        | false => exact absurd (kl_tri h3 h4) e
  rw [h2 l h]
  by_cases hp : p ⟨nm,i⟩ = true
  ·rw [if_pos hp,if_pos ⟨hi,hp⟩]; omega
  ·rw [if_neg hp,if_neg (fun h => hp h.2)]; omega
theorem entry_some {n : Nd} (h : Ord n.ents) {e : En} (he : e ∈ n.ents) : entryM n e.name = e.ino := by
 unfold entryM
 cases hf : n.ents.find? (fun x => decide (x.name = e.name)) with
 | none =>
   have := List.find?_eq_none.1 hf e he
   simp at this
 | some x =>
   have h1 : x.name = e.name := by simpa using List.find?_some hf
   rw [ord_eq h (List.mem_of_find?_eq_some hf) he h1]
theorem entry_ways (n : Nd) (nm : ByteArray) : (∃ e ∈ n.ents,e.name = nm ∧ entryM n nm = e.ino) ∨ ((∀ e ∈ n.ents,e.name ≠ nm) ∧ entryM n nm = 0) := by
 unfold entryM
 cases hf : n.ents.find? (fun x => decide (x.name = nm)) with
 | none => exact .inr ⟨fun e he h => by have := List.find?_eq_none.1 hf e he; simp [h] at this,rfl⟩
 | some x => exact .inl ⟨x,List.mem_of_find?_eq_some hf,by simpa using List.find?_some hf,rfl⟩
end Go.Proofs.YtfalhnomhidkcaaGreatDoor.DirsM