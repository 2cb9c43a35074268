import Derived.Test.YtogdjbhjgbnicaaGreatDoorOpsNumbersMAO
set_option linter.unusedVariables false
set_option linter.unusedSimpArgs false
namespace Go.Proofs.YtogdjbhjgbnicaaGreatDoor.WalkKm
open Byte PackM KeysM KeysV TreeM ViewM ViewKm NodeM NamesM WalkM WalkF
theorem range_ent {L : List Pr} {a b : ByteArray} {P : Sp → Bool} (hr : Rng a b P) (hk : ∀ p ∈ L,(sp p.key).letter ≠ 0) : rangeL a b L = L.filter (fun p => P (sp p.key)) := by
 unfold rangeL
 refine List.filter_congr fun p hp => ?_
 rw [kl_lt,kl_lt]
 exact hr p.key (hk p hp)
theorem range_out {L : List Pr} {a b : ByteArray} (h : kl a b = false) : rangeL a b L = [] := by
 unfold rangeL
 refine List.filter_eq_nil_iff.2 fun p hp hh => ?_
 rw [Bool.and_eq_true,Bool.not_eq_true'] at hh
 obtain ⟨h1,h2⟩ := hh
 cases h3 : kl a p.key with
 | true =>
   have := kl_trans h3 h2
   rw [h] at this
   cases this
 | false =>
   have := kl_tri h1 h3
   rw [← this,h2] at h
   cases h
theorem rangeOf_is (s : Vs) (a b : ByteArray) : s.rangeOf a b = rangeL a b s.shown := by
 unfold Vs.rangeOf
 cases h : kl a b with
 | true => rfl
 | false => rw [range_out h]; rfl
theorem list_ent (dir : Int) (L : List Pr) : listM dir L = (L.filter (entB dir)).map (fun p => (sp p.key).name) := rfl
theorem map_nx {α β : Type} {L : List α} {k : Nat} {x : α} (h : L[k]? = some x) (f : α → β) : (L.take (k + 1)).map f = (L.take k).map f ++ [f x] := by
 obtain ⟨hk,he⟩ := List.getElem?_eq_some_iff.1 h
 rw [List.take_succ_eq_append_getElem hk,List.map_append,he]
 rfl
theorem load_none {L : List Pr} {ino : Int} (h : getL (kI ino) L = none) : loadM L ino = if ino = 1 then (⟨2,2,0,1⟩,true) else (ino0,false) := by
 unfold loadM
 rw [h]
theorem load_some {L : List Pr} {ino : Int} {q : Pr} (h : getL (kI ino) L = some q) : loadM L ino = if gok q.value then (⟨gk q.value,gl q.value,gs q.value,gp q.value⟩,true) else (ino0,false) := by
 unfold loadM
 rw [h]
structure VsB (s : Vs) : Prop where
 base : ∀ p ∈ s.base,p.value.size ≤ 200000000000000
 wr : ∀ p ∈ s.wr,p.value.size ≤ 200000000000000
theorem VsB.new {L : List Pr} (h : ∀ p ∈ L,p.value.size ≤ 200000000000000) : VsB ⟨L,[],[],[]⟩ := ⟨h,fun p hp => by cases hp⟩
theorem VsB.read {s : Vs} (h : VsB s) (k : ByteArray) : VsB (s.read k) := ⟨h.base,h.wr⟩
theorem VsB.ranged {s : Vs} (h : VsB s) (a b : ByteArray) : VsB (s.ranged a b) := by
 unfold Vs.ranged
 split
 ·exact ⟨h.base,h.wr⟩
 ·exact h
theorem VsB.write {s : Vs} (h : VsB s) {p : Pr} (hp : p.value.size ≤ 200000000000000) : VsB (s.write p) := by
 unfold Vs.write
 split
 ·exact h
 ·refine ⟨h.base,fun q hq => ?_⟩
  have hq' : q ∈ writeW s.base s.wr p := hq
  unfold writeW at hq'
  split at hq'
  ·exact h.wr q (List.mem_filter.1 hq').1
  ·rcases mem_putP hq' with rfl | ⟨h1,_⟩
   ·exact hp
   ·exact h.wr q h1
theorem VsB.shown {s : Vs} (h : VsB s) (ho : s.Ok) {q : Pr} (hq : q ∈ s.shown) : q.value.size ≤ 200000000000000 := by
 rcases (mem_shown ho.wr).1 hq with ⟨x,hx,_,rfl⟩ | ⟨h1,_⟩
 ·exact h.wr x hx
 ·exact h.base q h1
theorem get_in {k : ByteArray} {L : List Pr} {q : Pr} (h : getL k L = some q) : q ∈ L := List.mem_of_find?_eq_some h
def withinM (L : List Pr) (dir : Int) (name : ByteArray) : Spot := if (childM L dir name).2 && (loadM L (childM L dir name).1).2 then ⟨dir,name,(childM L dir name).1,(loadM L (childM L dir name).1).1⟩ else ⟨dir,name,0,ino0⟩
theorem step_within (L : List Pr) (x : Spot) (name : ByteArray) : stepM L x name = withinM L x.ino name := rfl
def readW (s : Vs) (dir : Int) (name : ByteArray) : Vs := if (childM s.shown dir name).2 then (s.read (kE dir name)).read (kI (childM s.shown dir name).1) else s.read (kE dir name)
structure Fnd (s s' : Vs) (x : Spot) (k : Nat) : Prop where
 base : s'.base = s.base
 wr : s'.wr = s.wr
 rg : s'.rg = s.rg
 keep : ∀ q,hasK q s.rd → hasK q s'.rd
 root : hasK (kI 1) s'.rd
 ent : x.name ≠ ⟨#[]⟩ → hasK (kE x.dir x.name) s'.rd
 ino : x.ino ≠ 0 → hasK (kI x.ino) s'.rd
 dir : x.dir ≠ 0 → hasK (kI x.dir) s'.rd
 len : s'.rd.length ≤ s.rd.length + 1 + 2 * k
 small : ∀ p ∈ s'.rd,p ∈ s.rd ∨ p.key.size ≤ 100000
 bd : SpotB x
theorem read_small {s s' : Vs} {k : ByteArray} (hk : k.size ≤ 100000) (h : ∀ p ∈ s'.rd,p ∈ s.rd ∨ p.key.size ≤ 100000) : ∀ p ∈ (s'.read k).rd,p ∈ s.rd ∨ p.key.size ≤ 100000 := fun p hp => by
 rcases mem_putP (show p ∈ putP ⟨k,⟨#[]⟩,false⟩ s'.rd from hp) with rfl | ⟨h1,_⟩
 ·exact .inr hk
 ·exact h p h1
theorem read_len (s : Vs) (k : ByteArray) : (s.read k).rd.length ≤ s.rd.length + 1 := putP_len _ _
theorem ki_sz (ino : Int) : (kI ino).size ≤ 100000 := by unfold kI; rw [ks_size]; omega
theorem ke_sz (dir : Int) (name : ByteArray) : (kE dir name).size ≤ 100000 := by
 unfold kE
 split
 ·decide
 ·rw [ByteArray.size_append,ks_size]; omega
theorem fnd_start (s : Vs) (L : List Pr) : Fnd s (s.read (kI 1)) ⟨0,⟨#[]⟩,1,(loadM L 1).1⟩ 0 where
 base := rfl
 wr := rfl
 rg := rfl
 keep := fun q h => hasK_keep h _ _
 root := hasK_put _ _ _ _
 ent := fun h => absurd rfl h
 ino := fun _ => hasK_put _ _ _ _
 dir := fun h => absurd rfl h
 len := by have := read_len s (kI 1); omega
 small := read_small (ki_sz 1) (fun p hp => .inl hp)
 bd := ⟨(show (0 : Int) ≤ 0 by decide),(show (0 : Int) ≤ 4294967295 by decide),(show (0 : Int) ≤ 1 by decide),(show (1 : Int) ≤ 4294967295 by decide),(show (0 : Nat) ≤ 32 by decide)⟩
theorem Fnd.shown {s s' : Vs} {x : Spot} {k : Nat} (h : Fnd s s' x k) : s'.shown = s.shown := by
 unfold Vs.shown
 rw [h.base,h.wr]
theorem Fnd.step {s s' : Vs} {x : Spot} {k : Nat} (h : Fnd s s' x k) (hx : x.ino ≠ 0) {name : ByteArray} (hn : name.size ≤ 32) : Fnd s (readW s' x.ino name) (withinM s'.shown x.ino name) (k + 1) := by
 have hbd : SpotB (withinM s'.shown x.ino name) := by rw [← step_within]; exact step_bd h.bd hn
 have hdir : (withinM s'.shown x.ino name).dir = x.ino ∧ (withinM s'.shown x.ino name).name = name := by
  unfold withinM
  split <;> exact ⟨rfl,rfl⟩
 have hk : ∀ q,hasK q s'.rd → hasK q (readW s' x.ino name).rd := fun q hq => by
  unfold readW
  split
  ·exact hasK_keep (hasK_keep hq _ _) _ _
  ·exact hasK_keep hq _ _
 have hE : hasK (kE x.ino name) (readW s' x.ino name).rd := by
  unfold readW
  split
  ·exact hasK_keep (hasK_put _ _ _ _) _ _
  ·exact hasK_put _ _ _ _
 refine ⟨?_,?_,?_,fun q hq => hk q (h.keep q hq),hk _ h.root,fun _ => by rw [hdir.1,hdir.2]; exact hE,fun hi => ?_,fun _ => by rw [hdir.1]; exact hk _ (h.ino hx),?_,?_,hbd⟩
 ·unfold readW; split <;> exact h.base
 ·unfold readW; split <;> exact h.wr
 ·unfold readW; split <;> exact h.rg
 ·unfold withinM at hi ⊢
  cases hc : (childM s'.shown x.ino name).2 with
  | false => rw [hc] at hi; exact absurd rfl hi
  | true =>
    rw [hc] at hi
    unfold readW
    rw [if_pos hc]
    cases hq : (loadM s'.shown (childM s'.shown x.ino name).1).2 with
    | false => rw [hq] at hi; exact absurd rfl hi
    | true => exact hasK_put _ _ _ _
 ·have hl := h.len
  unfold readW
  split
  ·have h1 := read_len s' (kE x.ino name)
   have h2 := read_len (s'.read (kE x.ino name)) (kI (childM s'.shown x.ino name).1)
   omega
  ·have h1 := read_len s' (kE x.ino name)
   omega
 ·unfold readW
  split
  ·exact read_small (ki_sz _) (read_small (ke_sz _ _) h.small)
  ·exact read_small (ke_sz _ _) h.small
theorem Fnd.lim {s s' : Vs} {x : Spot} {k : Nat} (h : Fnd s s' x k) (hl : s.rd.length ≤ 19000) (hk : k ≤ 16) : s'.rd.length ≤ 19900 := by have := h.len; omega
theorem fndr_ok {s s' : Vs} {x : Spot} {k : Nat} (h : Fnd s s' x k) (hk : k ≤ 16) {path : ByteArray} (hs : (spl path).2 = 0) {y : Spot} {er : Int} (hf : findM s.shown path = (y,er)) (hy : er = 0 → y = x) : FindR s path s' where
 base := h.base
 wr := h.wr
 rg := h.rg
 none_ := fun hn => absurd hs hn
 keep := h.keep
 root := fun _ => h.root
 ent := fun _ h2 h3 => by rw [hf] at h2 h3 ⊢; rw [hy h2] at h3 ⊢; exact h.ent h3
 ino := fun _ h2 h3 => by rw [hf] at h2 h3 ⊢; rw [hy h2] at h3 ⊢; exact h.ino h3
 dir := fun _ h2 h3 => by rw [hf] at h2 h3 ⊢; rw [hy h2] at h3 ⊢; exact h.dir h3
 len := by have := h.len; omega
 small := h.small
theorem fndr_no {s : Vs} {path : ByteArray} (hs : (spl path).2 ≠ 0) : FindR s path s where
 base := rfl
 wr := rfl
 rg := rfl
 none_ := fun _ => rfl
 keep := fun _ h => h
 root := fun h => absurd h hs
 ent := fun h => absurd h hs
 ino := fun h => absurd h hs
 dir := fun h => absurd h hs
 len := Nat.le_add_right _ _
 small := fun p hp => .inl hp
theorem find_no {L : List Pr} {path : ByteArray} (hs : (spl path).2 ≠ 0) : findM L path = (spot0,(spl path).2) := if_pos hs
theorem find_yes {L : List Pr} {path : ByteArray} (hs : (spl path).2 = 0) : findM L path = findL L ⟨0,⟨#[]⟩,1,(loadM L 1).1⟩ (spl path).1 := if_neg (fun h => h hs)
theorem findl_end (L : List Pr) (x : Spot) {l : List ByteArray} {k : Nat} (h : l.length ≤ k) : findL L x (l.drop k) = (x,0) := by
 rw [List.drop_eq_nil_of_le h]
 rfl
theorem findl_at {L : List Pr} {x : Spot} {l : List ByteArray} {k : Nat} {name : ByteArray} (h : l[k]? = some name) : findL L x (l.drop k) = if x.ino = 0 then (spot0,10) else if x.node.k ≠ 2 then (spot0,12) else findL L (withinM L x.ino name) (l.drop (k + 1)) := by
 obtain ⟨hk,he⟩ := List.getElem?_eq_some_iff.1 h
 rw [List.drop_eq_getElem_cons hk,he]
 rfl
end Go.Proofs.YtogdjbhjgbnicaaGreatDoor.WalkKm
namespace Go.Proofs.YtogdjbhjgbnicaaGreatDoor.DirsM
open Byte PackM KeysM TreeM ViewM ViewKm NodeM NamesM WalkM WalkF WalkKm
structure En where
 name : ByteArray
 ino : Int
structure Nd where
 ino : Int
 kind : Int
 links : Int
 data : ByteArray
 ents : List En
abbrev Fs := List Nd
abbrev NE : ByteArray := ⟨#[]⟩
def nodeM (f : Fs) (i : Int) : Option Nd := f.find? fun n => decide (n.ino = i)
def withL (n : Nd) : Bool → Fs → Fs
 | d,[] => if d then [] else [n]
 | d,x :: r => if x.ino = n.ino then n :: withL n true r else x :: withL n d r
def withM (f : Fs) (n : Nd) : Fs := withL n false f
def withoutM (f : Fs) (i : Int) : Fs := f.filter fun x => !decide (x.ino = i)
def entryM (n : Nd) (nm : ByteArray) : Int := match n.ents.find? (fun e => decide (e.name = nm)) with
 | some e => e.ino
 | none => 0
def insE (nm : ByteArray) (i : Int) : Bool → List En → List En
 | d,[] => if d then [] else [⟨nm,i⟩]
 | d,e :: r => (if !d && !kl e.name nm then [⟨nm,i⟩] else []) ++ (if e.name = nm then [] else [e]) ++ insE nm i (d || !kl e.name nm) r
def namedM (f : Fs) (d : Int) (nm : ByteArray) (i : Int) : Fs := match nodeM f d with
 | some n => withM f { n with ents := insE nm i (decide (i = 0)) n.ents }
 | none => f
def linkedM (f : Fs) (i by_ : Int) : Fs := match nodeM f i with
 | some n => withM f { n with links := n.links + by_ }
 | none => f
structure Spt where
 dir : Int
 name : ByteArray
 ino : Int
def spt0 : Spt := ⟨0,NE,0⟩
def fndL (f : Fs) (x : Spt) : List ByteArray → Spt × Int
 | [] => (x,0)
 | nm :: r => if x.ino = 0 then (spt0,10) else match nodeM f x.ino with
   | none => (spt0,0)
   | some n => if n.kind ≠ 2 then (spt0,12) else fndL f ⟨x.ino,nm,entryM n nm⟩ r
def fndM (f : Fs) (path : ByteArray) : Spt × Int := if (spl path).2 ≠ 0 then (spt0,(spl path).2) else fndL f ⟨0,NE,1⟩ (spl path).1
def newNd (kind ino : Int) : Nd := if kind = 1 then ⟨ino,1,1,NE,[]⟩ else ⟨ino,2,2,NE,[]⟩
def makeAt (f : Fs) (s : Spt) (kind ino : Int) : Fs := namedM (if kind = 1 then withM f ⟨ino,1,1,NE,[]⟩ else linkedM (withM f ⟨ino,2,2,NE,[]⟩) s.dir 1) s.dir s.name ino
def makeM (f : Fs) (path : ByteArray) (kind ino : Int) : Int × Fs :=
 if (fndM f path).2 ≠ 0 then ((fndM f path).2,f) else if (fndM f path).1.ino ≠ 0 then (11,f) else (0,makeAt f (fndM f path).1 kind ino)
def removeAt (f : Fs) (s : Spt) : Int × Fs := match nodeM f s.ino with
 | none => (0,f)
 | some n => if n.kind ≠ 2 then (12,f) else if n.ents.length ≠ 0 then (14,f) else (0,namedM (linkedM (withoutM f s.ino) s.dir (-1)) s.dir s.name 0)
def unlinkAt (f : Fs) (s : Spt) : Int × Fs := match nodeM f s.ino with
 | none => (0,f)
 | some n => if n.kind = 2 then (13,f) else (0,namedM (if n.links = 1 then withoutM f s.ino else linkedM f s.ino (-1)) s.dir s.name 0)
def removeM (f : Fs) (path : ByteArray) : Int × Fs :=
 if (fndM f path).2 ≠ 0 then ((fndM f path).2,f) else if (fndM f path).1.ino = 1 then (29,f) else if (fndM f path).1.ino = 0 then (10,f) else removeAt f (fndM f path).1
def listF (f : Fs) (path : ByteArray) : List ByteArray × Int :=
 if (fndM f path).2 ≠ 0 then ([],(fndM f path).2) else if (fndM f path).1.ino = 0 then ([],10) else match nodeM f (fndM f path).1.ino with
  | none => ([],0)
  | some n => if n.kind ≠ 2 then ([],12) else (n.ents.map (·.name),0)
def linkM (f : Fs) (old path : ByteArray) : Int × Fs :=
 if (fndM f old).2 ≠ 0 then ((fndM f old).2,f) else if (fndM f old).1.ino = 0 then (10,f) else match nodeM f (fndM f old).1.ino with
  | none => (0,f)
  | some n => if n.kind = 2 then (13,f) else if (fndM f path).2 ≠ 0 then ((fndM f path).2,f) else if (fndM f path).1.ino ≠ 0 then (11,f) else if 1000 ≤ n.links then (18,f)
    else (0,namedM (linkedM f (fndM f old).1.ino 1) (fndM f path).1.dir (fndM f path).1.name (fndM f old).1.ino)
def unlinkM (f : Fs) (path : ByteArray) : Int × Fs :=
 if (fndM f path).2 ≠ 0 then ((fndM f path).2,f) else if (fndM f path).1.ino = 0 then (10,f) else unlinkAt f (fndM f path).1
def clearAt (f : Fs) (t : Spt) (dir : Bool) : Int × Fs := if t.ino = 0 then (0,f) else if dir then removeAt f t else unlinkAt f t
def moveAt (f : Fs) (s t : Spt) (dir : Bool) : Fs :=
 if dir then linkedM (linkedM (namedM (namedM f s.dir s.name 0) t.dir t.name s.ino) s.dir (-1)) t.dir 1 else namedM (namedM f s.dir s.name 0) t.dir t.name s.ino
def renameM (f : Fs) (old path : ByteArray) : Int × Fs :=
 if (fndM f old).2 ≠ 0 then ((fndM f old).2,f) else if (fndM f old).1.ino = 1 then (29,f) else if (fndM f old).1.ino = 0 then (10,f)
 else if (fndM f path).2 ≠ 0 then ((fndM f path).2,f) else if (fndM f path).1.ino = 1 then (29,f) else if (fndM f path).1.ino = (fndM f old).1.ino then (0,f)
 else match nodeM f (fndM f old).1.ino with
  | none => (0,f)
  | some n => if n.kind = 2 ∧ under (spl old).1 (spl path).1 = true then (15,f)
    else if (clearAt f (fndM f path).1 (decide (n.kind = 2))).1 ≠ 0 then ((clearAt f (fndM f path).1 (decide (n.kind = 2))).1,f)
    else (0,moveAt (clearAt f (fndM f path).1 (decide (n.kind = 2))).2 (fndM f old).1 (fndM f path).1 (decide (n.kind = 2)))
def Nod (f : Fs) : Prop := f.Pairwise fun a b => a.ino ≠ b.ino
theorem nod_eq {f : Fs} (h : Nod f) : ∀ {a b : Nd},a ∈ f → b ∈ f → a.ino = b.ino → a = b := by
 induction f with
 | nil => intro a b ha; cases ha
 | cons x r ih =>
   intro a b ha hb e
   unfold Nod at h
   rw [List.pairwise_cons] at h
   rcases List.mem_cons.1 ha with rfl | ha2
   ·rcases List.mem_cons.1 hb with rfl | hb
    ·rfl
    ·exact absurd e (h.1 b hb)
   ·rcases List.mem_cons.1 hb with rfl | hb
    ·exact absurd e.symm (h.1 a ha2)
    ·exact ih h.2 ha2 hb e
theorem node_mem {f : Fs} {i : Int} {n : Nd} (h : nodeM f i = some n) : n ∈ f ∧ n.ino = i :=
 ⟨List.mem_of_find?_eq_some h,by simpa using List.find?_some h⟩
theorem node_of {f : Fs} (h : Nod f) {n : Nd} (hn : n ∈ f) : nodeM f n.ino = some n := by
 cases hm : nodeM f n.ino with
 | none =>
   unfold nodeM at hm
   have := List.find?_eq_none.1 hm n hn
   simp at this
 | some m =>
   have h1 := node_mem hm
   rw [nod_eq h h1.1 hn h1.2]
theorem node_iff {f : Fs} (h : Nod f) {i : Int} {n : Nd} : nodeM f i = some n ↔ n ∈ f ∧ n.ino = i := ⟨node_mem,fun ⟨h1,h2⟩ => by rw [← h2]; exact node_of h h1⟩
theorem node_no {f : Fs} {i : Int} (h : ∀ x ∈ f,x.ino ≠ i) : nodeM f i = none := by
 unfold nodeM
 rw [List.find?_eq_none]
 intro x hx
 simpa using h x hx
theorem withL_none (n : Nd) : ∀ (f : Fs) (d : Bool),(∀ x ∈ f,x.ino ≠ n.ino) → withL n d f = f ++ (if d then [] else [n])
 | [],d,_ => rfl
 | x :: r,d,h => by
   unfold withL
   rw [if_neg (h x (by simp)),withL_none n r d (fun y hy => h y (by simp [hy]))]
   rfl
theorem withL_at (n m : Nd) (hi : m.ino = n.ino) : ∀ (f : Fs) (d : Bool),Nod f → m ∈ f → ∃ A B,f = A ++ m :: B ∧ withL n d f = A ++ n :: B
 | [],d,_,h => by cases h
 | x :: r,d,hn,h => by
   unfold Nod at hn
   rw [List.pairwise_cons] at hn
   unfold withL
   rcases List.mem_cons.1 h with rfl | h
   ·rw [if_pos hi,withL_none n r true (fun y hy e => hn.1 y hy (by rw [hi,e]))]
    exact ⟨[],r,rfl,by simp⟩
   ·rw [if_neg (fun e => hn.1 m h (by rw [e,hi]))]
    obtain ⟨A,B,h1,h2⟩ := withL_at n m hi r d hn.2 h
    exact ⟨x :: A,B,by rw [h1]; rfl,by rw [h2]; rfl⟩
theorem with_new {f : Fs} {n : Nd} (h : ∀ x ∈ f,x.ino ≠ n.ino) : withM f n = f ++ [n] := withL_none n f false h
theorem with_at {f : Fs} (h : Nod f) {n m : Nd} (hm : m ∈ f) (hi : m.ino = n.ino) : ∃ A B,f = A ++ m :: B ∧ withM f n = A ++ n :: B := withL_at n m hi f false h hm
theorem nod_parts {A B : Fs} {m : Nd} (h : Nod (A ++ m :: B)) : (∀ x ∈ A,x.ino ≠ m.ino) ∧ (∀ x ∈ B,x.ino ≠ m.ino) ∧ Nod (A ++ B) := by
 unfold Nod at h ⊢
 rw [List.pairwise_append,List.pairwise_cons] at h
 refine ⟨fun x hx => h.2.2 x hx m (by simp),fun x hx e => h.2.1.1 x hx e.symm,?_⟩
 rw [List.pairwise_append]
 exact ⟨h.1,h.2.1.2,fun a ha b hb => h.2.2 a ha b (by simp [hb])⟩
theorem nod_put {A B : Fs} {m n : Nd} (h : Nod (A ++ m :: B)) (hi : m.ino = n.ino) : Nod (A ++ n :: B) := by
 unfold Nod at h ⊢
 rw [List.pairwise_append,List.pairwise_cons] at h ⊢
 refine ⟨h.1,⟨fun x hx => by rw [← hi]; exact h.2.1.1 x hx,h.2.1.2⟩,fun a ha b hb => ?_⟩
 rcases List.mem_cons.1 hb with rfl | hb
 ·rw [← hi]; exact h.2.2 a ha m (by simp)
 ·exact h.2.2 a ha b (by simp [hb])
theorem mem_with {f : Fs} (h : Nod f) {n m : Nd} (hm : m ∈ f) (hi : m.ino = n.ino) {x : Nd} : x ∈ withM f n ↔ x = n ∨ (x ∈ f ∧ x.ino ≠ n.ino) := by
 obtain ⟨A,B,h1,h2⟩ := with_at h hm hi
 rw [h2]
 subst h1
 have hp := nod_parts h
 rw [List.mem_append,List.mem_cons,List.mem_append,List.mem_cons]
 constructor
 ·rintro (h3 | h3 | h3)
  ·exact .inr ⟨.inl h3,by rw [← hi]; exact hp.1 x h3⟩
  ·exact .inl h3
  ·exact .inr ⟨.inr (.inr h3),by rw [← hi]; exact hp.2.1 x h3⟩
 ·rintro (h3 | ⟨h3 | h3 | h3,h4⟩)
  ·exact .inr (.inl h3)
  ·exact .inl h3
  ·subst h3; exact absurd hi h4
  ·exact .inr (.inr h3)
theorem nod_with {f : Fs} (h : Nod f) {n m : Nd} (hm : m ∈ f) (hi : m.ino = n.ino) : Nod (withM f n) := by
 obtain ⟨A,B,h1,h2⟩ := with_at h hm hi
 rw [h2]
 subst h1
 exact nod_put h hi
theorem nod_new {f : Fs} (h : Nod f) {n : Nd} (hn : ∀ x ∈ f,x.ino ≠ n.ino) : Nod (withM f n) := by
 rw [with_new hn]
 unfold Nod
 rw [List.pairwise_append]
 exact ⟨h,List.pairwise_singleton _ _,fun a ha b hb => by rw [List.mem_singleton.1 hb]; exact hn a ha⟩
theorem mem_new {f : Fs} {n : Nd} (hn : ∀ x ∈ f,x.ino ≠ n.ino) {x : Nd} : x ∈ withM f n ↔ x = n ∨ x ∈ f := by
 rw [with_new hn,List.mem_append,List.mem_singleton]
 exact or_comm
theorem mem_wo {f : Fs} {i : Int} {x : Nd} : x ∈ withoutM f i ↔ x ∈ f ∧ x.ino ≠ i := by
 unfold withoutM
 rw [List.mem_filter]
 simp
theorem nod_wo {f : Fs} (h : Nod f) (i : Int) : Nod (withoutM f i) := List.Pairwise.filter _ h
def S (f : Fs) (g : Nd → Nat) : Nat := (f.map g).sum
theorem S_app (A B : Fs) (g : Nd → Nat) : S (A ++ B) g = S A g + S B g := by unfold S; rw [List.map_append,List.sum_append]
theorem S_cons (x : Nd) (B : Fs) (g : Nd → Nat) : S (x :: B) g = g x + S B g := rfl
theorem S_with {f : Fs} (h : Nod f) {n m : Nd} (hm : m ∈ f) (hi : m.ino = n.ino) (g : Nd → Nat) : S (withM f n) g + g m = S f g + g n := by
 obtain ⟨A,B,h1,h2⟩ := with_at h hm hi
 rw [h2,h1,S_app,S_app,S_cons,S_cons]
 omega
theorem S_new {f : Fs} {n : Nd} (hn : ∀ x ∈ f,x.ino ≠ n.ino) (g : Nd → Nat) : S (withM f n) g = S f g + g n := by
 rw [with_new hn,S_app,S_cons]
 rfl
theorem S_wo {f : Fs} (h : Nod f) {m : Nd} (hm : m ∈ f) (g : Nd → Nat) : S (withoutM f m.ino) g + g m = S f g := by
 obtain ⟨A,B,rfl⟩ := List.append_of_mem hm
 have hp := nod_parts h
 unfold withoutM
 rw [List.filter_append,List.filter_cons,if_neg (by simp),List.filter_eq_self.2 (fun x hx => by simpa using hp.1 x hx),List.filter_eq_self.2 (fun x hx => by simpa using hp.2.1 x hx),S_app,S_app,S_cons]
 omega
theorem S_le {f : Fs} {n : Nd} (h : n ∈ f) (g : Nd → Nat) : g n ≤ S f g := by
 obtain ⟨A,B,rfl⟩ := List.append_of_mem h
 rw [S_app,S_cons]
 omega
theorem S_two {f : Fs} (hn : Nod f) {a b : Nd} (ha : a ∈ f) (hb : b ∈ f) (hne : a.ino ≠ b.ino) (g : Nd → Nat) : g a + g b ≤ S f g := by
 have h1 := S_wo hn ha g
 have h2 := S_le (mem_wo.2 ⟨hb,fun e => hne e.symm⟩) g
 omega
def toE (i : Int) (n : Nd) : Nat := n.ents.countP fun e => decide (e.ino = i)
def cnt (f : Fs) (i : Int) : Nat := S f (toE i)
theorem toE_pos {i : Int} {n : Nd} : 0 < toE i n ↔ ∃ e ∈ n.ents,e.ino = i := by
 unfold toE
 rw [List.countP_pos_iff]
 simp
theorem cnt_pos {f : Fs} {i : Int} : 0 < cnt f i ↔ ∃ n ∈ f,∃ e ∈ n.ents,e.ino = i := by
 constructor
 ·intro h
  unfold cnt S at h
  induction f with
  | nil => simp at h
  | cons x r ih =>
    rw [List.map_cons,List.sum_cons] at h
    by_cases hx : 0 < toE i x
    ·obtain ⟨e,h1,h2⟩ := toE_pos.1 hx
     exact ⟨x,by simp,e,h1,h2⟩
    ·obtain ⟨n,h1,h2⟩ := ih (by omega)
     exact ⟨n,by simp [h1],h2⟩
 ·rintro ⟨n,h1,h2⟩
  exact Nat.lt_of_lt_of_le (toE_pos.2 h2) (S_le h1 _)
theorem two_of {l : List En} {i : Int} {a b : En} (ha : a ∈ l) (hb : b ∈ l) (hne : a ≠ b) (h1 : a.ino = i) (h2 : b.ino = i) : 2 ≤ l.countP fun e => decide (e.ino = i) := by
 induction l with
 | nil => cases ha
 | cons x r ih =>
   rw [List.countP_cons]
   rcases List.mem_cons.1 ha with rfl | ha2
   ·rcases List.mem_cons.1 hb with rfl | hb
    ·exact absurd rfl hne
    ·have : 0 < r.countP (fun e => decide (e.ino = i)) := List.countP_pos_iff.2 ⟨b,hb,by simpa using h2⟩
     rw [if_pos (by simpa using h1)]
     omega
   ·rcases List.mem_cons.1 hb with rfl | hb
    ·have : 0 < r.countP (fun e => decide (e.ino = i)) := List.countP_pos_iff.2 ⟨a,ha2,by simpa using h1⟩
     rw [if_pos (by simpa using h2)]
     omega
    ·have := ih ha2 hb
     omega
theorem cnt_one {f : Fs} (hn : Nod f) {i : Int} (h : cnt f i ≤ 1) {a b : Nd} {x y : En} (ha : a ∈ f) (hb : b ∈ f) (hx : x ∈ a.ents) (hy : y ∈ b.ents) (h1 : x.ino = i) (h2 : y.ino = i) : a = b ∧ x = y := by
 by_cases e : a.ino = b.ino
 ·obtain rfl := nod_eq hn ha hb e
  refine ⟨rfl,Classical.byContradiction fun hne => ?_⟩
  have h3 := two_of hx hy hne h1 h2
  have h4 := S_le ha (toE i)
  unfold cnt at h
  unfold toE at h4
  unfold toE at h
  omega
 ·have h3 := S_two hn ha hb e (toE i)
  have h4 := toE_pos.2 ⟨x,hx,h1⟩
  have h5 := toE_pos.2 ⟨y,hy,h2⟩
  unfold cnt at h
  omega
def Ord (l : List En) : Prop := l.Pairwise fun a b => kl a.name b.name = true
theorem ord_eq {l : List En} (h : Ord l) {a b : En} (ha : a ∈ l) (hb : b ∈ l) (e : a.name = b.name) : a = b := by
 induction l with
 | nil => cases ha
 | cons x r ih =>
   unfold Ord at h
   rw [List.pairwise_cons] at h
   rcases List.mem_cons.1 ha with rfl | ha2
   ·rcases List.mem_cons.1 hb with rfl | hb
    ·rfl
    ·exact absurd e (kl_ne (h.1 b hb))
   ·rcases List.mem_cons.1 hb with rfl | hb
    ·exact absurd e.symm (kl_ne (h.1 a ha2))
    ·exact ih h.2 ha2 hb
theorem ins_gone (nm : ByteArray) (i : Int) : ∀ l : List En,insE nm i true l = l.filter fun e => !decide (e.name = nm)
 | [] => rfl
 | e :: r => by
   unfold insE
   rw [List.filter_cons,Bool.true_or,ins_gone nm i r]
   by_cases h : e.name = nm <;> simp [h]
theorem ins_is (nm : ByteArray) (i : Int) : ∀ l : List En,Ord l → insE nm i false l = l.filter (fun e => kl e.name nm) ++ ⟨nm,i⟩ :: l.filter (fun e => kl nm e.name)
 | [],_ => rfl
 | e :: r,h => by
   unfold Ord at h
   rw [List.pairwise_cons] at h
   unfold insE
   cases h1 : kl e.name nm with
   | true =>
     rw [List.filter_cons,List.filter_cons,if_pos h1,kl_asym h1,if_neg (kl_ne h1)]
     simp only [Bool.not_false,Bool.not_true,Bool.and_false,Bool.false_or,Bool.false_eq_true,if_false,List.nil_append,List.cons_append]
     rw [ins_is nm i r h.2]
   | false =>
     rw [List.filter_cons,List.filter_cons,h1]
     simp only [Bool.not_false,Bool.and_true,Bool.false_or,Bool.false_eq_true,if_false,if_true,List.cons_append,List.nil_append]
     have hr : ∀ x ∈ r,kl nm x.name = true := fun x hx => by
      by_cases e2 : e.name = nm
      ·rw [← e2]; exact h.1 x hx
      ·cases h2 : kl nm e.name with
       | true => exact kl_trans h2 (h.1 x hx)
       | false => exact absurd (kl_tri h1 h2) e2
     rw [ins_gone,List.filter_eq_self.2 (fun x hx => by simpa using (kl_ne (hr x hx)).symm),List.filter_eq_nil_iff.2 (fun x hx => by rw [kl_asym (hr x hx)]; decide),List.filter_eq_self.2 hr,List.nil_append]
     by_cases e2 : e.name = nm
     ·rw [if_pos e2,e2,kl_irr]; simp
     ·rw [if_neg e2]
      have h2 : kl nm e.name = true := by
       cases h2 : kl nm e.name with
       | true => rfl
       | false => exact absurd (kl_tri h1 h2) e2
      rw [h2]; simp
theorem ord_filter {l : List En} (h : Ord l) (p : En → Bool) : Ord (l.filter p) := List.Pairwise.filter _ h
theorem mem_ins {l : List En} (h : Ord l) {nm : ByteArray} {i : Int} {e : En} : e ∈ insE nm i (decide (i = 0)) l ↔ (i ≠ 0 ∧ e = ⟨nm,i⟩) ∨ (e ∈ l ∧ e.name ≠ nm) := by
 by_cases hi : i = 0
 ·rw [decide_eq_true hi,ins_gone,List.mem_filter]
  simp [hi]
 ·rw [decide_eq_false hi,ins_is nm i l h,List.mem_append,List.mem_cons,List.mem_filter,List.mem_filter]
  constructor
  ·rintro (⟨h1,h2⟩ | h1 | ⟨h1,h2⟩)
   ·exact .inr ⟨h1,kl_ne h2⟩
   ·exact .inl ⟨hi,h1⟩
   ·exact .inr ⟨h1,(kl_ne h2).symm⟩
  ·rintro (⟨_,h1⟩ | ⟨h1,h2⟩)
   ·exact .inr (.inl h1)
   ·cases h3 : kl e.name nm with
    | true => exact .inl ⟨h1,rfl⟩
    | false =>
      cases h4 : kl nm e.name with
      | true => exact .inr (.inr ⟨h1,rfl⟩)
      | false => exact absurd (kl_tri h3 h4) h2
theorem ord_ins {l : List En} (h : Ord l) (nm : ByteArray) (i : Int) : Ord (insE nm i (decide (i = 0)) l) := by
 by_cases hi : i = 0
 ·rw [decide_eq_true hi,ins_gone]
  exact ord_filter h _
 ·rw [decide_eq_false hi,ins_is nm i l h]
  unfold Ord
  rw [List.pairwise_append,List.pairwise_cons]
  refine ⟨ord_filter h _,⟨fun q hq => (List.mem_filter.1 hq).2,ord_filter h _⟩,fun a ha q hq => ?_⟩
  have h1 := (List.mem_filter.1 ha).2
  rcases List.mem_cons.1 hq with rfl | hq
  ·exact h1
  ·exact kl_trans h1 (List.mem_filter.1 hq).2
theorem count_ins {l : List En} (h : Ord l) (nm : ByteArray) (i : Int) (p : En → Bool) : (insE nm i (decide (i = 0)) l).countP p + (l.filter fun e => decide (e.name = nm)).countP p = l.countP p + (if i ≠ 0 ∧ p ⟨nm,i⟩ = true then 1 else 0) := by
 have hsplit : ∀ m : List En,m.countP p = (m.filter fun e => !decide (e.name = nm)).countP p + (m.filter fun e => decide (e.name = nm)).countP p := by
  intro m
  induction m with
  | nil => rfl
  | cons x r ih =>
    rw [List.countP_cons,ih,List.filter_cons,List.filter_cons]
    by_cases e : x.name = nm
    ·simp [e,List.countP_cons]; omega
    ·simp [e,List.countP_cons]; omega
 by_cases hi : i = 0
 ·rw [decide_eq_true hi,ins_gone,hsplit l,if_neg (fun h => h.1 hi)]
  omega
 ·rw [decide_eq_false hi,ins_is nm i l h,List.countP_append,List.countP_cons,hsplit l]
  have h2 : ∀ m : List En,Ord m → (m.filter fun e => !decide (e.name = nm)).countP p = (m.filter fun e => kl e.name nm).countP p + (m.filter fun e => kl nm e.name).countP p := by
   intro m hm
   induction m with
   | nil => rfl
   | cons x r ih =>
     unfold Ord at hm
     rw [List.pairwise_cons] at hm
     have := ih hm.2
     rw [List.filter_cons,List.filter_cons,List.filter_cons]
     by_cases e : x.name = nm
     ·rw [e,kl_irr]; simp; omega
     ·cases h3 : kl x.name nm with
      | true => rw [kl_asym h3]; simp [e,List.countP_cons]; omega
      | false =>
        cases h4 : kl nm x.name with
        | true => simp [e,List.countP_cons]; omega
        | false => exact absurd (kl_tri h3 h4) e
  rw [h2 l h]
  by_cases hp : p ⟨nm,i⟩ = true
  ·rw [if_pos hp,if_pos ⟨hi,hp⟩]; omega
  ·rw [if_neg hp,if_neg (fun h => hp h.2)]; omega
theorem entry_some {n : Nd} (h : Ord n.ents) {e : En} (he : e ∈ n.ents) : entryM n e.name = e.ino := by
 unfold entryM
 cases hf : n.ents.find? (fun x => decide (x.name = e.name)) with
 | none =>
   have := List.find?_eq_none.1 hf e he
   simp at this
 | some x =>
   have h1 : x.name = e.name := by simpa using List.find?_some hf
   rw [ord_eq h (List.mem_of_find?_eq_some hf) he h1]
theorem entry_ways (n : Nd) (nm : ByteArray) : (∃ e ∈ n.ents,e.name = nm ∧ entryM n nm = e.ino) ∨ ((∀ e ∈ n.ents,e.name ≠ nm) ∧ entryM n nm = 0) := by
 unfold entryM
 cases hf : n.ents.find? (fun x => decide (x.name = nm)) with
 | none => exact .inr ⟨fun e he h => by have := List.find?_eq_none.1 hf e he; simp [h] at this,rfl⟩
 | some x => exact .inl ⟨x,List.mem_of_find?_eq_some hf,by simpa using List.find?_some hf,rfl⟩
theorem name_filter {l : List En} (h : Ord l) (nm : ByteArray) : (l.filter fun e => decide (e.name = nm)) = [] ∨ ∃ e ∈ l,e.name = nm ∧ (l.filter fun e => decide (e.name = nm)) = [e] := by
 induction l with
 | nil => exact .inl rfl
 | cons x r ih =>
   unfold Ord at h
   rw [List.pairwise_cons] at h
   by_cases e : x.name = nm
   ·refine .inr ⟨x,by simp,e,?_⟩
    rw [List.filter_cons,if_pos (by simpa using e),List.filter_eq_nil_iff.2 (fun y hy => by
     have := kl_ne (h.1 y hy)
     rw [e] at this
     simpa using fun h2 => this h2.symm)]
   ·rw [List.filter_cons,if_neg (by simpa using e)]
    rcases ih h.2 with h1 | ⟨y,h1,h2,h3⟩
    ·exact .inl h1
    ·exact .inr ⟨y,by simp [h1],h2,h3⟩
end Go.Proofs.YtogdjbhjgbnicaaGreatDoor.DirsM
namespace Go.Proofs.YtogdjbhjgbnicaaGreatDoor.DirsV
open Byte PackM KeysM TreeM ViewM ViewKm NodeM NamesM WalkM WalkF WalkKm
abbrev Wrt := List Pr → Pr
def goW (s : Vs) : List Wrt → Vs × Bool
 | [] => (s,true)
 | p :: ps => if fullW s.wr (p s.shown) = true then (s,false) else goW (s.write (p s.shown)) ps
theorem goW_nil (s : Vs) : goW s [] = (s,true) := rfl
theorem goW_full {s : Vs} {p : Wrt} {ps : List Wrt} (h : fullW s.wr (p s.shown) = true) : goW s (p :: ps) = (s,false) := if_pos h
theorem goW_room {s : Vs} {p : Wrt} {ps : List Wrt} (h : fullW s.wr (p s.shown) = false) : goW s (p :: ps) = goW (s.write (p s.shown)) ps := if_neg (by rw [h]; decide)
structure Sm (s t : Vs) : Prop where
 base : s.base = t.base
 wr : s.wr = t.wr
theorem Sm.refl (s : Vs) : Sm s s := ⟨rfl,rfl⟩
theorem Sm.trans {s t u : Vs} (h : Sm s t) (k : Sm t u) : Sm s u := ⟨h.base.trans k.base,h.wr.trans k.wr⟩
theorem Sm.shown {s t : Vs} (h : Sm s t) : s.shown = t.shown := by unfold Vs.shown; rw [h.base,h.wr]
theorem Sm.write {s t : Vs} (h : Sm s t) (p : Pr) : Sm (s.write p) (t.write p) := by
 unfold Vs.write
 rw [h.wr]
 split
 ·exact h
 ·exact ⟨h.base,by show writeW s.base t.wr p = writeW t.base t.wr p; rw [h.base]⟩
theorem Sm.read {s t : Vs} (h : Sm s t) (k : ByteArray) : Sm (s.read k) t := ⟨h.base,h.wr⟩
theorem Sm.ranged {s t : Vs} (h : Sm s t) (a b : ByteArray) : Sm (s.ranged a b) t := by
 unfold Vs.ranged
 split
 ·exact ⟨h.base,h.wr⟩
 ·exact h
theorem Sm.of_find {s s' : Vs} {path : ByteArray} (h : FindR s path s') : Sm s' s := ⟨h.base,h.wr⟩
theorem goW_sm : ∀ (ps : List Wrt) {s t : Vs},Sm s t → Sm (goW s ps).1 (goW t ps).1 ∧ (goW s ps).2 = (goW t ps).2
 | [],s,t,h => ⟨h,rfl⟩
 | p :: ps,s,t,h => by
   unfold goW
   rw [h.shown,h.wr]
   split
   ·exact ⟨h,rfl⟩
   ·exact goW_sm ps (h.write _)
theorem write_base (s : Vs) (p : Pr) : (s.write p).base = s.base := by
 unfold Vs.write
 split <;> rfl
theorem goW_base : ∀ (ps : List Wrt) (s : Vs),(goW s ps).1.base = s.base
 | [],s => rfl
 | p :: ps,s => by
   unfold goW
   split
   ·rfl
   ·rw [goW_base ps,write_base]
theorem goW_app : ∀ (ps qs : List Wrt) (s : Vs),goW s (ps ++ qs) = if (goW s ps).2 = true then goW (goW s ps).1 qs else goW s ps
 | [],qs,s => rfl
 | p :: ps,qs,s => by
   rw [List.cons_append]
   cases h : fullW s.wr (p s.shown) with
   | true => rw [goW_full h,goW_full h]; rfl
   | false => rw [goW_room h,goW_room h]; exact goW_app ps qs _
theorem write_room {s : Vs} {p : Pr} (h : fullW s.wr p = true) : s.write p = s := if_pos h
structure Aft (s s' : Vs) (ps : List Wrt) (k m : Nat) : Prop where
 sm : Sm s' (goW s ps).1
 rd : s'.rd.length ≤ s.rd.length + k
 rg : s'.rg.length ≤ s.rg.length + m
theorem Aft.one {s s' : Vs} {p : Wrt} {k : Nat} (h : Sm s' (s.write (p s.shown))) (h1 : s'.rd.length ≤ s.rd.length + k) (h2 : s'.rg.length ≤ s.rg.length) : Aft s s' [p] k 0 := by
 refine ⟨?_,h1,h2⟩
 cases hf : fullW s.wr (p s.shown) with
 | true => rw [goW_full hf]; rw [write_room hf] at h; exact h
 | false => rw [goW_room hf]; exact h
theorem one_ok {s : Vs} {p : Wrt} : (goW s [p]).2 = !fullW s.wr (p s.shown) := by
 cases hf : fullW s.wr (p s.shown) with
 | true => rw [goW_full hf]; rfl
 | false => rw [goW_room hf]; rfl
theorem Aft.nil {s s' : Vs} {k m : Nat} (h : Sm s' s) (h1 : s'.rd.length ≤ s.rd.length + k) (h2 : s'.rg.length ≤ s.rg.length + m) : Aft s s' [] k m := ⟨h,h1,h2⟩
theorem Aft.app {s s' s'' : Vs} {ps qs : List Wrt} {k m k' m' : Nat} (h : Aft s s' ps k m) (ho : (goW s ps).2 = true) (h' : Aft s' s'' qs k' m') : Aft s s'' (ps ++ qs) (k + k') (m + m') ∧ (goW s (ps ++ qs)).2 = (goW s' qs).2 := by
 have h1 := goW_sm qs h.sm
 refine ⟨⟨?_,by have := h.rd; have := h'.rd; omega,by have := h.rg; have := h'.rg; omega⟩,?_⟩
 ·rw [goW_app,if_pos ho]
  exact h'.sm.trans h1.1
 ·rw [goW_app,if_pos ho]
  exact h1.2.symm
theorem Aft.stop {s s' : Vs} {ps qs : List Wrt} {k m : Nat} (h : Aft s s' ps k m) (ho : (goW s ps).2 = false) : Aft s s' (ps ++ qs) k m ∧ (goW s (ps ++ qs)).2 = false := by
 have e : goW s (ps ++ qs) = goW s ps := by rw [goW_app,ho]; rfl
 refine ⟨⟨?_,h.rd,h.rg⟩,by rw [e]; exact ho⟩
 rw [e]
 exact h.sm
theorem Aft.more {s s' : Vs} {ps : List Wrt} {k m k' m' : Nat} (h : Aft s s' ps k m) (hk : k ≤ k') (hm : m ≤ m') : Aft s s' ps k' m' := ⟨h.sm,by have := h.rd; omega,by have := h.rg; omega⟩
theorem Aft.from_ {s t s' : Vs} {ps : List Wrt} {k m a b : Nat} (h : Aft t s' ps k m) (hs : Sm t s) (h1 : t.rd.length ≤ s.rd.length + a) (h2 : t.rg.length ≤ s.rg.length + b) : Aft s s' ps (a + k) (b + m) ∧ (goW s ps).2 = (goW t ps).2 :=
 ⟨⟨h.sm.trans (goW_sm ps hs).1,by have := h.rd; omega,by have := h.rg; omega⟩,(goW_sm ps hs).2.symm⟩
theorem write_rd (s : Vs) (p : Pr) : (s.write p).rd = s.rd ∧ (s.write p).rg = s.rg := by
 unfold Vs.write
 split <;> exact ⟨rfl,rfl⟩
def u32 (x : Int) : Int := x % 4294967296
def saveP (ino k l z p : Int) : Wrt := fun _ => ⟨kI ino,nput k l z p,false⟩
def dropP (ino : Int) : Wrt := fun _ => ⟨kI ino,⟨#[]⟩,true⟩
def hangP (dir : Int) (name : ByteArray) (ino : Int) : Wrt := fun _ => ⟨kE dir name,hangV ino,false⟩
def unhangP (dir : Int) (name : ByteArray) : Wrt := fun _ => ⟨kE dir name,⟨#[]⟩,true⟩
def tieP (dir more : Int) : Wrt := fun L => ⟨kI dir,nput (loadM L dir).1.k (u32 ((loadM L dir).1.l + more)) (loadM L dir).1.s (loadM L dir).1.p,false⟩
def adoptP (parent ino : Int) : Wrt := fun L => ⟨kI ino,nput (loadM L ino).1.k (loadM L ino).1.l (loadM L ino).1.s parent,false⟩
theorem load_k (L : List Pr) (ino : Int) : 0 ≤ (loadM L ino).1.k ∧ (loadM L ino).1.k ≤ 255 ∧ 0 ≤ (loadM L ino).1.l ∧ (loadM L ino).1.l ≤ 4294967295 ∧ 0 ≤ (loadM L ino).1.s ∧ (loadM L ino).1.s ≤ 4294967295 ∧ 0 ≤ (loadM L ino).1.p ∧ (loadM L ino).1.p ≤ 4294967295 := by
 unfold loadM
 split
 ·split
  ·exact ⟨by decide,by decide,by decide,by decide,by decide,by decide,by decide,by decide⟩
  ·exact ⟨by decide,by decide,by decide,by decide,by decide,by decide,by decide,by decide⟩
 ·rename_i q _
  split
  ·have a := gk_bd q.value
   have b := g_bd q.value 1
   have c := g_bd q.value 5
   have d := g_bd q.value 9
   exact ⟨a.1,a.2,b.1,b.2,c.1,c.2,d.1,d.2⟩
  ·exact ⟨by decide,by decide,by decide,by decide,by decide,by decide,by decide,by decide⟩
def remPs (x : Spot) : List Wrt := [unhangP x.dir x.name,dropP x.ino,tieP x.dir (-1)]
def remV (L : List Pr) (x : Spot) : Int × List Wrt := if x.node.k ≠ 2 then (12,[]) else if (listM x.ino L).length ≠ 0 then (14,[]) else (0,remPs x)
def movPs (x y : Spot) : List Wrt := if x.node.k = 2 ∧ x.dir ≠ y.dir then [unhangP x.dir x.name,hangP y.dir y.name x.ino,adoptP y.dir x.ino,tieP x.dir (-1),tieP y.dir 1] else [unhangP x.dir x.name,hangP y.dir y.name x.ino]
def makV (L : List Pr) (path : ByteArray) (kind ino : Int) : Int × List Wrt :=
 if (findM L path).2 ≠ 0 then ((findM L path).2,[]) else if (findM L path).1.ino ≠ 0 then (11,[])
 else if kind = 1 then (0,[saveP ino 1 1 0 0,hangP (findM L path).1.dir (findM L path).1.name ino])
 else (0,[saveP ino 2 2 0 (findM L path).1.dir,hangP (findM L path).1.dir (findM L path).1.name ino,tieP (findM L path).1.dir 1])
def rmdV (L : List Pr) (path : ByteArray) : Int × List Wrt :=
 if (findM L path).2 ≠ 0 then ((findM L path).2,[]) else if (findM L path).1.ino = 1 then (29,[]) else if (findM L path).1.ino = 0 then (10,[]) else remV L (findM L path).1
def lstV (L : List Pr) (path : ByteArray) : List ByteArray × Int :=
 if (findM L path).2 ≠ 0 then ([],(findM L path).2) else if (findM L path).1.ino = 0 then ([],10) else if (findM L path).1.node.k ≠ 2 then ([],12) else (listM (findM L path).1.ino L,0)
def lnkV (L : List Pr) (old path : ByteArray) : Int × List Wrt :=
 if (findM L old).2 ≠ 0 then ((findM L old).2,[]) else if (findM L old).1.ino = 0 then (10,[]) else if (findM L old).1.node.k ≠ 1 then (13,[])
 else if (findM L path).2 ≠ 0 then ((findM L path).2,[]) else if (findM L path).1.ino ≠ 0 then (11,[]) else if 1000 ≤ (findM L old).1.node.l then (18,[])
 else (0,[hangP (findM L path).1.dir (findM L path).1.name (findM L old).1.ino,saveP (findM L old).1.ino (findM L old).1.node.k ((findM L old).1.node.l + 1) (findM L old).1.node.s (findM L old).1.node.p])
theorem aft0 (s : Vs) : Aft s s [] 0 0 ∧ (goW s []).2 = true := ⟨Aft.nil (Sm.refl s) (Nat.le_refl _) (Nat.le_refl _),rfl⟩
end Go.Proofs.YtogdjbhjgbnicaaGreatDoor.DirsV