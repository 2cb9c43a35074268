import Derived.Test.YtfalhnomhidkcaaGreatDoorWalkF
import Derived.Test.YtfalhnomhidkcaaGreatDoorViewKm
set_option linter.unusedVariables false
set_option linter.unusedSimpArgs false
namespace Go.Proofs.YtfalhnomhidkcaaGreatDoor.WalkKm
open Byte PackM KeysM KeysV TreeM ViewM ViewKm NodeM NamesM WalkM WalkF
theorem range_ent {L : List Pr} {a b : ByteArray} {P : Sp → Bool} (hr : Rng a b P) (hk : ∀ p ∈ L,(sp p.key).letter ≠ 0) : rangeL a b L = L.filter (fun p => P (sp p.key)) := by
 unfold rangeL
 refine List.filter_congr fun p hp => ?_
 rw [kl_lt,kl_lt]
 exact hr p.key (hk p hp)
theorem range_out {L : List Pr} {a b : ByteArray} (h : kl a b = false) : rangeL a b L = [] := by
 unfold rangeL
 refine List.filter_eq_nil_iff.2 fun p hp hh => ?_
 rw [Bool.and_eq_true,Bool.not_eq_true'] at hh
 obtain ⟨h1,h2⟩ := hh
 cases h3 : kl a p.key with
 | true =>
   have := kl_trans h3 h2
   rw [h] at this
   cases this
 | false =>
   have := kl_tri h1 h3
   rw [← this,h2] at h
   cases h
theorem rangeOf_is (s : Vs) (a b : ByteArray) : s.rangeOf a b = rangeL a b s.shown := by
 unfold Vs.rangeOf
 cases h : kl a b with
 | true => rfl
 | false => rw [range_out h]; rfl
theorem list_ent (dir : Int) (L : List Pr) : listM dir L = (L.filter (entB dir)).map (fun p => (sp p.key).name) := rfl
theorem map_nx {α β : Type} {L : List α} {k : Nat} {x : α} (h : L[k]? = some x) (f : α → β) : (L.take (k + 1)).map f = (L.take k).map f ++ [f x] := by
 obtain ⟨hk,he⟩ := List.getElem?_eq_some_iff.1 h
 rw [List.take_succ_eq_append_getElem hk,List.map_append,he]
 rfl
theorem load_none {L : List Pr} {ino : Int} (h : getL (kI ino) L = none) : loadM L ino = if ino = 1 then (⟨2,2,0,1⟩,true) else (ino0,false) := by
 unfold loadM
 rw [h]
theorem load_some {L : List Pr} {ino : Int} {q : Pr} (h : getL (kI ino) L = some q) : loadM L ino = if gok q.value then (⟨gk q.value,gl q.value,gs q.value,gp q.value⟩,true) else (ino0,false) := by
 unfold loadM
 rw [h]
structure VsB (s : Vs) : Prop where
 base : ∀ p ∈ s.base,p.value.size ≤ 200000000000000
 wr : ∀ p ∈ s.wr,p.value.size ≤ 200000000000000
theorem VsB.new {L : List Pr} (h : ∀ p ∈ L,p.value.size ≤ 200000000000000) : VsB ⟨L,[],[],[]⟩ := ⟨h,fun p hp => by cases hp⟩
theorem VsB.read {s : Vs} (h : VsB s) (k : ByteArray) : VsB (s.read k) := ⟨h.base,h.wr⟩
theorem VsB.ranged {s : Vs} (h : VsB s) (a b : ByteArray) : VsB (s.ranged a b) := by
 unfold Vs.ranged
 split
 ·exact ⟨h.base,h.wr⟩
 ·exact h
theorem VsB.write {s : Vs} (h : VsB s) {p : Pr} (hp : p.value.size ≤ 200000000000000) : VsB (s.write p) := by
 unfold Vs.write
 split
 ·exact h
 ·refine ⟨h.base,fun q hq => ?_⟩
  have hq' : q ∈ writeW s.base s.wr p := hq
  unfold writeW at hq'
  split at hq'
  ·exact h.wr q (List.mem_filter.1 hq').1
  ·rcases mem_putP hq' with rfl | ⟨h1,_⟩
   ·exact hp
   ·exact h.wr q h1
theorem VsB.shown {s : Vs} (h : VsB s) (ho : s.Ok) {q : Pr} (hq : q ∈ s.shown) : q.value.size ≤ 200000000000000 := by
 rcases (mem_shown ho.wr).1 hq with ⟨x,hx,_,rfl⟩ | ⟨h1,_⟩
 ·exact h.wr x hx
 ·exact h.base q h1
theorem get_in {k : ByteArray} {L : List Pr} {q : Pr} (h : getL k L = some q) : q ∈ L := List.mem_of_find?_eq_some h
def withinM (L : List Pr) (dir : Int) (name : ByteArray) : Spot := if (childM L dir name).2 && (loadM L (childM L dir name).1).2 then ⟨dir,name,(childM L dir name).1,(loadM L (childM L dir name).1).1⟩ else ⟨dir,name,0,ino0⟩
theorem step_within (L : List Pr) (x : Spot) (name : ByteArray) : stepM L x name = withinM L x.ino name := rfl
def readW (s : Vs) (dir : Int) (name : ByteArray) : Vs := if (childM s.shown dir name).2 then (s.read (kE dir name)).read (kI (childM s.shown dir name).1) else s.read (kE dir name)
structure Fnd (s s' : Vs) (x : Spot) (k : Nat) : Prop where
 base : s'.base = s.base
 wr : s'.wr = s.wr
 rg : s'.rg = s.rg
 keep : ∀ q,hasK q s.rd → hasK q s'.rd
 root : hasK (kI 1) s'.rd
 ent : x.name ≠ ⟨#[]⟩ → hasK (kE x.dir x.name) s'.rd
 ino : x.ino ≠ 0 → hasK (kI x.ino) s'.rd
 dir : x.dir ≠ 0 → hasK (kI x.dir) s'.rd
 len : s'.rd.length ≤ s.rd.length + 1 + 2 * k
 small : ∀ p ∈ s'.rd,p ∈ s.rd ∨ p.key.size ≤ 100000
 bd : SpotB x
theorem read_small {s s' : Vs} {k : ByteArray} (hk : k.size ≤ 100000) (h : ∀ p ∈ s'.rd,p ∈ s.rd ∨ p.key.size ≤ 100000) : ∀ p ∈ (s'.read k).rd,p ∈ s.rd ∨ p.key.size ≤ 100000 := fun p hp => by
 rcases mem_putP (show p ∈ putP ⟨k,⟨#[]⟩,false⟩ s'.rd from hp) with rfl | ⟨h1,_⟩
 ·exact .inr hk
 ·exact h p h1
theorem read_len (s : Vs) (k : ByteArray) : (s.read k).rd.length ≤ s.rd.length + 1 := putP_len _ _
theorem ki_sz (ino : Int) : (kI ino).size ≤ 100000 := by unfold kI; rw [ks_size]; omega
theorem ke_sz (dir : Int) (name : ByteArray) : (kE dir name).size ≤ 100000 := by
 unfold kE
 split
 ·decide
 ·rw [ByteArray.size_append,ks_size]; omega
theorem fnd_start (s : Vs) (L : List Pr) : Fnd s (s.read (kI 1)) ⟨0,⟨#[]⟩,1,(loadM L 1).1⟩ 0 where
 base := rfl
 wr := rfl
 rg := rfl
 keep := fun q h => hasK_keep h _ _
 root := hasK_put _ _ _ _
 ent := fun h => absurd rfl h
 ino := fun _ => hasK_put _ _ _ _
 dir := fun h => absurd rfl h
 len := by have := read_len s (kI 1); omega
 small := read_small (ki_sz 1) (fun p hp => .inl hp)
 bd := ⟨(show (0 : Int) ≤ 0 by decide),(show (0 : Int) ≤ 4294967295 by decide),(show (0 : Int) ≤ 1 by decide),(show (1 : Int) ≤ 4294967295 by decide),(show (0 : Nat) ≤ 32 by decide)⟩
theorem Fnd.shown {s s' : Vs} {x : Spot} {k : Nat} (h : Fnd s s' x k) : s'.shown = s.shown := by
 unfold Vs.shown
 rw [h.base,h.wr]
theorem Fnd.step {s s' : Vs} {x : Spot} {k : Nat} (h : Fnd s s' x k) (hx : x.ino ≠ 0) {name : ByteArray} (hn : name.size ≤ 32) : Fnd s (readW s' x.ino name) (withinM s'.shown x.ino name) (k + 1) := by
 have hbd : SpotB (withinM s'.shown x.ino name) := by rw [← step_within]; exact step_bd h.bd hn
 have hdir : (withinM s'.shown x.ino name).dir = x.ino ∧ (withinM s'.shown x.ino name).name = name := by
  unfold withinM
  split <;> exact ⟨rfl,rfl⟩
 have hk : ∀ q,hasK q s'.rd → hasK q (readW s' x.ino name).rd := fun q hq => by
  unfold readW
  split
  ·exact hasK_keep (hasK_keep hq _ _) _ _
  ·exact hasK_keep hq _ _
 have hE : hasK (kE x.ino name) (readW s' x.ino name).rd := by
  unfold readW
  split
  ·exact hasK_keep (hasK_put _ _ _ _) _ _
  ·exact hasK_put _ _ _ _
 refine ⟨?_,?_,?_,fun q hq => hk q (h.keep q hq),hk _ h.root,fun _ => by rw [hdir.1,hdir.2]; exact hE,fun hi => ?_,fun _ => by rw [hdir.1]; exact hk _ (h.ino hx),?_,?_,hbd⟩
 ·unfold readW; split <;> exact h.base
 ·unfold readW; split <;> exact h.wr
 ·unfold readW; split <;> exact h.rg
 ·unfold withinM at hi ⊢
  cases hc : (childM s'.shown x.ino name).2 with
  | false => rw [hc] at hi; exact absurd rfl hi
  | true =>
    rw [hc] at hi
    unfold readW
    rw [if_pos hc]
    cases hq : (loadM s'.shown (childM s'.shown x.ino name).1).2 with
    | false => rw [hq] at hi; exact absurd rfl hi
    | true => exact hasK_put _ _ _ _
 ·have hl := h.len
  unfold readW
  split
  ·have h1 := read_len s' (kE x.ino name)
   have h2 := read_len (s'.read (kE x.ino name)) (kI (childM s'.shown x.ino name).1)
   omega
  ·have h1 := read_len s' (kE x.ino name)
   omega
 ·unfold readW
  split
  ·exact read_small (ki_sz _) (read_small (ke_sz _ _) h.small)
  ·exact read_small (ke_sz _ _) h.small
theorem Fnd.lim {s s' : Vs} {x : Spot} {k : Nat} (h : Fnd s s' x k) (hl : s.rd.length ≤ 19000) (hk : k ≤ 16) : s'.rd.length ≤ 19900 := by have := h.len; omega
theorem fndr_ok {s s' : Vs} {x : Spot} {k : Nat} (h : Fnd s s' x k) (hk : k ≤ 16) {path : ByteArray} (hs : (spl path).2 = 0) {y : Spot} {er : Int} (hf : findM s.shown path = (y,er)) (hy : er = 0 → y = x) : FindR s path s' where
 base := h.base
 wr := h.wr
 rg := h.rg
 none_ := fun hn => absurd hs hn
 keep := h.keep
 root := fun _ => h.root
 ent := fun _ h2 h3 => by rw [hf] at h2 h3 ⊢; rw [hy h2] at h3 ⊢; exact h.ent h3
 ino := fun _ h2 h3 => by rw [hf] at h2 h3 ⊢; rw [hy h2] at h3 ⊢; exact h.ino h3
 dir := fun _ h2 h3 => by rw [hf] at h2 h3 ⊢; rw [hy h2] at h3 ⊢; exact h.dir h3
 len := by have := h.len; omega
 small := h.small
theorem fndr_no {s : Vs} {path : ByteArray} (hs : (spl path).2 ≠ 0) : FindR s path s where
 base := rfl
 wr := rfl
 rg := rfl
 none_ := fun _ => rfl
 keep := fun _ h => h
 root := fun h => absurd h hs
 ent := fun h => absurd h hs
 ino := fun h => absurd h hs
 dir := fun h => absurd h hs
 len := Nat.le_add_right _ _
 small := fun p hp => .inl hp
theorem find_no {L : List Pr} {path : ByteArray} (hs : (spl path).2 ≠ 0) : findM L path = (spot0,(spl path).2) := if_pos hs
theorem find_yes {L : List Pr} {path : ByteArray} (hs : (spl path).2 = 0) : findM L path = findL L ⟨0,⟨#[]⟩,1,(loadM L 1).1⟩ (spl path).1 := if_neg (fun h => h hs)
theorem findl_end (L : List Pr) (x : Spot) {l : List ByteArray} {k : Nat} (h : l.length ≤ k) : findL L x (l.drop k) = (x,0) := by
 rw [List.drop_eq_nil_of_le h]
 rfl
theorem findl_at {L : List Pr} {x : Spot} {l : List ByteArray} {k : Nat} {name : ByteArray} (h : l[k]? = some name) : findL L x (l.drop k) = if x.ino = 0 then (spot0,10) else if x.node.k ≠ 2 then (spot0,12) else findL L (withinM L x.ino name) (l.drop (k + 1)) := by
 obtain ⟨hk,he⟩ := List.getElem?_eq_some_iff.1 h
 rw [List.drop_eq_getElem_cons hk,he]
 rfl
end Go.Proofs.YtfalhnomhidkcaaGreatDoor.WalkKm