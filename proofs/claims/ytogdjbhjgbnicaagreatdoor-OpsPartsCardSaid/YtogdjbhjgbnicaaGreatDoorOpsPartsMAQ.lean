import Derived.Test.YtogdjbhjgbnicaaGreatDoorViewM
import Derived.Test.YtogdjbhjgbnicaaGreatDoorNodeM
import Derived.Test.YtogdjbhjgbnicaaGreatDoorNamesM
import Derived.Test.YtogdjbhjgbnicaaGreatDoorKeysV
set_option linter.unusedVariables false
set_option linter.unusedSimpArgs false
namespace Go.Proofs.YtogdjbhjgbnicaaGreatDoor.WalkM
open Byte PackM KeysM TreeM ViewM NodeM
def hangV (ino : Int) : ByteArray := str (low 4 ino)
theorem hangV_size (ino : Int) : (hangV ino).size = 4 := by unfold hangV; rw [str_size,low_len]
def childM (l : List Pr) (dir : Int) (name : ByteArray) : Int × Bool := match getL (kE dir name) l with
 | none => (0,false)
 | some q => if q.value.size = 4 then (PackM.getn (txt q.value) 0 4,true) else (0,false)
def entB (dir : Int) (p : Pr) : Bool := decide ((sp p.key).letter = 69) && decide ((sp p.key).ino = dir)
def listM (dir : Int) (l : List Pr) : List ByteArray := (l.filter (entB dir)).map (fun p => (sp p.key).name)
end Go.Proofs.YtogdjbhjgbnicaaGreatDoor.WalkM
namespace Go.Proofs.YtogdjbhjgbnicaaGreatDoor.WalkF
open Byte PackM KeysM TreeM ViewM NodeM NamesM WalkM
structure Ino where
 k : Int
 l : Int
 s : Int
 p : Int
def ino0 : Ino := ⟨0,0,0,0⟩
structure Spot where
 dir : Int
 name : ByteArray
 ino : Int
 node : Ino
def spot0 : Spot := ⟨0,⟨#[]⟩,0,ino0⟩
def loadM (l : List Pr) (ino : Int) : Ino × Bool := match getL (kI ino) l with
 | none => if ino = 1 then (⟨2,2,0,1⟩,true) else (ino0,false)
 | some q => if gok q.value then (⟨gk q.value,gl q.value,gs q.value,gp q.value⟩,true) else (ino0,false)
def stepM (L : List Pr) (at_ : Spot) (name : ByteArray) : Spot :=
 if (childM L at_.ino name).2 && (loadM L (childM L at_.ino name).1).2 then ⟨at_.ino,name,(childM L at_.ino name).1,(loadM L (childM L at_.ino name).1).1⟩ else ⟨at_.ino,name,0,ino0⟩
def findL (L : List Pr) (at_ : Spot) : List ByteArray → Spot × Int
 | [] => (at_,0)
 | name :: r => if at_.ino = 0 then (spot0,10) else if at_.node.k ≠ 2 then (spot0,12) else findL L (stepM L at_ name) r
def findM (L : List Pr) (path : ByteArray) : Spot × Int := if (spl path).2 ≠ 0 then (spot0,(spl path).2) else findL L ⟨0,⟨#[]⟩,1,(loadM L 1).1⟩ (spl path).1
def hasK (k : ByteArray) (rd : List Pr) : Prop := ∃ p ∈ rd,p.key = k
theorem hasK_put (k : ByteArray) (v : ByteArray) (g : Bool) (rd : List Pr) : hasK k (putP ⟨k,v,g⟩ rd) := ⟨_,putP_new _ _,rfl⟩
theorem hasK_keep {k q : ByteArray} {rd : List Pr} (h : hasK k rd) (v : ByteArray) (g : Bool) : hasK k (putP ⟨q,v,g⟩ rd) := by
 by_cases e : k = q
 ·subst e
  exact hasK_put _ _ _ _
 ·obtain ⟨p,hp,rfl⟩ := h
  exact ⟨p,putP_mem hp e,rfl⟩
structure FindR (s : Vs) (path : ByteArray) (s' : Vs) : Prop where
 base : s'.base = s.base
 wr : s'.wr = s.wr
 rg : s'.rg = s.rg
 none_ : (spl path).2 ≠ 0 → s'.rd = s.rd
 keep : ∀ k,hasK k s.rd → hasK k s'.rd
 root : (spl path).2 = 0 → hasK (kI 1) s'.rd
 ent : (spl path).2 = 0 → (findM s.shown path).2 = 0 → (findM s.shown path).1.name ≠ ⟨#[]⟩ → hasK (kE (findM s.shown path).1.dir (findM s.shown path).1.name) s'.rd
 ino : (spl path).2 = 0 → (findM s.shown path).2 = 0 → (findM s.shown path).1.ino ≠ 0 → hasK (kI (findM s.shown path).1.ino) s'.rd
 dir : (spl path).2 = 0 → (findM s.shown path).2 = 0 → (findM s.shown path).1.dir ≠ 0 → hasK (kI (findM s.shown path).1.dir) s'.rd
 len : s'.rd.length ≤ s.rd.length + 40
 small : ∀ p ∈ s'.rd,p ∈ s.rd ∨ p.key.size ≤ 100000
theorem spl_names (s : ByteArray) : ∀ x ∈ (spl s).1,x.size ≤ 32 := by
 unfold spl
 split
 ·exact fun x hx => by cases hx
 ·split
  ·exact fun x hx => by cases hx
  ·split
   ·exact fun x hx => by cases hx
   ·split
    ·rename_i h
     rw [Bool.and_eq_true,decide_eq_true_eq] at h
     exact fun x hx => (name_pos (List.all_eq_true.1 h.1 x hx)).2
    ·exact fun x hx => by cases hx
structure SpotB (x : Spot) : Prop where
 d0 : 0 ≤ x.dir
 d1 : x.dir ≤ 4294967295
 i0 : 0 ≤ x.ino
 i1 : x.ino ≤ 4294967295
 nm : x.name.size ≤ 32
theorem spotB0 : SpotB spot0 := ⟨by decide,by decide,by decide,by decide,by decide⟩
theorem child_bd (L : List Pr) (dir : Int) (name : ByteArray) : 0 ≤ (childM L dir name).1 ∧ (childM L dir name).1 ≤ 4294967295 := by
 unfold childM
 split
 ·exact ⟨Int.le_refl 0,by decide⟩
 ·rename_i q _
  split
  ·have := get_bd (txt q.value) 0 4 (txt_bd q.value)
   have e : (256 : Int) ^ 4 = 4294967296 := by decide
   exact ⟨this.1,by show PackM.getn (txt q.value) 0 4 ≤ _; omega⟩
  ·exact ⟨Int.le_refl 0,by decide⟩
theorem step_bd {L : List Pr} {x : Spot} (h : SpotB x) {name : ByteArray} (hn : name.size ≤ 32) : SpotB (stepM L x name) := by
 unfold stepM
 split
 ·exact ⟨h.i0,h.i1,(child_bd _ _ _).1,(child_bd _ _ _).2,hn⟩
 ·exact ⟨h.i0,h.i1,(show (0 : Int) ≤ 0 by decide),(show (0 : Int) ≤ 4294967295 by decide),hn⟩
theorem findL_bd (L : List Pr) : ∀ (names : List ByteArray) (x : Spot),SpotB x → (∀ y ∈ names,y.size ≤ 32) → SpotB (findL L x names).1 ∧ ((findL L x names).2 = 0 ∨ (findL L x names).2 = 10 ∨ (findL L x names).2 = 12)
 | [],x,h,_ => ⟨h,.inl rfl⟩
 | name :: r,x,h,hn => by
   unfold findL
   split
   ·exact ⟨spotB0,.inr (.inl rfl)⟩
   ·split
    ·exact ⟨spotB0,.inr (.inr rfl)⟩
    ·exact findL_bd L r _ (step_bd h (hn name (by simp))) (fun y hy => hn y (by simp [hy]))
theorem find_bd (L : List Pr) (path : ByteArray) : SpotB (findM L path).1 := by
 unfold findM
 split
 ·exact spotB0
 ·exact (findL_bd L _ _ ⟨(show (0 : Int) ≤ 0 by decide),by show (0 : Int) ≤ 4294967295; decide,by show (0 : Int) ≤ 1; decide,by show (1 : Int) ≤ 4294967295; decide,by show (0 : Nat) ≤ 32; decide⟩ (spl_names path)).1
end Go.Proofs.YtogdjbhjgbnicaaGreatDoor.WalkF
namespace Go.Proofs.YtogdjbhjgbnicaaGreatDoor.ViewKm
open Byte KeysM TreeM ViewM
theorem mem_cut {l : List Pr} {k : ByteArray} {q : Pr} : q ∈ cutL k l ↔ q ∈ l ∧ q.key ≠ k := by
 unfold cutL
 rw [List.mem_filter]
 simp
theorem mem_put' {l : List Pr} {k v : ByteArray} {q : Pr} : q ∈ putL k v l ↔ q = ⟨k,v,false⟩ ∨ (q ∈ l ∧ q.key ≠ k) :=
 ⟨mem_put,fun h => by
   rcases h with rfl | ⟨h1,h2⟩
   ·exact put_new _ _ _
   ·exact put_mem h1 h2⟩
theorem mem_putP' {l : List Pr} {p q : Pr} : q ∈ putP p l ↔ q = p ∨ (q ∈ l ∧ q.key ≠ p.key) :=
 ⟨mem_putP,fun h => by
   rcases h with rfl | ⟨h1,h2⟩
   ·exact putP_new _ _
   ·exact putP_mem h1 h2⟩
theorem mem_done {l : List Pr} {w q : Pr} : q ∈ doneW l w ↔ (w.gone = false ∧ q = ⟨w.key,w.value,false⟩) ∨ (q ∈ l ∧ q.key ≠ w.key) := by
 unfold doneW
 cases h : w.gone with
 | true => simp [mem_cut]
 | false => simp [mem_put']
theorem mem_shown {W : List Pr} : ∀ {B : List Pr} (hW : Rise W) {q : Pr},q ∈ shownL B W ↔ (∃ w ∈ W,w.gone = false ∧ q = ⟨w.key,w.value,false⟩) ∨ (q ∈ B ∧ ∀ w ∈ W,q.key ≠ w.key) := by
 induction W with
 | nil => intro B hW q; simp [shownL]
 | cons w W ih =>
   intro B hW q
   have hW' := hW
   unfold Rise at hW'
   rw [List.pairwise_cons] at hW'
   have e : shownL B (w :: W) = shownL (doneW B w) W := rfl
   rw [e,ih (B := doneW B w) hW'.2,mem_done]
   constructor
   ·rintro (⟨x,hx,h1,h2⟩ | ⟨⟨h1,h2⟩ | ⟨h1,h2⟩,h3⟩)
    ·exact .inl ⟨x,List.mem_cons_of_mem _ hx,h1,h2⟩
    ·exact .inl ⟨w,List.mem_cons_self,h1,h2⟩
    ·exact .inr ⟨h1,fun x hx => by
      rcases List.mem_cons.1 hx with rfl | hx
      ·exact h2
      ·exact h3 x hx⟩
   ·rintro (⟨x,hx,h1,h2⟩ | ⟨h1,h2⟩)
    ·rcases List.mem_cons.1 hx with rfl | hx
     ·refine .inr ⟨.inl ⟨h1,h2⟩,fun y hy => ?_⟩
      subst h2
      exact kl_ne (hW'.1 y hy)
     ·exact .inl ⟨x,hx,h1,h2⟩
    ·exact .inr ⟨.inr ⟨h1,h2 w List.mem_cons_self⟩,fun y hy => h2 y (List.mem_cons_of_mem _ hy)⟩
theorem get_none {l : List Pr} {k : ByteArray} (h : getL k l = none) : ∀ q ∈ l,q.key ≠ k := fun q hq e => by
 unfold getL at h
 have := List.find?_eq_none.1 h q hq
 simp [e] at this
theorem get_none' {l : List Pr} {k : ByteArray} (h : ∀ q ∈ l,q.key ≠ k) : getL k l = none := by
 unfold getL
 rw [List.find?_eq_none]
 intro q hq
 simp [h q hq]
theorem get_mem {l : List Pr} (hr : Rise l) {p : Pr} (h : p ∈ l) : getL p.key l = some p := by
 obtain ⟨i,hi,rfl⟩ := List.mem_iff_getElem.1 h
 exact TreeM.get_at hr (List.getElem?_eq_getElem hi)
theorem shown_write {B W : List Pr} (hB : Rise B) (hW : Rise W) (p : Pr) : shownL B (writeW B W p) = doneW (shownL B W) p := by
 have hS := rise_shown hB W
 refine rise_ext (rise_shown hB _) (rise_done hS p) fun q => ?_
 rw [mem_shown (rise_write hW p),mem_done,mem_shown hW]
 unfold writeW
 cases hc : (p.gone && (getL p.key B).isNone) with
 | true =>
   rw [if_pos rfl]
   rw [Bool.and_eq_true] at hc
   obtain ⟨hg,hn⟩ := hc
   have hB' := get_none (Option.isNone_iff_eq_none.1 hn)
   simp only [mem_cut,hg]
   constructor
   ·rintro (⟨x,⟨hx,h3⟩,h1,rfl⟩ | ⟨h1,h2⟩)
    ·exact .inr ⟨.inl ⟨x,hx,h1,rfl⟩,h3⟩
    ·refine .inr ⟨.inr ⟨h1,fun x hx => ?_⟩,hB' q h1⟩
     by_cases hk : x.key = p.key
     ·rw [hk]
      exact hB' q h1
     ·exact h2 x ⟨hx,hk⟩
   ·rintro (⟨h1,_⟩ | ⟨⟨x,hx,h1,rfl⟩ | ⟨h1,h2⟩,h3⟩)
    ·cases h1
    ·exact .inl ⟨x,⟨hx,h3⟩,h1,rfl⟩
    ·exact .inr ⟨h1,fun x hx => h2 x hx.1⟩
 | false =>
   rw [if_neg (by decide)]
   simp only [mem_putP']
   constructor
   ·rintro (⟨x,rfl | ⟨hx,h3⟩,h1,rfl⟩ | ⟨h1,h2⟩)
    ·exact .inl ⟨h1,rfl⟩
    ·exact .inr ⟨.inl ⟨x,hx,h1,rfl⟩,h3⟩
    ·refine .inr ⟨.inr ⟨h1,fun x hx => ?_⟩,h2 p (.inl rfl)⟩
     by_cases hk : x.key = p.key
     ·rw [hk]
      exact h2 p (.inl rfl)
     ·exact h2 x (.inr ⟨hx,hk⟩)
   ·rintro (⟨h1,rfl⟩ | ⟨⟨x,hx,h1,rfl⟩ | ⟨h1,h2⟩,h3⟩)
    ·exact .inl ⟨p,.inl rfl,h1,rfl⟩
    ·exact .inl ⟨x,.inr ⟨hx,h3⟩,h1,rfl⟩
    ·refine .inr ⟨h1,fun x hx => ?_⟩
     rcases hx with rfl | hx
     ·exact h3
     ·exact h2 x hx.1
def kp (p : Pr) : Pr := ⟨p.key,⟨#[]⟩,false⟩
def kys (W : List Pr) : List Pr := W.map kp
theorem kys_len (W : List Pr) : (kys W).length = W.length := by simp [kys]
theorem kys_put (p : Pr) (W : List Pr) : kys (putP p W) = putL p.key ⟨#[]⟩ (kys W) := by
 unfold kys putP putL
 simp only [List.map_append,List.map_cons,List.filter_map]
 rfl
theorem kys_cut (k : ByteArray) (W : List Pr) : kys (cutL k W) = cutL k (kys W) := by
 unfold kys cutL
 simp only [List.filter_map]
 rfl
theorem kys_in (k : ByteArray) (W : List Pr) : (getL k (kys W)).isSome = inW k W := by
 unfold inW getL kys
 rw [List.find?_map]
 cases h : List.find? ((fun p => decide (p.key = k)) ∘ kp) W with
 | none =>
   have : List.find? (fun p => decide (p.key = k)) W = none := h
   rw [this]; rfl
 | some q =>
   have : List.find? (fun p => decide (p.key = k)) W = some q := h
   rw [this]; rfl
def Bare (W : List Pr) : Prop := ∀ p ∈ W,p.gone = true → p.value = ⟨#[]⟩
theorem Bare.nil : Bare [] := fun p hp => by cases hp
theorem Bare.write {B W : List Pr} (h : Bare W) {p : Pr} (hp : p.gone = true → p.value = ⟨#[]⟩) : Bare (writeW B W p) := fun q hq hg => by
 unfold writeW at hq
 split at hq
 ·exact h q (mem_cut.1 hq).1 hg
 ·rcases mem_putP hq with rfl | ⟨h1,_⟩
  ·exact hp hg
  ·exact h q h1 hg
theorem put_is (k v : ByteArray) (B W : List Pr) : writeW B W ⟨k,v,false⟩ = putP ⟨k,v,false⟩ W := by
 unfold writeW
 rfl
theorem cut_is (k v : ByteArray) (B W : List Pr) : writeW B W ⟨k,v,true⟩ = if (getL k B).isSome then putP ⟨k,v,true⟩ W else cutL k W := by
 unfold writeW
 cases h : getL k B <;> simp
end Go.Proofs.YtogdjbhjgbnicaaGreatDoor.ViewKm
namespace Go.Proofs.YtogdjbhjgbnicaaGreatDoor.WalkKm
open Byte PackM KeysM KeysV TreeM ViewM ViewKm NodeM NamesM WalkM WalkF
theorem range_ent {L : List Pr} {a b : ByteArray} {P : Sp → Bool} (hr : Rng a b P) (hk : ∀ p ∈ L,(sp p.key).letter ≠ 0) : rangeL a b L = L.filter (fun p => P (sp p.key)) := by
 unfold rangeL
 refine List.filter_congr fun p hp => ?_
 rw [kl_lt,kl_lt]
 exact hr p.key (hk p hp)
theorem range_out {L : List Pr} {a b : ByteArray} (h : kl a b = false) : rangeL a b L = [] := by
 unfold rangeL
 refine List.filter_eq_nil_iff.2 fun p hp hh => ?_
 rw [Bool.and_eq_true,Bool.not_eq_true'] at hh
 obtain ⟨h1,h2⟩ := hh
 cases h3 : kl a p.key with
 | true =>
   have := kl_trans h3 h2
   rw [h] at this
   cases this
 | false =>
   have := kl_tri h1 h3
   rw [← this,h2] at h
   cases h
theorem rangeOf_is (s : Vs) (a b : ByteArray) : s.rangeOf a b = rangeL a b s.shown := by
 unfold Vs.rangeOf
 cases h : kl a b with
 | true => rfl
 | false => rw [range_out h]; rfl
theorem list_ent (dir : Int) (L : List Pr) : listM dir L = (L.filter (entB dir)).map (fun p => (sp p.key).name) := rfl
theorem map_nx {α β : Type} {L : List α} {k : Nat} {x : α} (h : L[k]? = some x) (f : α → β) : (L.take (k + 1)).map f = (L.take k).map f ++ [f x] := by
 obtain ⟨hk,he⟩ := List.getElem?_eq_some_iff.1 h
 rw [List.take_succ_eq_append_getElem hk,List.map_append,he]
 rfl
theorem load_none {L : List Pr} {ino : Int} (h : getL (kI ino) L = none) : loadM L ino = if ino = 1 then (⟨2,2,0,1⟩,true) else (ino0,false) := by
 unfold loadM
 rw [h]
theorem load_some {L : List Pr} {ino : Int} {q : Pr} (h : getL (kI ino) L = some q) : loadM L ino = if gok q.value then (⟨gk q.value,gl q.value,gs q.value,gp q.value⟩,true) else (ino0,false) := by
 unfold loadM
 rw [h]
structure VsB (s : Vs) : Prop where
 base : ∀ p ∈ s.base,p.value.size ≤ 200000000000000
 wr : ∀ p ∈ s.wr,p.value.size ≤ 200000000000000
theorem VsB.new {L : List Pr} (h : ∀ p ∈ L,p.value.size ≤ 200000000000000) : VsB ⟨L,[],[],[]⟩ := ⟨h,fun p hp => by cases hp⟩
theorem VsB.read {s : Vs} (h : VsB s) (k : ByteArray) : VsB (s.read k) := ⟨h.base,h.wr⟩
theorem VsB.ranged {s : Vs} (h : VsB s) (a b : ByteArray) : VsB (s.ranged a b) := by
 unfold Vs.ranged
 split
 ·exact ⟨h.base,h.wr⟩
 ·exact h
theorem VsB.write {s : Vs} (h : VsB s) {p : Pr} (hp : p.value.size ≤ 200000000000000) : VsB (s.write p) := by
 unfold Vs.write
 split
 ·exact h
 ·refine ⟨h.base,fun q hq => ?_⟩
  have hq' : q ∈ writeW s.base s.wr p := hq
  unfold writeW at hq'
  split at hq'
  ·exact h.wr q (List.mem_filter.1 hq').1
  ·rcases mem_putP hq' with rfl | ⟨h1,_⟩
   ·exact hp
   ·exact h.wr q h1
theorem VsB.shown {s : Vs} (h : VsB s) (ho : s.Ok) {q : Pr} (hq : q ∈ s.shown) : q.value.size ≤ 200000000000000 := by
 rcases (mem_shown ho.wr).1 hq with ⟨x,hx,_,rfl⟩ | ⟨h1,_⟩
 ·exact h.wr x hx
 ·exact h.base q h1
theorem get_in {k : ByteArray} {L : List Pr} {q : Pr} (h : getL k L = some q) : q ∈ L := List.mem_of_find?_eq_some h
def withinM (L : List Pr) (dir : Int) (name : ByteArray) : Spot := if (childM L dir name).2 && (loadM L (childM L dir name).1).2 then ⟨dir,name,(childM L dir name).1,(loadM L (childM L dir name).1).1⟩ else ⟨dir,name,0,ino0⟩
theorem step_within (L : List Pr) (x : Spot) (name : ByteArray) : stepM L x name = withinM L x.ino name := rfl
def readW (s : Vs) (dir : Int) (name : ByteArray) : Vs := if (childM s.shown dir name).2 then (s.read (kE dir name)).read (kI (childM s.shown dir name).1) else s.read (kE dir name)
structure Fnd (s s' : Vs) (x : Spot) (k : Nat) : Prop where
 base : s'.base = s.base
 wr : s'.wr = s.wr
 rg : s'.rg = s.rg
 keep : ∀ q,hasK q s.rd → hasK q s'.rd
 root : hasK (kI 1) s'.rd
 ent : x.name ≠ ⟨#[]⟩ → hasK (kE x.dir x.name) s'.rd
 ino : x.ino ≠ 0 → hasK (kI x.ino) s'.rd
 dir : x.dir ≠ 0 → hasK (kI x.dir) s'.rd
 len : s'.rd.length ≤ s.rd.length + 1 + 2 * k
 small : ∀ p ∈ s'.rd,p ∈ s.rd ∨ p.key.size ≤ 100000
 bd : SpotB x
theorem read_small {s s' : Vs} {k : ByteArray} (hk : k.size ≤ 100000) (h : ∀ p ∈ s'.rd,p ∈ s.rd ∨ p.key.size ≤ 100000) : ∀ p ∈ (s'.read k).rd,p ∈ s.rd ∨ p.key.size ≤ 100000 := fun p hp => by
 rcases mem_putP (show p ∈ putP ⟨k,⟨#[]⟩,false⟩ s'.rd from hp) with rfl | ⟨h1,_⟩
 ·exact .inr hk
 ·exact h p h1
theorem read_len (s : Vs) (k : ByteArray) : (s.read k).rd.length ≤ s.rd.length + 1 := putP_len _ _
theorem ki_sz (ino : Int) : (kI ino).size ≤ 100000 := by unfold kI; rw [ks_size]; omega
theorem ke_sz (dir : Int) (name : ByteArray) : (kE dir name).size ≤ 100000 := by
 unfold kE
 split
 ·decide
 ·rw [ByteArray.size_append,ks_size]; omega
theorem fnd_start (s : Vs) (L : List Pr) : Fnd s (s.read (kI 1)) ⟨0,⟨#[]⟩,1,(loadM L 1).1⟩ 0 where
 base := rfl
 wr := rfl
 rg := rfl
 keep := fun q h => hasK_keep h _ _
 root := hasK_put _ _ _ _
 ent := fun h => absurd rfl h
 ino := fun _ => hasK_put _ _ _ _
 dir := fun h => absurd rfl h
 len := by have := read_len s (kI 1); omega
 small := read_small (ki_sz 1) (fun p hp => .inl hp)
 bd := ⟨(show (0 : Int) ≤ 0 by decide),(show (0 : Int) ≤ 4294967295 by decide),(show (0 : Int) ≤ 1 by decide),(show (1 : Int) ≤ 4294967295 by decide),(show (0 : Nat) ≤ 32 by decide)⟩
theorem Fnd.shown {s s' : Vs} {x : Spot} {k : Nat} (h : Fnd s s' x k) : s'.shown = s.shown := by
 unfold Vs.shown
 rw [h.base,h.wr]
theorem Fnd.step {s s' : Vs} {x : Spot} {k : Nat} (h : Fnd s s' x k) (hx : x.ino ≠ 0) {name : ByteArray} (hn : name.size ≤ 32) : Fnd s (readW s' x.ino name) (withinM s'.shown x.ino name) (k + 1) := by
 have hbd : SpotB (withinM s'.shown x.ino name) := by rw [← step_within]; exact step_bd h.bd hn
 have hdir : (withinM s'.shown x.ino name).dir = x.ino ∧ (withinM s'.shown x.ino name).name = name := by
  unfold withinM
  split <;> exact ⟨rfl,rfl⟩
 have hk : ∀ q,hasK q s'.rd → hasK q (readW s' x.ino name).rd := fun q hq => by
  unfold readW
  split
  ·exact hasK_keep (hasK_keep hq _ _) _ _
  ·exact hasK_keep hq _ _
 have hE : hasK (kE x.ino name) (readW s' x.ino name).rd := by
  unfold readW
  split
  ·exact hasK_keep (hasK_put _ _ _ _) _ _
  ·exact hasK_put _ _ _ _
 refine ⟨?_,?_,?_,fun q hq => hk q (h.keep q hq),hk _ h.root,fun _ => by rw [hdir.1,hdir.2]; exact hE,fun hi => ?_,fun _ => by rw [hdir.1]; exact hk _ (h.ino hx),?_,?_,hbd⟩
 ·unfold readW; split <;> exact h.base
 ·unfold readW; split <;> exact h.wr
 ·unfold readW; split <;> exact h.rg
 ·unfold withinM at hi ⊢
  cases hc : (childM s'.shown x.ino name).2 with
  | false => rw [hc] at hi; exact absurd rfl hi
  | true =>
    rw [hc] at hi
    unfold readW
    rw [if_pos hc]
    cases hq : (loadM s'.shown (childM s'.shown x.ino name).1).2 with
    | false => rw [hq] at hi; exact absurd rfl hi
    | true => exact hasK_put _ _ _ _
 ·have hl := h.len
  unfold readW
  split
  ·have h1 := read_len s' (kE x.ino name)
   have h2 := read_len (s'.read (kE x.ino name)) (kI (childM s'.shown x.ino name).1)
   omega
  ·have h1 := read_len s' (kE x.ino name)
   omega
 ·unfold readW
  split
  ·exact read_small (ki_sz _) (read_small (ke_sz _ _) h.small)
  ·exact read_small (ke_sz _ _) h.small
theorem Fnd.lim {s s' : Vs} {x : Spot} {k : Nat} (h : Fnd s s' x k) (hl : s.rd.length ≤ 19000) (hk : k ≤ 16) : s'.rd.length ≤ 19900 := by have := h.len; omega
theorem fndr_ok {s s' : Vs} {x : Spot} {k : Nat} (h : Fnd s s' x k) (hk : k ≤ 16) {path : ByteArray} (hs : (spl path).2 = 0) {y : Spot} {er : Int} (hf : findM s.shown path = (y,er)) (hy : er = 0 → y = x) : FindR s path s' where
 base := h.base
 wr := h.wr
 rg := h.rg
 none_ := fun hn => absurd hs hn
 keep := h.keep
 root := fun _ => h.root
 ent := fun _ h2 h3 => by rw [hf] at h2 h3 ⊢; rw [hy h2] at h3 ⊢; exact h.ent h3
 ino := fun _ h2 h3 => by rw [hf] at h2 h3 ⊢; rw [hy h2] at h3 ⊢; exact h.ino h3
 dir := fun _ h2 h3 => by rw [hf] at h2 h3 ⊢; rw [hy h2] at h3 ⊢; exact h.dir h3
 len := by have := h.len; omega
 small := h.small
theorem fndr_no {s : Vs} {path : ByteArray} (hs : (spl path).2 ≠ 0) : FindR s path s where
 base := rfl
 wr := rfl
 rg := rfl
 none_ := fun _ => rfl
 keep := fun _ h => h
 root := fun h => absurd h hs
 ent := fun h => absurd h hs
 ino := fun h => absurd h hs
 dir := fun h => absurd h hs
 len := Nat.le_add_right _ _
 small := fun p hp => .inl hp
theorem find_no {L : List Pr} {path : ByteArray} (hs : (spl path).2 ≠ 0) : findM L path = (spot0,(spl path).2) := if_pos hs
theorem find_yes {L : List Pr} {path : ByteArray} (hs : (spl path).2 = 0) : findM L path = findL L ⟨0,⟨#[]⟩,1,(loadM L 1).1⟩ (spl path).1 := if_neg (fun h => h hs)
theorem findl_end (L : List Pr) (x : Spot) {l : List ByteArray} {k : Nat} (h : l.length ≤ k) : findL L x (l.drop k) = (x,0) := by
 rw [List.drop_eq_nil_of_le h]
 rfl
theorem findl_at {L : List Pr} {x : Spot} {l : List ByteArray} {k : Nat} {name : ByteArray} (h : l[k]? = some name) : findL L x (l.drop k) = if x.ino = 0 then (spot0,10) else if x.node.k ≠ 2 then (spot0,12) else findL L (withinM L x.ino name) (l.drop (k + 1)) := by
 obtain ⟨hk,he⟩ := List.getElem?_eq_some_iff.1 h
 rw [List.drop_eq_getElem_cons hk,he]
 rfl
end Go.Proofs.YtogdjbhjgbnicaaGreatDoor.WalkKm
namespace Go.Proofs.YtogdjbhjgbnicaaGreatDoor.DirsM
open Byte PackM KeysM TreeM ViewM ViewKm NodeM NamesM WalkM WalkF WalkKm
structure En where
 name : ByteArray
 ino : Int
structure Nd where
 ino : Int
 kind : Int
 links : Int
 data : ByteArray
 ents : List En
abbrev Fs := List Nd
end Go.Proofs.YtogdjbhjgbnicaaGreatDoor.DirsM
namespace Go.Proofs.YtogdjbhjgbnicaaGreatDoor.DirsV
open Byte PackM KeysM TreeM ViewM ViewKm NodeM NamesM WalkM WalkF WalkKm
abbrev Wrt := List Pr → Pr
def goW (s : Vs) : List Wrt → Vs × Bool
 | [] => (s,true)
 | p :: ps => if fullW s.wr (p s.shown) = true then (s,false) else goW (s.write (p s.shown)) ps
theorem goW_nil (s : Vs) : goW s [] = (s,true) := rfl
theorem goW_full {s : Vs} {p : Wrt} {ps : List Wrt} (h : fullW s.wr (p s.shown) = true) : goW s (p :: ps) = (s,false) := if_pos h
theorem goW_room {s : Vs} {p : Wrt} {ps : List Wrt} (h : fullW s.wr (p s.shown) = false) : goW s (p :: ps) = goW (s.write (p s.shown)) ps := if_neg (by rw [h]; decide)
structure Sm (s t : Vs) : Prop where
 base : s.base = t.base
 wr : s.wr = t.wr
theorem Sm.refl (s : Vs) : Sm s s := ⟨rfl,rfl⟩
theorem Sm.symm {s t : Vs} (h : Sm s t) : Sm t s := ⟨h.base.symm,h.wr.symm⟩
theorem Sm.trans {s t u : Vs} (h : Sm s t) (k : Sm t u) : Sm s u := ⟨h.base.trans k.base,h.wr.trans k.wr⟩
theorem Sm.shown {s t : Vs} (h : Sm s t) : s.shown = t.shown := by unfold Vs.shown; rw [h.base,h.wr]
theorem Sm.write {s t : Vs} (h : Sm s t) (p : Pr) : Sm (s.write p) (t.write p) := by
 unfold Vs.write
 rw [h.wr]
 split
 ·exact h
 ·exact ⟨h.base,by show writeW s.base t.wr p = writeW t.base t.wr p; rw [h.base]⟩
theorem Sm.read {s t : Vs} (h : Sm s t) (k : ByteArray) : Sm (s.read k) t := ⟨h.base,h.wr⟩
theorem Sm.ranged {s t : Vs} (h : Sm s t) (a b : ByteArray) : Sm (s.ranged a b) t := by
 unfold Vs.ranged
 split
 ·exact ⟨h.base,h.wr⟩
 ·exact h
theorem Sm.of_find {s s' : Vs} {path : ByteArray} (h : FindR s path s') : Sm s' s := ⟨h.base,h.wr⟩
theorem goW_sm : ∀ (ps : List Wrt) {s t : Vs},Sm s t → Sm (goW s ps).1 (goW t ps).1 ∧ (goW s ps).2 = (goW t ps).2
 | [],s,t,h => ⟨h,rfl⟩
 | p :: ps,s,t,h => by
   unfold goW
   rw [h.shown,h.wr]
   split
   ·exact ⟨h,rfl⟩
   ·exact goW_sm ps (h.write _)
theorem write_base (s : Vs) (p : Pr) : (s.write p).base = s.base := by
 unfold Vs.write
 split <;> rfl
theorem goW_base : ∀ (ps : List Wrt) (s : Vs),(goW s ps).1.base = s.base
 | [],s => rfl
 | p :: ps,s => by
   unfold goW
   split
   ·rfl
   ·rw [goW_base ps,write_base]
theorem goW_app : ∀ (ps qs : List Wrt) (s : Vs),goW s (ps ++ qs) = if (goW s ps).2 = true then goW (goW s ps).1 qs else goW s ps
 | [],qs,s => rfl
 | p :: ps,qs,s => by
   rw [List.cons_append]
   cases h : fullW s.wr (p s.shown) with
   | true => rw [goW_full h,goW_full h]; rfl
   | false => rw [goW_room h,goW_room h]; exact goW_app ps qs _
theorem write_room {s : Vs} {p : Pr} (h : fullW s.wr p = true) : s.write p = s := if_pos h
structure Aft (s s' : Vs) (ps : List Wrt) (k m : Nat) : Prop where
 sm : Sm s' (goW s ps).1
 rd : s'.rd.length ≤ s.rd.length + k
 rg : s'.rg.length ≤ s.rg.length + m
theorem Aft.one {s s' : Vs} {p : Wrt} {k : Nat} (h : Sm s' (s.write (p s.shown))) (h1 : s'.rd.length ≤ s.rd.length + k) (h2 : s'.rg.length ≤ s.rg.length) : Aft s s' [p] k 0 := by
 refine ⟨?_,h1,h2⟩
 cases hf : fullW s.wr (p s.shown) with
 | true => rw [goW_full hf]; rw [write_room hf] at h; exact h
 | false => rw [goW_room hf]; exact h
theorem one_ok {s : Vs} {p : Wrt} : (goW s [p]).2 = !fullW s.wr (p s.shown) := by
 cases hf : fullW s.wr (p s.shown) with
 | true => rw [goW_full hf]; rfl
 | false => rw [goW_room hf]; rfl
theorem Aft.nil {s s' : Vs} {k m : Nat} (h : Sm s' s) (h1 : s'.rd.length ≤ s.rd.length + k) (h2 : s'.rg.length ≤ s.rg.length + m) : Aft s s' [] k m := ⟨h,h1,h2⟩
theorem Aft.app {s s' s'' : Vs} {ps qs : List Wrt} {k m k' m' : Nat} (h : Aft s s' ps k m) (ho : (goW s ps).2 = true) (h' : Aft s' s'' qs k' m') : Aft s s'' (ps ++ qs) (k + k') (m + m') ∧ (goW s (ps ++ qs)).2 = (goW s' qs).2 := by
 have h1 := goW_sm qs h.sm
 refine ⟨⟨?_,by have := h.rd; have := h'.rd; omega,by have := h.rg; have := h'.rg; omega⟩,?_⟩
 ·rw [goW_app,if_pos ho]
  exact h'.sm.trans h1.1
 ·rw [goW_app,if_pos ho]
  exact h1.2.symm
theorem Aft.stop {s s' : Vs} {ps qs : List Wrt} {k m : Nat} (h : Aft s s' ps k m) (ho : (goW s ps).2 = false) : Aft s s' (ps ++ qs) k m ∧ (goW s (ps ++ qs)).2 = false := by
 have e : goW s (ps ++ qs) = goW s ps := by rw [goW_app,ho]; rfl
 refine ⟨⟨?_,h.rd,h.rg⟩,by rw [e]; exact ho⟩
 rw [e]
 exact h.sm
theorem Aft.more {s s' : Vs} {ps : List Wrt} {k m k' m' : Nat} (h : Aft s s' ps k m) (hk : k ≤ k') (hm : m ≤ m') : Aft s s' ps k' m' := ⟨h.sm,by have := h.rd; omega,by have := h.rg; omega⟩
theorem Aft.from_ {s t s' : Vs} {ps : List Wrt} {k m a b : Nat} (h : Aft t s' ps k m) (hs : Sm t s) (h1 : t.rd.length ≤ s.rd.length + a) (h2 : t.rg.length ≤ s.rg.length + b) : Aft s s' ps (a + k) (b + m) ∧ (goW s ps).2 = (goW t ps).2 :=
 ⟨⟨h.sm.trans (goW_sm ps hs).1,by have := h.rd; omega,by have := h.rg; omega⟩,(goW_sm ps hs).2.symm⟩
theorem write_rd (s : Vs) (p : Pr) : (s.write p).rd = s.rd ∧ (s.write p).rg = s.rg := by
 unfold Vs.write
 split <;> exact ⟨rfl,rfl⟩
def u32 (x : Int) : Int := x % 4294967296
def saveP (ino k l z p : Int) : Wrt := fun _ => ⟨kI ino,nput k l z p,false⟩
def dropP (ino : Int) : Wrt := fun _ => ⟨kI ino,⟨#[]⟩,true⟩
def hangP (dir : Int) (name : ByteArray) (ino : Int) : Wrt := fun _ => ⟨kE dir name,hangV ino,false⟩
def unhangP (dir : Int) (name : ByteArray) : Wrt := fun _ => ⟨kE dir name,⟨#[]⟩,true⟩
def tieP (dir more : Int) : Wrt := fun L => ⟨kI dir,nput (loadM L dir).1.k (u32 ((loadM L dir).1.l + more)) (loadM L dir).1.s (loadM L dir).1.p,false⟩
def adoptP (parent ino : Int) : Wrt := fun L => ⟨kI ino,nput (loadM L ino).1.k (loadM L ino).1.l (loadM L ino).1.s parent,false⟩
theorem load_k (L : List Pr) (ino : Int) : 0 ≤ (loadM L ino).1.k ∧ (loadM L ino).1.k ≤ 255 ∧ 0 ≤ (loadM L ino).1.l ∧ (loadM L ino).1.l ≤ 4294967295 ∧ 0 ≤ (loadM L ino).1.s ∧ (loadM L ino).1.s ≤ 4294967295 ∧ 0 ≤ (loadM L ino).1.p ∧ (loadM L ino).1.p ≤ 4294967295 := by
 unfold loadM
 split
 ·split
  ·exact ⟨by decide,by decide,by decide,by decide,by decide,by decide,by decide,by decide⟩
  ·exact ⟨by decide,by decide,by decide,by decide,by decide,by decide,by decide,by decide⟩
 ·rename_i q _
  split
  ·have a := gk_bd q.value
   have b := g_bd q.value 1
   have c := g_bd q.value 5
   have d := g_bd q.value 9
   exact ⟨a.1,a.2,b.1,b.2,c.1,c.2,d.1,d.2⟩
  ·exact ⟨by decide,by decide,by decide,by decide,by decide,by decide,by decide,by decide⟩
def remPs (x : Spot) : List Wrt := [unhangP x.dir x.name,dropP x.ino,tieP x.dir (-1)]
def remV (L : List Pr) (x : Spot) : Int × List Wrt := if x.node.k ≠ 2 then (12,[]) else if (listM x.ino L).length ≠ 0 then (14,[]) else (0,remPs x)
def movPs (x y : Spot) : List Wrt := if x.node.k = 2 ∧ x.dir ≠ y.dir then [unhangP x.dir x.name,hangP y.dir y.name x.ino,adoptP y.dir x.ino,tieP x.dir (-1),tieP y.dir 1] else [unhangP x.dir x.name,hangP y.dir y.name x.ino]
def makV (L : List Pr) (path : ByteArray) (kind ino : Int) : Int × List Wrt :=
 if (findM L path).2 ≠ 0 then ((findM L path).2,[]) else if (findM L path).1.ino ≠ 0 then (11,[])
 else if kind = 1 then (0,[saveP ino 1 1 0 0,hangP (findM L path).1.dir (findM L path).1.name ino])
 else (0,[saveP ino 2 2 0 (findM L path).1.dir,hangP (findM L path).1.dir (findM L path).1.name ino,tieP (findM L path).1.dir 1])
def rmdV (L : List Pr) (path : ByteArray) : Int × List Wrt :=
 if (findM L path).2 ≠ 0 then ((findM L path).2,[]) else if (findM L path).1.ino = 1 then (29,[]) else if (findM L path).1.ino = 0 then (10,[]) else remV L (findM L path).1
def lstV (L : List Pr) (path : ByteArray) : List ByteArray × Int :=
 if (findM L path).2 ≠ 0 then ([],(findM L path).2) else if (findM L path).1.ino = 0 then ([],10) else if (findM L path).1.node.k ≠ 2 then ([],12) else (listM (findM L path).1.ino L,0)
def lnkV (L : List Pr) (old path : ByteArray) : Int × List Wrt :=
 if (findM L old).2 ≠ 0 then ((findM L old).2,[]) else if (findM L old).1.ino = 0 then (10,[]) else if (findM L old).1.node.k ≠ 1 then (13,[])
 else if (findM L path).2 ≠ 0 then ((findM L path).2,[]) else if (findM L path).1.ino ≠ 0 then (11,[]) else if 1000 ≤ (findM L old).1.node.l then (18,[])
 else (0,[hangP (findM L path).1.dir (findM L path).1.name (findM L old).1.ino,saveP (findM L old).1.ino (findM L old).1.node.k ((findM L old).1.node.l + 1) (findM L old).1.node.s (findM L old).1.node.p])
theorem aft0 (s : Vs) : Aft s s [] 0 0 ∧ (goW s []).2 = true := ⟨Aft.nil (Sm.refl s) (Nat.le_refl _) (Nat.le_refl _),rfl⟩
end Go.Proofs.YtogdjbhjgbnicaaGreatDoor.DirsV