import Derived.Test.YtfalhnomhidkcaaGreatDoorWalkM
set_option linter.unusedVariables false
set_option linter.unusedSimpArgs false
namespace Go.Proofs.YtfalhnomhidkcaaGreatDoor.WalkF
open Byte PackM KeysM TreeM ViewM NodeM NamesM WalkM
structure Ino where
 k : Int
 l : Int
 s : Int
 p : Int
def ino0 : Ino := ⟨0,0,0,0⟩
structure Spot where
 dir : Int
 name : ByteArray
 ino : Int
 node : Ino
def spot0 : Spot := ⟨0,⟨#[]⟩,0,ino0⟩
def loadM (l : List Pr) (ino : Int) : Ino × Bool := match getL (kI ino) l with
 | none => if ino = 1 then (⟨2,2,0,1⟩,true) else (ino0,false)
 | some q => if gok q.value then (⟨gk q.value,gl q.value,gs q.value,gp q.value⟩,true) else (ino0,false)
def stepM (L : List Pr) (at_ : Spot) (name : ByteArray) : Spot :=
 if (childM L at_.ino name).2 && (loadM L (childM L at_.ino name).1).2 then ⟨at_.ino,name,(childM L at_.ino name).1,(loadM L (childM L at_.ino name).1).1⟩ else ⟨at_.ino,name,0,ino0⟩
def findL (L : List Pr) (at_ : Spot) : List ByteArray → Spot × Int
 | [] => (at_,0)
 | name :: r => if at_.ino = 0 then (spot0,10) else if at_.node.k ≠ 2 then (spot0,12) else findL L (stepM L at_ name) r
def findM (L : List Pr) (path : ByteArray) : Spot × Int := if (spl path).2 ≠ 0 then (spot0,(spl path).2) else findL L ⟨0,⟨#[]⟩,1,(loadM L 1).1⟩ (spl path).1
def hasK (k : ByteArray) (rd : List Pr) : Prop := ∃ p ∈ rd,p.key = k
theorem hasK_put (k : ByteArray) (v : ByteArray) (g : Bool) (rd : List Pr) : hasK k (putP ⟨k,v,g⟩ rd) := ⟨_,putP_new _ _,rfl⟩
theorem hasK_keep {k q : ByteArray} {rd : List Pr} (h : hasK k rd) (v : ByteArray) (g : Bool) : hasK k (putP ⟨q,v,g⟩ rd) := by
 by_cases e : k = q
 ·subst e
  exact hasK_put _ _ _ _
 ·obtain ⟨p,hp,rfl⟩ := h
  exact ⟨p,putP_mem hp e,rfl⟩
structure FindR (s : Vs) (path : ByteArray) (s' : Vs) : Prop where
 base : s'.base = s.base
 wr : s'.wr = s.wr
 rg : s'.rg = s.rg
 none_ : (spl path).2 ≠ 0 → s'.rd = s.rd
 keep : ∀ k,hasK k s.rd → hasK k s'.rd
 root : (spl path).2 = 0 → hasK (kI 1) s'.rd
 ent : (spl path).2 = 0 → (findM s.shown path).2 = 0 → (findM s.shown path).1.name ≠ ⟨#[]⟩ → hasK (kE (findM s.shown path).1.dir (findM s.shown path).1.name) s'.rd
 ino : (spl path).2 = 0 → (findM s.shown path).2 = 0 → (findM s.shown path).1.ino ≠ 0 → hasK (kI (findM s.shown path).1.ino) s'.rd
 dir : (spl path).2 = 0 → (findM s.shown path).2 = 0 → (findM s.shown path).1.dir ≠ 0 → hasK (kI (findM s.shown path).1.dir) s'.rd
 len : s'.rd.length ≤ s.rd.length + 40
 small : ∀ p ∈ s'.rd,p ∈ s.rd ∨ p.key.size ≤ 100000
theorem spl_names (s : ByteArray) : ∀ x ∈ (spl s).1,x.size ≤ 32 := by
 unfold spl
 split
 ·exact fun x hx => by cases hx
 ·split
  ·exact fun x hx => by cases hx
  ·split
   ·exact fun x hx => by cases hx
   ·split
    ·rename_i h
     rw [Bool.and_eq_true,decide_eq_true_eq] at h
     exact fun x hx => (name_pos (List.all_eq_true.1 h.1 x hx)).2
    ·exact fun x hx => by cases hx
structure SpotB (x : Spot) : Prop where
 d0 : 0 ≤ x.dir
 d1 : x.dir ≤ 4294967295
 i0 : 0 ≤ x.ino
 i1 : x.ino ≤ 4294967295
 nm : x.name.size ≤ 32
theorem spotB0 : SpotB spot0 := ⟨by decide,by decide,by decide,by decide,by decide⟩
theorem child_bd (L : List Pr) (dir : Int) (name : ByteArray) : 0 ≤ (childM L dir name).1 ∧ (childM L dir name).1 ≤ 4294967295 := by
 unfold childM
 split
 ·exact ⟨Int.le_refl 0,by decide⟩
 ·rename_i q _
  split
  ·have := get_bd (txt q.value) 0 4 (txt_bd q.value)
   have e : (256 : Int) ^ 4 = 4294967296 := by decide
   exact ⟨this.1,by show PackM.getn (txt q.value) 0 4 ≤ _; omega⟩
  ·exact ⟨Int.le_refl 0,by decide⟩
theorem step_bd {L : List Pr} {x : Spot} (h : SpotB x) {name : ByteArray} (hn : name.size ≤ 32) : SpotB (stepM L x name) := by
 unfold stepM
 split
 ·exact ⟨h.i0,h.i1,(child_bd _ _ _).1,(child_bd _ _ _).2,hn⟩
 ·exact ⟨h.i0,h.i1,(show (0 : Int) ≤ 0 by decide),(show (0 : Int) ≤ 4294967295 by decide),hn⟩
theorem findL_bd (L : List Pr) : ∀ (names : List ByteArray) (x : Spot),SpotB x → (∀ y ∈ names,y.size ≤ 32) → SpotB (findL L x names).1 ∧ ((findL L x names).2 = 0 ∨ (findL L x names).2 = 10 ∨ (findL L x names).2 = 12)
 | [],x,h,_ => ⟨h,.inl rfl⟩
 | name :: r,x,h,hn => by
   unfold findL
   split
   ·exact ⟨spotB0,.inr (.inl rfl)⟩
   ·split
    ·exact ⟨spotB0,.inr (.inr rfl)⟩
    ·exact findL_bd L r _ (step_bd h (hn name (by simp))) (fun y hy => hn y (by simp [hy]))
theorem find_bd (L : List Pr) (path : ByteArray) : SpotB (findM L path).1 := by
 unfold findM
 split
 ·exact spotB0
 ·exact (findL_bd L _ _ ⟨(show (0 : Int) ≤ 0 by decide),by show (0 : Int) ≤ 4294967295; decide,by show (0 : Int) ≤ 1; decide,by show (1 : Int) ≤ 4294967295; decide,by show (0 : Nat) ≤ 32; decide⟩ (spl_names path)).1
end Go.Proofs.YtfalhnomhidkcaaGreatDoor.WalkF