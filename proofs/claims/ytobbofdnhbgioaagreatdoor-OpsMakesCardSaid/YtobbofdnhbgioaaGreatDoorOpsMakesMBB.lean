import Derived.Test.YtobbofdnhbgioaaGreatDoorLst
import Derived.Test.YtobbofdnhbgioaaGreatDoorTreeG
import Derived.Laws.ResultCell
import Derived.Deep.Cut
import Derived.Deep.RegionLaw
import Derived.Test.YtobbofdnhbgioaaGreatDoorOpsMakesMAR
import Derived.Deep.MidRow
set_option linter.unusedVariables false
set_option linter.unusedSimpArgs false
namespace Go.Proofs.YtobbofdnhbgioaaGreatDoor.Chg
open Go.RowKit
open Byte Own Lst
structure Chg (S : Nat → Prop) (w w' : World) : Prop where
 os : w'.os = w.os
 tape : w'.tape = w.tape
 output : w'.output = w.output
 size : w.heap.size ≤ w'.heap.size
 block : ∀ k,k < w.heap.size → ¬ S k → w'.heap[k]? = w.heap[k]?
section
variable {S : Nat → Prop} {a b c w w' : World}
theorem Chg.refl (S : Nat → Prop) (w : World) : Chg S w w := ⟨rfl,rfl,rfl,Nat.le_refl _,fun _ _ _ => rfl⟩
theorem Chg.trans (h : Chg S a b) (k : Chg S b c) : Chg S a c :=
 ⟨k.os.trans h.os,k.tape.trans h.tape,k.output.trans h.output,Nat.le_trans h.size k.size,fun i hi hn => (k.block i (Nat.lt_of_lt_of_le hi h.size) hn).trans (h.block i hi hn)⟩
theorem Chg.mono {T : Nat → Prop} (h : Chg S a b) (hs : ∀ k,k < a.heap.size → S k → T k) : Chg T a b :=
 ⟨h.os,h.tape,h.output,h.size,fun i hi hn => h.block i hi (fun hk => hn (hs i hi hk))⟩
theorem Chg.drew (h : Chg S a b) : Chg S a b.drew := ⟨h.os,h.tape,h.output,h.size,h.block⟩
theorem Chg.alloc (h : Chg S a b) (o : Obj) : Chg S a (b.alloc o) :=
 h.trans ⟨rfl,rfl,rfl,by simp,fun k hk _ => Below.heap_alloc _ _ _ hk⟩
theorem Chg.setCell (h : Chg S a b) {p : Addr} (hp : S p.block ∨ a.heap.size ≤ p.block) (u : Value) : Chg S a (b.setCell p u) :=
 ⟨h.os,h.tape,h.output,by simpa [World.setCell] using h.size,fun k hk hn => (Below.heap_setCell _ _ _ _ (by
   rintro rfl
   rcases hp with hp | hp
   ·exact hn hp
   ·omega)).trans (h.block k hk hn)⟩
theorem Chg.own {d : Nat} (h : Chg (fun k => k = d) a b) (i : Nat) (u : Value) : Chg (fun k => k = d) a (b.setCell ⟨d,i,none⟩ u) := h.setCell (.inl rfl) u
theorem Chg.of_below (h : Below a.heap.size a b) : Chg S a b := ⟨h.os,h.tape,h.output,h.size,fun k hk _ => h.block k hk⟩
theorem Chg.of_grown {row : Option Nat} (h : a.grownBy b row) (hs : ∀ k,row = some k → S k ∨ a.heap.size ≤ k) : Chg S a b :=
 ⟨h.os,h.tape,h.output,h.size,fun k hk hn => h.block k hk (fun e => by
   rcases hs k e.symm with h1 | h1
   ·exact hn h1
   ·omega)⟩
theorem Chg.then_ {T : Nat → Prop} (h : Chg S a b) (k : Chg T b c) (ht : ∀ i,i < a.heap.size → T i → S i) : Chg S a c :=
 ⟨k.os.trans h.os,k.tape.trans h.tape,k.output.trans h.output,Nat.le_trans h.size k.size,fun i hi hn => (k.block i (Nat.lt_of_lt_of_le hi h.size) (fun hk => hn (ht i hi hk))).trans (h.block i hi hn)⟩
end
theorem Chg.cell {S : Nat → Prop} {w w' : World} (h : Chg S w w') {p : Addr} {v : Value} (hc : w.cell? p = some v) (hn : ¬ S p.block) : w'.cell? p = some v :=
 (World.cell?_of_block (w := w) (h.block p.block (World.block_lt_of_cell? w p hc) hn)).trans hc
theorem Sl.chg {α : Type} {e : Enc α} {S : Nat → Prop} {w w' : World} {A : Option Addr} {n : Nat} {L : List α} (h : Sl e w A n L) (k : Chg S w w') (hA : ∀ b o,A = some ⟨b,o,none⟩ → ¬ S b) : Sl e w' A n L := by
 refine ⟨h.1,fun j x hj => ?_⟩
 obtain ⟨b,o,e1,hlt,hc⟩ := h.2 j x hj
 exact ⟨b,o,e1,Nat.lt_of_lt_of_le hlt k.size,fun i v hv => k.cell (p := ⟨b,o + j * e.size + i,none⟩) (hc i v hv) (hA b o e1)⟩
def Grow (w : World) (S S' : Nat → Prop) : Prop := ∀ b,S' b → S b ∨ w.heap.size ≤ b
theorem Grow.refl (w : World) (S : Nat → Prop) : Grow w S S := fun b h => .inl h
theorem Grow.trans {w w' : World} {S S' T : Nat → Prop} (h : Grow w S S') (k : Grow w' S' T) (hs : w.heap.size ≤ w'.heap.size) : Grow w S T := fun b hb => by
 rcases k b hb with h1 | h1
 ·exact h b h1
 ·exact .inr (Nat.le_trans hs h1)
end Go.Proofs.YtobbofdnhbgioaaGreatDoor.Chg
namespace Go.Proofs.YtobbofdnhbgioaaGreatDoor.TreeH
open Go.RowKit
open Byte KeysM TreeM TreeB TreeD TreeE TreeF TreeG Own Lst TreeR TreeL Chg
variable {w w' : World} {v : Value} {L : List Pr} {h : Nat}
theorem tkeep (hr : TRep w v L h) (hk : Kept w w') : TRep w' v L h := by
 obtain ⟨b,A,t,rfl,hv,rest⟩ := hr
 exact ⟨b,A,t,rfl,⟨hk _ _ _ _ (.inl rfl) hv.1,hv.2.keep hk⟩,rest⟩
theorem trise (hr : TRep w v L h) : Rise L := by
 obtain ⟨b,A,t,rfl,hv,rfl,h2,_⟩ := hr
 exact h2
theorem tform (hr : TRep w v L h) : ∃ b,v = .pointer (some ⟨b,0,none⟩) ∧ b < w.heap.size := by
 obtain ⟨b,A,t,rfl,hv,_⟩ := hr
 exact ⟨b,rfl,hv.1.lt⟩
theorem tset (k x : ByteArray) (hr : TRep w v L h) (hl : L.length ≤ 50000) : Calls Tryz.prog 148 #[v,.string k,.string x] w fun e w' => ∃ v' h',e = .returned v' ∧ TRep w' v' (putL k x L) h' ∧ Below w.heap.size w w' := by
 obtain ⟨b,A,t,rfl,hv,rfl,h2,h3,rfl⟩ := hr
 rw [Tt.sz_ino] at hl
 refine (setm_calls b A t k x w hv (by omega)).mono ?_
 rintro e w' ⟨b',A',rfl,hv',hb'⟩
 exact ⟨_,_,rfl,⟨b',A',_,rfl,hv',Tt.ino_set t k x h2,rise_put h2 k x,(Tt.set_avl t _ h3).1,rfl⟩,hb'⟩
theorem tcut (k : ByteArray) (hr : TRep w v L h) (hl : L.length ≤ 50000) : Calls Tryz.prog 158 #[v,.string k] w fun e w' => ∃ v' h',e = .returned v' ∧ TRep w' v' (cutL k L) h' ∧ Below w.heap.size w w' := by
 obtain ⟨b,A,t,rfl,hv,rfl,h2,h3,rfl⟩ := hr
 rw [Tt.sz_ino] at hl
 cases hG : getL k t.ino with
 | none =>
   refine (cutm_no b A t k w hv h2 hG).mono ?_
   rintro e w' ⟨b',A',rfl,hv',hb'⟩
   exact ⟨_,_,rfl,⟨b',A',_,rfl,hv',(cut_none hG).symm,rise_cut h2 k,h3,rfl⟩,hb'⟩
 | some p =>
   refine (cutm_yes b A t k w hv h2 (by omega) p hG (has_get hG)).mono ?_
   rintro e w' ⟨b',A',rfl,hv',hb'⟩
   exact ⟨_,_,rfl,⟨b',A',_,rfl,hv',Tt.ino_cut t k h2,rise_cut h2 k,(Tt.cut_avl t k h3).1,rfl⟩,hb'⟩
theorem tget (k : ByteArray) (hr : TRep w v L h) (hl : L.length ≤ 50000) : Calls Tryz.prog 42 #[v,.string k] w fun e w' => e = .returned (GotV (getL k L)) ∧ w = w' := by
 obtain ⟨b,A,t,rfl,hv,rfl,h2,h3,rfl⟩ := hr
 exact TreeQ.get_calls b A t k w hv h2 _ rfl
theorem tlen (hr : TRep w v L h) (hl : L.length ≤ 50000) : Calls Tryz.prog 72 #[v] w fun e w' => e = .returned (.int .i64 (L.length : Nat)) ∧ w = w' := by
 obtain ⟨b,A,t,rfl,hv,rfl,h2,h3,rfl⟩ := hr
 exact len_calls b A t w hv _ (Tt.sz_ino t).symm
theorem trange (x y : ByteArray) (hr : TRep w v L h) (hl : L.length ≤ 50000) : Calls Tryz.prog 44 #[v,.string x,.string y] w (Made (rangeL x y L) w) := by
 obtain ⟨b,A,t,rfl,hv,rfl,h2,h3,rfl⟩ := hr
 rw [Tt.sz_ino] at hl
 exact range_made b A t x y w hv h2 (by omega)
end Go.Proofs.YtobbofdnhbgioaaGreatDoor.TreeH
namespace Go.Proofs.YtobbofdnhbgioaaGreatDoor.ViewL
open Go.RowKit
open Byte KeysM TreeM ViewM Own Lst Chg TreeR TreeL TreeG TreeH Ho ViewR ViewS
structure Lim (s : Vs) : Prop where
 base : s.base.length ≤ 1000
 rd : s.rd.length ≤ 20000
 rg : s.rg.length ≤ 1000
structure Stp (S D S' D' : Nat → Prop) (w w' : World) : Prop where
 chg : Chg S w w'
 kept : Kept w w'
 own : Grow w S S'
 dep : Grow w D D'
structure Stays (Rep : World → Value → Vs → (Nat → Prop) → (Nat → Prop) → Prop) : Prop where
 stay : ∀ {w w' v s S D} {T : Nat → Prop},Rep w v s S D → Chg T w w' → (∀ b,T b → ¬ D b) → Kept w w' → Rep w' v s S D
 ok : ∀ {w v s S D},Rep w v s S D → s.Ok
 lt : ∀ {w v s S D},Rep w v s S D → ∀ b,D b → b < w.heap.size
 sub : ∀ {w v s S D},Rep w v s S D → ∀ b,S b → D b
variable {Rep : World → Value → Vs → (Nat → Prop) → (Nat → Prop) → Prop}
theorem Stays.below (h : Stays Rep) {w w' : World} {v : Value} {s : Vs} {S D : Nat → Prop} (r : Rep w v s S D) (hb : Below w.heap.size w w') : Rep w' v s S D :=
 h.stay (T := fun _ => False) r (Chg.of_below hb) (fun _ h => h.elim) (Kept.of_below hb)
def NewOk (Rep : World → Value → Vs → (Nat → Prop) → (Nat → Prop) → Prop) : Prop := ∀ ⦃w t L h⦄,TRep w t L h → L.length ≤ 1000 → Calls Tryz.prog 9 #[t] w fun e w' => ∃ v S D,e = .returned v ∧ Rep w' v ⟨L,[],[],[]⟩ S D ∧ (∀ b,S b → w.heap.size ≤ b) ∧ (∀ b,D b → w.heap.size ≤ b) ∧ Below w.heap.size w w'
def GetOk (Rep : World → Value → Vs → (Nat → Prop) → (Nat → Prop) → Prop) : Prop := ∀ ⦃w v s S D⦄ (k : ByteArray),Rep w v s S D → Lim s → k.size ≤ 200000000000000 → Calls Tryz.prog 152 #[v,.string k] w fun e w' => ∃ S' D',e = .returned (GotV (getL k s.shown)) ∧ Rep w' v (s.read k) S' D' ∧ Stp S D S' D' w w'
def LookOk (Rep : World → Value → Vs → (Nat → Prop) → (Nat → Prop) → Prop) : Prop := ∀ ⦃w v s S D⦄ (k : ByteArray),Rep w v s S D → Lim s → k.size ≤ 200000000000000 → Calls Tryz.prog 134 #[v,.string k] w fun e w' => ∃ S' D',e = .returned (GotV (getL k s.shown)) ∧ Rep w' v s S' D' ∧ Stp S D S' D' w w'
def RangeOk (Rep : World → Value → Vs → (Nat → Prop) → (Nat → Prop) → Prop) : Prop := ∀ ⦃w v s S D⦄ (x y : ByteArray),Rep w v s S D → Lim s → x.size ≤ 200000000000000 → y.size ≤ 200000000000000 → Calls Tryz.prog 25 #[v,.string x,.string y] w fun e w' => ∃ (r : Sh) (S' D' : Nat → Prop),e = .returned (.slice r.a r.n r.c) ∧ Sl prE w' r.a r.n (s.rangeOf x y) ∧ (0 < r.n → NewA w r) ∧ Rep w' v (s.ranged x y) S' D' ∧ Stp S D S' D' w w'
def SetOk (Rep : World → Value → Vs → (Nat → Prop) → (Nat → Prop) → Prop) : Prop := ∀ ⦃w v s S D⦄ (k x : ByteArray),Rep w v s S D → Lim s → k.size ≤ 200000000000000 → x.size ≤ 200000000000000 → Calls Tryz.prog 122 #[v,.string k,.string x] w fun e w' => ∃ S' D',e = .returned (.bool (!fullW s.wr ⟨k,x,false⟩)) ∧ Rep w' v (s.write ⟨k,x,false⟩) S' D' ∧ Stp S D S' D' w w'
def CutOk (Rep : World → Value → Vs → (Nat → Prop) → (Nat → Prop) → Prop) : Prop := ∀ ⦃w v s S D⦄ (k : ByteArray),Rep w v s S D → Lim s → k.size ≤ 200000000000000 → Calls Tryz.prog 133 #[v,.string k] w fun e w' => ∃ S' D',e = .returned (.bool (!fullW s.wr ⟨k,⟨#[]⟩,true⟩)) ∧ Rep w' v (s.write ⟨k,⟨#[]⟩,true⟩) S' D' ∧ Stp S D S' D' w w'
theorem below_chg {B : Nat} {w w1 w2 : World} {S : Nat → Prop} (h : Below B w w1) (k : Chg S w1 w2) (hS : ∀ b,S b → B ≤ b) (hB : B ≤ w.heap.size) : Below B w w2 :=
 ⟨k.os.trans h.os,k.tape.trans h.tape,k.output.trans h.output,Nat.le_trans h.size k.size,fun i hi => (k.block i (by have := h.size; omega) (fun hk => by have := hS i hk; omega)).trans (h.block i hi)⟩
theorem new_own {w1 : World} {S S' : Nat → Prop} {B : Nat} (hS : ∀ b,S b → B ≤ b) (hB : B ≤ w1.heap.size) (g : Grow w1 S S') : ∀ b,S' b → B ≤ b := fun b hb => by
 rcases g b hb with h | h
 ·exact hS b h
 ·omega
end Go.Proofs.YtobbofdnhbgioaaGreatDoor.ViewL
namespace Go.Proofs.YtobbofdnhbgioaaGreatDoor.ViewD
open Go.RowKit
open Byte KeysM TreeM ViewM Own Lst Chg TreeR TreeL TreeG TreeH Ho ViewR ViewS ViewL
variable {Rep : World → Value → Vs → (Nat → Prop) → (Nat → Prop) → Prop}
theorem Kept.trans {a b c : World} (h : Kept a b) (k : Kept b c) : Kept a c := fun q cs U fr hU hb => k q cs U fr hU (h q cs U fr hU hb)
theorem kept_set {W : World} {r : Nat} {cs : Array Value} {T : TypeId} (h : Blk W r cs T) (hne : 76 ≠ T ∧ 125 ≠ T) (i : Nat) (u : Value) : Kept W (W.setCell ⟨r,i,none⟩ u) := fun q cs' U fr hU hb => by
 by_cases e : q = r
 ·subst e
  unfold Blk at h
  rw [h] at hb
  injection hb with hb
  injection hb with _ hT _
  subst hT
  rcases hU with h1 | h1
  ·exact absurd h1.symm hne.1
  ·exact absurd h1.symm hne.2
 ·exact (Below.heap_setCell W ⟨r,i,none⟩ u q e).trans hb
theorem blk_chg {S : Nat → Prop} {w w' : World} {g : Nat} {cs : Array Value} {t : TypeId} (h : Blk w g cs t) (k : Chg S w w') (hg : ¬ S g) : Blk w' g cs t := (k.block g h.lt hg).trans h
end Go.Proofs.YtobbofdnhbgioaaGreatDoor.ViewD
namespace Go.Proofs.YtobbofdnhbgioaaGreatDoor.ViewP
open Go.RowKit
open Byte KeysM TreeM ViewM Own Lst Chg TreeR TreeL TreeG TreeH Ho ViewR ViewS ViewL ViewD
variable {Rep : World → Value → Vs → (Nat → Prop) → (Nat → Prop) → Prop}
theorem kept_grown {W W' : World} {r : Nat} {cs : Array Value} {T : TypeId} (h : Blk W r cs T) (hne : 76 ≠ T ∧ 125 ≠ T) (hg : W.grownBy W' (some r)) : Kept W W' := fun q cs' U fr hU hb => by
 by_cases e : q = r
 ·subst e
  unfold Blk at h
  rw [h] at hb
  injection hb with hb
  injection hb with _ hT _
  subst hT
  rcases hU with h1 | h1
  ·exact absurd h1.symm hne.1
  ·exact absurd h1.symm hne.2
 ·have hlt : q < W.heap.size := (Array.getElem?_eq_some_iff.1 hb).1
  exact (hg.block q hlt (fun h => e (by first | exact (Option.some.inj h).symm | exact Option.some.inj h))).trans hb
end Go.Proofs.YtobbofdnhbgioaaGreatDoor.ViewP