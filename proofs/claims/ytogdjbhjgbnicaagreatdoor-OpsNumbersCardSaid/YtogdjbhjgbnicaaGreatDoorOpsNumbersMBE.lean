import Derived.Laws.ResultCell
import Derived.Deep.Cut
import Derived.Deep.RegionLaw
import Derived.Test.YtogdjbhjgbnicaaGreatDoorViewS
import Derived.Test.YtogdjbhjgbnicaaGreatDoorViewR
import Derived.Test.YtogdjbhjgbnicaaGreatDoorTreeH
import Derived.Deep.MidRow
set_option linter.unusedVariables false
set_option linter.unusedSimpArgs false
namespace Go.Proofs.YtogdjbhjgbnicaaGreatDoor.ViewL
open Go.RowKit
open Byte KeysM TreeM ViewM Own Lst Chg TreeR TreeL TreeG TreeH Ho ViewR ViewS
structure Lim (s : Vs) : Prop where
 base : s.base.length ≤ 1000
 rd : s.rd.length ≤ 20000
 rg : s.rg.length ≤ 1000
structure Stp (S D S' D' : Nat → Prop) (w w' : World) : Prop where
 chg : Chg S w w'
 kept : Kept w w'
 own : Grow w S S'
 dep : Grow w D D'
structure Stays (Rep : World → Value → Vs → (Nat → Prop) → (Nat → Prop) → Prop) : Prop where
 stay : ∀ {w w' v s S D} {T : Nat → Prop},Rep w v s S D → Chg T w w' → (∀ b,T b → ¬ D b) → Kept w w' → Rep w' v s S D
 ok : ∀ {w v s S D},Rep w v s S D → s.Ok
 lt : ∀ {w v s S D},Rep w v s S D → ∀ b,D b → b < w.heap.size
 sub : ∀ {w v s S D},Rep w v s S D → ∀ b,S b → D b
variable {Rep : World → Value → Vs → (Nat → Prop) → (Nat → Prop) → Prop}
theorem Stays.below (h : Stays Rep) {w w' : World} {v : Value} {s : Vs} {S D : Nat → Prop} (r : Rep w v s S D) (hb : Below w.heap.size w w') : Rep w' v s S D :=
 h.stay (T := fun _ => False) r (Chg.of_below hb) (fun _ h => h.elim) (Kept.of_below hb)
def NewOk (Rep : World → Value → Vs → (Nat → Prop) → (Nat → Prop) → Prop) : Prop := ∀ ⦃w t L h⦄,TRep w t L h → L.length ≤ 1000 → Calls Tryz.prog 9 #[t] w fun e w' => ∃ v S D,e = .returned v ∧ Rep w' v ⟨L,[],[],[]⟩ S D ∧ (∀ b,S b → w.heap.size ≤ b) ∧ (∀ b,D b → w.heap.size ≤ b) ∧ Below w.heap.size w w'
def GetOk (Rep : World → Value → Vs → (Nat → Prop) → (Nat → Prop) → Prop) : Prop := ∀ ⦃w v s S D⦄ (k : ByteArray),Rep w v s S D → Lim s → k.size ≤ 200000000000000 → Calls Tryz.prog 152 #[v,.string k] w fun e w' => ∃ S' D',e = .returned (GotV (getL k s.shown)) ∧ Rep w' v (s.read k) S' D' ∧ Stp S D S' D' w w'
def LookOk (Rep : World → Value → Vs → (Nat → Prop) → (Nat → Prop) → Prop) : Prop := ∀ ⦃w v s S D⦄ (k : ByteArray),Rep w v s S D → Lim s → k.size ≤ 200000000000000 → Calls Tryz.prog 134 #[v,.string k] w fun e w' => ∃ S' D',e = .returned (GotV (getL k s.shown)) ∧ Rep w' v s S' D' ∧ Stp S D S' D' w w'
def RangeOk (Rep : World → Value → Vs → (Nat → Prop) → (Nat → Prop) → Prop) : Prop := ∀ ⦃w v s S D⦄ (x y : ByteArray),Rep w v s S D → Lim s → x.size ≤ 200000000000000 → y.size ≤ 200000000000000 → Calls Tryz.prog 25 #[v,.string x,.string y] w fun e w' => ∃ (r : Sh) (S' D' : Nat → Prop),e = .returned (.slice r.a r.n r.c) ∧ Sl prE w' r.a r.n (s.rangeOf x y) ∧ (0 < r.n → NewA w r) ∧ Rep w' v (s.ranged x y) S' D' ∧ Stp S D S' D' w w'
def SetOk (Rep : World → Value → Vs → (Nat → Prop) → (Nat → Prop) → Prop) : Prop := ∀ ⦃w v s S D⦄ (k x : ByteArray),Rep w v s S D → Lim s → k.size ≤ 200000000000000 → x.size ≤ 200000000000000 → Calls Tryz.prog 122 #[v,.string k,.string x] w fun e w' => ∃ S' D',e = .returned (.bool (!fullW s.wr ⟨k,x,false⟩)) ∧ Rep w' v (s.write ⟨k,x,false⟩) S' D' ∧ Stp S D S' D' w w'
def CutOk (Rep : World → Value → Vs → (Nat → Prop) → (Nat → Prop) → Prop) : Prop := ∀ ⦃w v s S D⦄ (k : ByteArray),Rep w v s S D → Lim s → k.size ≤ 200000000000000 → Calls Tryz.prog 133 #[v,.string k] w fun e w' => ∃ S' D',e = .returned (.bool (!fullW s.wr ⟨k,⟨#[]⟩,true⟩)) ∧ Rep w' v (s.write ⟨k,⟨#[]⟩,true⟩) S' D' ∧ Stp S D S' D' w w'
theorem below_chg {B : Nat} {w w1 w2 : World} {S : Nat → Prop} (h : Below B w w1) (k : Chg S w1 w2) (hS : ∀ b,S b → B ≤ b) (hB : B ≤ w.heap.size) : Below B w w2 :=
 ⟨k.os.trans h.os,k.tape.trans h.tape,k.output.trans h.output,Nat.le_trans h.size k.size,fun i hi => (k.block i (by have := h.size; omega) (fun hk => by have := hS i hk; omega)).trans (h.block i hi)⟩
theorem new_own {w1 : World} {S S' : Nat → Prop} {B : Nat} (hS : ∀ b,S b → B ≤ b) (hB : B ≤ w1.heap.size) (g : Grow w1 S S') : ∀ b,S' b → B ≤ b := fun b hb => by
 rcases g b hb with h | h
 ·exact hS b h
 ·omega
end Go.Proofs.YtogdjbhjgbnicaaGreatDoor.ViewL
namespace Go.Proofs.YtogdjbhjgbnicaaGreatDoor.ViewD
open Go.RowKit
open Byte KeysM TreeM ViewM Own Lst Chg TreeR TreeL TreeG TreeH Ho ViewR ViewS ViewL
variable {Rep : World → Value → Vs → (Nat → Prop) → (Nat → Prop) → Prop}
theorem Kept.trans {a b c : World} (h : Kept a b) (k : Kept b c) : Kept a c := fun q cs U fr hU hb => k q cs U fr hU (h q cs U fr hU hb)
theorem kept_set {W : World} {r : Nat} {cs : Array Value} {T : TypeId} (h : Blk W r cs T) (hne : 76 ≠ T ∧ 125 ≠ T) (i : Nat) (u : Value) : Kept W (W.setCell ⟨r,i,none⟩ u) := fun q cs' U fr hU hb => by
 by_cases e : q = r
 ·subst e
  unfold Blk at h
  rw [h] at hb
  injection hb with hb
  injection hb with _ hT _
  subst hT
  rcases hU with h1 | h1
  ·exact absurd h1.symm hne.1
  ·exact absurd h1.symm hne.2
 ·exact (Below.heap_setCell W ⟨r,i,none⟩ u q e).trans hb
theorem blk_chg {S : Nat → Prop} {w w' : World} {g : Nat} {cs : Array Value} {t : TypeId} (h : Blk w g cs t) (k : Chg S w w') (hg : ¬ S g) : Blk w' g cs t := (k.block g h.lt hg).trans h
end Go.Proofs.YtogdjbhjgbnicaaGreatDoor.ViewD
namespace Go.Proofs.YtogdjbhjgbnicaaGreatDoor.ViewP
open Go.RowKit
open Byte KeysM TreeM ViewM Own Lst Chg TreeR TreeL TreeG TreeH Ho ViewR ViewS ViewL ViewD
variable {Rep : World → Value → Vs → (Nat → Prop) → (Nat → Prop) → Prop}
theorem add_len (a b : ByteArray) (G : List (ByteArray × ByteArray)) : (addR a b G).length ≤ G.length + 1 := by
 unfold addR
 split
 ·omega
 ·simp
theorem kept_grown {W W' : World} {r : Nat} {cs : Array Value} {T : TypeId} (h : Blk W r cs T) (hne : 76 ≠ T ∧ 125 ≠ T) (hg : W.grownBy W' (some r)) : Kept W W' := fun q cs' U fr hU hb => by
 by_cases e : q = r
 ·subst e
  unfold Blk at h
  rw [h] at hb
  injection hb with hb
  injection hb with _ hT _
  subst hT
  rcases hU with h1 | h1
  ·exact absurd h1.symm hne.1
  ·exact absurd h1.symm hne.2
 ·have hlt : q < W.heap.size := (Array.getElem?_eq_some_iff.1 hb).1
  exact (hg.block q hlt (fun h => e (by first | exact (Option.some.inj h).symm | exact Option.some.inj h))).trans hb
end Go.Proofs.YtogdjbhjgbnicaaGreatDoor.ViewP