import Derived.Test.YtlblfpacnegmlaaViewS
import Derived.Test.YtlblfpacnegmlaaViewR
import Derived.Test.YtlblfpacnegmlaaTreeH
import Derived.Laws.ResultCell
import Derived.Deep.Cut
import Derived.Deep.RegionLaw
set_option linter.unusedVariables false
set_option linter.unusedSimpArgs false
namespace Go.Proofs.Ytlblfpacnegmlaa.ViewL
open Go.RowKit
open Byte KeysM TreeM ViewM Own Lst Chg TreeR TreeL TreeG TreeH Ho ViewR ViewS
structure Lim (s : Vs) : Prop where
 base : s.base.length ≤ 1000
 rd : s.rd.length ≤ 20000
 rg : s.rg.length ≤ 1000
structure Stp (S D S' D' : Nat → Prop) (w w' : World) : Prop where
 chg : Chg S w w'
 kept : Kept w w'
 own : Grow w S S'
 dep : Grow w D D'
structure Stays (Rep : World → Value → Vs → (Nat → Prop) → (Nat → Prop) → Prop) : Prop where
 stay : ∀ {w w' v s S D} {T : Nat → Prop},Rep w v s S D → Chg T w w' → (∀ b,T b → ¬ D b) → Kept w w' → Rep w' v s S D
 ok : ∀ {w v s S D},Rep w v s S D → s.Ok
 lt : ∀ {w v s S D},Rep w v s S D → ∀ b,D b → b < w.heap.size
 sub : ∀ {w v s S D},Rep w v s S D → ∀ b,S b → D b
variable {Rep : World → Value → Vs → (Nat → Prop) → (Nat → Prop) → Prop}
theorem Stays.below (h : Stays Rep) {w w' : World} {v : Value} {s : Vs} {S D : Nat → Prop} (r : Rep w v s S D) (hb : Below w.heap.size w w') : Rep w' v s S D :=
 h.stay (T := fun _ => False) r (Chg.of_below hb) (fun _ h => h.elim) (Kept.of_below hb)
def NewOk (Rep : World → Value → Vs → (Nat → Prop) → (Nat → Prop) → Prop) : Prop := ∀ ⦃w t L h⦄,TRep w t L h → L.length ≤ 1000 → Calls Try.prog 22 #[t] w fun e w' => ∃ v S D,e = .returned v ∧ Rep w' v ⟨L,[],[],[]⟩ S D ∧ (∀ b,S b → w.heap.size ≤ b) ∧ (∀ b,D b → w.heap.size ≤ b) ∧ Below w.heap.size w w'
def GetOk (Rep : World → Value → Vs → (Nat → Prop) → (Nat → Prop) → Prop) : Prop := ∀ ⦃w v s S D⦄ (k : ByteArray),Rep w v s S D → Lim s → k.size ≤ 200000000000000 → Calls Try.prog 24 #[v,.string k] w fun e w' => ∃ S' D',e = .returned (GotV (getL k s.shown)) ∧ Rep w' v (s.read k) S' D' ∧ Stp S D S' D' w w'
def RangeOk (Rep : World → Value → Vs → (Nat → Prop) → (Nat → Prop) → Prop) : Prop := ∀ ⦃w v s S D⦄ (x y : ByteArray),Rep w v s S D → Lim s → x.size ≤ 200000000000000 → y.size ≤ 200000000000000 → Calls Try.prog 25 #[v,.string x,.string y] w fun e w' => ∃ (r : Sh) (S' D' : Nat → Prop),e = .returned (.slice r.a r.n r.c) ∧ Sl prE w' r.a r.n (s.rangeOf x y) ∧ (0 < r.n → NewA w r) ∧ Rep w' v (s.ranged x y) S' D' ∧ Stp S D S' D' w w'
def ReadsOk (Rep : World → Value → Vs → (Nat → Prop) → (Nat → Prop) → Prop) : Prop := ∀ ⦃w v s S D⦄,Rep w v s S D → Lim s → Calls Try.prog 15 #[v] w fun e w' => ∃ r : Sh,e = .returned (.slice r.a r.n r.c) ∧ Sl rdE w' r.a r.n s.rd ∧ Below w.heap.size w w'
def RangesOk (Rep : World → Value → Vs → (Nat → Prop) → (Nat → Prop) → Prop) : Prop := ∀ ⦃w v s S D⦄,Rep w v s S D → Lim s → Calls Try.prog 16 #[v] w fun e w' => ∃ r : Sh,e = .returned (.slice r.a r.n r.c) ∧ Sl rgE w' r.a r.n s.rg ∧ Below w.heap.size w w'
theorem below_chg {B : Nat} {w w1 w2 : World} {S : Nat → Prop} (h : Below B w w1) (k : Chg S w1 w2) (hS : ∀ b,S b → B ≤ b) (hB : B ≤ w.heap.size) : Below B w w2 :=
 ⟨k.os.trans h.os,k.tape.trans h.tape,k.output.trans h.output,Nat.le_trans h.size k.size,fun i hi => (k.block i (by have := h.size; omega) (fun hk => by have := hS i hk; omega)).trans (h.block i hi)⟩
theorem new_own {w1 : World} {S S' : Nat → Prop} {B : Nat} (hS : ∀ b,S b → B ≤ b) (hB : B ≤ w1.heap.size) (g : Grow w1 S S') : ∀ b,S' b → B ≤ b := fun b hb => by
 rcases g b hb with h | h
 ·exact hS b h
 ·omega
end Go.Proofs.Ytlblfpacnegmlaa.ViewL