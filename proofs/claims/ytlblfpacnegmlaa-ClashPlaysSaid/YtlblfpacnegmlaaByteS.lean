import Derived.Test.YtlblfpacnegmlaaByte
import Derived.Laws.CopyOwn
import Derived.Lib.AppendStr
import Derived.Lib.SliceRun
import Derived.OwnWalk
namespace Go.Proofs.Ytlblfpacnegmlaa.Byte
open Go.RowKit
def txt (s : ByteArray) : List Int := s.data.toList.map (fun b => (b.toNat : Int))
theorem str_txt (s : ByteArray) : str (txt s) = s := by
 unfold str txt
 apply ByteArray.ext
 apply Array.ext'
 simp only [List.map_map]
 have e : s.data.toList.map ((fun x : Int => UInt8.ofNat x.toNat) ∘ fun b => (b.toNat : Int)) = s.data.toList.map id := List.map_congr_left fun b _ => by simp
 rw [e,List.map_id]
section
variable {w w' : World} {base : Nat} {e : TypeId} {g n cap : Nat} {xs : List Int}
end
theorem grown_setCells (b : Nat) : ∀ (vs : List Value) (o : Nat) (w : World),w.grownBy (w.setCells b o vs) (some b)
 | [],_,w => World.grownBy.refl w _
 | v :: r,o,w => by
   have h := grown_setCells b r (o + 1) (w.setCell ⟨b,o,none⟩ v)
   refine ⟨h.os,h.tape,h.output,Nat.le_trans (by simp [World.setCell]) h.size,fun k hk hne => ?_⟩
   rw [World.setCells,h.block k (by simpa [World.setCell] using hk) hne]
   exact Below.heap_setCell w ⟨b,o,none⟩ v k (fun e => hne (by rw [e]))
section
variable {P : Program} {w : World}
theorem grown_setRow (w : World) (g : Nat) (cs : Array Value) : w.grownBy (w.setRow g cs) (some g) :=
 ⟨rfl,rfl,rfl,by simp [World.setRow],fun k _ hne => setRow_other w g k cs (fun e => hne (by rw [e]))⟩
theorem pick {ops : Array Oper} {rest : List Oper} {op : Op} {t : TypeId} {p : String} {af : Array Edge} {gd : Option (Nat × Bool)} {a : Act} {Q : Exit → Act → World → Prop} (d : Option Tmp) (h : wpList P ops Q (⟨d,op,t,p,af,gd⟩ :: rest) a w) :
 wpList P ops Q (⟨d,op,t,p,af,gd⟩ :: rest) a w := h
end
end Go.Proofs.Ytlblfpacnegmlaa.Byte