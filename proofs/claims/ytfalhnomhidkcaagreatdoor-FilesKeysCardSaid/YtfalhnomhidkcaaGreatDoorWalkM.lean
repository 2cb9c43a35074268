import Derived.Test.YtfalhnomhidkcaaGreatDoorViewM
import Derived.Test.YtfalhnomhidkcaaGreatDoorNodeM
import Derived.Test.YtfalhnomhidkcaaGreatDoorNamesM
import Derived.Test.YtfalhnomhidkcaaGreatDoorKeysV
set_option linter.unusedVariables false
set_option linter.unusedSimpArgs false
namespace Go.Proofs.YtfalhnomhidkcaaGreatDoor.WalkM
open Byte PackM KeysM TreeM ViewM NodeM
def hangV (ino : Int) : ByteArray := str (low 4 ino)
theorem hangV_size (ino : Int) : (hangV ino).size = 4 := by unfold hangV; rw [str_size,low_len]
theorem hangV_get {ino : Int} (h0 : 0 ≤ ino) (h1 : ino ≤ 4294967295) : PackM.getn (txt (hangV ino)) 0 4 = ino := by
 unfold hangV
 rw [txt_str _ (low_bd 4 ino)]
 have := getn_mid [] [] ino 0 rfl h0 h1
 simpa using this
def childM (l : List Pr) (dir : Int) (name : ByteArray) : Int × Bool := match getL (kE dir name) l with
 | none => (0,false)
 | some q => if q.value.size = 4 then (PackM.getn (txt q.value) 0 4,true) else (0,false)
def entB (dir : Int) (p : Pr) : Bool := decide ((sp p.key).letter = 69) && decide ((sp p.key).ino = dir)
def listM (dir : Int) (l : List Pr) : List ByteArray := (l.filter (entB dir)).map (fun p => (sp p.key).name)
def goodN (name : ByteArray) : Prop := 0 < name.size ∧ name.size ≤ 32
theorem put_end {l : List Pr} {p : Pr} (h : ∀ q ∈ l,kl q.key p.key = true) : putP p l = l ++ [p] := by
 unfold putP
 rw [List.filter_eq_self.2 h,List.filter_eq_nil_iff.2 (fun q hq => by rw [kl_asym (h q hq)]; decide)]
end Go.Proofs.YtfalhnomhidkcaaGreatDoor.WalkM