import Derived.Test.YtogdjbhjgbnicaaGreatDoorKeysN
set_option linter.unusedVariables false
set_option linter.unusedSimpArgs false
namespace Go.Proofs.YtogdjbhjgbnicaaGreatDoor.KeysL
open Go.RowKit
open Byte KeysM KeysR KeysS KeysN
def Txt (s : ByteArray) (w : World) (e : Ending) (w' : World) : Prop := e = .returned (.string s) ∧ Below w.heap.size w w'
def InodeOk : Prop := ∀ (ino : Int) (w : World),0 ≤ ino → ino ≤ 4294967295 → Calls Tryz.prog 123 #[.int .u32 ino] w (Txt (kI ino) w)
def EntryOk : Prop := ∀ (ino : Int) (name : ByteArray) (w : World),0 ≤ ino → ino ≤ 4294967295 → name.size ≤ 100000 → Calls Tryz.prog 125 #[.int .u32 ino,.string name] w (Txt (kE ino name) w)
def BlockOk : Prop := ∀ (ino n : Int) (w : World),0 ≤ ino → ino ≤ 4294967295 → -9223372036854775808 ≤ n → n ≤ 9223372036854775807 → Calls Tryz.prog 135 #[.int .u32 ino,.int .i64 n] w (Txt (kD ino n) w)
def SplitOk : Prop := ∀ (key : ByteArray) (w : World),key.size ≤ 100000 → Calls Tryz.prog 132 #[.string key] w (SpE (sp key) w)
def NameOk : Prop := ∀ (s : ByteArray) (w : World),s.size ≤ 100000 → Calls Tryz.prog 163 #[.string s] w fun e w' => e = .returned (.bool (nameOk s)) ∧ Below w.heap.size w w'
end Go.Proofs.YtogdjbhjgbnicaaGreatDoor.KeysL