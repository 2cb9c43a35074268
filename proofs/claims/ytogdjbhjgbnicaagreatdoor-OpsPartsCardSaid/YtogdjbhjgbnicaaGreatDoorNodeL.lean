import Derived.Test.YtogdjbhjgbnicaaGreatDoorNodeG
import Derived.Test.YtogdjbhjgbnicaaGreatDoorLst
import Derived.Test.YtogdjbhjgbnicaaGreatDoorHo
import Derived.Deep.MidRow
import Derived.Lib.MinMax
set_option linter.unusedVariables false
set_option linter.unusedSimpArgs false
namespace Go.Proofs.YtogdjbhjgbnicaaGreatDoor.NodeL
open Go.RowKit
open Byte PackM KeysR NodeM NodeG Lst Ho
open Own hiding keeps
def trE : Enc (Int × Int × Int) := ⟨fun x => [.int .i64 x.1,.int .i64 x.2.1,.int .i64 x.2.2],3,fun _ => rfl,fun x u hu => by simp at hu; rcases hu with rfl | rfl | rfl <;> rfl,by omega⟩
theorem info3 : (Tryz.prog.info? 183).map (·.size) = some 3 := by kernel_rfl
def cutL (a n : Int) : List (Int × Int × Int) := if a < 0 ∨ n ≤ 0 ∨ 4096 < a ∨ 4096 - a < n then [] else cuts n.toNat a n
def blk (size : Int) : Int := if size ≤ 0 then 0 else (size - 1) / 64 + 1
def newV (k p : Int) : Value := if k = 1 then .agg #[.int .u8 1,.int .u32 1,.int .u32 0,.int .u32 0] else .agg #[.int .u8 2,.int .u32 2,.int .u32 0,.int .u32 p]
def MayOk : Prop := ∀ (k l s p : Int) (w : World),0 ≤ k → k ≤ 255 → 0 ≤ l → l ≤ 4294967295 → 0 ≤ s → s ≤ 4294967295 → 0 ≤ p → p ≤ 4294967295 → Calls Tryz.prog 166 #[.agg #[.int .u8 k,.int .u32 l,.int .u32 s,.int .u32 p]] w fun e w' => e = .returned (.bool (may k l s p)) ∧ Below w.heap.size w w'
def PutOk : Prop := ∀ (k l s p : Int) (w : World),0 ≤ k → k ≤ 255 → 0 ≤ l → l ≤ 4294967295 → 0 ≤ s → s ≤ 4294967295 → 0 ≤ p → p ≤ 4294967295 → Calls Tryz.prog 124 #[.agg #[.int .u8 k,.int .u32 l,.int .u32 s,.int .u32 p]] w fun e w' => e = .returned (.string (nput k l s p)) ∧ Below w.heap.size w w'
def GetOk : Prop := ∀ (t : ByteArray) (w : World),t.size ≤ maxLen → Calls Tryz.prog 154 #[.string t] w (GetE t w)
def NewOk : Prop := ∀ (k p : Int) (w : World),0 ≤ k → k ≤ 255 → 0 ≤ p → p ≤ 4294967295 → Calls Tryz.prog 100 #[.int .u8 k,.int .u32 p] w fun e w' => e = .returned (newV k p) ∧ Below w.heap.size w w'
def RootOk : Prop := ∀ (w : World),Calls Tryz.prog 153 #[] w fun e w' => e = .returned (.agg #[.int .u8 2,.int .u32 2,.int .u32 0,.int .u32 1]) ∧ Below w.heap.size w w'
def BlocksOk : Prop := ∀ (n : Int) (w : World),-9223372036854775808 ≤ n → n ≤ 9223372036854775807 → Calls Tryz.prog 110 #[.int .i64 n] w fun e w' => e = .returned (.int .i64 (blk n)) ∧ Below w.heap.size w w'
def CutE (a n : Int) (w : World) (e : Ending) (w' : World) : Prop := ∃ A m c,e = .returned (.slice A m c) ∧ So trE 183 w' w.heap.size (.slice A m c) m (cutL a n) ∧ Below w.heap.size w w'
def CutOk : Prop := ∀ (a n : Int) (w : World),-9223372036854775808 ≤ a → a ≤ 9223372036854775807 → -9223372036854775808 ≤ n → n ≤ 9223372036854775807 → Calls Tryz.prog 128 #[.int .i64 a,.int .i64 n] w (CutE a n w)
end Go.Proofs.YtogdjbhjgbnicaaGreatDoor.NodeL