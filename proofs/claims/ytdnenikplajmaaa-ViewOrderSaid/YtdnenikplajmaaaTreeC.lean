/- Layer 10: the law's cut: as many operations as are gone through. -/
import Derived.Test.YtdnenikplajmaaaTreeS
namespace Go.Proofs.Ytdnenikplajmaaa.TreeC
set_option linter.unusedVariables false
set_option linter.unusedSimpArgs false
open Go.RowKit
open Go.Proofs.Ytdnenikplajmaaa.Byte Go.Proofs.Ytdnenikplajmaaa.KeysM Go.Proofs.Ytdnenikplajmaaa.TreeM Go.Proofs.Ytdnenikplajmaaa.Own Go.Proofs.Ytdnenikplajmaaa.Rw Go.Proofs.Ytdnenikplajmaaa.Lst Go.Proofs.Ytdnenikplajmaaa.TreeR Go.Proofs.Ytdnenikplajmaaa.TreeS

structure Op10 where
  kind : Int
  from_ : Int
  key : ByteArray
  value : ByteArray
deriving Inhabited
def opE : Enc Op10 := ⟨fun p => [.int .i64 p.kind, .int .u16 p.from_, .string p.key, .string p.value], 4, fun _ => rfl, fun x u hu => by
  simp only [List.mem_cons, List.mem_nil_iff, or_false] at hu
  rcases hu with rfl | rfl | rfl | rfl <;> rfl, by decide⟩
/-- An operation that may be gone through. -/
def okOp (p : Op10) : Prop := p.key.size ≤ 200 ∧ p.value.size ≤ 200
/-- What may come in: the numbers fit their kinds. -/
def fitOp (p : Op10) : Prop := (-9223372036854775808 ≤ p.kind ∧ p.kind ≤ 9223372036854775807) ∧ (0 ≤ p.from_ ∧ p.from_ ≤ 65535) ∧ p.key.size ≤ maxLen ∧ p.value.size ≤ maxLen
theorem op_cells {w : World} {b o k : Nat} {x : Op10} (h : w.rangeAt b (o + k * opE.size) (opE.cells x)) : w.cell? ⟨b, o + k * 4, none⟩ = some (.int .i64 x.kind) ∧ w.cell? ⟨b, o + k * 4 + 1, none⟩ = some (.int .u16 x.from_) ∧ w.cell? ⟨b, o + k * 4 + 2, none⟩ = some (.string x.key) ∧ w.cell? ⟨b, o + k * 4 + 3, none⟩ = some (.string x.value) ∧ w.rangeAt b (o + k * 4) [.int .i64 x.kind, .int .u16 x.from_, .string x.key, .string x.value] :=
  ⟨h 0 _ rfl, h 1 _ rfl, h 2 _ rfl, h 3 _ rfl, h⟩
/-- The call answers with a front of the operations, all of which may be gone through. -/
def Front (A : Option Addr) (n c : Nat) (L : List Op10) (w : World) (e : Ending) (w' : World) : Prop := ∃ m, e = .returned (.slice A m c) ∧ m ≤ n ∧ m ≤ 200 ∧ (∀ p ∈ L.take m, okOp p) ∧ Below w.heap.size w w'
end Go.Proofs.Ytdnenikplajmaaa.TreeC
