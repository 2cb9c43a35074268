/- The contract of layer 7's law's Found: found items by their places' bits. -/
import Derived.Test.YthbafcihmcjchaaGreatDoorRingI
import Derived.Test.YthbafcihmcjchaaGreatDoorRingV
import Derived.Test.YthbafcihmcjchaaGreatDoorRingK
import Derived.Deep.MidRow
import Derived.Deep.RegionHeld3
import Derived.Deep.AppendLies
namespace Go.Proofs.YthbafcihmcjchaaGreatDoor.RingF
set_option linter.unusedVariables false
set_option linter.unusedSimpArgs false
open Go.RowKit
open Go.Proofs.YthbafcihmcjchaaGreatDoor.Byte Go.Proofs.YthbafcihmcjchaaGreatDoor.RingM Go.Proofs.YthbafcihmcjchaaGreatDoor.RingN Go.Proofs.YthbafcihmcjchaaGreatDoor.RingC Go.Proofs.YthbafcihmcjchaaGreatDoor.RingK Go.Proofs.YthbafcihmcjchaaGreatDoor.PlaceG Go.Proofs.YthbafcihmcjchaaGreatDoor.Own

attribute [local go_sem] Own.run_store_complex
/-- A found item by its places' bits, as it came in. -/
structure Pr where
  a0 : Int
  a1 : Int
  settled : Bool
  seq : Int
  ver : Int
  index : Int
  count : Int
  n0 : Int
  n1 : Int
  gone : Bool
  key : ByteArray
  value : ByteArray
def Pr.cells (p : Pr) : List Value := [.int .u64 p.a0, .int .u64 p.a1, .bool p.settled, .int .u64 p.seq, .int .u64 p.ver, .int .i64 p.index, .int .i64 p.count, .int .u64 p.n0, .int .u64 p.n1, .bool p.gone, .string p.key, .string p.value]
def Pr.it (p : Pr) : It := ⟨p.seq, p.ver, p.index, p.count, p.n0.toNat, p.n1.toNat, p.gone, p.key, p.value⟩
def _root_.Go.Proofs.YthbafcihmcjchaaGreatDoor.RingK.Fnd.cells (f : Fnd) : List Value := .complex .f64 f.re f.im :: .int .i64 f.size :: .bool f.settled :: (RingC.cells f.item).toList
def Pr.fd (p : Pr) : Fnd := ⟨p.a0.toNat, p.a1.toNat, RingM.size p.key.size p.value.size, p.settled, p.it⟩
def PrsAt (w : World) (A : Option Addr) (m : Nat) (ps : Nat → Pr) : Prop :=
  ∀ j, j < m → ∃ b o, A = some ⟨b, o, none⟩ ∧ b < w.heap.size ∧ w.rangeAt b (o + j * 12) (ps j).cells
theorem PrsAt.below {w w' : World} {A : Option Addr} {m : Nat} {ps : Nat → Pr} (h : PrsAt w A m ps) (hb : Below w.heap.size w w') : PrsAt w' A m ps := fun j hj => by
  obtain ⟨b, o, e, hlt, hc⟩ := h j hj
  exact ⟨b, o, e, Nat.lt_of_lt_of_le hlt hb.size, fun i v hv => (hb.cell (p := ⟨b, o + j * 12 + i, none⟩) hlt).trans (hc i v hv)⟩
/-- A row of found items of the call's own; nil where there is none. -/
def Fds (w : World) (base : Nat) (v : Value) (n : Nat) (f : Nat → Fnd) : Prop := w.ownsRow base 103 11 v n ((List.range n).flatMap fun j => (f j).cells)
theorem info_found : (Tryz.prog.info? 103).map (fun i => (i.zero, i.size, i.bytes)) = some (some (.agg #[.complex .f64 0 0, .int .i64 0, .bool false, .int .u64 0, .int .u64 0, .int .i64 0, .int .i64 0, .complex .f64 0 0, .bool false, .string ⟨#[]⟩, .string ⟨#[]⟩]), 11, 120) := by kernel_rfl
theorem own_below {w w' : World} {base n size : Nat} {e : TypeId} {v : Value} {xs : List Value} (h : w.ownsRow base e size v n xs) (hb : Below w.heap.size w w') : w'.ownsRow base e size v n xs :=
  h.kept (row := none) ⟨hb.os, hb.tape, hb.output, hb.size, fun k hk _ => hb.block k hk⟩ (by
    cases hv : v.ownBlock with
    | none => exact .inl rfl
    | some g => exact .inr (by simp))
theorem own_lt {w : World} {base n size : Nat} {e : TypeId} {v : Value} {xs : List Value} (h : w.ownsRow base e size v n xs) (g : Nat) (hg : v.ownBlock = some g) : base ≤ g ∧ g < w.heap.size := h.lt g hg
end Go.Proofs.YthbafcihmcjchaaGreatDoor.RingF
