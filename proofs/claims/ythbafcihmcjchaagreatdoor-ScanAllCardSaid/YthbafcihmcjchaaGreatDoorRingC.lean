/- Items in memory: their cells, boxes, what is answered with one. -/
import Derived.Test.YthbafcihmcjchaaGreatDoorProg
import Derived.Test.YthbafcihmcjchaaGreatDoorRingN
import Derived.Test.YthbafcihmcjchaaGreatDoorOwn
import Derived.WalkKit
import Derived.Below
namespace Go.Proofs.YthbafcihmcjchaaGreatDoor.RingC
set_option linter.unusedVariables false
set_option linter.unusedSimpArgs false
open Go.RowKit
open Go.Proofs.YthbafcihmcjchaaGreatDoor.Byte Go.Proofs.YthbafcihmcjchaaGreatDoor.RingM Go.Proofs.YthbafcihmcjchaaGreatDoor.RingN Go.Proofs.YthbafcihmcjchaaGreatDoor.Own

abbrev cells (x : It) : Array Value := #[.int .u64 x.seq, .int .u64 x.ver, .int .i64 x.index, .int .i64 x.count, .complex .f64 x.re x.im, .bool x.gone, .string x.key, .string x.value]
/-- An item's box, behind whatever was made. -/
structure IX (w W : World) (x : It) : Prop where
  blk : Blk W w.heap.size (cells x) 99
  bel : Below w.heap.size w W
theorem IX.of (w : World) (x : It) : IX w (w.alloc (.cells (cells x) 99)) x := ⟨Blk.new_ _ _ _, (Below.refl _ _).alloc (Nat.le_refl _) _⟩
theorem IX.below {w W W' : World} {x : It} (h : IX w W x) (hb : Below W.heap.size W W') : IX w W' x := ⟨h.blk.below hb, h.bel.trans (hb.mono h.bel.size)⟩
/-- An item and an error's number. -/
def ItE (x : It) (er : Int) (w : World) (e : Ending) (w' : World) : Prop := e = .returned (.tuple #[.agg (cells x), .int .i64 er]) ∧ Below w.heap.size w w'
theorem info_item : (Tryz.prog.info? 99).map (·.size) = some 8 := by kernel_rfl
theorem results_cell_tmp_row {P : Program} {fn : Func} {u p : Tmp} {ty : TypeId} (h : fn.results = #[.cell p ty, .tmp u]) (tmps : Array Value) (w : World) (g : Nat) (t : TypeId) (cs : Array Value) (fr : Nat × Nat) (d : TypeDesc)
    (hp : tmps.getD p undef = .pointer (some ⟨g, 0, none⟩)) (hg : w.heap[g]? = some (.cells cs t fr)) (hu : P.underlying ty = some d) (hd : (match d with | .struct _ | .array _ _ => true | _ => false) = true) (hi : (P.info? ty).map (·.size) = some cs.size) :
    (results fn tmps).run P w = .ok (.tuple #[.agg cs, tmps.getD u undef]) w := by
  have hp' : tmps[p]?.getD undef = .pointer (some ⟨g, 0, none⟩) := by simpa using hp
  simp [results, h, hp', asAddr, run_loadVar_row w g t ty cs fr d hg hu hd hi]
abbrev zer : Array Value := cells none_
theorem cells_one (x : It) : (cells x).all (·.oneCell') = true := by simp [cells, Value.oneCell']
theorem zer_one : zer.all (·.oneCell') = true := cells_one none_
theorem two_box (w : World) (cs cs' : Array Value) (t : TypeId) : Blk ((w.alloc (.cells cs t)).alloc (.cells cs' t)) w.heap.size cs t ∧ Blk ((w.alloc (.cells cs t)).alloc (.cells cs' t)) (w.heap.size + 1) cs' t ∧ Below w.heap.size w ((w.alloc (.cells cs t)).alloc (.cells cs' t)) := by
  refine ⟨(Blk.new_ w cs t).alloc _, ?_, ((Below.refl _ _).alloc (Nat.le_refl _) _).alloc (by simp) _⟩
  have := Blk.new_ (w.alloc (.cells cs t)) cs' t
  simpa using this
end Go.Proofs.YthbafcihmcjchaaGreatDoor.RingC
