import Derived.StillTailTactics
import Derived.WalkKit
import Derived.WalkLawsBesides
import Derived.Deep.MidRow
set_option linter.unusedVariables false
set_option linter.unusedSimpArgs false
namespace Go.Proofs.YtogdjbhjgbnicaaGreatDoor.Still
open Go.RowKit
section
variable {P : Program} {ops : Array Oper} {w : World} {Q : Act → Prop} {a : Act} {o : Oper} {rest : List Oper}
structure WLeft (P : Program) (ops : Array Oper) (w : World) (Q : Act → Prop) (l : List Oper) (a : Act) : Prop where
 out : wpStill P ops w Q l a
theorem still_val (v : Value) (hw : Region.wanted o (yielded ops a.tmps) = true) (hr : (execOp a.eval o).run P w = .ok (.value v) w) (h : WLeft P ops w Q rest (a.put o.dst v)) : WLeft P ops w Q (o :: rest) a :=
 ⟨wpStill_step fun K hK => by
   rw [if_pos hw]
   unfold Oper.still
   rw [hr,Oper.stillUpon_value]
   exact hK _ h.out⟩
theorem still_end (h : Q a) : WLeft P ops w Q [] a := ⟨wpStill_nil h⟩
theorem still_conv {s t : TypeId} {x : Operand} {u v : Value} (ho : o.op = .convert s t x) (hx : a.eval x = u) (hr : (convert s t u).run P w = .ok v w) : (execOp a.eval o).run P w = .ok (.value v) w := by
 unfold execOp
 rw [ho]
 simp only [hx,Sem.run_bind,hr,Result.andThen_ok,Sem.run_pure]
theorem lit_drew {id : Nat} {Q : Exit → Act → World → Prop} {l : List Oper} (hm : P.follows .mixedOrders = true) (hB : Region.lexB .any l.toArray = true) (h : WLeft P l.toArray w.drew (fun a' => Q .normal a' w.drew) l a) : (Code.region id l.toArray true).wp P Q a w := wp_region_still_lit hm hB h.out
end
end Go.Proofs.YtogdjbhjgbnicaaGreatDoor.Still