import Derived.Test.YtogdjbhjgbnicaaGreatDoorHo
import Derived.Test.YtogdjbhjgbnicaaGreatDoorOwn
import Derived.Test.YtogdjbhjgbnicaaGreatDoorByteS
set_option linter.unusedVariables false
namespace Go.Proofs.YtogdjbhjgbnicaaGreatDoor.Hor
open Go.RowKit Ho Byte
open Own (Blk)
section
variable {P : Program} {ops : Array Oper} {Q : Exit → Act → World → Prop} {md : Region.Mode} {S : World → Prop}
theorem ho_row (i : Nat) {oi : Oper} (ty : TypeId) (x y : Operand) (g : Nat) (cells : Array Value) (t : TypeId) (old : Array Value) {fuel : Nat} {listed : Array Bool} {a : Act} {w : World} (hi : ops[i]? = some oi) (hd : oi.dst = none) (ho : oi.op = .store ty x y) (hr : Region.ready md ops listed = [i]) (hw : Region.wanted oi (yielded ops a.tmps) = true)
 (hx : a.eval x = .pointer (some ⟨g,0,none⟩)) (hy : a.eval y = .agg cells) (hg : Blk w g old t) (hi2 : (P.info? ty).map (·.size) = some cells.size) (hold : old.size = cells.size) (h1 : cells.all (·.oneCell') = true)
 (hS : ∀ w',Blk w' g cells t → w.grownBy w' (some g) → S w') (h : ∀ w',Blk w' g cells t → w.grownBy w' (some g) → wpAnyH P md ops Q S fuel (listed.setIfInBounds i true) a w') : wpAnyH P md ops Q S (fuel + 1) listed a w := by
 refine ho_step i none hi hd hr hw (fun K hK => ?_)
 refine wp_store_row ty x y ho g cells hx hy t old hg hi2 hold h1 ?_
 have hb : Blk (w.setRow g cells) g cells t := setRow_heap w g old cells t (0,0) hg
 have hgr := grown_setRow w g cells
 exact hK.out undef _ (hS _ hb hgr) (fun _ => h _ hb hgr)
end
end Go.Proofs.YtogdjbhjgbnicaaGreatDoor.Hor