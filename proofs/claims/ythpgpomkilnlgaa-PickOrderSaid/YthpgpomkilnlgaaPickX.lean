/- What layer 11's laws are handed, as the walks want it. -/
import Derived.Test.YthpgpomkilnlgaaArgs
import Derived.Test.YthpgpomkilnlgaaPickA
namespace Go.Proofs.Ythpgpomkilnlgaa.PickX
set_option linter.unusedVariables false
set_option maxRecDepth 100000
open Go.RowKit Go.ChangeShapes Go.WideShapes Go.Deep Go.Maps
open Go.Proofs.Ythpgpomkilnlgaa.Form Go.Proofs.Ythpgpomkilnlgaa.Lst Go.Proofs.Ythpgpomkilnlgaa.Args Go.Proofs.Ythpgpomkilnlgaa.PickM Go.Proofs.Ythpgpomkilnlgaa.PickR Go.Proofs.Ythpgpomkilnlgaa.PickA

instance : Inhabited Inf := ⟨⟨0, false, 0, 0, 0, false⟩⟩
theorem inf_form {es : List Value} (hl : es.length = infE.size) (h : Shp Try.prog 4 29 es) : ∃ p : Inf, es = infE.cells p ∧ fitX p := by
  match es, hl with
  | [c0, c1, c2, c3, c4, c5], _ =>
    obtain ⟨cls, e0, w0⟩ := (h.field Try.underlying29 0 _ rfl 1 (by kernel_rfl)).int Try.underlying3
    obtain ⟨opn, e1⟩ := (h.field Try.underlying29 1 _ rfl 1 (by kernel_rfl)).bool Try.underlying4
    obtain ⟨wear, e2, w2⟩ := (h.field Try.underlying29 2 _ rfl 1 (by kernel_rfl)).int Try.underlying3
    obtain ⟨age, e3, w3⟩ := (h.field Try.underlying29 3 _ rfl 1 (by kernel_rfl)).int Try.underlying27
    obtain ⟨need, e4, w4⟩ := (h.field Try.underlying29 4 _ rfl 1 (by kernel_rfl)).int Try.underlying3
    obtain ⟨held, e5⟩ := (h.field Try.underlying29 5 _ rfl 1 (by kernel_rfl)).bool Try.underlying4
    simp at e0 e1 e2 e3 e4 e5
    subst e0 e1 e2 e3 e4 e5
    exact ⟨⟨cls, opn, wear, age, need, held⟩, rfl, bounds_i64 w2⟩
theorem infs_of {H : Type} {enc : TypeId × Value → H} {w : World} {base fuel : Nat} {cs : List Value} {x : DataW H × List MemPlace} (h : DataW.trod enc Try.prog w base (fun _ => true) true fuel 22 cs = some x) :
    ∃ A m c, ∃ L : List Inf, cs = [.slice A m c] ∧ m ≤ c ∧ c ≤ maxLen ∧ Sl infE w A m L ∧ ∀ p ∈ L, fitX p :=
  sl_of infE fitX 4 Try.underlying22 (by kernel_rfl) (fun es hl hs => inf_form hl hs) h
end Go.Proofs.Ythpgpomkilnlgaa.PickX
