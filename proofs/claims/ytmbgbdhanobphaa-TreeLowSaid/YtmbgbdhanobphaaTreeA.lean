/- What layer 10's laws are handed, as the walks want it. -/
import Derived.Test.YtmbgbdhanobphaaArgs
import Derived.Test.YtmbgbdhanobphaaTreeO
namespace Go.Proofs.Ytmbgbdhanobphaa.TreeA
set_option linter.unusedVariables false
set_option maxRecDepth 100000
open Go.RowKit Go.ChangeShapes Go.WideShapes Go.Deep Go.Maps
open Go.Proofs.Ytmbgbdhanobphaa.Form Go.Proofs.Ytmbgbdhanobphaa.Lst Go.Proofs.Ytmbgbdhanobphaa.Args Go.Proofs.Ytmbgbdhanobphaa.TreeC Go.Proofs.Ytmbgbdhanobphaa.TreeO

instance : Inhabited Op10 := ⟨⟨0, 0, ⟨#[]⟩, ⟨#[]⟩⟩⟩
theorem op_form {es : List Value} (hl : es.length = opE.size) (h : Shp Try.prog 4 31 es) : ∃ p : Op10, es = opE.cells p ∧ fitOp p := by
  match es, hl with
  | [c0, c1, c2, c3], _ =>
    obtain ⟨kind, e0, w0⟩ := (h.field Try.underlying31 0 _ rfl 1 (by kernel_rfl)).int Try.underlying3
    obtain ⟨from_, e1, w1⟩ := (h.field Try.underlying31 1 _ rfl 1 (by kernel_rfl)).int Try.underlying29
    obtain ⟨key, e2, w2⟩ := (h.field Try.underlying31 2 _ rfl 1 (by kernel_rfl)).string Try.underlying9
    obtain ⟨value, e3, w3⟩ := (h.field Try.underlying31 3 _ rfl 1 (by kernel_rfl)).string Try.underlying9
    simp at e0 e1 e2 e3
    subst e0 e1 e2 e3
    have b0 := bounds_i64 w0
    have b1 := bounds_u16 w1
    exact ⟨⟨kind, from_, key, value⟩, rfl, b0, b1, w2, w3⟩
theorem ops_of {H : Type} {enc : TypeId × Value → H} {w : World} {base fuel : Nat} {cs : List Value} {x : DataW H × List MemPlace} (h : DataW.trod enc Try.prog w base (fun _ => true) true fuel 22 cs = some x) :
    ∃ A m c, ∃ L : List Op10, cs = [.slice A m c] ∧ m ≤ c ∧ c ≤ maxLen ∧ Sl opE w A m L ∧ ∀ p ∈ L, fitOp p :=
  sl_of opE fitOp 4 Try.underlying22 (by kernel_rfl) (fun es hl hs => op_form hl hs) h
theorem strs_of {H : Type} {enc : TypeId × Value → H} {w : World} {base fuel : Nat} {cs : List Value} {x : DataW H × List MemPlace} (h : DataW.trod enc Try.prog w base (fun _ => true) true fuel 52 cs = some x) :
    ∃ A m c, ∃ L : List ByteArray, cs = [.slice A m c] ∧ m ≤ c ∧ c ≤ maxLen ∧ Sl stE w A m L ∧ ∀ p ∈ L, p.size ≤ maxLen :=
  sl_of stE (fun p => p.size ≤ maxLen) 4 Try.underlying52 (by kernel_rfl) (fun es hl hs => by
    obtain ⟨s, rfl, h1⟩ := hs.string Try.underlying9
    exact ⟨s, rfl, h1⟩) h
end Go.Proofs.Ytmbgbdhanobphaa.TreeA
