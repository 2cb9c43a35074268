/- What layer 21's laws are handed, as the walks want it; ClashIs and ClashMore over the landed code. -/
import Derived.Test.YtlblfpacnegmlaaClashK
namespace Go.Proofs.Ytlblfpacnegmlaa.ClashX
set_option linter.unusedVariables false
set_option maxRecDepth 100000
open Go.RowKit Go.ChangeShapes Go.WideShapes Go.Deep Go.Maps
open Go.Proofs.Ytlblfpacnegmlaa.TreeM Go.Proofs.Ytlblfpacnegmlaa.Form Go.Proofs.Ytlblfpacnegmlaa.Lst Go.Proofs.Ytlblfpacnegmlaa.Args Go.Proofs.Ytlblfpacnegmlaa.Tx Go.Proofs.Ytlblfpacnegmlaa.TreeR Go.Proofs.Ytlblfpacnegmlaa.ViewR Go.Proofs.Ytlblfpacnegmlaa.ClashL Go.Proofs.Ytlblfpacnegmlaa.ClashK

instance : Inhabited Pr := ⟨⟨⟨#[]⟩, ⟨#[]⟩, false⟩⟩
instance : Inhabited (ByteArray × ByteArray) := ⟨⟨⟨#[]⟩, ⟨#[]⟩⟩⟩
/-- What is known of a row that came in. -/
def Rd {α : Type} (e : Enc α) (w : World) (A : Option Addr) (n c : Nat) (L : List α) : Prop := n ≤ c ∧ c ≤ maxLen ∧ Sl e w A n L ∧ (A = none → c = 0)
theorem pairs_of {H : Type} {enc : TypeId × Value → H} {w : World} {base fuel : Nat} {cs : List Value} {x : DataW H × List MemPlace} (h : DataW.trod enc Try.prog w base (fun _ => true) true fuel 24 cs = some x) :
    ∃ A m c, ∃ L : List Pr, cs = [.slice A m c] ∧ Rd prE w A m c L := by
  obtain ⟨A, m, c, L, h1, h2, h3, h4, _, h5⟩ := sl_of2 prE (fun _ => True) 4 Try.underlying24 (by kernel_rfl) (fun es hl hs => by
    match es, hl with
    | [c0, c1, c2], _ =>
      obtain ⟨k, e0, _⟩ := (hs.field Try.underlying49 0 _ rfl 1 (by kernel_rfl)).string Try.underlying9
      obtain ⟨v, e1, _⟩ := (hs.field Try.underlying49 1 _ rfl 1 (by kernel_rfl)).string Try.underlying9
      obtain ⟨g, e2⟩ := (hs.field Try.underlying49 2 _ rfl 1 (by kernel_rfl)).bool Try.underlying4
      simp at e0 e1 e2
      subst e0 e1 e2
      exact ⟨⟨k, v, g⟩, rfl, trivial⟩) h
  exact ⟨A, m, c, L, h1, h2, h3, h4, h5⟩
theorem twos_of {H : Type} {enc : TypeId × Value → H} {w : World} {base fuel : Nat} {cs : List Value} {x : DataW H × List MemPlace} (h : DataW.trod enc Try.prog w base (fun _ => true) true fuel 23 cs = some x) :
    ∃ A m c, ∃ L : List (ByteArray × ByteArray), cs = [.slice A m c] ∧ Rd rgE w A m c L := by
  obtain ⟨A, m, c, L, h1, h2, h3, h4, _, h5⟩ := sl_of2 rgE (fun _ => True) 4 Try.underlying23 (by kernel_rfl) (fun es hl hs => by
    match es, hl with
    | [c0, c1], _ =>
      obtain ⟨x, e0, _⟩ := (hs.elem Try.underlying47 0 (by decide) 1 (by kernel_rfl)).string Try.underlying9
      obtain ⟨y, e1, _⟩ := (hs.elem Try.underlying47 1 (by decide) 1 (by kernel_rfl)).string Try.underlying9
      simp at e0 e1
      subst e0 e1
      exact ⟨(x, y), rfl, trivial⟩) h
  exact ⟨A, m, c, L, h1, h2, h3, h4, h5⟩
/-- Texts that came in, none beyond what memory holds. -/
def RdT (w : World) (A : Option Addr) (n c : Nat) (L : List ByteArray) : Prop := n ≤ c ∧ c ≤ maxLen ∧ Sl txE w A n L ∧ (∀ p ∈ L, p.size ≤ 140737488351232) ∧ (A = none → c = 0) ∧ c * 16 ≤ 140737488351232
theorem texts_of {H : Type} {enc : TypeId × Value → H} {w : World} {base fuel : Nat} {cs : List Value} {x : DataW H × List MemPlace} (h : DataW.trod enc Try.prog w base (fun _ => true) true fuel 22 cs = some x) (hw : ∀ n ∈ x.1.weights Try.prog 22, n ≤ reachBytes) :
    ∃ A m c, ∃ L : List ByteArray, cs = [.slice A m c] ∧ RdT w A m c L := strs_reach h hw
theorem fixed_ok : FixOk := fixed_calls clash_ok
theorem is_all (A B C : Option Addr) (n c m c2 q c3 : Nat) (R : List ByteArray) (G : List (ByteArray × ByteArray)) (W : List Pr) (w : World) (hr : RdT w A n c R) (hg : Rd rgE w B m c2 G) (hw : Rd prE w C q c3 W) :
    Calls Try.prog 3 #[.slice A n c, .slice B m c2, .slice C q c3] w fun e w' => e = .returned (.bool true) ∧ Below w.heap.size w w' :=
  is_law clash_ok fixed_ok A B C n c m c2 q c3 R G W w hr.2.2.1 hg.2.2.1 hw.2.2.1 hr.2.2.2.1
theorem more_all (A M B C E : Option Addr) (n c nm cm m c2 q c3 k c4 : Nat) (R more : List ByteArray) (G : List (ByteArray × ByteArray)) (W others : List Pr) (w : World) (hr : RdT w A n c R) (hm : RdT w M nm cm more) (hg : Rd rgE w B m c2 G) (hw : Rd prE w C q c3 W) (ho : Rd prE w E k c4 others) :
    Calls Try.prog 4 #[.slice A n c, .slice M nm cm, .slice B m c2, .slice C q c3, .slice E k c4] w fun e w' => e = .returned (.bool true) ∧ Below w.heap.size w w' :=
  more_law clash_ok fixed_ok A M B C E n c nm cm m c2 q c3 k c4 R more G W others w hr.2.2.1 hm.2.2.1 hg.2.2.1 hw.2.2.1 ho.2.2.1 hr.2.2.2.1 hm.2.2.2.1 hr.2.2.2.2.1 hm.2.2.2.2.1 hw.2.2.2 ho.2.2.2
end Go.Proofs.Ytlblfpacnegmlaa.ClashX
