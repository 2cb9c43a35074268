/- Layer 16's laws over the landed code. -/
import Derived.Test.YtieegdbjmjpopaaDoorNamesK
namespace Go.Proofs.YtieegdbjmjpopaaDoor.NamesW
open Go.RowKit
open Go.Proofs.YtieegdbjmjpopaaDoor.Byte Go.Proofs.YtieegdbjmjpopaaDoor.Lst Go.Proofs.YtieegdbjmjpopaaDoor.Tx Go.Proofs.YtieegdbjmjpopaaDoor.NamesL Go.Proofs.YtieegdbjmjpopaaDoor.NamesK

theorem fixed_ok : FixOk := fixed_calls split_ok
theorem split_all (s : ByteArray) (w : World) (hn : s.size ≤ maxLen) (hx : Mx w) : Calls Tryd.prog 3 #[.string s] w fun e w' => e = .returned (.bool true) ∧ Below w.heap.size w w' :=
  split_law split_ok join_ok fixed_ok s w hn hx
/-- What is known of a row of texts that came in. -/
def Rd (w : World) (A : Option Addr) (n c : Nat) (L : List ByteArray) : Prop := n ≤ c ∧ c ≤ maxLen ∧ Sl txE w A n L ∧ (∀ p ∈ L, p.size ≤ 140737488351232) ∧ (A = none → c = 0) ∧ c * 16 ≤ 140737488351232
theorem join_all (A : Option Addr) (n c : Nat) (L : List ByteArray) (w : World) (h : Rd w A n c L) (hx : Mx w) : Calls Tryd.prog 4 #[.slice A n c] w fun e w' => e = .returned (.bool true) ∧ Below w.heap.size w w' :=
  join_law split_ok join_ok fixed_ok A n c L w h.2.2.1 h.1 (by have := h.1; have := h.2.2.2.2.2; omega) h.2.2.2.1 hx
theorem under_all (A B : Option Addr) (n c m c2 : Nat) (L M : List ByteArray) (w : World) (h : Rd w A n c L) (h2 : Rd w B m c2 M) (hx : Mx w) : Calls Tryd.prog 5 #[.slice A n c, .slice B m c2] w fun e w' => e = .returned (.bool true) ∧ Below w.heap.size w w' :=
  under_law under_ok fixed_ok A B n c m c2 L M w h.2.2.1 h2.2.2.1 h.2.2.2.2.1 h2.2.2.2.2.1 h.1 h2.1 (by have := h.1; have := h.2.2.2.2.2; omega) (by have := h2.1; have := h2.2.2.2.2.2; omega) hx
theorem rd_of {H : Type} {enc : TypeId × Value → H} {w : World} {base fuel : Nat} {cs : List Value} {x : DataW H × List MemPlace} (h : DataW.trod enc Tryd.prog w base (fun _ => true) true fuel 23 cs = some x) (hw : ∀ n ∈ x.1.weights Tryd.prog 23, n ≤ reachBytes) :
    ∃ A m c, ∃ L : List ByteArray, cs = [.slice A m c] ∧ Rd w A m c L := by
  obtain ⟨A, m, c, L, h1, h2⟩ := strs_reach h hw
  exact ⟨A, m, c, L, h1, h2⟩
theorem mx_of {w : World} (h : w.ShapedOpen Tryd.prog) : Mx w := NamesY.splitLay.s1_3 w h
end Go.Proofs.YtieegdbjmjpopaaDoor.NamesW
