/- Layer 11's laws over the landed code. -/
import Derived.Test.YthpgpomkilnlgaaPickT
import Derived.Test.YthpgpomkilnlgaaPickGb
namespace Go.Proofs.Ythpgpomkilnlgaa.PickZ
open Go.RowKit
open Go.Proofs.Ythpgpomkilnlgaa.Lst Go.Proofs.Ythpgpomkilnlgaa.PickM Go.Proofs.Ythpgpomkilnlgaa.PickR Go.Proofs.Ythpgpomkilnlgaa.PickA Go.Proofs.Ythpgpomkilnlgaa.PickGb

theorem ones_all (A : Option Addr) (n c : Nat) (L : List Inf) (w : World) (hl : Sl infE w A n L) (hn : n ≤ c) (hc : c ≤ maxLen) (hx : ∀ x ∈ L, fitX x) :
    Calls Try.prog 3 #[.slice A n c] w fun e w' => e = .returned (.bool true) ∧ Below w.heap.size w w' :=
  ones_law picks A n c L w hl hn hc hx
theorem order_all (A : Option Addr) (n c : Nat) (L : List Inf) (b : Int) (w : World) (hl : Sl infE w A n L) (hn : n ≤ c) (hc : c ≤ maxLen) (hx : ∀ x ∈ L, fitX x) (hb0 : 0 ≤ b) (hb1 : b ≤ 255) :
    Calls Try.prog 4 #[.slice A n c, .int .u8 b] w fun e w' => e = .returned (.bool true) ∧ Below w.heap.size w w' :=
  PickB.order_law picks A n c L b w hl hn hc hx hb0 hb1
theorem round_all (b t : Int) (w : World) (hb0 : 0 ≤ b) (hb1 : b ≤ 255) (ht0 : 0 ≤ t) (ht1 : t ≤ 65535) :
    Calls Try.prog 5 #[.int .u8 b, .int .u16 t] w fun e w' => e = .returned (.bool true) ∧ Below w.heap.size w w' :=
  PickT.round_law picks b t w hb0 hb1 ht0 ht1
end Go.Proofs.Ythpgpomkilnlgaa.PickZ
