/- Layer 10's laws over the landed code. -/
import Derived.Test.YtmbgbdhanobphaaTreeP
import Derived.Test.YtmbgbdhanobphaaTreeW
import Derived.Test.YtmbgbdhanobphaaTreeO
import Derived.Test.YtmbgbdhanobphaaTreeG
namespace Go.Proofs.Ytmbgbdhanobphaa.TreeZ
open Go.RowKit
open Go.Proofs.Ytmbgbdhanobphaa.Lst Go.Proofs.Ytmbgbdhanobphaa.TreeC Go.Proofs.Ytmbgbdhanobphaa.TreeL Go.Proofs.Ytmbgbdhanobphaa.TreeO Go.Proofs.Ytmbgbdhanobphaa.TreeG

theorem fixed_ok : FixOk := fixed_calls tr
theorem plays_all (A : Option Addr) (n c : Nat) (L : List Op10) (fr to : ByteArray) (w : World) (hl : Sl opE w A n L) (hn : n ≤ c) (hc : c ≤ maxLen) (hf : ∀ p ∈ L, fitOp p) (hfr : fr.size ≤ maxLen) (hto : to.size ≤ maxLen) :
    Calls Try.prog 3 #[.slice A n c, .string fr, .string to] w fun e w' => e = .returned (.bool true) ∧ Below w.heap.size w w' :=
  TreeP.plays_law tr fixed_ok A n c L fr to w hl hn hc hf hfr hto
theorem stays_all (A B : Option Addr) (n c n2 c2 : Nat) (L M : List Op10) (w : World) (hl : Sl opE w A n L) (hm : Sl opE w B n2 M) (hn : n ≤ c) (hc : c ≤ maxLen) (hn2 : n2 ≤ c2) (hc2 : c2 ≤ maxLen) (hf : ∀ p ∈ L, fitOp p) (hf2 : ∀ p ∈ M, fitOp p) :
    Calls Try.prog 4 #[.slice A n c, .slice B n2 c2] w fun e w' => e = .returned (.bool true) ∧ Below w.heap.size w w' :=
  TreeT.stays_law tr fixed_ok A B n c n2 c2 L M w hl hm hn hc hn2 hc2 hf hf2
theorem low_all (A : Option Addr) (n c : Nat) (L : List Op10) (ri : Int) (w : World) (hl : Sl opE w A n L) (hn : n ≤ c) (hc : c ≤ maxLen) (hf : ∀ p ∈ L, fitOp p) (h0 : 0 ≤ ri) (h1 : ri ≤ 65535) :
    Calls Try.prog 5 #[.slice A n c, .int .u16 ri] w fun e w' => e = .returned (.bool true) ∧ Below w.heap.size w w' :=
  TreeW.low_law tr fixed_ok A n c L ri w hl hn hc hf h0 h1
theorem order_all (A : Option Addr) (n c : Nat) (L : List ByteArray) (b : Int) (w : World) (hl : Sl stE w A n L) (hs : ∀ s ∈ L, s.size ≤ maxLen) (hn : n ≤ maxLen) (h0 : 0 ≤ b) (h1 : b ≤ 255) :
    Calls Try.prog 6 #[.slice A n c, .int .u8 b] w fun e w' => e = .returned (.bool true) ∧ Below w.heap.size w w' :=
  TreeO.order_law tr fixed_ok A n c L b w hl hs hn h0 h1
end Go.Proofs.Ytmbgbdhanobphaa.TreeZ
