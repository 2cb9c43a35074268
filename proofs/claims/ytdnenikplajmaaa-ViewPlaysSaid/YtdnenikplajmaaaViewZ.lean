/- Layer 14's laws over the landed code. -/
import Derived.Test.YtdnenikplajmaaaViewC
import Derived.Test.YtdnenikplajmaaaViewO
import Derived.Test.YtdnenikplajmaaaViewN
import Derived.Test.YtdnenikplajmaaaViewK
namespace Go.Proofs.Ytdnenikplajmaaa.ViewZ
open Go.RowKit
open Go.Proofs.Ytdnenikplajmaaa.Lst Go.Proofs.Ytdnenikplajmaaa.TreeM Go.Proofs.Ytdnenikplajmaaa.ViewR Go.Proofs.Ytdnenikplajmaaa.ViewB Go.Proofs.Ytdnenikplajmaaa.ViewO Go.Proofs.Ytdnenikplajmaaa.ViewK

theorem plays_all (A A2 : Option Addr) (n c n2 c2 : Nat) (L : List (ByteArray × ByteArray)) (M : List Op14) (w : World) (hl : Sl rgE w A n L) (hm : Sl oqE w A2 n2 M) (hn : n ≤ c) (hc : c ≤ maxLen) (hn2 : n2 ≤ c2) (hc2 : c2 ≤ maxLen) (hf : ∀ p ∈ L, fitTwo p) (hf2 : ∀ p ∈ M, fitOq p) :
    Calls Try.prog 3 #[.slice A n c, .slice A2 n2 c2] w fun e w' => e = .returned (.bool true) ∧ Below w.heap.size w w' := ViewP.plays_law views A A2 n c n2 c2 L M w hl hm hn hc hn2 hc2 hf hf2
theorem copies_all (A A2 A3 : Option Addr) (n c n2 c2 n3 c3 : Nat) (L : List (ByteArray × ByteArray)) (M N : List Op14) (w : World) (hl : Sl rgE w A n L) (hm : Sl oqE w A2 n2 M) (hm3 : Sl oqE w A3 n3 N) (hn : n ≤ c) (hc : c ≤ maxLen) (hn2 : n2 ≤ c2) (hc2 : c2 ≤ maxLen) (hn3 : n3 ≤ c3) (hc3 : c3 ≤ maxLen) (hf : ∀ p ∈ L, fitTwo p) (hf2 : ∀ p ∈ M, fitOq p) (hf3 : ∀ p ∈ N, fitOq p) :
    Calls Try.prog 4 #[.slice A n c, .slice A2 n2 c2, .slice A3 n3 c3] w fun e w' => e = .returned (.bool true) ∧ Below w.heap.size w w' := ViewC.copies_law views A A2 A3 n c n2 c2 n3 c3 L M N w hl hm hm3 hn hc hn2 hc2 hn3 hc3 hf hf2 hf3
theorem full_all (A : Option Addr) (n c : Nat) (L : List (ByteArray × ByteArray)) (b : Int) (w : World) (hl : Sl rgE w A n L) (hn : n ≤ c) (hc : c ≤ maxLen) (hf : ∀ p ∈ L, fitTwo p) (hb0 : 0 ≤ b) (hb1 : b ≤ 255) :
    Calls Try.prog 5 #[.slice A n c, .int .u8 b] w fun e w' => e = .returned (.bool true) ∧ Below w.heap.size w w' := ViewU.full_law views A n c L b w hl hn hc hf hb0 hb1
theorem nil_all (kind : Int) (key value : ByteArray) (w : World) :
    Calls Try.prog 6 #[.agg #[.int .i64 kind, .string key, .string value]] w fun e w' => e = .returned (.bool true) ∧ Below w.heap.size w w' := ViewN.nil_law views_nil (fun w => ViewP.fixed_is views w) kind key value w
theorem order_all (A A2 : Option Addr) (n c n2 c2 : Nat) (L : List (ByteArray × ByteArray)) (M : List ByteArray) (w : World) (hl : Sl rgE w A n L) (hm : Sl txE w A2 n2 M) (hn : n ≤ c) (hc : c ≤ maxLen) (hn2 : n2 ≤ c2) (hc2 : c2 ≤ maxLen) (hf : ∀ p ∈ L, fitTwo p) (hf2 : ∀ s ∈ M, s.size ≤ 140737488351232) :
    Calls Try.prog 7 #[.slice A n c, .slice A2 n2 c2] w fun e w' => e = .returned (.bool true) ∧ Below w.heap.size w w' := order_law views A A2 n c n2 c2 L M w hl hm hn hc hn2 hc2 hf hf2
end Go.Proofs.Ytdnenikplajmaaa.ViewZ
