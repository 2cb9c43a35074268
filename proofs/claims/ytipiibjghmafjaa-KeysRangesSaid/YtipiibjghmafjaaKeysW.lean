/- Layer 9's laws over the landed code. -/
import Derived.Test.YtipiibjghmafjaaKeysU
import Derived.Test.YtipiibjghmafjaaKeysD
import Derived.Test.YtipiibjghmafjaaKeysK
namespace Go.Proofs.Ytipiibjghmafjaa.KeysW
open Go.RowKit
open Go.Proofs.Ytipiibjghmafjaa.Byte Go.Proofs.Ytipiibjghmafjaa.KeysL Go.Proofs.Ytipiibjghmafjaa.KeysX Go.Proofs.Ytipiibjghmafjaa.KeysC Go.Proofs.Ytipiibjghmafjaa.KeysB Go.Proofs.Ytipiibjghmafjaa.KeysD Go.Proofs.Ytipiibjghmafjaa.KeysU

theorem fixed_ok : FixOk := fixed_calls entry_calls name_calls
theorem made_all (ino n : Int) (name : ByteArray) (w : World) (h0 : 0 ≤ ino) (h1 : ino ≤ 4294967295) (h2 : -9223372036854775808 ≤ n) (h3 : n ≤ 9223372036854775807) (hk : name.size ≤ maxLen) : Calls Try.prog 3 #[.int .u32 ino, .string name, .int .i64 n] w fun e w' => e = .returned (.bool true) ∧ Below w.heap.size w w' :=
  KeysK.made_law inode_calls entry_calls block_calls split_calls name_calls fixed_ok ino n name w h0 h1 h2 h3 hk
theorem split_all (key : ByteArray) (w : World) (hk : key.size ≤ maxLen) : Calls Try.prog 4 #[.string key] w fun e w' => e = .returned (.bool true) ∧ Below w.heap.size w w' :=
  split_law inode_calls entry_calls block_calls split_calls fixed_ok key w hk
theorem ranges_all (ino n : Int) (key : ByteArray) (w : World) (h0 : 0 ≤ ino) (h1 : ino ≤ 4294967295) (h2 : -9223372036854775808 ≤ n) (h3 : n ≤ 9223372036854775807) (hk : key.size ≤ maxLen) : Calls Try.prog 5 #[.int .u32 ino, .int .i64 n, .string key] w fun e w' => e = .returned (.bool true) ∧ Below w.heap.size w w' :=
  ranges_law fixed_ok entries_calls blocks_calls ino n key w h0 h1 h2 h3 hk
end Go.Proofs.Ytipiibjghmafjaa.KeysW
