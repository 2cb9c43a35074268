/- Layer 15's laws over the landed code. -/
import Derived.Test.YtpkajgabanjglaaNodeK
namespace Go.Proofs.Ytpkajgabanjglaa.NodeW
open Go.RowKit
open Go.Proofs.Ytpkajgabanjglaa.Byte Go.Proofs.Ytpkajgabanjglaa.NodeL Go.Proofs.Ytpkajgabanjglaa.NodeLa Go.Proofs.Ytpkajgabanjglaa.NodeK

theorem fixed_ok : FixOk := fixed_calls cut_ok blocks_ok
theorem puts_all (k l s p : Int) (w : World) (wk : (Lit.int .u8 k).wf = true) (wl : (Lit.int .u32 l).wf = true) (ws : (Lit.int .u32 s).wf = true) (wp : (Lit.int .u32 p).wf = true) :
    Calls Try.prog 3 #[.agg #[.int .u8 k, .int .u32 l, .int .u32 s, .int .u32 p]] w fun e w' => e = .returned (.bool true) ∧ Below w.heap.size w w' := by
  have h0 := bounds_u8 wk
  have h1 := bounds_u32 wl
  have h2 := bounds_u32 ws
  have h3 := bounds_u32 wp
  exact puts_law may_ok put_ok get_ok fixed_ok k l s p w (by omega) (by omega) (by omega) (by omega) (by omega) (by omega) (by omega) (by omega)
theorem gets_all (t : ByteArray) (w : World) (hn : t.size ≤ maxLen) : Calls Try.prog 4 #[.string t] w fun e w' => e = .returned (.bool true) ∧ Below w.heap.size w w' :=
  gets_law put_ok get_ok fixed_ok t w hn
theorem new_all (k p : Int) (w : World) (wk : (Lit.int .u8 k).wf = true) (wp : (Lit.int .u32 p).wf = true) : Calls Try.prog 5 #[.int .u8 k, .int .u32 p] w fun e w' => e = .returned (.bool true) ∧ Below w.heap.size w w' := by
  have h0 := bounds_u8 wk
  have h1 := bounds_u32 wp
  exact new_law may_ok new_ok root_ok fixed_ok k p w (by omega) (by omega) (by omega) (by omega)
theorem cuts_all (a n : Int) (w : World) (wa : (Lit.int .i64 a).wf = true) (wn : (Lit.int .i64 n).wf = true) : Calls Try.prog 6 #[.int .i64 a, .int .i64 n] w fun e w' => e = .returned (.bool true) ∧ Below w.heap.size w w' := by
  have h0 := bounds_i64 wa
  have h1 := bounds_i64 wn
  exact cuts_law cut_ok fixed_ok a n w (by omega) (by omega) (by omega) (by omega)
theorem blocks_all (n : Int) (w : World) (wn : (Lit.int .i64 n).wf = true) : Calls Try.prog 7 #[.int .i64 n] w fun e w' => e = .returned (.bool true) ∧ Below w.heap.size w w' := by
  have h1 := bounds_i64 wn
  exact blocks_law blocks_ok fixed_ok n w (by omega) (by omega)
end Go.Proofs.Ytpkajgabanjglaa.NodeW
