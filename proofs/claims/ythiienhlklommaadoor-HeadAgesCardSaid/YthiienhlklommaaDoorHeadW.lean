/- The contracts of the project's layer 5: what the laws' walks want of it. -/
import Derived.Test.YthiienhlklommaaDoorHeadP
import Derived.Test.YthiienhlklommaaDoorHeadN
namespace Go.Proofs.YthiienhlklommaaDoor.HeadW
open Go.RowKit
open Go.Proofs.YthiienhlklommaaDoor.Byte Go.Proofs.YthiienhlklommaaDoor.PackM Go.Proofs.YthiienhlklommaaDoor.PackV Go.Proofs.YthiienhlklommaaDoor.MayM Go.Proofs.YthiienhlklommaaDoor.HeadM Go.Proofs.YthiienhlklommaaDoor.HeadR Go.Proofs.YthiienhlklommaaDoor.HeadS

theorem of_calls (n z : Int) (w : World) : Calls Tryd.prog 7 #[.agg #[.int .i64 n, .int .i64 z]] w fun e w' => e = .returned (.agg ((hd n z).map (Value.int .u8)).toArray) ∧ Below w.heap.size w w' :=
  HeadV.of_calls n z w
theorem class_calls (n z : Int) (A : Option Addr) (m c : Nat) (xs : List Int) (w : World) (hb : Bs w A m xs) (hc : m ≤ c) : Calls Tryd.prog 13 #[.agg #[.int .i64 n, .int .i64 z], .slice A m c] w fun e w' => e = .returned (.int .i64 (cls n z xs)) ∧ Below w.heap.size w w' :=
  HeadP.class_calls n z A m c xs w hb hc
theorem death_calls (w : World) : Calls Tryd.prog 8 #[] w (Made (List.replicate 8 0) w) :=
  HeadV.death_calls w
theorem ages_calls (A : Option Addr) (n c : Nat) (xs : List Int) (w : World) (hb : Is w A n xs) (hn : n ≤ maxLen) : Calls Tryd.prog 15 #[.slice A n c] w fun e w' => (∃ lo hi : Int, e = .returned (.tuple #[.int .i64 lo, .int .i64 hi]) ∧ (n = 0 → lo = 0 ∧ hi = 0) ∧ (0 < n → lo ∈ xs ∧ hi ∈ xs ∧ ∀ x ∈ xs, lo ≤ x ∧ x ≤ hi)) ∧ Below w.heap.size w w' :=
  HeadN.ages_calls A n c xs w hb hn
end Go.Proofs.YthiienhlklommaaDoor.HeadW
