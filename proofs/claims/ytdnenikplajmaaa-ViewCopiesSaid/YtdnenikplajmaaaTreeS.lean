/- Layer 10: the document's Same and Low; the law's cut. -/
import Derived.Test.YtdnenikplajmaaaTreeR
import Derived.Deep.MidRow
import Derived.Deep.QuietTactic
import Derived.BigQuiet
namespace Go.Proofs.Ytdnenikplajmaaa.TreeS
set_option linter.unusedVariables false
set_option linter.unusedSimpArgs false
open Go.RowKit
open Go.Proofs.Ytdnenikplajmaaa.Byte Go.Proofs.Ytdnenikplajmaaa.KeysM Go.Proofs.Ytdnenikplajmaaa.TreeM Go.Proofs.Ytdnenikplajmaaa.Own Go.Proofs.Ytdnenikplajmaaa.Rw Go.Proofs.Ytdnenikplajmaaa.Lst Go.Proofs.Ytdnenikplajmaaa.TreeR

theorem drop_at {α : Type} {l : List α} {i : Nat} {x : α} (h : l[i]? = some x) : l.drop i = x :: l.drop (i + 1) := by
  obtain ⟨h1, rfl⟩ := List.getElem?_eq_some_iff.1 h
  exact (List.getElem_cons_drop h1).symm
theorem below_drewN' {b : Nat} {w wr : World} (h : Below b w wr) (n : Nat) : Below b w (wr.drewN n) := below_drewN h n
set_option maxRecDepth 100000 in
set_option maxHeartbeats 2000000 in
theorem refsame_calls (A B : Option Addr) (n c m d : Nat) (L M : List Pr) (w : World) (hl : Sl prE w A n L) (hm : Sl prE w B m M) (hn : n ≤ 100000) (hn2 : m ≤ 100000) (he : L = M) :
    Calls Try.prog 25 #[.slice A n c, .slice B m d] w fun e w' => e = .returned (.bool true) ∧ Below w.heap.size w w' := by
  subst he
  have hnm : m = n := hm.1.symm.trans hl.1
  subst hnm
  have HL := Lib.hid hl
  have HM := Lib.hid hm
  clear hl hm
  go_enter Try.func25, Try.ntmps25
  go_wp2
  go_loopw [13] (fun i wr => ∃ k : Nat, k ≤ m ∧ i = .int .i64 k ∧ Below w.heap.size w wr) (fun i _ => m - (intOf i).toNat)
  case atStart => exact ⟨0, Nat.zero_le _, rfl, Below.refl _ _⟩
  case round =>
    obtain ⟨k, hk, rfl, hbel⟩ := hrel
    by_cases hlt : k < m
    · obtain ⟨x, g, o, hx, rfl, hg, hc⟩ := (HL.out.below hbel).get k hlt
      obtain ⟨y, g2, o2, hy, rfl, hg2, hc2⟩ := (HM.out.below hbel).get k hlt
      obtain rfl : x = y := by rw [hx] at hy; injection hy
      obtain ⟨c0, c1, c2, hc3⟩ := pair_cells hc
      obtain ⟨d0, d1, d2, hd3⟩ := pair_cells hc2
      have HBL := Lib.hid hbel
      clear hc hc2 hx hy hbel
      go_wp2
      go_quiet (fail)
      go_wp2
      go_roundw
      case rel => exact ⟨k + 1, by omega, by go_num, below_drewN' HBL.out nq⟩
      case measure => simp [intOf]; omega
    · obtain rfl : k = m := by omega
      have HBL := Lib.hid hbel
      clear hbel
      go_wp2
      go_ret
      exact ⟨rfl, HBL.out⟩
/-- The greatest number of twos whose product is at most this. -/
def lowB (n h : Nat) : Bool := decide (h ≤ Nat.log2 ((n + 1) * (n + 1)) + 2)
end Go.Proofs.Ytdnenikplajmaaa.TreeS
