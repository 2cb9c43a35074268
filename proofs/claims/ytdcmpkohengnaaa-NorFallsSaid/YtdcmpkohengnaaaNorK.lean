/- Operations in memory, and how many are gone through. -/
import Derived.Test.YtdcmpkohengnaaaNorJ
import Derived.Deep.MidRow
namespace Go.Proofs.Ytdcmpkohengnaaa.NorK
set_option linter.unusedVariables false
set_option linter.unusedSimpArgs false
open Go.RowKit Go.Maps
open Go.Proofs.Ytdcmpkohengnaaa.Byte Go.Proofs.Ytdcmpkohengnaaa.NorD Go.Proofs.Ytdcmpkohengnaaa.NorM Go.Proofs.Ytdcmpkohengnaaa.NorS

structure Opr where
  kind : Int
  se : Int
  off : Int
  B : Option Addr
  bl : Nat
  bc : Nat
  n : Int
  k : Int
  mask : Int
def Opr.cells (o : Opr) : Array Value := #[.int .i64 o.kind, .int .i64 o.se, .int .i64 o.off, .slice o.B o.bl o.bc, .int .i64 o.n, .int .i64 o.k, .int .u8 o.mask]
theorem info_op : (Try.prog.info? 40).map (·.size) = some 7 := by kernel_rfl
/-- Behind A stand m operations. -/
def OpsAt (w : World) (A : Option Addr) (m : Nat) (ops : Nat → Opr) : Prop :=
  ∀ j, j < m → ∃ b o, A = some ⟨b, o, none⟩ ∧ b < w.heap.size ∧ w.rangeAt b (o + j * 7) (ops j).cells.toList
theorem OpsAt.below {w w' : World} {A : Option Addr} {m : Nat} {ops : Nat → Opr} (h : OpsAt w A m ops) (hb : Below w.heap.size w w') : OpsAt w' A m ops := fun j hj => by
  obtain ⟨b, o, e, hlt, hc⟩ := h j hj
  exact ⟨b, o, e, Nat.lt_of_lt_of_le hlt hb.size, fun i v hv => (hb.cell (p := ⟨b, o + j * 7 + i, none⟩) hlt).trans (hc i v hv)⟩
set_option maxHeartbeats 1000000 in
theorem cut_calls (A : Option Addr) (m c : Nat) (ops : Nat → Opr) (w : World) (h : OpsAt w A m ops) (hm : m ≤ 9223372036854775807) (hc : m ≤ c) :
    Calls Try.prog 11 #[.slice A m c] w fun e w' => ∃ k, e = .returned (.slice A k c) ∧ k ≤ m ∧ k ≤ 60 ∧ (∀ j, j < k → (ops j).bl ≤ 6000) ∧ Below w.heap.size w w' := by
  have H := Lib.hid h
  clear h
  go_enter Try.func11, Try.ntmps11
  go_wp2
  go_loopw [3, 8] (fun s i wr => ∃ (j : Nat) (t : Int), j ≤ m ∧ j ≤ 60 ∧ s = .int .i64 t ∧ i = .int .i64 j ∧ 0 ≤ t ∧ t ≤ 6000 ∧ (∀ i, i < j → (ops i).bl ≤ 6000) ∧ Below w.heap.size w wr) (fun _ i _ => m - (intOf i).toNat)
  case atStart => exact ⟨0, 0, by omega, by omega, rfl, rfl, by omega, by omega, fun i hi => by omega, Below.refl _ _⟩
  case round =>
    obtain ⟨j, t, hj, hj6, rfl, rfl, ht0, ht1, hbl, hbel⟩ := hrel
    have HB := Lib.hid hbel
    have HL := Lib.hid hbl
    clear hbel hbl
    by_cases hlt : j < m
    · obtain ⟨b, o, hA, hbs, hcell⟩ := (H.out.below HB.out) j hlt
      subst hA
      obtain ⟨op, hop⟩ : ∃ op, ops j = op := ⟨_, rfl⟩
      rw [hop] at hcell
      obtain ⟨kd, se, off, B, bl, bc, n, k, mask⟩ := op
      have hbj : (ops j).bl = bl := by rw [hop]
      have HBJ := Lib.hid hbj
      have HC : Hid (wr.rangeAt b (o + j * 7) [.int .i64 kd, .int .i64 se, .int .i64 off, .slice B bl bc, .int .i64 n, .int .i64 k, .int .u8 mask]) := hcell
      clear hcell hop hbj
      have hm0 : 0 ≤ min (bl : Int) 90000 ∧ min (bl : Int) 90000 ≤ 90000 ∧ (min (bl : Int) 90000 = bl ∨ min (bl : Int) 90000 = 90000) := by omega
      obtain ⟨q, hq⟩ : ∃ q, min (bl : Int) 90000 = q := ⟨_, rfl⟩
      rw [hq] at hm0
      have hwr : IntKind.i64.wrap (t + q) = t + q := by rw [IntKind.wrap_i64]; omega
      have hbe : Below w.heap.size w (wr.alloc (.cells #[.int .i64 kd, .int .i64 se, .int .i64 off, .slice B bl bc, .int .i64 n, .int .i64 k, .int .u8 mask] 40)) := HB.out.alloc HB.out.size _
      have HB2 := Lib.hid hbe
      clear hbe
      rcases (show (60 : Int) ≤ (j : Int) ∨ ((j : Int) < 60 ∧ 6000 < t + q) ∨ ((j : Int) < 60 ∧ t + q ≤ 6000) by omega) with h6 | ⟨h6, h7⟩ | ⟨h6, h7⟩
      case' inl => have d0 : decide ((60 : Int) ≤ (j : Int)) = true := by simpa using h6
      case' inr.inl => have d0 : decide ((60 : Int) ≤ (j : Int)) = false := by simp; omega
      case' inr.inl => have d1 : decide ((6000 : Int) < t + q) = true := by simpa using h7
      case' inr.inr => have d0 : decide ((60 : Int) ≤ (j : Int)) = false := by simp; omega
      case' inr.inr => have d1 : decide ((6000 : Int) < t + q) = false := by simp; omega
      all_goals go_wp2_with ((with_reducible refine pick (some 12) ?_); refine wpList_load_mid rfl 40 _ rfl b (o + j * 7) rfl [.int .i64 kd, .int .i64 se, .int .i64 off, .slice B bl bc, .int .i64 n, .int .i64 k, .int .u8 mask] _ HC.out Try.underlying40 rfl info_op ?_)
      all_goals first
        | (go_ret; exact ⟨j, rfl, by omega, by omega, HL.out, HB2.out⟩)
        | skip
      go_roundw
      case rel => exact ⟨j + 1, t + q, by omega, by omega, rfl, by go_num, by omega, h7, fun i hi => (by
        rcases Nat.lt_or_eq_of_le (Nat.le_of_lt_succ hi) with h | h
        · exact HL.out i h
        · subst h
          rw [HBJ.out]
          omega), HB2.out⟩
      case measure => simp [intOf]; omega
    · obtain rfl : j = m := by omega
      go_wp2
      go_ret
      exact ⟨j, rfl, by omega, by omega, HL.out, HB.out⟩
end Go.Proofs.Ytdcmpkohengnaaa.NorK
