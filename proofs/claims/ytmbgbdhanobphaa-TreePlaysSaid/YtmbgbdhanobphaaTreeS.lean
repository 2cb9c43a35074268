/- Layer 10: the document's Same and Low; the law's cut. -/
import Derived.Test.YtmbgbdhanobphaaTreeR
import Derived.Deep.MidRow
import Derived.Deep.QuietTactic
import Derived.BigQuiet
namespace Go.Proofs.Ytmbgbdhanobphaa.TreeS
set_option linter.unusedVariables false
set_option linter.unusedSimpArgs false
open Go.RowKit
open Go.Proofs.Ytmbgbdhanobphaa.Byte Go.Proofs.Ytmbgbdhanobphaa.KeysM Go.Proofs.Ytmbgbdhanobphaa.TreeM Go.Proofs.Ytmbgbdhanobphaa.Own Go.Proofs.Ytmbgbdhanobphaa.Rw Go.Proofs.Ytmbgbdhanobphaa.Lst Go.Proofs.Ytmbgbdhanobphaa.TreeR

theorem drop_at {α : Type} {l : List α} {i : Nat} {x : α} (h : l[i]? = some x) : l.drop i = x :: l.drop (i + 1) := by
  obtain ⟨h1, rfl⟩ := List.getElem?_eq_some_iff.1 h
  exact (List.getElem_cons_drop h1).symm
theorem below_drewN' {b : Nat} {w wr : World} (h : Below b w wr) (n : Nat) : Below b w (wr.drewN n) := below_drewN h n
set_option maxHeartbeats 2000000 in
theorem refsame_calls (A B : Option Addr) (n c m d : Nat) (L M : List Pr) (w : World) (hl : Sl prE w A n L) (hm : Sl prE w B m M) (hn : n ≤ 100000) (hn2 : m ≤ 100000) (he : L = M) :
    Calls Try.prog 19 #[.slice A n c, .slice B m d] w fun e w' => e = .returned (.bool true) ∧ Below w.heap.size w w' := by
  subst he
  have hnm : m = n := hm.1.symm.trans hl.1
  subst hnm
  have HL := Lib.hid hl
  have HM := Lib.hid hm
  clear hl hm
  go_enter Try.func19, Try.ntmps19
  go_wp2
  go_loopw [13] (fun i wr => ∃ k : Nat, k ≤ m ∧ i = .int .i64 k ∧ Below w.heap.size w wr) (fun i _ => m - (intOf i).toNat)
  case atStart => exact ⟨0, Nat.zero_le _, rfl, Below.refl _ _⟩
  case round =>
    obtain ⟨k, hk, rfl, hbel⟩ := hrel
    by_cases hlt : k < m
    · obtain ⟨x, g, o, hx, rfl, hg, hc⟩ := (HL.out.below hbel).get k hlt
      obtain ⟨y, g2, o2, hy, rfl, hg2, hc2⟩ := (HM.out.below hbel).get k hlt
      obtain rfl : x = y := by rw [hx] at hy; injection hy
      obtain ⟨c0, c1, c2, hc3⟩ := pair_cells hc
      obtain ⟨d0, d1, d2, hd3⟩ := pair_cells hc2
      have HBL := Lib.hid hbel
      clear hc hc2 hx hy hbel
      go_wp2
      go_quiet (fail)
      go_wp2
      go_roundw
      case rel => exact ⟨k + 1, by omega, by go_num, below_drewN' HBL.out nq⟩
      case measure => simp [intOf]; omega
    · obtain rfl : k = m := by omega
      have HBL := Lib.hid hbel
      clear hbel
      go_wp2
      go_ret
      exact ⟨rfl, HBL.out⟩
/-- The greatest number of twos whose product is at most this. -/
def lowB (n h : Nat) : Bool := decide (h ≤ Nat.log2 ((n + 1) * (n + 1)) + 2)
set_option maxHeartbeats 1000000 in
theorem reflow_calls (n h : Nat) (w : World) (hn : n ≤ 100000) (hh : h ≤ 100000) :
    Calls Try.prog 24 #[.int .i64 n, .int .i64 h] w fun e w' => e = .returned (.bool (lowB n h)) ∧ w = w' := by
  obtain ⟨M, hM⟩ : ∃ M, (n + 1) * (n + 1) = M := ⟨_, rfl⟩
  have hM1 : ((n : Int) + 1) * ((n : Int) + 1) = (M : Int) := by rw [← hM]; simp
  have hM0 : 0 < M := by rw [← hM]; exact Nat.mul_pos (by omega) (by omega)
  have hM2 : M ≤ 10000200001 := by
    rw [← hM]
    exact Nat.mul_le_mul (show n + 1 ≤ 100001 by omega) (show n + 1 ≤ 100001 by omega)
  have hK1 : 2 ^ Nat.log2 M ≤ M := Nat.log2_self_le (by omega)
  have hK2 : M < 2 ^ (Nat.log2 M + 1) := Nat.lt_log2_self
  have HB : Hid (lowB n h = decide (h ≤ Nat.log2 M + 2)) := Lib.hid (by unfold lowB; rw [hM])
  obtain ⟨B, hB⟩ : ∃ B, lowB n h = B := ⟨_, rfl⟩
  rw [hB] at HB ⊢
  clear hB hM
  obtain ⟨K, hK⟩ : ∃ K, Nat.log2 M = K := ⟨_, rfl⟩
  rw [hK] at hK1 hK2 HB
  clear hK
  have HK1 := Lib.hid hK1
  have HK2 := Lib.hid hK2
  have hK40 : K ≤ 34 := by
    rcases Nat.lt_or_ge 34 K with h1 | h1
    · have := Nat.pow_le_pow_right (show 0 < 2 by omega) h1
      have e : (2 : Nat) ^ (34 + 1) = 34359738368 := by decide
      rw [Nat.succ_eq_add_one, e] at this
      omega
    · exact h1
  clear hK1 hK2
  go_enter Try.func24, Try.ntmps24
  go_wp2
  go_loop [5, 6] (fun k p => ∃ j P : Nat, j ≤ K ∧ k = .int .i64 j ∧ p = .int .i64 P ∧ Hid (P = 2 ^ j) ∧ P ≤ M) (fun k _ => K - (intOf k).toNat)
  case atStart => exact ⟨0, 1, Nat.zero_le _, rfl, rfl, Lib.hid rfl, by omega⟩
  case round =>
    obtain ⟨j, P, hj, rfl, rfl, HP, hPM⟩ := hrel
    by_cases hlt : j < K
    · have h2 : P * 2 ≤ M := by
        rw [HP.out, ← Nat.pow_succ]
        exact Nat.le_trans (Nat.pow_le_pow_right (by omega) hlt) HK1.out
      have h3 : ((P * 2 : Nat) : Int) ≤ M := by omega
      go_wp2
      go_round
      case rel => exact ⟨j + 1, P * 2, by omega, by go_num, by go_num, Lib.hid (by rw [HP.out, ← Nat.pow_succ]), h2⟩
      case measure => simp [intOf]; omega
    · obtain rfl : j = K := by omega
      have h2 : M < P * 2 := by
        rw [HP.out, ← Nat.pow_succ]
        exact HK2.out
      go_wp2
      go_ret
      refine ⟨ret_bool ?_, rfl⟩
      rw [HB.out]
      rw [Bool.eq_iff_iff]
      simp only [decide_eq_true_eq]
      omega
end Go.Proofs.Ytmbgbdhanobphaa.TreeS
