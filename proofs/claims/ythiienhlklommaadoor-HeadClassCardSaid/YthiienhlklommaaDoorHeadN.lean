/- The contract of the project's layer 5: Ages. -/
import Derived.Test.YthiienhlklommaaDoorHeadS
import Derived.Lib.MinMax
namespace Go.Proofs.YthiienhlklommaaDoor.HeadN
set_option linter.unusedVariables false
set_option linter.unusedSimpArgs false
open Go.RowKit
open Go.Proofs.YthiienhlklommaaDoor.Byte Go.Proofs.YthiienhlklommaaDoor.HeadS

/-- m stands among the numbers, and none is less (b), or greater. -/
def Top (b : Bool) (m : Int) (xs : List Int) : Prop := m ∈ xs ∧ ∀ x ∈ xs, if b then m ≤ x else x ≤ m
theorem Top.one (b : Bool) (xs : List Int) (h : 0 < xs.length) : Top b (xs.getD 0 0) (xs.take 1) := by
  cases xs with
  | nil => cases h
  | cons x xs => exact ⟨by simp, fun y hy => by simp at hy; subst hy; cases b <;> simp⟩
theorem take_next (xs : List Int) (k : Nat) (h : k < xs.length) : xs.take (k + 1) = xs.take k ++ [xs.getD k 0] := by
  rw [List.take_succ_eq_append_getElem h, List.getD_eq_getElem?_getD, List.getElem?_eq_getElem h]
  rfl
theorem Top.least {m : Int} {xs : List Int} {k : Nat} (h : Top true m (xs.take k)) (hk : k < xs.length) : Top true (min m (xs.getD k 0)) (xs.take (k + 1)) := by
  rw [take_next xs k hk]
  generalize xs.getD k 0 = x
  refine ⟨?_, fun y hy => ?_⟩
  · rcases Int.le_total m x with h1 | h1
    · rw [Int.min_eq_left h1]; exact List.mem_append.2 (.inl h.1)
    · rw [Int.min_eq_right h1]; simp
  · show min m x ≤ y
    rcases List.mem_append.1 hy with h1 | h1
    · have : m ≤ y := h.2 y h1
      omega
    · simp at h1
      omega
theorem Top.most {m : Int} {xs : List Int} {k : Nat} (h : Top false m (xs.take k)) (hk : k < xs.length) : Top false (max m (xs.getD k 0)) (xs.take (k + 1)) := by
  rw [take_next xs k hk]
  generalize xs.getD k 0 = x
  refine ⟨?_, fun y hy => ?_⟩
  · rcases Int.le_total m x with h1 | h1
    · rw [Int.max_eq_right h1]; simp
    · rw [Int.max_eq_left h1]; exact List.mem_append.2 (.inl h.1)
  · show y ≤ max m x
    rcases List.mem_append.1 hy with h1 | h1
    · have : y ≤ m := h.2 y h1
      omega
    · simp at h1
      omega
def Tops (b : Bool) (xs : List Int) (w : World) (e : Ending) (w' : World) : Prop := ∃ m : Int, e = .returned (.int .i64 m) ∧ Top b m xs ∧ w = w'
set_option maxHeartbeats 1000000 in
theorem min_calls (b o n c : Nat) (xs : List Int) (w : World) (hb : Is w (some ⟨b, o, none⟩) n xs) (h0 : 0 < n) (hn : n ≤ maxLen) : Calls Tryd.prog 22 #[.slice (some ⟨b, o, none⟩) n c] w (Tops true xs w) := by
  unfold maxLen at hn
  have HB := Lib.hid hb
  have hl : xs.length = n := hb.1
  have hc0 := hb.at_ 0 h0
  rw [Nat.add_zero] at hc0
  have HT0 := Lib.hid (Top.one true xs (by omega))
  generalize xs.getD 0 0 = x0 at hc0 HT0
  clear hb
  go_enter Tryd.func22, Tryd.ntmps22
  go_wp2
  go_loop [3, 4] (fun v i => ∃ (k : Nat) (m : Int), 0 < k ∧ k ≤ n ∧ i = .int .i64 k ∧ v = .int .i64 m ∧ Hid (Top true m (xs.take k))) (fun _ i => n - (intOf i).toNat)
  case atStart => exact ⟨1, _, by omega, by omega, rfl, rfl, HT0⟩
  case round =>
    obtain ⟨k, m, hk0, hk, rfl, rfl, HT⟩ := hrel
    clear hc0
    by_cases hlt : k < n
    · have hcell := HB.out.at_ k hlt
      have HT2 := Lib.hid (HT.out.least (by omega))
      generalize xs.getD k 0 = x at hcell HT2
      go_wp2
      go_round
      case rel => exact ⟨k + 1, _, by omega, by omega, by go_num, rfl, HT2⟩
      case measure => simp [intOf]; omega
    · have HT2 : Hid (Top true m xs) := Lib.hid (by
        have := HT.out
        rwa [List.take_of_length_le (by omega)] at this)
      go_wp2
      go_ret
      exact ⟨_, rfl, HT2.out, rfl⟩
set_option maxHeartbeats 1000000 in
theorem max_calls (b o n c : Nat) (xs : List Int) (w : World) (hb : Is w (some ⟨b, o, none⟩) n xs) (h0 : 0 < n) (hn : n ≤ maxLen) : Calls Tryd.prog 23 #[.slice (some ⟨b, o, none⟩) n c] w (Tops false xs w) := by
  unfold maxLen at hn
  have HB := Lib.hid hb
  have hl : xs.length = n := hb.1
  have hc0 := hb.at_ 0 h0
  rw [Nat.add_zero] at hc0
  have HT0 := Lib.hid (Top.one false xs (by omega))
  generalize xs.getD 0 0 = x0 at hc0 HT0
  clear hb
  go_enter Tryd.func23, Tryd.ntmps23
  go_wp2
  go_loop [3, 4] (fun v i => ∃ (k : Nat) (m : Int), 0 < k ∧ k ≤ n ∧ i = .int .i64 k ∧ v = .int .i64 m ∧ Hid (Top false m (xs.take k))) (fun _ i => n - (intOf i).toNat)
  case atStart => exact ⟨1, _, by omega, by omega, rfl, rfl, HT0⟩
  case round =>
    obtain ⟨k, m, hk0, hk, rfl, rfl, HT⟩ := hrel
    clear hc0
    by_cases hlt : k < n
    · have hcell := HB.out.at_ k hlt
      have HT2 := Lib.hid (HT.out.most (by omega))
      generalize xs.getD k 0 = x at hcell HT2
      go_wp2
      go_round
      case rel => exact ⟨k + 1, _, by omega, by omega, by go_num, rfl, HT2⟩
      case measure => simp [intOf]; omega
    · have HT2 : Hid (Top false m xs) := Lib.hid (by
        have := HT.out
        rwa [List.take_of_length_le (by omega)] at this)
      go_wp2
      go_ret
      exact ⟨_, rfl, HT2.out, rfl⟩
def AgesP (n : Nat) (xs : List Int) (w : World) (e : Ending) (w' : World) : Prop :=
  (∃ lo hi : Int, e = .returned (.tuple #[.int .i64 lo, .int .i64 hi]) ∧ (n = 0 → lo = 0 ∧ hi = 0) ∧ (0 < n → lo ∈ xs ∧ hi ∈ xs ∧ ∀ x ∈ xs, lo ≤ x ∧ x ≤ hi)) ∧ Below w.heap.size w w'
set_option maxHeartbeats 1000000 in
theorem ages_no (A : Option Addr) (c : Nat) (xs : List Int) (w : World) : Calls Tryd.prog 15 #[.slice A 0 c] w (AgesP 0 xs w) := by
  go_enter Tryd.func15, Tryd.ntmps15
  go_wp2
  go_ret2
  exact ⟨⟨0, 0, rfl, fun _ => ⟨rfl, rfl⟩, fun h => absurd h (by omega)⟩, Below.refl _ _⟩
set_option maxHeartbeats 1000000 in
theorem ages_yes (b o n c : Nat) (xs : List Int) (w : World) (hb : Is w (some ⟨b, o, none⟩) n xs) (h0 : 0 < n) (hn : n ≤ maxLen) : Calls Tryd.prog 15 #[.slice (some ⟨b, o, none⟩) n c] w (AgesP n xs w) := by
  have HL := Lib.hid (min_calls b o n c xs w hb h0 hn)
  have HM := Lib.hid (max_calls b o n c xs w hb h0 hn)
  have e1 : ((n : Int) == 0) = false := by simp; omega
  unfold maxLen at hn
  clear hb
  go_enter Tryd.func15, Tryd.ntmps15
  go_wp2_with fail
  refine HL.out.mono ?_
  rintro e w' ⟨lo, rfl, hlo, rfl⟩
  have HLO := Lib.hid hlo
  clear hlo
  go_wp2_with fail
  refine HM.out.mono ?_
  rintro e w' ⟨hi, rfl, hhi, rfl⟩
  have HHI := Lib.hid hhi
  clear hhi
  go_wp2_with fail
  go_ret2
  exact ⟨⟨lo, hi, rfl, fun h => absurd h (by omega), fun _ => ⟨HLO.out.1, HHI.out.1, fun x hx => ⟨HLO.out.2 x hx, HHI.out.2 x hx⟩⟩⟩, Below.refl _ _⟩
theorem ages_calls (A : Option Addr) (n c : Nat) (xs : List Int) (w : World) (hb : Is w A n xs) (hn : n ≤ maxLen) : Calls Tryd.prog 15 #[.slice A n c] w fun e w' => (∃ lo hi : Int, e = .returned (.tuple #[.int .i64 lo, .int .i64 hi]) ∧ (n = 0 → lo = 0 ∧ hi = 0) ∧ (0 < n → lo ∈ xs ∧ hi ∈ xs ∧ ∀ x ∈ xs, lo ≤ x ∧ x ≤ hi)) ∧ Below w.heap.size w w' := by
  rcases Nat.eq_zero_or_pos n with rfl | h0
  · exact ages_no A c xs w
  · obtain ⟨b, o, rfl, _, _⟩ := hb.2.2 0 h0
    exact ages_yes b o n c xs w hb h0 hn
end Go.Proofs.YthiienhlklommaaDoor.HeadN
