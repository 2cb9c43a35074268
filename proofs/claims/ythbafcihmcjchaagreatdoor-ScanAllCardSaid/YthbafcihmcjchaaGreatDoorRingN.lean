/- The plain mathematics of layer 7, more: which item some bytes are. Names no program. -/
import Derived.Test.YthbafcihmcjchaaGreatDoorRingM
namespace Go.Proofs.YthbafcihmcjchaaGreatDoor.RingN
open Go.Proofs.YthbafcihmcjchaaGreatDoor.Byte Go.Proofs.YthbafcihmcjchaaGreatDoor.PackM Go.Proofs.YthbafcihmcjchaaGreatDoor.PlaceM Go.Proofs.YthbafcihmcjchaaGreatDoor.RingM

/-- The place of three bytes. -/
def gre (a b c : Int) : Nat := if a = 255 ∧ b = 255 ∧ c = 255 then 13830554455654793216 else wd a
def gim (a b c : Int) : Nat := if a = 255 ∧ b = 255 ∧ c = 255 then 0 else wd (256 * b + c)
/-- The item whose writing some bytes are, if they are one; the error's number. -/
def gitem (xs : List Int) : It := ⟨getn xs 0 8, getn xs 8 8, xs.getD 16 0, xs.getD 17 0, gre (xs.getD 18 0) (xs.getD 19 0) (xs.getD 20 0), gim (xs.getD 18 0) (xs.getD 19 0) (xs.getD 20 0), xs.getD 21 0 == 1, tx xs 22 48, tx xs (ti xs 22 48) 64⟩
def gerr (xs : List Int) : Int :=
  if xs.length < 22 then 3 else if 1 < xs.getD 21 0 then 2 else if te xs 22 48 ≠ 0 then te xs 22 48 else if te xs (ti xs 22 48) 64 ≠ 0 then te xs (ti xs 22 48) 64
  else if ti xs (ti xs 22 48) 64 ≠ xs.length then 2 else if may (gitem xs) = true then 0 else 1
def none_ : It := ⟨0, 0, 0, 0, 0, 0, false, ⟨#[]⟩, ⟨#[]⟩⟩
def gans (xs : List Int) : It := if gerr xs = 0 then gitem xs else none_
theorem ge_short {xs : List Int} (h : xs.length < 22) : gerr xs = 3 ∧ gans xs = none_ := by
  have e : gerr xs = 3 := if_pos h
  exact ⟨e, by unfold gans; rw [e]; rfl⟩
theorem ge_form {xs : List Int} (h : ¬ xs.length < 22) (h2 : 1 < xs.getD 21 0) : gerr xs = 2 ∧ gans xs = none_ := by
  have e : gerr xs = 2 := by unfold gerr; rw [if_neg h, if_pos h2]
  exact ⟨e, by unfold gans; rw [e]; rfl⟩
theorem ge_key {xs : List Int} (h : ¬ xs.length < 22) (h2 : ¬ 1 < xs.getD 21 0) (h3 : te xs 22 48 ≠ 0) : gerr xs = te xs 22 48 ∧ gans xs = none_ := by
  have e : gerr xs = te xs 22 48 := by unfold gerr; rw [if_neg h, if_neg h2, if_pos h3]
  exact ⟨e, by unfold gans; rw [e, if_neg h3]⟩
theorem ge_value {xs : List Int} (h : ¬ xs.length < 22) (h2 : ¬ 1 < xs.getD 21 0) (h3 : ¬ te xs 22 48 ≠ 0) (h4 : te xs (ti xs 22 48) 64 ≠ 0) : gerr xs = te xs (ti xs 22 48) 64 ∧ gans xs = none_ := by
  have e : gerr xs = te xs (ti xs 22 48) 64 := by unfold gerr; rw [if_neg h, if_neg h2, if_neg h3, if_pos h4]
  exact ⟨e, by unfold gans; rw [e, if_neg h4]⟩
theorem ge_left {xs : List Int} (h : ¬ xs.length < 22) (h2 : ¬ 1 < xs.getD 21 0) (h3 : ¬ te xs 22 48 ≠ 0) (h4 : ¬ te xs (ti xs 22 48) 64 ≠ 0) (h5 : ti xs (ti xs 22 48) 64 ≠ xs.length) : gerr xs = 2 ∧ gans xs = none_ := by
  have e : gerr xs = 2 := by unfold gerr; rw [if_neg h, if_neg h2, if_neg h3, if_neg h4, if_pos h5]
  exact ⟨e, by unfold gans; rw [e]; rfl⟩
theorem ge_arg {xs : List Int} (h : ¬ xs.length < 22) (h2 : ¬ 1 < xs.getD 21 0) (h3 : ¬ te xs 22 48 ≠ 0) (h4 : ¬ te xs (ti xs 22 48) 64 ≠ 0) (h5 : ¬ ti xs (ti xs 22 48) 64 ≠ xs.length) (h6 : may (gitem xs) = false) : gerr xs = 1 ∧ gans xs = none_ := by
  have e : gerr xs = 1 := by unfold gerr; rw [if_neg h, if_neg h2, if_neg h3, if_neg h4, if_neg h5, h6]; rfl
  exact ⟨e, by unfold gans; rw [e]; rfl⟩
theorem ge_ok {xs : List Int} (h : ¬ xs.length < 22) (h2 : ¬ 1 < xs.getD 21 0) (h3 : ¬ te xs 22 48 ≠ 0) (h4 : ¬ te xs (ti xs 22 48) 64 ≠ 0) (h5 : ¬ ti xs (ti xs 22 48) 64 ≠ xs.length) (h6 : may (gitem xs) = true) : gerr xs = 0 ∧ gans xs = gitem xs := by
  have e : gerr xs = 0 := by unfold gerr; rw [if_neg h, if_neg h2, if_neg h3, if_neg h4, if_neg h5, if_pos h6]
  exact ⟨e, by unfold gans; rw [if_pos e]⟩
theorem ti_bd {xs : List Int} {a m : Int} (h0 : ∀ x ∈ xs, 0 ≤ x ∧ x ≤ 255) (h : te xs a m = 0) : 0 ≤ a ∧ 0 ≤ ti xs a m ∧ ti xs a m ≤ xs.length := by
  have hy : 0 ≤ xs.getD a.toNat 0 := by
    rw [List.getD_eq_getElem?_getD]
    rcases Nat.lt_or_ge a.toNat xs.length with hk | hk
    · rw [List.getElem?_eq_getElem hk]
      exact (h0 _ (List.getElem_mem hk)).1
    · rw [List.getElem?_eq_none hk]
      simp
  have hi : ti xs a m = a + 1 + xs.getD a.toNat 0 := by
    unfold ti
    rw [h, if_neg (by decide)]
  unfold te at h
  split at h
  · rename_i h1
    exact absurd h h1
  · rename_i h1
    split at h
    · exact absurd h (by decide)
    · split at h
      · exact absurd h (by decide)
      · have ha : 0 ≤ a := by
          rcases Int.lt_or_le a 0 with h2 | h2
          · have := (g_arg xs a 1 (.inl h2)).2.2
            rw [this] at h1
            exact absurd (show (1 : Int) ≠ 0 by decide) h1
          · exact h2
        rw [hi]
        omega
theorem tx_size (xs : List Int) (a m : Int) : (tx xs a m).size ≤ xs.length := by
  unfold tx
  split
  · exact Nat.zero_le _
  · rw [str_size, List.length_take, List.length_drop]
    omega
end Go.Proofs.YthbafcihmcjchaaGreatDoor.RingN
