/- The plain mathematics of layer 7: items, whether one may be, its writing, its size. Names no program. -/
import Derived.Test.YthbafcihmcjchaaGreatDoorPackM
import Derived.Test.YthbafcihmcjchaaGreatDoorPlaceM
namespace Go.Proofs.YthbafcihmcjchaaGreatDoor.RingM
open Go.Proofs.YthbafcihmcjchaaGreatDoor.Byte Go.Proofs.YthbafcihmcjchaaGreatDoor.PackM Go.Proofs.YthbafcihmcjchaaGreatDoor.PlaceM

structure It where
  seq : Int
  ver : Int
  index : Int
  count : Int
  re : Nat
  im : Nat
  gone : Bool
  key : ByteArray
  value : ByteArray
/-- May an item be? -/
def mayP (x : It) : Prop := rt x.re = true ∧ rt x.im = true ∧ nm x.re ≤ 254 ∧ nm x.im ≤ 65535 ∧ (x.gone = true → x.value.size = 0) ∧ 1 ≤ x.key.size ∧ x.key.size ≤ 48 ∧ x.value.size ≤ 64 ∧ 1 ≤ x.count ∧ x.count ≤ 255 ∧ 0 ≤ x.index ∧ x.index < x.count
instance (x : It) : Decidable (mayP x) := by unfold mayP; exact inferInstance
def may (x : It) : Bool := decide (mayP x)
theorem may_yes {x : It} (h : may x = true) : mayP x := of_decide_eq_true h
theorem may_of {x : It} (h : mayP x) : may x = true := decide_eq_true h
/-- The ways in which one may not be, each with what comes ahead of it being right. -/
theorem may_ways {x : It} (h : may x = false) :
    rt x.re = false ∨ (rt x.re = true ∧ rt x.im = false) ∨
    ((rt x.re = true ∧ rt x.im = true) ∧
      (255 ≤ nm x.re ∨ (nm x.re ≤ 254 ∧ 65536 ≤ nm x.im) ∨
      ((nm x.re ≤ 254 ∧ nm x.im ≤ 65535) ∧
        ((x.gone = true ∧ x.value.size ≠ 0) ∨
        ((x.gone = false ∨ x.value.size = 0) ∧
          (x.key.size = 0 ∨ 48 < x.key.size ∨ ((1 ≤ x.key.size ∧ x.key.size ≤ 48) ∧
            (64 < x.value.size ∨ (x.value.size ≤ 64 ∧
              (x.count ≤ 0 ∨ 255 < x.count ∨ ((1 ≤ x.count ∧ x.count ≤ 255) ∧ (x.index < 0 ∨ (0 ≤ x.index ∧ x.count ≤ x.index))))))))))))) := by
  have h := of_decide_eq_false h
  unfold mayP at h
  cases h1 : rt x.re with
  | false => exact .inl rfl
  | true =>
    cases h2 : rt x.im with
    | false => exact .inr (.inl ⟨rfl, rfl⟩)
    | true =>
      refine .inr (.inr ⟨⟨rfl, rfl⟩, ?_⟩)
      cases h3 : x.gone with
      | false =>
        simp only [h1, h2, h3, true_and, Bool.false_eq_true, false_implies] at h
        rcases Int.lt_or_le 254 (nm x.re) with h4 | h4
        · exact .inl (by omega)
        rcases Int.lt_or_le 65535 (nm x.im) with h5 | h5
        · exact .inr (.inl ⟨h4, by omega⟩)
        refine .inr (.inr ⟨⟨h4, h5⟩, .inr ⟨.inl rfl, ?_⟩⟩)
        omega
      | true =>
        simp only [h1, h2, h3, true_and, forall_const] at h
        rcases Int.lt_or_le 254 (nm x.re) with h4 | h4
        · exact .inl (by omega)
        rcases Int.lt_or_le 65535 (nm x.im) with h5 | h5
        · exact .inr (.inl ⟨h4, by omega⟩)
        refine .inr (.inr ⟨⟨h4, h5⟩, ?_⟩)
        by_cases h6 : x.value.size = 0
        · refine .inr ⟨.inr h6, ?_⟩
          omega
        · exact .inl ⟨rfl, h6⟩
theorem empty_of {s : ByteArray} (h : s.size = 0) : s = ⟨#[]⟩ := by
  apply ByteArray.ext
  exact Array.eq_empty_of_size_eq_zero h
theorem some_of {s : ByteArray} (h : s.size ≠ 0) : s.toList.isEmpty = false := by
  rw [ByteArray.toList_eq]
  cases e : s.data.toList with
  | nil =>
    exfalso
    apply h
    show s.data.size = 0
    rw [← Array.length_toList, e]
    rfl
  | cons _ _ => rfl
/-- An item's writing. -/
def head (x : It) : List Int := low 8 x.seq ++ low 8 x.ver ++ low 1 x.index ++ low 1 x.count ++ low 1 (nm x.re) ++ low 2 (nm x.im) ++ [if x.gone then 1 else 0]
def writ (x : It) : List Int := head x ++ ((x.key.size : Int) :: txt x.key) ++ ((x.value.size : Int) :: txt x.value)
theorem head_len (x : It) : (head x).length = 22 := by simp [head, low_len]
theorem writ_len (x : It) : (writ x).length = 24 + x.key.size + x.value.size := by
  unfold writ
  rw [List.length_append, List.length_append, head_len, List.length_cons, List.length_cons, txt_len, txt_len]
  omega
def size (a b : Nat) : Int := if 48 < a ∨ 64 < b then 0 else 32 + a + b
end Go.Proofs.YthbafcihmcjchaaGreatDoor.RingM
