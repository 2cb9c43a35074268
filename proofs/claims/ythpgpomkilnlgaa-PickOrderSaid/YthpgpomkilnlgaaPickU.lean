/- The plain mathematics of layer 11: the first of the least ones, told apart from all others; the least wear first, and then the age, is both at once. Names no program. -/
import Derived.Test.YthpgpomkilnlgaaPickN
namespace Go.Proofs.Ythpgpomkilnlgaa.PickU
set_option linter.unusedVariables false
set_option linter.unusedSimpArgs false
open Go.Proofs.Ythpgpomkilnlgaa.PickM Go.Proofs.Ythpgpomkilnlgaa.PickN

structure Weak (lt : Inf → Inf → Bool) : Prop where
  trans : ∀ x y z, lt x y = true → lt y z = true → lt x z = true
  neg : ∀ x y z, lt x z = true → lt x y = true ∨ lt y z = true
  irr : ∀ x, lt x x = false
theorem weak_older : Weak older := ⟨fun x y z => by unfold older; simp only [decide_eq_true_eq]; omega, fun x y z => by unfold older; simp only [decide_eq_true_eq]; omega, fun x => by unfold older; simp⟩
theorem weak_worn : Weak worn := ⟨fun x y z => by unfold worn; simp only [decide_eq_true_eq]; omega, fun x y z => by unfold worn; simp only [decide_eq_true_eq]; omega, fun x => by unfold worn; simp⟩
theorem weak_both : Weak both := ⟨fun x y z => by rw [both_iff, both_iff, both_iff]; omega, fun x y z => by rw [both_iff, both_iff, both_iff]; omega, fun x => by rw [both_not]; omega⟩
/-- The first one that none goes ahead of. -/
def First (p : Inf → Bool) (lt : Inf → Inf → Bool) (l : List Inf) (i : Nat) (x : Inf) : Prop := l[i]? = some x ∧ p x = true ∧ ∀ (j : Nat) (y : Inf), l[j]? = some y → p y = true → (j < i → lt x y = true) ∧ lt y x = false
theorem best_first {p : Inf → Bool} {lt : Inf → Inf → Bool} {l : List Inf} (hw : Weak lt) (k : Nat) (hk : k ≤ l.length) : ∀ {i x}, bestL p lt (l.take k) = some (i, x) → ∀ j y, j < k → l[j]? = some y → p y = true → (j < i → lt x y = true) ∧ lt y x = false := by
  induction k with
  | zero => intro i x h j y hj; omega
  | succ k ih =>
    intro i x h j y hj hy hp
    have hz : l[k]? = some l[k] := List.getElem?_eq_getElem (by omega)
    rw [best_next hz] at h
    cases hb : bestL p lt (l.take k) with
    | none =>
      rw [hb] at h
      split at h
      · injection h with h
        injection h with h1 h2
        rcases Nat.lt_or_eq_of_le (Nat.le_of_lt_succ hj) with h3 | h3
        · have := best_none k (by omega) hb j y h3 hy
          rw [hp] at this
          cases this
        · subst h3
          rw [hz] at hy
          injection hy with hy
          subst hy
          subst h2
          exact ⟨fun hc => by omega, hw.irr _⟩
      · cases h
    | some q =>
      obtain ⟨i', x'⟩ := q
      rw [hb] at h
      obtain ⟨a1, a2, a3⟩ := best_in k (by omega) hb
      split at h
      · rename_i ht
        injection h with h
        injection h with h1 h2
        subst h1
        subst h2
        unfold takes at ht
        rw [Bool.and_eq_true] at ht
        have hlt : lt l[k] x' = true := ht.2
        have key : j < k → lt l[k] y = true := by
          intro hj'
          have := (ih (by omega) hb j y hj' hy hp).2
          rcases hw.neg _ y _ hlt with h5 | h5
          · exact h5
          · rw [this] at h5; cases h5
        refine ⟨key, ?_⟩
        rcases Nat.lt_or_eq_of_le (Nat.le_of_lt_succ hj) with h3 | h3
        · have := key h3
          cases hc : lt y l[k] with
          | false => rfl
          | true =>
            have := hw.trans _ _ _ hc this
            rw [hw.irr] at this
            cases this
        · subst h3
          rw [hz] at hy
          injection hy with hy
          rw [hy]
          exact hw.irr _
      · rename_i ht
        injection h with h
        injection h with h1 h2
        subst h1
        subst h2
        rcases Nat.lt_or_eq_of_le (Nat.le_of_lt_succ hj) with h3 | h3
        · exact ih (by omega) hb j y h3 hy hp
        · subst h3
          rw [hz] at hy
          injection hy with hy
          subst hy
          refine ⟨fun hc => by omega, ?_⟩
          unfold takes at ht
          rw [hp] at ht
          simpa using ht
theorem best_gone {p : Inf → Bool} {lt : Inf → Inf → Bool} {l : List Inf} (h : ∀ x ∈ l, p x = false) : bestL p lt l = none := by
  cases hb : bestL p lt l with
  | none => rfl
  | some q =>
    obtain ⟨i, x⟩ := q
    rw [← List.take_length (l := l)] at hb
    obtain ⟨_, h1, h2⟩ := best_in _ (Nat.le_refl _) hb
    rw [h x (List.mem_of_getElem? h1)] at h2
    cases h2
theorem best_iff {p : Inf → Bool} {lt : Inf → Inf → Bool} {l : List Inf} (hw : Weak lt) {i : Nat} {x : Inf} : bestL p lt l = some (i, x) ↔ First p lt l i x := by
  constructor
  · intro h
    rw [← List.take_length (l := l)] at h
    obtain ⟨h1, h2, h3⟩ := best_in l.length (Nat.le_refl _) h
    exact ⟨h2, h3, fun j y hy hp => best_first hw _ (Nat.le_refl _) h j y (List.getElem?_eq_some_iff.1 hy).1 hy hp⟩
  · rintro ⟨h1, h2, h3⟩
    cases hb : bestL p lt l with
    | none =>
      rw [← List.take_length (l := l)] at hb
      have := best_none l.length (Nat.le_refl _) hb i x (List.getElem?_eq_some_iff.1 h1).1 h1
      rw [h2] at this
      cases this
    | some q =>
      obtain ⟨i', x'⟩ := q
      rw [← List.take_length (l := l)] at hb
      obtain ⟨a1, a2, a3⟩ := best_in l.length (Nat.le_refl _) hb
      have b1 := h3 i' x' a2 a3
      have b2 := best_first hw _ (Nat.le_refl _) hb i x (List.getElem?_eq_some_iff.1 h1).1 h1 h2
      rcases Nat.lt_trichotomy i i' with h4 | h4 | h4
      · have := b2.1 h4
        rw [b1.2] at this
        cases this
      · subst h4
        rw [h1] at a2
        injection a2 with a2
        rw [a2]
      · have := b1.1 h4
        rw [b2.2] at this
        cases this
theorem best_congr {p q : Inf → Bool} {lt : Inf → Inf → Bool} {l : List Inf} (hw : Weak lt) (h : ∀ x ∈ l, p x = q x) : bestL p lt l = bestL q lt l := by
  have key : ∀ {p q : Inf → Bool}, (∀ x ∈ l, p x = q x) → ∀ {i x}, bestL p lt l = some (i, x) → bestL q lt l = some (i, x) := by
    intro p q h i x hb
    rw [best_iff hw] at hb ⊢
    obtain ⟨h1, h2, h3⟩ := hb
    exact ⟨h1, by rw [← h x (List.mem_of_getElem? h1)]; exact h2, fun j y hy hp => h3 j y hy (by rw [h y (List.mem_of_getElem? hy)]; exact hp)⟩
  cases hb : bestL p lt l with
  | some q => obtain ⟨i, x⟩ := q; exact (key h hb).symm
  | none =>
    cases hc : bestL q lt l with
    | none => rfl
    | some r =>
      obtain ⟨i, x⟩ := r
      rw [key (fun x hx => (h x hx).symm) hc] at hb
      cases hb
/-- The least wear of those that may be erased; 0 of none. -/
def lowestL (l : List Inf) : Int := match bestL may worn l with | none => 0 | some q => q.2.wear
def lowP (lowest : Int) (x : Inf) : Bool := may x && decide (x.wear = lowest)
theorem low_both (l : List Inf) : bestL (lowP (lowestL l)) older l = bestL may both l := by
  cases ha : bestL may worn l with
  | none =>
    rw [← List.take_length (l := l)] at ha
    have hn : ∀ x ∈ l, may x = false := by
      intro x hx
      obtain ⟨j, hj, e⟩ := List.mem_iff_getElem.1 hx
      exact best_none _ (Nat.le_refl _) ha j x hj (by rw [List.getElem?_eq_getElem hj, e])
    rw [best_gone (p := may) (lt := both) hn, best_gone (fun x hx => by unfold lowP; rw [hn x hx]; rfl)]
  | some q =>
    obtain ⟨i0, x0⟩ := q
    have hlow : lowestL l = x0.wear := by unfold lowestL; rw [ha]
    obtain ⟨a1, a2, a3⟩ := (best_iff weak_worn).1 ha
    cases hb : bestL may both l with
    | none =>
      rw [← List.take_length (l := l)] at hb
      have := best_none _ (Nat.le_refl _) hb i0 x0 (List.getElem?_eq_some_iff.1 a1).1 a1
      rw [a2] at this
      cases this
    | some r =>
      obtain ⟨i, x⟩ := r
      obtain ⟨b1, b2, b3⟩ := (best_iff weak_both).1 hb
      have c1 := (a3 i x b1 b2).2
      have c2 := (b3 i0 x0 a1 a2).2
      rw [both_not] at c2
      unfold worn at c1
      rw [decide_eq_false_iff_not] at c1
      have hwx : x.wear = x0.wear := by omega
      rw [best_iff weak_older]
      refine ⟨b1, by unfold lowP; rw [b2, hlow, hwx]; simp, fun j y hy hp => ?_⟩
      unfold lowP at hp
      rw [Bool.and_eq_true, decide_eq_true_eq, hlow] at hp
      obtain ⟨d1, d2⟩ := b3 j y hy hp.1
      rw [both_not] at d2
      unfold older
      rw [decide_eq_true_eq, decide_eq_false_iff_not]
      refine ⟨fun hj => ?_, by have := hp.2; omega⟩
      have := (both_iff _ _).1 (d1 hj)
      have := hp.2
      omega
/-- The least wear of those that aren't held is not above that of any of them. -/
theorem least_le {l : List Inf} {x : Inf} (hx : x ∈ l) (hm : may x = true) : leastL l ≤ x.wear := by
  obtain ⟨j, hj, e⟩ := List.mem_iff_getElem.1 hx
  have hx' : l[j]? = some x := by rw [List.getElem?_eq_getElem hj, e]
  have hh : (!x.held) = true := by unfold may at hm; rw [Bool.and_eq_true] at hm; exact hm.2
  unfold leastL
  cases hb : bestL (fun x => !x.held) worn l with
  | none =>
    rw [← List.take_length (l := l)] at hb
    have := best_none _ (Nat.le_refl _) hb j x hj hx'
    rw [hh] at this
    cases this
  | some q =>
    obtain ⟨i, y⟩ := q
    obtain ⟨h1, h2, h3⟩ := (best_iff weak_worn).1 hb
    have := (h3 j x hx' hh).2
    unfold worn at this
    rw [decide_eq_false_iff_not] at this
    dsimp only
    omega
end Go.Proofs.Ythpgpomkilnlgaa.PickU
