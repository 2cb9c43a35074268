/- The plain mathematics of layer 11: the first of the least ones among those that may be picked. Names no program. -/
namespace Go.Proofs.Ythpgpomkilnlgaa.PickM
set_option linter.unusedVariables false

/-- How a sector stands. -/
structure Inf where
  cls : Int
  opn : Bool
  wear : Int
  age : Int
  need : Int
  held : Bool
deriving DecidableEq, Inhabited
/-- The best one so far, with its number. -/
abbrev Bst := Option (Nat × Inf)
def takes (p : Inf → Bool) (lt : Inf → Inf → Bool) (b : Bst) (x : Inf) : Bool := p x && (match b with | none => true | some q => lt x q.2)
def stepB (p : Inf → Bool) (lt : Inf → Inf → Bool) (s : Nat × Bst) (x : Inf) : Nat × Bst := (s.1 + 1, if takes p lt s.2 x then some (s.1, x) else s.2)
def bestL (p : Inf → Bool) (lt : Inf → Inf → Bool) (l : List Inf) : Bst := (l.foldl (stepB p lt) (0, none)).2
theorem fold_len (p : Inf → Bool) (lt : Inf → Inf → Bool) (l : List Inf) : ∀ s, (l.foldl (stepB p lt) s).1 = s.1 + l.length := by
  induction l with
  | nil => intro s; rfl
  | cons x l ih =>
    intro s
    rw [List.foldl_cons, ih, List.length_cons]
    show s.1 + 1 + l.length = _
    omega
theorem take_next {α : Type} {l : List α} {i : Nat} {x : α} (h : l[i]? = some x) : l.take (i + 1) = l.take i ++ [x] := by
  rw [List.take_add_one, h]
  rfl
theorem best_next {l : List Inf} {i : Nat} {x : Inf} (h : l[i]? = some x) (p : Inf → Bool) (lt : Inf → Inf → Bool) :
    bestL p lt (l.take (i + 1)) = if takes p lt (bestL p lt (l.take i)) x then some (i, x) else bestL p lt (l.take i) := by
  have hi := (List.getElem?_eq_some_iff.1 h).1
  have hl : ((l.take i).foldl (stepB p lt) (0, none)).1 = i := by
    rw [fold_len, List.length_take]
    simp
    omega
  unfold bestL
  rw [take_next h, List.foldl_append]
  show (stepB p lt _ x).2 = _
  generalize (l.take i).foldl (stepB p lt) (0, none) = q at hl ⊢
  obtain ⟨q1, q2⟩ := q
  dsimp only at hl
  subst hl
  rfl
theorem best_zero (p : Inf → Bool) (lt : Inf → Inf → Bool) (l : List Inf) : bestL p lt (l.take 0) = none := rfl
theorem best_in {p : Inf → Bool} {lt : Inf → Inf → Bool} {l : List Inf} (k : Nat) (hk : k ≤ l.length) : ∀ {i x}, bestL p lt (l.take k) = some (i, x) → i < k ∧ l[i]? = some x ∧ p x = true := by
  induction k with
  | zero =>
    intro i x h
    rw [best_zero] at h
    cases h
  | succ k ih =>
    intro i x h
    have hy : l[k]? = some l[k] := List.getElem?_eq_getElem (by omega)
    rw [best_next hy] at h
    split at h
    · rename_i ht
      injection h with h
      injection h with h1 h2
      subst h1
      subst h2
      unfold takes at ht
      rw [Bool.and_eq_true] at ht
      exact ⟨by omega, hy, ht.1⟩
    · obtain ⟨h1, h2⟩ := ih (by omega) h
      exact ⟨by omega, h2⟩
theorem best_none {p : Inf → Bool} {lt : Inf → Inf → Bool} {l : List Inf} (k : Nat) (hk : k ≤ l.length) (h : bestL p lt (l.take k) = none) : ∀ j x, j < k → l[j]? = some x → p x = false := by
  induction k with
  | zero => intro j x hj; omega
  | succ k ih =>
    intro j x hj hx
    have hy : l[k]? = some l[k] := List.getElem?_eq_getElem (by omega)
    rw [best_next hy] at h
    split at h
    · cases h
    · rename_i ht
      rcases Nat.lt_or_eq_of_le (Nat.le_of_lt_succ hj) with h1 | h1
      · exact ih (by omega) h j x h1 hx
      · subst h1
        rw [hy] at hx
        injection hx with hx
        subst hx
        rw [h] at ht
        unfold takes at ht
        cases hp : p l[j] with
        | false => rfl
        | true => simp [hp] at ht
/-- No two of those that may be picked stand alike. -/
structure Sep (p : Inf → Bool) (lt : Inf → Inf → Bool) (l : List Inf) : Prop where
  two : ∀ (i j : Nat) (x y : Inf), l[i]? = some x → l[j]? = some y → p x = true → p y = true → i ≠ j → (lt x y = true ∧ lt y x = false) ∨ (lt y x = true ∧ lt x y = false)
  trans : ∀ x y z : Inf, lt x y = true → lt y z = true → lt x z = true
def Best (p : Inf → Bool) (lt : Inf → Inf → Bool) (l : List Inf) (i : Nat) (x : Inf) : Prop := l[i]? = some x ∧ p x = true ∧ ∀ (j : Nat) (y : Inf), l[j]? = some y → p y = true → j ≠ i → lt x y = true
theorem best_is {p : Inf → Bool} {lt : Inf → Inf → Bool} {l : List Inf} (hs : Sep p lt l) (k : Nat) (hk : k ≤ l.length) : ∀ {i x}, bestL p lt (l.take k) = some (i, x) → ∀ j y, j < k → l[j]? = some y → p y = true → j ≠ i → lt x y = true := by
  induction k with
  | zero => intro i x h j y hj; omega
  | succ k ih =>
    intro i x h j y hj hy hp hji
    have hz : l[k]? = some l[k] := List.getElem?_eq_getElem (by omega)
    rw [best_next hz] at h
    cases hb : bestL p lt (l.take k) with
    | none =>
      rw [hb] at h
      split at h
      · injection h with h
        injection h with h1 h2
        have := best_none k (by omega) hb j y (by omega) hy
        rw [hp] at this
        cases this
      · cases h
    | some q =>
      obtain ⟨i', x'⟩ := q
      rw [hb] at h
      obtain ⟨a1, a2, a3⟩ := best_in k (by omega) hb
      split at h
      · rename_i ht
        injection h with h
        injection h with h1 h2
        subst h1
        subst h2
        unfold takes at ht
        rw [Bool.and_eq_true] at ht
        have hlt : lt l[k] x' = true := ht.2
        by_cases e : j = i'
        · subst e
          rw [a2] at hy
          injection hy with hy
          subst hy
          exact hlt
        · exact hs.trans _ _ _ hlt (ih (by omega) hb j y (by omega) hy hp e)
      · rename_i ht
        injection h with h
        injection h with h1 h2
        subst h1
        subst h2
        by_cases e : j = k
        · subst e
          rw [hz] at hy
          injection hy with hy
          subst hy
          unfold takes at ht
          rw [hp] at ht
          have hf : lt l[j] x' = false := by simpa using ht
          rcases hs.two i' j x' l[j] a2 hz a3 hp (by omega) with h3 | h3
          · exact h3.1
          · rw [hf] at h3
            exact absurd h3.1 (by decide)
        · exact ih (by omega) hb j y (by omega) hy hp hji
theorem best_all {p : Inf → Bool} {lt : Inf → Inf → Bool} {l : List Inf} (hs : Sep p lt l) {i : Nat} {x : Inf} : bestL p lt l = some (i, x) ↔ Best p lt l i x := by
  have hl : l.take l.length = l := List.take_length
  constructor
  · intro h
    rw [← hl] at h
    obtain ⟨h1, h2, h3⟩ := best_in l.length (Nat.le_refl _) h
    exact ⟨h2, h3, fun j y hy hp hji => best_is hs l.length (Nat.le_refl _) h j y (List.getElem?_eq_some_iff.1 hy).1 hy hp hji⟩
  · rintro ⟨h1, h2, h3⟩
    cases hb : bestL p lt l with
    | none =>
      rw [← hl] at hb
      have := best_none l.length (Nat.le_refl _) hb i x (List.getElem?_eq_some_iff.1 h1).1 h1
      rw [h2] at this
      cases this
    | some q =>
      obtain ⟨i', x'⟩ := q
      have hb' := hb
      rw [← hl] at hb'
      obtain ⟨a1, a2, a3⟩ := best_in l.length (Nat.le_refl _) hb'
      by_cases e : i = i'
      · subst e
        rw [h1] at a2
        injection a2 with a2
        rw [a2]
      · have b1 := h3 i' x' a2 a3 (Ne.symm e)
        have b2 := best_is hs l.length (Nat.le_refl _) hb' i x (List.getElem?_eq_some_iff.1 h1).1 h1 h2 e
        rcases hs.two i i' x x' h1 a2 h2 a3 e with h4 | h4
        · rw [b2] at h4
          exact absurd h4.2 (by decide)
        · rw [b1] at h4
          exact absurd h4.2 (by decide)

/-! ### what is picked -/
def isBlank (x : Inf) : Bool := decide (x.cls = 0) && !x.held
def may (x : Inf) : Bool := !decide (x.cls = 0) && !x.opn && !x.held
def needless (x : Inf) : Bool := decide (x.need = 0) || decide (x.cls = 2)
def worn (x y : Inf) : Bool := decide (x.wear < y.wear)
def older (x y : Inf) : Bool := decide (x.age < y.age)
def both (x y : Inf) : Bool := if x.wear = y.wear then older x y else worn x y
def near (least : Int) (x : Inf) : Bool := decide (x.wear < least + 4)
def writeL (l : List Inf) : Bst := bestL isBlank worn l
def onceL (l : List Inf) : Bst := bestL (fun x => may x && needless x) worn l
def oldL (l : List Inf) : Bst := bestL may older l
def leastL (l : List Inf) : Int := match bestL (fun x => !x.held) worn l with | none => 0 | some q => q.2.wear
def pass0 (least : Int) (x : Inf) : Bool := may x && near least x && needless x
def pass1 (least : Int) (x : Inf) : Bool := may x && near least x
def orB (a b : Bst) : Bst := match a with | none => b | some q => some q
def eraseL (l : List Inf) : Bst := orB (bestL (pass0 (leastL l)) older l) (orB (bestL (pass1 (leastL l)) older l) (bestL may both l))
/-- A number; -1. -/
def num (b : Bst) : Int := match b with | none => -1 | some q => q.1
theorem num_bd {p : Inf → Bool} {lt : Inf → Inf → Bool} {l : List Inf} : -1 ≤ num (bestL p lt l) ∧ num (bestL p lt l) < l.length := by
  unfold num
  cases h : bestL p lt l with
  | none =>
    show (-1 : Int) ≤ -1 ∧ (-1 : Int) < _
    omega
  | some q =>
    obtain ⟨i, x⟩ := q
    have := best_in (p := p) (lt := lt) l.length (Nat.le_refl _) (by rw [List.take_length]; exact h)
    have h1 := this.1
    dsimp only
    omega
end Go.Proofs.Ythpgpomkilnlgaa.PickM
