/- The plain mathematics of layer 11: sectors in another order; sectors written and erased in turn. Names no program. -/
import Derived.Test.YthpgpomkilnlgaaPickM
namespace Go.Proofs.Ythpgpomkilnlgaa.PickN
set_option linter.unusedVariables false
open Go.Proofs.Ythpgpomkilnlgaa.PickM

/-! ### another order -/
def rot (k : Nat) (l : List Inf) : List Inf := l.drop k ++ l.take k
theorem rot_len (k : Nat) (l : List Inf) (hk : k ≤ l.length) : (rot k l).length = l.length := by
  unfold rot
  rw [List.length_append, List.length_drop, List.length_take]
  omega
theorem rot_get {k : Nat} {l : List Inf} (hk : k < l.length) {j : Nat} (hj : j < l.length) : (rot k l)[j]? = l[(j + k) % l.length]? := by
  unfold rot
  rcases Nat.lt_or_ge j (l.length - k) with h | h
  · rw [List.getElem?_append_left (by rw [List.length_drop]; exact h), List.getElem?_drop, Nat.mod_eq_of_lt (by omega), Nat.add_comm]
  · rw [List.getElem?_append_right (by rw [List.length_drop]; exact h), List.length_drop, List.getElem?_take_of_lt (by omega)]
    have e : (j + k) % l.length = j - (l.length - k) := by
      rw [Nat.mod_eq_sub_mod (by omega), Nat.mod_eq_of_lt (by omega)]
      omega
    rw [e]
theorem back_there {n k i : Nat} (hk : k < n) (hi : i < n) : ((i + n - k) % n + k) % n = i := by
  rw [Nat.mod_add_mod, show i + n - k + k = i + n by omega, Nat.add_mod_right, Nat.mod_eq_of_lt hi]
theorem there_back {n k j : Nat} (hk : k < n) (hj : j < n) : ((j + k) % n + n - k) % n = j := by
  rcases Nat.lt_or_ge (j + k) n with h | h
  · rw [Nat.mod_eq_of_lt h, show j + k + n - k = j + n by omega, Nat.add_mod_right, Nat.mod_eq_of_lt hj]
  · rw [show (j + k) % n = j + k - n by rw [Nat.mod_eq_sub_mod h, Nat.mod_eq_of_lt (by omega)], show j + k - n + n - k = j by omega, Nat.mod_eq_of_lt hj]
theorem get_rot {k : Nat} {l : List Inf} (hk : k < l.length) {i : Nat} (hi : i < l.length) : (rot k l)[(i + l.length - k) % l.length]? = l[i]? := by
  rw [rot_get hk (Nat.mod_lt _ (by omega)), back_there hk hi]
theorem sep_rot {p : Inf → Bool} {lt : Inf → Inf → Bool} {k : Nat} {l : List Inf} (hk : k < l.length) (hs : Sep p lt l) : Sep p lt (rot k l) := by
  refine ⟨fun i j x y hx hy px py hij => ?_, hs.trans⟩
  have hi := (List.getElem?_eq_some_iff.1 hx).1
  have hj := (List.getElem?_eq_some_iff.1 hy).1
  rw [rot_len k l (by omega)] at hi hj
  rw [rot_get hk hi] at hx
  rw [rot_get hk hj] at hy
  refine hs.two _ _ x y hx hy px py fun e => hij ?_
  rw [← there_back hk hi, ← there_back hk hj, e]
theorem rot_best {p : Inf → Bool} {lt : Inf → Inf → Bool} {k : Nat} {l : List Inf} (hk : k < l.length) (hs : Sep p lt l) : bestL p lt l = (bestL p lt (rot k l)).map fun q => ((q.1 + k) % l.length, q.2) := by
  cases hb : bestL p lt (rot k l) with
  | none =>
    rw [Option.map_none]
    cases hc : bestL p lt l with
    | none => rfl
    | some q =>
      obtain ⟨i, x⟩ := q
      obtain ⟨h1, h2, _⟩ := (best_all hs).1 hc
      have hi := (List.getElem?_eq_some_iff.1 h1).1
      have hb' := hb
      rw [← List.take_length (l := rot k l)] at hb'
      have := best_none _ (Nat.le_refl _) hb' ((i + l.length - k) % l.length) x (by rw [rot_len k l (by omega)]; exact Nat.mod_lt _ (by omega)) (by rw [get_rot hk hi]; exact h1)
      rw [h2] at this
      cases this
  | some q =>
    obtain ⟨j, x⟩ := q
    obtain ⟨h1, h2, h3⟩ := (best_all (sep_rot hk hs)).1 hb
    have hj := (List.getElem?_eq_some_iff.1 h1).1
    rw [rot_len k l (by omega)] at hj
    rw [Option.map_some]
    refine (best_all hs).2 ⟨by rw [← rot_get hk hj]; exact h1, h2, fun i y hy hp hne => ?_⟩
    have hi := (List.getElem?_eq_some_iff.1 hy).1
    refine h3 ((i + l.length - k) % l.length) y (by rw [get_rot hk hi]; exact hy) hp fun e => hne ?_
    rw [← e, back_there hk hi]
/-- No two have the same wear or age. -/
def Dist (l : List Inf) : Prop := ∀ (i j : Nat) (x y : Inf), l[i]? = some x → l[j]? = some y → i ≠ j → x.wear ≠ y.wear ∧ x.age ≠ y.age
theorem sep_worn {l : List Inf} (h : Dist l) (p : Inf → Bool) : Sep p worn l :=
  ⟨fun i j x y hx hy _ _ hij => by
    have := (h i j x y hx hy hij).1
    unfold worn
    simp only [decide_eq_true_eq, decide_eq_false_iff_not]
    omega, fun x y z => by
    unfold worn
    simp only [decide_eq_true_eq]
    omega⟩
theorem sep_older {l : List Inf} (h : Dist l) (p : Inf → Bool) : Sep p older l :=
  ⟨fun i j x y hx hy _ _ hij => by
    have := (h i j x y hx hy hij).2
    unfold older
    simp only [decide_eq_true_eq, decide_eq_false_iff_not]
    omega, fun x y z => by
    unfold older
    simp only [decide_eq_true_eq]
    omega⟩
theorem both_iff (x y : Inf) : both x y = true ↔ (x.wear < y.wear ∨ (x.wear = y.wear ∧ x.age < y.age)) := by
  unfold both older worn
  split
  · rw [decide_eq_true_eq]
    omega
  · rw [decide_eq_true_eq]
    omega
theorem both_not (x y : Inf) : both x y = false ↔ ¬ (x.wear < y.wear ∨ (x.wear = y.wear ∧ x.age < y.age)) := by
  rw [← both_iff, Bool.not_eq_true]
theorem sep_both {l : List Inf} (h : Dist l) (p : Inf → Bool) : Sep p both l :=
  ⟨fun i j x y hx hy _ _ hij => by
    have := (h i j x y hx hy hij).1
    rw [both_iff, both_iff, both_not, both_not]
    omega, fun x y z => by
    rw [both_iff, both_iff, both_iff]
    omega⟩
def moved (n k : Nat) (b : Bst) : Bst := b.map fun q => ((q.1 + k) % n, q.2)
theorem rot_write {l : List Inf} {k : Nat} (hk : k < l.length) (h : Dist l) : writeL l = moved l.length k (writeL (rot k l)) := rot_best hk (sep_worn h _)
theorem rot_once {l : List Inf} {k : Nat} (hk : k < l.length) (h : Dist l) : onceL l = moved l.length k (onceL (rot k l)) := rot_best hk (sep_worn h _)
theorem rot_old {l : List Inf} {k : Nat} (hk : k < l.length) (h : Dist l) : oldL l = moved l.length k (oldL (rot k l)) := rot_best hk (sep_older h _)
theorem rot_least {l : List Inf} {k : Nat} (hk : k < l.length) (h : Dist l) : leastL l = leastL (rot k l) := by
  unfold leastL
  rw [rot_best hk (sep_worn h _)]
  cases bestL (fun x => !x.held) worn (rot k l) <;> rfl
theorem moved_or (n k : Nat) (a b : Bst) : moved n k (orB a b) = orB (moved n k a) (moved n k b) := by
  cases a <;> rfl
theorem rot_erase {l : List Inf} {k : Nat} (hk : k < l.length) (h : Dist l) : eraseL l = moved l.length k (eraseL (rot k l)) := by
  unfold eraseL
  rw [moved_or, moved_or, ← rot_least hk h]
  unfold moved
  rw [← rot_best hk (sep_older h _), ← rot_best hk (sep_older h _), ← rot_best hk (sep_both h _)]

/-- What is looked at in pass n, and what stands ahead there. -/
def passN (least : Int) (n : Nat) (x : Inf) : Bool := if n = 0 then pass0 least x else if n = 1 then pass1 least x else may x
def ltN (n : Nat) (x y : Inf) : Bool := if n = 2 then both x y else older x y
/-- The passes from number n on. -/
def fromN (l : List Inf) (n : Nat) : Bst := if n = 0 then eraseL l else if n = 1 then orB (bestL (pass1 (leastL l)) older l) (bestL may both l) else if n = 2 then bestL may both l else none
theorem from_next (l : List Inf) (n : Nat) (hn : n < 3) : fromN l n = orB (bestL (passN (leastL l) n) (ltN n) l) (fromN l (n + 1)) := by
  match n, hn with
  | 0, _ => rfl
  | 1, _ => rfl
  | 2, _ =>
    show bestL may both l = orB (bestL may both l) none
    cases bestL may both l <;> rfl
/-- What the least wear is, as it is sought. -/
def leastB (b : Bst) : Int := match b with | none => 0 | some q => q.2.wear
theorem least_b (l : List Inf) : leastL l = leastB (bestL (fun x => !x.held) worn l) := rfl

/-! ### in turn -/
/-- Sector i, when all have been erased q times less one, and r of them once more; B: how many turns that were, ahead of these r. -/
def st (N B q r i : Nat) : Inf :=
  if i < r then ⟨1, false, q, B + i + 1, 0, false⟩ else if q = 0 then ⟨0, false, 0, 0, 0, false⟩ else ⟨1, false, q - 1, B - N + i + 1, 0, false⟩
def stL (N B q r : Nat) : List Inf := (List.range N).map (st N B q r)
theorem stL_len (N B q r : Nat) : (stL N B q r).length = N := by simp [stL]
theorem stL_get (N B q r i : Nat) (hi : i < N) : (stL N B q r)[i]? = some (st N B q r i) := by
  unfold stL
  rw [List.getElem?_map, List.getElem?_range hi]
  rfl
theorem stL_at {N B q r i : Nat} {x : Inf} (h : (stL N B q r)[i]? = some x) : i < N ∧ x = st N B q r i := by
  have hi := (List.getElem?_eq_some_iff.1 h).1
  rw [stL_len] at hi
  rw [stL_get N B q r i hi] at h
  injection h with h
  exact ⟨hi, h.symm⟩
/-- Ahead of the first erase the first one that is blank is written. -/
theorem turn_write (N r : Nat) (hr : r < N) : writeL (stL N 0 0 r) = some (r, st N 0 0 r r) := by
  have key : ∀ j, j ≤ N → bestL isBlank worn ((stL N 0 0 r).take j) = if j ≤ r then none else some (r, st N 0 0 r r) := by
    intro j
    induction j with
    | zero =>
      intro _
      rw [if_pos (by omega)]
      exact best_zero _ _ _
    | succ j ih =>
      intro hj
      rw [best_next (stL_get N 0 0 r j (by omega)), ih (by omega)]
      rcases Nat.lt_trichotomy j r with h | h | h
      · rw [if_pos (show j ≤ r by omega), if_pos (show j + 1 ≤ r by omega)]
        have : takes isBlank worn none (st N 0 0 r j) = false := by simp [takes, isBlank, st, h]
        rw [this]
        rfl
      · subst h
        rw [if_pos (show j ≤ j by omega), if_neg (show ¬ j + 1 ≤ j by omega)]
        have : takes isBlank worn none (st N 0 0 j j) = true := by simp [takes, isBlank, st]
        rw [this]
        rfl
      · rw [if_neg (show ¬ j ≤ r by omega), if_neg (show ¬ j + 1 ≤ r by omega)]
        have : takes isBlank worn (some (r, st N 0 0 r r)) (st N 0 0 r j) = false := by simp [takes, isBlank, st, worn, show ¬ j < r by omega]
        rw [this]
        rfl
  have h := key N (Nat.le_refl _)
  rw [if_neg (by omega), List.take_of_length_le (by rw [stL_len]; exact Nat.le_refl _)] at h
  exact h
theorem st_later {N B q r i : Nat} (hq : 0 < q) : (st N B q r i).cls = 1 ∧ (st N B q r i).opn = false ∧ (st N B q r i).need = 0 ∧ (st N B q r i).held = false ∧ (q : Int) - 1 ≤ (st N B q r i).wear ∧ (st N B q r i).wear ≤ q := by
  unfold st
  split
  · refine ⟨rfl, rfl, rfl, rfl, ?_, ?_⟩ <;> dsimp only <;> omega
  · rw [if_neg (by omega)]
    refine ⟨rfl, rfl, rfl, rfl, ?_, ?_⟩ <;> dsimp only <;> omega
/-- Afterwards none is blank. -/
theorem turn_none {N B q r : Nat} (hq : 0 < q) : writeL (stL N B q r) = none := by
  unfold writeL
  cases hb : bestL isBlank worn (stL N B q r) with
  | none => rfl
  | some p =>
    obtain ⟨i, x⟩ := p
    rw [← List.take_length (l := stL N B q r)] at hb
    obtain ⟨_, h1, h2⟩ := best_in _ (Nat.le_refl _) hb
    obtain ⟨_, rfl⟩ := stL_at h1
    have := (st_later (N := N) (B := B) (r := r) (i := i) hq).1
    unfold isBlank at h2
    rw [this] at h2
    simp at h2
theorem turn_least {N B q r : Nat} (hN : 0 < N) (hq : 0 < q) : (q : Int) - 1 ≤ leastL (stL N B q r) := by
  unfold leastL
  cases hb : bestL (fun x => !x.held) worn (stL N B q r) with
  | none =>
    have hb' := hb
    rw [← List.take_length (l := stL N B q r)] at hb'
    have := best_none _ (Nat.le_refl _) hb' 0 _ (by rw [stL_len]; exact hN) (stL_get N B q r 0 hN)
    rw [(st_later hq).2.2.2.1] at this
    cases this
  | some p =>
    obtain ⟨i, x⟩ := p
    rw [← List.take_length (l := stL N B q r)] at hb
    obtain ⟨_, h1, h2⟩ := best_in _ (Nat.le_refl _) hb
    obtain ⟨_, rfl⟩ := stL_at h1
    exact (st_later hq).2.2.2.2.1
theorem st_age {N B q r i : Nat} (hq : 0 < q) (hB : N ≤ B) : (st N B q r i).age = if i < r then (B : Int) + i + 1 else (B : Int) - N + i + 1 := by
  unfold st
  split
  · rfl
  · rw [if_neg (by omega)]
theorem turn_erase {N B q r : Nat} (hr : r < N) (hq : 0 < q) (hB : N ≤ B) : eraseL (stL N B q r) = some (r, st N B q r r) := by
  have hl := turn_least (B := B) (r := r) (show 0 < N by omega) hq
  have hall : ∀ i, pass0 (leastL (stL N B q r)) (st N B q r i) = true := fun i => by
    obtain ⟨h1, h2, h3, h4, h5, h6⟩ := st_later (N := N) (B := B) (r := r) (i := i) hq
    unfold pass0 may near needless
    rw [h1, h2, h3, h4]
    have : (st N B q r i).wear < leastL (stL N B q r) + 4 := by omega
    simp [this]
  have hs : Sep (pass0 (leastL (stL N B q r))) older (stL N B q r) := by
    refine ⟨fun i j x y hx hy _ _ hij => ?_, fun x y z => ?_⟩
    · obtain ⟨hi, rfl⟩ := stL_at hx
      obtain ⟨hj, rfl⟩ := stL_at hy
      unfold older
      rw [st_age hq hB, st_age hq hB]
      simp only [decide_eq_true_eq, decide_eq_false_iff_not]
      split <;> split <;> omega
    · unfold older
      simp only [decide_eq_true_eq]
      omega
  have hb : bestL (pass0 (leastL (stL N B q r))) older (stL N B q r) = some (r, st N B q r r) := by
    refine (best_all hs).2 ⟨stL_get N B q r r hr, hall r, fun j y hy _ hne => ?_⟩
    obtain ⟨hj, rfl⟩ := stL_at hy
    unfold older
    rw [st_age hq hB, st_age hq hB]
    simp only [decide_eq_true_eq]
    rw [if_neg (by omega)]
    split <;> omega
  unfold eraseL
  rw [hb]
  rfl
/-- What a turn leaves. -/
theorem turn_next {N B q r : Nat} (hr : r < N) (i : Nat) : st N B q (r + 1) i = if i = r then ⟨1, false, q, B + r + 1, 0, false⟩ else st N B q r i := by
  unfold st
  by_cases h : i = r
  · subst h
    rw [if_pos (show i < i + 1 by omega), if_pos rfl]
  · rw [if_neg h]
    rcases Nat.lt_or_ge i r with h1 | h1
    · rw [if_pos (show i < r + 1 by omega), if_pos h1]
    · rw [if_neg (show ¬ i < r + 1 by omega), if_neg (show ¬ i < r by omega)]
theorem turn_over {N B q i : Nat} (hi : i < N) : st N B q N i = st N (B + N) (q + 1) 0 i := by
  unfold st
  rw [if_pos hi, if_neg (by omega), if_neg (by omega)]
  congr 1
  · simp
  · omega
end Go.Proofs.Ythpgpomkilnlgaa.PickN
