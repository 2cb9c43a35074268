/- The plain mathematics of layer 10: rows of pairs that rise by their keys. Names no program. -/
import Derived.Test.YtlblfpacnegmlaaKeysM
import GoSem.Op.String
namespace Go.Proofs.Ytlblfpacnegmlaa.TreeM
set_option linter.unusedVariables false
open Go.Proofs.Ytlblfpacnegmlaa.Byte Go.Proofs.Ytlblfpacnegmlaa.KeysM

/-- A key, its value, or that it is gone. -/
structure Pr where
  key : ByteArray
  value : ByteArray
  gone : Bool
deriving DecidableEq, Inhabited
/-- A key stands ahead of another one. -/
def kl (a b : ByteArray) : Bool := Op.bytesLess a.toList b.toList
theorem kl_lt (a b : ByteArray) : kl a b = lt (txt a) (txt b) := by
  unfold kl
  rw [show a.toList = a.data.toList from ByteArray.toList_eq a, show b.toList = b.data.toList from ByteArray.toList_eq b, less_lt]
  rfl
theorem lt_irr (l : List Int) : lt l l = false := by
  induction l with
  | nil => rfl
  | cons a l ih => simp [lt, ih]
theorem lt_trans : ∀ (a b c : List Int), lt a b = true → lt b c = true → lt a c = true
  | _, _, [], _, h => by simp [lt_nil'] at h
  | [], _, _ :: _, _, _ => rfl
  | x :: a, [], _, h, _ => by simp [lt] at h
  | x :: a, y :: b, z :: c, h1, h2 => by
    simp only [lt, Bool.or_eq_true, Bool.and_eq_true, decide_eq_true_eq] at h1 h2 ⊢
    rcases h1 with h1 | ⟨rfl, h1⟩
    · rcases h2 with h2 | ⟨rfl, h2⟩
      · exact .inl (by omega)
      · exact .inl h1
    · rcases h2 with h2 | ⟨rfl, h2⟩
      · exact .inl h2
      · exact .inr ⟨rfl, lt_trans a b c h1 h2⟩
where lt_nil' : ∀ l : List Int, lt l [] = false := fun l => by cases l <;> rfl
theorem lt_tri : ∀ (a b : List Int), lt a b = false → lt b a = false → a = b
  | [], [], _, _ => rfl
  | [], _ :: _, h, _ => by simp [lt] at h
  | _ :: _, [], _, h => by simp [lt] at h
  | x :: a, y :: b, h1, h2 => by
    simp only [lt, Bool.or_eq_false_iff, Bool.and_eq_false_iff, decide_eq_false_iff_not] at h1 h2
    obtain rfl : x = y := by omega
    have e1 : lt a b = false := by rcases h1.2 with h | h; exact absurd rfl h; exact h
    have e2 : lt b a = false := by rcases h2.2 with h | h; exact absurd rfl h; exact h
    rw [lt_tri a b e1 e2]
theorem kl_irr (a : ByteArray) : kl a a = false := by rw [kl_lt]; exact lt_irr _
theorem kl_trans {a b c : ByteArray} (h1 : kl a b = true) (h2 : kl b c = true) : kl a c = true := by
  rw [kl_lt] at *
  exact lt_trans _ _ _ h1 h2
theorem kl_tri {a b : ByteArray} (h1 : kl a b = false) (h2 : kl b a = false) : a = b := by
  rw [kl_lt] at *
  exact txt_inj (lt_tri _ _ h1 h2)
theorem kl_asym {a b : ByteArray} (h : kl a b = true) : kl b a = false := by
  cases h2 : kl b a with
  | false => rfl
  | true =>
    have := kl_trans h h2
    rw [kl_irr] at this
    exact absurd this (by decide)
theorem kl_ne {a b : ByteArray} (h : kl a b = true) : a ≠ b := by
  rintro rfl
  rw [kl_irr] at h
  exact absurd h (by decide)

/-- The keys rise. -/
def Rise (l : List Pr) : Prop := l.Pairwise fun p q => kl p.key q.key = true
def putL (k v : ByteArray) (l : List Pr) : List Pr := l.filter (fun p => kl p.key k) ++ ⟨k, v, false⟩ :: l.filter (fun p => kl k p.key)
def cutL (k : ByteArray) (l : List Pr) : List Pr := l.filter fun p => !decide (p.key = k)
def rangeL (a b : ByteArray) (l : List Pr) : List Pr := l.filter fun p => !kl p.key a && kl p.key b
def rankL (k : ByteArray) (l : List Pr) : Nat := (l.filter fun p => kl p.key k).length
def getL (k : ByteArray) (l : List Pr) : Option Pr := l.find? fun p => decide (p.key = k)
theorem rise_filter {l : List Pr} (h : Rise l) (f : Pr → Bool) : Rise (l.filter f) := List.Pairwise.filter f h
theorem rise_cut {l : List Pr} (h : Rise l) (k : ByteArray) : Rise (cutL k l) := rise_filter h _
theorem rise_put {l : List Pr} (h : Rise l) (k v : ByteArray) : Rise (putL k v l) := by
  unfold putL Rise
  rw [List.pairwise_append, List.pairwise_cons]
  refine ⟨rise_filter h _, ⟨fun q hq => (List.mem_filter.1 hq).2, rise_filter h _⟩, fun p hp q hq => ?_⟩
  have h1 := (List.mem_filter.1 hp).2
  rcases List.mem_cons.1 hq with rfl | hq
  · exact h1
  · exact kl_trans h1 (List.mem_filter.1 hq).2
theorem mem_put {l : List Pr} {k v : ByteArray} {p : Pr} (hp : p ∈ putL k v l) : p = ⟨k, v, false⟩ ∨ (p ∈ l ∧ p.key ≠ k) := by
  unfold putL at hp
  rcases List.mem_append.1 hp with h | h
  · have := List.mem_filter.1 h
    exact .inr ⟨this.1, kl_ne this.2⟩
  · rcases List.mem_cons.1 h with h | h
    · exact .inl h
    · have := List.mem_filter.1 h
      exact .inr ⟨this.1, fun e => kl_ne this.2 e.symm⟩
theorem put_mem {l : List Pr} {k v : ByteArray} {p : Pr} (hp : p ∈ l) (hk : p.key ≠ k) : p ∈ putL k v l := by
  unfold putL
  rw [List.mem_append, List.mem_cons]
  cases h1 : kl p.key k with
  | true => exact .inl (List.mem_filter.2 ⟨hp, h1⟩)
  | false =>
    cases h2 : kl k p.key with
    | true => exact .inr (.inr (List.mem_filter.2 ⟨hp, h2⟩))
    | false => exact absurd (kl_tri h1 h2) hk
theorem put_new (l : List Pr) (k v : ByteArray) : (⟨k, v, false⟩ : Pr) ∈ putL k v l := by
  unfold putL
  simp
/-- Two rows that rise and have the same pairs are one. -/
theorem rise_ext : ∀ {l m : List Pr}, Rise l → Rise m → (∀ p, p ∈ l ↔ p ∈ m) → l = m
  | [], [], _, _, _ => rfl
  | [], q :: m, _, _, h => absurd ((h q).2 (by simp)) (by simp)
  | p :: l, [], _, _, h => absurd ((h p).1 (by simp)) (by simp)
  | p :: l, q :: m, h1, h2, h => by
    have hl := List.pairwise_cons.1 h1
    have hm := List.pairwise_cons.1 h2
    have hpq : p = q := by
      rcases List.mem_cons.1 ((h p).1 (by simp)) with e | e
      · exact e
      · rcases List.mem_cons.1 ((h q).2 (by simp)) with e2 | e2
        · exact e2.symm
        · have a := hm.1 p e
          have b := hl.1 q e2
          rw [kl_asym a] at b
          exact absurd b (by decide)
    subst hpq
    congr 1
    refine rise_ext hl.2 hm.2 fun x => ?_
    constructor
    · intro hx
      rcases List.mem_cons.1 ((h x).1 (by simp [hx])) with e | e
      · subst e
        have := hl.1 x hx
        rw [kl_irr] at this
        exact absurd this (by decide)
      · exact e
    · intro hx
      rcases List.mem_cons.1 ((h x).2 (by simp [hx])) with e | e
      · subst e
        have := hm.1 x hx
        rw [kl_irr] at this
        exact absurd this (by decide)
      · exact e
theorem rise_keys {l : List Pr} (h : Rise l) {p q : Pr} (hp : p ∈ l) (hq : q ∈ l) (hk : p.key = q.key) : p = q := by
  induction l with
  | nil => simp at hp
  | cons a l ih =>
    have hl := List.pairwise_cons.1 h
    rcases List.mem_cons.1 hp with hp | hp
    · rcases List.mem_cons.1 hq with hq | hq
      · rw [hp, hq]
      · rw [hp] at hk
        exact absurd hk (kl_ne (hl.1 q hq))
    · rcases List.mem_cons.1 hq with hq | hq
      · rw [hq] at hk
        exact absurd hk.symm (kl_ne (hl.1 p hp))
      · exact ih hl.2 hp hq
theorem rise_at {l : List Pr} (h : Rise l) {i j : Nat} (hij : i < j) {p q : Pr} (hp : l[i]? = some p) (hq : l[j]? = some q) : kl p.key q.key = true := by
  obtain ⟨h1, rfl⟩ := List.getElem?_eq_some_iff.1 hp
  obtain ⟨h2, rfl⟩ := List.getElem?_eq_some_iff.1 hq
  exact List.pairwise_iff_getElem.1 h i j h1 h2 hij
theorem get_at {l : List Pr} (h : Rise l) {i : Nat} {p : Pr} (hp : l[i]? = some p) : getL p.key l = some p := by
  have hm : p ∈ l := List.mem_of_getElem? hp
  unfold getL
  cases hf : l.find? (fun q => decide (q.key = p.key)) with
  | none =>
    have := List.find?_eq_none.1 hf p hm
    simp at this
  | some q =>
    have h1 := List.find?_some hf
    have h2 := List.mem_of_find?_eq_some hf
    rw [rise_keys h h2 hm (by simpa using h1)]
theorem rank_at {l : List Pr} (h : Rise l) {i : Nat} {p : Pr} (hp : l[i]? = some p) : rankL p.key l = i := by
  obtain ⟨hi, rfl⟩ := List.getElem?_eq_some_iff.1 hp
  unfold rankL
  have e : l = l.take i ++ l.drop i := (List.take_append_drop i l).symm
  have e1 : (l.take i).filter (fun q => kl q.key l[i].key) = l.take i := by
    rw [List.filter_eq_self]
    intro q hq
    obtain ⟨j, hj, rfl⟩ := List.mem_iff_getElem.1 hq
    rw [List.length_take] at hj
    rw [List.getElem_take]
    exact List.pairwise_iff_getElem.1 h j i (by omega) hi (by omega)
  have e2 : (l.drop i).filter (fun q => kl q.key l[i].key) = [] := by
    rw [List.filter_eq_nil_iff]
    intro q hq
    obtain ⟨j, hj, rfl⟩ := List.mem_iff_getElem.1 hq
    rw [List.length_drop] at hj
    rw [List.getElem_drop]
    rcases Nat.eq_zero_or_pos j with rfl | hj0
    · simp [kl_irr]
    · have := List.pairwise_iff_getElem.1 h i (i + j) hi (by omega) (by omega)
      rw [kl_asym this]
      decide
  have e3 : l.filter (fun q => kl q.key l[i].key) = (l.take i ++ l.drop i).filter (fun q => kl q.key l[i].key) := by rw [List.take_append_drop]
  rw [e3, List.filter_append, e1, e2, List.append_nil, List.length_take]
  omega
/-- What a row has, cut off behind so many, and one more. -/
theorem take_next {α : Type} {l : List α} {i : Nat} {x : α} (h : l[i]? = some x) : l.take (i + 1) = l.take i ++ [x] := by
  rw [List.take_add_one, h]
  rfl
theorem filter_next {l : List Pr} {i : Nat} {p : Pr} (h : l[i]? = some p) (f : Pr → Bool) : (l.take (i + 1)).filter f = (l.take i).filter f ++ (if f p then [p] else []) := by
  rw [take_next h, List.filter_append]
  congr 1
  cases hf : f p <;> simp [hf]
theorem range_next {l : List Pr} {i : Nat} {p : Pr} (h : l[i]? = some p) (a b : ByteArray) : rangeL a b (l.take (i + 1)) = rangeL a b (l.take i) ++ (if !kl p.key a && kl p.key b then [p] else []) := filter_next h _
theorem cut_next {l : List Pr} {i : Nat} {p : Pr} (h : l[i]? = some p) (k : ByteArray) : cutL k (l.take (i + 1)) = cutL k (l.take i) ++ (if !decide (p.key = k) then [p] else []) := filter_next h _
theorem rank_next {l : List Pr} {i : Nat} {p : Pr} (h : l[i]? = some p) (k : ByteArray) : rankL k (l.take (i + 1)) = rankL k (l.take i) + (if kl p.key k then 1 else 0) := by
  unfold rankL
  rw [filter_next h, List.length_append]
  cases kl p.key k <;> rfl
/-- Has a key that isn't ahead of this one been met? -/
def metL (k : ByteArray) (l : List Pr) : Bool := l.any fun p => !kl p.key k
def soFar (k v : ByteArray) (l : List Pr) : List Pr := if metL k l then putL k v l else l
theorem met_next {l : List Pr} {i : Nat} {p : Pr} (h : l[i]? = some p) (k : ByteArray) : metL k (l.take (i + 1)) = (metL k (l.take i) || !kl p.key k) := by
  unfold metL
  rw [take_next h, List.any_append]
  simp
theorem all_ahead {k : ByteArray} {l : List Pr} (h : metL k l = false) : l.filter (fun p => kl p.key k) = l ∧ l.filter (fun p => kl k p.key) = [] := by
  unfold metL at h
  rw [List.any_eq_false] at h
  refine ⟨List.filter_eq_self.2 fun p hp => by simpa using h p hp, List.filter_eq_nil_iff.2 fun p hp => ?_⟩
  have h1 : kl p.key k = true := by simpa using h p hp
  rw [kl_asym h1]
  decide
theorem put_ahead {k v : ByteArray} {l : List Pr} (h : metL k l = false) : putL k v l = l ++ [⟨k, v, false⟩] := by
  unfold putL
  rw [(all_ahead h).1, (all_ahead h).2]
theorem set_1 {l : List Pr} {i : Nat} {p : Pr} (h : l[i]? = some p) (k v : ByteArray) (hm : metL k (l.take i) = false) (h1 : kl p.key k = true) : metL k (l.take (i + 1)) = false ∧ soFar k v (l.take (i + 1)) = soFar k v (l.take i) ++ [p] := by
  have e : metL k (l.take (i + 1)) = false := by rw [met_next h, hm, h1]; rfl
  refine ⟨e, ?_⟩
  unfold soFar
  rw [e, hm, if_neg (by decide), if_neg (by decide), take_next h]
theorem set_2 {l : List Pr} {i : Nat} {p : Pr} (h : l[i]? = some p) (k v : ByteArray) (hm : metL k (l.take i) = false) (h1 : kl p.key k = false) : metL k (l.take (i + 1)) = true ∧ soFar k v (l.take (i + 1)) = soFar k v (l.take i) ++ [⟨k, v, false⟩] ++ (if !decide (p.key = k) then [p] else []) := by
  have e : metL k (l.take (i + 1)) = true := by rw [met_next h, hm, h1]; rfl
  refine ⟨e, ?_⟩
  unfold soFar
  rw [e, hm, if_pos rfl, if_neg (by decide)]
  unfold putL
  rw [filter_next h, filter_next h, (all_ahead hm).1, (all_ahead hm).2, h1, if_neg (by decide), List.append_nil, List.nil_append]
  have h3 : kl k p.key = !decide (p.key = k) := by
    by_cases e2 : p.key = k
    · rw [e2, kl_irr]
      simp
    · rw [decide_eq_false e2]
      cases h4 : kl k p.key with
      | true => rfl
      | false => exact absurd (kl_tri h1 h4) e2
  rw [h3]
  simp
theorem set_3 {l : List Pr} (hr : Rise l) {i : Nat} {p : Pr} (h : l[i]? = some p) (k v : ByteArray) (hm : metL k (l.take i) = true) : p.key ≠ k ∧ metL k (l.take (i + 1)) = true ∧ soFar k v (l.take (i + 1)) = soFar k v (l.take i) ++ [p] := by
  have e : metL k (l.take (i + 1)) = true := by rw [met_next h, hm]; rfl
  have hgt : kl k p.key = true := by
    unfold metL at hm
    obtain ⟨q, hq, h1⟩ := List.any_eq_true.1 hm
    obtain ⟨j, hj, rfl⟩ := List.mem_iff_getElem.1 hq
    rw [List.length_take] at hj
    rw [List.getElem_take] at h1
    have h2 : kl l[j].key p.key = true := rise_at hr (by omega) (List.getElem?_eq_getElem (by omega)) h
    cases h3 : kl k l[j].key with
    | true => exact kl_trans h3 h2
    | false =>
      have : l[j].key = k := kl_tri (by simpa using h1) h3
      rw [← this]
      exact h2
  refine ⟨(kl_ne hgt).symm, e, ?_⟩
  unfold soFar
  rw [e, hm, if_pos rfl, if_pos rfl]
  unfold putL
  rw [filter_next h, filter_next h, hgt, kl_asym hgt, if_pos rfl, if_neg (by decide)]
  simp
theorem set_end (k v : ByteArray) (l : List Pr) : putL k v l = soFar k v l ++ (if !metL k l then [⟨k, v, false⟩] else []) := by
  unfold soFar
  cases h : metL k l with
  | true => simp
  | false => simp [put_ahead h]
theorem put_len (k v : ByteArray) (l : List Pr) : (putL k v l).length ≤ l.length + 1 := by
  unfold putL
  rw [List.length_append, List.length_cons]
  induction l with
  | nil => simp
  | cons p l ih =>
    rw [List.filter_cons, List.filter_cons, List.length_cons]
    cases h1 : kl p.key k with
    | true =>
      rw [kl_asym h1, if_pos rfl, if_neg (by decide), List.length_cons]
      omega
    | false =>
      rw [if_neg (by decide)]
      split
      · rw [List.length_cons]
        omega
      · omega
end Go.Proofs.Ytlblfpacnegmlaa.TreeM
