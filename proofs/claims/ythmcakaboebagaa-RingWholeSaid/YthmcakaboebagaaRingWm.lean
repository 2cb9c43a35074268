/- Whole rings, as plain mathematics: by the row in the order of the indexes. -/
import Derived.Test.YthmcakaboebagaaRingA
namespace Go.Proofs.Ythmcakaboebagaa.RingWm
set_option linter.unusedVariables false
open Go.RowKit
open Go.Proofs.Ythmcakaboebagaa.RingM Go.Proofs.Ythmcakaboebagaa.RingN Go.Proofs.Ythmcakaboebagaa.RingK Go.Proofs.Ythmcakaboebagaa.RingJ Go.Proofs.Ythmcakaboebagaa.RingA

theorem ix_fn (L : List Fnd) (i : Nat) : ix L i = (fn L i).item.index := by
  unfold ix fn
  cases L[i]? <;> rfl
theorem two_places {α : Type} (p : α → Bool) (l : List α) (i j : Nat) (a b : α) (hij : i < j) (ha : l[i]? = some a) (hb : l[j]? = some b) (pa : p a = true) (pb : p b = true) : 2 ≤ l.countP p := by
  have e : l = l.take (i + 1) ++ l.drop (i + 1) := (List.take_append_drop _ _).symm
  rw [e, List.countP_append]
  have h1 : 0 < (l.take (i + 1)).countP p := by
    rw [List.countP_pos_iff]
    exact ⟨a, List.mem_of_getElem? (i := i) (by rw [List.getElem?_take_of_lt (by omega)]; exact ha), pa⟩
  have h2 : 0 < (l.drop (i + 1)).countP p := by
    rw [List.countP_pos_iff]
    exact ⟨b, List.mem_of_getElem? (i := j - (i + 1)) (by rw [List.getElem?_drop, show i + 1 + (j - (i + 1)) = j by omega]; exact hb), pb⟩
  omega
theorem count_range_one (K i : Nat) (h : i < K) : (List.range K).countP (fun j : Nat => decide ((j : Int) = (i : Int))) = 1 := by
  induction K with
  | zero => omega
  | succ K ih =>
    rw [List.range_succ, List.countP_append]
    by_cases e : i = K
    · subst e
      have h0 : (List.range i).countP (fun j : Nat => decide ((j : Int) = (i : Int))) = 0 := by
        rw [List.countP_eq_zero]
        intro a ha
        have := List.mem_range.1 ha
        simp
        omega
      rw [h0]
      simp
    · rw [ih (by omega)]
      have : ¬ (K : Int) = (i : Int) := by omega
      simp [this]
section
variable {n : Nat}
/-- The numbers of the items of a ring. -/
def mems (L : List Fnd) (n : Nat) (s : Int) : List (Fin n) := (List.finRange n).filter (fun j => inRing s (fn L j.val))
theorem list_is (L : List Fnd) (hl : L.length = n) : L = (List.finRange n).map (fun i => fn L i.val) := by
  apply List.ext_getElem?
  intro i
  rcases Nat.lt_or_ge i n with h | h
  · have h2 : i < L.length := by omega
    rw [List.getElem?_eq_getElem h2, List.getElem?_map, List.getElem?_eq_getElem (by simpa using h)]
    simp [fn, List.getElem?_eq_getElem h2]
  · rw [List.getElem?_eq_none (by omega), List.getElem?_eq_none (by simpa using h)]
theorem count_is (L : List Fnd) (hl : L.length = n) (p : Fnd → Bool) : L.countP p = (List.finRange n).countP (fun i => p (fn L i.val)) := by
  conv => lhs; rw [list_is L hl]
  rw [List.countP_map]
  rfl
theorem count_ring (L : List Fnd) (hl : L.length = n) (s : Int) : L.countP (inRing s) = (mems L n s).length := by
  rw [count_is L hl, mems, List.countP_eq_length_filter]
theorem count_at (L : List Fnd) (hl : L.length = n) (s i : Int) (M' : List (Fin n)) (hp : M'.Perm (mems L n s)) : L.countP (inAt s i) = M'.countP (fun x => decide (ix L x.val = i)) := by
  rw [hp.countP_eq, mems, List.countP_filter, count_is L hl]
  congr 1
  funext x
  rw [ix_fn]
  unfold inAt inRing
  rw [Bool.decide_and, Bool.and_comm]
theorem whole_iff (L : List Fnd) (hl : L.length = n) (s : Int) (M' : List (Fin n)) (hp : M'.Perm (mems L n s)) (hr : Rising L M') (h0 : 0 < (mems L n s).length) :
    (∀ i, i < (mems L n s).length → okAt L M' i) ↔ Whole L s := by
  have hlen : M'.length = (mems L n s).length := hp.length_eq
  obtain ⟨K, hK⟩ : ∃ K, (mems L n s).length = K := ⟨_, rfl⟩
  have hc := count_ring L hl s
  rw [hK] at hlen h0 hc ⊢
  have hmem : ∀ x ∈ L, x.item.seq = s → ∃ (i : Nat) (j : Fin n), i < K ∧ M'[i]? = some j ∧ fn L j.val = x := by
    intro x hx hs
    rw [list_is L hl] at hx
    obtain ⟨j, _, hj⟩ := List.mem_map.1 hx
    have h1 : j ∈ mems L n s := by
      unfold mems
      refine List.mem_filter.2 ⟨List.mem_finRange j, ?_⟩
      unfold inRing
      rw [hj]
      simpa using hs
    have h2 : j ∈ M' := hp.mem_iff.2 h1
    obtain ⟨i, hi⟩ := List.mem_iff_getElem?.1 h2
    exact ⟨i, j, by have := (List.getElem?_eq_some_iff.1 hi).1; omega, hi, hj⟩
  have hof : ∀ (i : Nat) (j : Fin n), M'[i]? = some j → fn L j.val ∈ L ∧ (fn L j.val).item.seq = s := by
    intro i j hi
    have h1 : j ∈ mems L n s := hp.mem_iff.1 (List.mem_of_getElem? hi)
    unfold mems at h1
    have h2 := (List.mem_filter.1 h1).2
    refine ⟨?_, by unfold inRing at h2; simpa using h2⟩
    have h3 : j.val < L.length := by rw [hl]; exact j.isLt
    unfold fn
    rw [List.getElem?_eq_getElem h3]
    exact List.getElem_mem h3
  have hat : ∀ i, i < K → ∃ j, M'[i]? = some j := fun i hi => ⟨_, List.getElem?_eq_getElem (by omega)⟩
  constructor
  · intro h
    have hidx : ∀ (i : Nat) (j : Fin n), M'[i]? = some j → (fn L j.val).item.count = (K : Int) ∧ (fn L j.val).item.index = (i : Int) := by
      intro i j hi
      have hiK : i < K := by have := (List.getElem?_eq_some_iff.1 hi).1; omega
      obtain ⟨y, hy⟩ := hat ((i + 1) % K) (Nat.mod_lt _ h0)
      have := h i hiK j y hi (by rw [hlen]; exact hy)
      rw [hlen] at this
      exact ⟨this.1, this.2.1⟩
    refine ⟨fun x hx hs => ?_, fun i hi => ?_, fun x hx y hy hsx hsy he => ?_⟩
    · obtain ⟨i, j, _, hj, rfl⟩ := hmem x hx hs
      rw [hc]
      exact (hidx i j hj).1
    · rw [hc] at hi
      rw [count_at L hl s i M' hp]
      have e : M'.map (fun x => ix L x.val) = (List.range K).map (fun j : Nat => (j : Int)) := by
        apply List.ext_getElem?
        intro j
        rw [List.getElem?_map, List.getElem?_map]
        rcases Nat.lt_or_ge j K with hj | hj
        · obtain ⟨x, hx⟩ := hat j hj
          rw [hx, List.getElem?_range hj]
          simp only [Option.map_some, ix_fn, (hidx j x hx).2]
        · rw [List.getElem?_eq_none (by omega), List.getElem?_eq_none (by simpa using hj)]
          rfl
      have e2 : M'.countP (fun x => decide (ix L x.val = (i : Int))) = (M'.map (fun x => ix L x.val)).countP (fun z => decide (z = (i : Int))) := by
        rw [List.countP_map]
        rfl
      rw [e2, e, List.countP_map]
      exact count_range_one K i hi
    · obtain ⟨i, j, hi, hj, rfl⟩ := hmem x hx hsx
      obtain ⟨i2, j2, hi2, hj2, rfl⟩ := hmem y hy hsy
      rw [hc] at he
      have h1 := (hidx i j hj).2
      have h2 := (hidx i2 j2 hj2).2
      rw [h1, h2] at he
      have h3 : (i + 1) % K = i2 := by
        have : ((i : Int) + 1) % (K : Int) = (((i + 1) % K : Nat) : Int) := by rw [show ((i : Int) + 1) = ((i + 1 : Nat) : Int) by omega]; rfl
        omega
      exact (h i hi j j2 hj (by rw [hlen, h3]; exact hj2)).2.2
  · rintro ⟨w1, w2, w3⟩
    rw [hc] at w1 w2 w3
    have hone : ∀ i : Nat, i < K → M'.countP (fun x => decide (ix L x.val = (i : Int))) = 1 := fun i hi => by rw [← count_at L hl s i M' hp]; exact w2 i hi
    have hin : ∀ m, m ≤ K → M'.countP (fun x => decide (0 ≤ ix L x.val ∧ ix L x.val < (m : Int))) = m := by
      intro m
      induction m with
      | zero =>
        intro _
        rw [List.countP_eq_zero]
        intro a _
        simp
      | succ m ih =>
        intro hm
        have h1 := ih (by omega)
        have h2 := hone m (by omega)
        have e : ∀ (l : List (Fin n)), l.countP (fun x => decide (0 ≤ ix L x.val ∧ ix L x.val < ((m + 1 : Nat) : Int))) = l.countP (fun x => decide (0 ≤ ix L x.val ∧ ix L x.val < (m : Int))) + l.countP (fun x => decide (ix L x.val = (m : Int))) := by
          intro l
          induction l with
          | nil => rfl
          | cons a l ihl =>
            rw [List.countP_cons, List.countP_cons, List.countP_cons, ihl]
            simp only [decide_eq_true_eq]
            split <;> split <;> split <;> omega
        rw [e, h1, h2]
    have hall : ∀ x ∈ M', 0 ≤ ix L x.val ∧ ix L x.val < (K : Int) := by
      have h := hin K (Nat.le_refl _)
      rw [← hlen, List.countP_eq_length] at h
      intro x hx
      have := h x hx
      rw [hlen] at this
      simpa using this
    have hidx : ∀ j : Nat, j < K → ∀ x, M'[j]? = some x → ix L x.val = (j : Int) := by
      intro j
      induction j using Nat.strongRecOn with
      | ind j ih =>
        intro hj x hx
        have hx0 := hall x (List.mem_of_getElem? hx)
        have h1 : 0 < M'.countP (fun x => decide (ix L x.val = (j : Int))) := by rw [hone j hj]; omega
        rw [List.countP_pos_iff] at h1
        obtain ⟨y, hy, hyj⟩ := h1
        have hyj : ix L y.val = (j : Int) := by simpa using hyj
        obtain ⟨p, hp'⟩ := List.mem_iff_getElem?.1 hy
        have hpK : p < K := by have := (List.getElem?_eq_some_iff.1 hp').1; omega
        rcases Nat.lt_trichotomy p j with h | h | h
        · have := ih p h hpK y hp'
          omega
        · subst h
          rw [hx] at hp'
          injection hp' with hp'
          rw [hp']
          exact hyj
        · have h2 := hr j p x y h hx hp'
          rcases Int.lt_or_le (ix L x.val) (j : Int) with h3 | h3
          · exfalso
            obtain ⟨v, hv⟩ := Int.eq_ofNat_of_zero_le hx0.1
            have hvj : v < j := by omega
            obtain ⟨z, hz⟩ := hat v (by omega)
            have hz2 := ih v hvj (by omega) z hz
            have := two_places (fun x : Fin n => decide (ix L x.val = (v : Int))) M' v j z x hvj hz hx (by simpa using hz2) (by simpa using hv)
            rw [hone v (by omega)] at this
            omega
          · omega
    intro i hi x y hx hy
    rw [hlen] at hy ⊢
    obtain ⟨hxL, hxs⟩ := hof i x hx
    obtain ⟨hyL, hys⟩ := hof _ y hy
    have hix := hidx i hi x hx
    have hiy := hidx _ (Nat.mod_lt _ h0) y hy
    rw [ix_fn] at hix hiy
    refine ⟨w1 _ hxL hxs, hix, w3 _ hxL _ hyL hxs hys ?_⟩
    rw [hix, hiy, show ((i : Int) + 1) = ((i + 1 : Nat) : Int) by omega]
    rfl
end
end Go.Proofs.Ythmcakaboebagaa.RingWm
