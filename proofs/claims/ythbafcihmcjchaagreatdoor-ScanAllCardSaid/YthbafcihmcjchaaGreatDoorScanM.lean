/- What is found in a sector's bytes, as plain mathematics. -/
import Derived.Test.YthbafcihmcjchaaGreatDoorRecM
import Derived.Test.YthbafcihmcjchaaGreatDoorHeadM
import Derived.Test.YthbafcihmcjchaaGreatDoorRingX
import Derived.Test.YthbafcihmcjchaaGreatDoorRingK
namespace Go.Proofs.YthbafcihmcjchaaGreatDoor.ScanM
set_option linter.unusedVariables false
open Go.RowKit
open Go.Proofs.YthbafcihmcjchaaGreatDoor.Byte Go.Proofs.YthbafcihmcjchaaGreatDoor.PackM Go.Proofs.YthbafcihmcjchaaGreatDoor.PlaceM Go.Proofs.YthbafcihmcjchaaGreatDoor.RecM Go.Proofs.YthbafcihmcjchaaGreatDoor.RingM Go.Proofs.YthbafcihmcjchaaGreatDoor.RingN Go.Proofs.YthbafcihmcjchaaGreatDoor.RingX Go.Proofs.YthbafcihmcjchaaGreatDoor.RingK

/-! ### what stands at a place depends on its frame alone -/
theorem dt {xs ys : List Int} {k i j : Nat} (h : xs.take k = ys.take k) (hk : i + j ≤ k) : (xs.drop i).take j = (ys.drop i).take j := by
  have e : ∀ zs : List Int, (zs.drop i).take j = ((zs.take k).drop i).take j := fun zs => by
    rw [List.drop_take, List.take_take, Nat.min_eq_left (by omega)]
  rw [e xs, e ys, h]
theorem gd {xs ys : List Int} {k i : Nat} (h : xs.take k = ys.take k) (hi : i < k) : xs.getD i 0 = ys.getD i 0 := by
  have e : ∀ zs : List Int, zs.getD i 0 = (zs.take k).getD i 0 := fun zs => by
    rw [List.getD_eq_getElem?_getD, List.getD_eq_getElem?_getD, List.getElem?_take_of_lt hi]
  rw [e xs, e ys, h]
theorem c_is {xs : List Int} {a : Nat} (h0 : cs xs a ≠ 0) (h3 : cs xs a ≠ 3) : a ≤ xs.length ∧ RecM.blank xs a = false ∧ whole xs a ∧ stOf (xs.getD a 0) ≠ 3 := by
  unfold cs at h0 h3
  rw [Int.toNat_natCast] at h0 h3
  split at h0
  · rename_i h1
    rw [if_pos h1] at h3
    exact absurd rfl h3
  · rename_i h1
    rw [if_neg h1] at h3
    split at h0
    · exact absurd rfl h0
    · rename_i h2
      rw [if_neg h2] at h3
      split at h3
      · rename_i h4
        exact ⟨by omega, by simpa using h2, h4, h3⟩
      · exact absurd rfl h3
theorem c_end {xs : List Int} {a : Nat} (h0 : cs xs a ≠ 0) (h3 : cs xs a ≠ 3) : ∃ r, ce xs a = ((a + 8 + r : Nat) : Int) ∧ a + 8 + r ≤ xs.length ∧ (cr xs a).length = r ∧ rlen xs a = r := by
  obtain ⟨ha, hb, hw, hs⟩ := c_is h0 h3
  obtain ⟨_, e2, e3⟩ := c_rec ha hb hs hw
  refine ⟨rlen xs a, e3, hw.1, ?_, rfl⟩
  rw [e2]
  exact rec_len (by have := hw.1; omega)
theorem same {xs ys : List Int} {k a : Nat} (hl : xs.length = ys.length) (h : xs.take k = ys.take k) (h0 : cs xs a ≠ 0) (h3 : cs xs a ≠ 3) (he : ce xs a ≤ (k : Int)) : cs ys a = cs xs a ∧ cr ys a = cr xs a ∧ ce ys a = ce xs a := by
  obtain ⟨ha, hb, hw, hs⟩ := c_is h0 h3
  obtain ⟨e1, e2, e3⟩ := c_rec ha hb hs hw
  rw [e3] at he
  have hwl := hw.1
  have q1 : rlen ys a = rlen xs a := by
    unfold rlen
    rw [gd h (show a + 1 < k by omega), gd h (show a + 2 < k by omega)]
  have q2 : rec_ ys a = rec_ xs a := by
    unfold rec_
    rw [q1]
    exact (dt h (by omega)).symm
  have q3 : ys.getD a 0 = xs.getD a 0 := (gd h (by omega)).symm
  have q4 : whole ys a := by
    obtain ⟨w1, w2, w3⟩ := hw
    refine ⟨by rw [q1, ← hl]; exact w1, by rw [q1, ← gd h (show a + 7 + rlen xs a < k by omega)]; exact w2, ?_⟩
    rw [q2, ← dt h (show a + 1 + 2 ≤ k by omega)]
    have : getn ys (a + 3) 4 = getn xs (a + 3) 4 := by
      unfold getn
      rw [dt h (show a + 3 + 4 ≤ k by omega)]
    rw [this]
    exact w3
  have q5 : RecM.blank ys a = false := by
    refine blank_at (by omega) ?_
    rw [q3]
    intro e
    rw [e] at hs
    exact hs (by decide)
  obtain ⟨f1, f2, f3⟩ := c_rec (xs := ys) (a := a) (by omega) q5 (by rw [q3]; exact hs) q4
  exact ⟨by rw [f1, e1, q3], by rw [f2, e2, q2], by rw [f3, e3, q1]⟩

/-! ### the row of what is found -/
/-- Does the row go on at this place? -/
def on (xs : List Int) (a : Nat) : Bool := decide (cs xs a = 6) || ((decide (cs xs a = 4) || decide (cs xs a = 5)) && decide (gerr (cr xs a) = 0))
theorem on_not {xs : List Int} {a : Nat} (h : on xs a = true) : cs xs a ≠ 0 ∧ cs xs a ≠ 3 := by
  unfold on at h
  constructor <;> intro e <;> rw [e] at h <;> simp at h
theorem on_end {xs : List Int} {a : Nat} (h : on xs a = true) : ∃ r, ce xs a = ((a + 8 + r : Nat) : Int) ∧ a + 8 + r ≤ xs.length ∧ (cr xs a).length = r := by
  obtain ⟨r, h1, h2, h3, _⟩ := c_end (on_not h).1 (on_not h).2
  exact ⟨r, h1, h2, h3⟩
/-- What is found at a place of sector k. -/
def fnd (xs : List Int) (k : Int) (a : Nat) : Fnd := ⟨floatOfInt .f64 k, floatOfInt .f64 a, ce xs a - a, decide (cs xs a = 5), gans (cr xs a)⟩
/-- From a place on: what is found, the end, whether it is full. -/
def sc (xs : List Int) (k : Int) (a : Nat) : List Fnd × Nat × Bool :=
  if h : on xs a = true then
    ((if cs xs a = 6 then (sc xs k (ce xs a).toNat).1 else fnd xs k a :: (sc xs k (ce xs a).toNat).1), (sc xs k (ce xs a).toNat).2)
  else ([], a, decide (a = xs.length) || !decide (cs xs a = 0))
termination_by xs.length - a
decreasing_by
  all_goals
    obtain ⟨r, h1, h2, _⟩ := on_end h
    rw [h1, Int.toNat_natCast]
    omega
theorem sc_off {xs : List Int} {k : Int} {a : Nat} (h : on xs a = false) : sc xs k a = ([], a, decide (a = xs.length) || !decide (cs xs a = 0)) := by
  rw [sc, dif_neg (by rw [h]; simp)]
theorem sc_skip {xs : List Int} {k : Int} {a e : Nat} (h : cs xs a = 6) (he : ce xs a = (e : Int)) : sc xs k a = sc xs k e := by
  have ho : on xs a = true := by unfold on; rw [h]; rfl
  rw [sc, dif_pos ho, if_pos h, he, Int.toNat_natCast]
theorem sc_one {xs : List Int} {k : Int} {a e : Nat} (h : cs xs a = 4 ∨ cs xs a = 5) (hg : gerr (cr xs a) = 0) (he : ce xs a = (e : Int)) : sc xs k a = (fnd xs k a :: (sc xs k e).1, (sc xs k e).2) := by
  have ho : on xs a = true := by unfold on; rw [hg]; rcases h with h | h <;> rw [h] <;> rfl
  rw [sc, dif_pos ho, if_neg (by omega), he, Int.toNat_natCast]
theorem on_cases {xs : List Int} {a : Nat} (h : on xs a = true) : cs xs a = 6 ∨ ((cs xs a = 4 ∨ cs xs a = 5) ∧ gerr (cr xs a) = 0) := by
  unfold on at h
  simpa using h
theorem cr_bd {xs : List Int} (h : ∀ x ∈ xs, 0 ≤ x ∧ x ≤ 255) (a : Int) : ∀ x ∈ cr xs a, 0 ≤ x ∧ x ≤ 255 := by
  unfold cr
  split
  · simp
  · intro x hx
    exact h x (List.mem_of_mem_drop (List.mem_of_mem_take hx))
/-- The size of what is found is its item's. -/
theorem fnd_size {xs : List Int} (hb : ∀ x ∈ xs, 0 ≤ x ∧ x ≤ 255) {k : Int} {a r : Nat} (h : (cr xs a).length = r) (he : ce xs a = ((a + 8 + r : Nat) : Int)) (hg : gerr (cr xs a) = 0) : (fnd xs k a).size = RingM.size (gans (cr xs a)).key.size (gans (cr xs a)).value.size ∧ (fnd xs k a).size = ((8 + r : Nat) : Int) := by
  obtain ⟨hm, hw⟩ := stood (cr_bd hb a) hg
  have hl := writ_len (gans (cr xs a))
  rw [hw, h] at hl
  obtain ⟨_, _, _, _, _, _, m1, m2, _⟩ := hm
  have e : (fnd xs k a).size = ((8 + r : Nat) : Int) := by
    show ce xs a - a = _
    rw [he]
    omega
  refine ⟨?_, e⟩
  rw [e]
  unfold RingM.size
  rw [if_neg (by omega)]
  omega
/-- In order, none in another one. -/
def Row (k : Int) : Nat → List Fnd → Nat → Prop
  | a, [], E => a ≤ E
  | a, f :: L, E => ∃ o s : Nat, a ≤ o ∧ o + s ≤ E ∧ f.re = floatOfInt .f64 k ∧ f.im = floatOfInt .f64 o ∧ f.size = s ∧ f.size = RingM.size f.item.key.size f.item.value.size ∧ Row k (o + s) L E
theorem Row.le {k : Int} {a b E : Nat} {L : List Fnd} (h : Row k b L E) (hab : a ≤ b) : Row k a L E := by
  cases L with
  | nil => exact Nat.le_trans hab h
  | cons f L =>
    obtain ⟨o, s, h1, h2, h3⟩ := h
    exact ⟨o, s, Nat.le_trans hab h1, h2, h3⟩
theorem Row.end_ {k : Int} {a E : Nat} {L : List Fnd} (h : Row k a L E) : a ≤ E := by
  cases L with
  | nil => exact h
  | cons f L =>
    obtain ⟨o, s, h1, h2, _⟩ := h
    omega
theorem row_sc {xs : List Int} (hb : ∀ x ∈ xs, 0 ≤ x ∧ x ≤ 255) (k : Int) (a : Nat) (ha : a ≤ xs.length) : Row k a (sc xs k a).1 (sc xs k a).2.1 ∧ (sc xs k a).2.1 ≤ xs.length := by
  generalize hn : xs.length - a = n
  induction n using Nat.strongRecOn generalizing a with
  | ind n ih =>
    cases ho : on xs a with
    | false =>
      rw [sc_off ho]
      exact ⟨Nat.le_refl _, ha⟩
    | true =>
      obtain ⟨r, he, hl, hr⟩ := on_end ho
      obtain ⟨h1, h2⟩ := ih (xs.length - (a + 8 + r)) (by omega) (a + 8 + r) hl rfl
      rcases on_cases ho with h | ⟨h, hg⟩
      · rw [sc_skip h he]
        exact ⟨h1.le (by omega), h2⟩
      · rw [sc_one h hg he]
        obtain ⟨s1, s2⟩ := fnd_size (k := k) hb hr he hg
        have h3 := h1.end_
        exact ⟨⟨a, 8 + r, Nat.le_refl _, by dsimp only; omega, rfl, rfl, s2, s1, by rw [show a + (8 + r) = a + 8 + r by omega]; exact h1⟩, h2⟩
/-- Ahead of the end nothing changes, whatever stands behind it. -/
theorem sc_front {xs ys : List Int} (hb : ∀ x ∈ xs, 0 ≤ x ∧ x ≤ 255) (hl : xs.length = ys.length) (k : Int) (E : Nat) (h : xs.take E = ys.take E) (a : Nat) (ha : a ≤ xs.length) (hE : (sc xs k a).2.1 = E) :
    sc ys k a = ((sc xs k a).1 ++ (sc ys k E).1, (sc ys k E).2) := by
  generalize hn : xs.length - a = n
  induction n using Nat.strongRecOn generalizing a with
  | ind n ih =>
    cases ho : on xs a with
    | false =>
      rw [sc_off ho] at hE ⊢
      dsimp only at hE
      subst hE
      simp
    | true =>
      obtain ⟨r, he, hl2, hr⟩ := on_end ho
      have hn0 := on_not ho
      have hle : a + 8 + r ≤ E := by
        have hs : (sc xs k a).2.1 = (sc xs k (a + 8 + r)).2.1 := by
          rcases on_cases ho with h | ⟨h, hg⟩
          · rw [sc_skip h he]
          · rw [sc_one h hg he]
        rw [← hE, hs]
        exact (row_sc hb k (a + 8 + r) hl2).1.end_
      obtain ⟨q1, q2, q3⟩ := same hl h hn0.1 hn0.2 (by rw [he]; omega)
      have hi := fun hh => ih (xs.length - (a + 8 + r)) (by omega) (a + 8 + r) hl2 hh rfl
      rcases on_cases ho with h4 | ⟨h4, hg⟩
      · rw [sc_skip h4 he] at hE
        rw [sc_skip h4 he, sc_skip (q1.trans h4) (q3.trans he)]
        exact hi hE
      · rw [sc_one h4 hg he] at hE
        have e : fnd ys k a = fnd xs k a := by unfold fnd; rw [q1, q2, q3]
        rw [sc_one h4 hg he, sc_one (by rw [q1]; exact h4) (by rw [q2]; exact hg) (q3.trans he), e, hi hE]
        rfl
/-- A sector's bytes: its class, its end, whether it is full, what is found. -/
def cl (n z : Int) (xs : List Int) : Int := HeadM.cls n z xs
def en (n z : Int) (xs : List Int) (k : Int) : Nat := if cl n z xs = 1 then (sc xs k 8).2.1 else 0
def fu (n z : Int) (xs : List Int) (k : Int) : Bool := if cl n z xs = 1 then (sc xs k 8).2.2 else decide (cl n z xs = 2)
def fo (n z : Int) (xs : List Int) (k : Int) : List Fnd := if cl n z xs = 1 then (sc xs k 8).1 else []
end Go.Proofs.YthbafcihmcjchaaGreatDoor.ScanM
