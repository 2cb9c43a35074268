/- Plain mathematics of layer 1 (no program is named here): the two parts of a sum as a fold over the bytes, their closed form (plain and weighted totals), what is behind what, and that one other byte, or two neighbours turned round, give another sum. Conditions: bytes lie in 0..255 where said. -/
import Derived.WalkKit
namespace Go.Proofs.YthbafcihmcjchaaGreatDoor.SumM

/-- One byte more, on both parts. -/
def st (p : Int × Int) (x : Int) : Int × Int := ((p.1 + x) % 65521, (p.2 + (p.1 + x) % 65521) % 65521)
/-- Both parts behind some bytes, from l and h on. -/
def run (l h : Int) (xs : List Int) : Int × Int := xs.foldl st (l, h)
/-- May a sum be? -/
def may (s : Int) : Bool := decide (s % 65536 < 65521) && decide (s / 65536 < 65521)
def join (p : Int × Int) : Int := 65536 * p.2 + p.1
def more (s : Int) (xs : List Int) : Int := if may s = true then join (run (s % 65536) (s / 65536) xs) else s
def sum (xs : List Int) : Int := join (run 1 0 xs)
/-- The plain total, and the weighted one. -/
def tot : List Int → Int
  | [] => 0
  | x :: r => x + tot r
def wgt : List Int → Int
  | [] => 0
  | x :: r => (r.length + 1) * x + wgt r

theorem run_nil (l h : Int) : run l h [] = (l, h) := rfl
theorem run_snoc (l h : Int) (xs : List Int) (x : Int) : run l h (xs ++ [x]) = st (run l h xs) x := by simp [run, List.foldl_append]
theorem run_append (l h : Int) (xs ys : List Int) : run l h (xs ++ ys) = run (run l h xs).1 (run l h xs).2 ys := by simp [run, List.foldl_append]
theorem run_take (l h : Int) (xs : List Int) (k : Nat) (hk : k < xs.length) : run l h (xs.take (k + 1)) = st (run l h (xs.take k)) (xs.getD k 0) := by
  rw [List.take_succ_eq_append_getElem hk, run_snoc]
  simp [hk]
theorem run_bd : ∀ (xs : List Int) (l h : Int), 0 ≤ l → l < 65521 → 0 ≤ h → h < 65521 → 0 ≤ (run l h xs).1 ∧ (run l h xs).1 < 65521 ∧ 0 ≤ (run l h xs).2 ∧ (run l h xs).2 < 65521 := by
  intro xs
  induction xs with
  | nil => intro l h a b c d; exact ⟨a, b, c, d⟩
  | cons x r ih =>
    intro l h a b c d
    exact ih _ _ (by omega) (by omega) (by omega) (by omega)
theorem run_eq : ∀ (xs : List Int) (l h : Int), 0 ≤ l → l < 65521 → 0 ≤ h → h < 65521 → run l h xs = ((l + tot xs) % 65521, (h + xs.length * l + wgt xs) % 65521) := by
  intro xs
  induction xs with
  | nil => intro l h a b c d; simp [run, tot, wgt]; omega
  | cons x r ih =>
    intro l h a b c d
    have e := ih ((l + x) % 65521) ((h + (l + x) % 65521) % 65521) (by omega) (by omega) (by omega) (by omega)
    show run ((l + x) % 65521) ((h + (l + x) % 65521) % 65521) r = _
    rw [e]
    simp only [tot, wgt, List.length_cons, Int.natCast_add, Int.natCast_one, Prod.mk.injEq]
    refine ⟨by omega, ?_⟩
    have hm : ∀ y : Int, (r.length : Int) * (y % 65521) % 65521 = (r.length : Int) * y % 65521 := fun y => by rw [Int.mul_emod, Int.emod_emod_of_dvd _ (Int.dvd_refl _), ← Int.mul_emod]
    have h1 := hm (l + x)
    have h2 : (r.length : Int) * (l + x) = r.length * l + r.length * x := Int.mul_add _ _ _
    have h3 : ((r.length : Int) + 1) * l = r.length * l + l := by rw [Int.add_mul, Int.one_mul]
    have h4 : ((r.length : Int) + 1) * x = r.length * x + x := by rw [Int.add_mul, Int.one_mul]
    rw [h3, h4]
    rw [h2] at h1
    generalize (r.length : Int) * ((l + x) % 65521) = u at *
    generalize (r.length : Int) * l = v at *
    generalize (r.length : Int) * x = z at *
    omega
theorem tot_append (xs ys : List Int) : tot (xs ++ ys) = tot xs + tot ys := by
  induction xs with
  | nil => simp [tot]
  | cons x r ih => simp only [List.cons_append, tot, ih]; omega
theorem wgt_append (xs ys : List Int) : wgt (xs ++ ys) = wgt xs + ys.length * tot xs + wgt ys := by
  induction xs with
  | nil => simp [tot, wgt]
  | cons x r ih =>
    simp only [List.cons_append, tot, wgt, ih, List.length_append, Int.natCast_add]
    have h1 : ((r.length : Int) + ys.length + 1) * x = (r.length + 1) * x + ys.length * x := by
      rw [← Int.add_mul]; congr 1; omega
    have h2 : (ys.length : Int) * (x + tot r) = ys.length * x + ys.length * tot r := Int.mul_add _ _ _
    rw [h1, h2]
    omega

/-! ### sums that may be, and what they bear -/
theorem may_join {p : Int × Int} (a : 0 ≤ p.1) (b : p.1 < 65521) (_ : 0 ≤ p.2) (d : p.2 < 65521) : may (join p) = true ∧ join p % 65536 = p.1 ∧ join p / 65536 = p.2 := by
  unfold join may
  have h1 : (65536 * p.2 + p.1) % 65536 = p.1 := by omega
  have h2 : (65536 * p.2 + p.1) / 65536 = p.2 := by omega
  rw [h1, h2]
  simp [b, d]
theorem may_iff (s : Int) : may s = true ↔ s % 65536 < 65521 ∧ s / 65536 < 65521 := by simp [may]
theorem join_bd {p : Int × Int} (a : 0 ≤ p.1) (b : p.1 < 65521) (c : 0 ≤ p.2) (d : p.2 < 65521) : 0 ≤ join p ∧ join p ≤ 4294967295 := by unfold join; omega
theorem sum_bd (xs : List Int) : 0 ≤ sum xs ∧ sum xs ≤ 4294967295 := by
  obtain ⟨a, b, c, d⟩ := run_bd xs 1 0 (by omega) (by omega) (by omega) (by omega)
  exact join_bd a b c d
theorem more_bd (s : Int) (xs : List Int) (h0 : 0 ≤ s) (h1 : s ≤ 4294967295) : 0 ≤ more s xs ∧ more s xs ≤ 4294967295 := by
  unfold more
  split
  · rename_i h
    rw [may_iff] at h
    obtain ⟨a, b, c, d⟩ := run_bd xs (s % 65536) (s / 65536) (by omega) (by omega) (by omega) (by omega)
    exact join_bd a b c d
  · exact ⟨h0, h1⟩
theorem more_one (xs : List Int) : more 1 xs = sum xs := by
  have h : may 1 = true := by decide
  unfold more
  rw [if_pos h]
  rfl
theorem sum_may (xs : List Int) : may (sum xs) = true := by
  obtain ⟨a, b, c, d⟩ := run_bd xs 1 0 (by omega) (by omega) (by omega) (by omega)
  exact (may_join a b c d).1
theorem more_sum (xs ys : List Int) : more (sum xs) ys = sum (xs ++ ys) := by
  obtain ⟨a, b, c, d⟩ := run_bd xs 1 0 (by omega) (by omega) (by omega) (by omega)
  obtain ⟨h1, h2, h3⟩ := may_join a b c d
  unfold more sum
  rw [if_pos h1, h2, h3, run_append]

/-- Two sums joined, the second of n bytes. -/
def joins (a b : Int) (n : Int) : Int :=
  if n < 1 ∨ may a = false ∨ may b = false then a
  else 65536 * ((a / 65536 + b / 65536 + (n % 65521) * ((a % 65536 + 65520) % 65521) % 65521) % 65521) + ((a % 65536 + 65520) % 65521 + b % 65536) % 65521
theorem joins_sum (xs ys : List Int) : joins (sum xs) (sum ys) ys.length = sum (xs ++ ys) := by
  obtain ⟨a, b, c, d⟩ := run_bd xs 1 0 (by omega) (by omega) (by omega) (by omega)
  obtain ⟨a', b', c', d'⟩ := run_bd ys 1 0 (by omega) (by omega) (by omega) (by omega)
  obtain ⟨h1, h2, h3⟩ := may_join a b c d
  obtain ⟨h1', h2', h3'⟩ := may_join a' b' c' d'
  cases ys with
  | nil => simp [joins]
  | cons y r =>
    generalize hys : y :: r = ys at *
    have hn : ¬ ((ys.length : Int) < 1 ∨ may (sum xs) = false ∨ may (sum ys) = false) := by
      unfold sum
      rw [h1, h1', ← hys]
      simp
      omega
    unfold joins
    rw [if_neg hn]
    have q2 : sum xs % 65536 = (run 1 0 xs).1 := h2
    have q3 : sum xs / 65536 = (run 1 0 xs).2 := h3
    have q2' : sum ys % 65536 = (run 1 0 ys).1 := h2'
    have q3' : sum ys / 65536 = (run 1 0 ys).2 := h3'
    rw [q2, q3, q2', q3']
    have e := run_eq xs 1 0 (by omega) (by omega) (by omega) (by omega)
    have e' := run_eq ys 1 0 (by omega) (by omega) (by omega) (by omega)
    have e2 := run_eq (xs ++ ys) 1 0 (by omega) (by omega) (by omega) (by omega)
    show _ = join (run 1 0 (xs ++ ys))
    unfold join
    rw [e, e', e2]
    simp only [tot_append, wgt_append, List.length_append, Int.natCast_add, Int.mul_one]
    have hm : (ys.length : Int) % 65521 * (((1 + tot xs) % 65521 + 65520) % 65521) % 65521 = (ys.length : Int) * tot xs % 65521 := by
      have t : ((1 + tot xs) % 65521 + 65520) % 65521 = tot xs % 65521 := by omega
      rw [t, ← Int.mul_emod]
    rw [hm]
    generalize (ys.length : Int) * tot xs = z at *
    have low : (((1 + tot xs) % 65521 + 65520) % 65521 + (1 + tot ys) % 65521) % 65521 = (1 + (tot xs + tot ys)) % 65521 := by omega
    have high : ((0 + (xs.length : Int) + wgt xs) % 65521 + (0 + (ys.length : Int) + wgt ys) % 65521 + z % 65521) % 65521 = (0 + ((xs.length : Int) + ys.length) + (wgt xs + z + wgt ys)) % 65521 := by omega
    rw [low, high]

/-! ### spoilt bytes -/
theorem tot_set : ∀ (xs : List Int) (i : Nat) (v : Int), i < xs.length → tot (xs.set i v) = tot xs + (v - xs.getD i 0) := by
  intro xs
  induction xs with
  | nil => intro i v h; simp at h
  | cons x r ih =>
    intro i v h
    cases i with
    | zero => simp [tot]; omega
    | succ i =>
      have := ih i v (by simpa using h)
      simp only [List.set_cons_succ, tot, this, List.getD_cons_succ]
      omega
theorem wgt_set : ∀ (xs : List Int) (i : Nat) (v : Int), i < xs.length → wgt (xs.set i v) = wgt xs + ((xs.length : Int) - i) * (v - xs.getD i 0) := by
  intro xs
  induction xs with
  | nil => intro i v h; simp at h
  | cons x r ih =>
    intro i v h
    cases i with
    | zero =>
      simp only [List.set_cons_zero, wgt, List.getD_cons_zero, List.length_cons, Int.natCast_add, Int.natCast_one, Int.natCast_zero, Int.sub_zero]
      rw [Int.mul_sub]
      omega
    | succ i =>
      have h2 := ih i v (by simpa using h)
      simp only [List.set_cons_succ, wgt, h2, List.getD_cons_succ, List.length_set, List.length_cons, Int.natCast_add, Int.natCast_one]
      have : ((r.length : Int) + 1 - (i + 1)) = r.length - i := by omega
      rw [this]
      omega
/-- One byte that is another one: another sum. -/
theorem spoilt_one (xs : List Int) (i : Nat) (v : Int) (hi : i < xs.length) (h0 : 0 ≤ xs.getD i 0) (h1 : xs.getD i 0 ≤ 255) (h2 : 0 ≤ v) (h3 : v ≤ 255) (hne : v ≠ xs.getD i 0) : sum (xs.set i v) ≠ sum xs := by
  intro h
  have e := run_eq xs 1 0 (by omega) (by omega) (by omega) (by omega)
  have e2 := run_eq (xs.set i v) 1 0 (by omega) (by omega) (by omega) (by omega)
  unfold sum join at h
  rw [e, e2] at h
  have t := tot_set xs i v hi
  simp only [] at h
  rw [t] at h
  omega
/-- Two neighbours that differ, turned round: another sum. -/
theorem spoilt_two (xs : List Int) (i : Nat) (hi : i + 1 < xs.length) (h0 : 0 ≤ xs.getD i 0) (h1 : xs.getD i 0 ≤ 255) (h2 : 0 ≤ xs.getD (i + 1) 0) (h3 : xs.getD (i + 1) 0 ≤ 255)
    (hne : xs.getD i 0 ≠ xs.getD (i + 1) 0) : sum ((xs.set i (xs.getD (i + 1) 0)).set (i + 1) (xs.getD i 0)) ≠ sum xs := by
  intro h
  have e := run_eq xs 1 0 (by omega) (by omega) (by omega) (by omega)
  have e2 := run_eq ((xs.set i (xs.getD (i + 1) 0)).set (i + 1) (xs.getD i 0)) 1 0 (by omega) (by omega) (by omega) (by omega)
  unfold sum join at h
  rw [e, e2] at h
  have g : (xs.set i (xs.getD (i + 1) 0)).getD (i + 1) 0 = xs.getD (i + 1) 0 := by
    simp [List.getD_eq_getElem?_getD]
  have t1 := tot_set xs i (xs.getD (i + 1) 0) (by omega)
  have t2 := tot_set (xs.set i (xs.getD (i + 1) 0)) (i + 1) (xs.getD i 0) (by simpa using hi)
  have w1 := wgt_set xs i (xs.getD (i + 1) 0) (by omega)
  have w2 := wgt_set (xs.set i (xs.getD (i + 1) 0)) (i + 1) (xs.getD i 0) (by simpa using hi)
  rw [g] at t2 w2
  simp only [List.length_set] at w2 h
  generalize xs.getD i 0 = u at *
  generalize xs.getD (i + 1) 0 = v at *
  have w3 : wgt ((xs.set i v).set (i + 1) u) = wgt xs + (v - u) := by
    rw [w2, w1]
    have a1 : ((xs.length : Int) - ((i + 1 : Nat) : Int)) * (u - v) = -(((xs.length : Int) - i) * (v - u)) + (v - u) := by
      have : ((xs.length : Int) - ((i + 1 : Nat) : Int)) = (xs.length - i) - 1 := by omega
      rw [this, Int.sub_mul, Int.one_mul]
      have : (u - v) = -(v - u) := by omega
      rw [this, Int.mul_neg]
      omega
    rw [a1]
    omega
  rw [t2, t1, w3] at h
  omega
end Go.Proofs.YthbafcihmcjchaaGreatDoor.SumM
