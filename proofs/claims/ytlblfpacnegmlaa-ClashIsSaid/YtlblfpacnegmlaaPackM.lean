/- The plain mathematics of layer 3: numbers and texts as lists of bytes. Imports nothing of the program. -/
import Derived.Test.YtlblfpacnegmlaaByteS
namespace Go.Proofs.Ytlblfpacnegmlaa.PackM
open Go.Proofs.Ytlblfpacnegmlaa.Byte

/-- As how many bytes a number counts. -/
def width (n : Int) : Nat := if n < 1 then 1 else if 8 < n then 8 else n.toNat
theorem width_bd (n : Int) : 1 ≤ width n ∧ width n ≤ 8 := by
  unfold width
  split
  · omega
  · split <;> omega
theorem width_int (n : Int) : (width n : Int) = if n < 1 then 1 else if 8 < n then 8 else n := by
  unfold width
  split
  · rfl
  · split <;> omega
theorem width_of (k : Nat) (h1 : 1 ≤ k) (h8 : k ≤ 8) : width (k : Int) = k := by
  unfold width
  rw [if_neg (by omega), if_neg (by omega)]
  omega
theorem width_one : width 1 = 1 := rfl

/-- The lowest k bytes of x, the highest first. -/
def low : Nat → Int → List Int
  | 0, _ => []
  | k + 1, x => (x / 256 ^ k % 256) :: low k x
theorem low_len (k : Nat) (x : Int) : (low k x).length = k := by
  induction k with
  | zero => rfl
  | succ k ih => simp [low, ih]
theorem low_bd (k : Nat) (x : Int) : ∀ y ∈ low k x, 0 ≤ y ∧ y ≤ 255 := by
  induction k with
  | zero => intro y hy; cases hy
  | succ k ih =>
    intro y hy
    rcases List.mem_cons.1 hy with rfl | h
    · omega
    · exact ih y h
theorem low_one (x : Int) : low 1 x = [x % 256] := by simp [low]
theorem low_small (k : Nat) : low 1 (k : Int) = [((k % 256 : Nat) : Int)] := by rw [low_one]; congr 1
/-- Byte j (from the front) of the k bytes. -/
theorem low_getD (k : Nat) (x : Int) (j : Nat) (h : j < k) : (low k x).getD j 0 = x / 256 ^ (k - 1 - j) % 256 := by
  induction k generalizing j with
  | zero => omega
  | succ k ih =>
    cases j with
    | zero => simp [low]
    | succ j =>
      rw [low, List.getD_cons_succ, ih j (by omega)]
      congr 3
      omega
theorem low_mod (k : Nat) (x : Int) : low k (x % 256 ^ k) = low k x := by
  have h : ∀ j, j ≤ k → low j (x % 256 ^ k) = low j x := by
    intro j hj
    induction j with
    | zero => rfl
    | succ j ih =>
      rw [low, low, ih (by omega)]
      congr 1
      have e : (256 : Int) ^ k = 256 ^ j * (256 * 256 ^ (k - j - 1)) := by
        rw [← Int.mul_assoc, ← Int.pow_succ, ← Int.pow_add]
        congr 1
        omega
      have p : (0 : Int) < 256 ^ j := Int.pow_pos (by omega)
      have p2 : (0 : Int) < 256 ^ (k - j - 1) := Int.pow_pos (by omega)
      rw [e]
      rw [Int.mul_comm (256 ^ j), ← Int.emod_emod_of_dvd (x / 256 ^ j) (⟨256 ^ (k - j - 1), rfl⟩ : (256 : Int) ∣ 256 * 256 ^ (k - j - 1))]
      congr 1
      rw [Int.emod_def, Int.emod_def (x / 256 ^ j), Int.mul_comm (256 * 256 ^ (k - j - 1)) (256 ^ j), Int.mul_assoc (256 ^ j), Int.sub_eq_add_neg, ← Int.mul_neg, Int.add_mul_ediv_left _ _ (by omega), ← Int.ediv_ediv_of_nonneg (by omega)]
      omega
  exact h k (Nat.le_refl k)

theorem div_succ (x : Int) (j : Nat) : x / 256 ^ (j + 1) = x / 256 ^ j / 256 := by
  rw [Int.pow_succ, Int.ediv_ediv_of_nonneg (Int.le_of_lt (Int.pow_pos (by omega)))]
theorem rev_succ (x x' : Int) (j : Nat) (h : x' = x / 256 ^ j) : (low j x).reverse ++ [x' % 256] = (low (j + 1) x).reverse := by
  rw [low, List.reverse_cons, h]
theorem rev_at (k j : Nat) (x : Int) (h : j < k) : (low k x).reverse.getD (k - 1 - j) 0 = (low k x).getD j 0 := by
  simp only [List.getD_eq_getElem?_getD]
  rw [List.getElem?_reverse (by rw [low_len]; omega), low_len]
  congr 2
  omega
theorem take_next (k j : Nat) (x : Int) (h : j < k) : (low k x).take j ++ [(low k x).getD j 0] = (low k x).take (j + 1) := by
  rw [List.take_succ_eq_append_getElem (by rw [low_len]; exact h)]
  simp [List.getD, List.getElem?_eq_getElem (show j < (low k x).length by rw [low_len]; exact h)]
/-- The number that bytes are, the highest first. -/
def unbe (l : List Int) : Int := l.foldl (fun a b => a * 256 + b) 0
theorem unbe_snoc (l : List Int) (b : Int) : unbe (l ++ [b]) = unbe l * 256 + b := by simp [unbe]
theorem fold_bd (l : List Int) (h : ∀ x ∈ l, 0 ≤ x ∧ x ≤ 255) (a : Int) (j : Nat) (h0 : 0 ≤ a) (h1 : a < 256 ^ j) :
    0 ≤ l.foldl (fun a b => a * 256 + b) a ∧ l.foldl (fun a b => a * 256 + b) a < 256 ^ (j + l.length) := by
  induction l generalizing a j with
  | nil => exact ⟨h0, h1⟩
  | cons b l ih =>
    have hb := h b (by simp)
    have hp : (256 : Int) ^ (j + 1) = 256 ^ j * 256 := Int.pow_succ _ _
    have r := ih (fun x hx => h x (by simp [hx])) (a * 256 + b) (j + 1) (by omega) (by omega)
    rw [List.foldl_cons, List.length_cons]
    rw [show j + (l.length + 1) = j + 1 + l.length by omega]
    exact r
theorem unbe_bd (l : List Int) (h : ∀ x ∈ l, 0 ≤ x ∧ x ≤ 255) : 0 ≤ unbe l ∧ unbe l < 256 ^ l.length := by
  have r := fold_bd l h 0 0 (by omega) (by simp)
  rw [Nat.zero_add] at r
  exact r
theorem pow_mono (i k : Nat) (h : i ≤ k) : (256 : Int) ^ i ≤ 256 ^ k := by
  obtain ⟨d, rfl⟩ : ∃ d, k = i + d := ⟨k - i, by omega⟩
  induction d with
  | zero => exact Int.le_refl _
  | succ d ih =>
    have p : (0 : Int) < 256 ^ (i + d) := Int.pow_pos (by omega)
    have e : (256 : Int) ^ (i + (d + 1)) = 256 ^ (i + d) * 256 := Int.pow_succ _ _
    have := ih (by omega)
    omega
theorem low_snoc (k : Nat) (x : Int) : low (k + 1) x = low k (x / 256) ++ [x % 256] := by
  induction k with
  | zero => simp [low]
  | succ k ih =>
    rw [low, ih, low, List.cons_append]
    congr 2
    rw [Int.pow_succ, Int.mul_comm, Int.ediv_ediv_of_nonneg (by omega)]
theorem unbe_low (k : Nat) (x : Int) : unbe (low k x) = x % 256 ^ k := by
  induction k generalizing x with
  | zero => simp [low, unbe]
  | succ k ih =>
    rw [low_snoc, unbe_snoc, ih, Int.pow_succ]
    have p : (0 : Int) < 256 ^ k := Int.pow_pos (by omega)
    rw [Int.mul_comm (256 ^ k) 256]
    generalize hp : (256 : Int) ^ k = q at *
    have e : x % (256 * q) = x / 256 % q * 256 + x % 256 := by
      have a1 := Int.emod_def x (256 * q)
      rw [← Int.ediv_ediv_of_nonneg (by omega)] at a1
      have a2 := Int.emod_def (x / 256) q
      have a3 := Int.mul_assoc 256 q (x / 256 / q)
      omega
    exact e.symm

/-- The round of pack's loop. -/
theorem put_round (xs : List Int) (k i : Nat) (x : Int) (h : i < k) :
    (xs ++ (List.replicate (k - i) 0 ++ low i x)).set (xs.length + k - 1 - i) (x / 256 ^ i % 256) = xs ++ (List.replicate (k - (i + 1)) 0 ++ low (i + 1) x) := by
  have e : k - i = (k - (i + 1)) + 1 := by omega
  rw [e, List.replicate_succ', List.append_assoc, List.singleton_append]
  rw [show xs.length + k - 1 - i = (xs ++ List.replicate (k - (i + 1)) 0).length by simp; omega, ← List.append_assoc]
  rw [List.set_append_right _ _ (by omega)]
  simp [low]

/-- What stands where a number was put. -/
def getn (xs : List Int) (at_ : Nat) (k : Nat) : Int := unbe ((xs.drop at_).take k)
theorem get_bd (xs : List Int) (a k : Nat) (h : ∀ x ∈ xs, 0 ≤ x ∧ x ≤ 255) : 0 ≤ getn xs a k ∧ getn xs a k < 256 ^ k := by
  have h1 := unbe_bd ((xs.drop a).take k) (fun x hx => h x (List.mem_of_mem_drop (List.mem_of_mem_take hx)))
  refine ⟨h1.1, Int.lt_of_lt_of_le h1.2 ?_⟩
  exact pow_mono _ _ (by rw [List.length_take]; omega)
theorem get_succ (xs : List Int) (a i : Nat) (h : a + i < xs.length) : getn xs a (i + 1) = getn xs a i * 256 + xs.getD (a + i) 0 := by
  unfold getn
  rw [List.take_succ_eq_append_getElem (by rw [List.length_drop]; omega), unbe_snoc]
  congr 1
  simp [List.getD, List.getElem?_eq_getElem h]
theorem getn_zero (xs : List Int) (a : Nat) : getn xs a 0 = 0 := by simp [getn, unbe]
theorem getn_one (xs : List Int) (a : Nat) (h : a < xs.length) : getn xs a 1 = xs.getD a 0 := by
  rw [get_succ xs a 0 (by omega)]
  simp [getn, unbe]

/-- The three results of Get. -/
def gx (xs : List Int) (a n : Int) : Int := if a < 0 ∨ (xs.length : Int) < a then 0 else if (xs.length : Int) < a + width n then 0 else getn xs a.toNat (width n)
def gi (xs : List Int) (a n : Int) : Int := if a < 0 ∨ (xs.length : Int) < a then 0 else if (xs.length : Int) < a + width n then 0 else a + width n
def ge (xs : List Int) (a n : Int) : Int := if a < 0 ∨ (xs.length : Int) < a then 1 else if (xs.length : Int) < a + width n then 3 else 0
theorem g_arg (xs : List Int) (a n : Int) (h : a < 0 ∨ (xs.length : Int) < a) : gx xs a n = 0 ∧ gi xs a n = 0 ∧ ge xs a n = 1 := by
  unfold gx gi ge
  rw [if_pos h, if_pos h, if_pos h]
  exact ⟨rfl, rfl, rfl⟩
theorem g_short (xs : List Int) (a n : Int) (h : ¬ (a < 0 ∨ (xs.length : Int) < a)) (h2 : (xs.length : Int) < a + width n) : gx xs a n = 0 ∧ gi xs a n = 0 ∧ ge xs a n = 3 := by
  unfold gx gi ge
  rw [if_neg h, if_neg h, if_neg h, if_pos h2, if_pos h2, if_pos h2]
  exact ⟨rfl, rfl, rfl⟩
theorem g_ok (xs : List Int) (a n : Int) (h : ¬ (a < 0 ∨ (xs.length : Int) < a)) (h2 : ¬ (xs.length : Int) < a + width n) : gx xs a n = getn xs a.toNat (width n) ∧ gi xs a n = a + width n ∧ ge xs a n = 0 := by
  unfold gx gi ge
  rw [if_neg h, if_neg h, if_neg h, if_neg h2, if_neg h2, if_neg h2]
  exact ⟨rfl, rfl, rfl⟩

/-- The three results of GetText. -/
def te (xs : List Int) (a most : Int) : Int :=
  if ge xs a 1 ≠ 0 then ge xs a 1 else if most < xs.getD a.toNat 0 then 4 else if (xs.length : Int) < a + 1 + xs.getD a.toNat 0 then 3 else 0
def ti (xs : List Int) (a most : Int) : Int := if te xs a most ≠ 0 then 0 else a + 1 + xs.getD a.toNat 0
def tx (xs : List Int) (a most : Int) : ByteArray := if te xs a most ≠ 0 then ⟨#[]⟩ else str ((xs.drop (a.toNat + 1)).take (xs.getD a.toNat 0).toNat)

theorem t_arg (xs : List Int) (a m : Int) (h : a < 0 ∨ (xs.length : Int) < a) : tx xs a m = ⟨#[]⟩ ∧ ti xs a m = 0 ∧ te xs a m = 1 := by
  obtain ⟨_, _, c⟩ := g_arg xs a 1 h
  have ht : te xs a m = 1 := by
    unfold te
    rw [c, if_pos (by decide)]
  unfold tx ti
  rw [ht, if_pos (by decide), if_pos (by decide)]
  exact ⟨rfl, rfl, rfl⟩
theorem t_end (xs : List Int) (m : Int) : tx xs xs.length m = ⟨#[]⟩ ∧ ti xs xs.length m = 0 ∧ te xs xs.length m = 3 := by
  obtain ⟨_, _, c⟩ := g_short xs xs.length 1 (by omega) (by rw [width_one]; omega)
  have ht : te xs xs.length m = 3 := by
    unfold te
    rw [c, if_pos (by decide)]
  unfold tx ti
  rw [ht, if_pos (by decide), if_pos (by decide)]
  exact ⟨rfl, rfl, rfl⟩
theorem g_in (xs : List Int) (i : Nat) (h : i < xs.length) : gx xs i 1 = xs.getD i 0 ∧ gi xs i 1 = ((i + 1 : Nat) : Int) ∧ ge xs i 1 = 0 := by
  obtain ⟨a, b, c⟩ := g_ok xs i 1 (by omega) (by rw [width_one]; omega)
  rw [a, b, c, width_one, Int.toNat_natCast, getn_one xs i h]
  exact ⟨rfl, rfl, rfl⟩
theorem t_long (xs : List Int) (i : Nat) (m : Int) (h : i < xs.length) (hm : m < xs.getD i 0) : tx xs i m = ⟨#[]⟩ ∧ ti xs i m = 0 ∧ te xs i m = 4 := by
  obtain ⟨_, _, c⟩ := g_in xs i h
  have ht : te xs i m = 4 := by
    unfold te
    rw [c, if_neg (by decide), Int.toNat_natCast, if_pos hm]
  unfold tx ti
  rw [ht, if_pos (by decide), if_pos (by decide)]
  exact ⟨rfl, rfl, rfl⟩
theorem t_short (xs : List Int) (i : Nat) (m : Int) (h : i < xs.length) (hm : ¬ m < xs.getD i 0) (hs : (xs.length : Int) < i + 1 + xs.getD i 0) : tx xs i m = ⟨#[]⟩ ∧ ti xs i m = 0 ∧ te xs i m = 3 := by
  obtain ⟨_, _, c⟩ := g_in xs i h
  have ht : te xs i m = 3 := by
    unfold te
    rw [c, if_neg (by decide), Int.toNat_natCast, if_neg hm, if_pos hs]
  unfold tx ti
  rw [ht, if_pos (by decide), if_pos (by decide)]
  exact ⟨rfl, rfl, rfl⟩
theorem t_ok (xs : List Int) (i Y : Nat) (m : Int) (h : i < xs.length) (hy : xs.getD i 0 = Y) (hm : ¬ m < (Y : Int)) (hs : i + 1 + Y ≤ xs.length) : tx xs i m = str ((xs.drop (i + 1)).take Y) ∧ ti xs i m = ((i + 1 + Y : Nat) : Int) ∧ te xs i m = 0 := by
  obtain ⟨_, _, c⟩ := g_in xs i h
  have ht : te xs i m = 0 := by
    unfold te
    rw [c, if_neg (by decide), Int.toNat_natCast, hy, if_neg hm, if_neg (by omega)]
  unfold tx ti
  rw [ht, if_neg (by decide), if_neg (by decide), Int.toNat_natCast, hy, Int.toNat_natCast]
  exact ⟨rfl, rfl, rfl⟩

theorem str_next (xs : List Int) (p t : Nat) (h : p + t < xs.length) : str ((xs.drop p).take t) ++ str [xs.getD (p + t) 0] = str ((xs.drop p).take (t + 1)) := by
  rw [str_append, List.take_succ_eq_append_getElem (by rw [List.length_drop]; omega)]
  simp [List.getD, List.getElem?_eq_getElem h]
theorem wrap_pow (k : Nat) (h : k < 8) : IntKind.u64.wrap (2 ^ (8 * k)) = 256 ^ k ∧ 1 ≤ (256 : Int) ^ k := by
  have p7 := pow_mono k 7 (by omega)
  have e : (2 : Int) ^ (8 * k) = 256 ^ k := by
    rw [Int.pow_mul]
    rfl
  have p0 : (0 : Int) < 256 ^ k := Int.pow_pos (by omega)
  rw [IntKind.wrap_u64, e]
  generalize (256 : Int) ^ k = q at *
  omega
theorem mod_bd (x q : Int) (h : 1 ≤ q) : 0 ≤ x % q ∧ x % q < q := ⟨Int.emod_nonneg _ (by omega), Int.emod_lt_of_pos _ (by omega)⟩
theorem top_bd (x : Int) (k : Nat) (h0 : 0 ≤ x) (h1 : x ≤ 18446744073709551615) (h : k = 8) : 0 ≤ x ∧ x < 256 ^ k := by
  subst h
  exact ⟨h0, by omega⟩
/-- What is put is got. -/
theorem back (xs ys : List Int) (k : Nat) (x : Int) (h1 : 1 ≤ k) (h8 : k ≤ 8) (h0 : 0 ≤ x) (hx : x < 256 ^ k) :
    gx (xs ++ low k x ++ ys) (xs.length : Int) k = x ∧ gi (xs ++ low k x ++ ys) (xs.length : Int) k = ((xs.length + k : Nat) : Int) ∧ ge (xs ++ low k x ++ ys) (xs.length : Int) k = 0 := by
  have hl : (xs ++ low k x ++ ys).length = xs.length + k + ys.length := by simp [low_len]; omega
  obtain ⟨a, b, c⟩ := g_ok (xs ++ low k x ++ ys) (xs.length : Int) k (by rw [hl]; omega) (by rw [hl, width_of k h1 h8]; omega)
  rw [a, b, c, width_of k h1 h8]
  refine ⟨?_, by omega, rfl⟩
  unfold getn
  rw [Int.toNat_natCast, List.append_assoc, List.drop_left, List.take_left' (low_len k x), unbe_low]
  exact Int.emod_eq_of_lt h0 hx
theorem back_text (xs : List Int) (s : ByteArray) (hs : s.size ≤ 255) :
    te (xs ++ ((s.size : Int) :: txt s)) (xs.length : Int) 255 = 0 ∧ ti (xs ++ ((s.size : Int) :: txt s)) (xs.length : Int) 255 = ((xs.length + 1 + s.size : Nat) : Int) ∧ tx (xs ++ ((s.size : Int) :: txt s)) (xs.length : Int) 255 = s := by
  have hl : (xs ++ ((s.size : Int) :: txt s)).length = xs.length + 1 + s.size := by simp [txt_len]; omega
  obtain ⟨_, _, c⟩ := g_ok (xs ++ ((s.size : Int) :: txt s)) (xs.length : Int) 1 (by rw [hl]; omega) (by rw [hl, width_one]; omega)
  have hd : (xs ++ ((s.size : Int) :: txt s)).getD xs.length 0 = (s.size : Int) := by simp [List.getD]
  have ht : te (xs ++ ((s.size : Int) :: txt s)) (xs.length : Int) 255 = 0 := by
    unfold te
    rw [Int.toNat_natCast, c, hd, hl, if_neg (by simp), if_neg (by omega), if_neg (by omega)]
  refine ⟨ht, ?_, ?_⟩
  · unfold ti
    rw [ht, if_neg (by simp), Int.toNat_natCast, hd]
    omega
  · unfold tx
    rw [ht, if_neg (by simp), Int.toNat_natCast, hd, Int.toNat_natCast]
    have e : (xs ++ ((s.size : Int) :: txt s)).drop (xs.length + 1) = txt s := by
      rw [← List.drop_drop, List.drop_left]
      rfl
    rw [e, List.take_of_length_le (by rw [txt_len]; exact Nat.le_refl _), str_txt]
end Go.Proofs.Ytlblfpacnegmlaa.PackM
