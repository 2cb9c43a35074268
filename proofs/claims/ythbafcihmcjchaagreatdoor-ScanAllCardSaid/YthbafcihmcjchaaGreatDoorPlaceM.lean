/- Floats that are whole numbers, as plain mathematics: 'fv x' is what the word x stands for, in units of 2^-1074; 'rt x' says that this is a whole number from 0 to 2^31 - 1, 'nm x' is that number. What comparing, cutting, rounding down and converting make of such words. -/
import Derived.Laws.FloatArith
namespace Go.Proofs.YthbafcihmcjchaaGreatDoor.PlaceM
open Ieee

def deep : Nat := 1074
theorem deep_eq : deep = 1074 := rfl
def unit : Nat := 2 ^ deep
theorem unit_pos : 0 < unit := Nat.two_pow_pos _
theorem unit_int : (0 : Int) < (unit : Int) := Int.ofNat_lt.2 unit_pos

def fvd : Datum → Option Int
  | .number s m i => some (signed s m (i + 1074).toNat)
  | _ => none
def fv (x : Nat) : Option Int := fvd (FloatKind.f64.format.read x)

theorem signed_shift (s : Bool) (m k j : Nat) : signed s m (k + j) = signed s m k * ((2 ^ j : Nat) : Int) := by
  have e : m <<< (k + j) = (m <<< k) * 2 ^ j := by rw [Nat.shiftLeft_eq, Nat.shiftLeft_eq, Nat.pow_add, Nat.mul_assoc]
  unfold signed
  rw [e]
  cases s
  · simp
  · simp [Int.neg_mul]
theorem cmp_mul (a b k : Int) (hk : 0 < k) : compare (a * k) (b * k) = compare a b := by
  show compareOfLessAndEq _ _ = compareOfLessAndEq _ _
  unfold compareOfLessAndEq
  have h1 : (a * k < b * k) = (a < b) := propext (Int.mul_lt_mul_right hk)
  have h2 : (a * k = b * k) = (a = b) := propext (Int.mul_eq_mul_right_iff (by omega))
  simp only [h1, h2]
theorem order_num (s t : Bool) (m n : Nat) (i j : Int) (hi : -1074 ≤ i) (hj : -1074 ≤ j) :
    Datum.order (.number s m i) (.number t n j) = some (compare (signed s m (i + 1074).toNat) (signed t n (j + 1074).toNat)) := by
  have e1 : (i + 1074).toNat = (i - min i j).toNat + (min i j + 1074).toNat := by omega
  have e2 : (j + 1074).toNat = (j - min i j).toNat + (min i j + 1074).toNat := by omega
  show some (compare (signed s m (i - min i j).toNat) (signed t n (j - min i j).toNat)) = _
  rw [e1, e2, signed_shift, signed_shift, cmp_mul _ _ _ (Int.ofNat_lt.2 (Nat.two_pow_pos _))]
theorem read_place {x : Nat} {s : Bool} {m : Nat} {i : Int} (h : FloatKind.f64.format.read x = .number s m i) : -1074 ≤ i := by
  have hl : FloatKind.f64.format.leastPlace = -1074 := by decide
  unfold Format.read at h
  dsimp only at h
  rw [hl] at h
  split at h
  · injection h with _ _ h; omega
  · split at h
    · injection h with _ _ h; omega
    · split at h <;> cases h
theorem fv_num {x : Nat} {a : Int} (h : fv x = some a) : ∃ s m i, FloatKind.f64.format.read x = .number s m i ∧ -1074 ≤ i ∧ a = signed s m (i + 1074).toNat := by
  unfold fv at h
  cases hr : FloatKind.f64.format.read x with
  | number s m i =>
    rw [hr] at h
    injection h with h
    exact ⟨s, m, i, rfl, read_place hr, h.symm⟩
  | infinity _ => rw [hr] at h; cases h
  | nan _ _ => rw [hr] at h; cases h
theorem fv_order {x y : Nat} {a b : Int} (hx : fv x = some a) (hy : fv y = some b) : FloatKind.f64.format.order x y = some (compare a b) := by
  obtain ⟨s, m, i, hr, hi, rfl⟩ := fv_num hx
  obtain ⟨t, n, j, hs, hj, rfl⟩ := fv_num hy
  unfold Format.order
  rw [hr, hs, order_num _ _ _ _ _ _ hi hj]
/-- What is no number: it is not at least 0, or it is greater than any number. -/
theorem fv_none {x : Nat} (h : fv x = none) : (∀ y b, fv y = some b → FloatKind.f64.format.order x y = none ∨ FloatKind.f64.format.order x y = some .lt) ∨ (∀ y b, fv y = some b → FloatKind.f64.format.order x y = some .gt) := by
  unfold fv at h
  cases hr : FloatKind.f64.format.read x with
  | number s m i => rw [hr] at h; cases h
  | infinity s =>
    cases s
    · refine .inr fun y b hy => ?_
      obtain ⟨t, n, j, hs, hj, rfl⟩ := fv_num hy
      unfold Format.order
      rw [hr, hs]
      rfl
    · refine .inl fun y b hy => .inr ?_
      obtain ⟨t, n, j, hs, hj, rfl⟩ := fv_num hy
      unfold Format.order
      rw [hr, hs]
      rfl
  | nan s f =>
    refine .inl fun y b hy => .inl ?_
    unfold Format.order
    rw [hr]
    rfl

/-- Dropping digits towards zero divides. -/
theorem cut_zero (s : Bool) (n d : Nat) : Toward.zero.cut s n d = n / 2 ^ d := by
  unfold Toward.cut
  simp only [Bool.toNat_false, Nat.add_zero, Nat.shiftLeft_eq, Nat.one_mul]
  rcases Nat.le_total d (n.log2 + 2) with h | h
  · rw [Nat.min_eq_left h]
  · rw [Nat.min_eq_right h]
    have h1 : n < 2 ^ (n.log2 + 2) := Nat.lt_of_lt_of_le Nat.lt_log2_self (Nat.pow_le_pow_right (by omega) (by omega))
    have h2 : n < 2 ^ d := Nat.lt_of_lt_of_le h1 (Nat.pow_le_pow_right (by omega) h)
    rw [Nat.div_eq_of_lt h1, Nat.div_eq_of_lt h2]
theorem cut_down (s : Bool) (n d : Nat) (h : s = false ∨ n = 0) : Toward.down.cut s n d = n / 2 ^ d := by
  have e : Toward.down.cut s n d = Toward.zero.cut s n d := by
    rcases h with rfl | rfl
    · rfl
    · unfold Toward.cut
      simp
  rw [e, cut_zero]
theorem shift_div (m : Nat) (i : Int) (hi : -1074 ≤ i) : (m <<< i.toNat) / 2 ^ (-i).toNat = (m <<< (i + 1074).toNat) / unit := by
  have hd := deep_eq
  unfold unit
  rw [Nat.shiftLeft_eq, Nat.shiftLeft_eq]
  rcases Int.le_total 0 i with h | h
  · have e1 : (-i).toNat = 0 := by omega
    have e2 : (i + 1074).toNat = i.toNat + deep := by omega
    rw [e1, e2, Nat.pow_zero, Nat.div_one, Nat.pow_add, ← Nat.mul_assoc, Nat.mul_div_cancel _ (Nat.two_pow_pos _)]
  · have e1 : i.toNat = 0 := by omega
    have e2 : deep = (-i).toNat + (i + 1074).toNat := by omega
    rw [e1, Nat.pow_zero, Nat.mul_one, e2, Nat.pow_add, Nat.mul_comm (2 ^ (-i).toNat), Nat.mul_comm m, Nat.mul_div_mul_left _ _ (Nat.two_pow_pos _)]

theorem signed_false (m k : Nat) : signed false m k = ((m <<< k : Nat) : Int) := rfl
theorem signed_nonneg {s : Bool} {m k : Nat} (h : 0 ≤ signed s m k) : s = false ∨ m = 0 := by
  cases s
  · exact .inl rfl
  · refine .inr ?_
    have h' : 0 ≤ -((m <<< k : Nat) : Int) := h
    rw [Nat.shiftLeft_eq] at h'
    have : m * 2 ^ k = 0 := by omega
    rcases Nat.mul_eq_zero.1 this with h | h
    · exact h
    · exact absurd h (by have := Nat.two_pow_pos k; omega)
theorem signed_zero (s : Bool) (k : Nat) : signed s 0 k = 0 := by cases s <;> simp [signed]
/-- A number that is not below 0, cut towards 0. -/
theorem to_int {x : Nat} {a : Int} (h : fv x = some a) (h0 : 0 ≤ a) : (FloatKind.f64.format.read x).toInt .zero = some (a / (unit : Int)) := by
  obtain ⟨s, m, i, hr, hi, rfl⟩ := fv_num h
  rw [hr]
  show some (signed s (Toward.zero.cut s (m <<< i.toNat) (-i).toNat) 0) = _
  rw [cut_zero, shift_div m i hi]
  rcases signed_nonneg h0 with rfl | rfl
  · simp [signed]
  · simp [signed_zero]
theorem floor_of {x : Nat} {a : Int} (h : fv x = some a) (h0 : 0 ≤ a) : ∃ s, (FloatKind.f64.format.read x).integral .down = .number s (a / (unit : Int)).toNat 0 := by
  obtain ⟨s, m, i, hr, hi, rfl⟩ := fv_num h
  rw [hr]
  refine ⟨s, ?_⟩
  show Datum.number s (Toward.down.cut s (m <<< i.toNat) (-i).toNat) 0 = _
  have hs := signed_nonneg h0
  have e : s = false ∨ m <<< i.toNat = 0 := by
    rcases hs with h | h
    · exact .inl h
    · exact .inr (by rw [h]; simp)
  rw [cut_down _ _ _ e, shift_div m i hi]
  rcases hs with rfl | rfl
  · rw [signed_false, ← Int.natCast_ediv, Int.toNat_natCast]
  · simp [signed_zero]

theorem cut_none (s : Bool) (n : Nat) : Toward.even.cut s n 0 = n := by
  unfold Toward.cut
  simp [Nat.mod_one]
theorem log_pow {n k : Nat} (h0 : n ≠ 0) (h : n < 2 ^ k) : n.log2 < k := (Nat.log2_lt h0).2 h
/-- A whole number below 2^53 is written as it is. -/
theorem near (s : Bool) (n : Nat) (h : n < 9007199254740992) : fv (FloatKind.f64.format.nearest s n 0) = some (if s then -((n * unit : Nat) : Int) else ((n * unit : Nat) : Int)) := by
  have hl : FloatKind.f64.format.leastPlace = -1074 := by decide
  have hfb : FloatKind.f64.format.fractionBits = 52 := rfl
  have hb : FloatKind.f64.format.binade = 4503599627370496 := by decide
  have hi : FloatKind.f64.format.infRung = 9218868437227405312 := by decide
  have hs : FloatKind.f64.format.signWeight = 9223372036854775808 := by decide
  by_cases hn : n = 0
  · subst hn
    unfold Format.nearest
    rw [if_pos rfl]
    have hr : FloatKind.f64.format.read (FloatKind.f64.format.word s 0) = .number s 0 (-1074) := by cases s <;> decide
    unfold fv
    rw [hr]
    show some (signed s 0 _) = _
    rw [signed_zero, Nat.zero_mul]
    cases s <;> rfl
  · have h52 : n.log2 < 53 := log_pow hn (by omega)
    have hlo := Nat.log2_self_le hn
    have hhi : n < 2 ^ (n.log2 + 1) := Nat.lt_log2_self
    generalize hL : n.log2 = L at *
    have e0 : max ((0 : Int) + (L : Int) - ((52 : Nat) : Int)) (-1074) = (L : Int) - 52 := by omega
    have e1 : ((0 : Int) - ((L : Int) - 52)).toNat = 52 - L := by omega
    have e2 : (((L : Int) - 52) - 0).toNat = 0 := by omega
    have e3 : (((L : Int) - 52) - (-1074)).toNat = L + 1022 := by omega
    have p52 : 2 ^ L * 2 ^ (52 - L) = 4503599627370496 := by
      rw [← Nat.pow_add, show L + (52 - L) = 52 by omega]
    have hM1 : 4503599627370496 ≤ n * 2 ^ (52 - L) := by
      rw [← p52]; exact Nat.mul_le_mul_right _ hlo
    have hM2 : n * 2 ^ (52 - L) < 9007199254740992 := by
      have : n * 2 ^ (52 - L) < 2 ^ (L + 1) * 2 ^ (52 - L) := Nat.mul_lt_mul_of_pos_right hhi (Nat.two_pow_pos _)
      rw [Nat.pow_succ, Nat.mul_right_comm, p52] at this
      omega
    have hval : (n * 2 ^ (52 - L)) * 2 ^ (L + 1022) = n * unit := by
      unfold unit
      have e : 52 - L + (L + 1022) = deep := by have := deep_eq; omega
      rw [Nat.mul_assoc, ← Nat.pow_add, e]
    have hnear : FloatKind.f64.format.nearest s n 0 = (if s then 9223372036854775808 else 0) + ((L + 1022) * 4503599627370496 + n * 2 ^ (52 - L)) := by
      unfold Format.nearest
      rw [if_neg hn]
      dsimp only
      rw [hL, hfb, hl, e0, e1, e2, e3, cut_none, hb, hi, Nat.shiftLeft_eq, Nat.min_eq_left (by omega)]
      unfold Format.word
      rw [hs]
      cases s <;> simp
    generalize n * 2 ^ (52 - L) = M at *
    have hread : FloatKind.f64.format.read (FloatKind.f64.format.nearest s n 0) = .number s M ((L : Int) - 52) := by
      rw [hnear]
      unfold Format.read
      dsimp only
      rw [hb, hi, hs, hl]
      have q1 : ((if s = true then 9223372036854775808 else 0) + ((L + 1022) * 4503599627370496 + M)) % 9223372036854775808 = (L + 1022) * 4503599627370496 + M := by cases s <;> simp <;> omega
      have q2 : (((if s = true then 9223372036854775808 else 0) + ((L + 1022) * 4503599627370496 + M)) / 9223372036854775808 % 2 == 1) = s := by
        cases s <;> simp <;> omega
      have q3 : 4503599627370496 + ((L + 1022) * 4503599627370496 + M) % 4503599627370496 = M := by omega
      have q4 : (-1074 : Int) + ((((L + 1022) * 4503599627370496 + M) / 4503599627370496 - 1 : Nat) : Int) = (L : Int) - 52 := by omega
      rw [q1, q2, if_neg (by omega), if_pos (by omega), q3, q4]
    unfold fv
    rw [hread]
    show some (signed s M ((L : Int) - 52 + 1074).toNat) = _
    rw [show ((L : Int) - 52 + 1074).toNat = L + 1022 by omega]
    unfold signed
    rw [Nat.shiftLeft_eq, hval]

/-- The word of a whole number. -/
def wd (n : Int) : Nat := floatOfInt .f64 n
theorem wd_fv (n : Int) (h0 : 0 ≤ n) (h : n < 9007199254740992) : fv (wd n) = some (n * (unit : Int)) := by
  unfold wd floatOfInt FloatKind.nearest FloatKind.encode Format.write
  rw [near _ _ (by omega), decide_eq_false (by omega), if_neg (by simp)]
  congr 1
  rw [Int.natCast_mul]
  congr 1
  omega
theorem floor_fv {x : Nat} {a : Int} (h : fv x = some a) (h0 : 0 ≤ a) (h1 : a < 2147483648 * (unit : Int)) :
    fv (FloatKind.f64.encode ((FloatKind.f64.decode x).integral .down)) = some (a / (unit : Int) * (unit : Int)) := by
  obtain ⟨s, e⟩ := floor_of h h0
  have hq0 : 0 ≤ a / (unit : Int) := Int.ediv_nonneg h0 (Int.le_of_lt unit_int)
  have hq1 : a / (unit : Int) < 2147483648 := Int.ediv_lt_of_lt_mul unit_int h1
  unfold FloatKind.decode FloatKind.encode
  rw [e]
  unfold Format.write
  dsimp only
  rw [near _ _ (by omega)]
  have hsz : s = false ∨ (a / (unit : Int)).toNat = 0 := by
    obtain ⟨s', m, i, hr, hi, rfl⟩ := fv_num h
    rw [hr] at e
    injection e with e1 e2 e3
    subst e1
    rcases signed_nonneg h0 with h | h
    · exact .inl h
    · exact .inr (by subst h; simp [signed_zero])
  rcases hsz with rfl | hz
  · simp only [Bool.false_eq_true, if_false]
    rw [Int.natCast_mul, Int.toNat_of_nonneg hq0]
  · rw [hz]
    have : a / (unit : Int) = 0 := by omega
    rw [this]
    cases s <;> simp

/-- Right as a place's part: a whole number from 0 to 2^31 - 1; and that number. -/
def rt (x : Nat) : Bool := match fv x with
  | some a => decide (0 ≤ a ∧ a < 2147483648 * (unit : Int) ∧ a / (unit : Int) * (unit : Int) = a)
  | none => false
def nm (x : Nat) : Int := match fv x with
  | some a => a / (unit : Int)
  | none => 0
theorem rt_fv {x : Nat} (h : rt x = true) : fv x = some (nm x * (unit : Int)) ∧ 0 ≤ nm x ∧ nm x ≤ 2147483647 := by
  unfold rt at h
  unfold nm
  cases hf : fv x with
  | none => rw [hf] at h; cases h
  | some a =>
    rw [hf] at h
    simp only [decide_eq_true_eq] at h
    obtain ⟨h0, h1, h2⟩ := h
    refine ⟨?_, Int.ediv_nonneg h0 (Int.le_of_lt unit_int), ?_⟩
    · dsimp only; rw [h2]
    · have := Int.ediv_lt_of_lt_mul unit_int h1
      dsimp only
      omega
theorem rt_wd (n : Int) (h0 : 0 ≤ n) (h : n ≤ 2147483647) : rt (wd n) = true ∧ nm (wd n) = n := by
  have e := wd_fv n h0 (by omega)
  have hu := unit_int
  have d : n * (unit : Int) / (unit : Int) = n := Int.mul_ediv_cancel _ (by omega)
  unfold rt nm
  rw [e]
  simp only [d, decide_eq_true_eq]
  exact ⟨⟨Int.mul_nonneg h0 (by omega), Int.mul_lt_mul_of_pos_right (by omega) hu, trivial⟩, trivial⟩
theorem cmp_wd (a b : Int) : compare (a * (unit : Int)) (b * (unit : Int)) = compare a b := cmp_mul _ _ _ unit_int
theorem ord_eq {a b : Int} : compare a b = .eq ↔ a = b := Int.compare_eq_eq
theorem ord_lt {a b : Int} : compare a b = .lt ↔ a < b := Int.compare_eq_lt
theorem ord_gt {a b : Int} : compare a b = .gt ↔ b < a := Int.compare_eq_gt
end Go.Proofs.YthbafcihmcjchaaGreatDoor.PlaceM
