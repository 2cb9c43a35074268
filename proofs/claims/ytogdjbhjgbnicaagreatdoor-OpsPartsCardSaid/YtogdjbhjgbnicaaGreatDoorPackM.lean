import Derived.Test.YtogdjbhjgbnicaaGreatDoorByteS
namespace Go.Proofs.YtogdjbhjgbnicaaGreatDoor.PackM
open Byte
def width (n : Int) : Nat := if n < 1 then 1 else if 8 < n then 8 else n.toNat
theorem width_bd (n : Int) : 1 ≤ width n ∧ width n ≤ 8 := by
 unfold width
 split
 ·omega
 ·split <;> omega
theorem width_int (n : Int) : (width n : Int) = if n < 1 then 1 else if 8 < n then 8 else n := by
 unfold width
 split
 ·rfl
 ·split <;> omega
def low : Nat → Int → List Int
 | 0,_ => []
 | k + 1,x => (x / 256 ^ k % 256) :: low k x
theorem low_len (k : Nat) (x : Int) : (low k x).length = k := by
 induction k with
 | zero => rfl
 | succ k ih => simp [low,ih]
theorem low_bd (k : Nat) (x : Int) : ∀ y ∈ low k x,0 ≤ y ∧ y ≤ 255 := by
 induction k with
 | zero => intro y hy; cases hy
 | succ k ih =>
   intro y hy
   rcases List.mem_cons.1 hy with rfl | h
   ·omega
   ·exact ih y h
def unbe (l : List Int) : Int := l.foldl (fun a b => a * 256 + b) 0
theorem unbe_snoc (l : List Int) (b : Int) : unbe (l ++ [b]) = unbe l * 256 + b := by simp [unbe]
theorem fold_bd (l : List Int) (h : ∀ x ∈ l,0 ≤ x ∧ x ≤ 255) (a : Int) (j : Nat) (h0 : 0 ≤ a) (h1 : a < 256 ^ j) :
 0 ≤ l.foldl (fun a b => a * 256 + b) a ∧ l.foldl (fun a b => a * 256 + b) a < 256 ^ (j + l.length) := by
 induction l generalizing a j with
 | nil => exact ⟨h0,h1⟩
 | cons b l ih =>
   have hb := h b (by simp)
   have hp : (256 : Int) ^ (j + 1) = 256 ^ j * 256 := Int.pow_succ _ _
   have r := ih (fun x hx => h x (by simp [hx])) (a * 256 + b) (j + 1) (by omega) (by omega)
   rw [List.foldl_cons,List.length_cons]
   rw [show j + (l.length + 1) = j + 1 + l.length by omega]
   exact r
theorem unbe_bd (l : List Int) (h : ∀ x ∈ l,0 ≤ x ∧ x ≤ 255) : 0 ≤ unbe l ∧ unbe l < 256 ^ l.length := by
 have r := fold_bd l h 0 0 (by omega) (by simp)
 rw [Nat.zero_add] at r
 exact r
theorem pow_mono (i k : Nat) (h : i ≤ k) : (256 : Int) ^ i ≤ 256 ^ k := by
 obtain ⟨d,rfl⟩ : ∃ d,k = i + d := ⟨k - i,by omega⟩
 induction d with
 | zero => exact Int.le_refl _
 | succ d ih =>
   have p : (0 : Int) < 256 ^ (i + d) := Int.pow_pos (by omega)
   have e : (256 : Int) ^ (i + (d + 1)) = 256 ^ (i + d) * 256 := Int.pow_succ _ _
   have := ih (by omega)
   omega
theorem low_snoc (k : Nat) (x : Int) : low (k + 1) x = low k (x / 256) ++ [x % 256] := by
 induction k with
 | zero => simp [low]
 | succ k ih =>
   rw [low,ih,low,List.cons_append]
   congr 2
   rw [Int.pow_succ,Int.mul_comm,Int.ediv_ediv_of_nonneg (by omega)]
theorem unbe_low (k : Nat) (x : Int) : unbe (low k x) = x % 256 ^ k := by
 induction k generalizing x with
 | zero => simp [low,unbe]
 | succ k ih =>
   rw [low_snoc,unbe_snoc,ih,Int.pow_succ]
   have p : (0 : Int) < 256 ^ k := Int.pow_pos (by omega)
   rw [Int.mul_comm (256 ^ k) 256]
   generalize hp : (256 : Int) ^ k = q at *
   have e : x % (256 * q) = x / 256 % q * 256 + x % 256 := by
    have a1 := Int.emod_def x (256 * q)
    rw [← Int.ediv_ediv_of_nonneg (by omega)] at a1
    have a2 := Int.emod_def (x / 256) q
    have a3 := Int.mul_assoc 256 q (x / 256 / q)
    omega
   exact e.symm
theorem put_round (xs : List Int) (k i : Nat) (x : Int) (h : i < k) :
 (xs ++ (List.replicate (k - i) 0 ++ low i x)).set (xs.length + k - 1 - i) (x / 256 ^ i % 256) = xs ++ (List.replicate (k - (i + 1)) 0 ++ low (i + 1) x) := by
 have e : k - i = (k - (i + 1)) + 1 := by omega
 rw [e,List.replicate_succ',List.append_assoc,List.singleton_append]
 rw [show xs.length + k - 1 - i = (xs ++ List.replicate (k - (i + 1)) 0).length by simp; omega,← List.append_assoc]
 rw [List.set_append_right _ _ (by omega)]
 simp [low]
def getn (xs : List Int) (at_ : Nat) (k : Nat) : Int := unbe ((xs.drop at_).take k)
theorem get_bd (xs : List Int) (a k : Nat) (h : ∀ x ∈ xs,0 ≤ x ∧ x ≤ 255) : 0 ≤ getn xs a k ∧ getn xs a k < 256 ^ k := by
 have h1 := unbe_bd ((xs.drop a).take k) (fun x hx => h x (List.mem_of_mem_drop (List.mem_of_mem_take hx)))
 refine ⟨h1.1,Int.lt_of_lt_of_le h1.2 ?_⟩
 exact pow_mono _ _ (by rw [List.length_take]; omega)
theorem get_succ (xs : List Int) (a i : Nat) (h : a + i < xs.length) : getn xs a (i + 1) = getn xs a i * 256 + xs.getD (a + i) 0 := by
 unfold getn
 rw [List.take_succ_eq_append_getElem (by rw [List.length_drop]; omega),unbe_snoc]
 congr 1
 simp [List.getD,List.getElem?_eq_getElem h]
theorem getn_zero (xs : List Int) (a : Nat) : getn xs a 0 = 0 := by simp [getn,unbe]
def gx (xs : List Int) (a n : Int) : Int := if a < 0 ∨ (xs.length : Int) < a then 0 else if (xs.length : Int) < a + width n then 0 else getn xs a.toNat (width n)
def gi (xs : List Int) (a n : Int) : Int := if a < 0 ∨ (xs.length : Int) < a then 0 else if (xs.length : Int) < a + width n then 0 else a + width n
def ge (xs : List Int) (a n : Int) : Int := if a < 0 ∨ (xs.length : Int) < a then 1 else if (xs.length : Int) < a + width n then 3 else 0
theorem g_arg (xs : List Int) (a n : Int) (h : a < 0 ∨ (xs.length : Int) < a) : gx xs a n = 0 ∧ gi xs a n = 0 ∧ ge xs a n = 1 := by
 unfold gx gi ge
 rw [if_pos h,if_pos h,if_pos h]
 exact ⟨rfl,rfl,rfl⟩
theorem g_short (xs : List Int) (a n : Int) (h : ¬ (a < 0 ∨ (xs.length : Int) < a)) (h2 : (xs.length : Int) < a + width n) : gx xs a n = 0 ∧ gi xs a n = 0 ∧ ge xs a n = 3 := by
 unfold gx gi ge
 rw [if_neg h,if_neg h,if_neg h,if_pos h2,if_pos h2,if_pos h2]
 exact ⟨rfl,rfl,rfl⟩
theorem g_ok (xs : List Int) (a n : Int) (h : ¬ (a < 0 ∨ (xs.length : Int) < a)) (h2 : ¬ (xs.length : Int) < a + width n) : gx xs a n = getn xs a.toNat (width n) ∧ gi xs a n = a + width n ∧ ge xs a n = 0 := by
 unfold gx gi ge
 rw [if_neg h,if_neg h,if_neg h,if_neg h2,if_neg h2,if_neg h2]
 exact ⟨rfl,rfl,rfl⟩
end Go.Proofs.YtogdjbhjgbnicaaGreatDoor.PackM