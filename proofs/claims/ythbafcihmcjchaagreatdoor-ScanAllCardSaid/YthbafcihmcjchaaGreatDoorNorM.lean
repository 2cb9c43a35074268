/- The plain mathematics of a device: a byte as bits, done through a mask; lists changed place by place. -/
import Derived.Test.YthbafcihmcjchaaGreatDoorByteS
namespace Go.Proofs.YthbafcihmcjchaaGreatDoor.NorM
set_option linter.unusedVariables false
set_option linter.unusedSimpArgs false

/-- The number of which bit j is B j, for j below k. -/
def bsum (B : Nat → Bool) : Nat → Nat
  | 0 => 0
  | k + 1 => bsum B k + (if B k then 2 ^ k else 0)
theorem bsum_lt (B : Nat → Bool) : ∀ k, bsum B k < 2 ^ k
  | 0 => by simp [bsum]
  | k + 1 => by
    have := bsum_lt B k
    have e : 2 ^ (k + 1) = 2 ^ k + 2 ^ k := by rw [Nat.pow_succ]; omega
    unfold bsum
    split <;> omega
theorem bsum_bit (B : Nat → Bool) (j : Nat) : ∀ k, (bsum B k).testBit j = (decide (j < k) && B j)
  | 0 => by simp [bsum]
  | k + 1 => by
    have ih := bsum_bit B j k
    have hl := bsum_lt B k
    have e : bsum B (k + 1) = 2 ^ k * (if B k then 1 else 0) + bsum B k := by
      show bsum B k + (if B k then 2 ^ k else 0) = _
      split <;> simp [Nat.add_comm]
    rw [e, Nat.testBit_two_pow_mul_add _ hl, ih]
    rcases Nat.lt_trichotomy j k with h | h | h
    · simp [h, show j < k + 1 by omega]
    · subst h
      cases B j <;> simp
    · have h1 : ¬ j < k := by omega
      have h2 : ¬ j < k + 1 := by omega
      have h3 : j - k ≠ 0 := by omega
      rw [if_neg h1]
      simp only [h2, decide_false, Bool.false_and]
      split
      · rw [Nat.testBit_eq_decide_div_mod_eq]
        have : 1 < 2 ^ (j - k) := Nat.one_lt_two_pow h3
        rw [Nat.div_eq_of_lt this]
        rfl
      · simp
def bit (x j : Nat) : Bool := x / 2 ^ j % 2 == 1
theorem bit_eq (x j : Nat) : bit x j = x.testBit j := by
  rw [Nat.testBit_eq_decide_div_mod_eq]
  unfold bit
  rw [Bool.eq_iff_iff]
  simp
/-- Which bits the document's answer has. -/
def bB (old other mask : Nat) (down : Bool) (j : Nat) : Bool := if bit mask j then (if down then bit old j && bit other j else true) else bit old j
def btN (old other mask : Nat) (down : Bool) : Nat := bsum (bB old other mask down) 8
theorem btN_lt (old other mask : Nat) (down : Bool) : btN old other mask down < 256 := bsum_lt _ 8
theorem small_bit {x j : Nat} (h : x < 256) (hj : ¬ j < 8) : x.testBit j = false :=
  Nat.testBit_lt_two_pow (Nat.lt_of_lt_of_le h (show 2 ^ 8 ≤ 2 ^ j from Nat.pow_le_pow_right (by omega) (by omega)))
theorem not_bit {m j : Nat} (h : m < 256) : (255 - m).testBit j = (decide (j < 8) && !m.testBit j) := by
  have e : 255 - m = 2 ^ 8 - (m + 1) := by omega
  rw [e, Nat.testBit_two_pow_sub_succ (by omega)]
theorem bt_down (old other mask : Nat) (h0 : old < 256) (h1 : mask < 256) : btN old other mask true = (old &&& (255 - mask)) ||| (old &&& other &&& mask) := by
  apply Nat.eq_of_testBit_eq
  intro j
  unfold btN
  rw [bsum_bit, Nat.testBit_or, Nat.testBit_and, Nat.testBit_and, Nat.testBit_and, not_bit h1]
  unfold bB
  rw [bit_eq, bit_eq, bit_eq]
  by_cases hj : j < 8
  · cases old.testBit j <;> cases other.testBit j <;> cases mask.testBit j <;> simp [hj]
  · rw [small_bit h0 hj, small_bit h1 hj]
    simp [hj]
theorem bt_up (old other mask : Nat) (h0 : old < 256) (h1 : mask < 256) : btN old other mask false = (old &&& (255 - mask)) ||| (255 &&& mask) := by
  apply Nat.eq_of_testBit_eq
  intro j
  unfold btN
  rw [bsum_bit, Nat.testBit_or, Nat.testBit_and, Nat.testBit_and, not_bit h1]
  have h255 : Nat.testBit 255 j = decide (j < 8) := by
    have := not_bit (m := 0) (j := j) (by omega)
    simpa using this
  rw [h255]
  unfold bB
  rw [bit_eq, bit_eq]
  by_cases hj : j < 8
  · cases old.testBit j <;> cases mask.testBit j <;> simp [hj]
  · rw [small_bit h0 hj, small_bit h1 hj]
    simp [hj]
theorem and_not_self (x : Nat) (h : x < 256) : x &&& (255 - x) = 0 := by
  apply Nat.eq_of_testBit_eq
  intro j
  rw [Nat.testBit_and, not_bit h]
  cases x.testBit j <;> simp
/-- No bit rises. -/
theorem bt_falls (old other mask : Nat) (h0 : old < 256) : btN old other mask true &&& (255 - old) = 0 := by
  apply Nat.eq_of_testBit_eq
  intro j
  unfold btN
  rw [Nat.testBit_and, bsum_bit, not_bit h0]
  unfold bB
  rw [bit_eq, bit_eq, bit_eq]
  cases old.testBit j <;> cases other.testBit j <;> cases mask.testBit j <;> simp
theorem bt_all (old other : Nat) (h0 : old < 256) : btN old other 255 true = old &&& other := by
  rw [bt_down _ _ _ h0 (by omega)]
  apply Nat.eq_of_testBit_eq
  intro j
  have h255 : Nat.testBit 255 j = decide (j < 8) := by
    have := not_bit (m := 0) (j := j) (by omega)
    simpa using this
  simp only [Nat.testBit_or, Nat.testBit_and, Nat.sub_self, Nat.zero_testBit, Bool.and_false, Bool.false_or, h255]
  by_cases hj : j < 8
  · simp [hj]
  · rw [small_bit h0 hj]
    simp
theorem bt_full (old other : Nat) (h0 : old < 256) : btN old other 255 false = 255 := by
  rw [bt_up _ _ _ h0 (by omega)]
  simp
theorem bt_none (old other : Nat) (down : Bool) (h0 : old < 256) : btN old other 0 down = old := by
  have e : old &&& 255 = old := by
    apply Nat.eq_of_testBit_eq
    intro j
    have h255 : Nat.testBit 255 j = decide (j < 8) := by
      have := not_bit (m := 0) (j := j) (by omega)
      simpa using this
    rw [Nat.testBit_and, h255]
    by_cases hj : j < 8
    · simp [hj]
    · rw [small_bit h0 hj]
      simp
  cases down
  · rw [bt_up _ _ _ h0 (by omega)]
    simp [e]
  · rw [bt_down _ _ _ h0 (by omega)]
    simp [e]

/-- The same over integers that are bytes. -/
def bt (old other mask : Int) (down : Bool) : Int := (btN old.toNat other.toNat mask.toNat down : Nat)
theorem bt_bd (old other mask : Int) (down : Bool) : 0 ≤ bt old other mask down ∧ bt old other mask down ≤ 255 := by
  have := btN_lt old.toNat other.toNat mask.toNat down
  unfold bt
  omega

theorem set_mapIdx (xs : List Int) (G H : Nat → Int → Int) (j : Nat) (v : Int) (hj : ∀ h : j < xs.length, v = H j xs[j]) (hne : ∀ (i : Nat) (h : i < xs.length), i ≠ j → G i xs[i] = H i xs[i]) :
    (xs.mapIdx G).set j v = xs.mapIdx H := by
  apply List.ext_getElem
  · simp
  · intro i h1 h2
    have hi : i < xs.length := by simpa using h2
    rw [List.getElem_mapIdx]
    by_cases e : i = j
    · subst e
      rw [List.getElem_set_self]
      exact hj hi
    · rw [List.getElem_set_ne (fun e' => e e'.symm), List.getElem_mapIdx]
      exact hne i hi e
theorem mapIdx_same (xs : List Int) (G : Nat → Int → Int) (h : ∀ (i : Nat) (h : i < xs.length), G i xs[i] = xs[i]) : xs.mapIdx G = xs := by
  apply List.ext_getElem
  · simp
  · intro i h1 h2
    rw [List.getElem_mapIdx]
    exact h i h2
theorem mapIdx_same2 (xs : List Int) (G H : Nat → Int → Int) (h : ∀ (i : Nat) (h : i < xs.length), G i xs[i] = H i xs[i]) : xs.mapIdx G = xs.mapIdx H := by
  apply List.ext_getElem
  · simp
  · intro i h1 h2
    rw [List.getElem_mapIdx, List.getElem_mapIdx]
    exact h i (by simpa using h1)
theorem getD_mapIdx (xs : List Int) (G : Nat → Int → Int) (j : Nat) (h : j < xs.length) : (xs.mapIdx G).getD j 0 = G j (xs.getD j 0) := by
  rw [List.getD_eq_getElem?_getD, List.getD_eq_getElem?_getD, List.getElem?_eq_getElem (by simpa using h), List.getElem?_eq_getElem h]
  simp
theorem mapIdx_mem {xs : List Int} {G : Nat → Int → Int} {y : Int} (hx : ∀ x ∈ xs, 0 ≤ x ∧ x ≤ 255) (hG : ∀ i x, 0 ≤ x → x ≤ 255 → 0 ≤ G i x ∧ G i x ≤ 255) (h : y ∈ xs.mapIdx G) : 0 ≤ y ∧ y ≤ 255 := by
  obtain ⟨i, hi, rfl⟩ := List.mem_mapIdx.1 h
  have := hx _ (List.getElem_mem hi)
  exact hG _ _ this.1 this.2

/-- What a byte of an act's becomes, whole: programmed, or erased. -/
def whl (down : Bool) (old other : Int) : Int := if down then ((old.toNat &&& other.toNat : Nat) : Int) else 255
/-- Through the mask, as the device's text has it. -/
def mixI (down : Bool) (old other mask : Int) : Int := (((old.toNat &&& (255 - mask.toNat)) ||| ((whl down old other).toNat &&& mask.toNat) : Nat) : Int)
theorem whl_bd (down : Bool) (old other : Int) (h0 : 0 ≤ old) (h1 : old ≤ 255) : 0 ≤ whl down old other ∧ whl down old other ≤ 255 := by
  unfold whl
  split
  · have : old.toNat &&& other.toNat ≤ old.toNat := Nat.and_le_left
    omega
  · omega
theorem whl_bt (down : Bool) (old other : Int) (h0 : 0 ≤ old) (h1 : old ≤ 255) : whl down old other = bt old other 255 down := by
  unfold whl bt
  cases down
  · rw [show (255 : Int).toNat = 255 from rfl, bt_full _ _ (by omega)]
    rfl
  · rw [show (255 : Int).toNat = 255 from rfl, bt_all _ _ (by omega)]
    rfl
theorem mix_bt (down : Bool) (old other mask : Int) (h0 : 0 ≤ old) (h1 : old ≤ 255) (h2 : 0 ≤ mask) (h3 : mask ≤ 255) : mixI down old other mask = bt old other mask down := by
  unfold mixI bt whl
  cases down
  · rw [bt_up _ _ _ (by omega) (by omega)]
    rfl
  · rw [bt_down _ _ _ (by omega) (by omega)]
    rfl
theorem same_bt (down : Bool) (old other : Int) (h0 : 0 ≤ old) (h1 : old ≤ 255) : bt old other 0 down = old := by
  unfold bt
  rw [show (0 : Int).toNat = 0 from rfl, bt_none _ _ _ (by omega)]
  omega
/-- The mask of byte j of an act: none was cut off; or the first k whole, the next one through the mask. -/
def mk (c : Option (Int × Int)) (j : Nat) : Int :=
  match c with
  | none => 255
  | some (k, m) => if (j : Int) < k then 255 else if (j : Int) = k then m else 0
/-- A sector's bytes behind an act on b's length of them from 'at' on. -/
def seg (down : Bool) (c : Option (Int × Int)) (off : Nat) (b xs : List Int) : List Int :=
  xs.mapIdx fun i x => if off ≤ i ∧ i < off + b.length then bt x (b.getD (i - off) 0) (mk c (i - off)) down else x
/-- The bytes behind k rounds. -/
def upTo (down : Bool) (off k : Nat) (b xs : List Int) : List Int :=
  xs.mapIdx fun i x => if off ≤ i ∧ i < off + k then whl down x (b.getD (i - off) 0) else x
theorem upTo_len (down : Bool) (off k : Nat) (b xs : List Int) : (upTo down off k b xs).length = xs.length := by simp [upTo]
theorem seg_len (down : Bool) (c : Option (Int × Int)) (off : Nat) (b xs : List Int) : (seg down c off b xs).length = xs.length := by simp [seg]
theorem upTo_zero (down : Bool) (off : Nat) (b xs : List Int) : upTo down off 0 b xs = xs := mapIdx_same _ _ fun i h => by
  rw [if_neg (by omega)]
theorem upTo_at (down : Bool) (off k j : Nat) (b xs : List Int) (h : off + j < xs.length) (hj : k ≤ j) : (upTo down off k b xs).getD (off + j) 0 = xs.getD (off + j) 0 := by
  unfold upTo
  rw [getD_mapIdx _ _ _ h, if_neg (by omega)]
theorem upTo_succ (down : Bool) (off k : Nat) (b xs : List Int) : (upTo down off k b xs).set (off + k) (whl down (xs.getD (off + k) 0) (b.getD k 0)) = upTo down off (k + 1) b xs := by
  unfold upTo
  refine set_mapIdx _ _ _ _ _ (fun h => ?_) (fun i h hne => ?_)
  · rw [if_pos (by omega), List.getD_eq_getElem?_getD, List.getElem?_eq_getElem h, Option.getD_some, Nat.add_sub_cancel_left]
  · by_cases h1 : off ≤ i ∧ i < off + k
    · rw [if_pos h1, if_pos (by omega)]
    · rw [if_neg h1, if_neg (by omega)]
theorem upTo_bytes {down : Bool} {off k : Nat} {b xs : List Int} (hx : ∀ x ∈ xs, 0 ≤ x ∧ x ≤ 255) : ∀ y ∈ upTo down off k b xs, 0 ≤ y ∧ y ≤ 255 := fun y hy => by
  refine mapIdx_mem hx (fun i x h0 h1 => ?_) hy
  split
  · exact whl_bd _ _ _ h0 h1
  · exact ⟨h0, h1⟩
theorem seg_bytes {down : Bool} {c : Option (Int × Int)} {off : Nat} {b xs : List Int} (hx : ∀ x ∈ xs, 0 ≤ x ∧ x ≤ 255) : ∀ y ∈ seg down c off b xs, 0 ≤ y ∧ y ≤ 255 := fun y hy => by
  refine mapIdx_mem hx (fun i x h0 h1 => ?_) hy
  split
  · exact bt_bd _ _ _ _
  · exact ⟨h0, h1⟩
theorem elem_bd {xs : List Int} (hx : ∀ x ∈ xs, 0 ≤ x ∧ x ≤ 255) {i : Nat} (h : i < xs.length) : 0 ≤ xs[i] ∧ xs[i] ≤ 255 := hx _ (List.getElem_mem h)
/-- All of it. -/
theorem upTo_all (down : Bool) (off : Nat) (b xs : List Int) (hx : ∀ x ∈ xs, 0 ≤ x ∧ x ≤ 255) : upTo down off b.length b xs = seg down none off b xs := by
  unfold upTo seg
  refine mapIdx_same2 _ _ _ fun i h => ?_
  have := elem_bd hx h
  by_cases h1 : off ≤ i ∧ i < off + b.length
  · rw [if_pos h1, if_pos h1, whl_bt _ _ _ this.1 this.2]
    rfl
  · rw [if_neg h1, if_neg h1]
/-- Cut off behind the whole of it. -/
theorem upTo_over (down : Bool) (off : Nat) (k m : Int) (b xs : List Int) (hx : ∀ x ∈ xs, 0 ≤ x ∧ x ≤ 255) (hk : (b.length : Int) ≤ k) : upTo down off b.length b xs = seg down (some (k, m)) off b xs := by
  unfold upTo seg
  refine mapIdx_same2 _ _ _ fun i h => ?_
  have := elem_bd hx h
  by_cases h1 : off ≤ i ∧ i < off + b.length
  · rw [if_pos h1, if_pos h1, whl_bt _ _ _ this.1 this.2]
    unfold mk
    simp only
    rw [if_pos (by omega)]
  · rw [if_neg h1, if_neg h1]
/-- Cut off within. -/
theorem upTo_cut (down : Bool) (off k : Nat) (m : Int) (b xs : List Int) (hx : ∀ x ∈ xs, 0 ≤ x ∧ x ≤ 255) (hk : k < b.length) (h2 : 0 ≤ m) (h3 : m ≤ 255) :
    (upTo down off k b xs).set (off + k) (mixI down (xs.getD (off + k) 0) (b.getD k 0) m) = seg down (some ((k : Int), m)) off b xs := by
  unfold upTo seg
  refine set_mapIdx _ _ _ _ _ (fun h => ?_) (fun i h hne => ?_)
  · have := elem_bd hx h
    rw [if_pos (by omega), List.getD_eq_getElem?_getD, List.getElem?_eq_getElem h, Option.getD_some, Nat.add_sub_cancel_left, mix_bt _ _ _ _ this.1 this.2 h2 h3]
    unfold mk
    simp
  · have := elem_bd hx h
    by_cases h1 : off ≤ i ∧ i < off + k
    · rw [if_pos h1, if_pos (by omega), whl_bt _ _ _ this.1 this.2]
      unfold mk
      simp only
      rw [if_pos (by omega)]
    · rw [if_neg h1]
      by_cases h4 : off ≤ i ∧ i < off + b.length
      · rw [if_pos h4]
        unfold mk
        simp only
        rw [if_neg (by omega), if_neg (by omega), same_bt _ _ _ this.1 this.2]
      · rw [if_neg h4]
end Go.Proofs.YthbafcihmcjchaaGreatDoor.NorM
