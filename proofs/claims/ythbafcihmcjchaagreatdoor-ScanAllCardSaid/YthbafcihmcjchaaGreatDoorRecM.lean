/- The plain mathematics of layer 6: a record's frame, what stands at a place of some bytes, what a cut leaves. Names no program. -/
import Derived.Test.YthbafcihmcjchaaGreatDoorPackM
import Derived.Test.YthbafcihmcjchaaGreatDoorSumM
namespace Go.Proofs.YthbafcihmcjchaaGreatDoor.RecM
open Go.Proofs.YthbafcihmcjchaaGreatDoor.Byte Go.Proofs.YthbafcihmcjchaaGreatDoor.PackM

/-- What flags say. -/
def stOf (f : Int) : Int := if f = 127 then 4 else if f = 63 then 5 else if f = 95 ∨ f = 31 then 6 else 3
theorem stOf_bd (f : Int) : stOf f = 3 ∨ stOf f = 4 ∨ stOf f = 5 ∨ stOf f = 6 := by
  unfold stOf
  repeat' split
  all_goals simp
/-- The length's bytes and the record, as they are summed. -/
def body (xs : List Int) : List Int := low 2 xs.length ++ xs
def front (f : Int) (xs : List Int) : List Int := [f] ++ low 2 xs.length ++ low 4 (SumM.sum (body xs))
def frame (f : Int) (xs : List Int) : List Int := front f xs ++ xs ++ [0]
theorem front_len (f : Int) (xs : List Int) : (front f xs).length = 7 := by simp [front, low_len]
theorem frame_len (f : Int) (xs : List Int) : (frame f xs).length = xs.length + 8 := by
  unfold frame
  rw [List.length_append, List.length_append, front_len, List.length_singleton]
  omega
theorem frame_bd (f : Int) (xs : List Int) (h0 : 0 ≤ f) (h1 : f ≤ 255) (h : ∀ x ∈ xs, 0 ≤ x ∧ x ≤ 255) : ∀ x ∈ frame f xs, 0 ≤ x ∧ x ≤ 255 := by
  intro x hx
  simp only [frame, front, List.mem_append, List.mem_singleton] at hx
  rcases hx with (((rfl | hx) | hx) | hx) | rfl
  · exact ⟨h0, h1⟩
  · exact low_bd _ _ x hx
  · exact low_bd _ _ x hx
  · exact h x hx
  · omega

/-- Nothing but 255 from a place on. -/
def blank (xs : List Int) (a : Nat) : Bool := (xs.drop a).all (· == 255)
/-- How long the record at a place is, by its length's bytes. -/
def rlen (xs : List Int) (a : Nat) : Nat := (256 * xs.getD (a + 1) 0 + xs.getD (a + 2) 0).toNat
def rec_ (xs : List Int) (a : Nat) : List Int := (xs.drop (a + 7)).take (rlen xs a)
/-- Whether a whole frame stands at a place, whatever its flags. -/
def whole (xs : List Int) (a : Nat) : Prop :=
  a + 8 + rlen xs a ≤ xs.length ∧ xs.getD (a + 7 + rlen xs a) 0 = 0 ∧ SumM.sum ((xs.drop (a + 1)).take 2 ++ rec_ xs a) = getn xs (a + 3) 4
instance (xs : List Int) (a : Nat) : Decidable (whole xs a) := by unfold whole; exact inferInstance
/-- The state, the record, behind it. -/
def cs (xs : List Int) (a : Int) : Int := if a < 0 ∨ (xs.length : Int) < a then 3 else if blank xs a.toNat = true then 0 else if whole xs a.toNat then stOf (xs.getD a.toNat 0) else 3
def cr (xs : List Int) (a : Int) : List Int := if cs xs a = 0 ∨ cs xs a = 3 then [] else rec_ xs a.toNat
def ce (xs : List Int) (a : Int) : Int := if cs xs a = 0 ∨ cs xs a = 3 then 0 else a + 8 + rlen xs a.toNat

theorem c_arg {xs : List Int} {a : Int} (h : a < 0 ∨ (xs.length : Int) < a) : cs xs a = 3 ∧ cr xs a = [] ∧ ce xs a = 0 := by
  have e : cs xs a = 3 := if_pos h
  unfold cr ce
  rw [e, if_pos (.inr rfl), if_pos (.inr rfl)]
  exact ⟨rfl, rfl, rfl⟩
theorem c_blank {xs : List Int} {a : Nat} (ha : a ≤ xs.length) (h : blank xs a = true) : cs xs a = 0 ∧ cr xs a = [] ∧ ce xs a = 0 := by
  have e : cs xs a = 0 := by
    unfold cs
    rw [if_neg (by omega), Int.toNat_natCast, if_pos h]
  unfold cr ce
  rw [e, if_pos (.inl rfl), if_pos (.inl rfl)]
  exact ⟨rfl, rfl, rfl⟩
theorem c_torn {xs : List Int} {a : Nat} (ha : a ≤ xs.length) (h : blank xs a = false) (hn : stOf (xs.getD a 0) = 3 ∨ ¬ whole xs a) : cs xs a = 3 ∧ cr xs a = [] ∧ ce xs a = 0 := by
  have e : cs xs a = 3 := by
    unfold cs
    rw [if_neg (by omega), Int.toNat_natCast, if_neg (by simp [h])]
    split
    · rename_i h'
      rcases hn with hn | hn
      · exact hn
      · exact absurd h' hn
    · rfl
  unfold cr ce
  rw [e, if_pos (.inr rfl), if_pos (.inr rfl)]
  exact ⟨rfl, rfl, rfl⟩
theorem c_rec {xs : List Int} {a : Nat} (ha : a ≤ xs.length) (h : blank xs a = false) (hs : stOf (xs.getD a 0) ≠ 3) (hw : whole xs a) : cs xs a = stOf (xs.getD a 0) ∧ cr xs a = rec_ xs a ∧ ce xs a = ((a + 8 + rlen xs a : Nat) : Int) := by
  have e : cs xs a = stOf (xs.getD a 0) := by
    unfold cs
    rw [if_neg (by omega), Int.toNat_natCast, if_neg (by simp [h]), if_pos hw]
  have hb := stOf_bd (xs.getD a 0)
  unfold cr ce
  rw [e, if_neg (by omega), if_neg (by omega), Int.toNat_natCast]
  exact ⟨rfl, rfl, by omega⟩
theorem rec_len {xs : List Int} {a : Nat} (h : a + 7 + rlen xs a ≤ xs.length) : (rec_ xs a).length = rlen xs a := by
  unfold rec_
  rw [List.length_take, List.length_drop]
  omega
theorem rlen_bd {xs : List Int} (h : ∀ x ∈ xs, 0 ≤ x ∧ x ≤ 255) (a : Nat) : rlen xs a ≤ 65535 ∧ (rlen xs a : Int) = 256 * xs.getD (a + 1) 0 + xs.getD (a + 2) 0 := by
  have hb : ∀ k, 0 ≤ xs.getD k 0 ∧ xs.getD k 0 ≤ 255 := fun k => by
    rw [List.getD_eq_getElem?_getD]
    rcases Nat.lt_or_ge k xs.length with hk | hk
    · rw [List.getElem?_eq_getElem hk]
      exact h _ (List.getElem_mem hk)
    · rw [List.getElem?_eq_none hk]
      simp
  have h1 := hb (a + 1)
  have h2 := hb (a + 2)
  unfold rlen
  omega
theorem getn_two {xs : List Int} (h : ∀ x ∈ xs, 0 ≤ x ∧ x ≤ 255) (a : Nat) (ha : a + 3 ≤ xs.length) : getn xs (a + 1) 2 = (rlen xs a : Int) := by
  have e : getn xs (a + 1) 2 = getn xs (a + 1) 1 * 256 + xs.getD (a + 2) 0 := get_succ xs (a + 1) 1 (by omega)
  rw [(rlen_bd h a).2, e, getn_one xs (a + 1) (by omega)]
  omega

/-! ### there and back -/
theorem drop_at (pre mid : List Int) (k : Nat) : (pre ++ mid).drop (pre.length + k) = mid.drop k := by
  rw [← List.drop_drop, List.drop_left]
theorem getD_at (pre mid : List Int) (k : Nat) : (pre ++ mid).getD (pre.length + k) 0 = mid.getD k 0 := by
  simp [List.getD_eq_getElem?_getD, List.getElem?_append_right]
theorem low2 (n : Nat) : low 2 (n : Int) = [(n : Int) / 256 % 256, (n : Int) % 256] := by simp [low]
theorem blank_at {xs : List Int} {a : Nat} (ha : a < xs.length) (h : xs.getD a 0 ≠ 255) : blank xs a = false := by
  unfold blank
  rw [List.all_eq_false]
  refine ⟨xs[a], ?_, ?_⟩
  · rw [List.drop_eq_getElem_cons ha]
    exact List.mem_cons_self
  · rw [List.getD_eq_getElem?_getD, List.getElem?_eq_getElem ha, Option.getD_some] at h
    simpa using h
theorem frame_getD0 (f : Int) (xs ys : List Int) : (frame f xs ++ ys).getD 0 0 = f := by simp [frame, front]
theorem frame_rlen (f : Int) (xs pre ys : List Int) (h : xs.length ≤ 65535) : rlen (pre ++ (frame f xs ++ ys)) pre.length = xs.length := by
  unfold rlen
  rw [getD_at, getD_at]
  unfold frame front
  rw [low2]
  simp
  omega
theorem frame_rec (f : Int) (xs pre ys : List Int) (h : xs.length ≤ 65535) : rec_ (pre ++ (frame f xs ++ ys)) pre.length = xs := by
  unfold rec_
  rw [frame_rlen f xs pre ys h, drop_at]
  unfold frame
  rw [List.append_assoc, List.append_assoc, List.drop_left' (front_len f xs), List.take_left]
theorem frame_sum (f : Int) (xs pre ys : List Int) : getn (pre ++ (frame f xs ++ ys)) (pre.length + 3) 4 = SumM.sum (body xs) := by
  have hb := SumM.sum_bd (body xs)
  unfold getn
  rw [drop_at]
  unfold frame front
  have e : ([f] ++ low 2 xs.length ++ low 4 (SumM.sum (body xs)) ++ xs ++ [0] ++ ys) = ([f] ++ low 2 xs.length) ++ (low 4 (SumM.sum (body xs)) ++ (xs ++ ([0] ++ ys))) := by simp
  rw [e, List.drop_left' (by simp [low_len]), List.take_left' (low_len 4 _), unbe_low]
  exact Int.emod_eq_of_lt hb.1 (by omega)
theorem frame_whole (f : Int) (xs pre ys : List Int) (h : xs.length ≤ 65535) : whole (pre ++ (frame f xs ++ ys)) pre.length := by
  unfold whole
  rw [frame_rec f xs pre ys h, frame_rlen f xs pre ys h, frame_sum]
  refine ⟨by rw [List.length_append, List.length_append, frame_len]; omega, ?_, ?_⟩
  · rw [Nat.add_assoc, getD_at]
    unfold frame
    rw [List.append_assoc, List.getD_eq_getElem?_getD, List.getElem?_append_right (by rw [List.length_append, front_len]; omega), List.length_append, front_len, Nat.add_comm 7, Nat.sub_self]
    rfl
  · rw [drop_at]
    unfold frame front
    have e : ([f] ++ low 2 xs.length ++ low 4 (SumM.sum (body xs)) ++ xs ++ [0] ++ ys) = [f] ++ (low 2 xs.length ++ (low 4 (SumM.sum (body xs)) ++ (xs ++ ([0] ++ ys)))) := by simp
    rw [e, show (1 : Nat) = [f].length from rfl, List.drop_left, List.take_left' (low_len 2 _)]
    rfl
/-- A record is found behind any bytes, by its flags. -/
theorem found (f : Int) (xs pre ys : List Int) (h : xs.length ≤ 65535) (hf : stOf f ≠ 3) :
    cs (pre ++ (frame f xs ++ ys)) pre.length = stOf f ∧ cr (pre ++ (frame f xs ++ ys)) pre.length = xs ∧ ce (pre ++ (frame f xs ++ ys)) pre.length = ((pre.length + xs.length + 8 : Nat) : Int) := by
  have h0 : (pre ++ (frame f xs ++ ys)).getD pre.length 0 = f := by
    rw [← frame_getD0 f xs ys]
    exact getD_at pre _ 0
  have hl : pre.length < (pre ++ (frame f xs ++ ys)).length := by rw [List.length_append, List.length_append, frame_len]; omega
  have hb : blank (pre ++ (frame f xs ++ ys)) pre.length = false := by
    refine blank_at hl ?_
    rw [h0]
    intro e
    subst e
    exact hf (by decide)
  obtain ⟨e1, e2, e3⟩ := c_rec (Nat.le_of_lt hl) hb (by rw [h0]; exact hf) (frame_whole f xs pre ys h)
  rw [h0] at e1
  rw [frame_rec f xs pre ys h] at e2
  rw [frame_rlen f xs pre ys h] at e3
  exact ⟨e1, e2, by rw [e3]; omega⟩

/-! ### cut off -/
/-- A frame that was programmed over 255 and cut off: n bytes of it, then one of which bits were taken, then 255. -/
def cut (fs : List Int) (n : Nat) (x : Int) (m : Nat) : List Int := fs.take n ++ ([x] ++ List.replicate m 255)
theorem cut_len {fs : List Int} {n m : Nat} {x : Int} (h : n < fs.length) : (cut fs n x m).length = n + 1 + m := by
  unfold cut
  rw [List.length_append, List.length_take, List.length_append, List.length_replicate, List.length_singleton]
  omega
theorem cut_lo {fs : List Int} {n m k : Nat} {x : Int} (h : n < fs.length) (hk : k < n) : (cut fs n x m).getD k 0 = fs.getD k 0 := by
  unfold cut
  rw [List.getD_eq_getElem?_getD, List.getElem?_append_left (by rw [List.length_take]; omega), List.getElem?_take_of_lt hk, ← List.getD_eq_getElem?_getD]
theorem cut_at {fs : List Int} {n m : Nat} {x : Int} (h : n < fs.length) : (cut fs n x m).getD n 0 = x := by
  unfold cut
  rw [List.getD_eq_getElem?_getD, List.getElem?_append_right (by rw [List.length_take]; omega), List.length_take, Nat.min_eq_left (by omega), Nat.sub_self]
  rfl
theorem cut_hi {fs : List Int} {n m k : Nat} {x : Int} (h : n < fs.length) (hk : n < k) (hm : k < n + 1 + m) : (cut fs n x m).getD k 0 = 255 := by
  unfold cut
  rw [List.getD_eq_getElem?_getD, List.getElem?_append_right (by rw [List.length_take]; omega), List.length_take, Nat.min_eq_left (by omega)]
  rw [List.getElem?_append_right (by simp; omega), List.length_singleton, List.getElem?_replicate, if_pos (by omega)]
  rfl
/-- No byte is less than the frame's. -/
theorem cut_ge {fs : List Int} {n m k : Nat} {x : Int} (hfs : ∀ y ∈ fs, 0 ≤ y ∧ y ≤ 255) (h : n < fs.length) (hx : fs.getD n 0 ≤ x) (hm : fs.length ≤ n + 1 + m) (hk : k < fs.length) : fs.getD k 0 ≤ (cut fs n x m).getD k 0 := by
  have hb : fs.getD k 0 ≤ 255 := by
    rw [List.getD_eq_getElem?_getD, List.getElem?_eq_getElem hk]
    exact (hfs _ (List.getElem_mem hk)).2
  rcases Nat.lt_trichotomy k n with h1 | rfl | h1
  · rw [cut_lo h h1]
    exact Int.le_refl _
  · rw [cut_at h]
    exact hx
  · rw [cut_hi h h1 (by omega)]
    exact hb
/-- Of a frame that was cut off nothing, or what is torn, or the whole frame is left. -/
theorem cut_off (xs : List Int) (n m : Nat) (x : Int) (hxs : ∀ y ∈ xs, 0 ≤ y ∧ y ≤ 255) (hl : xs.length ≤ 65535) (h : n < (frame 127 xs).length) (hx : (frame 127 xs).getD n 0 ≤ x) (hx1 : x ≤ 255)
    (hm : xs.length + 8 ≤ n + 1 + m) (hne : ∃ k, k < (frame 127 xs).length ∧ (cut (frame 127 xs) n x m).getD k 0 ≠ (frame 127 xs).getD k 0) (hnb : ∃ k, k < (frame 127 xs).length ∧ (cut (frame 127 xs) n x m).getD k 0 ≠ 255) :
    cs (cut (frame 127 xs) n x m) 0 = 3 ∧ cr (cut (frame 127 xs) n x m) 0 = [] := by
  have hfs := frame_bd 127 xs (by omega) (by omega) hxs
  have hfl := frame_len 127 xs
  have hcl := cut_len (m := m) (x := x) h
  have hge := fun k hk => cut_ge (m := m) (k := k) hfs h hx (by rw [hfl]; omega) hk
  have hbl : blank (cut (frame 127 xs) n x m) 0 = false := by
    obtain ⟨k, hk, hk2⟩ := hnb
    unfold blank
    rw [List.drop_zero, List.all_eq_false]
    have hk3 : k < (cut (frame 127 xs) n x m).length := by omega
    refine ⟨_, List.getElem_mem hk3, ?_⟩
    rw [List.getD_eq_getElem?_getD, List.getElem?_eq_getElem hk3, Option.getD_some] at hk2
    simpa using hk2
  have hx0 : 0 ≤ x := by
    refine Int.le_trans ?_ hx
    rw [List.getD_eq_getElem?_getD, List.getElem?_eq_getElem h]
    exact (hfs _ (List.getElem_mem h)).1
  have hbd : ∀ y ∈ cut (frame 127 xs) n x m, 0 ≤ y ∧ y ≤ 255 := by
    intro y hy
    simp only [cut, List.mem_append, List.mem_singleton] at hy
    rcases hy with hy | rfl | hy
    · exact hfs y (List.mem_of_mem_take hy)
    · exact ⟨hx0, hx1⟩
    · rw [List.eq_of_mem_replicate hy]
      omega
  have key : ¬ whole (cut (frame 127 xs) n x m) 0 := by
    intro hw
    obtain ⟨h1, h2, _⟩ := hw
    have hr := (rlen_bd hbd 0).2
    have hr' := (rlen_bd hfs 0).2
    have e0 : rlen (frame 127 xs) 0 = xs.length := by
      have := frame_rlen 127 xs [] [] hl
      simpa using this
    have g1 := hge 1 (by omega)
    have g2 := hge 2 (by omega)
    rw [e0] at hr'
    simp only [Nat.zero_add] at hr hr' h1 h2
    generalize rlen (cut (frame 127 xs) n x m) 0 = r at hr h1 h2
    have hrl : xs.length ≤ r := by omega
    have hpos : ¬ n < 7 + r := by
      intro hlt
      rw [cut_hi h hlt (by omega)] at h2
      omega
    have hn : n = 7 + r := by omega
    obtain ⟨k, hk, hk2⟩ := hne
    rcases Nat.lt_trichotomy k n with h3 | rfl | h3
    · exact hk2 (cut_lo h h3)
    · have e1 : ∀ j, j = 7 + r → (cut (frame 127 xs) k x m).getD j 0 = 0 := fun j hj => by rw [hj]; exact h2
      have e2 : ∀ j, j = 7 + r → (frame 127 xs).getD j 0 = 0 := fun j hj => by
        have hr2 : r = xs.length := by omega
        rw [hj, hr2]
        unfold frame
        rw [List.getD_eq_getElem?_getD, List.getElem?_append_right (by rw [List.length_append, front_len]; omega), List.length_append, front_len, Nat.sub_self]
        rfl
      exact hk2 ((e1 k hn).trans (e2 k hn).symm)
    · omega
  have r := c_torn (a := 0) (Nat.zero_le _) hbl (.inr key)
  exact ⟨r.1, r.2.1⟩
end Go.Proofs.YthbafcihmcjchaaGreatDoor.RecM
