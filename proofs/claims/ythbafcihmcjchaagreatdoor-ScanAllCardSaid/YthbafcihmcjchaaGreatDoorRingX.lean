/- There and back, as plain mathematics: what is written is got; what is got is written as it stood. Names no program. -/
import Derived.Test.YthbafcihmcjchaaGreatDoorRingN
namespace Go.Proofs.YthbafcihmcjchaaGreatDoor.RingX
open Go.Proofs.YthbafcihmcjchaaGreatDoor.Byte Go.Proofs.YthbafcihmcjchaaGreatDoor.PackM Go.Proofs.YthbafcihmcjchaaGreatDoor.PlaceM Go.Proofs.YthbafcihmcjchaaGreatDoor.RingM Go.Proofs.YthbafcihmcjchaaGreatDoor.RingN

/-- The item that is got back: as it was, but for -0. -/
def back (x : It) : It := ⟨x.seq, x.ver, x.index, x.count, wd (nm x.re), wd (nm x.im), x.gone, x.key, x.value⟩
theorem getn_at (pre mid post : List Int) (k : Nat) (v : Int) (hm : mid = low k v) (h0 : 0 ≤ v) (h1 : v < 256 ^ k) : getn (pre ++ mid ++ post) pre.length k = v := by
  subst hm
  unfold getn
  rw [List.append_assoc, List.drop_left, List.take_left' (low_len k v), unbe_low]
  exact Int.emod_eq_of_lt h0 h1
theorem getD_mid (pre post : List Int) (v : Int) : (pre ++ [v] ++ post).getD pre.length 0 = v := by
  rw [List.append_assoc, List.getD_eq_getElem?_getD, List.getElem?_append_right (Nat.le_refl _), Nat.sub_self]
  rfl
theorem text_at (pre post : List Int) (s : ByteArray) (m : Int) (hs : s.size ≤ 255) (hm : (s.size : Int) ≤ m) :
    te (pre ++ ((s.size : Int) :: txt s) ++ post) pre.length m = 0 ∧ ti (pre ++ ((s.size : Int) :: txt s) ++ post) pre.length m = ((pre.length + 1 + s.size : Nat) : Int) ∧ tx (pre ++ ((s.size : Int) :: txt s) ++ post) pre.length m = s := by
  have hl : (pre ++ ((s.size : Int) :: txt s) ++ post).length = pre.length + 1 + s.size + post.length := by simp [txt_len]; omega
  have hd : (pre ++ ((s.size : Int) :: txt s) ++ post).getD pre.length 0 = (s.size : Int) := by
    rw [List.append_assoc, List.getD_eq_getElem?_getD, List.getElem?_append_right (Nat.le_refl _), Nat.sub_self]
    rfl
  obtain ⟨e1, e2, e3⟩ := t_ok (pre ++ ((s.size : Int) :: txt s) ++ post) pre.length s.size m (by rw [hl]; omega) hd (by omega) (by rw [hl]; omega)
  refine ⟨e3, e2, ?_⟩
  rw [e1]
  have e : (pre ++ ((s.size : Int) :: txt s) ++ post).drop (pre.length + 1) = txt s ++ post := by
    rw [List.append_assoc, ← List.drop_drop, List.drop_left]
    rfl
  rw [e, List.take_left' (txt_len s), str_txt]
theorem low_one_small (v : Int) (h0 : 0 ≤ v) (h1 : v ≤ 255) : low 1 v = [v] := by
  rw [low_one]
  congr 1
  omega
theorem low_two (v : Int) (h0 : 0 ≤ v) (h1 : v ≤ 65535) : low 2 v = [v / 256, v % 256] := by
  simp [low]
  omega
theorem got {x : It} (h : mayP x) (hs0 : 0 ≤ x.seq) (hs1 : x.seq ≤ 18446744073709551615) (hv0 : 0 ≤ x.ver) (hv1 : x.ver ≤ 18446744073709551615) : gerr (writ x) = 0 ∧ gans (writ x) = back x := by
  obtain ⟨h1, h2, h3, h4, h5, h6, h7, h8, h9, h10, h11, h12⟩ := h
  have hre := (rt_fv h1).2.1
  have him := (rt_fv h2).2.1
  have hhl := head_len x
  have hwl := writ_len x
  have i1 : low 1 x.index = [x.index] := low_one_small _ (by omega) (by omega)
  have c1 : low 1 x.count = [x.count] := low_one_small _ (by omega) (by omega)
  have s1 : low 1 (nm x.re) = [nm x.re] := low_one_small _ (by omega) (by omega)
  have o1 : low 2 (nm x.im) = [nm x.im / 256, nm x.im % 256] := low_two _ (by omega) (by omega)
  have l1 : (low 8 x.seq).length = 8 := low_len _ _
  have l2 : (low 8 x.ver).length = 8 := low_len _ _
  generalize hT : ((x.key.size : Int) :: txt x.key) ++ ((x.value.size : Int) :: txt x.value) = T
  have hw : writ x = head x ++ T := by rw [← hT]; unfold writ; rw [List.append_assoc]
  have hh : head x = low 8 x.seq ++ low 8 x.ver ++ [x.index] ++ [x.count] ++ [nm x.re] ++ [nm x.im / 256] ++ [nm x.im % 256] ++ [if x.gone then 1 else 0] := by
    unfold head
    rw [i1, c1, s1, o1]
    simp
  have g0 : getn (writ x) 0 8 = x.seq := by
    rw [hw, hh]
    have := getn_at [] (low 8 x.seq) (low 8 x.ver ++ [x.index] ++ [x.count] ++ [nm x.re] ++ [nm x.im / 256] ++ [nm x.im % 256] ++ [if x.gone then 1 else 0] ++ T) 8 x.seq rfl hs0 (by omega)
    simpa using this
  have g8 : getn (writ x) 8 8 = x.ver := by
    rw [hw, hh]
    have := getn_at (low 8 x.seq) (low 8 x.ver) ([x.index] ++ [x.count] ++ [nm x.re] ++ [nm x.im / 256] ++ [nm x.im % 256] ++ [if x.gone then 1 else 0] ++ T) 8 x.ver rfl hv0 (by omega)
    rw [l1] at this
    simpa using this
  have hg : ∀ k v (pre post : List Int), pre.length = k → writ x = pre ++ [v] ++ post → (writ x).getD k 0 = v := by
    intro k v pre post e1 e2
    rw [e2, ← e1]
    exact getD_mid _ _ _
  have d16 : (writ x).getD 16 0 = x.index := hg 16 _ (low 8 x.seq ++ low 8 x.ver) ([x.count] ++ [nm x.re] ++ [nm x.im / 256] ++ [nm x.im % 256] ++ [if x.gone then 1 else 0] ++ T) (by simp [low_len]) (by rw [hw, hh]; simp)
  have d17 : (writ x).getD 17 0 = x.count := hg 17 _ (low 8 x.seq ++ low 8 x.ver ++ [x.index]) ([nm x.re] ++ [nm x.im / 256] ++ [nm x.im % 256] ++ [if x.gone then 1 else 0] ++ T) (by simp [low_len]) (by rw [hw, hh]; simp)
  have d18 : (writ x).getD 18 0 = nm x.re := hg 18 _ (low 8 x.seq ++ low 8 x.ver ++ [x.index] ++ [x.count]) ([nm x.im / 256] ++ [nm x.im % 256] ++ [if x.gone then 1 else 0] ++ T) (by simp [low_len]) (by rw [hw, hh]; simp)
  have d19 : (writ x).getD 19 0 = nm x.im / 256 := hg 19 _ (low 8 x.seq ++ low 8 x.ver ++ [x.index] ++ [x.count] ++ [nm x.re]) ([nm x.im % 256] ++ [if x.gone then 1 else 0] ++ T) (by simp [low_len]) (by rw [hw, hh]; simp)
  have d20 : (writ x).getD 20 0 = nm x.im % 256 := hg 20 _ (low 8 x.seq ++ low 8 x.ver ++ [x.index] ++ [x.count] ++ [nm x.re] ++ [nm x.im / 256]) ([if x.gone then 1 else 0] ++ T) (by simp [low_len]) (by rw [hw, hh]; simp)
  have d21 : (writ x).getD 21 0 = if x.gone then 1 else 0 := hg 21 _ (low 8 x.seq ++ low 8 x.ver ++ [x.index] ++ [x.count] ++ [nm x.re] ++ [nm x.im / 256] ++ [nm x.im % 256]) T (by simp [low_len]) (by rw [hw, hh])
  have tk := text_at (head x) ((x.value.size : Int) :: txt x.value) x.key 48 (by omega) (by omega)
  have tv := text_at (head x ++ ((x.key.size : Int) :: txt x.key)) [] x.value 64 (by omega) (by omega)
  rw [List.append_nil] at tv
  have hkl : (head x ++ ((x.key.size : Int) :: txt x.key)).length = 23 + x.key.size := by rw [List.length_append, hhl, List.length_cons, txt_len]; omega
  rw [hhl] at tk
  rw [hkl] at tv
  have tk1 : te (writ x) 22 48 = 0 := tk.1
  have tk2 : ti (writ x) 22 48 = ((23 + x.key.size : Nat) : Int) := by
    have := tk.2.1
    rw [show (22 + 1 + x.key.size : Nat) = 23 + x.key.size by omega] at this
    exact this
  have tk3 : tx (writ x) 22 48 = x.key := tk.2.2
  have tv1 : te (writ x) ((23 + x.key.size : Nat) : Int) 64 = 0 := tv.1
  have tv2 : ti (writ x) ((23 + x.key.size : Nat) : Int) 64 = (writ x).length := by
    rw [hwl]
    have := tv.2.1
    rw [show (23 + x.key.size + 1 + x.value.size : Nat) = 24 + x.key.size + x.value.size by omega] at this
    exact this
  have tv3 : tx (writ x) ((23 + x.key.size : Nat) : Int) 64 = x.value := tv.2.2
  have hgi : gitem (writ x) = back x := by
    unfold gitem back gre gim
    rw [g0, g8, d16, d17, d18, d19, d20, d21, tk2, tk3, tv3, if_neg (by omega), if_neg (by omega), show 256 * (nm x.im / 256) + nm x.im % 256 = nm x.im by omega]
    cases x.gone <;> rfl
  have hmb : may (back x) = true := by
    have a1 := rt_wd (nm x.re) hre (by omega)
    have a2 := rt_wd (nm x.im) him (by omega)
    refine may_of ?_
    unfold mayP back
    dsimp only
    rw [a1.1, a2.1, a1.2, a2.2]
    exact ⟨rfl, rfl, h3, h4, h5, h6, h7, h8, h9, h10, h11, h12⟩
  have r := ge_ok (xs := writ x) (by rw [hwl]; omega) (by rw [d21]; cases x.gone <;> decide) (by rw [tk1]; decide) (by rw [tk2, tv1]; decide) (by rw [tk2, tv2]; simp) (by rw [hgi]; exact hmb)
  rw [hgi] at r
  exact r
/-- Bytes are written as they were read. -/
theorem low_unbe (l : List Int) (h : ∀ x ∈ l, 0 ≤ x ∧ x ≤ 255) : low l.length (unbe l) = l := by
  have key : ∀ n, ∀ l : List Int, l.length = n → (∀ x ∈ l, 0 ≤ x ∧ x ≤ 255) → low n (unbe l) = l := by
    intro n
    induction n with
    | zero =>
      intro l hl _
      rw [List.eq_nil_of_length_eq_zero hl]
      rfl
    | succ n ih =>
      intro l hl hb
      have hne : l ≠ [] := by
        rintro rfl
        simp at hl
      have hd := (List.dropLast_concat_getLast hne).symm
      have h1 : l.dropLast.length = n := by rw [List.length_dropLast, hl]; omega
      have h2 : ∀ x ∈ l.dropLast, 0 ≤ x ∧ x ≤ 255 := fun x hx => hb x (List.dropLast_subset l hx)
      have h3 := hb _ (List.getLast_mem hne)
      have h4 := ih _ h1 h2
      rw [hd, unbe_snoc, low_snoc, show (unbe l.dropLast * 256 + l.getLast hne) / 256 = unbe l.dropLast by omega, h4, show (unbe l.dropLast * 256 + l.getLast hne) % 256 = l.getLast hne by omega]
  exact key _ l rfl h
theorem drop_one (xs : List Int) (a : Nat) (h : a < xs.length) : xs.drop a = xs.getD a 0 :: xs.drop (a + 1) := by
  rw [List.drop_eq_getElem_cons h, List.getD_eq_getElem?_getD, List.getElem?_eq_getElem h]
  rfl
theorem drop_some (xs : List Int) (a k : Nat) : xs.drop a = (xs.drop a).take k ++ xs.drop (a + k) := by
  rw [← List.drop_drop, List.take_append_drop]
theorem minus_not : rt 13830554455654793216 = false := by
  have hr : FloatKind.f64.format.read 13830554455654793216 = .number true 4503599627370496 (-52) := by decide +kernel
  have h : fv 13830554455654793216 = some (Ieee.signed true 4503599627370496 (-52 + 1074 : Int).toNat) := by
    unfold fv
    rw [hr]
    rfl
  cases hrt : rt 13830554455654793216 with
  | false => rfl
  | true =>
    exfalso
    obtain ⟨h1, h2, _⟩ := rt_fv hrt
    rw [h] at h1
    injection h1 with h1
    have h3 : 0 ≤ nm 13830554455654793216 * (unit : Int) := Int.mul_nonneg h2 (Int.le_of_lt unit_int)
    rw [← h1] at h3
    have h4 : Ieee.signed true 4503599627370496 (-52 + 1074 : Int).toNat < 0 := by
      have : 0 < (4503599627370496 <<< (-52 + 1074 : Int).toNat : Nat) := by
        rw [Nat.shiftLeft_eq]
        exact Nat.mul_pos (by decide) (Nat.two_pow_pos _)
      unfold Ieee.signed
      simp only [if_true]
      omega
    omega
theorem low_getn (xs : List Int) (a k : Nat) (hb : ∀ x ∈ xs, 0 ≤ x ∧ x ≤ 255) (h : a + k ≤ xs.length) : low k (getn xs a k) = (xs.drop a).take k := by
  unfold getn
  have hl : ((xs.drop a).take k).length = k := by rw [List.length_take, List.length_drop]; omega
  have := low_unbe ((xs.drop a).take k) (fun x hx => hb x (List.mem_of_mem_drop (List.mem_of_mem_take hx)))
  rwa [hl] at this
theorem text_is {xs : List Int} {a : Nat} {m : Int} (hb : ∀ x ∈ xs, 0 ≤ x ∧ x ≤ 255) (h : te xs a m = 0) :
    a < xs.length ∧ a + 1 + (xs.getD a 0).toNat ≤ xs.length ∧ ti xs a m = ((a + 1 + (xs.getD a 0).toNat : Nat) : Int) ∧ (((tx xs a m).size : Int) :: txt (tx xs a m)) ++ xs.drop (a + 1 + (xs.getD a 0).toNat) = xs.drop a := by
  have ha : a < xs.length := by
    rcases Nat.lt_or_ge a xs.length with h1 | h1
    · exact h1
    · exfalso
      rcases Nat.lt_or_eq_of_le h1 with h2 | h2
      · rw [(t_arg xs a m (.inr (by omega))).2.2] at h
        exact absurd h (by decide)
      · rw [← h2, (t_end xs m).2.2] at h
        exact absurd h (by decide)
  have hy : 0 ≤ xs.getD a 0 ∧ xs.getD a 0 ≤ 255 := by
    rw [List.getD_eq_getElem?_getD, List.getElem?_eq_getElem ha]
    exact hb _ (List.getElem_mem ha)
  have hm : ¬ m < xs.getD a 0 := fun h1 => by
    rw [(t_long xs a m ha h1).2.2] at h
    exact absurd h (by decide)
  have hs : ¬ (xs.length : Int) < a + 1 + xs.getD a 0 := fun h1 => by
    rw [(t_short xs a m ha hm h1).2.2] at h
    exact absurd h (by decide)
  obtain ⟨Y, hY⟩ := Int.eq_ofNat_of_zero_le hy.1
  rw [hY] at hm hs
  obtain ⟨r1, r2, _⟩ := t_ok xs a Y m ha hY hm (by omega)
  rw [hY, Int.toNat_natCast]
  refine ⟨ha, by omega, r2, ?_⟩
  have hl : ((xs.drop (a + 1)).take Y).length = Y := by rw [List.length_take, List.length_drop]; omega
  rw [r1, str_size, hl, txt_str _ (fun x hx => hb x (List.mem_of_mem_drop (List.mem_of_mem_take hx))), List.cons_append, ← drop_some, drop_one xs a ha, hY]
/-- What is got is written as it stood. -/
theorem stood {xs : List Int} (hb : ∀ x ∈ xs, 0 ≤ x ∧ x ≤ 255) (h : gerr xs = 0) : mayP (gans xs) ∧ writ (gans xs) = xs := by
  have hg : gans xs = gitem xs := if_pos h
  rw [hg]
  unfold gerr at h
  split at h
  · exact absurd h (by decide)
  rename_i h1
  split at h
  · exact absurd h (by decide)
  rename_i h2
  split at h
  · rename_i h3
    exact absurd h h3
  rename_i h3
  split at h
  · rename_i h4
    exact absurd h h4
  rename_i h4
  split at h
  · exact absurd h (by decide)
  rename_i h5
  split at h
  case isFalse => exact absurd h (by decide)
  rename_i h6
  have hm := may_yes h6
  have h3' : te xs ((22 : Nat) : Int) 48 = 0 := Decidable.byContradiction h3
  obtain ⟨k1, k2, k3, k4⟩ := text_is hb h3'
  have k3' : ti xs 22 48 = _ := k3
  rw [k3'] at h4 h5
  have h4' := Decidable.byContradiction h4
  obtain ⟨v1, v2, v3, v4⟩ := text_is hb h4'
  rw [v3] at h5
  have hend := Decidable.byContradiction h5
  have hbd : ∀ k, 0 ≤ xs.getD k 0 ∧ xs.getD k 0 ≤ 255 := fun k => by
    rw [List.getD_eq_getElem?_getD]
    rcases Nat.lt_or_ge k xs.length with hk | hk
    · rw [List.getElem?_eq_getElem hk]
      exact hb _ (List.getElem_mem hk)
    · rw [List.getElem?_eq_none hk]
      simp
  have b18 := hbd 18
  have b19 := hbd 19
  have b20 := hbd 20
  have b21 := hbd 21
  have hn : ¬ (xs.getD 18 0 = 255 ∧ xs.getD 19 0 = 255 ∧ xs.getD 20 0 = 255) := fun hall => by
    have := hm.1
    unfold gitem gre at this
    rw [if_pos hall, minus_not] at this
    cases this
  have a1 := rt_wd (xs.getD 18 0) b18.1 (by omega)
  have a2 := rt_wd (256 * xs.getD 19 0 + xs.getD 20 0) (by omega) (by omega)
  refine ⟨hm, ?_⟩
  have kx : tx xs ((22 : Nat) : Int) 48 = tx xs 22 48 := rfl
  have hd : xs.drop (22 + 1 + (xs.getD 22 0).toNat + 1 + (xs.getD (22 + 1 + (xs.getD 22 0).toNat) 0).toNat) = [] := List.drop_eq_nil_of_le (by omega)
  rw [hd, List.append_nil] at v4
  have eg : (if (xs.getD 21 0 == 1) = true then (1 : Int) else 0) = xs.getD 21 0 := by
    rcases (show xs.getD 21 0 = 0 ∨ xs.getD 21 0 = 1 by omega) with e | e <;> rw [e] <;> rfl
  have e18 : low 1 (nm (gre (xs.getD 18 0) (xs.getD 19 0) (xs.getD 20 0))) = [xs.getD 18 0] := by
    unfold gre
    rw [if_neg hn, a1.2]
    exact low_one_small _ b18.1 b18.2
  have e19 : low 2 (nm (gim (xs.getD 18 0) (xs.getD 19 0) (xs.getD 20 0))) = [xs.getD 19 0, xs.getD 20 0] := by
    unfold gim
    rw [if_neg hn, a2.2, low_two _ (by omega) (by omega), show (256 * xs.getD 19 0 + xs.getD 20 0) / 256 = xs.getD 19 0 by omega, show (256 * xs.getD 19 0 + xs.getD 20 0) % 256 = xs.getD 20 0 by omega]
  unfold writ head gitem
  dsimp only
  rw [k3', e18, e19, low_getn xs 0 8 hb (by omega), low_getn xs 8 8 hb (by omega), low_one_small _ (hbd 16).1 (hbd 16).2, low_one_small _ (hbd 17).1 (hbd 17).2, eg]
  rw [List.append_assoc, v4]
  have k4' : (((tx xs 22 48).size : Int) :: txt (tx xs 22 48)) ++ xs.drop (22 + 1 + (xs.getD 22 0).toNat) = xs.drop 22 := k4
  rw [k4']
  have e0 := drop_some xs 0 8
  have e8 := drop_some xs 8 8
  rw [List.drop_zero] at e0
  have e := e0
  rw [Nat.zero_add, e8, drop_one xs (8 + 8) (by omega), drop_one xs (8 + 8 + 1) (by omega), drop_one xs (8 + 8 + 1 + 1) (by omega), drop_one xs (8 + 8 + 1 + 1 + 1) (by omega), drop_one xs (8 + 8 + 1 + 1 + 1 + 1) (by omega), drop_one xs (8 + 8 + 1 + 1 + 1 + 1 + 1) (by omega)] at e
  conv => rhs; rw [e]
  simp
end Go.Proofs.YthbafcihmcjchaaGreatDoor.RingX
