/- The contracts of the document's answer for layer 3. Conditions: bytes that come in read as numbers 0..255, lengths and integers fit their kinds. -/
import Derived.Test.YthbafcihmcjchaaGreatDoorPackW
namespace Go.Proofs.YthbafcihmcjchaaGreatDoor.PackR
open Go.RowKit
open Go.Proofs.YthbafcihmcjchaaGreatDoor.Byte Go.Proofs.YthbafcihmcjchaaGreatDoor.PackM Go.Proofs.YthbafcihmcjchaaGreatDoor.PackW

set_option maxHeartbeats 400000 in
theorem wide_calls (n : Int) (w : World) (h0 : -9223372036854775808 ≤ n) (h1 : n ≤ 9223372036854775807) :
    Calls Tryz.prog 54 #[.int .i64 n] w fun e w' => e = .returned (.int .i64 (width n : Int)) ∧ w = w' := by
  rw [width_int]
  go_enter Tryz.func54, Tryz.ntmps54
  go_wp2
  all_goals (go_ret; exact ⟨ret_int (by (repeat' split) <;> omega), rfl⟩)


set_option maxHeartbeats 1600000 in
theorem refput_calls (A : Option Addr) (n c : Nat) (xs : List Int) (m x : Int) (w : World) (hb : Bs w A n xs) (hA : A = none → c = 0) (hn : n + 8 ≤ 140737488355328) (h0 : -9223372036854775808 ≤ m) (h1 : m ≤ 9223372036854775807) (hx0 : 0 ≤ x) (hx1 : x ≤ 18446744073709551615) :
    Calls Tryz.prog 26 #[.slice A n c, .int .i64 m, .int .u64 x] w (Made (xs ++ low (width m) x) w) := by
  have HB := Lib.hid hb
  clear hb
  have hwd := width_bd m
  obtain ⟨k, hk⟩ : ∃ k, width m = k := ⟨_, rfl⟩
  have HW := Lib.hid (fun w => wide_calls m w h0 h1)
  rw [hk] at HW hwd ⊢
  clear hk
  go_enter Tryz.func26, Tryz.ntmps26
  go_wp2_with (at_builtin; refine wpList_append_bytes rfl (.tmp 12) (.tmp 13) _ rfl w.heap.size 5 Tryz.underlying38 info8 w.heap.size 0 0 [] rfl (Ob.new_ _ _ (Nat.le_refl _)) A n c xs rfl (HB.out.below ((Below.refl _ _).alloc (Nat.le_refl _) _)) hA n (by omega) xs rfl (by omega) (by simp) ?_; intro g1 cap1 w1 hown1 hg1 _; have hbel1 : Below w.heap.size w w1 := ((Below.refl _ _).alloc (Nat.le_refl _) _).grown hg1 (by simp) (by intro k hk; injection hk with hk; omega); clear hg1)
  have hsz1 := hown1.place
  go_loopw [2, 8, 9] (fun X d i wr => ∃ (j g cap : Nat) (x' : Int), j ≤ k ∧ i = .int .i64 j ∧ X = .int .u64 x' ∧ d = .slice (some ⟨g, 0, none⟩) j cap ∧ 0 ≤ x' ∧ x' ≤ 18446744073709551615 ∧ Hid (x' = x / 256 ^ j) ∧ g ≠ g1 ∧ Ob wr w.heap.size 5 g j cap (low j x).reverse ∧ Ob wr w.heap.size 5 g1 n cap1 xs ∧ Below w.heap.size w wr) (fun _ _ i _ => k - (intOf i).toNat)
  case atStart => exact ⟨0, w1.heap.size, 0, x, by omega, rfl, rfl, rfl, hx0, hx1, by show x = _; simp, by omega, Ob.new_ _ _ hbel1.size, hown1.below ((Below.refl _ _).alloc (Nat.le_refl _) _), hbel1.alloc hbel1.size _⟩
  case round =>
    obtain ⟨j, g, cap, x', hj, rfl, rfl, rfl, hx'0, hx'1, hX, hne, hd, ho, hbel⟩ := hrel
    clear hown1 hbel1
    by_cases hlt : j < k
    · go_wp2_with (first
        | (go_at_call 54; refine (HW.out _).mono ?_; rintro e w' ⟨rfl, rfl⟩)
        | (at_builtin; refine wpList_append_bytes rfl (.tmp 22) (.tmp 26) _ rfl w.heap.size 5 Tryz.underlying38 info8 g j cap (low j x).reverse rfl (hd.below ((Below.refl _ _).alloc (Nat.le_refl _) _)) (some ⟨wr.heap.size, 0, none⟩) 1 1 [x' % 256] rfl (Bs.new_ _ _ _ [x' % 256] (by intro y hy; rw [List.mem_singleton] at hy; omega)) (by intro h; cases h) (j + 1) rfl _ rfl (by omega) (by have := hbel.size; simp; omega) ?_; intro g2 cap2 w2 hown2 hg2 hat2))
      have hal := hbel.size
      go_roundw
      case rel =>
        refine ⟨j + 1, g2, cap2, x' / 256, by omega, by go_num, rfl, rfl, by omega, by omega, ?_, ?_, ?_, ?_, ?_⟩
        · show x' / 256 = _
          rw [hX.out, div_succ]
        · rcases hat2 with rfl | rfl
          · exact hne
          · have := ho.place.2
            simp
            omega
        · rw [← rev_succ x x' j hX.out]
          exact hown2
        · exact (ho.below ((Below.refl _ _).alloc (Nat.le_refl _) _)).grown hg2 (by intro e; injection e with e; exact hne e)
        · exact (hbel.alloc hal _).grown hg2 (by simp; omega) (by intro k hk; injection hk with hk; have := hd.place.1; omega)
      case measure => simp [intOf]; omega
    · obtain rfl : j = k := by omega
      clear hX hx'0 hx'1
      go_wp2_with (go_at_call 54; refine (HW.out _).mono ?_; rintro e w' ⟨rfl, rfl⟩)
      go_loopw [7, 10] (fun v i wr => ∃ (t g2 cap2 : Nat), t ≤ j ∧ i = .int .i64 ((j : Int) - 1 - t) ∧ v = .slice (some ⟨g2, 0, none⟩) (n + t) cap2 ∧ g ≠ g2 ∧ Ob wr w.heap.size 5 g j cap (low j x).reverse ∧ Ob wr w.heap.size 5 g2 (n + t) cap2 (xs ++ (low j x).take t) ∧ Below w.heap.size w wr) (fun _ i _ => (intOf i + 1).toNat)
      case atStart => exact ⟨0, g1, cap1, by omega, by simp, rfl, hne, hd, by simpa using ho, hbel⟩
      case round =>
        obtain ⟨t, g2, cap2, ht, rfl, rfl, hne2, hd2, ho2, hbel2⟩ := hrel
        clear hd ho hbel
        by_cases hlt2 : t < j
        · have hcell := hd2.cell (j - 1 - t) (by omega)
          rw [rev_at j t x hlt2] at hcell
          have hv : 0 ≤ (low j x).getD t 0 ∧ (low j x).getD t 0 ≤ 255 := by rw [low_getD j x t hlt2]; omega
          have HT := Lib.hid (take_next j t x hlt2)
          generalize (low j x).getD t 0 = v at hcell hv HT
          go_wp2_with (at_builtin; refine wpList_append_bytes rfl (.tmp 37) (.tmp 42) _ rfl w.heap.size 5 Tryz.underlying38 info8 g2 (n + t) cap2 _ rfl (ho2.below ((Below.refl _ _).alloc (Nat.le_refl _) _)) (some ⟨_, 0, none⟩) 1 1 [v] rfl (Bs.new_ _ _ _ [v] (by intro y hy; rw [List.mem_singleton] at hy; omega)) (by intro h; cases h) (n + (t + 1)) (by omega) _ rfl (by omega) (by have := hbel2.size; simp; omega) ?_; intro g3 cap3 w3 hown3 hg3 hat3)
          have hal := hbel2.size
          go_roundw
          case rel =>
            refine ⟨t + 1, g3, cap3, by omega, ?_, rfl, ?_, ?_, ?_, ?_⟩
            · congr 1
              omega
            · rcases hat3 with rfl | rfl
              · exact hne2
              · have := hd2.place.2
                simp
                omega
            · exact (hd2.below ((Below.refl _ _).alloc (Nat.le_refl _) _)).grown hg3 (by intro e; injection e with e; exact hne2 e.symm)
            · rw [List.append_assoc, HT.out] at hown3
              exact hown3
            · exact (hbel2.alloc hal _).grown hg3 (by simp; omega) (by intro k hk; injection hk with hk; have := ho2.place.1; omega)
          case measure => simp [intOf]; omega
        · obtain rfl : t = j := by omega
          go_wp2
          go_ret
          rw [List.take_of_length_le (by rw [low_len]; exact Nat.le_refl _)] at ho2
          exact Made.of (by rw [List.length_append, HB.out.len, low_len]) rfl ho2 hbel2

set_option maxHeartbeats 800000 in
theorem refget_calls (A : Option Addr) (n c : Nat) (xs : List Int) (a m : Int) (w : World) (hb : Bs w A n xs) (hn : n ≤ 140737488355328) (h0 : -9223372036854775808 ≤ a) (h1 : a ≤ 9223372036854775807) (h2 : -9223372036854775808 ≤ m) (h3 : m ≤ 9223372036854775807) :
    Calls Tryz.prog 66 #[.slice A n c, .int .i64 a, .int .i64 m] w fun e w' => e = .returned (.tuple #[.int .u64 (gx xs a m), .int .i64 (gi xs a m), .int .i64 (ge xs a m)]) ∧ w = w' := by
  have HB := Lib.hid hb
  clear hb
  by_cases ha : a < 0 ∨ (n : Int) < a
  · have hg := g_arg xs a m (by rw [HB.out.len]; exact ha)
    rw [hg.1, hg.2.1, hg.2.2]
    clear hg
    rcases ha with ha | ha
    · go_enter Tryz.func66, Tryz.ntmps66
      go_wp2
      go_ret3
      exact ⟨rfl, rfl⟩
    · have hd : decide (a < 0) = false := by simp; omega
      go_enter Tryz.func66, Tryz.ntmps66
      go_wp2
      go_ret3
      exact ⟨rfl, rfl⟩
  · have ha' : 0 ≤ a ∧ a ≤ (n : Int) := by omega
    obtain ⟨i, rfl⟩ := Int.eq_ofNat_of_zero_le ha'.1
    have hi : i ≤ n := by omega
    have hwd := width_bd m
    have HA : Hid (¬ ((i : Int) < 0 ∨ (xs.length : Int) < (i : Int))) := by rw [HB.out.len]; exact ha
    clear ha ha' h0 h1
    have d1 : decide ((i : Int) < 0) = false := by simp
    have d2 : decide (n < i) = false := by simp; omega
    have HW := Lib.hid (fun w => wide_calls m w h2 h3)
    by_cases hs : n < i + width m
    · have hg := g_short xs i m HA.out (by rw [HB.out.len]; omega)
      rw [hg.1, hg.2.1, hg.2.2]
      clear hg
      obtain ⟨k, hk⟩ : ∃ k, width m = k := ⟨_, rfl⟩
      rw [hk] at HW hs hwd
      clear hk
      go_enter Tryz.func66, Tryz.ntmps66
      go_wp2_with fail
      go_loop [9, 10] (fun x j => ∃ (t : Nat) (X : Int), i + t ≤ n ∧ j = .int .i64 t ∧ x = .int .u64 X ∧ Hid (X = getn xs i t)) (fun _ j => k - (intOf j).toNat)
      case atStart => exact ⟨0, 0, by omega, rfl, rfl, by exact (getn_zero xs i).symm⟩
      case round =>
        obtain ⟨t, X, ht, rfl, rfl, hX⟩ := hrel
        by_cases hlt : i + t < n
        · obtain ⟨b, o, rfl, _, hc⟩ := HB.out.2.2 (i + t) (by omega)
          have hx := HB.out.bd (i + t)
          have hXb := get_bd xs i t HB.out.2.1
          have hp := pow_mono t 7 (by omega)
          rw [← hX.out] at hXb
          have hs' := get_succ xs i t (by rw [HB.out.len]; omega)
          rw [← hX.out] at hs'
          have HS := Lib.hid hs'
          clear hs'
          generalize hxe : xs.getD (i + t) 0 = y at hc hx HS
          clear hxe
          have hX0 := hXb.1
          have hX1 : X < 72057594037927936 := Int.lt_of_lt_of_le hXb.2 hp
          clear hXb hp
          go_wp2_with (go_at_call 54; refine (HW.out _).mono ?_; rintro e w' ⟨rfl, rfl⟩)
          go_round
          case rel => exact ⟨t + 1, 256 * X + y, by omega, by go_num, rfl, by show 256 * X + y = _; rw [HS.out]; omega⟩
          case measure => simp [intOf]; omega
        · go_wp2_with (go_at_call 54; refine (HW.out _).mono ?_; rintro e w' ⟨rfl, rfl⟩)
          go_ret3
          exact ⟨rfl, rfl⟩
    · have hg := g_ok xs i m HA.out (by rw [HB.out.len]; omega)
      rw [hg.1, hg.2.1, hg.2.2, Int.toNat_natCast]
      clear hg
      obtain ⟨k, hk⟩ : ∃ k, width m = k := ⟨_, rfl⟩
      rw [hk] at HW hs hwd ⊢
      clear hk
      go_enter Tryz.func66, Tryz.ntmps66
      go_wp2_with fail
      go_loop [9, 10] (fun x j => ∃ (t : Nat) (X : Int), t ≤ k ∧ j = .int .i64 t ∧ x = .int .u64 X ∧ Hid (X = getn xs i t)) (fun _ j => k - (intOf j).toNat)
      case atStart => exact ⟨0, 0, by omega, rfl, rfl, by exact (getn_zero xs i).symm⟩
      case round =>
        obtain ⟨t, X, ht, rfl, rfl, hX⟩ := hrel
        by_cases hlt : t < k
        · obtain ⟨b, o, rfl, _, hc⟩ := HB.out.2.2 (i + t) (by omega)
          have hx := HB.out.bd (i + t)
          have hXb := get_bd xs i t HB.out.2.1
          have hp := pow_mono t 7 (by omega)
          rw [← hX.out] at hXb
          have hs' := get_succ xs i t (by rw [HB.out.len]; omega)
          rw [← hX.out] at hs'
          have HS := Lib.hid hs'
          clear hs'
          generalize hxe : xs.getD (i + t) 0 = y at hc hx HS
          clear hxe
          have hX0 := hXb.1
          have hX1 : X < 72057594037927936 := Int.lt_of_lt_of_le hXb.2 hp
          clear hXb hp
          go_wp2_with (go_at_call 54; refine (HW.out _).mono ?_; rintro e w' ⟨rfl, rfl⟩)
          go_round
          case rel => exact ⟨t + 1, 256 * X + y, by omega, by go_num, rfl, by show 256 * X + y = _; rw [HS.out]; omega⟩
          case measure => simp [intOf]; omega
        · obtain rfl : t = k := by omega
          go_wp2_with (go_at_call 54; refine (HW.out _).mono ?_; rintro e w' ⟨rfl, rfl⟩)
          go_ret3
          rw [hX.out]
          exact ⟨rfl, rfl⟩

theorem low_txt (t : ByteArray) (h : t.size ≤ 255) (xs : List Int) : xs ++ low (width 1) (t.size : Int) ++ txt t = xs ++ (t.size : Int) :: txt t := by
  rw [width_one, low_small, Nat.mod_eq_of_lt (by omega), List.append_assoc]
  rfl
set_option maxHeartbeats 1600000 in
theorem refputtext_calls (A : Option Addr) (n c : Nat) (xs : List Int) (s : ByteArray) (w : World) (hb : Bs w A n xs) (hA : A = none → c = 0) (hn : n + 256 ≤ 140737488355328) (hs : s.size ≤ maxLen) :
    Calls Tryz.prog 78 #[.slice A n c, .string s] w (Made (xs ++ ((s.extract 0 (min s.size 255)).size : Int) :: txt (s.extract 0 (min s.size 255))) w) := by
  unfold maxLen at hs
  have HB := Lib.hid hb
  clear hb
  have h255 : (s.extract 0 (min s.size 255)).size ≤ 255 := by
    rw [ByteArray.size_extract]
    omega
  have hself : s.size ≤ 255 → s.extract 0 (min s.size 255) = s := by
    intro h
    rw [Nat.min_eq_left h]
    exact ByteArray.extract_zero_size
  have hcut : ¬ s.size ≤ 255 → s.extract 0 (min s.size 255) = s.extract 0 255 := by
    intro h
    rw [Nat.min_eq_right (by omega)]
  generalize hT : s.extract 0 (min s.size 255) = T at *
  clear hT
  have HL := Lib.hid (low_txt T h255 xs)
  have HC := Lib.hid (refput_calls A n c xs 1 (T.size : Int) w HB.out hA (by omega) (by omega) (by omega) (by omega) (by omega))
  have hlen : (xs ++ low (width 1) (T.size : Int)).length = n + 1 := by rw [List.length_append, HB.out.len, low_len, width_one]
  have HN := Lib.hid hlen
  obtain ⟨k, hk⟩ : ∃ k, T.size = k := ⟨_, rfl⟩
  have HK := Lib.hid hk
  rw [hk] at h255
  clear hlen
  by_cases h : s.size ≤ 255
  focus
    have e := hself h
    subst e
    clear hself hcut
  rotate_left
  focus
    have e := (hcut h).symm
    clear hself hcut
  all_goals
    rw [hk] at HC HN HL ⊢
    go_enter Tryz.func78, Tryz.ntmps78
    go_wp2_with fail
    refine (HC.out).mono ?_
    rintro e w1 ⟨g, cap, he, hown1, hbel1⟩
    rw [HN.out] at he hown1
    subst he
    go_wp2_with (at_builtin; refine wpList_append_str rfl _ _ _ _ rfl w.heap.size 5 Tryz.underlying38 Tryz.underlying9 info8 g (n + 1) cap _ rfl hown1 T rfl (n + 1 + k) (by omega) _ HL.out (by omega) hbel1.size ?_; intro g2 cap2 w2 hown2 hg2)
    go_ret
    exact Made.of hown2.len rfl hown2 (hbel1.grown hg2 hbel1.size (by intro k hk; injection hk with hk; have := hown1.place.1; omega))

theorem conv_one (w : World) (y : Int) (h0 : 0 ≤ y) (h1 : y ≤ 255) (cp : Nat) (s : ByteArray) (hs : str [y] = s) :
    (convert 38 9 (.slice (some ⟨w.heap.size, 0, none⟩) 1 cp)).run Tryz.prog (w.alloc (.cells #[.int .u8 y] 5)) = .ok (.string s) (w.alloc (.cells #[.int .u8 y] 5)) := by
  subst hs
  exact (Bs.new_ w 5 (0, 0) [y] (by intro z hz; rw [List.mem_singleton] at hz; omega)).str_ 38 9 Tryz.underlying38 Tryz.underlying5 Tryz.underlying9
set_option maxHeartbeats 1600000 in
theorem refgettext_calls (A : Option Addr) (n c : Nat) (xs : List Int) (a m : Int) (w : World) (hb : Bs w A n xs) (hn : n ≤ 140737488355328) (h0 : -9223372036854775808 ≤ a) (h1 : a ≤ 9223372036854775807) :
    Calls Tryz.prog 68 #[.slice A n c, .int .i64 a, .int .i64 m] w fun e w' => e = .returned (.tuple #[.string (tx xs a m), .int .i64 (ti xs a m), .int .i64 (te xs a m)]) ∧ Below w.heap.size w w' := by
  have hG := refget_calls A n c xs a 1 w hb hn h0 h1 (by omega) (by omega)
  have HB := Lib.hid hb
  clear hb
  by_cases ha : a < 0 ∨ (n : Int) < a
  · have hg := g_arg xs a 1 (by rw [HB.out.len]; exact ha)
    have ht := t_arg xs a m (by rw [HB.out.len]; exact ha)
    rw [hg.1, hg.2.1, hg.2.2] at hG
    rw [ht.1, ht.2.1, ht.2.2]
    clear hg ht ha
    have HG := Lib.hid hG
    clear hG
    go_enter Tryz.func68, Tryz.ntmps68
    go_wp2_with fail
    refine (HG.out).mono ?_
    rintro e w' ⟨rfl, rfl⟩
    go_wp2_with fail
    go_ret3
    exact ⟨rfl, Below.refl _ _⟩
  · have ha' : 0 ≤ a ∧ a ≤ (n : Int) := by omega
    obtain ⟨i, rfl⟩ := Int.eq_ofNat_of_zero_le ha'.1
    have hi : i ≤ n := by omega
    clear ha ha' h0 h1
    by_cases he : i = n
    · have hin := HB.out.len
      rw [← he] at hin
      subst hin
      have hg := g_short xs xs.length 1 (by omega) (by rw [width_one]; omega)
      have ht := t_end xs m
      rw [hg.1, hg.2.1, hg.2.2] at hG
      rw [ht.1, ht.2.1, ht.2.2]
      clear hg ht
      have HG := Lib.hid hG
      clear hG he
      go_enter Tryz.func68, Tryz.ntmps68
      go_wp2_with fail
      refine (HG.out).mono ?_
      rintro e w' ⟨rfl, rfl⟩
      go_wp2_with fail
      go_ret3
      exact ⟨rfl, Below.refl _ _⟩
    · have hlt : i < n := by omega
      have hxl : i < xs.length := by rw [HB.out.len]; exact hlt
      clear he
      have hg := g_in xs i hxl
      rw [hg.1, hg.2.1, hg.2.2] at hG
      clear hg
      have hy := HB.out.bd i
      obtain ⟨Y, hY⟩ := Int.eq_ofNat_of_zero_le hy.1
      have HY := Lib.hid hY
      rw [hY] at hG hy
      have hY255 : Y ≤ 255 := by omega
      clear hY hy
      have HG := Lib.hid hG
      have HL := Lib.hid hxl
      clear hG hxl
      by_cases hm : m < (Y : Int)
      · have ht := t_long xs i m HL.out (by rw [HY.out]; exact hm)
        rw [ht.1, ht.2.1, ht.2.2]
        clear ht
        go_enter Tryz.func68, Tryz.ntmps68
        go_wp2_with fail
        refine (HG.out).mono ?_
        rintro e w' ⟨rfl, rfl⟩
        go_wp2_with fail
        go_ret3
        exact ⟨rfl, Below.refl _ _⟩
      · by_cases hs : n < i + 1 + Y
        focus
          have ht := t_short xs i m HL.out (by rw [HY.out]; exact hm) (by rw [HY.out, HB.out.len]; omega)
        rotate_left
        focus
          have ht := t_ok xs i Y m HL.out HY.out hm (by rw [HB.out.len]; omega)
        all_goals
          rw [ht.1, ht.2.1, ht.2.2]
          clear ht
          obtain ⟨b, o, rfl, hbw, _⟩ := HB.out.2.2 i hlt
          go_enter Tryz.func68, Tryz.ntmps68
          go_wp2_with fail
          refine (HG.out).mono ?_
          rintro e w' ⟨rfl, rfl⟩
          go_wp2_with fail
          go_loopw [12, 13] (fun s j wr => ∃ (t : Nat) (acc : ByteArray), t ≤ Y ∧ i + 1 + t ≤ n ∧ j = .int .i64 t ∧ s = .string acc ∧ acc.size ≤ t ∧ Hid (acc = str ((xs.drop (i + 1)).take t)) ∧ Below w.heap.size w wr) (fun _ j _ => Y - (intOf j).toNat)
          case atStart => exact ⟨0, _, by omega, by omega, rfl, rfl, Nat.le_refl _, by rw [List.take_zero]; rfl, Below.refl _ _⟩
          case round =>
            obtain ⟨t, acc, ht, hin, rfl, rfl, hacc, hA, hbel⟩ := hrel
            by_cases hlt2 : t < Y ∧ i + 1 + t < n
            · have hl1 := hlt2.1
              have hl2 := hlt2.2
              clear hlt2
              have hc := (HB.out.below hbel).at_ (i + 1 + t) hl2
              have hx := HB.out.bd (i + 1 + t)
              have hn' := str_next xs (i + 1) t (by rw [HB.out.len]; exact hl2)
              rw [← hA.out] at hn'
              have HN := Lib.hid hn'
              clear hn'
              generalize xs.getD (i + 1 + t) 0 = y at hc hx HN
              obtain ⟨one, hone⟩ : ∃ one, str [y] = one := ⟨_, rfl⟩
              have hsz : one.size ≤ 1 := by rw [← hone, str_size]; exact Nat.le_refl _
              have hcv := fun cp => conv_one wr y hx.1 hx.2 cp one hone
              rw [hone] at HN
              clear hone
              go_wp2
              go_roundw
              case rel => exact ⟨t + 1, acc ++ one, by omega, by omega, by go_num, rfl, by rw [ByteArray.size_append]; omega, HN.out, hbel.alloc hbel.size _⟩
              case measure => simp [intOf]; omega
            · by_cases ht2 : t < Y
              · first
                  | (exfalso; omega)
                  | (go_wp2
                     go_ret3
                     exact ⟨rfl, hbel⟩)
              · first
                  | (exfalso; omega)
                  | (obtain rfl : t = Y := by omega
                     go_wp2
                     go_ret3
                     rw [hA.out]
                     exact ⟨rfl, hbel⟩)
end Go.Proofs.YthbafcihmcjchaaGreatDoor.PackR
