/- The contracts of layer 3's functions, of the project's and of the document's answer. Conditions: bytes that come in read as numbers 0..255, lengths and integers fit their kinds. -/
import Derived.Test.YthbafcihmcjchaaGreatDoorProg
import Derived.Test.YthbafcihmcjchaaGreatDoorPackM
import Derived.WalkKit
import Derived.WalkSpells
import Derived.Laws.BitsAllLaws
import Derived.BigGuardPart
import Derived.Lib.MinMax
namespace Go.Proofs.YthbafcihmcjchaaGreatDoor.PackW
open Go.RowKit
open Go.Proofs.YthbafcihmcjchaaGreatDoor.Byte Go.Proofs.YthbafcihmcjchaaGreatDoor.PackM

theorem info8 : (Tryz.prog.info? 5).map (fun i => (i.zero, i.size, i.bytes)) = some (some (.int .u8 0), 1, 1) := by kernel_rfl
theorem size8 : (Tryz.prog.info? 5).map (·.size) = some 1 := by kernel_rfl
/-- The call answers with a new slice that reads as zs; nothing that was there has changed. -/
def Made (zs : List Int) (w : World) (e : Ending) (w' : World) : Prop :=
  ∃ g cap, e = .returned (.slice (some ⟨g, 0, none⟩) zs.length cap) ∧ Ob w' w.heap.size 5 g zs.length cap zs ∧ Below w.heap.size w w'

theorem Made.of {zs : List Int} {w w' : World} {e : Ending} {g N cap : Nat} (hN : zs.length = N) (he : e = .returned (.slice (some ⟨g, 0, none⟩) N cap)) (ho : Ob w' w.heap.size 5 g N cap zs) (hb : Below w.heap.size w w') : Made zs w e w' := by
  subst hN
  exact ⟨g, cap, he, ho, hb⟩

theorem Made.at_ {zs : List Int} {w w' : World} {e : Ending} {N : Nat} (h : Made zs w e w') (hN : zs.length = N) :
    ∃ g cap, e = .returned (.slice (some ⟨g, 0, none⟩) N cap) ∧ Ob w' w.heap.size 5 g N cap zs ∧ Below w.heap.size w w' := by
  subst hN
  exact h

set_option maxHeartbeats 400000 in
theorem width_calls (n : Int) (w : World) (h0 : -9223372036854775808 ≤ n) (h1 : n ≤ 9223372036854775807) :
    Calls Tryz.prog 92 #[.int .i64 n] w fun e w' => e = .returned (.int .i64 (width n : Int)) ∧ w = w' := by
  rw [width_int]
  go_enter Tryz.func92, Tryz.ntmps92
  go_wp2
  all_goals (go_ret; exact ⟨ret_int (by (repeat' split) <;> omega), rfl⟩)
set_option maxHeartbeats 400000 in
theorem behind_calls (A : Option Addr) (n c : Nat) (xs : List Int) (K : Int) (k : Nat) (hK : K = k) (w : World) (hb : Bs w A n xs) (hn : n + k ≤ 140737488355328) :
    Calls Tryz.prog 93 #[.slice A n c, .int .i64 K] w fun e w' => e = .returned (.slice (some ⟨w.heap.size, 0, none⟩) (n + k) (n + k)) ∧ Ob w' w.heap.size 5 w.heap.size (n + k) (n + k) (xs ++ List.replicate k 0) ∧ Below w.heap.size w w' := by
  subst hK
  have HB := Lib.hid hb
  clear hb
  have HE : Hid (over (List.replicate (n + k) 0) 0 xs = xs ++ List.replicate k 0) := by
    have e : List.replicate (n + k) (0 : Int) = List.replicate n 0 ++ List.replicate k 0 := (List.replicate_append_replicate ..).symm
    show over _ 0 xs = _
    rw [e]
    exact over_front xs _ n HB.out.len.symm (List.length_replicate) _
  go_enter Tryz.func93, Tryz.ntmps93
  go_wp2_with (first
    | (at_make; refine wpList_make_bytes rfl _ _ _ rfl w.heap.size 5 Tryz.underlying38 info8 _ _ _ _ (n + k) rfl rfl (by omega) (by omega) hn (Nat.le_refl _) ?_; intro w1 hown1 hg1)
    | (refine wpList_copy_bytes (o := ⟨some 13, _, _, _, _, _⟩) rfl _ _ _ _ rfl 5 Tryz.underlying38 size8 w.heap.size w.heap.size 0 (n + k) (n + k) (n + k) (n + k) _ _ rfl hown1 A n c xs rfl (HB.out.below (((Below.refl _ _).grown hg1 (Nat.le_refl _) (by intro k hk; cases hk)))) (by omega) (fun _ => rfl) (by omega) (xs ++ List.replicate k 0) HE.out ?_; intro w2 hown2 hg2))
  go_ret
  exact ⟨rfl, hown2, ((Below.refl _ _).grown hg1 (Nat.le_refl _) (by intro k hk; cases hk)).grown hg2 hg1.size (by intro k hk; injection hk with hk; omega)⟩

theorem shr_byte (x : Int) (i : Nat) : x / 2 ^ (8 * i) % 256 = x / 256 ^ i % 256 := by
  rw [Int.pow_mul]
  rfl

set_option maxHeartbeats 800000 in
theorem put_calls (A : Option Addr) (n c : Nat) (xs : List Int) (m x : Int) (w : World) (hb : Bs w A n xs) (hn : n + 8 ≤ 140737488355328) (h0 : -9223372036854775808 ≤ m) (h1 : m ≤ 9223372036854775807) :
    Calls Tryz.prog 80 #[.slice A n c, .int .i64 m, .int .u64 x] w (Made (xs ++ low (width m) x) w) := by
  have HB := Lib.hid hb
  clear hb
  have hwd := width_bd m
  obtain ⟨k, hk⟩ : ∃ k, width m = k := ⟨_, rfl⟩
  have HW := Lib.hid (width_calls m w h0 h1)
  rw [hk] at HW hwd ⊢
  clear hk
  go_enter Tryz.func80, Tryz.ntmps80
  go_wp2_with fail
  refine (HW.out).mono ?_
  rintro e w' ⟨rfl, rfl⟩
  go_wp2_with fail
  refine (behind_calls A n c xs _ k rfl _ HB.out (by omega)).mono ?_
  rintro e w1 ⟨rfl, hown1, hbel1⟩
  go_wp2_with fail
  go_loopw [15] (fun i wr => ∃ j : Nat, j ≤ k ∧ i = .int .i64 j ∧ Ob wr w.heap.size 5 w.heap.size (n + k) (n + k) (xs ++ (List.replicate (k - j) 0 ++ low j x)) ∧ Below w.heap.size w wr) (fun i _ => k - (intOf i).toNat)
  case atStart => exact ⟨0, by omega, rfl, by simpa [low] using hown1, hbel1⟩
  case round =>
    obtain ⟨j, hj, rfl, hown2, hbel2⟩ := hrel
    clear hown1 hbel1
    by_cases hlt : j < k
    · have hfr := hown2.frozen (n + k - 1 - j)
      have hcell := hown2.cell (n + k - 1 - j) (by omega)
      go_wp2
      go_roundw
      case rel =>
        refine ⟨j + 1, by omega, by go_num, ?_, hbel2.setCell (Nat.le_refl _) _⟩
        have h3 := hown2.set_ (n + k - 1 - j) (x / 256 ^ j % 256) (by omega) (by omega)
        rw [← HB.out.len, put_round xs k j x hlt, HB.out.len] at h3
        rw [shr_byte]
        exact h3
      case measure => simp [intOf]; omega
    · obtain rfl : j = k := by omega
      go_wp2
      go_ret
      have e2 : xs ++ (List.replicate (j - j) 0 ++ low j x) = xs ++ low j x := by simp
      rw [e2] at hown2
      have hl : (xs ++ low j x).length = n + j := by rw [List.length_append, HB.out.len, low_len]
      exact Made.of hl rfl hown2 hbel2

theorem or64 (x y : Int) (h0 : 0 ≤ x) (h1 : x < 72057594037927936) (h2 : 0 ≤ y) (h3 : y ≤ 255) : bits .or .u64 (x * 256) y = x * 256 + y := by
  rw [u64_or _ y (by omega) (by omega) h2 (by omega), nat_join 8 _ _ (by omega) (by omega)]
  omega

set_option maxHeartbeats 800000 in
theorem get_calls (A : Option Addr) (n c : Nat) (xs : List Int) (a m : Int) (w : World) (hb : Bs w A n xs) (hn : n ≤ 140737488355328) (h0 : -9223372036854775808 ≤ a) (h1 : a ≤ 9223372036854775807) (h2 : -9223372036854775808 ≤ m) (h3 : m ≤ 9223372036854775807) :
    Calls Tryz.prog 95 #[.slice A n c, .int .i64 a, .int .i64 m] w fun e w' => e = .returned (.tuple #[.int .u64 (gx xs a m), .int .i64 (gi xs a m), .int .i64 (ge xs a m)]) ∧ w = w' := by
  have HB := Lib.hid hb
  clear hb
  by_cases ha : a < 0 ∨ (n : Int) < a
  · have hg := g_arg xs a m (by rw [HB.out.len]; exact ha)
    rw [hg.1, hg.2.1, hg.2.2]
    clear hg
    rcases ha with ha | ha
    · go_enter Tryz.func95, Tryz.ntmps95
      go_wp2
      go_ret3
      exact ⟨rfl, rfl⟩
    · have hd : decide (a < 0) = false := by simp; omega
      go_enter Tryz.func95, Tryz.ntmps95
      go_wp2
      go_ret3
      exact ⟨rfl, rfl⟩
  · have ha' : 0 ≤ a ∧ a ≤ (n : Int) := by omega
    obtain ⟨i, rfl⟩ := Int.eq_ofNat_of_zero_le ha'.1
    have hi : i ≤ n := by omega
    have hwd := width_bd m
    have HA : Hid (¬ ((i : Int) < 0 ∨ (xs.length : Int) < (i : Int))) := by rw [HB.out.len]; exact ha
    clear ha ha' h0 h1
    have d1 : decide ((i : Int) < 0) = false := by simp
    have d2 : decide (n < i) = false := by simp; omega
    have HW := Lib.hid (width_calls m w h2 h3)
    by_cases hs : n < i + width m
    · have hg := g_short xs i m HA.out (by rw [HB.out.len]; omega)
      rw [hg.1, hg.2.1, hg.2.2]
      clear hg
      obtain ⟨k, hk⟩ : ∃ k, width m = k := ⟨_, rfl⟩
      rw [hk] at HW hs hwd
      clear hk
      go_enter Tryz.func95, Tryz.ntmps95
      go_wp2_with fail
      refine (HW.out).mono ?_
      rintro e w' ⟨rfl, rfl⟩
      go_wp2_with fail
      go_ret3
      exact ⟨rfl, rfl⟩
    · have hg := g_ok xs i m HA.out (by rw [HB.out.len]; omega)
      rw [hg.1, hg.2.1, hg.2.2, Int.toNat_natCast]
      clear hg
      obtain ⟨k, hk⟩ : ∃ k, width m = k := ⟨_, rfl⟩
      rw [hk] at HW hs hwd ⊢
      clear hk
      go_enter Tryz.func95, Tryz.ntmps95
      go_wp2_with fail
      refine (HW.out).mono ?_
      rintro e w' ⟨rfl, rfl⟩
      go_wp2_with fail
      go_loop [28, 9] (fun j x => ∃ (t : Nat) (X : Int), t ≤ k ∧ j = .int .i64 t ∧ x = .int .u64 X ∧ Hid (X = getn xs i t)) (fun j _ => k - (intOf j).toNat)
      case atStart => exact ⟨0, 0, by omega, rfl, rfl, by exact (getn_zero xs i).symm⟩
      case round =>
        obtain ⟨t, X, ht, rfl, rfl, hX⟩ := hrel
        by_cases hlt : t < k
        · obtain ⟨b, o, rfl, _, hc⟩ := HB.out.2.2 (i + t) (by omega)
          have hx := HB.out.bd (i + t)
          have hXb := get_bd xs i t HB.out.2.1
          have hp := pow_mono t 7 (by omega)
          rw [← hX.out] at hXb
          have hs' := get_succ xs i t (by rw [HB.out.len]; omega)
          rw [← hX.out] at hs'
          have HS := Lib.hid hs'
          clear hs'
          generalize hxe : xs.getD (i + t) 0 = y at hc hx HS
          clear hxe
          have hX0 := hXb.1
          have hX1 : X < 72057594037927936 := Int.lt_of_lt_of_le hXb.2 hp
          have hor := or64 X y hX0 (by omega) hx.1 hx.2
          clear hXb hp
          go_wp2
          go_round
          case rel => exact ⟨t + 1, X * 256 + y, by omega, by go_num, rfl, HS.out.symm⟩
          case measure => simp [intOf]; omega
        · obtain rfl : t = k := by omega
          go_wp2
          go_ret3
          rw [hX.out]
          exact ⟨rfl, rfl⟩

theorem copied (n : Nat) (xs : List Int) (hl : xs.length = n) (t : ByteArray) (k : Nat) (hk : k = 1 + t.size) (v : Int) (hv : v = t.size) : over ((xs ++ List.replicate k 0).set n v) (n + 1) (txt t) = xs ++ (t.size : Int) :: txt t := by
  subst hl
  subst hk
  subst hv
  have e1 : (xs ++ List.replicate (1 + t.size) 0).set xs.length (t.size : Int) = (xs ++ [(t.size : Int)]) ++ List.replicate t.size 0 := by
    rw [List.set_append_right _ _ (Nat.le_refl _), Nat.sub_self, Nat.add_comm, List.replicate_succ, List.set_cons_zero, List.append_assoc]
    rfl
  rw [e1]
  have e2 := over_end (xs ++ [(t.size : Int)]) (txt t) (List.replicate t.size 0) (by rw [txt_len, List.length_replicate])
  rw [List.length_append, List.length_singleton] at e2
  rw [e2, List.append_assoc]
  rfl
set_option maxHeartbeats 1600000 in
theorem gettext_calls (A : Option Addr) (n c : Nat) (xs : List Int) (a m : Int) (w : World) (hb : Bs w A n xs) (hn : n ≤ 140737488355328) (hcap : n ≤ c) (h0 : -9223372036854775808 ≤ a) (h1 : a ≤ 9223372036854775807) :
    Calls Tryz.prog 98 #[.slice A n c, .int .i64 a, .int .i64 m] w fun e w' => e = .returned (.tuple #[.string (tx xs a m), .int .i64 (ti xs a m), .int .i64 (te xs a m)]) ∧ w = w' := by
  have hG := get_calls A n c xs a 1 w hb hn h0 h1 (by omega) (by omega)
  have HB := Lib.hid hb
  clear hb
  by_cases ha : a < 0 ∨ (n : Int) < a
  · have hg := g_arg xs a 1 (by rw [HB.out.len]; exact ha)
    have ht := t_arg xs a m (by rw [HB.out.len]; exact ha)
    rw [hg.1, hg.2.1, hg.2.2] at hG
    rw [ht.1, ht.2.1, ht.2.2]
    clear hg ht ha
    have HG := Lib.hid hG
    clear hG
    go_enter Tryz.func98, Tryz.ntmps98
    go_wp2_with fail
    refine (HG.out).mono ?_
    rintro e w' ⟨rfl, rfl⟩
    go_wp2_with fail
    go_ret3
    exact ⟨rfl, rfl⟩
  · have ha' : 0 ≤ a ∧ a ≤ (n : Int) := by omega
    obtain ⟨i, rfl⟩ := Int.eq_ofNat_of_zero_le ha'.1
    have hi : i ≤ n := by omega
    clear ha ha' h0 h1
    by_cases he : i = n
    · have hin := HB.out.len
      rw [← he] at hin
      subst hin
      have hg := g_short xs xs.length 1 (by omega) (by rw [width_one]; omega)
      have ht := t_end xs m
      rw [hg.1, hg.2.1, hg.2.2] at hG
      rw [ht.1, ht.2.1, ht.2.2]
      clear hg ht
      have HG := Lib.hid hG
      clear hG he
      go_enter Tryz.func98, Tryz.ntmps98
      go_wp2_with fail
      refine (HG.out).mono ?_
      rintro e w' ⟨rfl, rfl⟩
      go_wp2_with fail
      go_ret3
      exact ⟨rfl, rfl⟩
    · have hlt : i < n := by omega
      have hxl : i < xs.length := by rw [HB.out.len]; exact hlt
      clear he
      have hg := g_in xs i hxl
      rw [hg.1, hg.2.1, hg.2.2] at hG
      clear hg
      have hy := HB.out.bd i
      obtain ⟨Y, hY⟩ := Int.eq_ofNat_of_zero_le hy.1
      have HY := Lib.hid hY
      rw [hY] at hG hy
      have hY255 : Y ≤ 255 := by omega
      clear hY hy
      have HG := Lib.hid hG
      have HL := Lib.hid hxl
      clear hG hxl
      by_cases hm : m < (Y : Int)
      · have ht := t_long xs i m HL.out (by rw [HY.out]; exact hm)
        rw [ht.1, ht.2.1, ht.2.2]
        clear ht
        go_enter Tryz.func98, Tryz.ntmps98
        go_wp2_with fail
        refine (HG.out).mono ?_
        rintro e w' ⟨rfl, rfl⟩
        go_wp2_with fail
        go_ret3
        exact ⟨rfl, rfl⟩
      · by_cases hs : n < i + 1 + Y
        · have ht := t_short xs i m HL.out (by rw [HY.out]; exact hm) (by rw [HY.out, HB.out.len]; omega)
          rw [ht.1, ht.2.1, ht.2.2]
          clear ht
          go_enter Tryz.func98, Tryz.ntmps98
          go_wp2_with fail
          refine (HG.out).mono ?_
          rintro e w' ⟨rfl, rfl⟩
          go_wp2_with fail
          go_ret3
          exact ⟨rfl, rfl⟩
        · have ht := t_ok xs i Y m HL.out HY.out hm (by rw [HB.out.len]; omega)
          rw [ht.1, ht.2.1, ht.2.2]
          clear ht
          obtain ⟨b, o, rfl, _, _⟩ := HB.out.2.2 i hlt
          have hsub := HB.out.sub (i + 1) Y (by omega)
          by_cases hz : c = i + 1
          · have hY0 : Y = 0 := by omega
            subst hY0
            subst hz
            have hsub0 := Bs.nil_ w (some ⟨b, o, none⟩)
            have hcv := fun cp => hsub0.str_ (P := Tryz.prog) (c := cp) 38 9 Tryz.underlying38 Tryz.underlying5 Tryz.underlying9
            clear hsub hsub0
            go_enter Tryz.func98, Tryz.ntmps98
            go_wp2_with fail
            refine (HG.out).mono ?_
            rintro e w' ⟨rfl, rfl⟩
            go_wp2_with fail
            go_ret3
            exact ⟨by rw [List.take_zero]; rfl, rfl⟩
          · have hcv := fun cp => hsub.str_ (P := Tryz.prog) (c := cp) 38 9 Tryz.underlying38 Tryz.underlying5 Tryz.underlying9
            clear hsub
            go_enter Tryz.func98, Tryz.ntmps98
            go_wp2_with fail
            refine (HG.out).mono ?_
            rintro e w' ⟨rfl, rfl⟩
            go_wp2_with fail
            go_ret3
            exact ⟨rfl, rfl⟩
end Go.Proofs.YthbafcihmcjchaaGreatDoor.PackW
