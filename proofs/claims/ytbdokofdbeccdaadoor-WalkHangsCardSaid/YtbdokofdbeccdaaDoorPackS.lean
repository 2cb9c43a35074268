/- The contracts of the document's answer for layer 3. Conditions: bytes that come in read as numbers 0..255, lengths and integers fit their kinds. -/
import Derived.Test.YtbdokofdbeccdaaDoorPackV
namespace Go.Proofs.YtbdokofdbeccdaaDoor.PackS
open Go.RowKit
open Go.Proofs.YtbdokofdbeccdaaDoor.Byte Go.Proofs.YtbdokofdbeccdaaDoor.PackM Go.Proofs.YtbdokofdbeccdaaDoor.PackV

set_option maxRecDepth 100000 in
set_option maxHeartbeats 400000 in
theorem wide_calls (n : Int) (w : World) (h0 : -9223372036854775808 ≤ n) (h1 : n ≤ 9223372036854775807) :
    Calls Tryd.prog 63 #[.int .i64 n] w fun e w' => e = .returned (.int .i64 (width n : Int)) ∧ w = w' := by
  rw [width_int]
  go_enter Tryd.func63, Tryd.ntmps63
  go_wp2
  all_goals (go_ret; exact ⟨ret_int (by (repeat' split) <;> omega), rfl⟩)


set_option maxRecDepth 100000 in
set_option maxHeartbeats 1600000 in
theorem refput_calls (A : Option Addr) (n c : Nat) (xs : List Int) (m x : Int) (w : World) (hb : Bs w A n xs) (hA : A = none → c = 0) (hn : n + 8 ≤ 140737488355328) (h0 : -9223372036854775808 ≤ m) (h1 : m ≤ 9223372036854775807) (hx0 : 0 ≤ x) (hx1 : x ≤ 18446744073709551615) :
    Calls Tryd.prog 43 #[.slice A n c, .int .i64 m, .int .u64 x] w (Made (xs ++ low (width m) x) w) := by
  have HB := Lib.hid hb
  clear hb
  have hwd := width_bd m
  obtain ⟨k, hk⟩ : ∃ k, width m = k := ⟨_, rfl⟩
  have HW := Lib.hid (fun w => wide_calls m w h0 h1)
  rw [hk] at HW hwd ⊢
  clear hk
  go_enter Tryd.func43, Tryd.ntmps43
  go_wp2_with (at_builtin; refine wpList_append_bytes rfl (.tmp 12) (.tmp 13) _ rfl w.heap.size 5 Tryd.underlying67 info8 w.heap.size 0 0 [] rfl (Ob.new_ _ _ (Nat.le_refl _)) A n c xs rfl (HB.out.below ((Below.refl _ _).alloc (Nat.le_refl _) _)) hA n (by omega) xs rfl (by omega) (by simp) ?_; intro g1 cap1 w1 hown1 hg1 _; have hbel1 : Below w.heap.size w w1 := ((Below.refl _ _).alloc (Nat.le_refl _) _).grown hg1 (by simp) (by intro k hk; injection hk with hk; omega); clear hg1)
  have hsz1 := hown1.place
  go_loopw [2, 8, 9] (fun X d i wr => ∃ (j g cap : Nat) (x' : Int), j ≤ k ∧ i = .int .i64 j ∧ X = .int .u64 x' ∧ d = .slice (some ⟨g, 0, none⟩) j cap ∧ 0 ≤ x' ∧ x' ≤ 18446744073709551615 ∧ Hid (x' = x / 256 ^ j) ∧ g ≠ g1 ∧ Ob wr w.heap.size 5 g j cap (low j x).reverse ∧ Ob wr w.heap.size 5 g1 n cap1 xs ∧ Below w.heap.size w wr) (fun _ _ i _ => k - (intOf i).toNat)
  case atStart => exact ⟨0, w1.heap.size, 0, x, by omega, rfl, rfl, rfl, hx0, hx1, by show x = _; simp, by omega, Ob.new_ _ _ hbel1.size, hown1.below ((Below.refl _ _).alloc (Nat.le_refl _) _), hbel1.alloc hbel1.size _⟩
  case round =>
    obtain ⟨j, g, cap, x', hj, rfl, rfl, rfl, hx'0, hx'1, hX, hne, hd, ho, hbel⟩ := hrel
    clear hown1 hbel1
    by_cases hlt : j < k
    · go_wp2_with (first
        | (go_at_call 63; refine (HW.out _).mono ?_; rintro e w' ⟨rfl, rfl⟩)
        | (at_builtin; refine wpList_append_bytes rfl (.tmp 22) (.tmp 26) _ rfl w.heap.size 5 Tryd.underlying67 info8 g j cap (low j x).reverse rfl (hd.below ((Below.refl _ _).alloc (Nat.le_refl _) _)) (some ⟨wr.heap.size, 0, none⟩) 1 1 [x' % 256] rfl (Bs.new_ _ _ _ [x' % 256] (by intro y hy; rw [List.mem_singleton] at hy; omega)) (by intro h; cases h) (j + 1) rfl _ rfl (by omega) (by have := hbel.size; simp; omega) ?_; intro g2 cap2 w2 hown2 hg2 hat2))
      have hal := hbel.size
      go_roundw
      case rel =>
        refine ⟨j + 1, g2, cap2, x' / 256, by omega, by go_num, rfl, rfl, by omega, by omega, ?_, ?_, ?_, ?_, ?_⟩
        · show x' / 256 = _
          rw [hX.out, div_succ]
        · rcases hat2 with rfl | rfl
          · exact hne
          · have := ho.place.2
            simp
            omega
        · rw [← rev_succ x x' j hX.out]
          exact hown2
        · exact (ho.below ((Below.refl _ _).alloc (Nat.le_refl _) _)).grown hg2 (by intro e; injection e with e; exact hne e)
        · exact (hbel.alloc hal _).grown hg2 (by simp; omega) (by intro k hk; injection hk with hk; have := hd.place.1; omega)
      case measure => simp [intOf]; omega
    · obtain rfl : j = k := by omega
      clear hX hx'0 hx'1
      go_wp2_with (go_at_call 63; refine (HW.out _).mono ?_; rintro e w' ⟨rfl, rfl⟩)
      go_loopw [7, 10] (fun v i wr => ∃ (t g2 cap2 : Nat), t ≤ j ∧ i = .int .i64 ((j : Int) - 1 - t) ∧ v = .slice (some ⟨g2, 0, none⟩) (n + t) cap2 ∧ g ≠ g2 ∧ Ob wr w.heap.size 5 g j cap (low j x).reverse ∧ Ob wr w.heap.size 5 g2 (n + t) cap2 (xs ++ (low j x).take t) ∧ Below w.heap.size w wr) (fun _ i _ => (intOf i + 1).toNat)
      case atStart => exact ⟨0, g1, cap1, by omega, by simp, rfl, hne, hd, by simpa using ho, hbel⟩
      case round =>
        obtain ⟨t, g2, cap2, ht, rfl, rfl, hne2, hd2, ho2, hbel2⟩ := hrel
        clear hd ho hbel
        by_cases hlt2 : t < j
        · have hcell := hd2.cell (j - 1 - t) (by omega)
          rw [rev_at j t x hlt2] at hcell
          have hv : 0 ≤ (low j x).getD t 0 ∧ (low j x).getD t 0 ≤ 255 := by rw [low_getD j x t hlt2]; omega
          have HT := Lib.hid (take_next j t x hlt2)
          generalize (low j x).getD t 0 = v at hcell hv HT
          go_wp2_with (at_builtin; refine wpList_append_bytes rfl (.tmp 37) (.tmp 42) _ rfl w.heap.size 5 Tryd.underlying67 info8 g2 (n + t) cap2 _ rfl (ho2.below ((Below.refl _ _).alloc (Nat.le_refl _) _)) (some ⟨_, 0, none⟩) 1 1 [v] rfl (Bs.new_ _ _ _ [v] (by intro y hy; rw [List.mem_singleton] at hy; omega)) (by intro h; cases h) (n + (t + 1)) (by omega) _ rfl (by omega) (by have := hbel2.size; simp; omega) ?_; intro g3 cap3 w3 hown3 hg3 hat3)
          have hal := hbel2.size
          go_roundw
          case rel =>
            refine ⟨t + 1, g3, cap3, by omega, ?_, rfl, ?_, ?_, ?_, ?_⟩
            · congr 1
              omega
            · rcases hat3 with rfl | rfl
              · exact hne2
              · have := hd2.place.2
                simp
                omega
            · exact (hd2.below ((Below.refl _ _).alloc (Nat.le_refl _) _)).grown hg3 (by intro e; injection e with e; exact hne2 e.symm)
            · rw [List.append_assoc, HT.out] at hown3
              exact hown3
            · exact (hbel2.alloc hal _).grown hg3 (by simp; omega) (by intro k hk; injection hk with hk; have := ho2.place.1; omega)
          case measure => simp [intOf]; omega
        · obtain rfl : t = j := by omega
          go_wp2
          go_ret
          rw [List.take_of_length_le (by rw [low_len]; exact Nat.le_refl _)] at ho2
          exact Made.of (by rw [List.length_append, HB.out.len, low_len]) rfl ho2 hbel2
end Go.Proofs.YtbdokofdbeccdaaDoor.PackS
