/- The walks of layer 3's three laws over the contracts: each returns true and writes nothing that was there. Condition: the slices of bytes read as numbers 0..255, the integers fit their kinds. -/
import Derived.Test.YtoacmlcnkkaehaaPackR
import Derived.BigQuiet
import Derived.WalkSmall
import Derived.Deep.QuietTactic
import Derived.Deep.RegionHeld3
import Derived.Lib.SlBytesConst
namespace Go.Proofs.Ytoacmlcnkkaehaa.PackL
open Go.RowKit
open Go.Proofs.Ytoacmlcnkkaehaa.Byte Go.Proofs.Ytoacmlcnkkaehaa.PackM Go.Proofs.Ytoacmlcnkkaehaa.PackW Go.Proofs.Ytoacmlcnkkaehaa.PackR

/-- The chapter's examples. -/
theorem ex_put : [] ++ low (width 2) 258 = [1, 2] := by decide
theorem ex_text : tx [2, 97, 98] 0 5 = ⟨#[97, 98]⟩ ∧ ti [2, 97, 98] 0 5 = 3 ∧ te [2, 97, 98] 0 5 = 0 := by
  obtain ⟨a, b, c⟩ := t_ok [2, 97, 98] 0 2 5 (by decide) rfl (by decide) (by decide)
  exact ⟨a, b, c⟩
theorem bs_text (w : World) (t : TypeId) (f : Nat × Nat) : Bs (w.alloc (.cells #[.int .u8 2, .int .u8 97, .int .u8 98] t f)) (some ⟨w.heap.size, 0, none⟩) 3 [2, 97, 98] :=
  Bs.new_ w t f [2, 97, 98] (by decide)
set_option maxHeartbeats 800000 in
theorem fixed_calls (w : World) : Calls Try.prog 6 #[] w fun e w' => e = .returned (.bool true) ∧ Below w.heap.size w w' := by
  have kc := fun (w : World) (C : Array Value) (n c : Nat) => Lib.run_convert_bytes_const (P := Try.prog) w 22 5 C n c Try.underlying22 Try.underlying5
  go_enter Try.func6, Try.ntmps6
  go_wp2_with fail
  refine (gettext_calls _ _ _ _ _ _ _ (bs_text _ _ _) (by decide) (by decide) (by decide) (by decide)).mono ?_
  rintro e w' ⟨rfl, rfl⟩
  rw [ex_text.1, ex_text.2.1, ex_text.2.2]
  go_wp2_with fail
  refine (put_calls _ _ _ [] _ _ _ (Bs.nil_ _ _) (by decide) (by decide) (by decide)).mono ?_
  rintro e w1 ⟨g, cap, he, hown1, hbel1⟩
  rw [ex_put] at he hown1
  subst he
  have hown2 : Ob w1 _ _ g 2 cap [1, 2] := hown1
  have hcv := hown2.str_ (P := Try.prog) 22 9 Try.underlying22 Try.underlying5 Try.underlying9
  rw [show str [1, 2] = ⟨#[1, 2]⟩ from rfl] at hcv
  clear hown1 hown2
  go_wp2_with fail
  go_ret
  exact ⟨rfl, ((Below.refl _ _).alloc (Nat.le_refl _) _).trans (hbel1.mono (by simp))⟩

set_option maxHeartbeats 800000 in
theorem gets_law (A : Option Addr) (n c : Nat) (xs : List Int) (a m most : Int) (w : World) (hb : Bs w A n xs) (hn : n ≤ maxLen) (hcap : n ≤ c)
    (h0 : -9223372036854775808 ≤ a) (h1 : a ≤ 9223372036854775807) (h2 : -9223372036854775808 ≤ m) (h3 : m ≤ 9223372036854775807) :
    Calls Try.prog 4 #[.slice A n c, .int .i64 a, .int .i64 m, .int .i64 most] w fun e w' => e = .returned (.bool true) ∧ Below w.heap.size w w' := by
  unfold maxLen at hn
  have HB := Lib.hid hb
  clear hb
  by_cases hbig : 3000 < n
  · go_enter Try.func4, Try.ntmps4
    go_wp2_with (go_at_call 6; refine (fixed_calls _).mono ?_; rintro e w' ⟨rfl, hbel⟩)
    go_ret
    exact ⟨rfl, hbel⟩
  have hn' : n ≤ 3000 := by omega
  clear hbig
  go_enter Try.func4, Try.ntmps4
  go_wp2_with fail
  refine (get_calls A n c xs a m _ HB.out (by omega) h0 h1 h2 h3).mono ?_
  rintro e w' ⟨rfl, rfl⟩
  go_wp2_with fail
  refine (refget_calls A n c xs a m _ HB.out (by omega) h0 h1 h2 h3).mono ?_
  rintro e w' ⟨rfl, rfl⟩
  go_wp2_with fail
  refine (gettext_calls A n c xs a most _ HB.out (by omega) hcap h0 h1).mono ?_
  rintro e w' ⟨rfl, rfl⟩
  go_wp2_with fail
  refine (refgettext_calls A n c xs a most _ HB.out (by omega) h0 h1).mono ?_
  rintro e w1 ⟨rfl, hbel1⟩
  go_wp2_with fail
  refine (fixed_calls _).mono ?_
  rintro e w2 ⟨rfl, hbel2⟩
  go_wp2_with fail
  go_ret
  exact ⟨rfl, hbel1.trans (hbel2.mono hbel1.size)⟩

set_option maxHeartbeats 800000 in
theorem back_law (A : Option Addr) (n c : Nat) (xs : List Int) (m x : Int) (s : ByteArray) (w : World) (hb : Bs w A n xs) (hn : n ≤ maxLen) (hs : s.size ≤ maxLen)
    (h0 : 0 ≤ m) (h1 : m ≤ 255) (hx0 : 0 ≤ x) (hx1 : x ≤ 18446744073709551615) :
    Calls Try.prog 5 #[.slice A n c, .int .u8 m, .int .u64 x, .string s] w fun e w' => e = .returned (.bool true) ∧ Below w.heap.size w w' := by
  unfold maxLen at hn hs
  have HB := Lib.hid hb
  clear hb
  by_cases hbig : 3000 < n
  · go_enter Try.func5, Try.ntmps5
    go_wp2_with (go_at_call 6; refine (fixed_calls _).mono ?_; rintro e w' ⟨rfl, hbel⟩)
    go_ret
    exact ⟨rfl, hbel⟩
  have d1 : decide (3000 < (n : Int)) = false := by simp; omega
  by_cases hbig2 : 255 < s.size
  · go_enter Try.func5, Try.ntmps5
    go_wp2_with (go_at_call 6; refine (fixed_calls _).mono ?_; rintro e w' ⟨rfl, hbel⟩)
    go_ret
    exact ⟨rfl, hbel⟩
  have d2 : decide (255 < (s.size : Int)) = false := by simp; omega
  have hn' : n ≤ 3000 := by omega
  have hs' : s.size ≤ 255 := by omega
  clear hbig hbig2
  obtain ⟨k, hk⟩ : ∃ k : Nat, 1 + m % 8 = k := ⟨(1 + m % 8).toNat, by omega⟩
  have hk1 : 1 ≤ k ∧ k ≤ 8 := by omega
  have hself : s.extract 0 (min s.size 255) = s := by
    rw [Nat.min_eq_left hs']
    exact ByteArray.extract_zero_size
  have HS := Lib.hid hself
  clear hself
  have hl1 : ∀ X, (xs ++ low (width (k : Int)) X).length = n + k := by
    intro X
    rw [List.length_append, HB.out.len, low_len, width_of k hk1.1 hk1.2]
  have hl2 : ∀ X, (xs ++ low (width (k : Int)) X ++ (s.size : Int) :: txt s).length = n + k + (1 + s.size) := by
    intro X
    rw [List.length_append, hl1, List.length_cons, txt_len, Nat.add_comm s.size]
  have HL1 := Lib.hid hl1
  have HL2 := Lib.hid hl2
  clear hl1 hl2
  by_cases h8 : k < 8
  focus
    have hw := wrap_pow k h8
    obtain ⟨q, hq⟩ : ∃ q : Int, 256 ^ k = q := ⟨_, rfl⟩
    rw [hq] at hw
    have HQ := Lib.hid hq
    clear hq
    have hq0 := hw.2
    have hq := hw.1
    clear hw
    have hm := mod_bd x q hq0
    obtain ⟨X, hX⟩ : ∃ X, x % q = X := ⟨_, rfl⟩
    rw [hX, ← HQ.out] at hm
    have HX := Lib.hid hm
    clear hm
  rotate_left
  focus
    have HX := Lib.hid (top_bd x k hx0 hx1 (by omega))
    obtain ⟨X, rfl⟩ : ∃ X, X = x := ⟨_, rfl⟩
  all_goals
    have HN1 := Lib.hid (HL1.out X)
    have HN2 := Lib.hid (HL2.out X)
    have HG : Hid (gx (xs ++ low (width (k : Int)) X ++ (s.size : Int) :: txt s) n k = X ∧ gi (xs ++ low (width (k : Int)) X ++ (s.size : Int) :: txt s) n k = (n : Int) + k ∧ ge (xs ++ low (width (k : Int)) X ++ (s.size : Int) :: txt s) n k = 0) := by
      have h := back xs ((s.size : Int) :: txt s) k X hk1.1 hk1.2 HX.out.1 HX.out.2
      rw [HB.out.len] at h
      rw [width_of k hk1.1 hk1.2]
      exact ⟨h.1, h.2.1, h.2.2⟩
    have HT : Hid (tx (xs ++ low (width (k : Int)) X ++ (s.size : Int) :: txt s) ((n : Int) + k) 255 = s ∧ ti (xs ++ low (width (k : Int)) X ++ (s.size : Int) :: txt s) ((n : Int) + k) 255 = ((n + k + (1 + s.size) : Nat) : Int) ∧ te (xs ++ low (width (k : Int)) X ++ (s.size : Int) :: txt s) ((n : Int) + k) 255 = 0) := by
      have h := back_text (xs ++ low (width (k : Int)) X) s hs'
      rw [HN1.out] at h
      exact ⟨h.2.2, h.2.1.trans (by rw [Nat.add_assoc (n + k)]), h.1⟩
    go_enter Try.func5, Try.ntmps5
    go_wp2_with fail
    refine (put_calls A n c xs _ X _ HB.out (by omega) (by omega) (by omega)).mono ?_
    intro e w1 hm1
    obtain ⟨g1, cap1, rfl, hown1, hbel1⟩ := hm1.at_ HN1.out
    clear hm1
    go_wp2_with fail
    refine (puttext_calls _ (n + k) cap1 _ s _ hown1.bs (by omega) (by unfold maxLen; omega)).mono ?_
    rw [HS.out]
    intro e w2 hm2
    obtain ⟨g2, cap2, rfl, hown2, hbel2⟩ := hm2.at_ HN2.out
    clear hm2
    have hcap2 := hown2.capLe
    go_wp2_with fail
    refine (get_calls _ (n + k + (1 + s.size)) cap2 _ (n : Int) (k : Int) _ hown2.bs (by omega) (by omega) (by omega) (by omega) (by omega)).mono ?_
    rintro e w' ⟨rfl, rfl⟩
    rw [HG.out.1, HG.out.2.1, HG.out.2.2]
    go_wp2_with fail
    refine (gettext_calls _ (n + k + (1 + s.size)) cap2 _ ((n : Int) + k) _ _ hown2.bs (by omega) hcap2 (by omega) (by omega)).mono ?_
    rintro e w' ⟨rfl, rfl⟩
    rw [HT.out.1, HT.out.2.1, HT.out.2.2]
    go_wp2_with fail
    refine (fixed_calls _).mono ?_
    rintro e w3 ⟨rfl, hbel3⟩
    go_wp2_with fail
    all_goals go_ret
    all_goals exact ⟨rfl, (hbel1.trans (hbel2.mono hbel1.size)).trans (hbel3.mono (by have := hbel1.size; have := hbel2.size; omega))⟩
end Go.Proofs.Ytoacmlcnkkaehaa.PackL
