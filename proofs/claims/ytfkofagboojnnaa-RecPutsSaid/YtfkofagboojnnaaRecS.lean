/- The walk of layer 6's law RecPuts. -/
import Derived.Test.YtfkofagboojnnaaRecF
import Derived.IntWalk
namespace Go.Proofs.Ytfkofagboojnnaa.RecS
set_option linter.unusedVariables false
set_option linter.unusedSimpArgs false
open Go.RowKit
open Go.Proofs.Ytfkofagboojnnaa.Byte Go.Proofs.Ytfkofagboojnnaa.PackM Go.Proofs.Ytfkofagboojnnaa.PackV Go.Proofs.Ytfkofagboojnnaa.RecM Go.Proofs.Ytfkofagboojnnaa.RecW Go.Proofs.Ytfkofagboojnnaa.RecP Go.Proofs.Ytfkofagboojnnaa.RecX Go.Proofs.Ytfkofagboojnnaa.RecF

theorem zero8 (w : World) : (zeroValue 5).run Try.prog w = .ok (.int .u8 0) w := by kernel_rfl
theorem clear_nil (w : World) (r : TypeId) : (Builtin.clear_ #[22] r #[.slice none 0 0]).run Try.prog w = .ok (.tuple #[]) w := by
  simp [Builtin.clear_, run_underlying Try.underlying22]
theorem size_ok (n : Nat) (w : World) (h : n ≤ 65535) : Calls Try.prog 11 #[.int .i64 (n : Int)] w fun e w' => e = .returned (.int .i64 ((n : Int) + 8)) ∧ w = w' := by
  have H := size_calls (n : Int) w (by omega) (by omega)
  rw [if_neg (by omega), Int.add_comm] at H
  exact H
theorem size_neg (n : Nat) (w : World) (h : n ≤ 70000) : Calls Try.prog 11 #[.int .i64 (-1 - (n : Int))] w fun e w' => e = .returned (.int .i64 0) ∧ w = w' := by
  have H := size_calls (-1 - (n : Int)) w (by omega) (by omega)
  rw [if_pos (by omega)] at H
  exact H
theorem size_over (n : Nat) (w : World) (h : 65535 < n) (h2 : n ≤ 70000) : Calls Try.prog 11 #[.int .i64 (n : Int)] w fun e w' => e = .returned (.int .i64 0) ∧ w = w' := by
  have H := size_calls (n : Int) w (by omega) (by omega)
  rw [if_pos (by omega)] at H
  exact H
set_option maxHeartbeats 4000000 in
theorem puts_short (A : Option Addr) (n c : Nat) (xs : List Int) (w : World) (hb : Bs w A n xs) (hA : A = none → c = 0) (hn : n ≤ 3000) : Calls Try.prog 3 #[.slice A n c, .bool false] w fun e w' => e = .returned (.bool true) ∧ Below w.heap.size w w' := by
  have d1 : decide (3000 < (n : Int)) = false := by simp; omega
  have hfl : (frame 127 xs).length = n + 8 := by rw [frame_len, hb.len]
  have HFL := Lib.hid hfl
  have HB := Lib.hid hb
  clear hb hfl
  go_enter Try.func3, Try.ntmps3
  go_wp2_with (first
    | ((with_reducible refine pick (some 23) ?_); refine wpList_append_bytes rfl (.tmp 21) (.tmp 22) _ rfl w.heap.size 5 Try.underlying22 info8 w.heap.size 0 0 [] rfl (Ob.new_ _ _ (Nat.le_refl _)) A n c xs rfl (HB.out.below ((Below.refl _ _).alloc (Nat.le_refl _) _)) hA n (by omega) xs rfl (by omega) (by simp) ?_; intro g1 cap1 w1 hown1 hg1 _; have hbel1 : Below w.heap.size w w1 := ((Below.refl _ _).alloc (Nat.le_refl _) _).grown hg1 (by simp) (by intro k hk; injection hk with hk; omega); clear hg1))
  have hz1 := hbel1.size
  have HO1 := Lib.hid hown1
  have HW1 := Lib.hid hbel1
  have hp1 := hown1.place
  clear hown1 hbel1
  refine (RecP.put_calls _ n cap1 xs _ HO1.out.bs (fun e => by cases e) (by omega)).mono ?_
  intro e w2 hm
  obtain ⟨g2, cap2, rfl, ho2, hb2⟩ := hm.at_ HFL.out
  have HO1' := Lib.hid (HO1.out.below hb2)
  have HO2 := Lib.hid ho2
  have HW2 := Lib.hid (keeps HW1.out hb2)
  have hp2 := ho2.place
  have hz2 := hb2.size
  clear hm ho2 hb2
  go_wp2_with fail
  refine (RecP.refput_calls A n c xs _ (HB.out.below HW2.out) hA (by omega)).mono ?_
  intro e w3 hm
  obtain ⟨g3, cap3, rfl, ho3, hb3⟩ := hm.at_ HFL.out
  have HO1'' := Lib.hid (HO1'.out.below hb3)
  have HO2' := Lib.hid (HO2.out.below hb3)
  have HW3 := Lib.hid (keeps HW2.out hb3)
  have hz3 := hb3.size
  clear hm ho3 hb3
  go_wp2_with ((with_reducible refine pick none ?_); refine wpList_clear_bytes rfl _ _ rfl w1.heap.size 5 Try.underlying22 zero8 g2 (n + 8) cap2 (frame 127 xs) rfl HO2'.out (by omega) ?_; intro w4 hg4)
  have HO4 := Lib.hid (HO1''.out.grown hg4 (by intro e; injection e with e; omega))
  have HW4 := Lib.hid (HW3.out.grown hg4 (by omega) (by intro k hk; injection hk with hk; omega))
  clear hg4
  refine (fixed_calls _).mono ?_
  rintro e w5 ⟨rfl, hb5⟩
  obtain ⟨t, ht⟩ : ∃ t, str xs = t := ⟨_, rfl⟩
  have h1 := conv_of (c := cap1) (HO4.out.bs.below hb5) ht
  have hW5 := keeps HW4.out hb5
  have h2 := conv_of (c := c) (HB.out.below hW5) ht
  have HW5 := Lib.hid hW5
  clear hb5 ht hW5
  go_wp2_with (first
    | (go_at_call 11; (with_reducible refine (size_ok n _ (by omega)).mono ?_); rintro e w' ⟨rfl, rfl⟩)
    | (go_at_call 11; (with_reducible refine (size_neg n _ (by omega)).mono ?_); rintro e w' ⟨rfl, rfl⟩))
  go_ret
  exact ⟨rfl, HW5.out⟩
set_option maxHeartbeats 4000000 in
theorem puts_over (A : Option Addr) (n c : Nat) (xs : List Int) (w : World) (hb : Bs w A n xs) (hA : A = none → c = 0) (hn : n ≤ 3000) (hpar : n % 2 = 1) : Calls Try.prog 3 #[.slice A n c, .bool true] w fun e w' => e = .returned (.bool true) ∧ Below w.heap.size w w' := by
  have d1 : decide (3000 < (n : Int)) = false := by simp; omega
  have hlen : ((n : Int) % 2) = 1 := by omega
  obtain ⟨N, hN⟩ : ∃ N : Nat, N = 65536 := ⟨_, rfl⟩
  have hN1 : N ≤ 65536 := by omega
  have hN2 : 65536 ≤ N := by omega
  obtain ⟨Z, hZ⟩ : ∃ Z : List Int, List.replicate N 0 = Z := ⟨_, rfl⟩
  have HZ := Lib.hid hZ
  have hZl : Z.length = N := by rw [← hZ, List.length_replicate]
  have HZL := Lib.hid hZl
  clear hb hA hN hZ hZl
  go_enter Try.func3, Try.ntmps3
  go_wp2_with (first
    | ((with_reducible refine pick (some 20) ?_); refine wpList_make_bytes rfl _ _ _ rfl w.heap.size 5 Try.underlying22 info8 _ _ _ _ N rfl rfl (by omega) (by omega) (by omega) (Nat.le_refl _) ?_; rw [HZ.out]; intro w0 hown0 hg0; have hbel0 : Below w.heap.size w w0 := (Below.refl _ _).grown hg0 (Nat.le_refl _) (by intro k hk; cases hk); have HB := Lib.hid hown0.bs; have HW0 := Lib.hid hbel0; have hz0 := hbel0.size; clear hown0 hg0 hbel0)
    | ((with_reducible refine pick (some 23) ?_); refine wpList_append_bytes rfl (.tmp 21) (.tmp 22) _ rfl w0.heap.size 5 Try.underlying22 info8 w0.heap.size 0 0 [] rfl (Ob.new_ _ _ (Nat.le_refl _)) (some ⟨w.heap.size, 0, none⟩) N N Z rfl (HB.out.below ((Below.refl _ _).alloc (Nat.le_refl _) _)) (fun e => by cases e) N (by omega) Z rfl (by omega) (by simp) ?_; intro g1 cap1 w1 hown1 hg1 _; have hbel1 : Below w0.heap.size w0 w1 := ((Below.refl _ _).alloc (Nat.le_refl _) _).grown hg1 (by simp) (by intro k hk; injection hk with hk; omega); clear hg1))
  have hz1 := hbel1.size
  have HO1 := Lib.hid hown1
  have HW1 := Lib.hid hbel1
  have hp1 := hown1.place
  clear hown1 hbel1
  refine (RecP.put_long _ N cap1 _ (by omega)).mono ?_
  rintro e w' ⟨rfl, rfl⟩
  go_wp2_with fail
  refine (RecP.refput_long (some ⟨w.heap.size, 0, none⟩) N N _ (by omega)).mono ?_
  intro e w3 hm
  obtain ⟨g3, cap3, rfl, ho3, hb3⟩ := hm.at_ (N := 0) rfl
  have HO1'' := Lib.hid (HO1.out.below hb3)
  have HW3 := Lib.hid (keeps HW1.out hb3)
  clear hm ho3 hb3
  have hcl := clear_nil
  have d5 : decide ((N : Int) ≤ 65535) = false := by simp; omega
  have d6 : decide (N ≤ 65535) = false := by simp; omega
  go_wp2_with fail
  refine (fixed_calls _).mono ?_
  rintro e w5 ⟨rfl, hb5⟩
  obtain ⟨t, ht⟩ : ∃ t, str Z = t := ⟨_, rfl⟩
  have h1 := conv_of (c := cap1) (HO1''.out.bs.below hb5) ht
  have hW5 := keeps HW3.out hb5
  have h2 := conv_of (c := N) (HB.out.below hW5) ht
  have HW5 := Lib.hid hW5
  clear hb5 ht hW5
  go_wp2_with (first
    | (go_at_call 11; (with_reducible refine (size_over N _ (by omega) (by omega)).mono ?_); rintro e w' ⟨rfl, rfl⟩)
    | (go_at_call 11; (with_reducible refine (size_neg N _ (by omega)).mono ?_); rintro e w' ⟨rfl, rfl⟩))
  go_ret
  exact ⟨rfl, HW0.out.trans (HW5.out.mono HW0.out.size)⟩
set_option maxHeartbeats 4000000 in
theorem puts_full (A : Option Addr) (n c : Nat) (xs : List Int) (w : World) (hb : Bs w A n xs) (hA : A = none → c = 0) (hn : n ≤ 3000) (hpar : n % 2 = 0) : Calls Try.prog 3 #[.slice A n c, .bool true] w fun e w' => e = .returned (.bool true) ∧ Below w.heap.size w w' := by
  have d1 : decide (3000 < (n : Int)) = false := by simp; omega
  have hlen : ((n : Int) % 2) = 0 := by omega
  obtain ⟨N, hN⟩ : ∃ N : Nat, N = 65535 := ⟨_, rfl⟩
  have hN1 : N ≤ 65535 := by omega
  have hN2 : 65535 ≤ N := by omega
  obtain ⟨Z, hZ⟩ : ∃ Z : List Int, List.replicate N 0 = Z := ⟨_, rfl⟩
  have HZ := Lib.hid hZ
  have hZl : Z.length = N := by rw [← hZ, List.length_replicate]
  have HZL := Lib.hid hZl
  have hfl : (frame 127 Z).length = N + 8 := by rw [frame_len, hZl]
  have HFL := Lib.hid hfl
  clear hb hfl hA hN hZ hZl
  go_enter Try.func3, Try.ntmps3
  go_wp2_with (first
    | ((with_reducible refine pick (some 20) ?_); refine wpList_make_bytes rfl _ _ _ rfl w.heap.size 5 Try.underlying22 info8 _ _ _ _ N rfl rfl (by omega) (by omega) (by omega) (Nat.le_refl _) ?_; rw [HZ.out]; intro w0 hown0 hg0; have hbel0 : Below w.heap.size w w0 := (Below.refl _ _).grown hg0 (Nat.le_refl _) (by intro k hk; cases hk); have HB := Lib.hid hown0.bs; have HW0 := Lib.hid hbel0; have hz0 := hbel0.size; clear hown0 hg0 hbel0)
    | ((with_reducible refine pick (some 23) ?_); refine wpList_append_bytes rfl (.tmp 21) (.tmp 22) _ rfl w0.heap.size 5 Try.underlying22 info8 w0.heap.size 0 0 [] rfl (Ob.new_ _ _ (Nat.le_refl _)) (some ⟨w.heap.size, 0, none⟩) N N Z rfl (HB.out.below ((Below.refl _ _).alloc (Nat.le_refl _) _)) (fun e => by cases e) N (by omega) Z rfl (by omega) (by simp) ?_; intro g1 cap1 w1 hown1 hg1 _; have hbel1 : Below w0.heap.size w0 w1 := ((Below.refl _ _).alloc (Nat.le_refl _) _).grown hg1 (by simp) (by intro k hk; injection hk with hk; omega); clear hg1))
  have hz1 := hbel1.size
  have HO1 := Lib.hid hown1
  have HW1 := Lib.hid hbel1
  have hp1 := hown1.place
  clear hown1 hbel1
  refine (RecP.put_calls _ N cap1 Z _ HO1.out.bs (fun e => by cases e) (by omega)).mono ?_
  intro e w2 hm
  obtain ⟨g2, cap2, rfl, ho2, hb2⟩ := hm.at_ HFL.out
  have HO1' := Lib.hid (HO1.out.below hb2)
  have HO2 := Lib.hid ho2
  have HW2 := Lib.hid (keeps HW1.out hb2)
  have hp2 := ho2.place
  have hz2 := hb2.size
  clear hm ho2 hb2
  go_wp2_with fail
  refine (RecP.refput_calls (some ⟨w.heap.size, 0, none⟩) N N Z _ (HB.out.below HW2.out) (fun e => by cases e) (by omega)).mono ?_
  intro e w3 hm
  obtain ⟨g3, cap3, rfl, ho3, hb3⟩ := hm.at_ HFL.out
  have HO1'' := Lib.hid (HO1'.out.below hb3)
  have HO2' := Lib.hid (HO2.out.below hb3)
  have HW3 := Lib.hid (keeps HW2.out hb3)
  have hz3 := hb3.size
  clear hm ho3 hb3
  go_wp2_with ((with_reducible refine pick none ?_); refine wpList_clear_bytes rfl _ _ rfl w1.heap.size 5 Try.underlying22 zero8 g2 (N + 8) cap2 (frame 127 Z) rfl HO2'.out (by omega) ?_; intro w4 hg4)
  have HO4 := Lib.hid (HO1''.out.grown hg4 (by intro e; injection e with e; omega))
  have HW4 := Lib.hid (HW3.out.grown hg4 (by omega) (by intro k hk; injection hk with hk; omega))
  clear hg4
  refine (fixed_calls _).mono ?_
  rintro e w5 ⟨rfl, hb5⟩
  obtain ⟨t, ht⟩ : ∃ t, str Z = t := ⟨_, rfl⟩
  have h1 := conv_of (c := cap1) (HO4.out.bs.below hb5) ht
  have hW5 := keeps HW4.out hb5
  have h2 := conv_of (c := N) (HB.out.below hW5) ht
  have HW5 := Lib.hid hW5
  clear hb5 ht hW5
  go_wp2_with (first
    | (go_at_call 11; (with_reducible refine (size_ok N _ (by omega)).mono ?_); rintro e w' ⟨rfl, rfl⟩)
    | (go_at_call 11; (with_reducible refine (size_neg N _ (by omega)).mono ?_); rintro e w' ⟨rfl, rfl⟩))
  go_ret
  exact ⟨rfl, HW0.out.trans (HW5.out.mono HW0.out.size)⟩
theorem puts_law (A : Option Addr) (n c : Nat) (xs : List Int) (l : Bool) (w : World) (hb : Bs w A n xs) (hA : A = none → c = 0) (hn : n ≤ maxLen) : Calls Try.prog 3 #[.slice A n c, .bool l] w fun e w' => e = .returned (.bool true) ∧ Below w.heap.size w w' := by
  unfold maxLen at hn
  by_cases hbig : 3000 < n
  · go_enter Try.func3, Try.ntmps3
    go_wp2_with (go_at_call 8; refine (fixed_calls _).mono ?_; rintro e w' ⟨rfl, hbel⟩)
    go_ret
    exact ⟨rfl, hbel⟩
  cases l with
  | false => exact puts_short A n c xs w hb hA (by omega)
  | true =>
    rcases (show n % 2 = 0 ∨ n % 2 = 1 by omega) with h | h
    · exact puts_full A n c xs w hb hA (by omega) h
    · exact puts_over A n c xs w hb hA (by omega) h
end Go.Proofs.Ytfkofagboojnnaa.RecS
