/- The walks of layer 1's three laws over the contracts: each returns true and writes nothing that was there. Condition: the slices of bytes read as numbers 0..255, the integers fit their kinds. -/
import Derived.Test.YtnepeeennfmfnaaSumW
import Derived.BigQuiet
import Derived.WalkSmall
import Derived.Deep.QuietTactic
namespace Go.Proofs.Ytnepeeennfmfnaa.SumL
open Go.RowKit
open Go.Proofs.Ytnepeeennfmfnaa.SumM Go.Proofs.Ytnepeeennfmfnaa.SumW Go.Proofs.Ytnepeeennfmfnaa.Byte

theorem info8 : (Try.prog.info? 5).map (fun i => (i.zero, i.size, i.bytes)) = some (some (.int .u8 0), 1, 1) := by kernel_rfl
theorem xor_ne (x y : Int) (h0 : 0 ≤ x) (h1 : x ≤ 255) (h2 : 0 ≤ y) (h3 : y ≤ 255) (hy : y ≠ 0) : bits .xor .u8 x y ≠ x ∧ 0 ≤ bits .xor .u8 x y ∧ bits .xor .u8 x y ≤ 255 := by
  rw [u8_xor x y h0 (by omega) h2 (by omega)]
  have hlt : x.toNat ^^^ y.toNat < 2 ^ 8 := Nat.xor_lt_two_pow (by omega) (by omega)
  refine ⟨fun h => ?_, by omega, by omega⟩
  have e : x.toNat ^^^ y.toNat = x.toNat := by omega
  have e2 : y.toNat = 0 := by
    have := congrArg (fun z => x.toNat ^^^ z) e
    simpa [← Nat.xor_assoc] using this
  omega
theorem xor_bd (x y : Int) (h0 : 0 ≤ x) (h1 : x ≤ 255) (h2 : 0 ≤ y) (h3 : y ≤ 255) : 0 ≤ bits .xor .u8 x y ∧ bits .xor .u8 x y ≤ 255 := by
  rw [u8_xor x y h0 (by omega) h2 (by omega)]
  have hlt : x.toNat ^^^ y.toNat < 2 ^ 8 := Nat.xor_lt_two_pow (by omega) (by omega)
  exact ⟨by omega, by omega⟩

set_option maxHeartbeats 800000 in
theorem parts_law (A B : Option Addr) (n m c d : Nat) (xs ys : List Int) (w : World) (hb : Bs w A n xs) (hn : n ≤ maxLen) (hA : A = none → c = 0) (hb2 : Bs w B m ys) (hm : m ≤ maxLen) (hB : B = none → d = 0) :
    Calls Try.prog 4 #[.slice A n c, .slice B m d] w fun e w' => e = .returned (.bool true) ∧ Below w.heap.size w w' := by
  unfold maxLen at hn hm
  have HB := Lib.hid hb
  have HB2 := Lib.hid hb2
  clear hb hb2
  by_cases hbig : 10000 < n
  · go_enter Try.func4, Try.ntmps4
    go_wp2_with (go_at_call 6; refine (fixed_calls _).mono ?_; rintro e w' ⟨rfl, hbel⟩)
    go_ret
    exact ⟨rfl, hbel⟩
  have d1 : decide (10000 < (n : Int)) = false := by simp; omega
  by_cases hbig2 : 10000 < m
  · go_enter Try.func4, Try.ntmps4
    go_wp2_with (go_at_call 6; refine (fixed_calls _).mono ?_; rintro e w' ⟨rfl, hbel⟩)
    go_ret
    exact ⟨rfl, hbel⟩
  have d2 : decide (10000 < (m : Int)) = false := by simp; omega
  go_enter Try.func4, Try.ntmps4
  go_wp2_with (first
    | (at_builtin; refine wpList_append_bytes rfl (.tmp 16) (.tmp 17) _ rfl w.heap.size 5 Try.underlying22 info8 w.heap.size 0 0 [] rfl (Ob.new_ _ _ (Nat.le_refl _)) A n c xs rfl (HB.out.below ((Below.refl _ _).alloc (Nat.le_refl _) _)) hA n (by omega) xs rfl (by omega) (by simp) ?_; intro g1 cap1 w1 hown1 hg1 _; have hbel1 : Below w.heap.size w w1 := ((Below.refl _ _).alloc (Nat.le_refl _) _).grown hg1 (by simp) (by intro k hk; injection hk with hk; omega); clear hg1)
    | (at_builtin; refine wpList_append_bytes rfl (.tmp 19) (.tmp 20) _ rfl w.heap.size 5 Try.underlying22 info8 g1 n cap1 xs rfl hown1 B m d ys rfl (HB2.out.below hbel1) hB (n + m) rfl (xs ++ ys) rfl (by omega) hbel1.size ?_; intro g2 cap2 w2 hown2 hg2 _; have hbel2 : Below w.heap.size w w2 := hbel1.grown hg2 hbel1.size (by intro k hk; injection hk with hk; have := hown1.place.1; omega); clear hg2))
  refine (sum_calls _ _ _ _ _ hown2.bs (by unfold maxLen; omega)).mono ?_
  rintro e w' ⟨rfl, rfl⟩
  go_wp2_with fail
  refine (fixed_calls _).mono ?_
  rintro e w3 ⟨rfl, hbel3⟩
  have hW : Below w.heap.size w w3 := hbel2.trans (hbel3.mono hbel2.size)
  have s1 := sum_bd xs
  have s2 := sum_bd ys
  go_wp2_with fail
  refine (sum_calls _ _ _ _ _ (HB.out.below hW) hn).mono ?_
  rintro e w' ⟨rfl, rfl⟩
  go_wp2_with fail
  refine (more_calls _ _ _ _ _ _ s1.1 s1.2 (HB2.out.below hW) hm).mono ?_
  rintro e w' ⟨rfl, rfl⟩
  rw [more_sum]
  go_wp2_with fail
  refine (sum_calls _ _ _ _ _ (HB.out.below hW) hn).mono ?_
  rintro e w' ⟨rfl, rfl⟩
  go_wp2_with fail
  refine (sum_calls _ _ _ _ _ (HB2.out.below hW) hm).mono ?_
  rintro e w' ⟨rfl, rfl⟩
  go_wp2_with fail
  refine (join_calls _ _ _ _ s1.1 s1.2 s2.1 s2.2 (by omega) (by omega)).mono ?_
  rintro e w' ⟨rfl, rfl⟩
  rw [← HB2.out.len, joins_sum]
  go_wp2_with fail
  go_ret
  exact ⟨rfl, hW⟩

set_option maxHeartbeats 1600000 in
theorem of_law (A : Option Addr) (n c : Nat) (xs : List Int) (s : Int) (high : Bool) (w : World) (hb : Bs w A n xs) (hn : n ≤ maxLen) (hA : A = none → c = 0) (h0 : 0 ≤ s) (h1 : s ≤ 4294967295) :
    Calls Try.prog 3 #[.slice A n c, .int .u32 s, .bool high] w fun e w' => e = .returned (.bool true) ∧ Below w.heap.size w w' := by
  unfold maxLen at hn
  have HB := Lib.hid hb
  clear hb
  by_cases hbig : 20000 < n
  · go_enter Try.func3, Try.ntmps3
    go_wp2_with (go_at_call 6; refine (fixed_calls _).mono ?_; rintro e w' ⟨rfl, hbel⟩)
    go_ret
    exact ⟨rfl, hbel⟩
  have d1 : decide (20000 < (n : Int)) = false := by simp; omega
  cases high with
  | true =>
    go_enter Try.func3, Try.ntmps3
    go_wp2_with (at_builtin; refine wpList_append_bytes rfl (.tmp 14) (.tmp 15) _ rfl w.heap.size 5 Try.underlying22 info8 w.heap.size 0 0 [] rfl (Ob.new_ _ _ (Nat.le_refl _)) A n c xs rfl (HB.out.below ((Below.refl _ _).alloc (Nat.le_refl _) _)) hA n (by omega) xs rfl (by omega) (by simp) ?_; intro g1 cap1 w1 hown1 hg1 _; have hbel1 : Below w.heap.size w w1 := ((Below.refl _ _).alloc (Nat.le_refl _) _).grown hg1 (by simp) (by intro k hk; injection hk with hk; omega); clear hg1)
    go_loopw [20] (fun i wr => ∃ (k : Nat) (ys : List Int), k ≤ n ∧ i = .int .i64 k ∧ Ob wr w.heap.size 5 g1 n cap1 ys ∧ Below w.heap.size w wr) (fun i _ => n - (intOf i).toNat)
    case atStart => exact ⟨0, xs, by omega, rfl, hown1, hbel1⟩
    case round =>
      obtain ⟨k, ys, hk, rfl, hown2, hbel2⟩ := hrel
      clear hown1 hbel1
      by_cases hlt : k < n
      · have hcell := hown2.cell k hlt
        have hfr := hown2.frozen k
        go_wp2
        go_roundw
        case rel => exact ⟨k + 1, _, by omega, by go_num, hown2.set_ k 255 (by omega) (by omega), hbel2.setCell hown2.place.1 _⟩
        case measure => simp [intOf]; omega
      · have hcv := Lib.hid (hown2.str_ (P := Try.prog) 22 9 Try.underlying22 Try.underlying5 Try.underlying9)
        have hcv' := hcv.out
        go_wp2_with fail
        clear hcv'
        refine (fixed_calls _).mono ?_
        rintro e w3 ⟨rfl, hbel3⟩
        have hown3 := hown2.below hbel3
        have hW : Below w.heap.size w w3 := hbel2.trans (hbel3.mono hbel2.size)
        have hcv3 := hown3.str_ (P := Try.prog) 22 9 Try.underlying22 Try.underlying5 Try.underlying9
        go_wp2_with fail
        refine (sum_calls _ _ _ _ _ hown3.bs (by unfold maxLen; omega)).mono ?_
        rintro e w' ⟨rfl, rfl⟩
        go_wp2_with fail
        refine (refsum_calls _ _ _ _ _ hown3.bs (by unfold maxLen; omega)).mono ?_
        rintro e w' ⟨rfl, rfl⟩
        go_wp2_with fail
        refine (more_calls _ _ _ _ _ _ h0 h1 hown3.bs (by unfold maxLen; omega)).mono ?_
        rintro e w' ⟨rfl, rfl⟩
        go_wp2_with fail
        refine (refmore_calls _ _ _ _ _ _ h0 h1 hown3.bs (by unfold maxLen; omega)).mono ?_
        rintro e w' ⟨rfl, rfl⟩
        go_wp2_with fail
        refine (may_calls _ _ h0 h1).mono ?_
        rintro e w' ⟨rfl, rfl⟩
        go_wp2_with fail
        refine (refmay_calls _ _ h0 h1).mono ?_
        rintro e w' ⟨rfl, rfl⟩
        go_wp2_with fail
        go_ret
        exact ⟨rfl, hW⟩
  | false =>
    go_enter Try.func3, Try.ntmps3
    go_wp2_with (at_builtin; refine wpList_append_bytes rfl (.tmp 14) (.tmp 15) _ rfl w.heap.size 5 Try.underlying22 info8 w.heap.size 0 0 [] rfl (Ob.new_ _ _ (Nat.le_refl _)) A n c xs rfl (HB.out.below ((Below.refl _ _).alloc (Nat.le_refl _) _)) hA n (by omega) xs rfl (by omega) (by simp) ?_; intro g1 cap1 w1 hown1 hg1 _; have hbel1 : Below w.heap.size w w1 := ((Below.refl _ _).alloc (Nat.le_refl _) _).grown hg1 (by simp) (by intro k hk; injection hk with hk; omega); clear hg1; have hcv' := hown1.str_ (P := Try.prog) 22 9 Try.underlying22 Try.underlying5 Try.underlying9)
    clear hcv'
    refine (fixed_calls _).mono ?_
    rintro e w3 ⟨rfl, hbel3⟩
    have hown3 := hown1.below hbel3
    have hW : Below w.heap.size w w3 := hbel1.trans (hbel3.mono hbel1.size)
    have hcv3 := hown3.str_ (P := Try.prog) 22 9 Try.underlying22 Try.underlying5 Try.underlying9
    go_wp2_with fail
    refine (sum_calls _ _ _ _ _ hown3.bs (by unfold maxLen; omega)).mono ?_
    rintro e w' ⟨rfl, rfl⟩
    go_wp2_with fail
    refine (refsum_calls _ _ _ _ _ hown3.bs (by unfold maxLen; omega)).mono ?_
    rintro e w' ⟨rfl, rfl⟩
    go_wp2_with fail
    refine (more_calls _ _ _ _ _ _ h0 h1 hown3.bs (by unfold maxLen; omega)).mono ?_
    rintro e w' ⟨rfl, rfl⟩
    go_wp2_with fail
    refine (refmore_calls _ _ _ _ _ _ h0 h1 hown3.bs (by unfold maxLen; omega)).mono ?_
    rintro e w' ⟨rfl, rfl⟩
    go_wp2_with fail
    refine (may_calls _ _ h0 h1).mono ?_
    rintro e w' ⟨rfl, rfl⟩
    go_wp2_with fail
    refine (refmay_calls _ _ h0 h1).mono ?_
    rintro e w' ⟨rfl, rfl⟩
    go_wp2_with fail
    go_ret
    exact ⟨rfl, hW⟩

set_option maxHeartbeats 3200000 in
theorem spoilt_law (A : Option Addr) (n c : Nat) (xs : List Int) (p y : Int) (w : World) (hb : Bs w A n xs) (hn : n ≤ maxLen) (hA : A = none → c = 0) (h0 : -9223372036854775808 ≤ p) (h1 : p ≤ 9223372036854775807) (hy0 : 0 ≤ y) (hy1 : y ≤ 255) :
    Calls Try.prog 5 #[.slice A n c, .int .i64 p, .int .u8 y] w fun e w' => e = .returned (.bool true) ∧ Below w.heap.size w w' := by
  unfold maxLen at hn
  have HB := Lib.hid hb
  clear hb
  by_cases hbig : 10000 < n
  · go_enter Try.func5, Try.ntmps5
    go_wp2_with (go_at_call 6; refine (fixed_calls _).mono ?_; rintro e w' ⟨rfl, hbel⟩)
    go_ret
    exact ⟨rfl, hbel⟩
  have d1 : decide (10000 < (n : Int)) = false := by simp; omega
  by_cases hneg : p < 0
  · go_enter Try.func5, Try.ntmps5
    go_wp2_with (go_at_call 6; refine (fixed_calls _).mono ?_; rintro e w' ⟨rfl, hbel⟩)
    go_ret
    exact ⟨rfl, hbel⟩
  have d2 : decide (p < 0) = false := by simp; omega
  by_cases hge : (n : Int) ≤ p
  · go_enter Try.func5, Try.ntmps5
    go_wp2_with (go_at_call 6; refine (fixed_calls _).mono ?_; rintro e w' ⟨rfl, hbel⟩)
    go_ret
    exact ⟨rfl, hbel⟩
  obtain ⟨i, rfl⟩ := Int.eq_ofNat_of_zero_le (a := p) (by omega)
  have d3 : decide ((n : Int) ≤ (i : Int)) = false := by simp; omega
  clear h0 h1 hneg hge
  have hi : i < n := by have := of_decide_eq_false d3; omega
  obtain ⟨b, o, rfl, hbw, hcw⟩ := HB.out.2.2 i hi
  have hx := HB.out.bd i
  obtain ⟨x, hxe⟩ : ∃ x, xs.getD i 0 = x := ⟨_, rfl⟩
  rw [hxe] at hx
  have HX := Lib.hid hxe
  clear hxe hcw
  have hz := xor_bd x y hx.1 hx.2 hy0 hy1
  by_cases hy : y = 0
  focus
    have hby : (y != 0) = false := by simp [hy]
    clear hy
    go_enter Try.func5, Try.ntmps5
    go_wp2_with (at_builtin; refine wpList_append_bytes rfl (.tmp 23) (.tmp 24) _ rfl w.heap.size 5 Try.underlying22 info8 w.heap.size 0 0 [] rfl (Ob.new_ _ _ (Nat.le_refl _)) _ n c xs rfl (HB.out.below ((Below.refl _ _).alloc (Nat.le_refl _) _)) hA n (by omega) xs rfl (by omega) (by simp) ?_; intro g1 cap1 w1 hown1 hg1 _; have hbel1 : Below w.heap.size w w1 := ((Below.refl _ _).alloc (Nat.le_refl _) _).grown hg1 (by simp) (by intro k hk; injection hk with hk; omega); clear hg1; have hc1 := hown1.cell i hi; have hf1 := hown1.frozen i; rw [HX.out] at hc1)
    have hown2 := hown1.set_ i (bits .xor .u8 x y) hz.1 hz.2
    have hbel2 : Below w.heap.size w (w1.setCell ⟨g1, i, none⟩ (.int .u8 (bits .xor .u8 x y))) := hbel1.setCell hown1.place.1 _
  rotate_left
  focus
    have hby : (y != 0) = true := by simp [hy]
    have hns : sum (xs.set i (bits .xor .u8 x y)) ≠ sum xs := spoilt_one xs i _ (by rw [HB.out.len]; exact hi) (by rw [HX.out]; exact hx.1) (by rw [HX.out]; exact hx.2) hz.1 hz.2 (by rw [HX.out]; exact (xor_ne x y hx.1 hx.2 hy0 hy1 hy).1)
    have hne : (sum (xs.set i (bits .xor .u8 x y)) == sum xs) = false := by simpa using hns
    clear hns hy
    go_enter Try.func5, Try.ntmps5
    go_wp2_with (at_builtin; refine wpList_append_bytes rfl (.tmp 23) (.tmp 24) _ rfl w.heap.size 5 Try.underlying22 info8 w.heap.size 0 0 [] rfl (Ob.new_ _ _ (Nat.le_refl _)) _ n c xs rfl (HB.out.below ((Below.refl _ _).alloc (Nat.le_refl _) _)) hA n (by omega) xs rfl (by omega) (by simp) ?_; intro g1 cap1 w1 hown1 hg1 _; have hbel1 : Below w.heap.size w w1 := ((Below.refl _ _).alloc (Nat.le_refl _) _).grown hg1 (by simp) (by intro k hk; injection hk with hk; omega); clear hg1; have hc1 := hown1.cell i hi; have hf1 := hown1.frozen i; rw [HX.out] at hc1)
    have hown2 := hown1.set_ i (bits .xor .u8 x y) hz.1 hz.2
    have hbel2 : Below w.heap.size w (w1.setCell ⟨g1, i, none⟩ (.int .u8 (bits .xor .u8 x y))) := hbel1.setCell hown1.place.1 _
    refine (sum_calls _ _ _ _ _ hown2.bs (by unfold maxLen; omega)).mono ?_
    rintro e w' ⟨rfl, rfl⟩
    go_wp2_with fail
    refine (sum_calls _ _ _ _ _ (HB.out.below hbel2) (by unfold maxLen; omega)).mono ?_
    rintro e w' ⟨rfl, rfl⟩
    go_wp2_with fail
  all_goals
    clear hc1 hf1 hby
    obtain ⟨w2, hw2⟩ : ∃ w2, w1.setCell ⟨g1, i, none⟩ (.int .u8 (bits .xor .u8 x y)) = w2 := ⟨_, rfl⟩
    rw [hw2] at hown2 hbel2 ⊢
    clear hw2
    by_cases hend : i + 1 = n
    · have hE : ((i : Int) + 1 == (n : Int)) = true := by rw [beq_iff_eq]; omega
      clear hend
      go_quiet (fail)
      go_wp2_with (go_at_call 6; refine (fixed_calls _).mono ?_; rintro e w' ⟨rfl, hbel⟩)
      go_ret
      exact ⟨rfl, (below_drewN hbel2 _).trans (hbel.mono hbel2.size)⟩
    · have hE : ((i : Int) + 1 == (n : Int)) = false := by rw [beq_eq_false_iff_ne]; omega
      have hi1 : i + 1 < n := by omega
      clear hend
      have hx' := HB.out.bd (i + 1)
      obtain ⟨x', hxe'⟩ : ∃ x', xs.getD (i + 1) 0 = x' := ⟨_, rfl⟩
      rw [hxe'] at hx'
      have HX' := Lib.hid hxe'
      clear hxe'
      have hc2 := (HB.out.below hbel2).at_ i hi
      have hc2' := (HB.out.below hbel2).at_ (i + 1) hi1
      rw [HX.out] at hc2
      rw [HX'.out] at hc2'
      by_cases heq : x = x'
      · have hQ : (x == x') = true := by rw [beq_iff_eq]; exact heq
        clear heq
        go_quiet (fail)
        go_wp2_with (go_at_call 6; refine (fixed_calls _).mono ?_; rintro e w' ⟨rfl, hbel⟩)
        go_ret
        exact ⟨rfl, (below_drewN hbel2 _).trans (hbel.mono hbel2.size)⟩
      · have hQ : (x == x') = false := by rw [beq_eq_false_iff_ne]; exact heq
        go_quiet (fail)
        have hns : sum ((xs.set i x').set (i + 1) x) ≠ sum xs := by
          have h := spoilt_two xs i (by rw [HB.out.len]; exact hi1) (by rw [HX.out]; exact hx.1) (by rw [HX.out]; exact hx.2) (by rw [HX'.out]; exact hx'.1) (by rw [HX'.out]; exact hx'.2) (by rw [HX.out, HX'.out]; exact heq)
          rw [HX.out, HX'.out] at h
          exact h
        have hne2 : (sum ((xs.set i x').set (i + 1) x) != sum xs) = true := by rw [bne_iff_ne]; exact hns
        clear heq hns hc2 hc2'
        go_wp2_with (at_builtin; refine wpList_append_bytes rfl (.tmp 60) (.tmp 61) _ rfl w.heap.size 5 Try.underlying22 info8 w2.heap.size 0 0 [] rfl (Ob.new_ _ _ hbel2.size) _ n c xs rfl (HB.out.below ((below_drewN hbel2 _).alloc hbel2.size _)) hA n (by omega) xs rfl (by omega) (by simpa using Nat.le_succ_of_le hbel2.size) ?_)
        intro g3 cap3 w3 hown3 hg3 _
        have hbel3 : Below w.heap.size w w3 := ((below_drewN hbel2 _).alloc hbel2.size _).grown hg3 (by simpa using Nat.le_succ_of_le hbel2.size) (by intro k hk; injection hk with hk; have := hbel2.size; omega)
        clear hg3
        have hbg : b < g3 := by have := hown3.place.1; omega
        have hs1 := hown3.cell i hi
        have hs2 := hown3.cell (i + 1) hi1
        have hf1 := hown3.frozen i
        have hf2 := hown3.frozen (i + 1)
        have cb1 := (HB.out.below hbel3).at_ i hi
        have cb2 := (HB.out.below hbel3).at_ (i + 1) hi1
        rw [HX.out] at hs1 cb1
        rw [HX'.out] at hs2 cb2
        go_wp2_with fail
        clear hs1 hs2 hf1 hf2 cb1 cb2
        have hown5 := (hown3.set_ i x' hx'.1 hx'.2).set_ (i + 1) x hx.1 hx.2
        have hbel5 : Below w.heap.size w ((w3.setCell ⟨g3, i, none⟩ (.int .u8 x')).setCell ⟨g3, i + 1, none⟩ (.int .u8 x)) := (hbel3.setCell (p := ⟨g3, i, none⟩) hown3.place.1 _).setCell (p := ⟨g3, i + 1, none⟩) hown3.place.1 _
        refine (fixed_calls _).mono ?_
        rintro e w6 ⟨rfl, hbel6⟩
        have hown6 := hown5.below hbel6
        have hW : Below w.heap.size w w6 := hbel5.trans (hbel6.mono hbel5.size)
        go_wp2_with fail
        refine (sum_calls _ _ _ _ _ hown6.bs (by unfold maxLen; omega)).mono ?_
        rintro e w' ⟨rfl, rfl⟩
        go_wp2_with fail
        refine (sum_calls _ _ _ _ _ (HB.out.below hW) (by unfold maxLen; omega)).mono ?_
        rintro e w' ⟨rfl, rfl⟩
        go_wp2_with fail
        go_ret
        exact ⟨rfl, hW⟩
end Go.Proofs.Ytnepeeennfmfnaa.SumL
