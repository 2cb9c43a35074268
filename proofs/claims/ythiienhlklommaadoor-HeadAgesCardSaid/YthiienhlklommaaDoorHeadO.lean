/- The walks of layer 5's laws HeadOf and HeadAges. -/
import Derived.Test.YthiienhlklommaaDoorHeadF
namespace Go.Proofs.YthiienhlklommaaDoor.HeadO
set_option linter.unusedVariables false
set_option linter.unusedSimpArgs false
open Go.RowKit
open Go.Proofs.YthiienhlklommaaDoor.Byte Go.Proofs.YthiienhlklommaaDoor.PackM Go.Proofs.YthiienhlklommaaDoor.PackV Go.Proofs.YthiienhlklommaaDoor.MayM Go.Proofs.YthiienhlklommaaDoor.HeadM Go.Proofs.YthiienhlklommaaDoor.HeadR Go.Proofs.YthiienhlklommaaDoor.HeadS Go.Proofs.YthiienhlklommaaDoor.HeadW Go.Proofs.YthiienhlklommaaDoor.HeadF
attribute [local go_sem ↓] Go.wp_at_zero Go.wp_at_succ

set_option maxRecDepth 100000 in
set_option maxHeartbeats 4000000 in
theorem of_law (n z : Int) (w : World) (hE : Example w) : Calls Tryd.prog 3 #[.agg #[.int .i64 n, .int .i64 z]] w fun e w' => e = .returned (.bool true) ∧ Below w.heap.size w w' := by
  have HE := Lib.hid hE
  clear hE
  obtain ⟨x0, x1, x2, x3, x4, x5, x6, x7, hx⟩ := hd8 n z
  have HX := Lib.hid (GX.of w n z)
  go_enter Tryd.func3, Tryd.ntmps3
  go_upto_region 1 with (fail)
  change Code.wp _ _ _ _ (w.alloc (.cells #[.int .i64 n, .int .i64 z] 23))
  generalize w.alloc (.cells #[.int .i64 n, .int .i64 z] 23) = W0 at *
  have b0 := HX.out.c0
  have b1 := HX.out.c1
  go_wp2_with fail
  refine (of_calls n z _).mono ?_
  rintro e w1 ⟨rfl, hb1⟩
  have HX1 := Lib.hid (HX.out.below hb1)
  have hbs := hd_bs w1 24 n z
  rw [hx] at hbs ⊢
  simp only [List.map_cons, List.map_nil]
  have HX0 := Lib.hid hx
  clear hb1 b0 b1 hx
  go_upto_region 2 with (fail)
  change Code.wp _ _ _ _ (w1.alloc (.cells #[.int .u8 x0, .int .u8 x1, .int .u8 x2, .int .u8 x3, .int .u8 x4, .int .u8 x5, .int .u8 x6, .int .u8 x7] 24))
  have hb2 : Below w1.heap.size w1 (w1.alloc (.cells #[.int .u8 x0, .int .u8 x1, .int .u8 x2, .int .u8 x3, .int .u8 x4, .int .u8 x5, .int .u8 x6, .int .u8 x7] 24)) := (Below.refl _ _).alloc (Nat.le_refl _) _
  have HBS : Hid (Bs (w1.alloc (.cells #[.int .u8 x0, .int .u8 x1, .int .u8 x2, .int .u8 x3, .int .u8 x4, .int .u8 x5, .int .u8 x6, .int .u8 x7] 24)) (some ⟨w1.heap.size, 0, none⟩) 8 [x0, x1, x2, x3, x4, x5, x6, x7]) := Lib.hid hbs
  have HX2 := Lib.hid (HX1.out.below hb2)
  clear hbs hb2
  generalize w1.alloc (.cells #[.int .u8 x0, .int .u8 x1, .int .u8 x2, .int .u8 x3, .int .u8 x4, .int .u8 x5, .int .u8 x6, .int .u8 x7] 24) = W at *
  go_wp2_with fail
  refine (death_calls W).mono ?_
  intro e w3 hm3
  obtain ⟨g3, cap3, rfl, ho3, hb3⟩ := hm3.at_ (N := 8) (by simp)
  have HO3 := Lib.hid ho3
  have HX3 := Lib.hid (HX2.out.below hb3)
  have HBS3 := Lib.hid (HBS.out.below hb3)
  clear hm3 ho3 hb3
  have hz8 : str (List.replicate 8 0) = ⟨#[0, 0, 0, 0, 0, 0, 0, 0]⟩ := zeros8
  have HZ := Lib.hid hz8
  clear hz8
  have HU := Lib.hid (fun v => refof_calls n z v)
  rw [HX0.out] at HU
  obtain ⟨T, hT⟩ : ∃ T, str [x0, x1, x2, x3, x4, x5, x6, x7] = T := ⟨_, rfl⟩
  rw [hT] at HU
  have HT := Lib.hid hT
  clear hT
  have RD : Hid (∀ v, Below w3.heap.size w3 v → Below w3.heap.size w3 v ∧ v.cell? ⟨w.heap.size, 0, none⟩ = some (.int .i64 n) ∧ v.cell? ⟨w.heap.size, 1, none⟩ = some (.int .i64 z) ∧ (convert 26 9 (.slice (some ⟨w1.heap.size, 0, none⟩) 8 8)).run Tryd.prog v = .ok (.string T) v ∧ (convert 26 9 (.slice (some ⟨g3, 0, none⟩) 8 cap3)).run Tryd.prog v = .ok (.string ⟨#[0, 0, 0, 0, 0, 0, 0, 0]⟩) v) := Lib.hid fun v hv => by
    have h3 := (HBS3.out.below hv).str_ (P := Tryd.prog) (c := 8) 26 9 Tryd.underlying26 Tryd.underlying5 Tryd.underlying9
    have h4 := (HO3.out.below hv).str_ (P := Tryd.prog) 26 9 Tryd.underlying26 Tryd.underlying5 Tryd.underlying9
    rw [HT.out] at h3
    rw [HZ.out] at h4
    exact ⟨hv, (HX3.out.below hv).c0, (HX3.out.below hv).c1, h3, h4⟩
  go_wp2_with fail
  refine wp_region_noPanic ?_
  go_region_held3 (fun v => Below w3.heap.size w3 v ∧ v.cell? ⟨w.heap.size, 0, none⟩ = some (.int .i64 n) ∧ v.cell? ⟨w.heap.size, 1, none⟩ = some (.int .i64 z) ∧ (convert 26 9 (.slice (some ⟨w1.heap.size, 0, none⟩) 8 8)).run Tryd.prog v = .ok (.string T) v ∧ (convert 26 9 (.slice (some ⟨g3, 0, none⟩) 8 cap3)).run Tryd.prog v = .ok (.string ⟨#[0, 0, 0, 0, 0, 0, 0, 0]⟩) v)
    (first
      | exact RD.out _ (Below.refl _ _)
      | exact RD.out _ (by assumption)
      | exact RD.out _ (Below.drew (by assumption))
      | exact RD.out _ (Below.drew (Below.refl _ _))
      | exact RD.out _ (And.left (by assumption)))
    (first
      | (go_at_call 9; refine (fixed_calls _ (HE.out.below (HX3.out.bel.trans ((And.left (by assumption) : Below w3.heap.size w3 _).mono HX3.out.bel.size)))).mono ?_; rintro e w4 ⟨rfl, hb4⟩; have hn4 : Below w3.heap.size w3 w4 := keeps (And.left (by assumption)) hb4; clear hb4)
      | (go_at_call 10; refine (HU.out _).mono ?_; rintro e w5 ⟨rfl, hb5⟩; have hn5 : Below w3.heap.size w3 w5 := keeps (And.left (by assumption)) hb5; clear hb5))
  refine NoPanic.normal ?_
  have HW := Lib.hid (HX3.out.bel.trans (hn5.mono HX3.out.bel.size))
  go_wp2_with fail
  go_ret
  exact ⟨rfl, HW.out⟩
theorem any_succ (xs : List Int) (k : Nat) (v : Int) (hk : k < xs.length) : (xs.take (k + 1)).any (· == v) = ((xs.take k).any (· == v) || xs.getD k 0 == v) := by
  have e : xs.take (k + 1) = xs.take k ++ [xs.getD k 0] := by
    rw [List.take_succ_eq_append_getElem hk, List.getD_eq_getElem?_getD, List.getElem?_eq_getElem hk]
    rfl
  rw [e, List.any_append]
  simp
theorem any_all {xs : List Int} {v : Int} (h : v ∈ xs) : xs.any (· == v) = true := by
  rw [List.any_eq_true]
  exact ⟨v, h, by simp⟩
theorem mem_getD (xs : List Int) (k : Nat) (hk : k < xs.length) : xs.getD k 0 ∈ xs := by
  rw [List.getD_eq_getElem?_getD, List.getElem?_eq_getElem hk]
  exact List.getElem_mem hk
set_option maxRecDepth 100000 in
set_option maxHeartbeats 4000000 in
theorem ages_law (A : Option Addr) (n c : Nat) (xs : List Int) (w : World) (hb : Is w A n xs) (hn : n ≤ maxLen) (hE : Example w) : Calls Tryd.prog 6 #[.slice A n c] w fun e w' => e = .returned (.bool true) ∧ Below w.heap.size w w' := by
  have HE := Lib.hid hE
  have HB := Lib.hid hb
  clear hE hb
  have hn' : n ≤ 9223372036854775807 := hn
  rcases Nat.eq_zero_or_pos n with h0 | h0
  · subst h0
    go_enter Tryd.func6, Tryd.ntmps6
    go_wp2_with fail
    refine (ages_calls A 0 c xs _ HB.out hn).mono ?_
    rintro e w1 ⟨⟨lo, hi, rfl, h1, _⟩, hb1⟩
    obtain ⟨rfl, rfl⟩ := h1 rfl
    have HB1 := Lib.hid hb1
    clear hb1 h1
    go_wp2_with fail
    refine (fixed_calls _ (HE.out.below HB1.out)).mono ?_
    rintro e w2 ⟨rfl, hb2⟩
    have HB2 := Lib.hid hb2
    clear hb2
    go_wp2_with fail
    go_ret
    exact ⟨rfl, HB1.out.trans (HB2.out.mono HB1.out.size)⟩
  · obtain ⟨b, o, rfl, _, _⟩ := HB.out.2.2 0 h0
    have hne : ((n : Int) == 0) = false := beq_eq_false_iff_ne.2 (by omega)
    go_enter Tryd.func6, Tryd.ntmps6
    go_wp2_with fail
    refine (ages_calls (some ⟨b, o, none⟩) n c xs _ HB.out hn).mono ?_
    rintro e w1 ⟨⟨lo, hi, rfl, _, h1⟩, hb1⟩
    obtain ⟨hlo, hhi, hall⟩ := h1 h0
    have HLO := Lib.hid (any_all hlo)
    have HHI := Lib.hid (any_all hhi)
    have HALL := Lib.hid hall
    have HB1 := Lib.hid hb1
    have HBX := Lib.hid (HB.out.below hb1)
    clear hb1 h1 hlo hhi hall
    go_wp2_with fail
    go_loop [5, 6, 28] (fun a b i => ∃ k : Nat, k ≤ n ∧ i = .int .i64 k ∧ a = .bool ((xs.take k).any (· == lo)) ∧ b = .bool ((xs.take k).any (· == hi))) (fun _ _ i => n - (intOf i).toNat)
    case atStart => exact ⟨0, Nat.zero_le _, rfl, by simp, by simp⟩
    case round =>
      obtain ⟨k, hk, rfl, rfl, rfl⟩ := hrel
      by_cases hlt : k < n
      · have hl : xs.length = n := HB.out.1
        have hc := HBX.out.at_ k hlt
        have hb := HALL.out _ (mem_getD xs k (by omega))
        have s1 := Lib.hid (any_succ xs k lo (by omega))
        have s2 := Lib.hid (any_succ xs k hi (by omega))
        generalize xs.getD k 0 = y at hc hb s1 s2
        have d1 : decide (y < lo) = false := by simp; omega
        have d2 : decide (hi < y) = false := by simp; omega
        cases h1 : (xs.take k).any (· == lo)
        all_goals cases h2 : (xs.take k).any (· == hi)
        all_goals
          rw [h1] at s1
          rw [h2] at s2
          clear h1 h2 hb hl
          go_wp2_with fail
          go_round
          case rel => exact ⟨k + 1, by omega, by go_num, by rw [s1.out]; simp, by rw [s2.out]; simp⟩
          case measure => simp [intOf]; omega
      · obtain rfl : k = n := by omega
        have hl : xs.take k = xs := List.take_of_length_le (by rw [HB.out.1]; exact Nat.le_refl _)
        rw [hl, HLO.out, HHI.out]
        clear hl
        go_wp2_with fail
        refine (fixed_calls _ (HE.out.below HB1.out)).mono ?_
        rintro e w2 ⟨rfl, hb2⟩
        have HB2 := Lib.hid hb2
        clear hb2
        go_wp2_with fail
        go_ret
        exact ⟨rfl, HB1.out.trans (HB2.out.mono HB1.out.size)⟩
end Go.Proofs.YthiienhlklommaaDoor.HeadO
