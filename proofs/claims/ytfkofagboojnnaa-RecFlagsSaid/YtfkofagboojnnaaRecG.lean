/- The walk of layer 6's law RecFlags. -/
import Derived.Test.YtfkofagboojnnaaRecF
import Derived.StillTailTactics
namespace Go.Proofs.Ytfkofagboojnnaa.RecG
set_option linter.unusedVariables false
set_option linter.unusedSimpArgs false
open Go.RowKit
open Go.Proofs.Ytfkofagboojnnaa.Byte Go.Proofs.Ytfkofagboojnnaa.PackM Go.Proofs.Ytfkofagboojnnaa.PackV Go.Proofs.Ytfkofagboojnnaa.RecM Go.Proofs.Ytfkofagboojnnaa.RecW Go.Proofs.Ytfkofagboojnnaa.RecP Go.Proofs.Ytfkofagboojnnaa.RecX Go.Proofs.Ytfkofagboojnnaa.RecF

/-- A slice of truth values. -/
def Bl (w : World) (A : Option Addr) (n : Nat) (B : Nat → Bool) : Prop := ∀ k, k < n → ∃ b o, A = some ⟨b, o, none⟩ ∧ b < w.heap.size ∧ w.cell? ⟨b, o + k, none⟩ = some (.bool (B k))
theorem Bl.below {w w' : World} {A : Option Addr} {n : Nat} {B : Nat → Bool} (h : Bl w A n B) (hb : Below w.heap.size w w') : Bl w' A n B := fun k hk => by
  obtain ⟨b, o, e, hlt, hc⟩ := h k hk
  exact ⟨b, o, e, Nat.lt_of_lt_of_le hlt hb.size, (hb.cell (p := ⟨b, o + k, none⟩) hlt).trans hc⟩
def Fl (f : Int) : Prop := f = 127 ∨ f = 63 ∨ f = 95 ∨ f = 31
/-- A flag programmed over. -/
def nxt (f : Int) (b : Bool) : Int := bits .and .u8 f (if b then 191 else 223)
theorem nxt_fl {f : Int} (h : Fl f) (b : Bool) : Fl (nxt f b) ∧ stOf (nxt f b) = (if b then (if stOf f = 4 then 5 else stOf f) else 6) ∧ 0 ≤ nxt f b ∧ nxt f b ≤ 255 ∧ 0 ≤ f ∧ f ≤ 255 ∧ stOf f ≠ 3 := by
  have e : ∀ g : Int, Fl g → 0 ≤ g ∧ g ≤ 255 ∧ stOf g ≠ 3 := fun g hg => by rcases hg with rfl | rfl | rfl | rfl <;> decide
  have e2 : Fl (nxt f b) ∧ stOf (nxt f b) = (if b then (if stOf f = 4 then 5 else stOf f) else 6) := by
    rcases h with rfl | rfl | rfl | rfl <;> cases b
    · exact ⟨.inr (.inr (.inl rfl)), rfl⟩
    · exact ⟨.inr (.inl rfl), rfl⟩
    · exact ⟨.inr (.inr (.inr rfl)), rfl⟩
    · exact ⟨.inr (.inl rfl), rfl⟩
    · exact ⟨.inr (.inr (.inl rfl)), rfl⟩
    · exact ⟨.inr (.inr (.inr rfl)), rfl⟩
    · exact ⟨.inr (.inr (.inr rfl)), rfl⟩
    · exact ⟨.inr (.inr (.inr rfl)), rfl⟩
  exact ⟨e2.1, e2.2, (e _ e2.1).1, (e _ e2.1).2.1, (e _ h).1, (e _ h).2.1, (e _ h).2.2⟩
theorem frame_set (f g : Int) (xs : List Int) : (frame f xs).set 0 g = frame g xs := by simp [frame, front]
theorem frame_get (f : Int) (xs : List Int) : (frame f xs).getD 0 0 = f := by simp [frame, front]
theorem flag5 (w : World) : Calls Try.prog 14 #[.int .i64 5] w fun e w' => e = .returned (.int .u8 191) ∧ w = w' := flag_calls 5 w
theorem flag6 (w : World) : Calls Try.prog 14 #[.int .i64 6] w fun e w' => e = .returned (.int .u8 223) ∧ w = w' := flag_calls 6 w
theorem flag4 (w : World) : Calls Try.prog 14 #[.int .i64 4] w fun e w' => e = .returned (.int .u8 255) ∧ w = w' := flag_calls 4 w
theorem flagm (w : World) : Calls Try.prog 14 #[.int .i64 (-1)] w fun e w' => e = .returned (.int .u8 255) ∧ w = w' := flag_calls (-1) w
set_option maxRecDepth 100000 in
set_option maxHeartbeats 4000000 in
theorem flags_in (A0 A1 A2 A3 : Option Addr) (n0 c0 n1 c1 n2 c2 n3 c3 : Nat) (x0 x1 x2 : List Int) (B : Nat → Bool) (w : World) (hb0 : Bs w A0 n0 x0) (hb1 : Bs w A1 n1 x1) (hb2 : Bs w A2 n2 x2) (hb3 : Bl w A3 n3 B) (hA0 : A0 = none → c0 = 0) (hA1 : A1 = none → c1 = 0) (hA2 : A2 = none → c2 = 0)
    (hn0 : n0 ≤ 500) (hn1 : n1 ≤ 500) (hn2 : n2 ≤ 500) (hn3 : n3 ≤ 10) : Calls Try.prog 6 #[.slice A0 n0 c0, .slice A1 n1 c1, .slice A2 n2 c2, .slice A3 n3 c3] w fun e w' => e = .returned (.bool true) ∧ Below w.heap.size w w' := by
  have d0 : decide (500 < (n0 : Int)) = false := by simp; omega
  have d1 : decide (500 < (n1 : Int)) = false := by simp; omega
  have d2 : decide (500 < (n2 : Int)) = false := by simp; omega
  have d3 : decide (10 < (n3 : Int)) = false := by simp; omega
  have HFL := Lib.hid (fun f => (show (frame f x1).length = n1 + 8 by rw [frame_len, hb1.len]))
  have HL1 := Lib.hid hb1.len
  have HL0 := Lib.hid hb0.len
  have HB0 := Lib.hid hb0
  have HB1 := Lib.hid hb1
  have HB2 := Lib.hid hb2
  have HB3 := Lib.hid hb3
  clear hb0 hb1 hb2 hb3
  go_enter Try.func6, Try.ntmps6
  go_wp2_with fail
  refine (RecP.put_calls A1 n1 c1 x1 _ HB1.out hA1 (by omega)).mono ?_
  intro e w1 hm
  obtain ⟨g, cap, rfl, ho, hb⟩ := hm.at_ (HFL.out 127)
  have HO := Lib.hid ho
  have HW := Lib.hid hb
  have hp := ho.place
  clear hm ho hb
  have dz : ((n1 : Int) + 8 == 0) = false := by rw [beq_eq_false_iff_ne]; omega
  go_wp2_with fail
  go_loopw [11, 52] (fun v i wr => ∃ (k : Nat) (f : Int), k ≤ n3 ∧ i = .int .i64 k ∧ v = .int .i64 (stOf f) ∧ Hid (Fl f) ∧ Ob wr w.heap.size 5 g (n1 + 8) cap (frame f x1) ∧ Below w.heap.size w wr) (fun _ i _ => n3 - (intOf i).toNat)
  case atStart => exact ⟨0, 127, Nat.zero_le _, rfl, rfl, Lib.hid (.inl rfl), HO.out, HW.out⟩
  case round =>
    obtain ⟨k, f, hk, rfl, rfl, hF, hown, hbel⟩ := hrel
    by_cases hlt : k < n3
    · obtain ⟨b3, o3, rfl, _, hc3⟩ := HB3.out.below hbel k hlt
      have hcell := hown.cell 0 (by omega)
      rw [frame_get] at hcell
      have hfr := hown.frozen 0
      have HN := Lib.hid (nxt_fl hF.out (B k))
      obtain ⟨b, hbk⟩ : ∃ b, B k = b := ⟨_, rfl⟩
      rw [hbk] at hc3 HN
      clear hbk
      have hf0 := HN.out.2.2.2.2.1
      have hf1 := HN.out.2.2.2.2.2.1
      obtain ⟨s, hs⟩ : ∃ s, stOf f = s := ⟨_, rfl⟩
      rw [hs]
      have HS := Lib.hid hs
      clear hs
      obtain ⟨f2, hf2⟩ : ∃ f2, nxt f b = f2 := ⟨_, rfl⟩
      have HF2 := Lib.hid hf2
      have p1 : (0 : Int) < (n1 : Int) + 8 := by omega
      have p2 : 0 < n1 + 8 := by omega
      cases b with
      | true =>
        have hbt : bits .and .u8 f 191 = f2 := hf2
        clear hf2
        go_wp2_with fail
        go_still_tail 6, (by kernel_rfl)
        still_call ((flag5 _).mono fun _ _ h => ⟨h.1, h.2.symm⟩)
        repeat still_step
        refine wpStill_nil ?_
        change wpList _ _ _ _ _ wr.drew
        go_wp2_with fail
        all_goals
          go_roundw
          case rel =>
            refine ⟨k + 1, f2, by omega, by go_num, ?_, Lib.hid ?_, ?_, (hbel.setCell hp.1 _).drew⟩
            · have := HN.out.2.1
              rw [HF2.out, HS.out] at this
              rw [this]
              simp_all
            · rw [← HF2.out]
              exact HN.out.1
            · have h3 := hown.set_ 0 f2 (by rw [← HF2.out]; exact HN.out.2.2.1) (by rw [← HF2.out]; exact HN.out.2.2.2.1)
              rw [frame_set] at h3
              exact h3
          case measure => simp [intOf]; omega
      | false =>
        have hbt : bits .and .u8 f 223 = f2 := hf2
        clear hf2
        go_wp2_with fail
        go_still_tail 6, (by kernel_rfl)
        still_call ((flag6 _).mono fun _ _ h => ⟨h.1, h.2.symm⟩)
        repeat still_step
        refine wpStill_nil ?_
        change wpList _ _ _ _ _ wr.drew
        go_wp2_with fail
        go_roundw
        case rel =>
          refine ⟨k + 1, f2, by omega, by go_num, ?_, Lib.hid ?_, ?_, (hbel.setCell hp.1 _).drew⟩
          · have := HN.out.2.1
            rw [HF2.out, HS.out] at this
            rw [this]
            simp_all
          · rw [← HF2.out]
            exact HN.out.1
          · have h3 := hown.set_ 0 f2 (by rw [← HF2.out]; exact HN.out.2.2.1) (by rw [← HF2.out]; exact HN.out.2.2.2.1)
            rw [frame_set] at h3
            exact h3
        case measure => simp [intOf]; omega
    · obtain rfl : k = n3 := by omega
      have HN := Lib.hid (nxt_fl hF.out true)
      have HO3 := Lib.hid hown
      have HW3 := Lib.hid hbel
      have hsz := hbel.size
      have hp3 := hown.place
      have hfd := found f x1 x0 x2 (by rw [HL1.out]; omega) HN.out.2.2.2.2.2.2
      rw [HL0.out, HL1.out] at hfd
      have HFD := Lib.hid hfd
      obtain ⟨s, hs⟩ : ∃ s, stOf f = s := ⟨_, rfl⟩
      rw [hs]
      have HS := Lib.hid hs
      clear hs hfd hF hown hbel
      go_wp2_with (first
        | ((with_reducible refine pick (some 74) ?_); refine wpList_append_bytes rfl (.tmp 72) (.tmp 73) _ rfl wr.heap.size 5 Try.underlying22 info8 wr.heap.size 0 0 [] rfl (Ob.new_ _ _ (Nat.le_refl _)) A0 n0 c0 x0 rfl ((HB0.out.below HW3.out).below ((Below.refl _ _).alloc (Nat.le_refl _) _)) hA0 n0 (by omega) x0 rfl (by omega) (by simp) ?_; intro g4 cap4 w4 hown4 hg4 _; have hbel4 : Below wr.heap.size wr w4 := ((Below.refl _ _).alloc (Nat.le_refl _) _).grown hg4 (by simp) (by intro k hk; injection hk with hk; omega); have hz4 := hbel4.size; have hp4 := hown4.place; clear hg4)
        | ((with_reducible refine pick (some 76) ?_); refine wpList_append_bytes rfl (.tmp 74) (.tmp 75) _ rfl wr.heap.size 5 Try.underlying22 info8 g4 n0 cap4 x0 rfl hown4 (some ⟨g, 0, none⟩) (n1 + 8) cap (frame f x1) rfl (HO3.out.below hbel4).bs (fun e => by cases e) (n0 + (n1 + 8)) rfl (x0 ++ frame f x1) rfl (by omega) (by omega) ?_; intro g5 cap5 w5 hown5 hg5 _; have hbel5 : Below wr.heap.size wr w5 := hbel4.grown hg5 (by omega) (by intro k hk; injection hk with hk; omega); have hz5 := hbel5.size; have hp5 := hown5.place; clear hg5 hown4 hbel4)
        | ((with_reducible refine pick (some 81) ?_); refine wpList_append_bytes rfl (.tmp 79) (.tmp 80) _ rfl wr.heap.size 5 Try.underlying22 info8 g5 (n0 + (n1 + 8)) cap5 (x0 ++ frame f x1) rfl hown5 A2 n2 c2 x2 rfl ((HB2.out.below HW3.out).below hbel5) hA2 (n0 + (n1 + 8) + n2) rfl (x0 ++ (frame f x1 ++ x2)) (List.append_assoc _ _ _) (by omega) (by omega) ?_; intro g6 cap6 w6 hown6 hg6 _; have hbel6 : Below wr.heap.size wr w6 := hbel5.grown hg6 (by omega) (by intro k hk; injection hk with hk; omega); clear hg6 hown5 hbel5))
      have HC := Lib.hid (RecX.class_calls (some ⟨g6, 0, none⟩) (n0 + (n1 + 8) + n2) cap6 (x0 ++ (frame f x1 ++ x2)) (n0 : Int) w6 hown6.bs (by omega) hown6.capLe)
      rw [HFD.out.1, HFD.out.2.1, HFD.out.2.2, HS.out] at HC
      have HW6 := Lib.hid (HW3.out.trans (hbel6.mono hsz))
      clear hown6 hbel6
      refine HC.out.mono ?_
      intro e w7 hm
      obtain ⟨B7, c7, rfl, ho7, _, _, hb7⟩ := hm.at_ HL1.out
      have HO7 := Lib.hid ho7
      have HW7 := Lib.hid (keeps HW6.out hb7)
      clear hm ho7 hb7
      go_wp2_with fail
      refine (fixed_calls _).mono ?_
      rintro e w8 ⟨rfl, hb8⟩
      obtain ⟨t, ht⟩ : ∃ t, str x1 = t := ⟨_, rfl⟩
      have hW8 := keeps HW7.out hb8
      have h1 := conv_of (c := c7) (HO7.out.below hb8) ht
      have h2 := conv_of (c := c1) (HB1.out.below hW8) ht
      have HW8 := Lib.hid hW8
      have he : ((n0 : Int) + n1 + 8 == (n0 : Int) + (n1 + 8)) = true := by rw [beq_iff_eq]; omega
      clear hb8 ht hW8
      go_wp2_with (first
        | (go_at_call 14; (with_reducible refine (flag4 _).mono ?_); rintro e w' ⟨rfl, rfl⟩)
        | (go_at_call 14; (with_reducible refine (flagm _).mono ?_); rintro e w' ⟨rfl, rfl⟩))
      go_ret
      exact ⟨rfl, HW8.out⟩
set_option maxRecDepth 100000 in
set_option maxHeartbeats 2000000 in
theorem flags_law (A0 A1 A2 A3 : Option Addr) (n0 c0 n1 c1 n2 c2 n3 c3 : Nat) (x0 x1 x2 : List Int) (B : Nat → Bool) (w : World) (hb0 : Bs w A0 n0 x0) (hb1 : Bs w A1 n1 x1) (hb2 : Bs w A2 n2 x2) (hb3 : Bl w A3 n3 B) (hA0 : A0 = none → c0 = 0) (hA1 : A1 = none → c1 = 0) (hA2 : A2 = none → c2 = 0)
    (hn0 : n0 ≤ maxLen) (hn1 : n1 ≤ maxLen) (hn2 : n2 ≤ maxLen) (hn3 : n3 ≤ maxLen) : Calls Try.prog 6 #[.slice A0 n0 c0, .slice A1 n1 c1, .slice A2 n2 c2, .slice A3 n3 c3] w fun e w' => e = .returned (.bool true) ∧ Below w.heap.size w w' := by
  unfold maxLen at hn0 hn1 hn2 hn3
  by_cases h : n0 ≤ 500 ∧ n1 ≤ 500 ∧ n2 ≤ 500 ∧ n3 ≤ 10
  · exact flags_in A0 A1 A2 A3 n0 c0 n1 c1 n2 c2 n3 c3 x0 x1 x2 B w hb0 hb1 hb2 hb3 hA0 hA1 hA2 h.1 h.2.1 h.2.2.1 h.2.2.2
  clear hb0 hb1 hb2 hb3
  rcases (show 500 < n0 ∨ (n0 ≤ 500 ∧ 500 < n1) ∨ (n0 ≤ 500 ∧ n1 ≤ 500 ∧ 500 < n2) ∨ (n0 ≤ 500 ∧ n1 ≤ 500 ∧ n2 ≤ 500 ∧ 10 < n3) by omega) with h0 | ⟨h0, h1⟩ | ⟨h0, h1, h2⟩ | ⟨h0, h1, h2, h3⟩
  · have d0 : decide (500 < (n0 : Int)) = true := by simp; omega
    go_enter Try.func6, Try.ntmps6
    go_wp2_with (go_at_call 8; refine (fixed_calls _).mono ?_; rintro e w' ⟨rfl, hbel⟩)
    go_ret
    exact ⟨rfl, hbel⟩
  · have d0 : decide (500 < (n0 : Int)) = false := by simp; omega
    have d1 : decide (500 < (n1 : Int)) = true := by simp; omega
    go_enter Try.func6, Try.ntmps6
    go_wp2_with (go_at_call 8; refine (fixed_calls _).mono ?_; rintro e w' ⟨rfl, hbel⟩)
    go_ret
    exact ⟨rfl, hbel⟩
  · have d0 : decide (500 < (n0 : Int)) = false := by simp; omega
    have d1 : decide (500 < (n1 : Int)) = false := by simp; omega
    have d2 : decide (500 < (n2 : Int)) = true := by simp; omega
    go_enter Try.func6, Try.ntmps6
    go_wp2_with (go_at_call 8; refine (fixed_calls _).mono ?_; rintro e w' ⟨rfl, hbel⟩)
    go_ret
    exact ⟨rfl, hbel⟩
  · have d0 : decide (500 < (n0 : Int)) = false := by simp; omega
    have d1 : decide (500 < (n1 : Int)) = false := by simp; omega
    have d2 : decide (500 < (n2 : Int)) = false := by simp; omega
    have d3 : decide (10 < (n3 : Int)) = true := by simp; omega
    go_enter Try.func6, Try.ntmps6
    go_wp2_with (go_at_call 8; refine (fixed_calls _).mono ?_; rintro e w' ⟨rfl, hbel⟩)
    go_ret
    exact ⟨rfl, hbel⟩
end Go.Proofs.Ytfkofagboojnnaa.RecG
