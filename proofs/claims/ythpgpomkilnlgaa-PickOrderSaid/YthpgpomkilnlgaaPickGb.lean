/- The contracts of the project's Blank and Lead of layer 11; all that its laws ask. -/
import Derived.Test.YthpgpomkilnlgaaPickGe
import Derived.Lib.MinMax
import Derived.Deep.MidRow
namespace Go.Proofs.Ythpgpomkilnlgaa.PickGb
set_option linter.unusedVariables false
set_option linter.unusedSimpArgs false
open Go.RowKit
open Go.Proofs.Ythpgpomkilnlgaa.PickG Go.Proofs.Ythpgpomkilnlgaa.PickGe Go.Proofs.Ythpgpomkilnlgaa.Byte Go.Proofs.Ythpgpomkilnlgaa.PickM Go.Proofs.Ythpgpomkilnlgaa.PickN Go.Proofs.Ythpgpomkilnlgaa.PickU Go.Proofs.Ythpgpomkilnlgaa.Own Go.Proofs.Ythpgpomkilnlgaa.Rw Go.Proofs.Ythpgpomkilnlgaa.Lst Go.Proofs.Ythpgpomkilnlgaa.PickR Go.Proofs.Ythpgpomkilnlgaa.PickRe Go.Proofs.Ythpgpomkilnlgaa.PickRq Go.Proofs.Ythpgpomkilnlgaa.PickL Go.Proofs.Ythpgpomkilnlgaa.PickV Go.Proofs.Ythpgpomkilnlgaa.PickW Go.Proofs.Ythpgpomkilnlgaa.Ho

set_option maxHeartbeats 2000000 in
theorem blank_ok (A : Option Addr) (n c : Nat) (L : List Inf) (w : World) (hl : Sl infE w A n L) (hnc : n ≤ c) (hc : c ≤ maxLen) (hn : n ≤ 100000) (hf : Fit L) :
    Calls Try.prog 17 #[.slice A n c] w fun e w' => e = .returned (.int .i64 (blankN L : Nat)) ∧ Below w.heap.size w w' := by
  have HL := Lib.hid hl
  clear hl hf hnc hc
  go_enter Try.func17, Try.ntmps17
  go_wp2
  go_loopw [3, 8] (fun m i wr => ∃ k : Nat, k ≤ n ∧ i = .int .i64 k ∧ (∃ b : Nat, b ≤ k ∧ m = .int .i64 b ∧ Hid (blankN (L.take k) = b)) ∧ Below w.heap.size w wr) (fun _ i _ => n - (intOf i).toNat)
  case atStart => exact ⟨0, Nat.zero_le _, rfl, ⟨0, Nat.zero_le _, rfl, Lib.hid rfl⟩, Below.refl _ _⟩
  case round =>
    obtain ⟨k, hk, rfl, ⟨b, hb, rfl, HK⟩, hbel⟩ := hrel
    by_cases hlt : k < n
    · obtain ⟨x, g, o, hx, rfl, hg, hcl⟩ := (HL.out.below hbel).get k hlt
      have HC : Hid (wr.rangeAt g (o + k * 6) [.int .i64 x.cls, .bool x.opn, .int .i64 x.wear, .int .u64 x.age, .int .i64 x.need, .bool x.held]) := Lib.hid hcl
      have hb1 : Below w.heap.size w (wr.alloc (.cells #[.int .i64 x.cls, .bool x.opn, .int .i64 x.wear, .int .u64 x.age, .int .i64 x.need, .bool x.held] 29)) := hbel.alloc hbel.size _
      have HB1 := Lib.hid hb1
      have HN := Lib.hid (blank_next hx)
      clear hcl hx hbel hb1
      cases hp : isBlank x with
      | false =>
        have HP := Lib.hid hp
        have HK2 : Hid (blankN (L.take (k + 1)) = b) := Lib.hid (by rw [HN.out, HK.out, if_neg (by simp [hp]), Nat.add_zero])
        clear hp
        go_wp2_with (first
          | (go_at_call 21; refine (writable_is HP.out _).mono ?_; rintro e w2 ⟨rfl, hb2⟩; have HB2 := Lib.hid (keeps HB1.out hb2); clear hb2)
          | ((with_reducible refine pick (some 11) ?_); refine wpList_load_mid rfl 29 _ rfl g (o + k * 6) rfl [.int .i64 x.cls, .bool x.opn, .int .i64 x.wear, .int .u64 x.age, .int .i64 x.need, .bool x.held] _ HC.out Try.underlying29 rfl info_inf6 ?_))
        go_roundw
        case rel => exact ⟨k + 1, by omega, by go_num, ⟨b, by omega, rfl, HK2⟩, HB2.out⟩
        case measure => simp [intOf]; omega
      | true =>
        have HP := Lib.hid hp
        have HK2 : Hid (blankN (L.take (k + 1)) = b + 1) := Lib.hid (by rw [HN.out, HK.out, if_pos hp])
        clear hp
        go_wp2_with (first
          | (go_at_call 21; refine (writable_is HP.out _).mono ?_; rintro e w2 ⟨rfl, hb2⟩; have HB2 := Lib.hid (keeps HB1.out hb2); clear hb2)
          | ((with_reducible refine pick (some 11) ?_); refine wpList_load_mid rfl 29 _ rfl g (o + k * 6) rfl [.int .i64 x.cls, .bool x.opn, .int .i64 x.wear, .int .u64 x.age, .int .i64 x.need, .bool x.held] _ HC.out Try.underlying29 rfl info_inf6 ?_))
        go_roundw
        case rel => exact ⟨k + 1, by omega, by go_num, ⟨b + 1, by omega, by go_num, HK2⟩, HB2.out⟩
        case measure => simp [intOf]; omega
    · obtain rfl : k = n := by omega
      have HBL := Lib.hid hbel
      have e : blankN L = b := by rw [← HK.out, List.take_of_length_le (by rw [HL.out.1]; exact Nat.le_refl _)]
      have HE := Lib.hid e
      clear hbel e
      go_wp2_with fail
      go_ret
      rw [HE.out]
      exact ⟨rfl, HBL.out⟩

theorem below_drewN {B : Nat} {a w : World} (h : Below B a w) (n : Nat) : Below B a (w.drewN n) := ⟨h.os, h.tape, h.output, h.size, h.block⟩
/-- The least and the greatest wear of the first so many, at first that of the first one. -/
def lowQ (L : List Inf) (f : Int) (k : Nat) : Int := if k = 0 then f else lowL (L.take k)
def highQ (L : List Inf) (f : Int) (k : Nat) : Int := if k = 0 then f else highL (L.take k)
theorem lowQ_next {L : List Inf} {x0 x : Inf} {k : Nat} (h0 : L[0]? = some x0) (hx : L[k]? = some x) : lowQ L x0.wear (k + 1) = min (lowQ L x0.wear k) x.wear := by
  unfold lowQ
  rw [if_neg (by omega), low_next hx]
  by_cases h : k = 0
  · subst h
    rw [h0] at hx
    injection hx with hx
    subst hx
    simp
  · rw [if_neg h]
    split <;> omega
theorem highQ_next {L : List Inf} {x0 x : Inf} {k : Nat} (h0 : L[0]? = some x0) (hx : L[k]? = some x) : highQ L x0.wear (k + 1) = max (highQ L x0.wear k) x.wear := by
  unfold highQ
  rw [if_neg (by omega), high_next hx]
  by_cases h : k = 0
  · subst h
    rw [h0] at hx
    injection hx with hx
    subst hx
    simp
  · rw [if_neg h]
    split <;> omega
set_option maxHeartbeats 1000000 in
theorem lead_none (c : Nat) (A : Option Addr) (w : World) : Calls Try.prog 18 #[.slice A (0 : Nat) c] w fun e w' => e = .returned (.int .i64 0) ∧ Below w.heap.size w w' := by
  go_enter Try.func18, Try.ntmps18
  go_wp2_with fail
  go_ret
  exact ⟨rfl, Below.refl _ _⟩
set_option maxRecDepth 100000 in
set_option maxHeartbeats 4000000 in
theorem lead_some (A : Option Addr) (n c : Nat) (L : List Inf) (w : World) (hl : Sl infE w A n L) (hnc : n ≤ c) (hc : c ≤ maxLen) (hn : n ≤ 100000) (hf : Fit L) (hn0 : 0 < n) :
    Calls Try.prog 18 #[.slice A n c] w fun e w' => e = .returned (.int .i64 (highL L - lowL L)) ∧ Below w.heap.size w w' := by
  have HL := Lib.hid hl
  have HF := Lib.hid hf
  obtain ⟨x0, g0, o0, hx0, hA, hg0, hc0⟩ := hl.get 0 hn0
  have hf0 := hf x0 (List.mem_of_getElem? hx0)
  obtain ⟨z0, z1, z2, z3, z4, z5⟩ := inf_cells hc0
  simp only [Nat.zero_mul, Nat.add_zero] at z2
  have HX0 := Lib.hid hx0
  have hne : ((n : Int) == 0) = false := by rw [beq_eq_false_iff_ne]; omega
  have hn1 : (0 : Int) < (n : Int) := by omega
  clear hl hf hnc hc hc0 hx0 z0 z1 z3 z4 z5
  subst hA
  go_enter Try.func18, Try.ntmps18
  go_wp2
  go_quiet (fail)
  go_wp2
  go_loopw [3, 4, 20] (fun a b i wr => ∃ (k : Nat) (lo hi : Int), k ≤ n ∧ i = .int .i64 k ∧ a = .int .i64 lo ∧ b = .int .i64 hi ∧ Hid (lowQ L x0.wear k = lo) ∧ Hid (highQ L x0.wear k = hi) ∧ -1099511627776 ≤ lo ∧ lo ≤ 1099511627776 ∧ -1099511627776 ≤ hi ∧ hi ≤ 1099511627776 ∧ Below w.heap.size w wr) (fun _ _ i _ => n - (intOf i).toNat)
  case atStart => exact ⟨0, x0.wear, x0.wear, Nat.zero_le _, rfl, rfl, rfl, Lib.hid rfl, Lib.hid rfl, hf0.1, hf0.2, hf0.1, hf0.2, below_drewN (Below.refl _ _) _⟩
  case round =>
    obtain ⟨k, lo, hi, hk, rfl, rfl, rfl, HLO, HHI, b0, b1, b2, b3, hbel⟩ := hrel
    by_cases hlt : k < n
    · obtain ⟨x, g, o, hx, hA, hg, hcl⟩ := (HL.out.below hbel).get k hlt
      have hfx := HF.out x (List.mem_of_getElem? hx)
      obtain ⟨f0, f1⟩ := hfx
      injection hA with hA
      injection hA with hA1 hA2
      subst hA1
      subst hA2
      have HC : Hid (wr.rangeAt g0 (o0 + k * 6) [.int .i64 x.cls, .bool x.opn, .int .i64 x.wear, .int .u64 x.age, .int .i64 x.need, .bool x.held]) := Lib.hid hcl
      have hb1 : Below w.heap.size w (wr.alloc (.cells #[.int .i64 x.cls, .bool x.opn, .int .i64 x.wear, .int .u64 x.age, .int .i64 x.need, .bool x.held] 29)) := hbel.alloc hbel.size _
      have HV0 := Lib.hid hb1
      have HXB0 := Lib.hid (Blk.new_ wr #[.int .i64 x.cls, .bool x.opn, .int .i64 x.wear, .int .u64 x.age, .int .i64 x.need, .bool x.held] 29)
      have HL2 : Hid (lowQ L x0.wear (k + 1) = min lo x.wear) := Lib.hid (by rw [lowQ_next HX0.out hx, HLO.out])
      have HH2 : Hid (highQ L x0.wear (k + 1) = max hi x.wear) := Lib.hid (by rw [highQ_next HX0.out hx, HHI.out])
      clear hcl hx hbel hb1
      go_wp2_with ((with_reducible refine pick (some 23) ?_); refine wpList_load_mid rfl 29 _ rfl g0 (o0 + k * 6) rfl [.int .i64 x.cls, .bool x.opn, .int .i64 x.wear, .int .u64 x.age, .int .i64 x.need, .bool x.held] _ HC.out Try.underlying29 rfl info_inf6 ?_)
      obtain ⟨V, hV⟩ : ∃ V, wr.alloc (.cells #[.int .i64 x.cls, .bool x.opn, .int .i64 x.wear, .int .u64 x.age, .int .i64 x.need, .bool x.held] 29) = V := ⟨_, rfl⟩
      have HV1 := Lib.hid HV0.out
      rw [hV] at HV1 HXB0 ⊢
      have HV := Lib.hid HV1.out
      obtain ⟨gb, hgb⟩ : ∃ gb, wr.heap.size = gb := ⟨_, rfl⟩
      rw [hgb] at HXB0 ⊢
      have HXB := Lib.hid HXB0.out
      clear hV hgb HV0 HV1 HXB0
      have RD : Hid (∀ v, Below V.heap.size V v → Below V.heap.size V v ∧ v.cell? ⟨gb, 2, none⟩ = some (.int .i64 x.wear)) := Lib.hid fun v hv => ⟨hv, (HXB.out.below hv).cell 2⟩
      refine wp_region_held_drew (S := fun v => Below V.heap.size V v ∧ v.cell? ⟨gb, 2, none⟩ = some (.int .i64 x.wear)) (by kernel_rfl) (RD.out _ (Below.drew (Below.refl _ _))) (fun hHeld => ?_)
      refine ho_val (v := ?_) 0 (some 24) rfl rfl (by kernel_rfl) (by kernel_rfl) (by kernel_rfl) (fun _ _ _ h => h) (by kernel_rfl) (fun w hSw => ?_) (by assumption) ?_
      rotate_left
      · ((try dsimp only at hSw); go_simp; try with_reducible rfl)
      simp only [Act.put, List.setIfInBounds_toArray, List.set_cons_zero, List.set_cons_succ]
      refine ho_val (v := ?_) 1 (some 25) rfl rfl (by kernel_rfl) (by kernel_rfl) (by kernel_rfl) (fun _ _ _ h => h) (by kernel_rfl) (fun w hSw => ?_) (by assumption) ?_
      rotate_left
      · ((try dsimp only at hSw); go_simp; try with_reducible rfl)
      simp only [Act.put, List.setIfInBounds_toArray, List.set_cons_zero, List.set_cons_succ]
      refine ho_val (v := ?_) 2 (some 26) rfl rfl (by kernel_rfl) (by kernel_rfl) (by kernel_rfl) (fun _ _ _ h => h) (by kernel_rfl) (fun w hSw => ?_) (by assumption) ?_
      rotate_left
      · ((try dsimp only at hSw); go_simp; try with_reducible rfl)
      simp only [Act.put, List.setIfInBounds_toArray, List.set_cons_zero, List.set_cons_succ]
      refine ho_val (v := ?_) 4 (some 28) rfl rfl (by kernel_rfl) (by kernel_rfl) (by kernel_rfl) (fun _ _ _ h => h) (by kernel_rfl) (fun w hSw => ?_) (by assumption) ?_
      rotate_left
      · ((try dsimp only at hSw); go_simp; try with_reducible rfl)
      simp only [Act.put, List.setIfInBounds_toArray, List.set_cons_zero, List.set_cons_succ]
      refine ho_val (v := ?_) 5 (some 29) rfl rfl (by kernel_rfl) (by kernel_rfl) (by kernel_rfl) (fun _ _ _ h => h) (by kernel_rfl) (fun w hSw => ?_) (by assumption) ?_
      rotate_left
      · ((try dsimp only at hSw); go_simp; try with_reducible rfl)
      simp only [Act.put, List.setIfInBounds_toArray, List.set_cons_zero, List.set_cons_succ]
      refine ho_val (v := ?_) 6 (some 30) rfl rfl (by kernel_rfl) (by kernel_rfl) (by kernel_rfl) (fun _ _ _ h => h) (by kernel_rfl) (fun w hSw => ?_) (by assumption) ?_
      rotate_left
      · ((try dsimp only at hSw); go_simp; try with_reducible rfl)
      simp only [Act.put, List.setIfInBounds_toArray, List.set_cons_zero, List.set_cons_succ]
      refine ho_val (v := ?_) 3 (some 27) rfl rfl (by kernel_rfl) (by kernel_rfl) (by kernel_rfl) (fun _ _ _ h => h) (by kernel_rfl) (fun w hSw => ?_) (by assumption) ?_
      rotate_left
      · ((try dsimp only at hSw); go_simp; try with_reducible rfl)
      simp only [Act.put, List.setIfInBounds_toArray, List.set_cons_zero, List.set_cons_succ]
      refine ho_val (v := ?_) 8 (some 3) rfl rfl (by kernel_rfl) (by kernel_rfl) (by kernel_rfl) (fun _ _ _ h => h) (by kernel_rfl) (fun w hSw => ?_) (by assumption) ?_
      rotate_left
      · ((try dsimp only at hSw); go_simp; try with_reducible rfl)
      simp only [Act.put, List.setIfInBounds_toArray, List.set_cons_zero, List.set_cons_succ]
      refine ho_val (v := ?_) 7 (some 31) rfl rfl (by kernel_rfl) (by kernel_rfl) (by kernel_rfl) (fun _ _ _ h => h) (by kernel_rfl) (fun w hSw => ?_) (by assumption) ?_
      rotate_left
      · ((try dsimp only at hSw); go_simp; try with_reducible rfl)
      simp only [Act.put, List.setIfInBounds_toArray, List.set_cons_zero, List.set_cons_succ]
      refine ho_val (v := ?_) 9 (some 4) rfl rfl (by kernel_rfl) (by kernel_rfl) (by kernel_rfl) (fun _ _ _ h => h) (by kernel_rfl) (fun w hSw => ?_) (by assumption) ?_
      rotate_left
      · ((try dsimp only at hSw); go_simp; try with_reducible rfl)
      simp only [Act.put, List.setIfInBounds_toArray, List.set_cons_zero, List.set_cons_succ]
      refine wpAnyH_done (by kernel_rfl) ?_ _
      have HZ := Lib.hid (keeps HV.out hHeld.1)
      clear hHeld RD
      go_wp2_with fail
      go_roundw
      case rel => exact ⟨k + 1, min lo x.wear, max hi x.wear, by omega, by go_num, rfl, rfl, HL2, HH2, by omega, by omega, by omega, by omega, HZ.out⟩
      case measure => simp [intOf]; omega
    · obtain rfl : k = n := by omega
      have HBL := Lib.hid hbel
      have ht : L.take k = L := List.take_of_length_le (by rw [HL.out.1]; exact Nat.le_refl _)
      have e1 : lowL L = lo := by rw [← HLO.out]; unfold lowQ; rw [if_neg (by omega), ht]
      have e2 : highL L = hi := by rw [← HHI.out]; unfold highQ; rw [if_neg (by omega), ht]
      have HE1 := Lib.hid e1
      have HE2 := Lib.hid e2
      clear hbel e1 e2 ht
      go_wp2_with fail
      go_ret
      rw [HE1.out, HE2.out]
      exact ⟨rfl, HBL.out⟩
theorem lead_ok (A : Option Addr) (n c : Nat) (L : List Inf) (w : World) (hl : Sl infE w A n L) (hnc : n ≤ c) (hc : c ≤ maxLen) (hn : n ≤ 100000) (hf : Fit L) :
    Calls Try.prog 18 #[.slice A n c] w fun e w' => e = .returned (.int .i64 (highL L - lowL L)) ∧ Below w.heap.size w w' := by
  by_cases h : n = 0
  · subst h
    have e : L = [] := List.eq_nil_of_length_eq_zero hl.1
    subst e
    exact lead_none c A w
  · exact lead_some A n c L w hl hnc hc hn hf (by omega)
theorem picks : Picks := ⟨write_ok, erase_ok, atonce_ok, oldest_ok, blank_ok, lead_ok⟩
end Go.Proofs.Ythpgpomkilnlgaa.PickGb
