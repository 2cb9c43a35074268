/- The contract of the document's Erase of layer 11. -/
import Derived.Test.YthpgpomkilnlgaaPickRq
import Derived.Test.YthpgpomkilnlgaaHo
import Derived.Deep.MidRow
namespace Go.Proofs.Ythpgpomkilnlgaa.PickRe
set_option linter.unusedVariables false
set_option linter.unusedSimpArgs false
open Go.RowKit
open Go.Proofs.Ythpgpomkilnlgaa.Byte Go.Proofs.Ythpgpomkilnlgaa.PickM Go.Proofs.Ythpgpomkilnlgaa.PickN Go.Proofs.Ythpgpomkilnlgaa.Own Go.Proofs.Ythpgpomkilnlgaa.Rw Go.Proofs.Ythpgpomkilnlgaa.Lst Go.Proofs.Ythpgpomkilnlgaa.PickR Go.Proofs.Ythpgpomkilnlgaa.PickRq Go.Proofs.Ythpgpomkilnlgaa.Ho

/-- Wear that may be gone through. -/
def Fit (L : List Inf) : Prop := ∀ x ∈ L, -1099511627776 ≤ x.wear ∧ x.wear ≤ 1099511627776
theorem least_fit {L : List Inf} (h : Fit L) : -1099511627776 ≤ leastL L ∧ leastL L ≤ 1099511627776 := by
  unfold leastL
  cases hb : bestL (fun x => !x.held) worn L with
  | none => exact ⟨by simp, by simp⟩
  | some q =>
    obtain ⟨i, x⟩ := q
    rw [← List.take_length (l := L)] at hb
    obtain ⟨_, h1, _⟩ := best_in _ (Nat.le_refl _) hb
    exact h x (List.mem_of_getElem? h1)
theorem pass_is {x : Inf} {least : Int} {n : Nat} {b : Bool} (hb : passN least n x = b) (w : World) (hn : n < 3) (h0 : -10000000000000 ≤ x.wear) (h1 : x.wear ≤ 10000000000000) (h2 : -10000000000000 ≤ least) (h3 : least ≤ 10000000000000) : Calls Try.prog 32 #[infV x, .int .i64 least, .int .i64 n] w fun e w' => e = .returned (.bool b) ∧ Below w.heap.size w w' := by
  subst hb
  exact pass_calls x least n w hn h0 h1 h2 h3
set_option maxRecDepth 100000 in
set_option maxHeartbeats 16000000 in
theorem referase_calls (A : Option Addr) (n c : Nat) (L : List Inf) (w : World) (hl : Sl infE w A n L) (hn : n ≤ 100000) (hf : Fit L) :
    Calls Try.prog 14 #[.slice A n c] w fun e w' => e = .returned (.int .i64 (num (eraseL L))) ∧ Below w.heap.size w w' := by
  have HL := Lib.hid hl
  have HF := Lib.hid hf
  have hlf := least_fit hf
  obtain ⟨LE, hLE⟩ : ∃ q, leastL L = q := ⟨_, rfl⟩
  rw [hLE] at hlf
  obtain ⟨lf0, lf1⟩ := hlf
  have HLE := Lib.hid hLE
  clear hl hf hLE
  go_enter Try.func14, Try.ntmps14
  go_wp2
  go_loop [3, 4, 11] (fun v d i => ∃ k : Nat, k ≤ n ∧ i = .int .i64 k ∧ v = .int .i64 (leastB (bestL (fun x => !x.held) worn (L.take k))) ∧ d = .bool (bestL (fun x => !x.held) worn (L.take k)).isSome) (fun _ _ i => n - (intOf i).toNat)
  case atStart => exact ⟨0, Nat.zero_le _, rfl, rfl, rfl⟩
  case round =>
    obtain ⟨k, hk, rfl, rfl, rfl⟩ := hrel
    by_cases hlt : k < n
    · obtain ⟨x, g, o, hx, rfl, hg, hc⟩ := HL.out.get k hlt
      obtain ⟨c0, c1, c2, c3, c4, c5⟩ := inf_cells hc
      have HN := Lib.hid (best_next hx (fun x => !x.held) worn)
      generalize hB : bestL (fun x => !x.held) worn (L.take k) = B at HN
      generalize hB' : bestL (fun x => !x.held) worn (L.take (k + 1)) = B' at HN
      have HB' := Lib.hid hB'
      clear hc hx hB hB'
      cases hh : x.held with
      | true =>
        rw [hh] at c5
        have HN2 : Hid (B' = B) := Lib.hid (by rw [HN.out, if_neg (by simp [takes, hh])])
        go_wp2
        go_round
        case rel => exact ⟨k + 1, by omega, by go_num, by rw [HB'.out, HN2.out], by rw [HB'.out, HN2.out]⟩
        case measure => simp [intOf]; omega
      | false =>
        rw [hh] at c5
        cases B with
        | none =>
          have HN2 : Hid (B' = some (k, x)) := Lib.hid (by rw [HN.out, if_pos (by simp [takes, hh])])
          go_wp2
          go_round
          case rel => exact ⟨k + 1, by omega, by go_num, by rw [HB'.out, HN2.out]; rfl, by rw [HB'.out, HN2.out]; rfl⟩
          case measure => simp [intOf]; omega
        | some q =>
          obtain ⟨i, y⟩ := q
          rw [show leastB (some (i, y)) = y.wear from rfl, show (some (i, y) : Bst).isSome = true from rfl]
          by_cases hw : x.wear < y.wear
          · have dw : decide (x.wear < y.wear) = true := decide_eq_true hw
            have HN2 : Hid (B' = some (k, x)) := Lib.hid (by rw [HN.out, if_pos (by simp [takes, hh, worn, hw])])
            go_wp2
            go_round
            case rel => exact ⟨k + 1, by omega, by go_num, by rw [HB'.out, HN2.out]; rfl, by rw [HB'.out, HN2.out]; rfl⟩
            case measure => simp [intOf]; omega
          · have dw : decide (x.wear < y.wear) = false := decide_eq_false hw
            have HN2 : Hid (B' = some (i, y)) := Lib.hid (by rw [HN.out, if_neg (by simp [takes, worn, hw])])
            go_wp2
            go_round
            case rel => exact ⟨k + 1, by omega, by go_num, by rw [HB'.out, HN2.out]; rfl, by rw [HB'.out, HN2.out]; rfl⟩
            case measure => simp [intOf]; omega
    · obtain rfl : k = n := by omega
      have e : L.take k = L := List.take_of_length_le (by rw [HL.out.1]; exact Nat.le_refl _)
      rw [e]
      rw [show leastB (bestL (fun x => !x.held) worn L) = LE from HLE.out]
      generalize (bestL (fun x => !x.held) worn L).isSome = fd
      go_wp2
      go_loopw [6] (fun s wr => ∃ m : Nat, m ≤ 3 ∧ s = .int .i64 m ∧ Hid (eraseL L = fromN L m) ∧ Below w.heap.size w wr) (fun s _ => 3 - (intOf s).toNat)
      case atStart => exact ⟨0, by omega, rfl, Lib.hid rfl, Below.refl _ _⟩
      case round =>
        obtain ⟨m, hm, rfl, HE, hbel⟩ := hrel
        have HBO := Lib.hid hbel
        clear hbel
        rename World => wo
        rcases (show m < 3 ∨ m = 3 by omega) with hm3 | rfl
        · have d3 : decide ((m : Int) < 3) = true := decide_eq_true (by omega)
          have HEN := Lib.hid (HE.out.trans (from_next L m hm3))
          rw [HLE.out] at HEN
          go_wp2
          go_loopw [7, 45] (fun b i wr => ∃ j : Nat, j ≤ k ∧ i = .int .i64 j ∧ b = .int .i64 (num (bestL (passN LE m) (ltN m) (L.take j))) ∧ Below w.heap.size w wr) (fun _ i _ => k - (intOf i).toNat)
          case atStart => exact ⟨0, Nat.zero_le _, rfl, rfl, HBO.out⟩
          case round =>
            obtain ⟨j, hj, rfl, rfl, hbel⟩ := hrel
            have HBL := Lib.hid hbel
            by_cases hlt2 : j < k
            · obtain ⟨x, g, o, hx, rfl, hg, hc⟩ := (HL.out.below hbel).get j hlt2
              have HX := Lib.hid hx
              have HN := Lib.hid (best_next hx (passN LE m) (ltN m))
              have HC : Hid (wr.rangeAt g (o + j * 6) [.int .i64 x.cls, .bool x.opn, .int .i64 x.wear, .int .u64 x.age, .int .i64 x.need, .bool x.held]) := Lib.hid hc
              obtain ⟨xf0, xf1⟩ := HF.out x (List.mem_of_getElem? hx)
              have hjL : j ≤ L.length := by rw [HL.out.1]; omega
              have hji : (j : Int) < (k : Int) := by omega
              generalize hB' : bestL (passN LE m) (ltN m) (L.take (j + 1)) = B' at HN
              have HB' := Lib.hid hB'
              clear hc hx hbel hB'
              cases hp : passN LE m x with
              | false =>
                have HP := Lib.hid hp
                have HN2 : Hid (B' = bestL (passN LE m) (ltN m) (L.take j)) := Lib.hid (by rw [HN.out, if_neg (by simp [takes, hp])])
                generalize bestL (passN LE m) (ltN m) (L.take j) = B at HN2
                clear hp hjL
                go_wp2_with (first
                  | ((with_reducible refine pick (some 51) ?_); refine wpList_load_mid rfl 29 _ rfl g (o + j * 6) rfl [.int .i64 x.cls, .bool x.opn, .int .i64 x.wear, .int .u64 x.age, .int .i64 x.need, .bool x.held] _ HC.out Try.underlying29 rfl info_inf6 ?_)
                  | (go_at_call 32; refine (pass_is (n := m) HP.out _ hm3 (by omega) (by omega) (by omega) (by omega)).mono ?_; rintro e w3 ⟨rfl, hb3⟩; have hn3 := keeps HBL.out hb3; have HB3 := Lib.hid hn3; clear hb3 hn3))
                go_roundw
                case rel => exact ⟨j + 1, by omega, by go_num, by rw [HB'.out, HN2.out], HB3.out⟩
                case measure => simp [intOf]; omega
              | true =>
                have HP := Lib.hid hp
                cases hb : bestL (passN LE m) (ltN m) (L.take j) with
                | none =>
                  have HN2 : Hid (B' = some (j, x)) := Lib.hid (by rw [HN.out, hb, if_pos (by simp [takes, hp])])
                  rw [show num (none : Bst) = -1 from rfl]
                  clear hp hb hjL
                  go_wp2_with (first
                    | ((with_reducible refine pick (some 51) ?_); refine wpList_load_mid rfl 29 _ rfl g (o + j * 6) rfl [.int .i64 x.cls, .bool x.opn, .int .i64 x.wear, .int .u64 x.age, .int .i64 x.need, .bool x.held] _ HC.out Try.underlying29 rfl info_inf6 ?_)
                    | (go_at_call 32; refine (pass_is (n := m) HP.out _ hm3 (by omega) (by omega) (by omega) (by omega)).mono ?_; rintro e w3 ⟨rfl, hb3⟩; have hn3 := keeps HBL.out hb3; have HB3 := Lib.hid hn3; clear hb3 hn3))
                  go_roundw
                  case rel => exact ⟨j + 1, by omega, by go_num, by rw [HB'.out, HN2.out]; rfl, HB3.out⟩
                  case measure => simp [intOf]; omega
                | some q =>
                  obtain ⟨i, y⟩ := q
                  obtain ⟨hik, hy, _⟩ := best_in j hjL hb
                  have HY := Lib.hid hy
                  rw [show num (some (i, y) : Bst) = (i : Int) from rfl]
                  have hii : (i : Int) < (k : Int) := by omega
                  have hneg : decide ((i : Int) < 0) = false := decide_eq_false (by omega)
                  by_cases m2 : m = 2
                  · have hm2 : ((m : Int) == 2) = true := by rw [m2]; rfl
                    have hlt3 : ltN m = both := by rw [m2]; rfl
                    clear m2
                    by_cases hw : x.wear = y.wear
                    · by_cases ha : x.age < y.age
                      · have dn : (x.wear != y.wear) = false := by simp [hw]
                        have da : decide (x.age < y.age) = true := decide_eq_true ha
                        have HN2 : Hid (B' = some (j, x)) := Lib.hid (by rw [HN.out, hb, if_pos (by simp [takes, hp, hlt3, both, older, hw, ha])])
                        clear hp hb hjL hy hlt3 ha hw
                        go_wp2_with (first
                          | ((with_reducible refine pick (some 51) ?_); refine wpList_load_mid rfl 29 _ rfl g (o + j * 6) rfl [.int .i64 x.cls, .bool x.opn, .int .i64 x.wear, .int .u64 x.age, .int .i64 x.need, .bool x.held] _ HC.out Try.underlying29 rfl info_inf6 ?_)
                          | (go_at_call 32; refine (pass_is (n := m) HP.out _ hm3 (by omega) (by omega) (by omega) (by omega)).mono ?_; rintro e w3 ⟨rfl, hb3⟩; have hn3 := keeps HBL.out hb3; have HB3 := Lib.hid hn3; clear hb3 hn3))
                        have RD : Hid (∀ v, Below w.heap.size w v → Below w.heap.size w v ∧ v.cell? ⟨g, o + j * 6 + 2, none⟩ = some (.int .i64 x.wear) ∧ v.cell? ⟨g, o + j * 6 + 3, none⟩ = some (.int .u64 x.age) ∧ v.cell? ⟨g, o + i * 6 + 2, none⟩ = some (.int .i64 y.wear) ∧ v.cell? ⟨g, o + i * 6 + 3, none⟩ = some (.int .u64 y.age)) := Lib.hid fun v hv => (by
                          obtain ⟨s0, s1, s2, s3, s4, s5⟩ := inf_cells ((HL.out.below hv).at_ j x HX.out).2
                          obtain ⟨z0, z1, z2, z3, z4, z5⟩ := inf_cells ((HL.out.below hv).at_ i y HY.out).2
                          exact ⟨hv, s2, s3, z2, z3⟩)
                        refine wp_region_held_drew (S := fun v => Below w.heap.size w v ∧ v.cell? ⟨g, o + j * 6 + 2, none⟩ = some (.int .i64 x.wear) ∧ v.cell? ⟨g, o + j * 6 + 3, none⟩ = some (.int .u64 x.age) ∧ v.cell? ⟨g, o + i * 6 + 2, none⟩ = some (.int .i64 y.wear) ∧ v.cell? ⟨g, o + i * 6 + 3, none⟩ = some (.int .u64 y.age)) (by kernel_rfl) (RD.out _ HB3.out.drew) (fun hHeld => ?_)
                        refine ho_val (v := ?_) 0 (some 59) rfl rfl (by kernel_rfl) (by kernel_rfl) (by kernel_rfl) (fun _ _ _ h => h) (by kernel_rfl) (fun w hSw => ?_) (by assumption) ?_
                        rotate_left
                        · ((try dsimp only at hSw); go_simp; try with_reducible rfl)
                        simp only [Act.put, List.setIfInBounds_toArray, List.set_cons_zero, List.set_cons_succ]
                        refine ho_val (v := ?_) 1 (some 60) rfl rfl (by kernel_rfl) (by kernel_rfl) (by kernel_rfl) (fun _ _ _ h => h) (by kernel_rfl) (fun w hSw => ?_) (by assumption) ?_
                        rotate_left
                        · ((try dsimp only at hSw); go_simp; try with_reducible rfl)
                        simp only [Act.put, List.setIfInBounds_toArray, List.set_cons_zero, List.set_cons_succ]
                        refine ho_val (v := ?_) 2 (some 61) rfl rfl (by kernel_rfl) (by kernel_rfl) (by kernel_rfl) (fun _ _ _ h => h) (by kernel_rfl) (fun w hSw => ?_) (by assumption) ?_
                        rotate_left
                        · ((try dsimp only at hSw); go_simp; try with_reducible rfl)
                        simp only [Act.put, List.setIfInBounds_toArray, List.set_cons_zero, List.set_cons_succ]
                        refine ho_val (v := ?_) 3 (some 62) rfl rfl (by kernel_rfl) (by kernel_rfl) (by kernel_rfl) (fun _ _ _ h => h) (by kernel_rfl) (fun w hSw => ?_) (by assumption) ?_
                        rotate_left
                        · ((try dsimp only at hSw); go_simp; try with_reducible rfl)
                        simp only [Act.put, List.setIfInBounds_toArray, List.set_cons_zero, List.set_cons_succ]
                        refine ho_val (v := ?_) 4 (some 63) rfl rfl (by kernel_rfl) (by kernel_rfl) (by kernel_rfl) (fun _ _ _ h => h) (by kernel_rfl) (fun w hSw => ?_) (by assumption) ?_
                        rotate_left
                        · ((try dsimp only at hSw); go_simp; try with_reducible rfl)
                        simp only [Act.put, List.setIfInBounds_toArray, List.set_cons_zero, List.set_cons_succ]
                        refine ho_val (v := ?_) 5 (some 64) rfl rfl (by kernel_rfl) (by kernel_rfl) (by kernel_rfl) (fun _ _ _ h => h) (by kernel_rfl) (fun w hSw => ?_) (by assumption) ?_
                        rotate_left
                        · ((try dsimp only at hSw); go_simp; try with_reducible rfl)
                        simp only [Act.put, List.setIfInBounds_toArray, List.set_cons_zero, List.set_cons_succ]
                        refine ho_val (v := ?_) 6 (some 65) rfl rfl (by kernel_rfl) (by kernel_rfl) (by kernel_rfl) (fun _ _ _ h => h) (by kernel_rfl) (fun w hSw => ?_) (by assumption) ?_
                        rotate_left
                        · ((try dsimp only at hSw); go_simp; try with_reducible rfl)
                        simp only [Act.put, List.setIfInBounds_toArray, List.set_cons_zero, List.set_cons_succ]
                        refine ho_val (v := ?_) 7 (some 66) rfl rfl (by kernel_rfl) (by kernel_rfl) (by kernel_rfl) (fun _ _ _ h => h) (by kernel_rfl) (fun w hSw => ?_) (by assumption) ?_
                        rotate_left
                        · ((try dsimp only at hSw); go_simp; try with_reducible rfl)
                        simp only [Act.put, List.setIfInBounds_toArray, List.set_cons_zero, List.set_cons_succ]
                        refine ho_val (v := ?_) 8 (some 67) rfl rfl (by kernel_rfl) (by kernel_rfl) (by kernel_rfl) (fun _ _ _ h => h) (by kernel_rfl) (fun w hSw => ?_) (by assumption) ?_
                        rotate_left
                        · ((try dsimp only at hSw); go_simp; try with_reducible rfl)
                        simp only [Act.put, List.setIfInBounds_toArray, List.set_cons_zero, List.set_cons_succ]
                        refine ho_val (v := ?_) 9 (some 68) rfl rfl (by kernel_rfl) (by kernel_rfl) (by kernel_rfl) (fun _ _ _ h => h) (by kernel_rfl) (fun w hSw => ?_) (by assumption) ?_
                        rotate_left
                        · ((try dsimp only at hSw); go_simp; try with_reducible rfl)
                        simp only [Act.put, List.setIfInBounds_toArray, List.set_cons_zero, List.set_cons_succ]
                        refine ho_val (v := ?_) 10 (some 69) rfl rfl (by kernel_rfl) (by kernel_rfl) (by kernel_rfl) (fun _ _ _ h => h) (by kernel_rfl) (fun w hSw => ?_) (by assumption) ?_
                        rotate_left
                        · ((try dsimp only at hSw); go_simp; try with_reducible rfl)
                        simp only [Act.put, List.setIfInBounds_toArray, List.set_cons_zero, List.set_cons_succ]
                        refine ho_val (v := ?_) 11 (some 70) rfl rfl (by kernel_rfl) (by kernel_rfl) (by kernel_rfl) (fun _ _ _ h => h) (by kernel_rfl) (fun w hSw => ?_) (by assumption) ?_
                        rotate_left
                        · ((try dsimp only at hSw); go_simp; try with_reducible rfl)
                        simp only [Act.put, List.setIfInBounds_toArray, List.set_cons_zero, List.set_cons_succ]
                        refine ho_val (v := ?_) 12 (some 71) rfl rfl (by kernel_rfl) (by kernel_rfl) (by kernel_rfl) (fun _ _ _ h => h) (by kernel_rfl) (fun w hSw => ?_) (by assumption) ?_
                        rotate_left
                        · ((try dsimp only at hSw); go_simp; try with_reducible rfl)
                        simp only [Act.put, List.setIfInBounds_toArray, List.set_cons_zero, List.set_cons_succ]
                        refine ho_val (v := ?_) 13 (some 72) rfl rfl (by kernel_rfl) (by kernel_rfl) (by kernel_rfl) (fun _ _ _ h => h) (by kernel_rfl) (fun w hSw => ?_) (by assumption) ?_
                        rotate_left
                        · ((try dsimp only at hSw); go_simp; try with_reducible rfl)
                        simp only [Act.put, List.setIfInBounds_toArray, List.set_cons_zero, List.set_cons_succ]
                        refine ho_val (v := ?_) 14 (some 73) rfl rfl (by kernel_rfl) (by kernel_rfl) (by kernel_rfl) (fun _ _ _ h => h) (by kernel_rfl) (fun w hSw => ?_) (by assumption) ?_
                        rotate_left
                        · ((try dsimp only at hSw); go_simp; try with_reducible rfl)
                        simp only [Act.put, List.setIfInBounds_toArray, List.set_cons_zero, List.set_cons_succ]
                        refine wpAnyH_done (by kernel_rfl) ?_ _
                        have hv1 := hHeld.1
                        clear hHeld
                        go_wp2_with fail
                        obtain ⟨W1, hW1⟩ : ∃ V, w3.drew = V := ⟨_, rfl⟩
                        rw [hW1] at hv1 ⊢
                        clear hW1
                        refine wp_region_held_drew (S := fun v => Below w.heap.size w v ∧ v.cell? ⟨g, o + j * 6 + 2, none⟩ = some (.int .i64 x.wear) ∧ v.cell? ⟨g, o + j * 6 + 3, none⟩ = some (.int .u64 x.age) ∧ v.cell? ⟨g, o + i * 6 + 2, none⟩ = some (.int .i64 y.wear) ∧ v.cell? ⟨g, o + i * 6 + 3, none⟩ = some (.int .u64 y.age)) (by kernel_rfl) (RD.out _ hv1.drew) (fun hHeld => ?_)
                        refine ho_val (v := ?_) 0 (some 86) rfl rfl (by kernel_rfl) (by kernel_rfl) (by kernel_rfl) (fun _ _ _ h => h) (by kernel_rfl) (fun w hSw => ?_) (by assumption) ?_
                        rotate_left
                        · ((try dsimp only at hSw); go_simp; try with_reducible rfl)
                        simp only [Act.put, List.setIfInBounds_toArray, List.set_cons_zero, List.set_cons_succ]
                        refine ho_val (v := ?_) 1 (some 87) rfl rfl (by kernel_rfl) (by kernel_rfl) (by kernel_rfl) (fun _ _ _ h => h) (by kernel_rfl) (fun w hSw => ?_) (by assumption) ?_
                        rotate_left
                        · ((try dsimp only at hSw); go_simp; try with_reducible rfl)
                        simp only [Act.put, List.setIfInBounds_toArray, List.set_cons_zero, List.set_cons_succ]
                        refine ho_val (v := ?_) 2 (some 88) rfl rfl (by kernel_rfl) (by kernel_rfl) (by kernel_rfl) (fun _ _ _ h => h) (by kernel_rfl) (fun w hSw => ?_) (by assumption) ?_
                        rotate_left
                        · ((try dsimp only at hSw); go_simp; try with_reducible rfl)
                        simp only [Act.put, List.setIfInBounds_toArray, List.set_cons_zero, List.set_cons_succ]
                        refine ho_val (v := ?_) 3 (some 89) rfl rfl (by kernel_rfl) (by kernel_rfl) (by kernel_rfl) (fun _ _ _ h => h) (by kernel_rfl) (fun w hSw => ?_) (by assumption) ?_
                        rotate_left
                        · ((try dsimp only at hSw); go_simp; try with_reducible rfl)
                        simp only [Act.put, List.setIfInBounds_toArray, List.set_cons_zero, List.set_cons_succ]
                        refine ho_val (v := ?_) 4 (some 90) rfl rfl (by kernel_rfl) (by kernel_rfl) (by kernel_rfl) (fun _ _ _ h => h) (by kernel_rfl) (fun w hSw => ?_) (by assumption) ?_
                        rotate_left
                        · ((try dsimp only at hSw); go_simp; try with_reducible rfl)
                        simp only [Act.put, List.setIfInBounds_toArray, List.set_cons_zero, List.set_cons_succ]
                        refine ho_val (v := ?_) 5 (some 91) rfl rfl (by kernel_rfl) (by kernel_rfl) (by kernel_rfl) (fun _ _ _ h => h) (by kernel_rfl) (fun w hSw => ?_) (by assumption) ?_
                        rotate_left
                        · ((try dsimp only at hSw); go_simp; try with_reducible rfl)
                        simp only [Act.put, List.setIfInBounds_toArray, List.set_cons_zero, List.set_cons_succ]
                        refine ho_val (v := ?_) 6 (some 92) rfl rfl (by kernel_rfl) (by kernel_rfl) (by kernel_rfl) (fun _ _ _ h => h) (by kernel_rfl) (fun w hSw => ?_) (by assumption) ?_
                        rotate_left
                        · ((try dsimp only at hSw); go_simp; try with_reducible rfl)
                        simp only [Act.put, List.setIfInBounds_toArray, List.set_cons_zero, List.set_cons_succ]
                        refine ho_val (v := ?_) 7 (some 93) rfl rfl (by kernel_rfl) (by kernel_rfl) (by kernel_rfl) (fun _ _ _ h => h) (by kernel_rfl) (fun w hSw => ?_) (by assumption) ?_
                        rotate_left
                        · ((try dsimp only at hSw); go_simp; try with_reducible rfl)
                        simp only [Act.put, List.setIfInBounds_toArray, List.set_cons_zero, List.set_cons_succ]
                        refine ho_val (v := ?_) 8 (some 94) rfl rfl (by kernel_rfl) (by kernel_rfl) (by kernel_rfl) (fun _ _ _ h => h) (by kernel_rfl) (fun w hSw => ?_) (by assumption) ?_
                        rotate_left
                        · ((try dsimp only at hSw); go_simp; try with_reducible rfl)
                        simp only [Act.put, List.setIfInBounds_toArray, List.set_cons_zero, List.set_cons_succ]
                        refine ho_val (v := ?_) 9 (some 95) rfl rfl (by kernel_rfl) (by kernel_rfl) (by kernel_rfl) (fun _ _ _ h => h) (by kernel_rfl) (fun w hSw => ?_) (by assumption) ?_
                        rotate_left
                        · ((try dsimp only at hSw); go_simp; try with_reducible rfl)
                        simp only [Act.put, List.setIfInBounds_toArray, List.set_cons_zero, List.set_cons_succ]
                        refine ho_val (v := ?_) 10 (some 96) rfl rfl (by kernel_rfl) (by kernel_rfl) (by kernel_rfl) (fun _ _ _ h => h) (by kernel_rfl) (fun w hSw => ?_) (by assumption) ?_
                        rotate_left
                        · ((try dsimp only at hSw); go_simp; try with_reducible rfl)
                        simp only [Act.put, List.setIfInBounds_toArray, List.set_cons_zero, List.set_cons_succ]
                        refine wpAnyH_done (by kernel_rfl) ?_ _
                        have HZ := Lib.hid hHeld.1
                        clear hHeld RD
                        go_wp2_with fail
                        go_roundw
                        case rel => exact ⟨j + 1, by omega, by go_num, by rw [HB'.out, HN2.out]; rfl, HZ.out⟩
                        case measure => simp [intOf]; omega
                      · have dn : (x.wear != y.wear) = false := by simp [hw]
                        have da : decide (x.age < y.age) = false := decide_eq_false ha
                        have HN2 : Hid (B' = some (i, y)) := Lib.hid (by rw [HN.out, hb, if_neg (by simp [takes, hp, hlt3, both, older, hw, ha])])
                        clear hp hb hjL hy hlt3 ha hw
                        go_wp2_with (first
                          | ((with_reducible refine pick (some 51) ?_); refine wpList_load_mid rfl 29 _ rfl g (o + j * 6) rfl [.int .i64 x.cls, .bool x.opn, .int .i64 x.wear, .int .u64 x.age, .int .i64 x.need, .bool x.held] _ HC.out Try.underlying29 rfl info_inf6 ?_)
                          | (go_at_call 32; refine (pass_is (n := m) HP.out _ hm3 (by omega) (by omega) (by omega) (by omega)).mono ?_; rintro e w3 ⟨rfl, hb3⟩; have hn3 := keeps HBL.out hb3; have HB3 := Lib.hid hn3; clear hb3 hn3))
                        have RD : Hid (∀ v, Below w.heap.size w v → Below w.heap.size w v ∧ v.cell? ⟨g, o + j * 6 + 2, none⟩ = some (.int .i64 x.wear) ∧ v.cell? ⟨g, o + j * 6 + 3, none⟩ = some (.int .u64 x.age) ∧ v.cell? ⟨g, o + i * 6 + 2, none⟩ = some (.int .i64 y.wear) ∧ v.cell? ⟨g, o + i * 6 + 3, none⟩ = some (.int .u64 y.age)) := Lib.hid fun v hv => (by
                          obtain ⟨s0, s1, s2, s3, s4, s5⟩ := inf_cells ((HL.out.below hv).at_ j x HX.out).2
                          obtain ⟨z0, z1, z2, z3, z4, z5⟩ := inf_cells ((HL.out.below hv).at_ i y HY.out).2
                          exact ⟨hv, s2, s3, z2, z3⟩)
                        refine wp_region_held_drew (S := fun v => Below w.heap.size w v ∧ v.cell? ⟨g, o + j * 6 + 2, none⟩ = some (.int .i64 x.wear) ∧ v.cell? ⟨g, o + j * 6 + 3, none⟩ = some (.int .u64 x.age) ∧ v.cell? ⟨g, o + i * 6 + 2, none⟩ = some (.int .i64 y.wear) ∧ v.cell? ⟨g, o + i * 6 + 3, none⟩ = some (.int .u64 y.age)) (by kernel_rfl) (RD.out _ HB3.out.drew) (fun hHeld => ?_)
                        refine ho_val (v := ?_) 0 (some 59) rfl rfl (by kernel_rfl) (by kernel_rfl) (by kernel_rfl) (fun _ _ _ h => h) (by kernel_rfl) (fun w hSw => ?_) (by assumption) ?_
                        rotate_left
                        · ((try dsimp only at hSw); go_simp; try with_reducible rfl)
                        simp only [Act.put, List.setIfInBounds_toArray, List.set_cons_zero, List.set_cons_succ]
                        refine ho_val (v := ?_) 1 (some 60) rfl rfl (by kernel_rfl) (by kernel_rfl) (by kernel_rfl) (fun _ _ _ h => h) (by kernel_rfl) (fun w hSw => ?_) (by assumption) ?_
                        rotate_left
                        · ((try dsimp only at hSw); go_simp; try with_reducible rfl)
                        simp only [Act.put, List.setIfInBounds_toArray, List.set_cons_zero, List.set_cons_succ]
                        refine ho_val (v := ?_) 2 (some 61) rfl rfl (by kernel_rfl) (by kernel_rfl) (by kernel_rfl) (fun _ _ _ h => h) (by kernel_rfl) (fun w hSw => ?_) (by assumption) ?_
                        rotate_left
                        · ((try dsimp only at hSw); go_simp; try with_reducible rfl)
                        simp only [Act.put, List.setIfInBounds_toArray, List.set_cons_zero, List.set_cons_succ]
                        refine ho_val (v := ?_) 3 (some 62) rfl rfl (by kernel_rfl) (by kernel_rfl) (by kernel_rfl) (fun _ _ _ h => h) (by kernel_rfl) (fun w hSw => ?_) (by assumption) ?_
                        rotate_left
                        · ((try dsimp only at hSw); go_simp; try with_reducible rfl)
                        simp only [Act.put, List.setIfInBounds_toArray, List.set_cons_zero, List.set_cons_succ]
                        refine ho_val (v := ?_) 4 (some 63) rfl rfl (by kernel_rfl) (by kernel_rfl) (by kernel_rfl) (fun _ _ _ h => h) (by kernel_rfl) (fun w hSw => ?_) (by assumption) ?_
                        rotate_left
                        · ((try dsimp only at hSw); go_simp; try with_reducible rfl)
                        simp only [Act.put, List.setIfInBounds_toArray, List.set_cons_zero, List.set_cons_succ]
                        refine ho_val (v := ?_) 5 (some 64) rfl rfl (by kernel_rfl) (by kernel_rfl) (by kernel_rfl) (fun _ _ _ h => h) (by kernel_rfl) (fun w hSw => ?_) (by assumption) ?_
                        rotate_left
                        · ((try dsimp only at hSw); go_simp; try with_reducible rfl)
                        simp only [Act.put, List.setIfInBounds_toArray, List.set_cons_zero, List.set_cons_succ]
                        refine ho_val (v := ?_) 6 (some 65) rfl rfl (by kernel_rfl) (by kernel_rfl) (by kernel_rfl) (fun _ _ _ h => h) (by kernel_rfl) (fun w hSw => ?_) (by assumption) ?_
                        rotate_left
                        · ((try dsimp only at hSw); go_simp; try with_reducible rfl)
                        simp only [Act.put, List.setIfInBounds_toArray, List.set_cons_zero, List.set_cons_succ]
                        refine ho_val (v := ?_) 7 (some 66) rfl rfl (by kernel_rfl) (by kernel_rfl) (by kernel_rfl) (fun _ _ _ h => h) (by kernel_rfl) (fun w hSw => ?_) (by assumption) ?_
                        rotate_left
                        · ((try dsimp only at hSw); go_simp; try with_reducible rfl)
                        simp only [Act.put, List.setIfInBounds_toArray, List.set_cons_zero, List.set_cons_succ]
                        refine ho_val (v := ?_) 8 (some 67) rfl rfl (by kernel_rfl) (by kernel_rfl) (by kernel_rfl) (fun _ _ _ h => h) (by kernel_rfl) (fun w hSw => ?_) (by assumption) ?_
                        rotate_left
                        · ((try dsimp only at hSw); go_simp; try with_reducible rfl)
                        simp only [Act.put, List.setIfInBounds_toArray, List.set_cons_zero, List.set_cons_succ]
                        refine ho_val (v := ?_) 9 (some 68) rfl rfl (by kernel_rfl) (by kernel_rfl) (by kernel_rfl) (fun _ _ _ h => h) (by kernel_rfl) (fun w hSw => ?_) (by assumption) ?_
                        rotate_left
                        · ((try dsimp only at hSw); go_simp; try with_reducible rfl)
                        simp only [Act.put, List.setIfInBounds_toArray, List.set_cons_zero, List.set_cons_succ]
                        refine ho_val (v := ?_) 10 (some 69) rfl rfl (by kernel_rfl) (by kernel_rfl) (by kernel_rfl) (fun _ _ _ h => h) (by kernel_rfl) (fun w hSw => ?_) (by assumption) ?_
                        rotate_left
                        · ((try dsimp only at hSw); go_simp; try with_reducible rfl)
                        simp only [Act.put, List.setIfInBounds_toArray, List.set_cons_zero, List.set_cons_succ]
                        refine ho_val (v := ?_) 11 (some 70) rfl rfl (by kernel_rfl) (by kernel_rfl) (by kernel_rfl) (fun _ _ _ h => h) (by kernel_rfl) (fun w hSw => ?_) (by assumption) ?_
                        rotate_left
                        · ((try dsimp only at hSw); go_simp; try with_reducible rfl)
                        simp only [Act.put, List.setIfInBounds_toArray, List.set_cons_zero, List.set_cons_succ]
                        refine ho_val (v := ?_) 12 (some 71) rfl rfl (by kernel_rfl) (by kernel_rfl) (by kernel_rfl) (fun _ _ _ h => h) (by kernel_rfl) (fun w hSw => ?_) (by assumption) ?_
                        rotate_left
                        · ((try dsimp only at hSw); go_simp; try with_reducible rfl)
                        simp only [Act.put, List.setIfInBounds_toArray, List.set_cons_zero, List.set_cons_succ]
                        refine ho_val (v := ?_) 13 (some 72) rfl rfl (by kernel_rfl) (by kernel_rfl) (by kernel_rfl) (fun _ _ _ h => h) (by kernel_rfl) (fun w hSw => ?_) (by assumption) ?_
                        rotate_left
                        · ((try dsimp only at hSw); go_simp; try with_reducible rfl)
                        simp only [Act.put, List.setIfInBounds_toArray, List.set_cons_zero, List.set_cons_succ]
                        refine ho_val (v := ?_) 14 (some 73) rfl rfl (by kernel_rfl) (by kernel_rfl) (by kernel_rfl) (fun _ _ _ h => h) (by kernel_rfl) (fun w hSw => ?_) (by assumption) ?_
                        rotate_left
                        · ((try dsimp only at hSw); go_simp; try with_reducible rfl)
                        simp only [Act.put, List.setIfInBounds_toArray, List.set_cons_zero, List.set_cons_succ]
                        refine wpAnyH_done (by kernel_rfl) ?_ _
                        have hv1 := hHeld.1
                        clear hHeld
                        go_wp2_with fail
                        obtain ⟨W1, hW1⟩ : ∃ V, w3.drew = V := ⟨_, rfl⟩
                        rw [hW1] at hv1 ⊢
                        clear hW1
                        refine wp_region_held_drew (S := fun v => Below w.heap.size w v ∧ v.cell? ⟨g, o + j * 6 + 2, none⟩ = some (.int .i64 x.wear) ∧ v.cell? ⟨g, o + j * 6 + 3, none⟩ = some (.int .u64 x.age) ∧ v.cell? ⟨g, o + i * 6 + 2, none⟩ = some (.int .i64 y.wear) ∧ v.cell? ⟨g, o + i * 6 + 3, none⟩ = some (.int .u64 y.age)) (by kernel_rfl) (RD.out _ hv1.drew) (fun hHeld => ?_)
                        refine ho_val (v := ?_) 0 (some 86) rfl rfl (by kernel_rfl) (by kernel_rfl) (by kernel_rfl) (fun _ _ _ h => h) (by kernel_rfl) (fun w hSw => ?_) (by assumption) ?_
                        rotate_left
                        · ((try dsimp only at hSw); go_simp; try with_reducible rfl)
                        simp only [Act.put, List.setIfInBounds_toArray, List.set_cons_zero, List.set_cons_succ]
                        refine ho_val (v := ?_) 1 (some 87) rfl rfl (by kernel_rfl) (by kernel_rfl) (by kernel_rfl) (fun _ _ _ h => h) (by kernel_rfl) (fun w hSw => ?_) (by assumption) ?_
                        rotate_left
                        · ((try dsimp only at hSw); go_simp; try with_reducible rfl)
                        simp only [Act.put, List.setIfInBounds_toArray, List.set_cons_zero, List.set_cons_succ]
                        refine ho_val (v := ?_) 2 (some 88) rfl rfl (by kernel_rfl) (by kernel_rfl) (by kernel_rfl) (fun _ _ _ h => h) (by kernel_rfl) (fun w hSw => ?_) (by assumption) ?_
                        rotate_left
                        · ((try dsimp only at hSw); go_simp; try with_reducible rfl)
                        simp only [Act.put, List.setIfInBounds_toArray, List.set_cons_zero, List.set_cons_succ]
                        refine ho_val (v := ?_) 3 (some 89) rfl rfl (by kernel_rfl) (by kernel_rfl) (by kernel_rfl) (fun _ _ _ h => h) (by kernel_rfl) (fun w hSw => ?_) (by assumption) ?_
                        rotate_left
                        · ((try dsimp only at hSw); go_simp; try with_reducible rfl)
                        simp only [Act.put, List.setIfInBounds_toArray, List.set_cons_zero, List.set_cons_succ]
                        refine ho_val (v := ?_) 4 (some 90) rfl rfl (by kernel_rfl) (by kernel_rfl) (by kernel_rfl) (fun _ _ _ h => h) (by kernel_rfl) (fun w hSw => ?_) (by assumption) ?_
                        rotate_left
                        · ((try dsimp only at hSw); go_simp; try with_reducible rfl)
                        simp only [Act.put, List.setIfInBounds_toArray, List.set_cons_zero, List.set_cons_succ]
                        refine ho_val (v := ?_) 5 (some 91) rfl rfl (by kernel_rfl) (by kernel_rfl) (by kernel_rfl) (fun _ _ _ h => h) (by kernel_rfl) (fun w hSw => ?_) (by assumption) ?_
                        rotate_left
                        · ((try dsimp only at hSw); go_simp; try with_reducible rfl)
                        simp only [Act.put, List.setIfInBounds_toArray, List.set_cons_zero, List.set_cons_succ]
                        refine ho_val (v := ?_) 6 (some 92) rfl rfl (by kernel_rfl) (by kernel_rfl) (by kernel_rfl) (fun _ _ _ h => h) (by kernel_rfl) (fun w hSw => ?_) (by assumption) ?_
                        rotate_left
                        · ((try dsimp only at hSw); go_simp; try with_reducible rfl)
                        simp only [Act.put, List.setIfInBounds_toArray, List.set_cons_zero, List.set_cons_succ]
                        refine ho_val (v := ?_) 7 (some 93) rfl rfl (by kernel_rfl) (by kernel_rfl) (by kernel_rfl) (fun _ _ _ h => h) (by kernel_rfl) (fun w hSw => ?_) (by assumption) ?_
                        rotate_left
                        · ((try dsimp only at hSw); go_simp; try with_reducible rfl)
                        simp only [Act.put, List.setIfInBounds_toArray, List.set_cons_zero, List.set_cons_succ]
                        refine ho_val (v := ?_) 8 (some 94) rfl rfl (by kernel_rfl) (by kernel_rfl) (by kernel_rfl) (fun _ _ _ h => h) (by kernel_rfl) (fun w hSw => ?_) (by assumption) ?_
                        rotate_left
                        · ((try dsimp only at hSw); go_simp; try with_reducible rfl)
                        simp only [Act.put, List.setIfInBounds_toArray, List.set_cons_zero, List.set_cons_succ]
                        refine ho_val (v := ?_) 9 (some 95) rfl rfl (by kernel_rfl) (by kernel_rfl) (by kernel_rfl) (fun _ _ _ h => h) (by kernel_rfl) (fun w hSw => ?_) (by assumption) ?_
                        rotate_left
                        · ((try dsimp only at hSw); go_simp; try with_reducible rfl)
                        simp only [Act.put, List.setIfInBounds_toArray, List.set_cons_zero, List.set_cons_succ]
                        refine ho_val (v := ?_) 10 (some 96) rfl rfl (by kernel_rfl) (by kernel_rfl) (by kernel_rfl) (fun _ _ _ h => h) (by kernel_rfl) (fun w hSw => ?_) (by assumption) ?_
                        rotate_left
                        · ((try dsimp only at hSw); go_simp; try with_reducible rfl)
                        simp only [Act.put, List.setIfInBounds_toArray, List.set_cons_zero, List.set_cons_succ]
                        refine wpAnyH_done (by kernel_rfl) ?_ _
                        have HZ := Lib.hid hHeld.1
                        clear hHeld RD
                        go_wp2_with fail
                        go_roundw
                        case rel => exact ⟨j + 1, by omega, by go_num, by rw [HB'.out, HN2.out]; rfl, HZ.out⟩
                        case measure => simp [intOf]; omega
                    · by_cases ha : x.wear < y.wear
                      · have dn : (x.wear != y.wear) = true := by simp [hw]
                        have da : decide (x.wear < y.wear) = true := decide_eq_true ha
                        have HN2 : Hid (B' = some (j, x)) := Lib.hid (by rw [HN.out, hb, if_pos (by simp [takes, hp, hlt3, both, worn, hw, ha])])
                        clear hp hb hjL hy hlt3 ha hw
                        go_wp2_with (first
                          | ((with_reducible refine pick (some 51) ?_); refine wpList_load_mid rfl 29 _ rfl g (o + j * 6) rfl [.int .i64 x.cls, .bool x.opn, .int .i64 x.wear, .int .u64 x.age, .int .i64 x.need, .bool x.held] _ HC.out Try.underlying29 rfl info_inf6 ?_)
                          | (go_at_call 32; refine (pass_is (n := m) HP.out _ hm3 (by omega) (by omega) (by omega) (by omega)).mono ?_; rintro e w3 ⟨rfl, hb3⟩; have hn3 := keeps HBL.out hb3; have HB3 := Lib.hid hn3; clear hb3 hn3))
                        have RD : Hid (∀ v, Below w.heap.size w v → Below w.heap.size w v ∧ v.cell? ⟨g, o + j * 6 + 2, none⟩ = some (.int .i64 x.wear) ∧ v.cell? ⟨g, o + j * 6 + 3, none⟩ = some (.int .u64 x.age) ∧ v.cell? ⟨g, o + i * 6 + 2, none⟩ = some (.int .i64 y.wear) ∧ v.cell? ⟨g, o + i * 6 + 3, none⟩ = some (.int .u64 y.age)) := Lib.hid fun v hv => (by
                          obtain ⟨s0, s1, s2, s3, s4, s5⟩ := inf_cells ((HL.out.below hv).at_ j x HX.out).2
                          obtain ⟨z0, z1, z2, z3, z4, z5⟩ := inf_cells ((HL.out.below hv).at_ i y HY.out).2
                          exact ⟨hv, s2, s3, z2, z3⟩)
                        refine wp_region_held_drew (S := fun v => Below w.heap.size w v ∧ v.cell? ⟨g, o + j * 6 + 2, none⟩ = some (.int .i64 x.wear) ∧ v.cell? ⟨g, o + j * 6 + 3, none⟩ = some (.int .u64 x.age) ∧ v.cell? ⟨g, o + i * 6 + 2, none⟩ = some (.int .i64 y.wear) ∧ v.cell? ⟨g, o + i * 6 + 3, none⟩ = some (.int .u64 y.age)) (by kernel_rfl) (RD.out _ HB3.out.drew) (fun hHeld => ?_)
                        refine ho_val (v := ?_) 0 (some 59) rfl rfl (by kernel_rfl) (by kernel_rfl) (by kernel_rfl) (fun _ _ _ h => h) (by kernel_rfl) (fun w hSw => ?_) (by assumption) ?_
                        rotate_left
                        · ((try dsimp only at hSw); go_simp; try with_reducible rfl)
                        simp only [Act.put, List.setIfInBounds_toArray, List.set_cons_zero, List.set_cons_succ]
                        refine ho_val (v := ?_) 1 (some 60) rfl rfl (by kernel_rfl) (by kernel_rfl) (by kernel_rfl) (fun _ _ _ h => h) (by kernel_rfl) (fun w hSw => ?_) (by assumption) ?_
                        rotate_left
                        · ((try dsimp only at hSw); go_simp; try with_reducible rfl)
                        simp only [Act.put, List.setIfInBounds_toArray, List.set_cons_zero, List.set_cons_succ]
                        refine ho_val (v := ?_) 2 (some 61) rfl rfl (by kernel_rfl) (by kernel_rfl) (by kernel_rfl) (fun _ _ _ h => h) (by kernel_rfl) (fun w hSw => ?_) (by assumption) ?_
                        rotate_left
                        · ((try dsimp only at hSw); go_simp; try with_reducible rfl)
                        simp only [Act.put, List.setIfInBounds_toArray, List.set_cons_zero, List.set_cons_succ]
                        refine ho_val (v := ?_) 3 (some 62) rfl rfl (by kernel_rfl) (by kernel_rfl) (by kernel_rfl) (fun _ _ _ h => h) (by kernel_rfl) (fun w hSw => ?_) (by assumption) ?_
                        rotate_left
                        · ((try dsimp only at hSw); go_simp; try with_reducible rfl)
                        simp only [Act.put, List.setIfInBounds_toArray, List.set_cons_zero, List.set_cons_succ]
                        refine ho_val (v := ?_) 4 (some 63) rfl rfl (by kernel_rfl) (by kernel_rfl) (by kernel_rfl) (fun _ _ _ h => h) (by kernel_rfl) (fun w hSw => ?_) (by assumption) ?_
                        rotate_left
                        · ((try dsimp only at hSw); go_simp; try with_reducible rfl)
                        simp only [Act.put, List.setIfInBounds_toArray, List.set_cons_zero, List.set_cons_succ]
                        refine ho_val (v := ?_) 5 (some 64) rfl rfl (by kernel_rfl) (by kernel_rfl) (by kernel_rfl) (fun _ _ _ h => h) (by kernel_rfl) (fun w hSw => ?_) (by assumption) ?_
                        rotate_left
                        · ((try dsimp only at hSw); go_simp; try with_reducible rfl)
                        simp only [Act.put, List.setIfInBounds_toArray, List.set_cons_zero, List.set_cons_succ]
                        refine ho_val (v := ?_) 6 (some 65) rfl rfl (by kernel_rfl) (by kernel_rfl) (by kernel_rfl) (fun _ _ _ h => h) (by kernel_rfl) (fun w hSw => ?_) (by assumption) ?_
                        rotate_left
                        · ((try dsimp only at hSw); go_simp; try with_reducible rfl)
                        simp only [Act.put, List.setIfInBounds_toArray, List.set_cons_zero, List.set_cons_succ]
                        refine ho_val (v := ?_) 7 (some 66) rfl rfl (by kernel_rfl) (by kernel_rfl) (by kernel_rfl) (fun _ _ _ h => h) (by kernel_rfl) (fun w hSw => ?_) (by assumption) ?_
                        rotate_left
                        · ((try dsimp only at hSw); go_simp; try with_reducible rfl)
                        simp only [Act.put, List.setIfInBounds_toArray, List.set_cons_zero, List.set_cons_succ]
                        refine ho_val (v := ?_) 8 (some 67) rfl rfl (by kernel_rfl) (by kernel_rfl) (by kernel_rfl) (fun _ _ _ h => h) (by kernel_rfl) (fun w hSw => ?_) (by assumption) ?_
                        rotate_left
                        · ((try dsimp only at hSw); go_simp; try with_reducible rfl)
                        simp only [Act.put, List.setIfInBounds_toArray, List.set_cons_zero, List.set_cons_succ]
                        refine ho_val (v := ?_) 9 (some 68) rfl rfl (by kernel_rfl) (by kernel_rfl) (by kernel_rfl) (fun _ _ _ h => h) (by kernel_rfl) (fun w hSw => ?_) (by assumption) ?_
                        rotate_left
                        · ((try dsimp only at hSw); go_simp; try with_reducible rfl)
                        simp only [Act.put, List.setIfInBounds_toArray, List.set_cons_zero, List.set_cons_succ]
                        refine ho_val (v := ?_) 10 (some 69) rfl rfl (by kernel_rfl) (by kernel_rfl) (by kernel_rfl) (fun _ _ _ h => h) (by kernel_rfl) (fun w hSw => ?_) (by assumption) ?_
                        rotate_left
                        · ((try dsimp only at hSw); go_simp; try with_reducible rfl)
                        simp only [Act.put, List.setIfInBounds_toArray, List.set_cons_zero, List.set_cons_succ]
                        refine ho_val (v := ?_) 11 (some 70) rfl rfl (by kernel_rfl) (by kernel_rfl) (by kernel_rfl) (fun _ _ _ h => h) (by kernel_rfl) (fun w hSw => ?_) (by assumption) ?_
                        rotate_left
                        · ((try dsimp only at hSw); go_simp; try with_reducible rfl)
                        simp only [Act.put, List.setIfInBounds_toArray, List.set_cons_zero, List.set_cons_succ]
                        refine ho_val (v := ?_) 12 (some 71) rfl rfl (by kernel_rfl) (by kernel_rfl) (by kernel_rfl) (fun _ _ _ h => h) (by kernel_rfl) (fun w hSw => ?_) (by assumption) ?_
                        rotate_left
                        · ((try dsimp only at hSw); go_simp; try with_reducible rfl)
                        simp only [Act.put, List.setIfInBounds_toArray, List.set_cons_zero, List.set_cons_succ]
                        refine ho_val (v := ?_) 13 (some 72) rfl rfl (by kernel_rfl) (by kernel_rfl) (by kernel_rfl) (fun _ _ _ h => h) (by kernel_rfl) (fun w hSw => ?_) (by assumption) ?_
                        rotate_left
                        · ((try dsimp only at hSw); go_simp; try with_reducible rfl)
                        simp only [Act.put, List.setIfInBounds_toArray, List.set_cons_zero, List.set_cons_succ]
                        refine ho_val (v := ?_) 14 (some 73) rfl rfl (by kernel_rfl) (by kernel_rfl) (by kernel_rfl) (fun _ _ _ h => h) (by kernel_rfl) (fun w hSw => ?_) (by assumption) ?_
                        rotate_left
                        · ((try dsimp only at hSw); go_simp; try with_reducible rfl)
                        simp only [Act.put, List.setIfInBounds_toArray, List.set_cons_zero, List.set_cons_succ]
                        refine wpAnyH_done (by kernel_rfl) ?_ _
                        have hv1 := hHeld.1
                        clear hHeld
                        go_wp2_with fail
                        obtain ⟨W1, hW1⟩ : ∃ V, w3.drew = V := ⟨_, rfl⟩
                        rw [hW1] at hv1 ⊢
                        clear hW1
                        refine wp_region_held_drew (S := fun v => Below w.heap.size w v ∧ v.cell? ⟨g, o + j * 6 + 2, none⟩ = some (.int .i64 x.wear) ∧ v.cell? ⟨g, o + j * 6 + 3, none⟩ = some (.int .u64 x.age) ∧ v.cell? ⟨g, o + i * 6 + 2, none⟩ = some (.int .i64 y.wear) ∧ v.cell? ⟨g, o + i * 6 + 3, none⟩ = some (.int .u64 y.age)) (by kernel_rfl) (RD.out _ hv1.drew) (fun hHeld => ?_)
                        refine ho_val (v := ?_) 0 (some 74) rfl rfl (by kernel_rfl) (by kernel_rfl) (by kernel_rfl) (fun _ _ _ h => h) (by kernel_rfl) (fun w hSw => ?_) (by assumption) ?_
                        rotate_left
                        · ((try dsimp only at hSw); go_simp; try with_reducible rfl)
                        simp only [Act.put, List.setIfInBounds_toArray, List.set_cons_zero, List.set_cons_succ]
                        refine ho_val (v := ?_) 1 (some 75) rfl rfl (by kernel_rfl) (by kernel_rfl) (by kernel_rfl) (fun _ _ _ h => h) (by kernel_rfl) (fun w hSw => ?_) (by assumption) ?_
                        rotate_left
                        · ((try dsimp only at hSw); go_simp; try with_reducible rfl)
                        simp only [Act.put, List.setIfInBounds_toArray, List.set_cons_zero, List.set_cons_succ]
                        refine ho_val (v := ?_) 2 (some 76) rfl rfl (by kernel_rfl) (by kernel_rfl) (by kernel_rfl) (fun _ _ _ h => h) (by kernel_rfl) (fun w hSw => ?_) (by assumption) ?_
                        rotate_left
                        · ((try dsimp only at hSw); go_simp; try with_reducible rfl)
                        simp only [Act.put, List.setIfInBounds_toArray, List.set_cons_zero, List.set_cons_succ]
                        refine ho_val (v := ?_) 3 (some 77) rfl rfl (by kernel_rfl) (by kernel_rfl) (by kernel_rfl) (fun _ _ _ h => h) (by kernel_rfl) (fun w hSw => ?_) (by assumption) ?_
                        rotate_left
                        · ((try dsimp only at hSw); go_simp; try with_reducible rfl)
                        simp only [Act.put, List.setIfInBounds_toArray, List.set_cons_zero, List.set_cons_succ]
                        refine ho_val (v := ?_) 4 (some 78) rfl rfl (by kernel_rfl) (by kernel_rfl) (by kernel_rfl) (fun _ _ _ h => h) (by kernel_rfl) (fun w hSw => ?_) (by assumption) ?_
                        rotate_left
                        · ((try dsimp only at hSw); go_simp; try with_reducible rfl)
                        simp only [Act.put, List.setIfInBounds_toArray, List.set_cons_zero, List.set_cons_succ]
                        refine ho_val (v := ?_) 5 (some 79) rfl rfl (by kernel_rfl) (by kernel_rfl) (by kernel_rfl) (fun _ _ _ h => h) (by kernel_rfl) (fun w hSw => ?_) (by assumption) ?_
                        rotate_left
                        · ((try dsimp only at hSw); go_simp; try with_reducible rfl)
                        simp only [Act.put, List.setIfInBounds_toArray, List.set_cons_zero, List.set_cons_succ]
                        refine ho_val (v := ?_) 6 (some 80) rfl rfl (by kernel_rfl) (by kernel_rfl) (by kernel_rfl) (fun _ _ _ h => h) (by kernel_rfl) (fun w hSw => ?_) (by assumption) ?_
                        rotate_left
                        · ((try dsimp only at hSw); go_simp; try with_reducible rfl)
                        simp only [Act.put, List.setIfInBounds_toArray, List.set_cons_zero, List.set_cons_succ]
                        refine ho_val (v := ?_) 7 (some 81) rfl rfl (by kernel_rfl) (by kernel_rfl) (by kernel_rfl) (fun _ _ _ h => h) (by kernel_rfl) (fun w hSw => ?_) (by assumption) ?_
                        rotate_left
                        · ((try dsimp only at hSw); go_simp; try with_reducible rfl)
                        simp only [Act.put, List.setIfInBounds_toArray, List.set_cons_zero, List.set_cons_succ]
                        refine ho_val (v := ?_) 8 (some 82) rfl rfl (by kernel_rfl) (by kernel_rfl) (by kernel_rfl) (fun _ _ _ h => h) (by kernel_rfl) (fun w hSw => ?_) (by assumption) ?_
                        rotate_left
                        · ((try dsimp only at hSw); go_simp; try with_reducible rfl)
                        simp only [Act.put, List.setIfInBounds_toArray, List.set_cons_zero, List.set_cons_succ]
                        refine ho_val (v := ?_) 9 (some 83) rfl rfl (by kernel_rfl) (by kernel_rfl) (by kernel_rfl) (fun _ _ _ h => h) (by kernel_rfl) (fun w hSw => ?_) (by assumption) ?_
                        rotate_left
                        · ((try dsimp only at hSw); go_simp; try with_reducible rfl)
                        simp only [Act.put, List.setIfInBounds_toArray, List.set_cons_zero, List.set_cons_succ]
                        refine ho_val (v := ?_) 10 (some 84) rfl rfl (by kernel_rfl) (by kernel_rfl) (by kernel_rfl) (fun _ _ _ h => h) (by kernel_rfl) (fun w hSw => ?_) (by assumption) ?_
                        rotate_left
                        · ((try dsimp only at hSw); go_simp; try with_reducible rfl)
                        simp only [Act.put, List.setIfInBounds_toArray, List.set_cons_zero, List.set_cons_succ]
                        refine wpAnyH_done (by kernel_rfl) ?_ _
                        have HZ := Lib.hid hHeld.1
                        clear hHeld RD
                        go_wp2_with fail
                        go_roundw
                        case rel => exact ⟨j + 1, by omega, by go_num, by rw [HB'.out, HN2.out]; rfl, HZ.out⟩
                        case measure => simp [intOf]; omega
                      · have dn : (x.wear != y.wear) = true := by simp [hw]
                        have da : decide (x.wear < y.wear) = false := decide_eq_false ha
                        have HN2 : Hid (B' = some (i, y)) := Lib.hid (by rw [HN.out, hb, if_neg (by simp [takes, hp, hlt3, both, worn, hw, ha])])
                        clear hp hb hjL hy hlt3 ha hw
                        go_wp2_with (first
                          | ((with_reducible refine pick (some 51) ?_); refine wpList_load_mid rfl 29 _ rfl g (o + j * 6) rfl [.int .i64 x.cls, .bool x.opn, .int .i64 x.wear, .int .u64 x.age, .int .i64 x.need, .bool x.held] _ HC.out Try.underlying29 rfl info_inf6 ?_)
                          | (go_at_call 32; refine (pass_is (n := m) HP.out _ hm3 (by omega) (by omega) (by omega) (by omega)).mono ?_; rintro e w3 ⟨rfl, hb3⟩; have hn3 := keeps HBL.out hb3; have HB3 := Lib.hid hn3; clear hb3 hn3))
                        have RD : Hid (∀ v, Below w.heap.size w v → Below w.heap.size w v ∧ v.cell? ⟨g, o + j * 6 + 2, none⟩ = some (.int .i64 x.wear) ∧ v.cell? ⟨g, o + j * 6 + 3, none⟩ = some (.int .u64 x.age) ∧ v.cell? ⟨g, o + i * 6 + 2, none⟩ = some (.int .i64 y.wear) ∧ v.cell? ⟨g, o + i * 6 + 3, none⟩ = some (.int .u64 y.age)) := Lib.hid fun v hv => (by
                          obtain ⟨s0, s1, s2, s3, s4, s5⟩ := inf_cells ((HL.out.below hv).at_ j x HX.out).2
                          obtain ⟨z0, z1, z2, z3, z4, z5⟩ := inf_cells ((HL.out.below hv).at_ i y HY.out).2
                          exact ⟨hv, s2, s3, z2, z3⟩)
                        refine wp_region_held_drew (S := fun v => Below w.heap.size w v ∧ v.cell? ⟨g, o + j * 6 + 2, none⟩ = some (.int .i64 x.wear) ∧ v.cell? ⟨g, o + j * 6 + 3, none⟩ = some (.int .u64 x.age) ∧ v.cell? ⟨g, o + i * 6 + 2, none⟩ = some (.int .i64 y.wear) ∧ v.cell? ⟨g, o + i * 6 + 3, none⟩ = some (.int .u64 y.age)) (by kernel_rfl) (RD.out _ HB3.out.drew) (fun hHeld => ?_)
                        refine ho_val (v := ?_) 0 (some 59) rfl rfl (by kernel_rfl) (by kernel_rfl) (by kernel_rfl) (fun _ _ _ h => h) (by kernel_rfl) (fun w hSw => ?_) (by assumption) ?_
                        rotate_left
                        · ((try dsimp only at hSw); go_simp; try with_reducible rfl)
                        simp only [Act.put, List.setIfInBounds_toArray, List.set_cons_zero, List.set_cons_succ]
                        refine ho_val (v := ?_) 1 (some 60) rfl rfl (by kernel_rfl) (by kernel_rfl) (by kernel_rfl) (fun _ _ _ h => h) (by kernel_rfl) (fun w hSw => ?_) (by assumption) ?_
                        rotate_left
                        · ((try dsimp only at hSw); go_simp; try with_reducible rfl)
                        simp only [Act.put, List.setIfInBounds_toArray, List.set_cons_zero, List.set_cons_succ]
                        refine ho_val (v := ?_) 2 (some 61) rfl rfl (by kernel_rfl) (by kernel_rfl) (by kernel_rfl) (fun _ _ _ h => h) (by kernel_rfl) (fun w hSw => ?_) (by assumption) ?_
                        rotate_left
                        · ((try dsimp only at hSw); go_simp; try with_reducible rfl)
                        simp only [Act.put, List.setIfInBounds_toArray, List.set_cons_zero, List.set_cons_succ]
                        refine ho_val (v := ?_) 3 (some 62) rfl rfl (by kernel_rfl) (by kernel_rfl) (by kernel_rfl) (fun _ _ _ h => h) (by kernel_rfl) (fun w hSw => ?_) (by assumption) ?_
                        rotate_left
                        · ((try dsimp only at hSw); go_simp; try with_reducible rfl)
                        simp only [Act.put, List.setIfInBounds_toArray, List.set_cons_zero, List.set_cons_succ]
                        refine ho_val (v := ?_) 4 (some 63) rfl rfl (by kernel_rfl) (by kernel_rfl) (by kernel_rfl) (fun _ _ _ h => h) (by kernel_rfl) (fun w hSw => ?_) (by assumption) ?_
                        rotate_left
                        · ((try dsimp only at hSw); go_simp; try with_reducible rfl)
                        simp only [Act.put, List.setIfInBounds_toArray, List.set_cons_zero, List.set_cons_succ]
                        refine ho_val (v := ?_) 5 (some 64) rfl rfl (by kernel_rfl) (by kernel_rfl) (by kernel_rfl) (fun _ _ _ h => h) (by kernel_rfl) (fun w hSw => ?_) (by assumption) ?_
                        rotate_left
                        · ((try dsimp only at hSw); go_simp; try with_reducible rfl)
                        simp only [Act.put, List.setIfInBounds_toArray, List.set_cons_zero, List.set_cons_succ]
                        refine ho_val (v := ?_) 6 (some 65) rfl rfl (by kernel_rfl) (by kernel_rfl) (by kernel_rfl) (fun _ _ _ h => h) (by kernel_rfl) (fun w hSw => ?_) (by assumption) ?_
                        rotate_left
                        · ((try dsimp only at hSw); go_simp; try with_reducible rfl)
                        simp only [Act.put, List.setIfInBounds_toArray, List.set_cons_zero, List.set_cons_succ]
                        refine ho_val (v := ?_) 7 (some 66) rfl rfl (by kernel_rfl) (by kernel_rfl) (by kernel_rfl) (fun _ _ _ h => h) (by kernel_rfl) (fun w hSw => ?_) (by assumption) ?_
                        rotate_left
                        · ((try dsimp only at hSw); go_simp; try with_reducible rfl)
                        simp only [Act.put, List.setIfInBounds_toArray, List.set_cons_zero, List.set_cons_succ]
                        refine ho_val (v := ?_) 8 (some 67) rfl rfl (by kernel_rfl) (by kernel_rfl) (by kernel_rfl) (fun _ _ _ h => h) (by kernel_rfl) (fun w hSw => ?_) (by assumption) ?_
                        rotate_left
                        · ((try dsimp only at hSw); go_simp; try with_reducible rfl)
                        simp only [Act.put, List.setIfInBounds_toArray, List.set_cons_zero, List.set_cons_succ]
                        refine ho_val (v := ?_) 9 (some 68) rfl rfl (by kernel_rfl) (by kernel_rfl) (by kernel_rfl) (fun _ _ _ h => h) (by kernel_rfl) (fun w hSw => ?_) (by assumption) ?_
                        rotate_left
                        · ((try dsimp only at hSw); go_simp; try with_reducible rfl)
                        simp only [Act.put, List.setIfInBounds_toArray, List.set_cons_zero, List.set_cons_succ]
                        refine ho_val (v := ?_) 10 (some 69) rfl rfl (by kernel_rfl) (by kernel_rfl) (by kernel_rfl) (fun _ _ _ h => h) (by kernel_rfl) (fun w hSw => ?_) (by assumption) ?_
                        rotate_left
                        · ((try dsimp only at hSw); go_simp; try with_reducible rfl)
                        simp only [Act.put, List.setIfInBounds_toArray, List.set_cons_zero, List.set_cons_succ]
                        refine ho_val (v := ?_) 11 (some 70) rfl rfl (by kernel_rfl) (by kernel_rfl) (by kernel_rfl) (fun _ _ _ h => h) (by kernel_rfl) (fun w hSw => ?_) (by assumption) ?_
                        rotate_left
                        · ((try dsimp only at hSw); go_simp; try with_reducible rfl)
                        simp only [Act.put, List.setIfInBounds_toArray, List.set_cons_zero, List.set_cons_succ]
                        refine ho_val (v := ?_) 12 (some 71) rfl rfl (by kernel_rfl) (by kernel_rfl) (by kernel_rfl) (fun _ _ _ h => h) (by kernel_rfl) (fun w hSw => ?_) (by assumption) ?_
                        rotate_left
                        · ((try dsimp only at hSw); go_simp; try with_reducible rfl)
                        simp only [Act.put, List.setIfInBounds_toArray, List.set_cons_zero, List.set_cons_succ]
                        refine ho_val (v := ?_) 13 (some 72) rfl rfl (by kernel_rfl) (by kernel_rfl) (by kernel_rfl) (fun _ _ _ h => h) (by kernel_rfl) (fun w hSw => ?_) (by assumption) ?_
                        rotate_left
                        · ((try dsimp only at hSw); go_simp; try with_reducible rfl)
                        simp only [Act.put, List.setIfInBounds_toArray, List.set_cons_zero, List.set_cons_succ]
                        refine ho_val (v := ?_) 14 (some 73) rfl rfl (by kernel_rfl) (by kernel_rfl) (by kernel_rfl) (fun _ _ _ h => h) (by kernel_rfl) (fun w hSw => ?_) (by assumption) ?_
                        rotate_left
                        · ((try dsimp only at hSw); go_simp; try with_reducible rfl)
                        simp only [Act.put, List.setIfInBounds_toArray, List.set_cons_zero, List.set_cons_succ]
                        refine wpAnyH_done (by kernel_rfl) ?_ _
                        have hv1 := hHeld.1
                        clear hHeld
                        go_wp2_with fail
                        obtain ⟨W1, hW1⟩ : ∃ V, w3.drew = V := ⟨_, rfl⟩
                        rw [hW1] at hv1 ⊢
                        clear hW1
                        refine wp_region_held_drew (S := fun v => Below w.heap.size w v ∧ v.cell? ⟨g, o + j * 6 + 2, none⟩ = some (.int .i64 x.wear) ∧ v.cell? ⟨g, o + j * 6 + 3, none⟩ = some (.int .u64 x.age) ∧ v.cell? ⟨g, o + i * 6 + 2, none⟩ = some (.int .i64 y.wear) ∧ v.cell? ⟨g, o + i * 6 + 3, none⟩ = some (.int .u64 y.age)) (by kernel_rfl) (RD.out _ hv1.drew) (fun hHeld => ?_)
                        refine ho_val (v := ?_) 0 (some 74) rfl rfl (by kernel_rfl) (by kernel_rfl) (by kernel_rfl) (fun _ _ _ h => h) (by kernel_rfl) (fun w hSw => ?_) (by assumption) ?_
                        rotate_left
                        · ((try dsimp only at hSw); go_simp; try with_reducible rfl)
                        simp only [Act.put, List.setIfInBounds_toArray, List.set_cons_zero, List.set_cons_succ]
                        refine ho_val (v := ?_) 1 (some 75) rfl rfl (by kernel_rfl) (by kernel_rfl) (by kernel_rfl) (fun _ _ _ h => h) (by kernel_rfl) (fun w hSw => ?_) (by assumption) ?_
                        rotate_left
                        · ((try dsimp only at hSw); go_simp; try with_reducible rfl)
                        simp only [Act.put, List.setIfInBounds_toArray, List.set_cons_zero, List.set_cons_succ]
                        refine ho_val (v := ?_) 2 (some 76) rfl rfl (by kernel_rfl) (by kernel_rfl) (by kernel_rfl) (fun _ _ _ h => h) (by kernel_rfl) (fun w hSw => ?_) (by assumption) ?_
                        rotate_left
                        · ((try dsimp only at hSw); go_simp; try with_reducible rfl)
                        simp only [Act.put, List.setIfInBounds_toArray, List.set_cons_zero, List.set_cons_succ]
                        refine ho_val (v := ?_) 3 (some 77) rfl rfl (by kernel_rfl) (by kernel_rfl) (by kernel_rfl) (fun _ _ _ h => h) (by kernel_rfl) (fun w hSw => ?_) (by assumption) ?_
                        rotate_left
                        · ((try dsimp only at hSw); go_simp; try with_reducible rfl)
                        simp only [Act.put, List.setIfInBounds_toArray, List.set_cons_zero, List.set_cons_succ]
                        refine ho_val (v := ?_) 4 (some 78) rfl rfl (by kernel_rfl) (by kernel_rfl) (by kernel_rfl) (fun _ _ _ h => h) (by kernel_rfl) (fun w hSw => ?_) (by assumption) ?_
                        rotate_left
                        · ((try dsimp only at hSw); go_simp; try with_reducible rfl)
                        simp only [Act.put, List.setIfInBounds_toArray, List.set_cons_zero, List.set_cons_succ]
                        refine ho_val (v := ?_) 5 (some 79) rfl rfl (by kernel_rfl) (by kernel_rfl) (by kernel_rfl) (fun _ _ _ h => h) (by kernel_rfl) (fun w hSw => ?_) (by assumption) ?_
                        rotate_left
                        · ((try dsimp only at hSw); go_simp; try with_reducible rfl)
                        simp only [Act.put, List.setIfInBounds_toArray, List.set_cons_zero, List.set_cons_succ]
                        refine ho_val (v := ?_) 6 (some 80) rfl rfl (by kernel_rfl) (by kernel_rfl) (by kernel_rfl) (fun _ _ _ h => h) (by kernel_rfl) (fun w hSw => ?_) (by assumption) ?_
                        rotate_left
                        · ((try dsimp only at hSw); go_simp; try with_reducible rfl)
                        simp only [Act.put, List.setIfInBounds_toArray, List.set_cons_zero, List.set_cons_succ]
                        refine ho_val (v := ?_) 7 (some 81) rfl rfl (by kernel_rfl) (by kernel_rfl) (by kernel_rfl) (fun _ _ _ h => h) (by kernel_rfl) (fun w hSw => ?_) (by assumption) ?_
                        rotate_left
                        · ((try dsimp only at hSw); go_simp; try with_reducible rfl)
                        simp only [Act.put, List.setIfInBounds_toArray, List.set_cons_zero, List.set_cons_succ]
                        refine ho_val (v := ?_) 8 (some 82) rfl rfl (by kernel_rfl) (by kernel_rfl) (by kernel_rfl) (fun _ _ _ h => h) (by kernel_rfl) (fun w hSw => ?_) (by assumption) ?_
                        rotate_left
                        · ((try dsimp only at hSw); go_simp; try with_reducible rfl)
                        simp only [Act.put, List.setIfInBounds_toArray, List.set_cons_zero, List.set_cons_succ]
                        refine ho_val (v := ?_) 9 (some 83) rfl rfl (by kernel_rfl) (by kernel_rfl) (by kernel_rfl) (fun _ _ _ h => h) (by kernel_rfl) (fun w hSw => ?_) (by assumption) ?_
                        rotate_left
                        · ((try dsimp only at hSw); go_simp; try with_reducible rfl)
                        simp only [Act.put, List.setIfInBounds_toArray, List.set_cons_zero, List.set_cons_succ]
                        refine ho_val (v := ?_) 10 (some 84) rfl rfl (by kernel_rfl) (by kernel_rfl) (by kernel_rfl) (fun _ _ _ h => h) (by kernel_rfl) (fun w hSw => ?_) (by assumption) ?_
                        rotate_left
                        · ((try dsimp only at hSw); go_simp; try with_reducible rfl)
                        simp only [Act.put, List.setIfInBounds_toArray, List.set_cons_zero, List.set_cons_succ]
                        refine wpAnyH_done (by kernel_rfl) ?_ _
                        have HZ := Lib.hid hHeld.1
                        clear hHeld RD
                        go_wp2_with fail
                        go_roundw
                        case rel => exact ⟨j + 1, by omega, by go_num, by rw [HB'.out, HN2.out]; rfl, HZ.out⟩
                        case measure => simp [intOf]; omega
                  · have hm2 : ((m : Int) == 2) = false := by rw [beq_eq_false_iff_ne]; omega
                    have hlt3 : ltN m = older := by unfold ltN; funext a b; rw [if_neg m2]
                    by_cases ha : x.age < y.age
                    · have da : decide (x.age < y.age) = true := decide_eq_true ha
                      have HN2 : Hid (B' = some (j, x)) := Lib.hid (by rw [HN.out, hb, if_pos (by simp [takes, hp, hlt3, older, ha])])
                      clear hp hb hjL hy hlt3 ha
                      go_wp2_with (first
                        | ((with_reducible refine pick (some 51) ?_); refine wpList_load_mid rfl 29 _ rfl g (o + j * 6) rfl [.int .i64 x.cls, .bool x.opn, .int .i64 x.wear, .int .u64 x.age, .int .i64 x.need, .bool x.held] _ HC.out Try.underlying29 rfl info_inf6 ?_)
                        | (go_at_call 32; refine (pass_is (n := m) HP.out _ hm3 (by omega) (by omega) (by omega) (by omega)).mono ?_; rintro e w3 ⟨rfl, hb3⟩; have hn3 := keeps HBL.out hb3; have HB3 := Lib.hid hn3; clear hb3 hn3))
                      have RD : Hid (∀ v, Below w.heap.size w v → Below w.heap.size w v ∧ v.cell? ⟨g, o + j * 6 + 2, none⟩ = some (.int .i64 x.wear) ∧ v.cell? ⟨g, o + j * 6 + 3, none⟩ = some (.int .u64 x.age) ∧ v.cell? ⟨g, o + i * 6 + 2, none⟩ = some (.int .i64 y.wear) ∧ v.cell? ⟨g, o + i * 6 + 3, none⟩ = some (.int .u64 y.age)) := Lib.hid fun v hv => (by
                        obtain ⟨s0, s1, s2, s3, s4, s5⟩ := inf_cells ((HL.out.below hv).at_ j x HX.out).2
                        obtain ⟨z0, z1, z2, z3, z4, z5⟩ := inf_cells ((HL.out.below hv).at_ i y HY.out).2
                        exact ⟨hv, s2, s3, z2, z3⟩)
                      refine wp_region_held_drew (S := fun v => Below w.heap.size w v ∧ v.cell? ⟨g, o + j * 6 + 2, none⟩ = some (.int .i64 x.wear) ∧ v.cell? ⟨g, o + j * 6 + 3, none⟩ = some (.int .u64 x.age) ∧ v.cell? ⟨g, o + i * 6 + 2, none⟩ = some (.int .i64 y.wear) ∧ v.cell? ⟨g, o + i * 6 + 3, none⟩ = some (.int .u64 y.age)) (by kernel_rfl) (RD.out _ HB3.out.drew) (fun hHeld => ?_)
                      refine ho_val (v := ?_) 0 (some 59) rfl rfl (by kernel_rfl) (by kernel_rfl) (by kernel_rfl) (fun _ _ _ h => h) (by kernel_rfl) (fun w hSw => ?_) (by assumption) ?_
                      rotate_left
                      · ((try dsimp only at hSw); go_simp; try with_reducible rfl)
                      simp only [Act.put, List.setIfInBounds_toArray, List.set_cons_zero, List.set_cons_succ]
                      refine ho_val (v := ?_) 1 (some 60) rfl rfl (by kernel_rfl) (by kernel_rfl) (by kernel_rfl) (fun _ _ _ h => h) (by kernel_rfl) (fun w hSw => ?_) (by assumption) ?_
                      rotate_left
                      · ((try dsimp only at hSw); go_simp; try with_reducible rfl)
                      simp only [Act.put, List.setIfInBounds_toArray, List.set_cons_zero, List.set_cons_succ]
                      refine ho_val (v := ?_) 2 (some 61) rfl rfl (by kernel_rfl) (by kernel_rfl) (by kernel_rfl) (fun _ _ _ h => h) (by kernel_rfl) (fun w hSw => ?_) (by assumption) ?_
                      rotate_left
                      · ((try dsimp only at hSw); go_simp; try with_reducible rfl)
                      simp only [Act.put, List.setIfInBounds_toArray, List.set_cons_zero, List.set_cons_succ]
                      refine ho_skip 3 (some 62) rfl rfl (by kernel_rfl) (by kernel_rfl) (by kernel_rfl) (fun _ _ _ h => h) (by kernel_rfl) (by assumption) ?_; simp only [Act.put, List.setIfInBounds_toArray, List.set_cons_zero, List.set_cons_succ]
                      refine ho_skip 4 (some 63) rfl rfl (by kernel_rfl) (by kernel_rfl) (by kernel_rfl) (fun _ _ _ h => h) (by kernel_rfl) (by assumption) ?_; simp only [Act.put, List.setIfInBounds_toArray, List.set_cons_zero, List.set_cons_succ]
                      refine ho_skip 5 (some 64) rfl rfl (by kernel_rfl) (by kernel_rfl) (by kernel_rfl) (fun _ _ _ h => h) (by kernel_rfl) (by assumption) ?_; simp only [Act.put, List.setIfInBounds_toArray, List.set_cons_zero, List.set_cons_succ]
                      refine ho_skip 6 (some 65) rfl rfl (by kernel_rfl) (by kernel_rfl) (by kernel_rfl) (fun _ _ _ h => h) (by kernel_rfl) (by assumption) ?_; simp only [Act.put, List.setIfInBounds_toArray, List.set_cons_zero, List.set_cons_succ]
                      refine ho_skip 7 (some 66) rfl rfl (by kernel_rfl) (by kernel_rfl) (by kernel_rfl) (fun _ _ _ h => h) (by kernel_rfl) (by assumption) ?_; simp only [Act.put, List.setIfInBounds_toArray, List.set_cons_zero, List.set_cons_succ]
                      refine ho_skip 8 (some 67) rfl rfl (by kernel_rfl) (by kernel_rfl) (by kernel_rfl) (fun _ _ _ h => h) (by kernel_rfl) (by assumption) ?_; simp only [Act.put, List.setIfInBounds_toArray, List.set_cons_zero, List.set_cons_succ]
                      refine ho_skip 9 (some 68) rfl rfl (by kernel_rfl) (by kernel_rfl) (by kernel_rfl) (fun _ _ _ h => h) (by kernel_rfl) (by assumption) ?_; simp only [Act.put, List.setIfInBounds_toArray, List.set_cons_zero, List.set_cons_succ]
                      refine ho_skip 10 (some 69) rfl rfl (by kernel_rfl) (by kernel_rfl) (by kernel_rfl) (fun _ _ _ h => h) (by kernel_rfl) (by assumption) ?_; simp only [Act.put, List.setIfInBounds_toArray, List.set_cons_zero, List.set_cons_succ]
                      refine ho_skip 11 (some 70) rfl rfl (by kernel_rfl) (by kernel_rfl) (by kernel_rfl) (fun _ _ _ h => h) (by kernel_rfl) (by assumption) ?_; simp only [Act.put, List.setIfInBounds_toArray, List.set_cons_zero, List.set_cons_succ]
                      refine ho_skip 12 (some 71) rfl rfl (by kernel_rfl) (by kernel_rfl) (by kernel_rfl) (fun _ _ _ h => h) (by kernel_rfl) (by assumption) ?_; simp only [Act.put, List.setIfInBounds_toArray, List.set_cons_zero, List.set_cons_succ]
                      refine ho_skip 13 (some 72) rfl rfl (by kernel_rfl) (by kernel_rfl) (by kernel_rfl) (fun _ _ _ h => h) (by kernel_rfl) (by assumption) ?_; simp only [Act.put, List.setIfInBounds_toArray, List.set_cons_zero, List.set_cons_succ]
                      refine ho_val (v := ?_) 14 (some 73) rfl rfl (by kernel_rfl) (by kernel_rfl) (by kernel_rfl) (fun _ _ _ h => h) (by kernel_rfl) (fun w hSw => ?_) (by assumption) ?_
                      rotate_left
                      · ((try dsimp only at hSw); go_simp; try with_reducible rfl)
                      simp only [Act.put, List.setIfInBounds_toArray, List.set_cons_zero, List.set_cons_succ]
                      refine wpAnyH_done (by kernel_rfl) ?_ _
                      have hv1 := hHeld.1
                      clear hHeld
                      go_wp2_with fail
                      obtain ⟨W1, hW1⟩ : ∃ V, w3.drew = V := ⟨_, rfl⟩
                      rw [hW1] at hv1 ⊢
                      clear hW1
                      refine wp_region_held_drew (S := fun v => Below w.heap.size w v ∧ v.cell? ⟨g, o + j * 6 + 2, none⟩ = some (.int .i64 x.wear) ∧ v.cell? ⟨g, o + j * 6 + 3, none⟩ = some (.int .u64 x.age) ∧ v.cell? ⟨g, o + i * 6 + 2, none⟩ = some (.int .i64 y.wear) ∧ v.cell? ⟨g, o + i * 6 + 3, none⟩ = some (.int .u64 y.age)) (by kernel_rfl) (RD.out _ hv1.drew) (fun hHeld => ?_)
                      refine ho_val (v := ?_) 0 (some 86) rfl rfl (by kernel_rfl) (by kernel_rfl) (by kernel_rfl) (fun _ _ _ h => h) (by kernel_rfl) (fun w hSw => ?_) (by assumption) ?_
                      rotate_left
                      · ((try dsimp only at hSw); go_simp; try with_reducible rfl)
                      simp only [Act.put, List.setIfInBounds_toArray, List.set_cons_zero, List.set_cons_succ]
                      refine ho_val (v := ?_) 1 (some 87) rfl rfl (by kernel_rfl) (by kernel_rfl) (by kernel_rfl) (fun _ _ _ h => h) (by kernel_rfl) (fun w hSw => ?_) (by assumption) ?_
                      rotate_left
                      · ((try dsimp only at hSw); go_simp; try with_reducible rfl)
                      simp only [Act.put, List.setIfInBounds_toArray, List.set_cons_zero, List.set_cons_succ]
                      refine ho_val (v := ?_) 2 (some 88) rfl rfl (by kernel_rfl) (by kernel_rfl) (by kernel_rfl) (fun _ _ _ h => h) (by kernel_rfl) (fun w hSw => ?_) (by assumption) ?_
                      rotate_left
                      · ((try dsimp only at hSw); go_simp; try with_reducible rfl)
                      simp only [Act.put, List.setIfInBounds_toArray, List.set_cons_zero, List.set_cons_succ]
                      refine ho_val (v := ?_) 3 (some 89) rfl rfl (by kernel_rfl) (by kernel_rfl) (by kernel_rfl) (fun _ _ _ h => h) (by kernel_rfl) (fun w hSw => ?_) (by assumption) ?_
                      rotate_left
                      · ((try dsimp only at hSw); go_simp; try with_reducible rfl)
                      simp only [Act.put, List.setIfInBounds_toArray, List.set_cons_zero, List.set_cons_succ]
                      refine ho_val (v := ?_) 4 (some 90) rfl rfl (by kernel_rfl) (by kernel_rfl) (by kernel_rfl) (fun _ _ _ h => h) (by kernel_rfl) (fun w hSw => ?_) (by assumption) ?_
                      rotate_left
                      · ((try dsimp only at hSw); go_simp; try with_reducible rfl)
                      simp only [Act.put, List.setIfInBounds_toArray, List.set_cons_zero, List.set_cons_succ]
                      refine ho_val (v := ?_) 5 (some 91) rfl rfl (by kernel_rfl) (by kernel_rfl) (by kernel_rfl) (fun _ _ _ h => h) (by kernel_rfl) (fun w hSw => ?_) (by assumption) ?_
                      rotate_left
                      · ((try dsimp only at hSw); go_simp; try with_reducible rfl)
                      simp only [Act.put, List.setIfInBounds_toArray, List.set_cons_zero, List.set_cons_succ]
                      refine ho_val (v := ?_) 6 (some 92) rfl rfl (by kernel_rfl) (by kernel_rfl) (by kernel_rfl) (fun _ _ _ h => h) (by kernel_rfl) (fun w hSw => ?_) (by assumption) ?_
                      rotate_left
                      · ((try dsimp only at hSw); go_simp; try with_reducible rfl)
                      simp only [Act.put, List.setIfInBounds_toArray, List.set_cons_zero, List.set_cons_succ]
                      refine ho_val (v := ?_) 7 (some 93) rfl rfl (by kernel_rfl) (by kernel_rfl) (by kernel_rfl) (fun _ _ _ h => h) (by kernel_rfl) (fun w hSw => ?_) (by assumption) ?_
                      rotate_left
                      · ((try dsimp only at hSw); go_simp; try with_reducible rfl)
                      simp only [Act.put, List.setIfInBounds_toArray, List.set_cons_zero, List.set_cons_succ]
                      refine ho_val (v := ?_) 8 (some 94) rfl rfl (by kernel_rfl) (by kernel_rfl) (by kernel_rfl) (fun _ _ _ h => h) (by kernel_rfl) (fun w hSw => ?_) (by assumption) ?_
                      rotate_left
                      · ((try dsimp only at hSw); go_simp; try with_reducible rfl)
                      simp only [Act.put, List.setIfInBounds_toArray, List.set_cons_zero, List.set_cons_succ]
                      refine ho_val (v := ?_) 9 (some 95) rfl rfl (by kernel_rfl) (by kernel_rfl) (by kernel_rfl) (fun _ _ _ h => h) (by kernel_rfl) (fun w hSw => ?_) (by assumption) ?_
                      rotate_left
                      · ((try dsimp only at hSw); go_simp; try with_reducible rfl)
                      simp only [Act.put, List.setIfInBounds_toArray, List.set_cons_zero, List.set_cons_succ]
                      refine ho_val (v := ?_) 10 (some 96) rfl rfl (by kernel_rfl) (by kernel_rfl) (by kernel_rfl) (fun _ _ _ h => h) (by kernel_rfl) (fun w hSw => ?_) (by assumption) ?_
                      rotate_left
                      · ((try dsimp only at hSw); go_simp; try with_reducible rfl)
                      simp only [Act.put, List.setIfInBounds_toArray, List.set_cons_zero, List.set_cons_succ]
                      refine wpAnyH_done (by kernel_rfl) ?_ _
                      have HZ := Lib.hid hHeld.1
                      clear hHeld RD
                      go_wp2_with fail
                      go_roundw
                      case rel => exact ⟨j + 1, by omega, by go_num, by rw [HB'.out, HN2.out]; rfl, HZ.out⟩
                      case measure => simp [intOf]; omega
                    · have da : decide (x.age < y.age) = false := decide_eq_false ha
                      have HN2 : Hid (B' = some (i, y)) := Lib.hid (by rw [HN.out, hb, if_neg (by simp [takes, hp, hlt3, older, ha])])
                      clear hp hb hjL hy hlt3 ha
                      go_wp2_with (first
                        | ((with_reducible refine pick (some 51) ?_); refine wpList_load_mid rfl 29 _ rfl g (o + j * 6) rfl [.int .i64 x.cls, .bool x.opn, .int .i64 x.wear, .int .u64 x.age, .int .i64 x.need, .bool x.held] _ HC.out Try.underlying29 rfl info_inf6 ?_)
                        | (go_at_call 32; refine (pass_is (n := m) HP.out _ hm3 (by omega) (by omega) (by omega) (by omega)).mono ?_; rintro e w3 ⟨rfl, hb3⟩; have hn3 := keeps HBL.out hb3; have HB3 := Lib.hid hn3; clear hb3 hn3))
                      have RD : Hid (∀ v, Below w.heap.size w v → Below w.heap.size w v ∧ v.cell? ⟨g, o + j * 6 + 2, none⟩ = some (.int .i64 x.wear) ∧ v.cell? ⟨g, o + j * 6 + 3, none⟩ = some (.int .u64 x.age) ∧ v.cell? ⟨g, o + i * 6 + 2, none⟩ = some (.int .i64 y.wear) ∧ v.cell? ⟨g, o + i * 6 + 3, none⟩ = some (.int .u64 y.age)) := Lib.hid fun v hv => (by
                        obtain ⟨s0, s1, s2, s3, s4, s5⟩ := inf_cells ((HL.out.below hv).at_ j x HX.out).2
                        obtain ⟨z0, z1, z2, z3, z4, z5⟩ := inf_cells ((HL.out.below hv).at_ i y HY.out).2
                        exact ⟨hv, s2, s3, z2, z3⟩)
                      refine wp_region_held_drew (S := fun v => Below w.heap.size w v ∧ v.cell? ⟨g, o + j * 6 + 2, none⟩ = some (.int .i64 x.wear) ∧ v.cell? ⟨g, o + j * 6 + 3, none⟩ = some (.int .u64 x.age) ∧ v.cell? ⟨g, o + i * 6 + 2, none⟩ = some (.int .i64 y.wear) ∧ v.cell? ⟨g, o + i * 6 + 3, none⟩ = some (.int .u64 y.age)) (by kernel_rfl) (RD.out _ HB3.out.drew) (fun hHeld => ?_)
                      refine ho_val (v := ?_) 0 (some 59) rfl rfl (by kernel_rfl) (by kernel_rfl) (by kernel_rfl) (fun _ _ _ h => h) (by kernel_rfl) (fun w hSw => ?_) (by assumption) ?_
                      rotate_left
                      · ((try dsimp only at hSw); go_simp; try with_reducible rfl)
                      simp only [Act.put, List.setIfInBounds_toArray, List.set_cons_zero, List.set_cons_succ]
                      refine ho_val (v := ?_) 1 (some 60) rfl rfl (by kernel_rfl) (by kernel_rfl) (by kernel_rfl) (fun _ _ _ h => h) (by kernel_rfl) (fun w hSw => ?_) (by assumption) ?_
                      rotate_left
                      · ((try dsimp only at hSw); go_simp; try with_reducible rfl)
                      simp only [Act.put, List.setIfInBounds_toArray, List.set_cons_zero, List.set_cons_succ]
                      refine ho_val (v := ?_) 2 (some 61) rfl rfl (by kernel_rfl) (by kernel_rfl) (by kernel_rfl) (fun _ _ _ h => h) (by kernel_rfl) (fun w hSw => ?_) (by assumption) ?_
                      rotate_left
                      · ((try dsimp only at hSw); go_simp; try with_reducible rfl)
                      simp only [Act.put, List.setIfInBounds_toArray, List.set_cons_zero, List.set_cons_succ]
                      refine ho_skip 3 (some 62) rfl rfl (by kernel_rfl) (by kernel_rfl) (by kernel_rfl) (fun _ _ _ h => h) (by kernel_rfl) (by assumption) ?_; simp only [Act.put, List.setIfInBounds_toArray, List.set_cons_zero, List.set_cons_succ]
                      refine ho_skip 4 (some 63) rfl rfl (by kernel_rfl) (by kernel_rfl) (by kernel_rfl) (fun _ _ _ h => h) (by kernel_rfl) (by assumption) ?_; simp only [Act.put, List.setIfInBounds_toArray, List.set_cons_zero, List.set_cons_succ]
                      refine ho_skip 5 (some 64) rfl rfl (by kernel_rfl) (by kernel_rfl) (by kernel_rfl) (fun _ _ _ h => h) (by kernel_rfl) (by assumption) ?_; simp only [Act.put, List.setIfInBounds_toArray, List.set_cons_zero, List.set_cons_succ]
                      refine ho_skip 6 (some 65) rfl rfl (by kernel_rfl) (by kernel_rfl) (by kernel_rfl) (fun _ _ _ h => h) (by kernel_rfl) (by assumption) ?_; simp only [Act.put, List.setIfInBounds_toArray, List.set_cons_zero, List.set_cons_succ]
                      refine ho_skip 7 (some 66) rfl rfl (by kernel_rfl) (by kernel_rfl) (by kernel_rfl) (fun _ _ _ h => h) (by kernel_rfl) (by assumption) ?_; simp only [Act.put, List.setIfInBounds_toArray, List.set_cons_zero, List.set_cons_succ]
                      refine ho_skip 8 (some 67) rfl rfl (by kernel_rfl) (by kernel_rfl) (by kernel_rfl) (fun _ _ _ h => h) (by kernel_rfl) (by assumption) ?_; simp only [Act.put, List.setIfInBounds_toArray, List.set_cons_zero, List.set_cons_succ]
                      refine ho_skip 9 (some 68) rfl rfl (by kernel_rfl) (by kernel_rfl) (by kernel_rfl) (fun _ _ _ h => h) (by kernel_rfl) (by assumption) ?_; simp only [Act.put, List.setIfInBounds_toArray, List.set_cons_zero, List.set_cons_succ]
                      refine ho_skip 10 (some 69) rfl rfl (by kernel_rfl) (by kernel_rfl) (by kernel_rfl) (fun _ _ _ h => h) (by kernel_rfl) (by assumption) ?_; simp only [Act.put, List.setIfInBounds_toArray, List.set_cons_zero, List.set_cons_succ]
                      refine ho_skip 11 (some 70) rfl rfl (by kernel_rfl) (by kernel_rfl) (by kernel_rfl) (fun _ _ _ h => h) (by kernel_rfl) (by assumption) ?_; simp only [Act.put, List.setIfInBounds_toArray, List.set_cons_zero, List.set_cons_succ]
                      refine ho_skip 12 (some 71) rfl rfl (by kernel_rfl) (by kernel_rfl) (by kernel_rfl) (fun _ _ _ h => h) (by kernel_rfl) (by assumption) ?_; simp only [Act.put, List.setIfInBounds_toArray, List.set_cons_zero, List.set_cons_succ]
                      refine ho_skip 13 (some 72) rfl rfl (by kernel_rfl) (by kernel_rfl) (by kernel_rfl) (fun _ _ _ h => h) (by kernel_rfl) (by assumption) ?_; simp only [Act.put, List.setIfInBounds_toArray, List.set_cons_zero, List.set_cons_succ]
                      refine ho_val (v := ?_) 14 (some 73) rfl rfl (by kernel_rfl) (by kernel_rfl) (by kernel_rfl) (fun _ _ _ h => h) (by kernel_rfl) (fun w hSw => ?_) (by assumption) ?_
                      rotate_left
                      · ((try dsimp only at hSw); go_simp; try with_reducible rfl)
                      simp only [Act.put, List.setIfInBounds_toArray, List.set_cons_zero, List.set_cons_succ]
                      refine wpAnyH_done (by kernel_rfl) ?_ _
                      have hv1 := hHeld.1
                      clear hHeld
                      go_wp2_with fail
                      obtain ⟨W1, hW1⟩ : ∃ V, w3.drew = V := ⟨_, rfl⟩
                      rw [hW1] at hv1 ⊢
                      clear hW1
                      refine wp_region_held_drew (S := fun v => Below w.heap.size w v ∧ v.cell? ⟨g, o + j * 6 + 2, none⟩ = some (.int .i64 x.wear) ∧ v.cell? ⟨g, o + j * 6 + 3, none⟩ = some (.int .u64 x.age) ∧ v.cell? ⟨g, o + i * 6 + 2, none⟩ = some (.int .i64 y.wear) ∧ v.cell? ⟨g, o + i * 6 + 3, none⟩ = some (.int .u64 y.age)) (by kernel_rfl) (RD.out _ hv1.drew) (fun hHeld => ?_)
                      refine ho_val (v := ?_) 0 (some 86) rfl rfl (by kernel_rfl) (by kernel_rfl) (by kernel_rfl) (fun _ _ _ h => h) (by kernel_rfl) (fun w hSw => ?_) (by assumption) ?_
                      rotate_left
                      · ((try dsimp only at hSw); go_simp; try with_reducible rfl)
                      simp only [Act.put, List.setIfInBounds_toArray, List.set_cons_zero, List.set_cons_succ]
                      refine ho_val (v := ?_) 1 (some 87) rfl rfl (by kernel_rfl) (by kernel_rfl) (by kernel_rfl) (fun _ _ _ h => h) (by kernel_rfl) (fun w hSw => ?_) (by assumption) ?_
                      rotate_left
                      · ((try dsimp only at hSw); go_simp; try with_reducible rfl)
                      simp only [Act.put, List.setIfInBounds_toArray, List.set_cons_zero, List.set_cons_succ]
                      refine ho_val (v := ?_) 2 (some 88) rfl rfl (by kernel_rfl) (by kernel_rfl) (by kernel_rfl) (fun _ _ _ h => h) (by kernel_rfl) (fun w hSw => ?_) (by assumption) ?_
                      rotate_left
                      · ((try dsimp only at hSw); go_simp; try with_reducible rfl)
                      simp only [Act.put, List.setIfInBounds_toArray, List.set_cons_zero, List.set_cons_succ]
                      refine ho_val (v := ?_) 3 (some 89) rfl rfl (by kernel_rfl) (by kernel_rfl) (by kernel_rfl) (fun _ _ _ h => h) (by kernel_rfl) (fun w hSw => ?_) (by assumption) ?_
                      rotate_left
                      · ((try dsimp only at hSw); go_simp; try with_reducible rfl)
                      simp only [Act.put, List.setIfInBounds_toArray, List.set_cons_zero, List.set_cons_succ]
                      refine ho_val (v := ?_) 4 (some 90) rfl rfl (by kernel_rfl) (by kernel_rfl) (by kernel_rfl) (fun _ _ _ h => h) (by kernel_rfl) (fun w hSw => ?_) (by assumption) ?_
                      rotate_left
                      · ((try dsimp only at hSw); go_simp; try with_reducible rfl)
                      simp only [Act.put, List.setIfInBounds_toArray, List.set_cons_zero, List.set_cons_succ]
                      refine ho_val (v := ?_) 5 (some 91) rfl rfl (by kernel_rfl) (by kernel_rfl) (by kernel_rfl) (fun _ _ _ h => h) (by kernel_rfl) (fun w hSw => ?_) (by assumption) ?_
                      rotate_left
                      · ((try dsimp only at hSw); go_simp; try with_reducible rfl)
                      simp only [Act.put, List.setIfInBounds_toArray, List.set_cons_zero, List.set_cons_succ]
                      refine ho_val (v := ?_) 6 (some 92) rfl rfl (by kernel_rfl) (by kernel_rfl) (by kernel_rfl) (fun _ _ _ h => h) (by kernel_rfl) (fun w hSw => ?_) (by assumption) ?_
                      rotate_left
                      · ((try dsimp only at hSw); go_simp; try with_reducible rfl)
                      simp only [Act.put, List.setIfInBounds_toArray, List.set_cons_zero, List.set_cons_succ]
                      refine ho_val (v := ?_) 7 (some 93) rfl rfl (by kernel_rfl) (by kernel_rfl) (by kernel_rfl) (fun _ _ _ h => h) (by kernel_rfl) (fun w hSw => ?_) (by assumption) ?_
                      rotate_left
                      · ((try dsimp only at hSw); go_simp; try with_reducible rfl)
                      simp only [Act.put, List.setIfInBounds_toArray, List.set_cons_zero, List.set_cons_succ]
                      refine ho_val (v := ?_) 8 (some 94) rfl rfl (by kernel_rfl) (by kernel_rfl) (by kernel_rfl) (fun _ _ _ h => h) (by kernel_rfl) (fun w hSw => ?_) (by assumption) ?_
                      rotate_left
                      · ((try dsimp only at hSw); go_simp; try with_reducible rfl)
                      simp only [Act.put, List.setIfInBounds_toArray, List.set_cons_zero, List.set_cons_succ]
                      refine ho_val (v := ?_) 9 (some 95) rfl rfl (by kernel_rfl) (by kernel_rfl) (by kernel_rfl) (fun _ _ _ h => h) (by kernel_rfl) (fun w hSw => ?_) (by assumption) ?_
                      rotate_left
                      · ((try dsimp only at hSw); go_simp; try with_reducible rfl)
                      simp only [Act.put, List.setIfInBounds_toArray, List.set_cons_zero, List.set_cons_succ]
                      refine ho_val (v := ?_) 10 (some 96) rfl rfl (by kernel_rfl) (by kernel_rfl) (by kernel_rfl) (fun _ _ _ h => h) (by kernel_rfl) (fun w hSw => ?_) (by assumption) ?_
                      rotate_left
                      · ((try dsimp only at hSw); go_simp; try with_reducible rfl)
                      simp only [Act.put, List.setIfInBounds_toArray, List.set_cons_zero, List.set_cons_succ]
                      refine wpAnyH_done (by kernel_rfl) ?_ _
                      have HZ := Lib.hid hHeld.1
                      clear hHeld RD
                      go_wp2_with fail
                      go_roundw
                      case rel => exact ⟨j + 1, by omega, by go_num, by rw [HB'.out, HN2.out]; rfl, HZ.out⟩
                      case measure => simp [intOf]; omega
            · obtain rfl : j = k := by omega
              clear hbel
              rw [e]
              cases hb : bestL (passN LE m) (ltN m) L with
              | none =>
                have HE2 : Hid (eraseL L = fromN L (m + 1)) := Lib.hid (by rw [HEN.out, hb]; rfl)
                rw [show num (none : Bst) = -1 from rfl]
                clear hb
                go_wp2
                go_roundw
                case rel => exact ⟨m + 1, by omega, by go_num, HE2, HBL.out⟩
                case measure => simp [intOf]; omega
              | some q =>
                obtain ⟨i, y⟩ := q
                have HE2 : Hid (eraseL L = some (i, y)) := Lib.hid (by rw [HEN.out, hb]; rfl)
                rw [show num (some (i, y) : Bst) = (i : Int) from rfl]
                have hneg : decide ((0 : Int) ≤ (i : Int)) = true := decide_eq_true (by omega)
                clear hb
                go_wp2
                go_ret
                rw [HE2.out]
                exact ⟨rfl, HBL.out⟩
        · go_wp2
          go_ret
          rw [HE.out]
          exact ⟨rfl, HBO.out⟩
end Go.Proofs.Ythpgpomkilnlgaa.PickRe
