/- The contracts of the document's answer for layer 11. -/
import Derived.Test.YthpgpomkilnlgaaProg
import Derived.Test.YthpgpomkilnlgaaPickN
import Derived.Test.YthpgpomkilnlgaaLst
import Derived.WalkKit
import Derived.WalkSpells
import Derived.WalkLawsBesides
import Derived.BigGuardPart
import Derived.LoopTactic
import Derived.Deep.QuietTactic
import Derived.BigQuiet
import Derived.Deep.RegionHeld3
namespace Go.Proofs.Ythpgpomkilnlgaa.PickR
set_option linter.unusedVariables false
set_option linter.unusedSimpArgs false
open Go.RowKit
open Go.Proofs.Ythpgpomkilnlgaa.Byte Go.Proofs.Ythpgpomkilnlgaa.PickM Go.Proofs.Ythpgpomkilnlgaa.PickN Go.Proofs.Ythpgpomkilnlgaa.Own Go.Proofs.Ythpgpomkilnlgaa.Rw Go.Proofs.Ythpgpomkilnlgaa.Lst

def infE : Enc Inf := ⟨fun x => [.int .i64 x.cls, .bool x.opn, .int .i64 x.wear, .int .u64 x.age, .int .i64 x.need, .bool x.held], 6, fun _ => rfl, fun x u hu => by
  simp only [List.mem_cons, List.mem_nil_iff, or_false] at hu
  rcases hu with rfl | rfl | rfl | rfl | rfl | rfl <;> rfl, by decide⟩
def infV (x : Inf) : Value := .agg #[.int .i64 x.cls, .bool x.opn, .int .i64 x.wear, .int .u64 x.age, .int .i64 x.need, .bool x.held]
theorem info_inf6 : (Try.prog.info? 29).map (·.size) = some 6 := by kernel_rfl
theorem inf_cells {w : World} {b o k : Nat} {x : Inf} (h : w.rangeAt b (o + k * infE.size) (infE.cells x)) : w.cell? ⟨b, o + k * 6, none⟩ = some (.int .i64 x.cls) ∧ w.cell? ⟨b, o + k * 6 + 1, none⟩ = some (.bool x.opn) ∧ w.cell? ⟨b, o + k * 6 + 2, none⟩ = some (.int .i64 x.wear) ∧ w.cell? ⟨b, o + k * 6 + 3, none⟩ = some (.int .u64 x.age) ∧ w.cell? ⟨b, o + k * 6 + 4, none⟩ = some (.int .i64 x.need) ∧ w.cell? ⟨b, o + k * 6 + 5, none⟩ = some (.bool x.held) :=
  ⟨h 0 _ rfl, h 1 _ rfl, h 2 _ rfl, h 3 _ rfl, h 4 _ rfl, h 5 _ rfl⟩
theorem keeps2 {w v v' : World} (h : Below w.heap.size w v) (hb : Below v.heap.size v v') : Below w.heap.size w v' := keeps h hb
set_option maxHeartbeats 1000000 in
theorem may_calls (x : Inf) (w : World) : Calls Try.prog 33 #[infV x] w fun e w' => e = .returned (.bool (may x)) ∧ Below w.heap.size w w' := by
  obtain ⟨cls, opn, wear, age, need, held⟩ := x
  unfold infV may
  dsimp only
  by_cases h : cls = 0
  · subst h
    go_enter Try.func33, Try.ntmps33
    go_wp2
    go_ret
    exact ⟨by simp, (Below.refl _ _).alloc (Nat.le_refl _) _⟩
  · have d : (cls != 0) = true := by simpa using h
    cases opn with
    | true =>
      go_enter Try.func33, Try.ntmps33
      go_wp2
      go_ret
      exact ⟨by simp, (Below.refl _ _).alloc (Nat.le_refl _) _⟩
    | false =>
      go_enter Try.func33, Try.ntmps33
      go_wp2
      go_ret
      exact ⟨by simp [h], (Below.refl _ _).alloc (Nat.le_refl _) _⟩
set_option maxHeartbeats 1000000 in
theorem needless_calls (x : Inf) (w : World) : Calls Try.prog 34 #[infV x] w fun e w' => e = .returned (.bool (needless x)) ∧ Below w.heap.size w w' := by
  obtain ⟨cls, opn, wear, age, need, held⟩ := x
  unfold infV needless
  dsimp only
  by_cases h : need = 0
  · subst h
    go_enter Try.func34, Try.ntmps34
    go_wp2
    go_ret
    exact ⟨by simp, (Below.refl _ _).alloc (Nat.le_refl _) _⟩
  · have d : (need == 0) = false := by simpa using h
    go_enter Try.func34, Try.ntmps34
    go_wp2
    go_ret
    refine ⟨ret_bool ?_, (Below.refl _ _).alloc (Nat.le_refl _) _⟩
    simp [h]
    rw [Bool.eq_iff_iff]
    simp
set_option maxHeartbeats 1000000 in
theorem near_calls (wear least : Int) (w : World) (h0 : -10000000000000 ≤ wear) (h1 : wear ≤ 10000000000000) (h2 : -10000000000000 ≤ least) (h3 : least ≤ 10000000000000) : Calls Try.prog 35 #[.int .i64 wear, .int .i64 least] w fun e w' => e = .returned (.bool (decide (wear < least + 4))) ∧ w = w' := by
  go_enter Try.func35, Try.ntmps35
  go_wp2
  go_loop [5] (fun i => ∃ k : Nat, k ≤ 4 ∧ i = .int .i64 k ∧ Hid (∀ j : Nat, j < k → wear ≠ least + j)) (fun i => 4 - (intOf i).toNat)
  case atStart => exact ⟨0, Nat.zero_le _, rfl, Lib.hid (fun j hj => by omega)⟩
  case round =>
    obtain ⟨k, hk, rfl, HK⟩ := hrel
    by_cases hlt : k < 4
    · by_cases he : wear = least + k
      · have d : (wear == least + (k : Int)) = true := by rw [beq_iff_eq]; exact he
        have HE := Lib.hid he
        clear he
        go_wp2
        go_ret
        exact ⟨ret_bool (decide_eq_true (by have := HE.out; omega)).symm, rfl⟩
      · have d : (wear == least + (k : Int)) = false := by rw [beq_eq_false_iff_ne]; exact he
        go_wp2
        go_round
        case rel => exact ⟨k + 1, by omega, by go_num, Lib.hid (fun j hj => (by
          rcases Nat.lt_or_ge j k with h | h
          · exact HK.out j h
          · obtain rfl : j = k := by omega
            exact he))⟩
        case measure => simp [intOf]; omega
    · obtain rfl : k = 4 := by omega
      go_wp2
      go_ret
      have a0 := HK.out 0 (by omega)
      have a1 := HK.out 1 (by omega)
      have a2 := HK.out 2 (by omega)
      have a3 := HK.out 3 (by omega)
      refine ⟨ret_bool ?_, rfl⟩
      rw [Bool.eq_iff_iff]
      simp only [decide_eq_true_eq]
      omega

set_option maxRecDepth 100000 in
set_option maxHeartbeats 4000000 in
theorem refwrite_calls (A : Option Addr) (n c : Nat) (L : List Inf) (w : World) (hl : Sl infE w A n L) (hn : n ≤ 100000) :
    Calls Try.prog 13 #[.slice A n c] w fun e w' => e = .returned (.int .i64 (num (writeL L))) ∧ Below w.heap.size w w' := by
  have HL := Lib.hid hl
  clear hl
  unfold writeL
  go_enter Try.func13, Try.ntmps13
  go_wp2
  go_loopw [3, 7] (fun b i wr => ∃ k : Nat, k ≤ n ∧ i = .int .i64 k ∧ b = .int .i64 (num (bestL isBlank worn (L.take k))) ∧ Below w.heap.size w wr) (fun _ i _ => n - (intOf i).toNat)
  case atStart => exact ⟨0, Nat.zero_le _, rfl, rfl, Below.refl _ _⟩
  case round =>
    obtain ⟨k, hk, rfl, rfl, hbel⟩ := hrel
    by_cases hlt : k < n
    · obtain ⟨x, g, o, hx, rfl, hg, hc⟩ := (HL.out.below hbel).get k hlt
      obtain ⟨c0, c1, c2, c3, c4, c5⟩ := inf_cells hc
      have HX := Lib.hid hx
      have HBL := Lib.hid hbel
      have HN := Lib.hid (best_next hx isBlank worn)
      have hLn : k ≤ L.length := by rw [HL.out.1]; omega
      have hki : (k : Int) < (n : Int) := by omega
      cases hb : bestL isBlank worn (L.take k) with
      | none =>
        rw [hb] at HN
        rw [show num (none : Bst) = -1 from rfl]
        clear hc hx hbel hb hLn
        by_cases hz : x.cls = 0
        · have dz : (x.cls == 0) = true := by rw [beq_iff_eq]; exact hz
          cases hh : x.held with
          | true =>
            rw [hh] at c5
            have HN2 : Hid (bestL isBlank worn (L.take (k + 1)) = none) := Lib.hid (by rw [HN.out, if_neg (by simp [takes, isBlank, hh])])
            go_wp2
            go_quiet (fail)
            go_wp2
            go_roundw
            case rel => exact ⟨k + 1, by omega, by go_num, by rw [HN2.out]; rfl, below_drewN HBL.out nq⟩
            case measure => simp [intOf]; omega
          | false =>
            rw [hh] at c5
            have HN2 : Hid (bestL isBlank worn (L.take (k + 1)) = some (k, x)) := Lib.hid (by rw [HN.out, if_pos (by simp [takes, isBlank, hh, hz])])
            go_wp2
            go_quiet (fail)
            go_wp2
            go_roundw
            case rel => exact ⟨k + 1, by omega, by go_num, by rw [HN2.out]; rfl, below_drewN HBL.out nq⟩
            case measure => simp [intOf]; omega
        · have dz : (x.cls == 0) = false := by rw [beq_eq_false_iff_ne]; exact hz
          have HN2 : Hid (bestL isBlank worn (L.take (k + 1)) = none) := Lib.hid (by rw [HN.out, if_neg (by simp [takes, isBlank, hz])])
          go_wp2
          go_quiet (fail)
          go_wp2
          go_roundw
          case rel => exact ⟨k + 1, by omega, by go_num, by rw [HN2.out]; rfl, below_drewN HBL.out nq⟩
          case measure => simp [intOf]; omega
      | some q =>
        obtain ⟨i, y⟩ := q
        obtain ⟨hik, hy, _⟩ := best_in k hLn hb
        have hcy := ((HL.out.below hbel).at_ i y hy).2
        obtain ⟨d0, d1, d2, d3, d4, d5⟩ := inf_cells hcy
        have HY := Lib.hid hy
        rw [hb] at HN
        rw [show num (some (i, y) : Bst) = (i : Int) from rfl]
        have hii : (i : Int) < (n : Int) := by omega
        have hneg : decide ((i : Int) < 0) = false := decide_eq_false (by omega)
        clear hc hx hbel hb hLn hy hcy
        by_cases hz : x.cls = 0
        · have dz : (x.cls == 0) = true := by rw [beq_iff_eq]; exact hz
          cases hh : x.held with
          | true =>
            rw [hh] at c5
            have HN2 : Hid (bestL isBlank worn (L.take (k + 1)) = some (i, y)) := Lib.hid (by rw [HN.out, if_neg (by simp [takes, isBlank, hh])])
            go_wp2
            go_quiet (fail)
            go_wp2
            go_roundw
            case rel => exact ⟨k + 1, by omega, by go_num, by rw [HN2.out]; rfl, below_drewN HBL.out nq⟩
            case measure => simp [intOf]; omega
          | false =>
            rw [hh] at c5
            by_cases hw : x.wear < y.wear
            · have dw : decide (x.wear < y.wear) = true := decide_eq_true hw
              have HN2 : Hid (bestL isBlank worn (L.take (k + 1)) = some (k, x)) := Lib.hid (by rw [HN.out, if_pos (by simp [takes, isBlank, worn, hw, hh, hz])])
              go_wp2
              go_quiet (fail)
              go_wp2
              go_roundw
              case rel => exact ⟨k + 1, by omega, by go_num, by rw [HN2.out]; rfl, below_drewN HBL.out nq⟩
              case measure => simp [intOf]; omega
            · have dw : decide (x.wear < y.wear) = false := decide_eq_false hw
              have HN2 : Hid (bestL isBlank worn (L.take (k + 1)) = some (i, y)) := Lib.hid (by rw [HN.out, if_neg (by simp [takes, isBlank, worn, hw])])
              go_wp2
              go_quiet (fail)
              go_wp2
              go_roundw
              case rel => exact ⟨k + 1, by omega, by go_num, by rw [HN2.out]; rfl, below_drewN HBL.out nq⟩
              case measure => simp [intOf]; omega
        · have dz : (x.cls == 0) = false := by rw [beq_eq_false_iff_ne]; exact hz
          have HN2 : Hid (bestL isBlank worn (L.take (k + 1)) = some (i, y)) := Lib.hid (by rw [HN.out, if_neg (by simp [takes, isBlank, hz])])
          go_wp2
          go_quiet (fail)
          go_wp2
          go_roundw
          case rel => exact ⟨k + 1, by omega, by go_num, by rw [HN2.out]; rfl, below_drewN HBL.out nq⟩
          case measure => simp [intOf]; omega
    · obtain rfl : k = n := by omega
      have e : L.take k = L := List.take_of_length_le (by rw [HL.out.1]; exact Nat.le_refl _)
      rw [e]
      have HBL := Lib.hid hbel
      clear hbel
      go_wp2
      go_ret
      exact ⟨rfl, HBL.out⟩
theorem may_is {x : Inf} {b : Bool} (h : may x = b) (w : World) : Calls Try.prog 33 #[infV x] w fun e w' => e = .returned (.bool b) ∧ Below w.heap.size w w' := by
  subst h
  exact may_calls x w
theorem needless_is {x : Inf} {b : Bool} (h : needless x = b) (w : World) : Calls Try.prog 34 #[infV x] w fun e w' => e = .returned (.bool b) ∧ Below w.heap.size w w' := by
  subst h
  exact needless_calls x w
end Go.Proofs.Ythpgpomkilnlgaa.PickR
