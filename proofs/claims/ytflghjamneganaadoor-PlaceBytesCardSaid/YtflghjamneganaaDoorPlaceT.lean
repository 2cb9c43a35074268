/- The third part of the walk of PlaceBytes: bytes of which the first isn't 255. -/
import Derived.Test.YtflghjamneganaaDoorPlaceB
namespace Go.Proofs.YtflghjamneganaaDoor.PlaceB
open Go.RowKit
open Go.Proofs.YtflghjamneganaaDoor.PlaceM Go.Proofs.YtflghjamneganaaDoor.PlaceW Go.Proofs.YtflghjamneganaaDoor.PlaceF

theorem St.drew {w v : World} {c0 c1 c2 : Int} (h : St w c0 c1 c2 v) : St w c0 c1 c2 v.drew :=
  ⟨below_drewN h.1 1, h.2.1, h.2.2.1, h.2.2.2.1, h.2.2.2.2.1, h.2.2.2.2.2⟩

set_option maxHeartbeats 1600000 in
theorem bytes_first (a b c0 c1 c2 : Int) (w : World) (a0 : 0 ≤ c0) (a1 : c0 ≤ 255) (b0 : 0 ≤ c1) (b1 : c1 ≤ 255) (d0 : 0 ≤ c2) (d1 : c2 ≤ 255) (hg : Nowhere w) (hall : ¬ c0 = 255) :
    Calls Tryd.prog 3 #[.int .u64 a, .int .u64 b, .agg #[.int .u8 c0, .int .u8 c1, .int .u8 c2]] w fun e w' => e = .returned (.bool true) ∧ Below w.heap.size w w' := by
  generalize hx : a.toNat = x
  generalize hy : b.toNat = y
  have hat := fun w => at_calls a b w
  rw [hx, hy] at hat
  have HAT := Lib.hid hat
  clear hat hx hy
  have S := Lib.hid (St.first (c0 := c0) (c1 := c1) (c2 := c2) 23 hg)
  have o0 := order0
  have e3 := fun w => eq3 255 255 255 255 255 255 w
  have e4 := fun w => eq3 c0 c1 c2 c0 c1 c2 w
  simp only [beq_self_eq_true, Bool.and_self] at e4
  have o1 := order_fi c0 a0 (by omega)
  have o2 := order_fi (256 * c1 + c2) (by omega) (by omega)
  have HC := Lib.hid (fun W (hW : Nowhere W) => get_yes c0 c1 c2 W a0 a1 b0 b1 d0 d1 (fun h => hall h.1) hW)
  have HR := Lib.hid (fun W => refget_yes c0 c1 c2 W a0 a1 b0 b1 d0 d1 (fun h => hall h.1))
  have hb1 : (256 * c1 + c2) / 256 = c1 := by omega
  have hb2 : (256 * c1 + c2) % 256 = c2 := by omega
  have hq' := fun W => put_yes (floatOfInt .f64 c0) (floatOfInt .f64 (256 * c1 + c2)) c0 (256 * c1 + c2) W (fi_rt _ a0 (by omega)) (fi_rt _ (by omega) (by omega)) (fi_nm _ a0 (by omega)) (fi_nm _ (by omega) (by omega)) a0 (by omega) (by omega) (by omega)
  rw [hb1, hb2] at hq'
  have HT := Lib.hid hq'
  have hne : (c0 == 255) = false := by simpa using hall
  clear hq' hall hb1 hb2
  rcases modes x y with ⟨hr, hp⟩ | ⟨hr, s, ss, hs, hp⟩ | ⟨hr, s, ss, hs, o, so, ho, hp⟩ | ⟨hr, s, ss, hs, o, so, ho, u0, u1, u2, hp, hq, hl, hl', hge⟩
  all_goals
    have HP := Lib.hid hp
    have hR := fun w => right_calls x y w
    rw [hr] at hR
    have HRt := Lib.hid hR
    clear hp hr hR
    try (have HQ := Lib.hid hq; clear hq)
    try (have HS := Lib.hid ss; clear ss)
    try (have HO := Lib.hid so; clear so)
    go_enter Tryd.func3, Tryd.ntmps3
    go_wp2_with (first
      | (go_at_call 4; refine (HAT.out _).mono ?_; rintro e w' ⟨rfl, rfl⟩)
      | (go_at_call 5; (with_reducible refine (HP.out _ S.out.now).mono ?_); rintro e w1 ⟨rfl, hb1⟩; replace S := Lib.hid (S.out.below hb1); clear hb1; obtain ⟨z, p0, p1, p2⟩ := S.out.cells)
      | (go_at_call 9; (with_reducible refine (HQ.out _ (S.out.alloc _).now).mono ?_); rintro e w2 ⟨rfl, hb2⟩; replace S := Lib.hid ((S.out.alloc _).below hb2); clear hb2 z p0 p1 p2; obtain ⟨z, p0, p1, p2⟩ := S.out.cells)
      | (go_at_call 9; (first | with_reducible refine (HC.out _ (S.out.alloc _).now).mono ?_ | with_reducible refine (HC.out _ S.out.now).mono ?_); rintro e w2 ⟨rfl, hb2⟩; (first | replace S := Lib.hid ((S.out.alloc _).below hb2) | replace S := Lib.hid (S.out.below hb2)); clear hb2 z p0 p1 p2; obtain ⟨z, p0, p1, p2⟩ := S.out.cells)
      | (go_at_call 6; refine (HRt.out _).mono ?_; rintro e w' ⟨rfl, rfl⟩)
      | (go_at_call 7; refine (HS.out _).mono ?_; rintro e w' ⟨rfl, rfl⟩)
      | (go_at_call 8; refine (HO.out _).mono ?_; rintro e w' ⟨rfl, rfl⟩))
    go_region_held3 (fun v => Below w.heap.size w v ∧ Nowhere v ∧ w.heap.size < v.heap.size ∧ v.cell? ⟨w.heap.size, 0, none⟩ = some (.int .u8 c0) ∧ v.cell? ⟨w.heap.size, 1, none⟩ = some (.int .u8 c1) ∧ v.cell? ⟨w.heap.size, 2, none⟩ = some (.int .u8 c2))
      (first
        | exact S.out
        | exact St.drew ‹_›
        | exact St.below ‹_› hb3)
      (first
        | (go_at_call 10; refine (fixed_calls _).mono ?_; rintro e w' ⟨rfl, rfl⟩)
        | (go_at_call 11; refine (HR.out _).mono ?_; rintro e w' ⟨rfl, rfl⟩)
        | (go_at_call 5; refine (HT.out _).mono ?_; rintro e w3 ⟨rfl, hb3⟩))
    rename_i hH
    have HH := Lib.hid hH.1
    clear hH
    go_wp2
    go_ret
    exact ⟨rfl, HH.out⟩

theorem bytes_law (a b c0 c1 c2 : Int) (w : World) (a0 : 0 ≤ c0) (a1 : c0 ≤ 255) (b0 : 0 ≤ c1) (b1 : c1 ≤ 255) (d0 : 0 ≤ c2) (d1 : c2 ≤ 255) (hg : Nowhere w) :
    Calls Tryd.prog 3 #[.int .u64 a, .int .u64 b, .agg #[.int .u8 c0, .int .u8 c1, .int .u8 c2]] w fun e w' => e = .returned (.bool true) ∧ Below w.heap.size w w' := by
  by_cases h0 : c0 = 255
  · by_cases h1 : c1 = 255 ∧ c2 = 255
    · exact bytes_none a b c0 c1 c2 w a0 a1 b0 b1 d0 d1 hg ⟨h0, h1.1, h1.2⟩
    · exact bytes_last a b c0 c1 c2 w a0 a1 b0 b1 d0 d1 hg ⟨h0, h1⟩
  · exact bytes_first a b c0 c1 c2 w a0 a1 b0 b1 d0 d1 hg h0
end Go.Proofs.YtflghjamneganaaDoor.PlaceB
