/- The contracts of the document's answer for layer 7: May, Size. -/
import Derived.Test.YthbafcihmcjchaaGreatDoorRingM
import Derived.Test.YthbafcihmcjchaaGreatDoorPlaceV
import Derived.Below
namespace Go.Proofs.YthbafcihmcjchaaGreatDoor.RingR
set_option linter.unusedVariables false
set_option linter.unusedSimpArgs false
open Go.RowKit
open Go.Proofs.YthbafcihmcjchaaGreatDoor.PlaceM Go.Proofs.YthbafcihmcjchaaGreatDoor.PlaceV Go.Proofs.YthbafcihmcjchaaGreatDoor.RingM

theorem right_is {x y : Nat} {b : Bool} (w : World) (h : (rt x && rt y) = b) : Calls Tryz.prog 56 #[.complex .f64 x y] w fun e w' => e = .returned (.bool b) ∧ w = w' := by
  subst h
  exact right_calls x y w
theorem sector_is {x y : Nat} {s : Int} (w : World) (hx : rt x = true) (hs : nm x = s) : Calls Tryz.prog 29 #[.complex .f64 x y] w fun e w' => e = .returned (.int .i64 s) ∧ w = w' := by
  subst hs
  exact sector_calls x y w hx
theorem offset_is {x y : Nat} {s : Int} (w : World) (hy : rt y = true) (hs : nm y = s) : Calls Tryz.prog 31 #[.complex .f64 x y] w fun e w' => e = .returned (.int .i64 s) ∧ w = w' := by
  subst hs
  exact offset_calls x y w hy
set_option maxRecDepth 100000 in
set_option maxHeartbeats 4000000 in
theorem refmay_calls (x : It) (w : World) (hk : x.key.size ≤ maxLen) (hv : x.value.size ≤ maxLen) :
    Calls Tryz.prog 69 #[.agg #[.int .u64 x.seq, .int .u64 x.ver, .int .i64 x.index, .int .i64 x.count, .complex .f64 x.re x.im, .bool x.gone, .string x.key, .string x.value]] w fun e w' => e = .returned (.bool (may x)) ∧ Below w.heap.size w w' := by
  unfold maxLen at hk hv
  cases hm : may x with
  | false =>
    have hw := may_ways hm
    obtain ⟨seq, ver, index, count, re, im, gone, key, value⟩ := x
    dsimp only at hw hk hv ⊢
    clear hm
    have hbel : Below w.heap.size w (w.alloc (.cells #[.int .u64 seq, .int .u64 ver, .int .i64 index, .int .i64 count, .complex .f64 re im, .bool gone, .string key, .string value] 99)) := (Below.refl _ _).alloc (Nat.le_refl _) _
    have HW := Lib.hid hbel
    clear hbel
    rcases hw with h1 | ⟨h1, h2⟩ | ⟨⟨h1, h2⟩, hw⟩
    · have R := Lib.hid (fun w => right_is (x := re) (y := im) (b := false) w (by rw [h1]; rfl))
      clear h1
      go_enter Tryz.func69, Tryz.ntmps69
      go_wp2_with (go_at_call 56; refine (R.out _).mono ?_; rintro e w' ⟨rfl, rfl⟩)
      go_ret
      first | exact ⟨rfl, HW.out⟩ | exact ⟨ret_bool (by rw [decide_eq_false_iff_not]; omega), HW.out⟩ | exact ⟨ret_bool (by rw [decide_eq_true_eq]; omega), HW.out⟩
    · have R := Lib.hid (fun w => right_is (x := re) (y := im) (b := false) w (by rw [h1, h2]; rfl))
      clear h1 h2
      go_enter Tryz.func69, Tryz.ntmps69
      go_wp2_with (go_at_call 56; refine (R.out _).mono ?_; rintro e w' ⟨rfl, rfl⟩)
      go_ret
      first | exact ⟨rfl, HW.out⟩ | exact ⟨ret_bool (by rw [decide_eq_false_iff_not]; omega), HW.out⟩ | exact ⟨ret_bool (by rw [decide_eq_true_eq]; omega), HW.out⟩
    · have R := Lib.hid (fun w => right_is (x := re) (y := im) (b := true) w (by rw [h1, h2]; rfl))
      obtain ⟨s, hs⟩ : ∃ s, nm re = s := ⟨_, rfl⟩
      obtain ⟨o, ho⟩ : ∃ o, nm im = o := ⟨_, rfl⟩
      have S := Lib.hid (fun w => sector_is (y := im) w h1 hs)
      have O := Lib.hid (fun w => offset_is (x := re) w h2 ho)
      rw [hs, ho] at hw
      clear h1 h2 hs ho
      rcases hw with h | ⟨h3, h⟩ | ⟨⟨h3, h4⟩, hw⟩
      · go_enter Tryz.func69, Tryz.ntmps69
        go_wp2_with (first
          | (go_at_call 56; refine (R.out _).mono ?_; rintro e w' ⟨rfl, rfl⟩)
          | (go_at_call 29; refine (S.out _).mono ?_; rintro e w' ⟨rfl, rfl⟩)
          | (go_at_call 31; refine (O.out _).mono ?_; rintro e w' ⟨rfl, rfl⟩))
        go_ret
        first | exact ⟨rfl, HW.out⟩ | exact ⟨ret_bool (by rw [decide_eq_false_iff_not]; omega), HW.out⟩ | exact ⟨ret_bool (by rw [decide_eq_true_eq]; omega), HW.out⟩
      · go_enter Tryz.func69, Tryz.ntmps69
        go_wp2_with (first
          | (go_at_call 56; refine (R.out _).mono ?_; rintro e w' ⟨rfl, rfl⟩)
          | (go_at_call 29; refine (S.out _).mono ?_; rintro e w' ⟨rfl, rfl⟩)
          | (go_at_call 31; refine (O.out _).mono ?_; rintro e w' ⟨rfl, rfl⟩))
        go_ret
        first | exact ⟨rfl, HW.out⟩ | exact ⟨ret_bool (by rw [decide_eq_false_iff_not]; omega), HW.out⟩ | exact ⟨ret_bool (by rw [decide_eq_true_eq]; omega), HW.out⟩
      · rcases hw with ⟨rfl, hv1⟩ | ⟨hg, hw⟩
        · have hv2 := some_of hv1
          clear hv1
          go_enter Tryz.func69, Tryz.ntmps69
          go_wp2_with (first
            | (go_at_call 56; refine (R.out _).mono ?_; rintro e w' ⟨rfl, rfl⟩)
            | (go_at_call 29; refine (S.out _).mono ?_; rintro e w' ⟨rfl, rfl⟩)
            | (go_at_call 31; refine (O.out _).mono ?_; rintro e w' ⟨rfl, rfl⟩))
          go_ret
          first | exact ⟨rfl, HW.out⟩ | exact ⟨ret_bool (by rw [decide_eq_false_iff_not]; omega), HW.out⟩ | exact ⟨ret_bool (by rw [decide_eq_true_eq]; omega), HW.out⟩
        · rcases hw with h5 | h5 | ⟨⟨h5, h6⟩, hw⟩
          · obtain rfl := empty_of h5
            clear h5
            rcases hg with rfl | hg
            · go_enter Tryz.func69, Tryz.ntmps69
              go_wp2_with (first
                | (go_at_call 56; refine (R.out _).mono ?_; rintro e w' ⟨rfl, rfl⟩)
                | (go_at_call 29; refine (S.out _).mono ?_; rintro e w' ⟨rfl, rfl⟩)
                | (go_at_call 31; refine (O.out _).mono ?_; rintro e w' ⟨rfl, rfl⟩))
              go_ret
              first | exact ⟨rfl, HW.out⟩ | exact ⟨ret_bool (by rw [decide_eq_false_iff_not]; omega), HW.out⟩ | exact ⟨ret_bool (by rw [decide_eq_true_eq]; omega), HW.out⟩
            · obtain rfl := empty_of hg
              clear hg
              cases gone
              all_goals
                go_enter Tryz.func69, Tryz.ntmps69
                go_wp2_with (first
                  | (go_at_call 56; refine (R.out _).mono ?_; rintro e w' ⟨rfl, rfl⟩)
                  | (go_at_call 29; refine (S.out _).mono ?_; rintro e w' ⟨rfl, rfl⟩)
                  | (go_at_call 31; refine (O.out _).mono ?_; rintro e w' ⟨rfl, rfl⟩))
                go_ret
                first | exact ⟨rfl, HW.out⟩ | exact ⟨ret_bool (by rw [decide_eq_false_iff_not]; omega), HW.out⟩ | exact ⟨ret_bool (by rw [decide_eq_true_eq]; omega), HW.out⟩
          · have k2 := some_of (s := key) (by omega)
            rcases hg with rfl | hg
            · go_enter Tryz.func69, Tryz.ntmps69
              go_wp2_with (first
                | (go_at_call 56; refine (R.out _).mono ?_; rintro e w' ⟨rfl, rfl⟩)
                | (go_at_call 29; refine (S.out _).mono ?_; rintro e w' ⟨rfl, rfl⟩)
                | (go_at_call 31; refine (O.out _).mono ?_; rintro e w' ⟨rfl, rfl⟩))
              go_ret
              first | exact ⟨rfl, HW.out⟩ | exact ⟨ret_bool (by rw [decide_eq_false_iff_not]; omega), HW.out⟩ | exact ⟨ret_bool (by rw [decide_eq_true_eq]; omega), HW.out⟩
            · obtain rfl := empty_of hg
              clear hg
              cases gone
              all_goals
                go_enter Tryz.func69, Tryz.ntmps69
                go_wp2_with (first
                  | (go_at_call 56; refine (R.out _).mono ?_; rintro e w' ⟨rfl, rfl⟩)
                  | (go_at_call 29; refine (S.out _).mono ?_; rintro e w' ⟨rfl, rfl⟩)
                  | (go_at_call 31; refine (O.out _).mono ?_; rintro e w' ⟨rfl, rfl⟩))
                go_ret
                first | exact ⟨rfl, HW.out⟩ | exact ⟨ret_bool (by rw [decide_eq_false_iff_not]; omega), HW.out⟩ | exact ⟨ret_bool (by rw [decide_eq_true_eq]; omega), HW.out⟩
          · have k2 := some_of (s := key) (by omega)
            rcases hw with h7 | ⟨h7, hw⟩
            · have hz : value.size ≠ 0 := by omega
              rcases hg with rfl | hg
              · clear hz
                go_enter Tryz.func69, Tryz.ntmps69
                go_wp2_with (first
                  | (go_at_call 56; refine (R.out _).mono ?_; rintro e w' ⟨rfl, rfl⟩)
                  | (go_at_call 29; refine (S.out _).mono ?_; rintro e w' ⟨rfl, rfl⟩)
                  | (go_at_call 31; refine (O.out _).mono ?_; rintro e w' ⟨rfl, rfl⟩))
                go_ret
                first | exact ⟨rfl, HW.out⟩ | exact ⟨ret_bool (by rw [decide_eq_false_iff_not]; omega), HW.out⟩ | exact ⟨ret_bool (by rw [decide_eq_true_eq]; omega), HW.out⟩
              · exact absurd hg hz
            · rcases hg with rfl | hg
              · rcases hw with h8 | h8 | ⟨⟨h8, h9⟩, h10 | ⟨h10, h11⟩⟩
                all_goals
                  go_enter Tryz.func69, Tryz.ntmps69
                  go_wp2_with (first
                    | (go_at_call 56; refine (R.out _).mono ?_; rintro e w' ⟨rfl, rfl⟩)
                    | (go_at_call 29; refine (S.out _).mono ?_; rintro e w' ⟨rfl, rfl⟩)
                    | (go_at_call 31; refine (O.out _).mono ?_; rintro e w' ⟨rfl, rfl⟩))
                  go_ret
                  first | exact ⟨rfl, HW.out⟩ | exact ⟨ret_bool (by rw [decide_eq_false_iff_not]; omega), HW.out⟩ | exact ⟨ret_bool (by rw [decide_eq_true_eq]; omega), HW.out⟩
              · obtain rfl := empty_of hg
                clear hg h7
                cases gone
                all_goals
                  rcases hw with h8 | h8 | ⟨⟨h8, h9⟩, h10 | ⟨h10, h11⟩⟩
                  all_goals
                    go_enter Tryz.func69, Tryz.ntmps69
                    go_wp2_with (first
                      | (go_at_call 56; refine (R.out _).mono ?_; rintro e w' ⟨rfl, rfl⟩)
                      | (go_at_call 29; refine (S.out _).mono ?_; rintro e w' ⟨rfl, rfl⟩)
                      | (go_at_call 31; refine (O.out _).mono ?_; rintro e w' ⟨rfl, rfl⟩))
                    go_ret
                    first | exact ⟨rfl, HW.out⟩ | exact ⟨ret_bool (by rw [decide_eq_false_iff_not]; omega), HW.out⟩ | exact ⟨ret_bool (by rw [decide_eq_true_eq]; omega), HW.out⟩
  | true =>
    obtain ⟨h1, h2, h3, h4, h5, h6, h7, h8, h9, h10, h11, h12⟩ := may_yes hm
    obtain ⟨seq, ver, index, count, re, im, gone, key, value⟩ := x
    dsimp only at h1 h2 h3 h4 h5 h6 h7 h8 h9 h10 h11 h12 hk hv ⊢
    clear hm
    have hbel : Below w.heap.size w (w.alloc (.cells #[.int .u64 seq, .int .u64 ver, .int .i64 index, .int .i64 count, .complex .f64 re im, .bool gone, .string key, .string value] 99)) := (Below.refl _ _).alloc (Nat.le_refl _) _
    have HW := Lib.hid hbel
    clear hbel
    have R := Lib.hid (fun w => right_is (x := re) (y := im) (b := true) w (by rw [h1, h2]; rfl))
    obtain ⟨s, hs⟩ : ∃ s, nm re = s := ⟨_, rfl⟩
    obtain ⟨o, ho⟩ : ∃ o, nm im = o := ⟨_, rfl⟩
    have S := Lib.hid (fun w => sector_is (y := im) w h1 hs)
    have O := Lib.hid (fun w => offset_is (x := re) w h2 ho)
    rw [hs] at h3
    rw [ho] at h4
    clear h1 h2 hs ho
    have k2 := some_of (s := key) (by omega)
    cases gone
    · clear h5
      go_enter Tryz.func69, Tryz.ntmps69
      go_wp2_with (first
        | (go_at_call 56; refine (R.out _).mono ?_; rintro e w' ⟨rfl, rfl⟩)
        | (go_at_call 29; refine (S.out _).mono ?_; rintro e w' ⟨rfl, rfl⟩)
        | (go_at_call 31; refine (O.out _).mono ?_; rintro e w' ⟨rfl, rfl⟩))
      go_ret
      first | exact ⟨rfl, HW.out⟩ | exact ⟨ret_bool (by rw [decide_eq_false_iff_not]; omega), HW.out⟩ | exact ⟨ret_bool (by rw [decide_eq_true_eq]; omega), HW.out⟩
    · obtain rfl := empty_of (h5 rfl)
      clear h5
      go_enter Tryz.func69, Tryz.ntmps69
      go_wp2_with (first
        | (go_at_call 56; refine (R.out _).mono ?_; rintro e w' ⟨rfl, rfl⟩)
        | (go_at_call 29; refine (S.out _).mono ?_; rintro e w' ⟨rfl, rfl⟩)
        | (go_at_call 31; refine (O.out _).mono ?_; rintro e w' ⟨rfl, rfl⟩))
      go_ret
      first | exact ⟨rfl, HW.out⟩ | exact ⟨ret_bool (by rw [decide_eq_false_iff_not]; omega), HW.out⟩ | exact ⟨ret_bool (by rw [decide_eq_true_eq]; omega), HW.out⟩
end Go.Proofs.YthbafcihmcjchaaGreatDoor.RingR
