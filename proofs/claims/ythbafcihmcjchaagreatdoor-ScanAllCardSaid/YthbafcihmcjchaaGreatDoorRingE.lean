/- The contracts of layer 7's small functions (the project's): Size, next, May. -/
import Derived.Test.YthbafcihmcjchaaGreatDoorRingV
import Derived.Test.YthbafcihmcjchaaGreatDoorPlaceV
import Derived.Below
namespace Go.Proofs.YthbafcihmcjchaaGreatDoor.RingE
set_option linter.unusedVariables false
set_option linter.unusedSimpArgs false
open Go.RowKit
open Go.Proofs.YthbafcihmcjchaaGreatDoor.PlaceM Go.Proofs.YthbafcihmcjchaaGreatDoor.PlaceV Go.Proofs.YthbafcihmcjchaaGreatDoor.RingM Go.Proofs.YthbafcihmcjchaaGreatDoor.RingC Go.Proofs.YthbafcihmcjchaaGreatDoor.RingV

theorem parts_are {x y : Nat} {s o : Int} (w : World) (hx : rt x = true) (hy : rt y = true) (hs : nm x = s) (ho : nm y = o) :
    Calls Tryz.prog 21 #[.complex .f64 x y] w fun e w' => e = .returned (.tuple #[.int .i64 s, .int .i64 o, .bool true]) ∧ w = w' := by
  subst hs
  subst ho
  exact parts_yes x y w hx hy
/-- The ways in which one may not be, in the order in which the project asks. -/
theorem may_turns {x : It} (h : may x = false) :
    (x.count < 1 ∨ 255 < x.count) ∨ ((1 ≤ x.count ∧ x.count ≤ 255) ∧
    ((x.index < 0 ∨ x.count ≤ x.index) ∨ ((0 ≤ x.index ∧ x.index < x.count) ∧
    ((x.key.size < 1 ∨ 48 < x.key.size) ∨ ((1 ≤ x.key.size ∧ x.key.size ≤ 48) ∧
    ((x.gone = true ∧ x.value.size ≠ 0) ∨ ((x.gone = false ∨ x.value.size = 0) ∧
    ((rt x.re && rt x.im) = false ∨ ((rt x.re = true ∧ rt x.im = true) ∧
      (254 < nm x.re ∨ (nm x.re ≤ 254 ∧ 65535 < nm x.im) ∨ ((nm x.re ≤ 254 ∧ nm x.im ≤ 65535) ∧ 64 < x.value.size))))))))))) := by
  have h := of_decide_eq_false h
  unfold mayP at h
  cases h1 : rt x.re <;> cases h2 : rt x.im <;> cases h3 : x.gone <;> simp only [h1, h2, h3, Bool.false_and, Bool.and_false, Bool.true_and, Bool.and_self, Bool.false_eq_true, Bool.true_eq_false, false_and, and_false, true_and, and_true, false_or, or_false, true_or, or_true, false_implies, forall_const, not_false_eq_true] at h ⊢ <;> omega
set_option maxRecDepth 100000 in
set_option maxHeartbeats 4000000 in
theorem may_calls (x : It) (w : World) (hk : x.key.size ≤ maxLen) (hv : x.value.size ≤ maxLen) :
    Calls Tryz.prog 89 #[.agg (cells x)] w fun e w' => e = .returned (.bool (may x)) ∧ Below w.heap.size w w' := by
  unfold maxLen at hk hv
  cases hm : may x with
  | false =>
    have hw := may_turns hm
    obtain ⟨seq, ver, index, count, re, im, gone, key, value⟩ := x
    dsimp only at hw hk hv ⊢
    clear hm
    have hbel : Below w.heap.size w (w.alloc (.cells #[.int .u64 seq, .int .u64 ver, .int .i64 index, .int .i64 count, .complex .f64 re im, .bool gone, .string key, .string value] 99)) := (Below.refl _ _).alloc (Nat.le_refl _) _
    have HW := Lib.hid hbel
    clear hbel
    rcases hw with hw | ⟨hc, hw⟩
    · go_enter Tryz.func89, Tryz.ntmps89
      go_wp2
      all_goals (go_ret; exact ⟨rfl, HW.out⟩)
    rcases hw with hw | ⟨hi, hw⟩
    · go_enter Tryz.func89, Tryz.ntmps89
      go_wp2
      all_goals (go_ret; exact ⟨rfl, HW.out⟩)
    rcases hw with hw | ⟨hy, hw⟩
    · go_enter Tryz.func89, Tryz.ntmps89
      go_wp2
      all_goals (go_ret; exact ⟨rfl, HW.out⟩)
    rcases hw with ⟨rfl, hv1⟩ | ⟨hg, hw⟩
    · have hv2 := some_of hv1
      clear hv1
      go_enter Tryz.func89, Tryz.ntmps89
      go_wp2
      all_goals (go_ret; exact ⟨rfl, HW.out⟩)
    have ways : gone = false ∨ (gone = true ∧ value = ⟨#[]⟩) := by
      cases gone
      · exact .inl rfl
      · rcases hg with hg | hg
        · cases hg
        · exact .inr ⟨rfl, empty_of hg⟩
    clear hg
    rcases hw with hw | ⟨⟨h1, h2⟩, hw⟩
    · have R := Lib.hid (fun w => parts_no re im w hw)
      clear hw
      rcases ways with rfl | ⟨rfl, rfl⟩
      all_goals
        go_enter Tryz.func89, Tryz.ntmps89
        go_wp2_with (go_at_call 21; refine (R.out _).mono ?_; rintro e w' ⟨rfl, rfl⟩)
        all_goals go_ret
        all_goals exact ⟨rfl, HW.out⟩
    · obtain ⟨s, hs⟩ : ∃ s, nm re = s := ⟨_, rfl⟩
      obtain ⟨o, ho⟩ : ∃ o, nm im = o := ⟨_, rfl⟩
      have R := Lib.hid (fun w => parts_are w h1 h2 hs ho)
      rw [hs, ho] at hw
      clear h1 h2 hs ho
      rcases ways with rfl | ⟨rfl, rfl⟩
      all_goals
        rcases hw with hw | ⟨hw1, hw2⟩ | ⟨⟨hw1, hw2⟩, hw3⟩
        all_goals
          go_enter Tryz.func89, Tryz.ntmps89
          go_wp2_with (go_at_call 21; refine (R.out _).mono ?_; rintro e w' ⟨rfl, rfl⟩)
          all_goals go_ret
          all_goals first | exact ⟨rfl, HW.out⟩ | exact ⟨ret_bool (by rw [decide_eq_false_iff_not]; omega), HW.out⟩
  | true =>
    obtain ⟨h1, h2, h3, h4, h5, h6, h7, h8, h9, h10, h11, h12⟩ := may_yes hm
    obtain ⟨seq, ver, index, count, re, im, gone, key, value⟩ := x
    dsimp only at h1 h2 h3 h4 h5 h6 h7 h8 h9 h10 h11 h12 hk hv ⊢
    clear hm
    have hbel : Below w.heap.size w (w.alloc (.cells #[.int .u64 seq, .int .u64 ver, .int .i64 index, .int .i64 count, .complex .f64 re im, .bool gone, .string key, .string value] 99)) := (Below.refl _ _).alloc (Nat.le_refl _) _
    have HW := Lib.hid hbel
    clear hbel
    obtain ⟨s, hs⟩ : ∃ s, nm re = s := ⟨_, rfl⟩
    obtain ⟨o, ho⟩ : ∃ o, nm im = o := ⟨_, rfl⟩
    have R := Lib.hid (fun w => parts_are w h1 h2 hs ho)
    rw [hs] at h3
    rw [ho] at h4
    clear h1 h2 hs ho
    have ways : gone = false ∨ (gone = true ∧ value = ⟨#[]⟩) := by
      cases gone
      · exact .inl rfl
      · exact .inr ⟨rfl, empty_of (h5 rfl)⟩
    clear h5
    rcases ways with rfl | ⟨rfl, rfl⟩
    all_goals
      go_enter Tryz.func89, Tryz.ntmps89
      go_wp2_with (go_at_call 21; refine (R.out _).mono ?_; rintro e w' ⟨rfl, rfl⟩)
      go_ret
      first | exact ⟨rfl, HW.out⟩ | exact ⟨ret_bool (by rw [decide_eq_true_eq]; omega), HW.out⟩
end Go.Proofs.YthbafcihmcjchaaGreatDoor.RingE
