/- Layer 7's example: the law's 'fixed'. -/
import Derived.Test.YthmcakaboebagaaRingD
import Derived.Test.YthmcakaboebagaaPlaceG
import Derived.WalkMore
namespace Go.Proofs.Ythmcakaboebagaa.RingT
set_option linter.unusedVariables false
set_option linter.unusedSimpArgs false
open Go.RowKit
open Go.Proofs.Ythmcakaboebagaa.PlaceM Go.Proofs.Ythmcakaboebagaa.PlaceV Go.Proofs.Ythmcakaboebagaa.PlaceG Go.Proofs.Ythmcakaboebagaa.RingM Go.Proofs.Ythmcakaboebagaa.RingN Go.Proofs.Ythmcakaboebagaa.RingC Go.Proofs.Ythmcakaboebagaa.RingE Go.Proofs.Ythmcakaboebagaa.RingD Go.Proofs.Ythmcakaboebagaa.Rw Go.Proofs.Ythmcakaboebagaa.Own

theorem blk3 (w : World) (x y z : Array Value) (t u v : TypeId) : Blk (((w.alloc (.cells x t)).alloc (.cells y u)).alloc (.cells z v)) w.heap.size x t ∧ Blk (((w.alloc (.cells x t)).alloc (.cells y u)).alloc (.cells z v)) (w.heap.size + 1) y u ∧ Blk (((w.alloc (.cells x t)).alloc (.cells y u)).alloc (.cells z v)) (w.heap.size + 2) z v ∧ Below w.heap.size w (((w.alloc (.cells x t)).alloc (.cells y u)).alloc (.cells z v)) := by
  refine ⟨((Blk.new_ w x t).alloc _).alloc _, ?_, ?_, (((Below.refl _ _).alloc (Nat.le_refl _) _).alloc (by simp) _).alloc (by simp; omega) _⟩
  · have := (Blk.new_ (w.alloc (.cells x t)) y u).alloc (.cells z v)
    simpa using this
  · have := Blk.new_ ((w.alloc (.cells x t)).alloc (.cells y u)) z v
    simpa using this
def one : Pa := ⟨⟨#[97]⟩, ⟨#[]⟩, false⟩
theorem link_one (W : World) (b : Nat) (t u v : TypeId) (h1 : Blk W b #[.string ⟨#[97]⟩, .string ⟨#[]⟩, .bool false] t) (h2 : Blk W (b + 1) #[.int .u64 5] u) (h3 : Blk W (b + 2) #[.complex .f64 (floatOfInt .f64 2) (floatOfInt .f64 8)] v) :
    Calls Try.prog 13 #[.int .u64 5, .slice (some ⟨b, 0, none⟩) 1 1, .slice (some ⟨b + 1, 0, none⟩) 1 1, .slice (some ⟨b + 2, 0, none⟩) 1 1] W fun e w' => ∃ g, e = .returned (.tuple #[.slice (some ⟨g, 0, none⟩) 1 1, .int .i64 0]) ∧ w'.cell? ⟨g, 3, none⟩ = some (.int .i64 1) ∧ w'.cell? ⟨g, 4, none⟩ = some (.complex .f64 (floatOfInt .f64 2) (floatOfInt .f64 8)) ∧ Below W.heap.size W w' := by
  have a2 := fi_rt 2 (by omega) (by omega)
  have a8 := fi_rt 8 (by omega) (by omega)
  have n2 := fi_nm 2 (by omega) (by omega)
  have n8 := fi_nm 8 (by omega) (by omega)
  refine (link_calls (some ⟨b, 0, none⟩) (some ⟨b + 1, 0, none⟩) (some ⟨b + 2, 0, none⟩) 5 1 1 1 1 (fun _ => one) (fun _ => 5) (fun _ => (floatOfInt .f64 2, floatOfInt .f64 8)) W (by omega) (by omega)
    (fun k hk => ⟨b, 0, rfl, h1.lt, fun i x hx => ?_⟩) (fun k hk => ⟨b + 1, 0, rfl, h2.lt, ?_⟩) (fun k hk => ⟨b + 2, 0, rfl, h3.lt, ?_⟩) (fun j hj => ⟨by decide, by decide⟩)).mono ?_
  · obtain rfl : k = 0 := by omega
    rw [show 0 + 0 * 3 + i = i by omega, h1.cell i]
    simpa [one, Pa.cells] using hx
  · obtain rfl : k = 0 := by omega
    exact h2.cell 0
  · obtain rfl : k = 0 := by omega
    exact h3.cell 0
  · rintro e w' ⟨h | ⟨_, i, hi, hm⟩, hb⟩
    · obtain ⟨g, rfl, hio, _⟩ := h
      have hc := hio.cells 0 (by omega)
      have h3 := hc 3 (.int .i64 1) rfl
      have h4 := hc 4 (.complex .f64 (floatOfInt .f64 2) (floatOfInt .f64 8)) rfl
      rw [show 0 * 8 + 3 = 3 by omega] at h3
      rw [show 0 * 8 + 4 = 4 by omega] at h4
      exact ⟨g, rfl, h3, h4, hb⟩
    · exfalso
      obtain rfl : i = 0 := by omega
      have : may (li 5 1 (fun _ => one) (fun _ => 5) (fun _ => (floatOfInt .f64 2, floatOfInt .f64 8)) 0) = true := by
        refine may_of ?_
        unfold mayP li one
        dsimp only
        rw [a2, a8, n2, n8]
        decide
      rw [this] at hm
      cases hm
theorem same_order2 : FloatKind.f64.format.order (floatOfInt .f64 2) (floatOfInt .f64 2) = some .eq := order_fi 2 (by omega) (by omega)
theorem same_order8 : FloatKind.f64.format.order (floatOfInt .f64 8) (floatOfInt .f64 8) = some .eq := order_fi 8 (by omega) (by omega)
set_option maxRecDepth 100000 in
set_option maxHeartbeats 1000000 in
theorem fixed_calls (w : World) : Calls Try.prog 7 #[] w fun e w' => e = .returned (.bool true) ∧ Below w.heap.size w w' := by
  have o2 := same_order2
  have o8 := same_order8
  have HS : Hid (∀ w, Calls Try.prog 8 #[.string ⟨#[97]⟩, .string ⟨#[98, 99]⟩] w fun e w' => e = .returned (.int .i64 35) ∧ w = w') := Lib.hid (fun w => size_calls ⟨#[97]⟩ ⟨#[98, 99]⟩ w (by decide) (by decide))
  go_enter Try.func7, Try.ntmps7
  go_wp2_with (go_at_call 16; refine (of_yes 2 8 _ (by omega) (by omega) (by omega) (by omega)).mono ?_; rintro e w' ⟨rfl, rfl⟩)
  obtain ⟨b1, b2, b3, hb⟩ := blk3 w #[.string ⟨#[97]⟩, .string ⟨#[]⟩, .bool false] #[.int .u64 5] #[.complex .f64 (floatOfInt .f64 2) (floatOfInt .f64 8)] 47 25 31
  refine (link_one _ w.heap.size _ _ _ b1 b2 b3).mono ?_
  rintro e w1 ⟨g, rfl, c3, c4, hb1⟩
  have HB := Lib.hid (keeps hb hb1)
  clear b1 b2 b3 hb hb1
  go_wp2_with (go_at_call 8; refine (HS.out _).mono ?_; rintro e w' ⟨rfl, rfl⟩)
  go_ret
  exact ⟨rfl, HB.out⟩
end Go.Proofs.Ythmcakaboebagaa.RingT
