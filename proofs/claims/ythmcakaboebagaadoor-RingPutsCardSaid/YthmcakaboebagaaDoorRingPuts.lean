/- For every item by its place's bits, the law RingPuts returns true and leaves its argument as it was; the package's variable 'nowhere' stands as the program lays it. No condition on the argument. -/
import Derived.Test.YthmcakaboebagaaDoorRows
import Derived.Test.YthmcakaboebagaaDoorRingOw
import Derived.Test.YthmcakaboebagaaDoorPlaceOh
import Derived.Test.YthmcakaboebagaaDoorRingP
import Derived.Test.YthmcakaboebagaaDoorRingT
import Derived.Test.YthmcakaboebagaaDoorRingGq
import Derived.Test.YthmcakaboebagaaDoorRingBp
import Derived.Test.YthmcakaboebagaaDoorOpen
import Derived.Test.YthmcakaboebagaaDoorCards
import Derived.Test.YthmcakaboebagaaDoorTie
import Derived.SevenTiedAt
import Derived.OpenVars
import Derived.LaidMore
import Derived.LaidHandle
import Derived.MakeChecks
import Derived.Stop.Joined
import Derived.WalkKit
import Derived.ProofKit
import Derived.OpenShut
import Derived.ShutString
import Derived.ChangeOld
import Derived.Below
namespace Go.Proofs.YthmcakaboebagaaDoor.ringPuts
open Go.ChangeShapes Go.WideShapes Go.ChangeAt Go.RowKit
open Go.ChangeMaps (open_string shut_string)
open Go.Proofs.YthmcakaboebagaaDoor
set_option linter.unusedVariables false

theorem own : ownKnob Tryd.prog.godebug = none := by kernel_rfl
theorem laidOut : laidOutB Tryd.prog = true := by kernel_rfl

theorem walk (seq0 : Int) (ver0 : Int) (index0 : Int) (count0 : Int) (n00 : Int) (n10 : Int) (gone0 : Bool) (key0 : ByteArray) (value0 : ByteArray) (w : World) (w0 : ((0 ≤ seq0 ∧ seq0 ≤ 18446744073709551615) ∧ (0 ≤ ver0 ∧ ver0 ≤ 18446744073709551615)) ∧ key0.size ≤ maxLen ∧ value0.size ≤ maxLen) (wL : laidMetH Tryd.prog [("flint/place.nowhere", Rows.laid_flint_place_nowhere)] w) :
    Calls Tryd.prog 3 #[.agg #[.int .u64 seq0, .int .u64 ver0, .int .i64 index0, .int .i64 count0, .int .u64 n00, .int .u64 n10, .bool gone0, .string key0, .string value0]] w fun e w' => e = .returned (.bool true) ∧ Below w.heap.size w w' := by
  exact RingP.puts_law RingT.fixed_calls RingE.size_calls (fun x w h1 h2 => RingE.may_calls x w h1 h2) (fun A n c xs w h1 h2 h3 h4 => RingGq.get_item A n c xs w h1 h2 h3 h4) (fun x w h1 h2 h3 h4 h5 _ => RingBp.put_ok x w h1 h2 h3 h4 h5) (fun x w h1 h2 h3 => RingBp.put_no x w h1 h2 h3) seq0 ver0 index0 count0 n00 n10 gone0 key0 value0 w w0.1.1.1 w0.1.1.2 w0.1.2.1 w0.1.2.2 w0.2.1 w0.2.2 (PlaceOh.of_laid wL)

theorem door_met (os : Os) (args : Array Value) : laidMetH Tryd.prog [("flint/place.nowhere", Rows.laid_flint_place_nowhere)] ((World.doorLaid Tryd.prog 400 os).forCall (fun _ _ => 0) ⟨#[], args, []⟩).memory :=
  laidMetH_of_parts3 (fuel := 8) (laidMet_of_run' 8 (by kernel_rfl) (by kernel_rfl)) (by kernel_rfl) (by kernel_rfl)

set_option maxRecDepth 100000 in
theorem lifted (os : Os) (started : os.Started) (H : Type) (enc : TypeId × Value → H) :
    ReturnsInHanded {} Tryd.checked os 3 .any (fun w args => (Rows.ringPutsSpec.pre enc Tryd.prog Tryd.f3 [] false w args ∧ laidMetH Tryd.prog [("flint/place.nowhere", Rows.laid_flint_place_nowhere)] w) ∧ sizedMet enc Tryd.prog Tryd.f3 (OpenSpec.ofChange Rows.ringPutsSpec) false w args)
      (Rows.ringPutsSpec.post enc Tryd.prog Tryd.f3 false true false false) := by
  refine returnsInHanded_of_change_and (C := Tryd.checked) (X := fun w _ => laidMetH Tryd.prog [("flint/place.nowhere", Rows.laid_flint_place_nowhere)] w) (fun _ _ _ hh h => h.of_heap hh) own started (by kernel_rfl) Tryd.func3
    (ChangeSpec.witness_shaped (enc := enc) (C := Tryd.checked) (os := os) (X := fun w _ => laidMetH Tryd.prog [("flint/place.nowhere", Rows.laid_flint_place_nowhere)] w) false (World.doorLaid Tryd.prog 400 os) #[.agg #[.int .u64 0, .int .u64 0, .int .i64 0, .int .i64 0, .int .u64 0, .int .u64 0, .bool false, .string ⟨#[]⟩, .string ⟨#[]⟩]] 8 rfl (World.shaped_of_RefB (by kernel_rfl) (by kernel_rfl)) (by kernel_rfl) (by kernel_rfl) (by kernel_rfl) (door_met os _)) ?_
  intro W base args ds gs before hval0 hW hcnd _ hL _
  have hval : ∀ (j : Nat) t v, Tryd.f3.params[j]? = some t → args[j]? = some v → Value.okWide Tryd.prog W .any base t v := hval0
  have hW' := hW
  obtain ⟨p, q, hA0, hV, rfl, hfz, hnd⟩ := hW
  have hA : DataW.TrodAll enc Tryd.prog W 0 (fun _ => true) true Tryd.f3.params.toList args.toList ds p := hA0
  rw [Tryd.params3] at hA hval
  obtain ⟨v0, vs0, d0, ds0, p0, q0, hargs, rfl, rfl, h0, r0⟩ := trodAll_cons hA
  obtain ⟨rfl, rfl, rfl⟩ := trodAll_nil r0
  obtain rfl : args = #[v0] := by cases args; simp_all
  obtain ⟨rfl, rfl⟩ := trodVars_none hV
  have k0 := h0
  have lt0 : ∀ x ∈ p0, x.block < W.heap.size := by obtain ⟨m, hm⟩ := k0; exact DataW.trod_lt m _ _ _ hm
  obtain ⟨seq0, ver0, index0, count0, n00, n10, gone0, key0, value0, rfl, w0⟩ := RingOw.raw_of (hval 0 25 v0 rfl rfl) h0
  clear hA0 hval0
  refine (walk seq0 ver0 index0 count0 n00 n10 gone0 key0 value0 W w0 hL).mono fun e W' ⟨he, bel⟩ => ?_
  subst he
  exact ⟨_, rfl, _, _, _, [], _, [], hW', trodAll_mk1 (shut_bool Tryd.underlying4 _), (trodAll_cons_mk (Below.trod laidOut (by kernel_rfl) (of_decide_eq_true (by kernel_rfl)) k0 bel lt0) trodAll_mk0), rfl, bel.frame _, fun h => by cases h⟩

theorem over : Rows.ringPutsRow.holds Tryd.pinned (OpenSpec.ofChange Rows.ringPutsSpec) :=
  OpenClaim.holds_of_wide 3 Tryd.f3 rfl rfl rfl rfl rfl rfl rfl ⟨rfl, rfl, rfl, rfl, rfl⟩ rfl rfl rfl rfl rfl (by kernel_rfl) Tryd.func3 (by kernel_rfl)
    (of_decide_eq_true (by kernel_rfl)) (by unfold Func.isWrapper; first | (rw [if_pos (by decide +kernel)]; kernel_rfl) | (rw [if_neg (by decide +kernel)]; exact ⟨rfl, rfl⟩))
    (fun os started H enc _ => lifted os started H enc)

/-- The statement: the tied card. -/
theorem proved : Rows.RingPutsCardSaid :=
  Claim7.holds_tied_plain_at .later [] [.data] true (true, "1db3acaecafc320b1d87ca14b0e0de06bd56f041418e8d3a0cbbcf619782d950") false
    over (fun _ h => by cases h) (by kernel_rfl) (fun _ h => by cases h) ringPuts_row_tie rfl ⟨rfl, rfl⟩ (by kernel_rfl) rfl
    (fun f fn hf hfn => by
      obtain rfl : f = 3 := Option.some.inj ((show Tryd.prog.funcNamed "flint/flintlaw07.RingPuts" = some 3 by kernel_rfl).symm.trans hf) |>.symm
      obtain rfl : fn = Tryd.f3 := (Option.some.inj (Tryd.func3.symm.trans hfn)).symm
      exact ⟨by kernel_rfl, fun j t ht => by
        rw [Tryd.params3] at ht
        have h3 : t = 25 := by
          rcases j with _ | j
          · have := ht.symm; simp at this; simp [this]
          · simp at ht
        rcases h3 with rfl
        · exact (show Tryd.prog.wantsStandIn 25 = false by kernel_rfl)⟩)
    (by kernel_rfl)
end Go.Proofs.YthmcakaboebagaaDoor.ringPuts
