/- For every operation, the law NorNil returns true and leaves its argument as it was. No condition. -/
import Derived.Test.YtdcmpkohengnaaaRows
import Derived.Test.YtdcmpkohengnaaaNorL
import Derived.Test.YtdcmpkohengnaaaOpen
import Derived.WalkKit
import Derived.ProofKit
import Derived.OpenShut
import Derived.ShutString
import Derived.ChangeOld
import Derived.Below
namespace Go.Proofs.Ytdcmpkohengnaaa.norNil
open Go.ChangeShapes Go.WideShapes Go.ChangeAt Go.RowKit
open Go.ChangeMaps (open_string shut_string)
open Go.Proofs.Ytdcmpkohengnaaa
set_option linter.unusedVariables false

theorem own : ownKnob Try.prog.godebug = none := by kernel_rfl
theorem laidOut : laidOutB Try.prog = true := by kernel_rfl

theorem walk (a0_0 : Int) (a0_1 : Int) (a0_2 : Int) (a0_3 : Option Addr) (l0_3 q0_3 : Nat) (a0_4 : Int) (a0_5 : Int) (a0_6 : Int) (w : World) (w0_0 : (Lit.int .i64 a0_0).wf = true) (w0_1 : (Lit.int .i64 a0_1).wf = true) (w0_2 : (Lit.int .i64 a0_2).wf = true) (w0_4 : (Lit.int .i64 a0_4).wf = true) (w0_5 : (Lit.int .i64 a0_5).wf = true) (w0_6 : (Lit.int .u8 a0_6).wf = true) :
    Calls Try.prog 5 #[.agg #[.int .i64 a0_0, .int .i64 a0_1, .int .i64 a0_2, .slice a0_3 l0_3 q0_3, .int .i64 a0_4, .int .i64 a0_5, .int .u8 a0_6]] w fun e w' => e = .returned (.bool true) ∧ Below w.heap.size w w' := by
  exact NorL.nil_law a0_0 a0_1 a0_2 a0_3 l0_3 q0_3 a0_4 a0_5 a0_6 w

set_option maxRecDepth 100000 in
theorem lifted (os : Os) (started : os.Started) (H : Type) (enc : TypeId × Value → H) :
    ReturnsInHanded {} Try.checked os 5 .any (Rows.norNilSpec.pre6 enc Try.prog Try.f5 Rows.norNilRow.domain false) (Rows.norNilSpec.post enc Try.prog Try.f5 false true false false) := by
  refine returnsInHanded_of_change (C := Try.checked) own started (by kernel_rfl) Try.func5
    (ChangeSpec.witness6 (enc := enc) (C := Try.checked) false ⟨#[], #[.agg #[.int .i64 0, .int .i64 0, .int .i64 0, .slice none 0 0, .int .i64 0, .int .i64 0, .int .u8 0]], []⟩ 8 (by kernel_rfl) (by kernel_rfl) (by kernel_rfl) (by kernel_rfl)) ?_
  intro W base args ds gs before hval0 hW hcnd _
  have hval : ∀ (j : Nat) t v, Try.f5.params[j]? = some t → args[j]? = some v → Value.okWide Try.prog W .any base t v := hval0
  have hW' := hW
  obtain ⟨p, q, hA0, hV, rfl, hfz, hnd⟩ := hW
  have hA : DataW.TrodAll enc Try.prog W 0 (fun _ => true) true Try.f5.params.toList args.toList ds p := hA0
  rw [Try.params5] at hA hval
  obtain ⟨v0, vs0, d0, ds0, p0, q0, hargs, rfl, rfl, h0, r0⟩ := trodAll_cons hA
  obtain ⟨rfl, rfl, rfl⟩ := trodAll_nil r0
  obtain rfl : args = #[v0] := by cases args; simp_all
  obtain ⟨rfl, rfl⟩ := trodVars_none hV
  have k0 := h0
  have lt0 : ∀ x ∈ p0, x.block < W.heap.size := by obtain ⟨m, hm⟩ := k0; exact DataW.trod_lt m _ _ _ hm
  obtain ⟨c0, rfl, o0_0⟩ := Open.open_cells (ts := [3, 3, 3, 38, 3, 3, 5]) (by kernel_rfl) (by kernel_rfl) (by kernel_rfl) (hval 0 40 v0 rfl rfl)
  obtain ⟨_, _, rfl, x0_0, o0_1⟩ := o0_0.cons_
  obtain ⟨a0_0, rfl, w0_0⟩ := Open.cell_int Try.underlying3 x0_0
  obtain ⟨_, _, rfl, x0_1, o0_2⟩ := o0_1.cons_
  obtain ⟨a0_1, rfl, w0_1⟩ := Open.cell_int Try.underlying3 x0_1
  obtain ⟨_, _, rfl, x0_2, o0_3⟩ := o0_2.cons_
  obtain ⟨a0_2, rfl, w0_2⟩ := Open.cell_int Try.underlying3 x0_2
  obtain ⟨_, _, rfl, x0_3, o0_4⟩ := o0_3.cons_
  obtain ⟨a0_3, l0_3, q0_3, rfl⟩ := Open.cell_slice Try.underlying38 x0_3
  obtain ⟨_, _, rfl, x0_4, o0_5⟩ := o0_4.cons_
  obtain ⟨a0_4, rfl, w0_4⟩ := Open.cell_int Try.underlying3 x0_4
  obtain ⟨_, _, rfl, x0_5, o0_6⟩ := o0_5.cons_
  obtain ⟨a0_5, rfl, w0_5⟩ := Open.cell_int Try.underlying3 x0_5
  obtain ⟨_, _, rfl, x0_6, o0_7⟩ := o0_6.cons_
  obtain ⟨a0_6, rfl, w0_6⟩ := Open.cell_int Try.underlying5 x0_6
  obtain rfl := o0_7.nil_
  clear hA0 hval0
  refine (walk a0_0 a0_1 a0_2 a0_3 l0_3 q0_3 a0_4 a0_5 a0_6 W w0_0 w0_1 w0_2 w0_4 w0_5 w0_6).mono fun e W' ⟨he, bel⟩ => ?_
  subst he
  exact ⟨_, rfl, _, _, _, [], _, [], hW', trodAll_mk1 (shut_bool Try.underlying4 _), (trodAll_cons_mk (Below.trod laidOut (by kernel_rfl) (of_decide_eq_true (by kernel_rfl)) k0 bel lt0) trodAll_mk0), rfl, bel.frame _, fun h => by cases h⟩

theorem over : Rows.norNilRow.holds Try.pinned (OpenSpec.ofChange Rows.norNilSpec) :=
  OpenClaim.holds_of_wide 5 Try.f5 rfl rfl rfl rfl rfl rfl rfl ⟨rfl, rfl, rfl, rfl, rfl⟩ rfl rfl rfl rfl rfl (by kernel_rfl) Try.func5 (by kernel_rfl)
    (of_decide_eq_true (by kernel_rfl)) (by unfold Func.isWrapper; first | (rw [if_pos (by decide +kernel)]; kernel_rfl) | (rw [if_neg (by decide +kernel)]; exact ⟨rfl, rfl⟩))
    (fun os started H enc _ => lifted os started H enc)

/-- The statement. -/
theorem proved : Rows.NorNilSaid := over
end Go.Proofs.Ytdcmpkohengnaaa.norNil
