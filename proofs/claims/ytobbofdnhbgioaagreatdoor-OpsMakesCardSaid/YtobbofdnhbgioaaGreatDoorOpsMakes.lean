import Derived.Test.YtobbofdnhbgioaaGreatDoorRows
import Derived.Test.YtobbofdnhbgioaaGreatDoorCards
import Derived.Test.YtobbofdnhbgioaaGreatDoorTie
import Derived.SevenTiedAt
import Derived.OpenVars
import Derived.LaidMore
import Derived.Lay
import Derived.LaidHandle
import Derived.MakeChecks
import Derived.Stop.Joined
import Derived.WalkKit
import Derived.ProofKit
import Derived.OpenShut
import Derived.ShutString
import Derived.ChangeOld
import Derived.Below
import Derived.ChangeShapes
import Derived.WideShapes
import Derived.Test.YtobbofdnhbgioaaGreatDoorOpsMakesMBZ
set_option linter.unusedVariables false
set_option maxRecDepth 100000
namespace Go.Proofs.YtobbofdnhbgioaaGreatDoor.opsMakes
open Go.ChangeShapes Go.WideShapes Go.ChangeAt Go.RowKit
open Go.ChangeMaps (open_string shut_string)
open Go.Proofs.YtobbofdnhbgioaaGreatDoor
theorem own : ownKnob Tryz.prog.godebug = none := by kernel_rfl
theorem laidOut : laidOutB Tryz.prog = true := by kernel_rfl
theorem walk (kind0 : Int) (path0 : ByteArray) (other0 : ByteArray) (hn0 : Int) (frm0 : Int) (n0 : Int) (da0 : Option Addr) (dn0 : Nat) (dc0 : Nat) (w : World) (w0 : OpsX.Op20G w ⟨kind0, path0, other0, hn0, frm0, n0, da0, dn0, dc0⟩) (wL : laidMetH Tryz.prog [("unicode/utf8.acceptRanges", Rows.laid_unicode_utf8_acceptRanges), ("unicode/utf8.first", Rows.laid_unicode_utf8_first)] w) (wS : w.ShapedOpen Tryz.prog) :
 Calls Tryz.prog 6 #[.agg #[.int .u8 kind0,.string path0,.string other0,.int .i64 hn0,.int .i64 frm0,.int .i64 n0,.slice da0 dn0 dc0]] w fun e w' => e = .returned (.bool true) ∧ Below w.heap.size w w' := by
 exact OpsL.makes_law OpsF.fix_ok ⟨kind0,path0,other0,hn0,frm0,n0,da0,dn0,dc0⟩ w (NamesW.mx_of wS)
theorem lifted (os : Os) (started : os.Started) (H : Type) (enc : TypeId × Value → H) :
 ReturnsInHanded {} Tryz.checked os 6 .any (fun w args => (Rows.opsMakesSpec.pre enc Tryz.prog Tryz.f6 [] false w args ∧ laidMetH Tryz.prog [("unicode/utf8.acceptRanges", Rows.laid_unicode_utf8_acceptRanges), ("unicode/utf8.first", Rows.laid_unicode_utf8_first)] w) ∧ sizedMet enc Tryz.prog Tryz.f6 (OpenSpec.ofChange Rows.opsMakesSpec) false w args)
  (Rows.opsMakesSpec.post enc Tryz.prog Tryz.f6 false true false false) := by
 refine Shap.returns_shaped (C := Tryz.checked) (X := fun w _ => laidMetH Tryz.prog [("unicode/utf8.acceptRanges", Rows.laid_unicode_utf8_acceptRanges), ("unicode/utf8.first", Rows.laid_unicode_utf8_first)] w) (fun _ _ _ hh h => h.of_heap hh) own started (by kernel_rfl) Tryz.func6
  (ChangeSpec.witness_shaped (enc := enc) (C := Tryz.checked) (os := os) (X := fun w _ => laidMetH Tryz.prog [("unicode/utf8.acceptRanges", Rows.laid_unicode_utf8_acceptRanges), ("unicode/utf8.first", Rows.laid_unicode_utf8_first)] w) false (World.laidAll Tryz.prog os [("unicode/utf8.acceptRanges", Rows.laid_unicode_utf8_acceptRanges), ("unicode/utf8.first", Rows.laid_unicode_utf8_first)]) #[.agg #[.int .u8 0, .string ⟨#[]⟩, .string ⟨#[]⟩, .int .i64 0, .int .i64 0, .int .i64 0, .slice none 0 0]] 8 (World.laidAll_os _ _ _) (World.shaped_of_ZipB (by kernel_rfl) (by kernel_rfl)) (by kernel_rfl) (by kernel_rfl) (by kernel_rfl)
    (by rw [MakeChecks.laidMetH_plain _ _ _ (by kernel_rfl)]; exact laidMet_laidAll _ (by kernel_rfl) (by kernel_rfl))) ?_
 intro W base args ds gs before hval0 hW hcnd hsz0 hL hS
 have hval : ∀ (j : Nat) t v,Tryz.f6.params[j]? = some t → args[j]? = some v → Value.okWide Tryz.prog W .any base t v := hval0
 have hW' := hW
 obtain ⟨p,q,hA0,hV,rfl,hfz,hnd⟩ := hW
 have hA : DataW.TrodAll enc Tryz.prog W 0 (fun _ => true) true Tryz.f6.params.toList args.toList ds p := hA0
 rw [Tryz.params6] at hA hval
 obtain ⟨v0,vs0,d0,ds0,p0,q0,hargs,rfl,rfl,h0,r0⟩ := trodAll_cons hA
 obtain ⟨rfl,rfl,rfl⟩ := trodAll_nil r0
 obtain rfl : args = #[v0] := by cases args; simp_all
 obtain ⟨rfl,rfl⟩ := trodVars_none hV
 have k0 := h0
 have lt0 : ∀ x ∈ p0,x.block < W.heap.size := by obtain ⟨m,hm⟩ := k0; exact DataW.trod_lt m _ _ _ hm
 obtain ⟨kind0,path0,other0,hn0,frm0,n0,da0,dn0,dc0,rfl,w0⟩ := OpsX.op_of (hval 0 41 v0 rfl rfl) h0
 clear hA0 hval0
 refine (walk kind0 path0 other0 hn0 frm0 n0 da0 dn0 dc0 W w0 hL hS).mono fun e W' ⟨he,bel⟩ => ?_
 subst he
 exact ⟨_,rfl,_,_,_,[],_,[],hW',trodAll_mk1 (shut_bool Tryz.underlying4 _),(trodAll_cons_mk (Below.trod laidOut (by kernel_rfl) (of_decide_eq_true (by kernel_rfl)) k0 bel lt0) trodAll_mk0),rfl,bel.frame _,fun h => by cases h⟩
theorem over : Rows.opsMakesRow.holds Tryz.pinned (OpenSpec.ofChange Rows.opsMakesSpec) :=
 OpenClaim.holds_of_wide 6 Tryz.f6 rfl rfl rfl rfl rfl rfl rfl ⟨rfl,rfl,rfl,rfl,rfl⟩ rfl rfl rfl rfl rfl (by kernel_rfl) Tryz.func6 (by kernel_rfl)
  (of_decide_eq_true (by kernel_rfl)) (by unfold Func.isWrapper; first | (rw [if_pos (by decide +kernel)]; kernel_rfl) | (rw [if_neg (by decide +kernel)]; exact ⟨rfl,rfl⟩))
  (fun os started H enc _ => lifted os started H enc)
theorem proved : Rows.OpsMakesCardSaid :=
 Claim7.holds_tied_plain_at .later [] [.data, .pinned] true (true, "07b09c2f7decd33627669dddd8df0f8d57a1dbe31a00c6c7319e0737f055a020") false
  over (fun _ h => by cases h) (by kernel_rfl) (fun _ h => by cases h) opsMakes_row_tie rfl ⟨rfl,rfl⟩ (by kernel_rfl) rfl
  (fun f fn hf hfn => by
    obtain rfl : f = 6 := Option.some.inj ((show Tryz.prog.funcNamed "flint/flintlaw20.OpsMakes" = some 6 by kernel_rfl).symm.trans hf) |>.symm
    obtain rfl : fn = Tryz.f6 := (Option.some.inj (Tryz.func6.symm.trans hfn)).symm
    exact ⟨by kernel_rfl,fun j t ht => by
     rw [Tryz.params6] at ht
     have h3 : t = 41 := by
      rcases j with _ | j
      ·have := ht.symm; simp at this; simp [this]
      ·simp at ht
     rcases h3 with rfl
     ·exact (show Tryz.prog.wantsStandIn 41 = false by kernel_rfl)⟩)
  (by kernel_rfl)
end Go.Proofs.YtobbofdnhbgioaaGreatDoor.opsMakes