import Derived.Test.YtlblfpacnegmlaaRows
import Derived.SizedLaws
import Derived.WalkKit
import Derived.ProofKit
import Derived.OpenShut
import Derived.ShutString
import Derived.ChangeOld
import Derived.Below
import Derived.ChangeShapes
import Derived.WideShapes
import Derived.Test.YtlblfpacnegmlaaClashPlaysMBZ
set_option linter.unusedVariables false
set_option maxRecDepth 100000
namespace Go.Proofs.Ytlblfpacnegmlaa.clashPlays
open Go.ChangeShapes Go.WideShapes Go.ChangeAt Go.RowKit
open Go.ChangeMaps (open_string shut_string)
open Go.Proofs.Ytlblfpacnegmlaa
theorem own : ownKnob Try.prog.godebug = none := by kernel_rfl
theorem laidOut : laidOutB Try.prog = true := by kernel_rfl
def IsRow (k : IntKind) (w : World) (a : Option Addr) (len cap : Nat) (zs : List Int) : Prop :=
 (a = none ∧ len = 0 ∧ cap = 0 ∧ zs = []) ∨
 ∃ x,a = some x ∧ len ≤ cap ∧ cap ≤ maxLen ∧ zs.length = cap ∧ (∀ i,i < zs.length → w.cell? (x.add i) = some (.int k (zs.getD i 0))) ∧ ∀ n ∈ zs,(Lit.int k n).wf = true
theorem walk (a0 : Option Addr) (len0 cap0 : Nat) (g0 : List ClashP.Oq) (a1 : Option Addr) (len1 cap1 : Nat) (g1 : List ByteArray) (a2 : Option Addr) (len2 cap2 : Nat) (g2 : List (ByteArray × ByteArray)) (w : World) (w0 : len0 ≤ cap0 ∧ cap0 ≤ maxLen ∧ Lst.Sl ClashP.oqE w a0 len0 g0 ∧ ∀ p ∈ g0,ClashW.OqG w p) (w1 : ClashX.RdT w a1 len1 cap1 g1) (w2 : len2 ≤ cap2 ∧ cap2 ≤ maxLen ∧ Lst.Sl ViewR.rgE w a2 len2 g2 ∧ ∀ p ∈ g2,p.1.size ≤ 140737488351232 ∧ p.2.size ≤ 140737488351232) :
 Calls Try.prog 5 #[.slice a0 len0 cap0,.slice a1 len1 cap1,.slice a2 len2 cap2] w fun e w' => e = .returned (.bool true) ∧ Below w.heap.size w w' := by
 exact ClashW.plays_all a0 a1 a2 len0 cap0 len1 cap1 len2 cap2 g0 g1 g2 w w0 w1 w2
theorem lifted (os : Os) (started : os.Started) (H : Type) (enc : TypeId × Value → H) :
 ReturnsInHanded {} Try.checked os 5 .any (Rows.clashPlaysSpec.pre6 enc Try.prog Try.f5 Rows.clashPlaysRow.domain false) (Rows.clashPlaysSpec.post enc Try.prog Try.f5 false true false false) := by
 refine returnsInHanded_of_change_sized (C := Try.checked) own started (by kernel_rfl) Try.func5
  (ChangeSpec.witness6 (enc := enc) (C := Try.checked) false ⟨#[],#[.slice none 0 0,.slice none 0 0,.slice none 0 0],[]⟩ 8 (by kernel_rfl) (by kernel_rfl) (by kernel_rfl) (by kernel_rfl)) ?_
 intro W base args ds gs before hval0 hW hcnd hsz0 _
 have hsz : (DataW.weightsEach Try.prog (Try.f5.params.toList ++ Rows.clashPlaysSpec.plain.varTypes Try.prog) (ds ++ gs)).all (· ≤ reachBytes) = true := hsz0
 have hval : ∀ (j : Nat) t v,Try.f5.params[j]? = some t → args[j]? = some v → Value.okWide Try.prog W .any base t v := hval0
 have hW' := hW
 obtain ⟨p,q,hA0,hV,rfl,hfz,hnd⟩ := hW
 have hA : DataW.TrodAll enc Try.prog W 0 (fun _ => true) true Try.f5.params.toList args.toList ds p := hA0
 rw [Try.params5] at hA hval hsz
 obtain ⟨v0,vs0,d0,ds0,p0,q0,hargs,rfl,rfl,h0,r0⟩ := trodAll_cons hA
 obtain ⟨v1,vs1,d1,ds1,p1,q1,rfl,rfl,rfl,h1,r1⟩ := trodAll_cons r0
 obtain ⟨v2,vs2,d2,ds2,p2,q2,rfl,rfl,rfl,h2,r2⟩ := trodAll_cons r1
 obtain ⟨rfl,rfl,rfl⟩ := trodAll_nil r2
 obtain rfl : args = #[v0,v1,v2] := by cases args; simp_all
 obtain ⟨rfl,rfl⟩ := trodVars_none hV
 have k0 := h0
 have lt0 : ∀ x ∈ p0,x.block < W.heap.size := by obtain ⟨m,hm⟩ := k0; exact DataW.trod_lt m _ _ _ hm
 have k1 := h1
 have lt1 : ∀ x ∈ p1,x.block < W.heap.size := by obtain ⟨m,hm⟩ := k1; exact DataW.trod_lt m _ _ _ hm
 have k2 := h2
 have lt2 : ∀ x ∈ p2,x.block < W.heap.size := by obtain ⟨m,hm⟩ := k2; exact DataW.trod_lt m _ _ _ hm
 obtain ⟨a0,len0,cap0,rfl⟩ := okWide_slice Try.underlying28 (hval 0 28 v0 rfl rfl)
 obtain ⟨g0,w0⟩ : ∃ g : List ClashP.Oq,len0 ≤ cap0 ∧ cap0 ≤ maxLen ∧ Lst.Sl ClashP.oqE W a0 len0 g ∧ ∀ p ∈ g,ClashW.OqG W p := by
  obtain ⟨fuel,hf⟩ := h0
  obtain ⟨A,m,c,g,hcs,y⟩ := ClashW.ops_of hf (fun n hn => by have := List.all_eq_true.1 hsz _ (DataW.weights_mem_each (j := 0) rfl rfl n hn); simpa using this)
  simp [Value.cells] at hcs
  obtain ⟨rfl,rfl,rfl⟩ := hcs
  exact ⟨g,y⟩
 obtain ⟨a1,len1,cap1,rfl⟩ := okWide_slice Try.underlying22 (hval 1 22 v1 rfl rfl)
 obtain ⟨g1,w1⟩ : ∃ g : List ByteArray,ClashX.RdT W a1 len1 cap1 g := by
  obtain ⟨fuel,hf⟩ := h1
  obtain ⟨A,m,c,g,hcs,y⟩ := ClashX.texts_of hf (fun n hn => by have := List.all_eq_true.1 hsz _ (DataW.weights_mem_each (j := 1) rfl rfl n hn); simpa using this)
  simp [Value.cells] at hcs
  obtain ⟨rfl,rfl,rfl⟩ := hcs
  exact ⟨g,y⟩
 obtain ⟨a2,len2,cap2,rfl⟩ := okWide_slice Try.underlying23 (hval 2 23 v2 rfl rfl)
 obtain ⟨g2,w2⟩ : ∃ g : List (ByteArray × ByteArray),len2 ≤ cap2 ∧ cap2 ≤ maxLen ∧ Lst.Sl ViewR.rgE W a2 len2 g ∧ ∀ p ∈ g,p.1.size ≤ 140737488351232 ∧ p.2.size ≤ 140737488351232 := by
  obtain ⟨fuel,hf⟩ := h2
  obtain ⟨A,m,c,g,hcs,y⟩ := ClashW.rgs_of hf (fun n hn => by have := List.all_eq_true.1 hsz _ (DataW.weights_mem_each (j := 2) rfl rfl n hn); simpa using this)
  simp [Value.cells] at hcs
  obtain ⟨rfl,rfl,rfl⟩ := hcs
  exact ⟨g,y⟩
 clear hA0 hval0
 refine (walk a0 len0 cap0 g0 a1 len1 cap1 g1 a2 len2 cap2 g2 W w0 w1 w2).mono fun e W' ⟨he,bel⟩ => ?_
 subst he
 exact ⟨_,rfl,_,_,_,[],_,[],hW',trodAll_mk1 (shut_bool Try.underlying4 _),(trodAll_cons_mk (Below.trod laidOut (by kernel_rfl) (of_decide_eq_true (by kernel_rfl)) k0 bel lt0) (trodAll_cons_mk (Below.trod laidOut (by kernel_rfl) (of_decide_eq_true (by kernel_rfl)) k1 bel lt1) (trodAll_cons_mk (Below.trod laidOut (by kernel_rfl) (of_decide_eq_true (by kernel_rfl)) k2 bel lt2) trodAll_mk0))),rfl,bel.frame _,fun h => by cases h⟩
theorem over : Rows.clashPlaysRow.holds Try.pinned (OpenSpec.ofChange Rows.clashPlaysSpec) :=
 OpenClaim.holds_of_wide 5 Try.f5 rfl rfl rfl rfl rfl rfl rfl ⟨rfl,rfl,rfl,rfl,rfl⟩ rfl rfl rfl rfl rfl (by kernel_rfl) Try.func5 (by kernel_rfl)
  (of_decide_eq_true (by kernel_rfl)) (by unfold Func.isWrapper; first | (rw [if_pos (by decide +kernel)]; kernel_rfl) | (rw [if_neg (by decide +kernel)]; exact ⟨rfl,rfl⟩))
  (fun os started H enc _ => lifted os started H enc)
theorem proved : Rows.ClashPlaysSaid := over
end Go.Proofs.Ytlblfpacnegmlaa.clashPlays