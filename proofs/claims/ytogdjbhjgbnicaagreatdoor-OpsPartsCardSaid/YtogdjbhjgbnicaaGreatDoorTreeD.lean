import Derived.Test.YtogdjbhjgbnicaaGreatDoorSq
import Derived.Test.YtogdjbhjgbnicaaGreatDoorTreeL
import Derived.Test.YtogdjbhjgbnicaaGreatDoorTreeB
import Derived.StillTailTactics
import Derived.Deep.QuietTactic
import Derived.BigQuiet
import Derived.Deep.RegionHeld3
import Derived.IntWalk
set_option maxHeartbeats 16000000
set_option linter.unusedVariables false
set_option linter.unusedSimpArgs false
set_option maxRecDepth 100000
namespace Go.Proofs.YtogdjbhjgbnicaaGreatDoor.TreeD
open Go.RowKit
open Byte KeysM TreeM Own Lst TreeR TreeL TreeB
def ndC (p : Pr) (A B : Option Addr) (n h : Nat) : Array Value := #[.string p.key,.string p.value,.bool p.gone,.pointer A,.pointer B,.int .i64 n,.int .i64 h]
def Nd (w : World) : Tt → Option Addr → Prop
 | .no,A => A = none
 | .nd l p r,A => ∃ b B C,A = some ⟨b,0,none⟩ ∧ Blk w b (ndC p B C (Tt.nd l p r).sz (Tt.nd l p r).ht) 125 ∧ Nd w l B ∧ Nd w r C
theorem Nd.keep {w w' : World} (hk : Kept w w') : ∀ {t : Tt} {A : Option Addr},Nd w t A → Nd w' t A
 | .no,A,h => h
 | .nd l p r,A,h => by
   obtain ⟨b,B,C,rfl,h1,h2,h3⟩ := h
   exact ⟨b,B,C,rfl,hk _ _ _ _ (.inr rfl) h1,Nd.keep hk h2,Nd.keep hk h3⟩
theorem Nd.below {w w' : World} {t : Tt} {A : Option Addr} (h : Nd w t A) (hb : Below w.heap.size w w') : Nd w' t A := h.keep (Kept.of_below hb)
def NdR (t : Tt) (w : World) (e : Ending) (w' : World) : Prop := ∃ A,e = .returned (.pointer A) ∧ Nd w' t A ∧ Below w.heap.size w w'
theorem size_calls (t : Tt) (A : Option Addr) (w : World) (h : Nd w t A) (z : Nat) (hz : t.sz = z) : Calls Tryz.prog 96 #[.pointer A] w fun e w' => e = .returned (.int .i64 (z : Nat)) ∧ w = w' := by
 cases t with
 | no =>
   obtain rfl : A = none := h
   obtain rfl : 0 = z := hz
   go_enter Tryz.func96,Tryz.ntmps96
   go_wp2_with fail
   go_ret
   exact ⟨rfl,rfl⟩
 | nd l p r =>
   obtain ⟨b,B,C,rfl,h1,_,_⟩ := h
   rw [hz] at h1
   have c5 := cZ5 h1
   clear h1 hz
   go_enter Tryz.func96,Tryz.ntmps96
   go_wp2_with fail
   go_ret
   exact ⟨rfl,rfl⟩
theorem height_calls (t : Tt) (A : Option Addr) (w : World) (h : Nd w t A) (z : Nat) (hz : t.ht = z) : Calls Tryz.prog 185 #[.pointer A] w fun e w' => e = .returned (.int .i64 (z : Nat)) ∧ w = w' := by
 cases t with
 | no =>
   obtain rfl : A = none := h
   obtain rfl : 0 = z := hz
   go_enter Tryz.func185,Tryz.ntmps185
   go_wp2_with fail
   go_ret
   exact ⟨rfl,rfl⟩
 | nd l p r =>
   obtain ⟨b,B,C,rfl,h1,_,_⟩ := h
   rw [hz] at h1
   have c6 := cZ6 h1
   clear h1 hz
   go_enter Tryz.func185,Tryz.ntmps185
   go_wp2_with fail
   go_ret
   exact ⟨rfl,rfl⟩
theorem towards_l (b : Nat) (p : Pr) (B C : Option Addr) (n h : Nat) (k : ByteArray) (w : World) (h1 : Blk w b (ndC p B C n h) 125) (hk : kl k p.key = true) : Calls Tryz.prog 75 #[.pointer (some ⟨b,0,none⟩),.string k] w fun e w' => e = .returned (.pointer B) ∧ w = w' := by
 have c0 := cZ0 h1
 have c3 := cZ3 h1
 have hk1 : Op.bytesLess k.toList p.key.toList = true := hk
 clear h1 hk
 go_enter Tryz.func75,Tryz.ntmps75
 go_wp2_with fail
 go_ret
 exact ⟨rfl,rfl⟩
theorem towards_r (b : Nat) (p : Pr) (B C : Option Addr) (n h : Nat) (k : ByteArray) (w : World) (h1 : Blk w b (ndC p B C n h) 125) (hk : kl k p.key = false) : Calls Tryz.prog 75 #[.pointer (some ⟨b,0,none⟩),.string k] w fun e w' => e = .returned (.pointer C) ∧ w = w' := by
 have c0 := cZ0 h1
 have c3 := cZ4 h1
 have hk1 : Op.bytesLess k.toList p.key.toList = false := hk
 clear h1 hk
 go_enter Tryz.func75,Tryz.ntmps75
 go_wp2_with fail
 go_ret
 exact ⟨rfl,rfl⟩
theorem top_calls (b : Nat) (A : Option Addr) (w : World) (h : Blk w b #[.pointer A] 76) : Calls Tryz.prog 74 #[.pointer (some ⟨b,0,none⟩)] w fun e w' => e = .returned (.pointer A) ∧ w = w' := by
 have c0 := cZ0 h
 clear h
 go_enter Tryz.func74,Tryz.ntmps74
 go_wp2_with fail
 go_ret
 exact ⟨rfl,rfl⟩
theorem pair_new (w : World) (p : Pr) : (w.alloc (.cells #[.string p.key,.string p.value,.bool p.gone] 64)).cell? ⟨w.heap.size,0,none⟩ = some (.string p.key) ∧ (w.alloc (.cells #[.string p.key,.string p.value,.bool p.gone] 64)).cell? ⟨w.heap.size,1,none⟩ = some (.string p.value) ∧ (w.alloc (.cells #[.string p.key,.string p.value,.bool p.gone] 64)).cell? ⟨w.heap.size,2,none⟩ = some (.bool p.gone) := by
 have h := Blk.new_ w #[.string p.key,.string p.value,.bool p.gone] 64
 exact ⟨h.cell 0,h.cell 1,h.cell 2⟩
theorem nd_new {W : World} {l r : Tt} {p : Pr} {A B : Option Addr} {x y : Int} (hl : Nd W l A) (hr : Nd W r B) (hx : x = ((Tt.nd l p r).sz : Nat)) (hy : y = ((Tt.nd l p r).ht : Nat)) : Nd (W.alloc (.cells #[.string p.key,.string p.value,.bool p.gone,.pointer A,.pointer B,.int .i64 x,.int .i64 y] 125)) (.nd l p r) (some ⟨W.heap.size,0,none⟩) := by
 subst hx
 subst hy
 have hb := bN_ W (.cells #[.string p.key,.string p.value,.bool p.gone,.pointer A,.pointer B,.int .i64 ((Tt.nd l p r).sz : Nat),.int .i64 ((Tt.nd l p r).ht : Nat)] 125)
 exact ⟨W.heap.size,A,B,rfl,Blk.new_ W _ _,hl.below hb,hr.below hb⟩
theorem join_calls (l r : Tt) (p : Pr) (A B : Option Addr) (w : World) (hl : Nd w l A) (hr : Nd w r B) (hn : l.sz + r.sz ≤ 100000) :
 Calls Tryz.prog 175 #[.pointer A,.agg #[.string p.key,.string p.value,.bool p.gone],.pointer B] w (NdR (.nd l p r) w) := by
 have hb1 := bN_ w (.cells #[.string p.key,.string p.value,.bool p.gone] 64)
 obtain ⟨c0,c1,c2⟩ := pair_new w p
 have HL := hQ_ (hl.below hb1)
 have HR := hQ_ (hr.below hb1)
 obtain ⟨n1,e1⟩ : ∃ n,l.sz = n := ⟨_,rfl⟩
 obtain ⟨n2,e2⟩ : ∃ n,r.sz = n := ⟨_,rfl⟩
 obtain ⟨h1,e3⟩ : ∃ n,l.ht = n := ⟨_,rfl⟩
 obtain ⟨h2,e4⟩ : ∃ n,r.ht = n := ⟨_,rfl⟩
 have b1 : h1 ≤ n1 := by rw [← e1,← e3]; exact Tt.ht_sz l
 have b2 : h2 ≤ n2 := by rw [← e2,← e4]; exact Tt.ht_sz r
 rw [e1,e2] at hn
 have E1 := hQ_ e1
 have E2 := hQ_ e2
 have E3 := hQ_ e3
 have E4 := hQ_ e4
 have HB1 := hQ_ hb1
 clear hl hr e1 e2 e3 e4 hb1
 go_enter Tryz.func175,Tryz.ntmps175
 go_wp2_with fail
 obtain ⟨W,hW⟩ : ∃ W,w.alloc (.cells #[.string p.key,.string p.value,.bool p.gone] 64) = W := ⟨_,rfl⟩
 rw [hW] at HL HR c0 c1 c2 HB1 ⊢
 have s1 := (size_calls l A W.drew (HL.out.below ((Below.refl _ W).drew)) n1 E1.out).mono fun _ _ h => (⟨h.1,h.2.symm⟩ : _ ∧ _)
 have s2 := (size_calls r B W.drew (HR.out.below ((Below.refl _ W).drew)) n2 E2.out).mono fun _ _ h => (⟨h.1,h.2.symm⟩ : _ ∧ _)
 have s3 := (height_calls l A W.drew (HL.out.below ((Below.refl _ W).drew)) h1 E3.out).mono fun _ _ h => (⟨h.1,h.2.symm⟩ : _ ∧ _)
 have s4 := (height_calls r B W.drew (HR.out.below ((Below.refl _ W).drew)) h2 E4.out).mono fun _ _ h => (⟨h.1,h.2.symm⟩ : _ ∧ _)
 have S1 := hQ_ s1
 have S2 := hQ_ s2
 have S3 := hQ_ s3
 have S4 := hQ_ s4
 clear s1 s2 s3 s4 hW
 have q1 : IntKind.i64.wrap ((n1 : Int) + 1) = (n1 : Int) + 1 := IntWalk.i64_in _ (by omega)
 have q2 : IntKind.i64.wrap ((n1 : Int) + 1 + (n2 : Int)) = (n1 : Int) + 1 + (n2 : Int) := IntWalk.i64_in _ (by omega)
 have q3 : IntKind.i64.wrap ((h1 : Int) + 1) = (h1 : Int) + 1 := IntWalk.i64_in _ (by omega)
 have q4 : IntKind.i64.wrap ((h2 : Int) + 1) = (h2 : Int) + 1 := IntWalk.i64_in _ (by omega)
 go_still_tail 16,(by kernel_rfl)
 repeat still_step
 still_call (S1.out)
 repeat still_step
 still_call (S2.out)
 repeat still_step
 still_call (S3.out)
 repeat still_step
 still_call (S4.out)
 repeat still_step
 refine wpStill_nil ?_
 change wpList _ _ _ _ _ W.drew
 go_wp2_with fail
 all_goals
  go_ret
  refine ⟨_,rfl,nd_new (HL.out.below ((Below.refl _ W).drew)) (HR.out.below ((Below.refl _ W).drew)) ?_ ?_,keeps HB1.out (((Below.refl _ W).drew).alloc (Nat.le_refl _) _)⟩
  ·simp only [Tt.sz,E1.out,E2.out]
   omega
  ·simp only [Tt.ht,E3.out,E4.out]
   omega
end Go.Proofs.YtogdjbhjgbnicaaGreatDoor.TreeD