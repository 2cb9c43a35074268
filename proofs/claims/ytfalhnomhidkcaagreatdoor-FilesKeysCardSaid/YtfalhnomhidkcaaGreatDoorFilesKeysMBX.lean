import Derived.StillTailTactics
import Derived.Deep.AppendLies
import Derived.Deep.RegionLaw
import Derived.Test.YtfalhnomhidkcaaGreatDoorSq
import Derived.Test.YtfalhnomhidkcaaGreatDoorFilesKeysMBW
import Derived.WalkSpells
import Derived.Test.YtfalhnomhidkcaaGreatDoorFilesKeysMBU
import Derived.Test.YtfalhnomhidkcaaGreatDoorProg
import Derived.StringKeys
import Derived.Maps.Own
import Derived.Maps.OwnOps
import Derived.Maps.OwnSet
import Derived.Maps.Views
import Derived.Test.YtfalhnomhidkcaaGreatDoorOwn
import Derived.Test.YtfalhnomhidkcaaGreatDoorFilesKeysMBO
import Derived.Deep.DeepCutAuto
import Derived.Deep.CutBlock
import Derived.Test.YtfalhnomhidkcaaGreatDoorDirsM
import Derived.Test.YtfalhnomhidkcaaGreatDoorNodeM
import Derived.Test.YtfalhnomhidkcaaGreatDoorDirsRc
import Derived.OpenShut
import Derived.Deep.Slices
import Derived.ChangeSlices
import Derived.ChangeArms
import Derived.WideShapes
import Derived.Test.YtfalhnomhidkcaaGreatDoorLst
import Derived.Test.YtfalhnomhidkcaaGreatDoorDirsRa
set_option maxHeartbeats 16000000
set_option linter.unusedVariables false
set_option linter.unusedSimpArgs false
set_option maxRecDepth 100000
namespace Go.Proofs.YtfalhnomhidkcaaGreatDoor.ViewKw
open Go.RowKit
open Byte KeysM TreeM ViewM ViewKm ViewKn ViewKr ViewKs Own Lst Chg TreeR TreeL TreeG TreeH Ho ViewR
variable {w : World} {g : Nat} {b sh wt rd rg : Value} {B S W R : List Pr} {G : List (ByteArray × ByteArray)}
theorem new_view (w : World) (b : Value) (h : TN w b B) : VC (w.alloc (.cells #[b,b,.pointer none,.pointer none,.slice none 0 0] 97)) w.heap.size b b (.pointer none) (.pointer none) (.slice none 0 0) B B [] [] [] := by
 have hb := bN_ w (.cells #[b,b,.pointer none,.pointer none,.slice none 0 0] 97)
 exact ⟨Blk.new_ _ _ _,h.below hb,h.below hb,.inl ⟨rfl,rfl⟩,.inl ⟨rfl,rfl⟩,So.nil_ _ _ _ _⟩
theorem new_calls (b : Value) (w : World) (h : TN w b B) : Calls Tryz.prog 11 #[b] w fun e w' => e = .returned (.pointer (some ⟨w.heap.size,0,none⟩)) ∧ VC w' w.heap.size b b (.pointer none) (.pointer none) (.slice none 0 0) B B [] [] [] ∧ Below w.heap.size w w' := by
 obtain ⟨A,rfl⟩ := h.form
 have HV := hQ_ (new_view w _ h)
 have hb := bN_ w (.cells #[.pointer A,.pointer A,.pointer none,.pointer none,.slice none 0 0] 97)
 have HB := hQ_ hb
 clear h hb
 go_enter Tryz.func11,Tryz.ntmps11
 go_wp2_with fail
 go_ret
 exact ⟨rfl,HV.out,HB.out⟩
theorem info_view5 : (Tryz.prog.info? 97).map (·.size) = some 5 := by kernel_rfl
theorem VC.copy {w1 w2 : World} {v : Value} (h : VC w1 g b sh wt rd rg B S W R G) {c : Nat} (hb : Below w1.heap.size w1 w2) (hc : Blk w2 c #[b,sh,wt,rd,rg] 97) (ho : So rgE 117 w2 w1.heap.size v G.length G) : VC (w2.setCell ⟨c,4,none⟩ v) c b sh wt rd v B S W R G := by
 have k : Kept w2 (w2.setCell ⟨c,4,none⟩ v) := ViewD.kept_set hc (by decide) 4 v
 have h2 := h.below hb
 have ap := So.apart ho hc (by decide)
 exact ⟨hc.set_ 4 v,h2.base.keep k,h2.shown.keep k,h2.wr.keep k,h2.read.keep k,So.chg (S := fun q => q = c) (So.lower ho (Nat.zero_le _)) ((Chg.refl (fun q => q = c) w2).own 4 v) (fun q hq e => ap q hq e)⟩
theorem copy_calls (h : VC w g b sh wt rd rg B S W R G) (hr : G.length ≤ 2000) :
 Calls Tryz.prog 19 #[.pointer (some ⟨g,0,none⟩)] w fun e w' => ∃ c rg',e = .returned (.pointer (some ⟨c,0,none⟩)) ∧ w.heap.size ≤ c ∧ (∀ k,rg'.ownBlock = some k → w.heap.size ≤ k) ∧ VC w' c b sh wt rd rg' B S W R G ∧ Below w.heap.size w w' := by
 obtain ⟨A,c,e,_,_,h0⟩ := Tx.So.head h.rgs
 subst e
 obtain ⟨Ab,rfl⟩ := h.base.form
 obtain ⟨As,rfl⟩ := h.shown.form
 obtain ⟨Aw,rfl⟩ := h.wr.form
 obtain ⟨Ar,rfl⟩ := h.read.form
 obtain ⟨n,hn⟩ : ∃ n,G.length = n := ⟨_,rfl⟩
 have hb1 := bN_ w (.cells #[.pointer Ab,.pointer As,.pointer Aw,.pointer Ar,.slice A G.length c] 97)
 have hs : Sl rgE w A G.length G := So.sl h.rgs
 have HK := hQ_ (clone_calls A G.length c G _ (hs.below hb1) (by omega) h0)
 have HB1 := hQ_ hb1
 have HBL := hQ_ h.blk
 have HV1 := hQ_ (h.below hb1)
 have HC := hQ_ (Blk.new_ w #[.pointer Ab,.pointer As,.pointer Aw,.pointer Ar,.slice A G.length c] 97)
 obtain ⟨_,_,_,_,c4,_⟩ := HV1.out.cells
 rw [hn] at c4 HBL HC HB1 HK HV1
 clear h hs hb1 hn
 go_enter Tryz.func19,Tryz.ntmps19
 go_wp2_with (first
  | ((with_reducible refine pick (some 8) ?_); refine load_blk rfl 97 _ rfl g rfl 97 #[.pointer Ab,.pointer As,.pointer Aw,.pointer Ar,.slice A n c] _ HBL.out Tryz.underlying97 rfl info_view5 ?_)
  | (go_at_call 55; refine HK.out.mono ?_; rintro e w2 ⟨v,rfl,ho,hb2⟩; obtain ⟨A3,c3,rfl,_,_,_⟩ := Tx.So.head ho; have HO := hQ_ ho; have HB2 := hQ_ hb2; have HC2 := hQ_ (HC.out.below hb2); have k4 := HC2.out.cell 4; have f4 := HC2.out.frozen 4; clear ho hb2))
 go_ret
 refine ⟨w.heap.size,_,rfl,Nat.le_refl _,fun k hk => ?_,VC.copy HV1.out HB2.out HC2.out HO.out,(keeps HB1.out HB2.out).setCell (Nat.le_refl _) _⟩
 have := (So.lt HO.out hk).1
 have := HB1.out.size
 omega
def RgTo (w : World) (rg rg' : Value) : Prop := rg'.ownBlock = rg.ownBlock ∨ ∃ k,rg'.ownBlock = some k ∧ w.heap.size ≤ k
def RangeR (g : Nat) (b sh wt rd rg : Value) (B S W R : List Pr) (G : List (ByteArray × ByteArray)) (L : List Pr) (w : World) (e : Ending) (w' : World) : Prop := ∃ v rg',e = .returned v ∧ So prE 46 w' w.heap.size v L.length L ∧ VC w' g b sh wt rd rg' B S W R G ∧ Did g rg w w' ∧ RgTo w rg rg'
theorem range_none (x y : ByteArray) (h : VC w g b sh wt rd rg B S W R G) (hk : kl x y = false) :
 Calls Tryz.prog 23 #[.pointer (some ⟨g,0,none⟩),.string x,.string y] w (RangeR g b sh wt rd rg B S W R G [] w) := by
 have f1 : Op.bytesLess x.toList y.toList = false := hk
 have HV := hQ_ h
 clear h hk
 go_enter Tryz.func23,Tryz.ntmps23
 go_wp2_with fail
 go_ret
 exact ⟨_,rg,rfl,So.nil_ _ _ _ _,HV.out,Did.refl _ _ _,.inl rfl⟩
theorem range_old (x y : ByteArray) (h : VC w g b sh wt rd rg B S W R G) (hs : S.length ≤ 50000) (hg : G.length ≤ 50000) (hk : kl x y = true) (hR : hasR x y G = true) :
 Calls Tryz.prog 23 #[.pointer (some ⟨g,0,none⟩),.string x,.string y] w (RangeR g b sh wt rd rg B S W R G (rangeL x y S) w) := by
 have f1 : Op.bytesLess x.toList y.toList = true := hk
 have HV := hQ_ h
 have HRR := hQ_ hR
 have hb1 := bN_ w (.cells #[.string x,.string y] 117)
 have HB1 := hQ_ hb1
 obtain ⟨W1,hW1⟩ : ∃ W1,w.alloc (.cells #[.string x,.string y] 117) = W1 := ⟨_,rfl⟩
 have HBX := Blk.new_ w #[.string x,.string y] 117
 rw [hW1] at HB1 HBX
 have HV1 := hQ_ (HV.out.below HB1.out)
 obtain ⟨k0,k1,k2,k3,k4,_⟩ := HV1.out.cells
 obtain ⟨x0,x1⟩ := cC2 HBX
 have E1 := hQ_ hW1
 clear h hk hR hb1 hW1 HBX
 obtain ⟨A,c,e,_,_,h0⟩ := Tx.So.head HV.out.rgs
 subst e
 go_enter Tryz.func23,Tryz.ntmps23
 go_upto_region 4 with (fail)
 change Code.wp _ _ _ _ (w.alloc (.cells #[.string x,.string y] 117))
 rw [E1.out]
 have HCT := hQ_ (contains_calls A G.length c G x y W1.drew (So.sl (So.below HV1.out.rgs ((Below.refl _ _).drew))) (by omega))
 rw [HRR.out] at HCT
 have y4 : W1.drew.cell? ⟨g,4,none⟩ = some (.slice A G.length c) := k4
 have y0 : W1.drew.cell? ⟨w.heap.size,0,none⟩ = some (.string x) := x0
 have y1 : W1.drew.cell? ⟨w.heap.size,1,none⟩ = some (.string y) := x1
 go_still_tail 5,(by kernel_rfl)
 change wpList _ _ _ _ _ W1.drew
 go_wp2_with (first
  | (go_at_call 59; refine HCT.out.mono ?_; rintro e w2 ⟨rfl,hb2⟩; have HB2 := hQ_ hb2; have HV2 := hQ_ ((HV1.out.below ((Below.refl _ _).drew)).below hb2); obtain ⟨m0,m1,m2,m3,m4,_⟩ := HV2.out.cells; have HTR := hQ_ (tnrange x y HV2.out.shown hs); clear hb2)
  | (go_at_call 60; refine HTR.out.mono ?_; rintro e w3 ⟨v,rfl,ho,hb3⟩; have HO := hQ_ ho; have HB3 := hQ_ hb3; clear ho hb3))
 go_ret
 have hd : Did g (.slice A G.length c) w w2 := ((((Did.refl g _ w).below HB1.out).below ((Below.refl _ _).drew)).below HB2.out)
 have hz : w.heap.size ≤ w2.heap.size := hd.chg.size
 exact ⟨_,_,rfl,So.lower HO.out hz,HV2.out.below HB3.out,hd.below HB3.out,.inl rfl⟩
theorem VC.app {x y : ByteArray} {w3 : World} {o : Obj} {rg' : Value} (h : VC w g b sh wt rd rg B S W R G) (hg' : (w.alloc o).drew.grownBy w3 rg.ownBlock) (ho : So rgE 117 w3 0 rg' (G.length + 1) (G ++ [(x,y)])) : Blk w3 g #[b,sh,wt,rd,rg] 97 ∧ VC (w3.setCell ⟨g,4,none⟩ rg') g b sh wt rd rg' B S W R (G ++ [(x,y)]) ∧ Did g rg w (w3.setCell ⟨g,4,none⟩ rg') := by
 have hg : (w.alloc o).grownBy w3 rg.ownBlock := ⟨hg'.os,hg'.tape,hg'.output,hg'.size,hg'.block⟩
 have hb : Below w.heap.size w (w.alloc o) := bW_
 have h1 := h.below hb
 have k1 : Kept (w.alloc o) w3 := Kept.of_grown h1.rgs hg (by decide)
 have hblk : Blk w3 g #[b,sh,wt,rd,rg] 97 := h1.rgs.stays hg h1.blk (by decide)
 have k2 : Kept w3 (w3.setCell ⟨g,4,none⟩ rg') := ViewD.kept_set hblk (by decide) 4 rg'
 have k := ViewD.Kept.trans k1 k2
 have ap := So.apart ho hblk (by decide)
 have ho' : So rgE 117 (w3.setCell ⟨g,4,none⟩ rg') 0 rg' (G.length + 1) (G ++ [(x,y)]) := So.chg (S := fun q => q = g) ho ((Chg.refl (fun q => q = g) w3).own 4 rg') (fun q hq e => ap q hq e)
 exact ⟨hblk,⟨hblk.set_ 4 rg',h1.base.keep k,h1.shown.keep k,h1.wr.keep k,h1.read.keep k,by rw [List.length_append]; exact ho'⟩,⟨((Chg.of_below hb).trans (Chg.of_grown (S := own g rg) hg (fun k hk => .inl (.inr hk)))).setCell (.inl (.inl rfl)) _,ViewD.Kept.trans (Kept.of_below hb) k⟩⟩
theorem rg_next {w3 : World} {x y : ByteArray} {gg cap n : Nat} (hn : G.length = n) (h : w3.ownsRow 0 117 2 (.slice (some ⟨gg,0,none⟩) (n + 1) cap) (n + 1) (flat rgE G ++ [.string x,.string y])) : So rgE 117 w3 0 (.slice (some ⟨gg,0,none⟩) (n + 1) cap) (G.length + 1) (G ++ [(x,y)]) := by
 subst hn
 refine ⟨by simp,?_⟩
 rw [flat_append]
 exact h
theorem range_new (x y : ByteArray) (h : VC w g b sh wt rd rg B S W R G) (hs : S.length ≤ 50000) (hg : G.length ≤ 50000) (hk : kl x y = true) (hR : hasR x y G = false) :
 Calls Tryz.prog 23 #[.pointer (some ⟨g,0,none⟩),.string x,.string y] w (RangeR g b sh wt rd rg B S W R (G ++ [(x,y)]) (rangeL x y S) w) := by
 have f1 : Op.bytesLess x.toList y.toList = true := hk
 have HV := hQ_ h
 have HRR := hQ_ hR
 have hb1 := bN_ w (.cells #[.string x,.string y] 117)
 have HB1 := hQ_ hb1
 obtain ⟨W1,hW1⟩ : ∃ W1,w.alloc (.cells #[.string x,.string y] 117) = W1 := ⟨_,rfl⟩
 have HBX := Blk.new_ w #[.string x,.string y] 117
 rw [hW1] at HB1 HBX
 have HV1 := hQ_ (HV.out.below HB1.out)
 obtain ⟨k0,k1,k2,k3,k4,_⟩ := HV1.out.cells
 obtain ⟨x0,x1⟩ := cC2 HBX
 have HX := hQ_ HBX
 have E1 := hQ_ hW1
 clear h hk hR hb1 hW1 HBX
 obtain ⟨A,c,e,_,_,h0⟩ := Tx.So.head HV.out.rgs
 obtain ⟨n,hn⟩ : ∃ n,G.length = n := ⟨_,rfl⟩
 have HN := hQ_ hn
 have E := hQ_ e
 rw [hn] at hg
 rw [e,hn] at k4
 have HCT := hQ_ (contains_calls A n c G x y W1.drew (So.sl (by have := So.below HV1.out.rgs ((Below.refl _ _).drew : Below W1.heap.size W1 W1.drew); rw [e,hn] at this; exact this)) (by omega))
 rw [HRR.out] at HCT
 clear hn e
 go_enter Tryz.func23,Tryz.ntmps23
 go_upto_region 4 with (fail)
 change Code.wp _ _ _ _ (w.alloc (.cells #[.string x,.string y] 117))
 rw [E1.out]
 have y4 : W1.drew.cell? ⟨g,4,none⟩ = some (.slice A n c) := k4
 have y0 : W1.drew.cell? ⟨w.heap.size,0,none⟩ = some (.string x) := x0
 have y1 : W1.drew.cell? ⟨w.heap.size,1,none⟩ = some (.string y) := x1
 go_still_tail 5,(by kernel_rfl)
 change wpList _ _ _ _ _ W1.drew
 go_upto_region 5 with (go_at_call 59; refine HCT.out.mono ?_; rintro e w2 ⟨rfl,hb2⟩; have HB2 := hQ_ hb2; have HV2 := hQ_ ((HV1.out.below ((Below.refl _ _).drew)).below hb2); have HX2 := hQ_ (((HX.out.below ((Below.refl _ _).drew)).below hb2)); clear hb2)
 have m4 : w2.cell? ⟨g,4,none⟩ = some (.slice A n c) := by have h := HV2.out.cells.2.2.2.2.1; rw [E.out,HN.out] at h; exact h
 have m4a : (w2.alloc (.cells #[.string x,.string y] 117)).cell? ⟨g,4,none⟩ = some (.slice A n c) := by rw [World.cell?_alloc_lt _ _ ⟨g,4,none⟩ HV2.out.lt,m4]
 have z0 := cC2 HX2.out
 have HOWN : Hid (w2.ownsRow 0 117 2 (.slice A n c) n (flat rgE G)) := hQ_ (by have h := HV2.out.rgs.2; rw [E.out,HN.out] at h; exact h)
 obtain ⟨i0,hi0,hz0,hz1,hz2⟩ := info_parts info_rg
 go_region_law (first
  | (refine step_append_lies _ (by rfl) _ _ _ (by rfl) 0 117 i0 _ 2 32 Tryz.underlying95 hi0 hz0 hz1 hz2 rfl (by omega) (.slice A n c) n _ (by rfl) ((HOWN.out.alloc _).drew)
      ⟨w2.heap.size,0,none⟩ 1 1 [.string x,.string y] (by rfl) (by rfl) (World.news_of_block (cs := #[.string x,.string y]) (t := 117) (fr := (0,0)) (heap_alloc_new w2 _)) (by simp [Value.oneCell'])
      (by omega) (by unfold maxLen; omega) (by omega) (by simp) (w2.heap.size + 1) (by simp) ?_; intro gg cap w3 hown3 hgrow hat hlt'; have HAP := hQ_ (VC.app HV2.out (by rw [E.out,HN.out]; exact hgrow) (rg_next HN.out hown3)); have HAT := hQ_ hat; have n4 : w3.cell? ⟨g,4,none⟩ = some (.slice A n c) := (by have h := HAP.out.1.cell 4; rw [E.out,HN.out] at h; exact h); have q4 := HAP.out.1.frozen 4; clear hown3 hgrow hat hlt'))
 all_goals
  have HV4 := hQ_ HAP.out.2.1
  obtain ⟨l0,l1,l2,l3,l4,_⟩ := HV4.out.cells
  have HTR := hQ_ (tnrange x y HV4.out.shown hs)
  go_wp2_with (go_at_call 60; refine HTR.out.mono ?_; rintro e w5 ⟨v,rfl,ho,hb5⟩; have HO := hQ_ ho; have HB5 := hQ_ hb5; clear ho hb5)
  go_ret
  have hd : Did g rg w w2 := ((((Did.refl g _ w).below HB1.out).below ((Below.refl _ _).drew)).below HB2.out)
  have hd2 := HAP.out.2.2
  have hd3 : Did g rg w _ := ⟨hd.chg.trans hd2.chg,ViewD.Kept.trans hd.kept hd2.kept⟩
  refine ⟨_,_,rfl,So.lower HO.out hd3.chg.size,HV4.out.below HB5.out,hd3.below HB5.out,?_⟩
  rcases HAT.out with h | h
  ·left
   rw [E.out,HN.out]
   exact h.symm
  ·right
   exact ⟨gg,rfl,by have := hd.chg.size; omega⟩
end Go.Proofs.YtfalhnomhidkcaaGreatDoor.ViewKw
namespace Go.Proofs.YtfalhnomhidkcaaGreatDoor.ViewK
open Go.RowKit
open Byte KeysM TreeM ViewM ViewKm ViewKn ViewKr ViewKs ViewKw Own Lst Chg TreeR TreeL TreeG TreeH Ho ViewR ViewL ViewP
def VRep (w : World) (v : Value) (s : Vs) (S D : Nat → Prop) : Prop := ∃ (g : Nat) (b sh wt rd rg : Value),v = .pointer (some ⟨g,0,none⟩) ∧ VC w g b sh wt rd rg s.base s.shown (kys s.wr) s.rd s.rg ∧ s.Ok ∧ Bare s.wr ∧ S = own g rg ∧ D = own g rg
theorem stays : Stays VRep where
 stay := by
  rintro w w' v s S D T ⟨g,b,sh,wt,rd,rg,rfl,hv,h1,h2,rfl,rfl⟩ hc hT hk
  exact ⟨g,b,sh,wt,rd,rg,rfl,hv.stay hc hk (fun h => hT g h (.inl rfl)) (fun k hk' h => hT k h (.inr hk')),h1,h2,rfl,rfl⟩
 ok := by
  rintro w v s S D ⟨g,b,sh,wt,rd,rg,rfl,hv,h1,h2,rfl,rfl⟩
  exact h1
 lt := by
  rintro w v s S D ⟨g,b,sh,wt,rd,rg,rfl,hv,h1,h2,rfl,rfl⟩ q hq
  rcases hq with rfl | hq
  ·exact hv.lt
  ·exact (hv.rgs.lt hq).2
 sub := by
  rintro w v s S D ⟨g,b,sh,wt,rd,rg,rfl,hv,h1,h2,rfl,rfl⟩ q hq
  exact hq
theorem lens {s : Vs} (h : Lim s) (ho : s.Ok) : s.base.length ≤ 2000 ∧ s.shown.length ≤ 50000 ∧ s.wr.length ≤ 2000 ∧ (kys s.wr).length ≤ 50000 ∧ s.rd.length ≤ 30000 ∧ s.rg.length ≤ 2000 := by
 have h1 := h.base
 have h2 := h.rd
 have h3 := h.rg
 have h4 := ho.lw
 have h5 : s.shown.length ≤ s.base.length + s.wr.length := shown_len s.base s.wr
 refine ⟨by omega,by omega,by omega,by rw [kys_len]; omega,by omega,by omega⟩
theorem room_full (s : Vs) (k x : ByteArray) (gn : Bool) : roomB k (kys s.wr) = !fullW s.wr ⟨k,x,gn⟩ := by
 unfold roomB fullW
 rw [kys_in,kys_len]
 dsimp only
 cases inW k s.wr with
 | true => rfl
 | false =>
   by_cases h : s.wr.length < 48
   ·rw [decide_eq_true h,decide_eq_false (by omega)]
    rfl
   ·rw [decide_eq_false h,decide_eq_true (by omega)]
    rfl
theorem stp {g : Nat} {rg : Value} {w w' : World} (d : Did g rg w w') : Stp (own g rg) (own g rg) (own g rg) (own g rg) w w' := ⟨d.chg,d.kept,Grow.refl _ _,Grow.refl _ _⟩
theorem own_new {w : World} {g : Nat} {rg rg' : Value} (h : RgTo w rg rg') : Grow w (own g rg) (own g rg') := fun b hb => by
 rcases hb with rfl | hb
 ·exact .inl (.inl rfl)
 ·rcases h with h | ⟨k,h1,h2⟩
  ·exact .inl (.inr (by rw [← h]; exact hb))
  ·rw [h1] at hb
   injection hb with hb
   exact .inr (by omega)
theorem sh_of {α : Type} {e : Enc α} {T : TypeId} {w : World} {base : Nat} {v : Value} {L : List α} (h : So e T w base v L.length L) : ∃ r : Sh,v = .slice r.a r.n r.c ∧ Sl e w r.a r.n L ∧ ∀ b o,r.a = some ⟨b,o,none⟩ → base ≤ b := by
 rcases h.form with ⟨rfl,h0⟩ | ⟨g,cap,rfl,h1,_⟩
 ·refine ⟨⟨none,0,0⟩,rfl,?_,fun b o e => by cases e⟩
  have := List.eq_nil_of_length_eq_zero h0
  subst this
  exact Sl.nil_ _ _ _
 ·exact ⟨⟨some ⟨g,0,none⟩,L.length,cap⟩,rfl,So.sl h,fun b o e => by injection e with e; injection e with e; omega⟩
theorem new_ok : NewOk VRep := by
 intro w t L h hr hl
 refine (new_calls t w (TN.of hr)).mono ?_
 rintro e w' ⟨rfl,hv,hb⟩
 have hw : ∀ q,own w.heap.size (.slice none 0 0) q → w.heap.size ≤ q := fun q hq => by
  rcases hq with rfl | hq
  ·exact Nat.le_refl _
  ·cases hq
 exact ⟨_,_,_,rfl,⟨_,_,_,_,_,_,rfl,hv,⟨trise hr,List.Pairwise.nil,List.Pairwise.nil,Nat.zero_le _⟩,Bare.nil,rfl,rfl⟩,hw,hw,hb⟩
theorem get_ok : GetOk VRep := by
 rintro w v s S D k ⟨g,b,sh,wt,rd,rg,rfl,hv,h1,h2,rfl,rfl⟩ hl hk
 obtain ⟨l1,l2,l3,l4,l5,l6⟩ := lens hl h1
 refine (get_calls k hv l2 (by omega)).mono ?_
 rintro e w' ⟨rd',rfl,hv',hd⟩
 exact ⟨_,_,rfl,⟨g,b,sh,wt,rd',rg,rfl,by rw [put_putP] at hv'; exact hv',ok_read h1 k,h2,rfl,rfl⟩,stp hd⟩
theorem look_ok : LookOk VRep := by
 rintro w v s S D k ⟨g,b,sh,wt,rd,rg,rfl,hv,h1,h2,rfl,rfl⟩ hl hk
 obtain ⟨l1,l2,l3,l4,l5,l6⟩ := lens hl h1
 refine (look_calls k hv l2).mono ?_
 rintro e w' ⟨rfl,rfl⟩
 exact ⟨_,_,rfl,⟨g,b,sh,wt,rd,rg,rfl,hv,h1,h2,rfl,rfl⟩,stp (Did.refl _ _ _)⟩
theorem range_ok : RangeOk VRep := by
 rintro w v s S D x y ⟨g,b,sh,wt,rd,rg,rfl,hv,h1,h2,rfl,rfl⟩ hl hx hy
 obtain ⟨l1,l2,l3,l4,l5,l6⟩ := lens hl h1
 have key : ∀ (G : List (ByteArray × ByteArray)) (L : List Pr),(s.ranged x y).rg = G → s.rangeOf x y = L → Calls Tryz.prog 23 #[.pointer (some ⟨g,0,none⟩),.string x,.string y] w (RangeR g b sh wt rd rg s.base s.shown (kys s.wr) s.rd G L w) → Calls Tryz.prog 23 #[.pointer (some ⟨g,0,none⟩),.string x,.string y] w fun e w' => ∃ (r : Sh) (S' D' : Nat → Prop),e = .returned (.slice r.a r.n r.c) ∧ Sl prE w' r.a r.n (s.rangeOf x y) ∧ (0 < r.n → NewA w r) ∧ VRep w' (.pointer (some ⟨g,0,none⟩)) (s.ranged x y) S' D' ∧ Stp (own g rg) (own g rg) S' D' w w' := by
  intro G L hG hL hc
  refine hc.mono ?_
  rintro e w' ⟨u,rg',rfl,ho,hv',hd,hto⟩
  obtain ⟨r,rfl,hsl,hnew⟩ := sh_of ho
  refine ⟨r,_,_,rfl,by rw [hL]; exact hsl,fun _ => fun b o e => hnew b o e,⟨g,b,sh,wt,rd,rg',rfl,?_,ok_ranged h1 x y,?_,rfl,rfl⟩,hd.chg,hd.kept,own_new hto,own_new hto⟩
  ·rw [hG]
   have e1 : (s.ranged x y).base = s.base ∧ (s.ranged x y).shown = s.shown ∧ (s.ranged x y).wr = s.wr ∧ (s.ranged x y).rd = s.rd := by
    unfold Vs.ranged
    split <;> exact ⟨rfl,rfl,rfl,rfl⟩
   rw [e1.1,e1.2.1,e1.2.2.1,e1.2.2.2]
   exact hv'
  ·have e1 : (s.ranged x y).wr = s.wr := by
    unfold Vs.ranged
    split <;> rfl
   rw [e1]
   exact h2
 cases hk : kl x y with
 | false =>
   refine key s.rg [] ?_ ?_ (range_none x y hv hk)
   ·unfold Vs.ranged
    rw [hk]
    rfl
   ·unfold Vs.rangeOf
    rw [hk]
    rfl
 | true =>
   cases hh : hasR x y s.rg with
   | true =>
     refine key s.rg (rangeL x y s.shown) ?_ ?_ (range_old x y hv l2 (by omega) hk hh)
     ·unfold Vs.ranged addR
      rw [hk,hh]
      rfl
     ·unfold Vs.rangeOf
      rw [hk]
      rfl
   | false =>
     refine key (s.rg ++ [(x,y)]) (rangeL x y s.shown) ?_ ?_ (range_new x y hv l2 (by omega) hk hh)
     ·unfold Vs.ranged addR
      rw [hk,hh]
      rfl
     ·unfold Vs.rangeOf
      rw [hk]
      rfl
theorem set_ok : SetOk VRep := by
 rintro w v s S D k x ⟨g,b,sh,wt,rd,rg,rfl,hv,h1,h2,rfl,rfl⟩ hl hk hx
 obtain ⟨l1,l2,l3,l4,l5,l6⟩ := lens hl h1
 have hrf := room_full s k x false
 cases hf : fullW s.wr ⟨k,x,false⟩ with
 | true =>
   rw [hf] at hrf
   refine (set_no k x hv l4 hrf).mono ?_
   rintro e w' ⟨rfl,rfl⟩
   have e1 : s.write ⟨k,x,false⟩ = s := by
    unfold Vs.write
    rw [hf]
    rfl
   rw [e1]
   exact ⟨_,_,rfl,⟨g,b,sh,wt,rd,rg,rfl,hv,h1,h2,rfl,rfl⟩,stp (Did.refl _ _ _)⟩
 | false =>
   rw [hf] at hrf
   refine (set_yes k x hv l2 l4 hrf).mono ?_
   rintro e w' ⟨sh',wt',rfl,hv',hd⟩
   have e1 : s.write ⟨k,x,false⟩ = { s with wr := writeW s.base s.wr ⟨k,x,false⟩ } := by
    unfold Vs.write
    rw [hf]
    rfl
   have hok := ok_write h1 ⟨k,x,false⟩
   rw [e1] at hok ⊢
   refine ⟨_,_,rfl,⟨g,b,sh',wt',rd,rg,rfl,?_,hok,h2.write (B := s.base) (p := ⟨k,x,false⟩) (fun h => by cases h),rfl,rfl⟩,stp hd⟩
   have e2 : shownL s.base (writeW s.base s.wr ⟨k,x,false⟩) = putL k x s.shown := shown_write h1.base h1.wr ⟨k,x,false⟩
   have e3 : kys (writeW s.base s.wr ⟨k,x,false⟩) = putL k ⟨#[]⟩ (kys s.wr) := by rw [put_is,kys_put]
   show VC w' g b sh' wt' rd rg s.base (shownL s.base (writeW s.base s.wr ⟨k,x,false⟩)) (kys (writeW s.base s.wr ⟨k,x,false⟩)) s.rd s.rg
   rw [e2,e3]
   exact hv'
theorem cut_ok : CutOk VRep := by
 rintro w v s S D k ⟨g,b,sh,wt,rd,rg,rfl,hv,h1,h2,rfl,rfl⟩ hl hk
 obtain ⟨l1,l2,l3,l4,l5,l6⟩ := lens hl h1
 have hrf := room_full s k ⟨#[]⟩ true
 cases hf : fullW s.wr ⟨k,⟨#[]⟩,true⟩ with
 | true =>
   rw [hf] at hrf
   refine (cut_no k hv l4 hrf).mono ?_
   rintro e w' ⟨rfl,rfl⟩
   have e1 : s.write ⟨k,⟨#[]⟩,true⟩ = s := by
    unfold Vs.write
    rw [hf]
    rfl
   rw [e1]
   exact ⟨_,_,rfl,⟨g,b,sh,wt,rd,rg,rfl,hv,h1,h2,rfl,rfl⟩,stp (Did.refl _ _ _)⟩
 | false =>
   rw [hf] at hrf
   have e1 : s.write ⟨k,⟨#[]⟩,true⟩ = { s with wr := writeW s.base s.wr ⟨k,⟨#[]⟩,true⟩ } := by
    unfold Vs.write
    rw [hf]
    rfl
   have hok := ok_write h1 ⟨k,⟨#[]⟩,true⟩
   have e2 : shownL s.base (writeW s.base s.wr ⟨k,⟨#[]⟩,true⟩) = cutL k s.shown := shown_write h1.base h1.wr ⟨k,⟨#[]⟩,true⟩
   rw [e1] at hok ⊢
   cases hB : getL k s.base with
   | some p =>
     refine (cut_yes k p hB hv (by omega) l2 l4 hrf).mono ?_
     rintro e w' ⟨sh',wt',rfl,hv',hd⟩
     refine ⟨_,_,rfl,⟨g,b,sh',wt',rd,rg,rfl,?_,hok,h2.write (B := s.base) (p := ⟨k,⟨#[]⟩,true⟩) (fun _ => rfl),rfl,rfl⟩,stp hd⟩
     have e3 : kys (writeW s.base s.wr ⟨k,⟨#[]⟩,true⟩) = putL k ⟨#[]⟩ (kys s.wr) := by rw [ViewKm.cut_is,hB]; exact kys_put ⟨k,⟨#[]⟩,true⟩ s.wr
     show VC w' g b sh' wt' rd rg s.base (shownL s.base (writeW s.base s.wr ⟨k,⟨#[]⟩,true⟩)) (kys (writeW s.base s.wr ⟨k,⟨#[]⟩,true⟩)) s.rd s.rg
     rw [e2,e3]
     exact hv'
   | none =>
     refine (cut_new k hB hv (by omega) l2 l4 hrf).mono ?_
     rintro e w' ⟨sh',wt',rfl,hv',hd⟩
     refine ⟨_,_,rfl,⟨g,b,sh',wt',rd,rg,rfl,?_,hok,h2.write (B := s.base) (p := ⟨k,⟨#[]⟩,true⟩) (fun _ => rfl),rfl,rfl⟩,stp hd⟩
     have e3 : kys (writeW s.base s.wr ⟨k,⟨#[]⟩,true⟩) = cutL k (kys s.wr) := by rw [ViewKm.cut_is,hB]; exact kys_cut k s.wr
     show VC w' g b sh' wt' rd rg s.base (shownL s.base (writeW s.base s.wr ⟨k,⟨#[]⟩,true⟩)) (kys (writeW s.base s.wr ⟨k,⟨#[]⟩,true⟩)) s.rd s.rg
     rw [e2,e3]
     exact hv'
end Go.Proofs.YtfalhnomhidkcaaGreatDoor.ViewK
namespace Go.Proofs.YtfalhnomhidkcaaGreatDoor.WalkK
open ViewM ViewL WalkL WalkD WalkE WalkV WalkKa WalkKb
def VRep : RepT := VB ViewK.VRep
theorem small : Small VRep := fun _ _ _ _ _ r => r.2
theorem stays : Stays VRep := stays_b ViewK.stays
theorem shown_len ⦃w : World⦄ ⦃v : Value⦄ ⦃s : Vs⦄ ⦃S D : Nat → Prop⦄ (r : VRep w v s S D) (h : Lim s) : s.shown.length ≤ 100000 := by
 have := (ViewK.lens h (stays.ok r)).2.1
 omega
theorem wks : Wks VRep := ⟨save_ok stays (set_b ViewK.set_ok),drop_ok stays (cut_b ViewK.cut_ok),hang_ok stays (set_b ViewK.set_ok),unhang_ok stays (cut_b ViewK.cut_ok),child_ok stays (get_b ViewK.get_ok) small,list_ok stays (range_b ViewK.range_ok) shown_len⟩
theorem find_ok : FindOk VRep := by
 intro w v s S D path hr hl h2 hn hx
 by_cases hs : (NamesM.spl path).2 = 0
 ·refine (find_yes_calls stays (get_b ViewK.get_ok) small path hr hl h2 hn hx hs (WalkF.findM s.shown path).1 (WalkF.findM s.shown path).2 rfl).mono ?_
  rintro e w' ⟨s',S',D',he,h3,h4,h5⟩
  exact ⟨s',S',D',he,h3,h4,h5⟩
 ·have hf := WalkKm.find_no (L := s.shown) hs
  refine (find_no_calls stays path hr hn hx hs).mono ?_
  rintro e w' ⟨s',S',D',he,h3,h4,h5⟩
  rw [hf]
  exact ⟨s',S',D',he,h3,h4,h5⟩
end Go.Proofs.YtfalhnomhidkcaaGreatDoor.WalkK
namespace Go.Proofs.YtfalhnomhidkcaaGreatDoor.DirsK
open Go.RowKit
open Byte KeysM TreeM ViewM NodeM NamesM NamesL WalkM WalkF WalkKm DirsV Lst Chg TreeL ViewL WalkL WalkV Vat WalkKa WalkKb
open Own hiding keeps
variable {Rep : RepT} {w : World} {v : Value} {s : Vs} {S D : Nat → Prop}
structure Wk (Rep : RepT) : Prop where
 stays : Stays Rep
 get : GetOk Rep
 range : RangeOk Rep
 cut : CutOk Rep
 small : Small Rep
 save : SaveOk Rep
 drop : DropOk Rep
 hang : HangOk Rep
 unhang : UnhangOk Rep
 list : ListOk Rep
 find : WalkE.FindOk Rep
 shown : ∀ ⦃w v s S D⦄,Rep w v s S D → Lim s → s.shown.length ≤ 100000
theorem wk : Wk WalkK.VRep := ⟨WalkK.stays,get_b ViewK.get_ok,range_b ViewK.range_ok,cut_b ViewK.cut_ok,WalkK.small,WalkK.wks.save,WalkK.wks.drop,WalkK.wks.hang,WalkK.wks.unhang,WalkK.wks.list,WalkK.find_ok,WalkK.shown_len⟩
def Wrote (Rep : RepT) (v : Value) (s : Vs) (ps : List Wrt) (k m : Nat) (S D : Nat → Prop) (w : World) (e : Ending) (w' : World) : Prop := ∃ s' S' D',e = .returned (.bool (goW s ps).2) ∧ Rep w' v s' S' D' ∧ Stp S D S' D' w w' ∧ Aft s s' ps k m
theorem lim_aft {s s' : Vs} {ps : List Wrt} {k m : Nat} (h : Aft s s' ps k m) (hl : Lim s) (h1 : s.rd.length + k ≤ 20000) (h2 : s.rg.length + m ≤ 1000) : Lim s' :=
 ⟨by rw [h.sm.base,goW_base]; exact hl.base,Nat.le_trans h.rd h1,Nat.le_trans h.rg h2⟩
theorem wrote_one {v : Value} {s t : Vs} {p : Wrt} {q : Pr} {k : Nat} {S D S' D' : Nat → Prop} {w w' : World} (hq : p s.shown = q) (ht : Sm t s) (h1 : t.rd.length ≤ s.rd.length + k) (h2 : t.rg.length ≤ s.rg.length) (hr : Rep w' v (t.write q) S' D') (st : Stp S D S' D' w w') : Wrote Rep v s [p] k 0 S D w (.returned (.bool (!fullW t.wr q))) w' := by
 subst hq
 have h3 := write_rd t (p s.shown)
 exact ⟨_,S',D',by rw [one_ok,ht.wr],hr,st,Aft.one (ht.write _) (by rw [h3.1]; exact h1) (by rw [h3.2]; exact h2)⟩
theorem tie_calls (hW : Wk Rep) {w : World} {v : Value} {s : Vs} {S D : Nat → Prop} (dir more : Int) (hr : Rep w v s S D) (hl : Lim s) (h2 : s.rd.length ≤ 19990) (h0 : 0 ≤ dir) (h1 : dir ≤ 4294967295) (hm0 : -1 ≤ more) (hm1 : more ≤ 1) :
 Calls Tryz.prog 92 #[v,.int .u32 dir,.int .i64 more] w (Wrote Rep v s [tieP dir more] 1 0 S D w) := by
 have A0 := hQ_ (At.start hr)
 have HLD := hQ_ (load_calls hW.stays hW.get hW.small dir hr hl h0 h1)
 unfold LoadV at HLD
 have HS := hQ_ hW.stays
 have hbd := load_k s.shown dir
 have hl2 : Lim (s.read (kI dir)) := ⟨hl.base,by have := read_len s (kI dir); omega,hl.rg⟩
 have HSV := hQ_ (fun (l : Int) (w1 : World) (S D : Nat → Prop) (hr1 : Rep w1 v (s.read (kI dir)) S D) (b0 : 0 ≤ l) (b1 : l ≤ 4294967295) => hW.save dir (loadM s.shown dir).1.k l (loadM s.shown dir).1.s (loadM s.shown dir).1.p hr1 hl2 h0 h1 ⟨hbd.1,hbd.2.1,b0,b1,hbd.2.2.2.2.1,hbd.2.2.2.2.2.1,hbd.2.2.2.2.2.2.1,hbd.2.2.2.2.2.2.2⟩)
 have HFIN : Hid (∀ l,l = u32 ((loadM s.shown dir).1.l + more) → (tieP dir more s.shown) = ⟨kI dir,nput (loadM s.shown dir).1.k l (loadM s.shown dir).1.s (loadM s.shown dir).1.p,false⟩) := hQ_ (fun l hl => by rw [hl]; rfl)
 have hrl := hQ_ (read_len s (kI dir))
 generalize (loadM s.shown dir).2 = bb at *
 generalize (loadM s.shown dir).1 = xx at *
 obtain ⟨xk,xl,xz,xp⟩ := xx
 dsimp only at HLD HSV HFIN hbd
 obtain ⟨b0,b1,b2,b3,b4,b5,b6,b7⟩ := hbd
 clear hr hl hl2 h2
 go_enter Tryz.func92,Tryz.ntmps92
 go_wp2_with fail
 refine HLD.out.mono ?_
 rintro e w2 ⟨S2,D2,rfl,hr2,st2⟩
 have hbn := bN_ w2 (.cells #[.int .u8 xk,.int .u32 ((xl + more) % 4294967296),.int .u32 xz,.int .u32 xp] 59)
 have A2 := hQ_ ((A0.out.step HS.out hr2 st2).below HS.out hbn)
 clear hr2 st2 hbn
 go_wp2_with fail
 refine (HSV.out ((xl + more) % 4294967296) _ _ _ A2.out.rep (by omega) (by omega)).mono ?_
 rintro e w3 ⟨S3,D3,rfl,hr3,st3⟩
 have A3 := hQ_ (A2.out.step HS.out hr3 st3)
 clear st3 hr3
 go_wp2_with fail
 go_ret
 exact wrote_one (HFIN.out _ rfl) ((Sm.refl s).read _) hrl.out (Nat.le_refl _) A3.out.rep A3.out.st
theorem when_calls (b : Bool) (er : Int) (w : World) : Calls Tryz.prog 72 #[.bool b,.int .i64 er] w fun e w' => e = .returned (.int .i64 (if b then er else 0)) ∧ w = w' := by
 cases b
 all_goals
  go_enter Tryz.func72,Tryz.ntmps72
  go_wp2_with fail
  go_ret
  exact ⟨rfl,rfl⟩
theorem room_calls (b : Bool) (w : World) : Calls Tryz.prog 75 #[.bool b] w fun e w' => e = .returned (.int .i64 (if b then 0 else 21)) ∧ w = w' := by
 have H := hQ_ (fun b w => when_calls b 21 w)
 cases b
 all_goals
  go_enter Tryz.func75,Tryz.ntmps75
  go_wp2_with (go_at_call 72; refine (H.out _ _).mono ?_; rintro e w' ⟨rfl,rfl⟩)
  go_ret
  exact ⟨rfl,rfl⟩
end Go.Proofs.YtfalhnomhidkcaaGreatDoor.DirsK
namespace Go.Proofs.YtfalhnomhidkcaaGreatDoor.DirsKa
open Go.RowKit
open Byte KeysM KeysS KeysV KeysB KeysD TreeM TreeR ViewM NodeM NamesM NamesR NamesL NamesK WalkM WalkF WalkKm DirsV Lst Chg TreeL ViewL WalkL WalkV Vat WalkKa WalkKb DirsK
open Own hiding keeps
variable {Rep : RepT} {w : World} {v : Value} {s : Vs} {S D : Nat → Prop}
def erE : Enc Int := ⟨fun x => [.int .i64 x],1,fun _ => rfl,fun x u hu => by
 rw [List.mem_singleton.1 hu]; rfl,by decide⟩
def fst_ : List Int → Int
 | [] => 0
 | x :: r => if x = 0 then fst_ r else x
theorem er_cell {w : World} {b o k : Nat} {x : Int} (h : w.rangeAt b (o + k * erE.size) (erE.cells x)) : w.cell? ⟨b,o + k,none⟩ = some (.int .i64 x) := by
 have := h 0 _ rfl
 simpa [erE] using this
theorem first_calls (A : Option Addr) (n c : Nat) (L : List Int) (w : World) (hl : Sl erE w A n L) (hn : n ≤ 100) : Calls Tryz.prog 71 #[.slice A n c] w fun e w' => e = .returned (.int .i64 (fst_ L)) ∧ w = w' := by
 have HL := hQ_ hl
 have HLN := hQ_ hl.1
 clear hl
 go_enter Tryz.func71,Tryz.ntmps71
 go_wp2_with fail
 go_loop [7] (fun i => ∃ k : Nat,k ≤ n ∧ i = .int .i64 k ∧ Hid (fst_ (L.drop k) = fst_ L)) (fun i => n - (intOf i).toNat)
 case atStart => exact ⟨0,Nat.zero_le _,rfl,hQ_ rfl⟩
 case round =>
  obtain ⟨k,hk,rfl,HR⟩ := hrel
  by_cases hlt : k < n
  ·obtain ⟨x,g,o,hx,rfl,hg,hcl⟩ := HL.out.get k hlt
   have c1 := er_cell hcl
   have hr := HR.out
   rw [show L.drop k = x :: L.drop (k + 1) by
    obtain ⟨hk,he⟩ := List.getElem?_eq_some_iff.1 hx
    rw [List.drop_eq_getElem_cons hk,he]] at hr
   unfold fst_ at hr
   clear hcl hx
   by_cases h0 : x = 0
   ·rw [if_pos h0] at hr
    have d1 : (x != 0) = false := by simpa using h0
    have HR2 : Hid (fst_ (L.drop (k + 1)) = fst_ L) := hQ_ (by rw [hr]; cases L <;> rfl)
    clear hr HR h0
    go_wp2_with fail
    go_round
    case rel => exact ⟨k + 1,by omega,by go_num,HR2⟩
    case measure => simp [intOf]; omega
   ·rw [if_neg h0] at hr
    have d1 : (x != 0) = true := by simpa using h0
    have HE : Hid (x = fst_ L) := hQ_ (by rw [hr]; cases L <;> rfl)
    clear hr HR h0
    go_wp2_with fail
    go_ret
    exact ⟨by rw [HE.out]; rfl,rfl⟩
  ·have hr := HR.out
   rw [List.drop_eq_nil_of_le (by rw [HLN.out]; omega)] at hr
   have HE : Hid (0 = fst_ L) := hQ_ hr
   clear hr HR
   go_wp2_with fail
   go_ret
   exact ⟨by rw [HE.out]; rfl,rfl⟩
theorem first_2 (a b : Int) (w : World) : Calls Tryz.prog 71 #[.slice (some ⟨w.heap.size,0,none⟩) 2 2] (w.alloc (.cells #[.int .i64 a,.int .i64 b] 66)) fun e w' => e = .returned (.int .i64 (fst_ [a,b])) ∧ (w.alloc (.cells #[.int .i64 a,.int .i64 b] 66)) = w' :=
 first_calls _ 2 2 [a,b] _ (So.lit erE 66 w (base := w.heap.size) [a,b] #[.int .i64 a,.int .i64 b] 2 rfl rfl (Nat.le_refl _) (by decide)).sl (by decide)
theorem save_w (hW : Wk Rep) (ino k l z p : Int) (hr : Rep w v s S D) (hl : Lim s) (h0 : 0 ≤ ino) (h1 : ino ≤ 4294967295) (hb : InoB k l z p) : Calls Tryz.prog 79 #[v,.int .u32 ino,.agg #[.int .u8 k,.int .u32 l,.int .u32 z,.int .u32 p]] w (Wrote Rep v s [saveP ino k l z p] 0 0 S D w) :=
 (hW.save ino k l z p hr hl h0 h1 hb).mono fun e w' ⟨S',D',he,h,st⟩ => by subst he; exact wrote_one (p := saveP ino k l z p) rfl (Sm.refl s) (Nat.le_refl _) (Nat.le_refl _) h st
theorem hang_w (hW : Wk Rep) (dir : Int) (name : ByteArray) (ino : Int) (hr : Rep w v s S D) (hl : Lim s) (h0 : 0 ≤ dir) (h1 : dir ≤ 4294967295) (i0 : 0 ≤ ino) (i1 : ino ≤ 4294967295) (hn : name.size ≤ 100000) : Calls Tryz.prog 78 #[v,.int .u32 dir,.string name,.int .u32 ino] w (Wrote Rep v s [hangP dir name ino] 0 0 S D w) :=
 (hW.hang dir name ino hr hl h0 h1 i0 i1 hn).mono fun e w' ⟨S',D',he,h,st⟩ => by subst he; exact wrote_one (p := hangP dir name ino) rfl (Sm.refl s) (Nat.le_refl _) (Nat.le_refl _) h st
def cutP (k : ByteArray) : Wrt := fun _ => ⟨k,⟨#[]⟩,true⟩
theorem cut_w (hW : Wk Rep) (k : ByteArray) (hr : Rep w v s S D) (hl : Lim s) (hk : k.size ≤ 100000) : Calls Tryz.prog 134 #[v,.string k] w (Wrote Rep v s [cutP k] 0 0 S D w) :=
 (hW.cut k hr hl (by omega)).mono fun e w' ⟨S',D',he,h,st⟩ => by subst he; exact wrote_one (p := cutP k) rfl (Sm.refl s) (Nat.le_refl _) (Nat.le_refl _) h st
theorem Wrote.split {v : Value} {s : Vs} {ps : List Wrt} {k m : Nat} {S D : Nat → Prop} {w : World} {e : Ending} {w' : World} (h : Wrote Rep v s ps k m S D w e w') :
 (∃ s' S' D',e = .returned (.bool true) ∧ (goW s ps).2 = true ∧ Rep w' v s' S' D' ∧ Stp S D S' D' w w' ∧ Aft s s' ps k m) ∨ (∃ s' S' D',e = .returned (.bool false) ∧ (goW s ps).2 = false ∧ Rep w' v s' S' D' ∧ Stp S D S' D' w w' ∧ Aft s s' ps k m) := by
 obtain ⟨s',S',D',he,hr,st,ha⟩ := h
 cases ho : (goW s ps).2 with
 | true => rw [ho] at he; exact .inl ⟨s',S',D',he,rfl,hr,st,ha⟩
 | false => rw [ho] at he; exact .inr ⟨s',S',D',he,rfl,hr,st,ha⟩
def Ans (Rep : RepT) (v : Value) (s : Vs) (er : Int) (ps : List Wrt) (k m : Nat) (S D : Nat → Prop) (w : World) (e : Ending) (w' : World) : Prop := ∃ s' S' D',e = .returned (.int .i64 (if (goW s ps).2 = true then er else 21)) ∧ Rep w' v s' S' D' ∧ Stp S D S' D' w w' ∧ Aft s s' ps k m
theorem Ans.ok {v : Value} {s s' : Vs} {er : Int} {ps : List Wrt} {k m : Nat} {S D M S' D' : Nat → Prop} {w w' : World} (A : At Rep w S D M w' v s' S' D') (h : Aft s s' ps k m ∧ (goW s ps).2 = true) : Ans Rep v s er ps k m S D w (.returned (.int .i64 er)) w' := ⟨s',S',D',by rw [h.2]; rfl,A.rep,A.st,h.1⟩
theorem Ans.full {v : Value} {s s' : Vs} {er : Int} {ps : List Wrt} {k m : Nat} {S D M S' D' : Nat → Prop} {w w' : World} (A : At Rep w S D M w' v s' S' D') (h : Aft s s' ps k m ∧ (goW s ps).2 = false) : Ans Rep v s er ps k m S D w (.returned (.int .i64 21)) w' := ⟨s',S',D',by rw [h.2]; rfl,A.rep,A.st,h.1⟩
theorem Ans.split {v : Value} {s : Vs} {er : Int} {ps : List Wrt} {k m : Nat} {S D : Nat → Prop} {w : World} {e : Ending} {w' : World} (h : Ans Rep v s er ps k m S D w e w') :
 (∃ s' S' D',e = .returned (.int .i64 er) ∧ (goW s ps).2 = true ∧ Rep w' v s' S' D' ∧ Stp S D S' D' w w' ∧ Aft s s' ps k m) ∨ (∃ s' S' D',e = .returned (.int .i64 21) ∧ (goW s ps).2 = false ∧ Rep w' v s' S' D' ∧ Stp S D S' D' w w' ∧ Aft s s' ps k m) := by
 obtain ⟨s',S',D',he,hr,st,ha⟩ := h
 cases ho : (goW s ps).2 with
 | true => rw [ho] at he; exact .inl ⟨s',S',D',he,rfl,hr,st,ha⟩
 | false => rw [ho] at he; exact .inr ⟨s',S',D',he,rfl,hr,st,ha⟩
end Go.Proofs.YtfalhnomhidkcaaGreatDoor.DirsKa
namespace Go.Proofs.YtfalhnomhidkcaaGreatDoor.DirsKc
open Go.RowKit
open Byte KeysM TreeM ViewM ViewKm NodeM NodeG NamesM NamesL WalkM WalkF WalkKm DirsV Lst Chg TreeL ViewL WalkL WalkV Vat WalkKa WalkKb DirsK DirsKa
open Own hiding keeps
variable {Rep : RepT} {w : World} {v : Value} {s : Vs} {S D : Nat → Prop}
def Mxs (w : World) (S : Nat → Prop) : Prop := Mx w ∧ ¬ S 0
theorem Mxs.lt {w : World} {S : Nat → Prop} (h : Mxs w S) : 0 < w.heap.size := by
 obtain ⟨⟨m,hm⟩,_⟩ := h
 exact World.block_lt_of_cell? w ⟨0,0,none⟩ hm
theorem Mxs.step {w w' : World} {S D S' D' : Nat → Prop} (h : Mxs w S) (st : Stp S D S' D' w w') : Mxs w' S' := by
 refine ⟨?_,fun hs => ?_⟩
 ·obtain ⟨m,hm⟩ := h.1
  exact ⟨m,st.chg.cell hm h.2⟩
 ·rcases st.own _ hs with h1 | h1
  ·exact h.2 h1
  ·have := h.lt
   omega
theorem Mxs.below {w w' : World} {S : Nat → Prop} (h : Mxs w S) (hb : Below w.heap.size w w') : Mxs w' S := ⟨h.1.below hb,h.2⟩
theorem Mxs.at_ {w0 w : World} {S0 D0 M S D : Nat → Prop} {v : Value} {s : Vs} (h : Mxs w0 S0) (A : At Rep w0 S0 D0 M w v s S D) : Mxs w S := h.step A.st
end Go.Proofs.YtfalhnomhidkcaaGreatDoor.DirsKc
namespace Go.Proofs.YtfalhnomhidkcaaGreatDoor.DirsKd
open Go.RowKit
open Byte KeysM TreeM ViewM ViewKm NodeM NodeG NamesM NamesL WalkM WalkF WalkKm DirsV Lst Chg TreeL ViewL WalkL WalkV Vat WalkKa WalkKb DirsK DirsKa DirsKc
open Own hiding keeps
variable {Rep : RepT} {w : World} {v : Value} {s : Vs} {S D : Nat → Prop}
theorem when_t (er : Int) (w : World) : Calls Tryz.prog 72 #[.bool true,.int .i64 er] w fun e w' => e = .returned (.int .i64 er) ∧ w = w' := when_calls true er w
theorem when_f (er : Int) (w : World) : Calls Tryz.prog 72 #[.bool false,.int .i64 er] w fun e w' => e = .returned (.int .i64 0) ∧ w = w' := when_calls false er w
def FndC (Rep : RepT) (v : Value) (s t : Vs) (y : Spot) (er : Int) (S D : Nat → Prop) (w : World) (e : Ending) (w' : World) : Prop := ∃ s' S' D',e = .returned (.tuple #[.agg #[.int .u32 y.dir,.string y.name,.int .u32 y.ino,.int .u8 y.node.k,.int .u32 y.node.l,.int .u32 y.node.s,.int .u32 y.node.p],.int .i64 er]) ∧ Rep w' v s' S' D' ∧ Stp S D S' D' w w' ∧ Sm s' t ∧ s'.rd.length ≤ t.rd.length + 40 ∧ s'.rg.length ≤ t.rg.length
theorem find_c (hW : Wk Rep) {w : World} {v : Value} {s t : Vs} {S D : Nat → Prop} (path : ByteArray) {y : Spot} {er : Int} (hy : findM s.shown path = (y,er)) (hr : Rep w v t S D) (hsm : Sm t s) (hl : Lim t) (h2 : t.rd.length ≤ 19000) (hp : path.size ≤ 100000) (hx : Mx w) : Calls Tryz.prog 28 #[v,.string path] w (FndC Rep v s t y er S D w) := by
 refine (hW.find path hr hl h2 hp hx).mono ?_
 rw [hsm.shown,hy]
 rintro e w' ⟨s',S',D',he,hr',st,hf⟩
 exact ⟨s',S',D',he,hr',st,Sm.of_find hf,hf.len,Nat.le_of_eq (by rw [hf.rg])⟩
theorem Aft.found {s t t' : Vs} {ps : List Wrt} {k m : Nat} (h : Aft s t ps k m) (hs : Sm t' t) (h1 : t'.rd.length ≤ t.rd.length + 40) (h2 : t'.rg.length ≤ t.rg.length) : Aft s t' ps (k + 40) m := ⟨hs.trans h.sm,by have := h.rd; omega,by have := h.rg; omega⟩
theorem Aft.sm0 {s t : Vs} {k m : Nat} (h : Aft s t [] k m) : Sm t s := h.sm
theorem aftF {s t t' : Vs} {k m : Nat} (C : Aft s t [] k m ∧ (goW s []).2 = true) (hs : Sm t' t) (h1 : t'.rd.length ≤ t.rd.length + 40) (h2 : t'.rg.length ≤ t.rg.length) : Aft s t' [] (k + 40) m ∧ (goW s []).2 = true := ⟨Aft.found C.1 hs h1 h2,rfl⟩
end Go.Proofs.YtfalhnomhidkcaaGreatDoor.DirsKd
namespace Go.Proofs.YtfalhnomhidkcaaGreatDoor.DirsKe
open Go.RowKit
open Byte KeysM TreeM ViewM ViewKm NodeM NodeG NamesM NamesL WalkM WalkF WalkKm DirsV Lst Chg TreeL ViewL WalkL WalkV Vat WalkKa WalkKb DirsK DirsKa DirsKc DirsKd
open Own hiding keeps
variable {Rep : RepT} {w : World} {v : Value} {s : Vs} {S D : Nat → Prop}
theorem first_2g (a b : Int) (w : World) (g : Nat) (hg : w.heap.size = g) : Calls Tryz.prog 71 #[.slice (some ⟨g,0,none⟩) 2 2] (w.alloc (.cells #[.int .i64 a,.int .i64 b] 66)) fun e w' => e = .returned (.int .i64 (fst_ [a,b])) ∧ (w.alloc (.cells #[.int .i64 a,.int .i64 b] 66)) = w' := by
 subst hg
 exact first_2 a b w
theorem first_2d (a b : Int) (w : World) (g : Nat) (hg : w.heap.size = g) : Calls Tryz.prog 71 #[.slice (some ⟨g,0,none⟩) 2 2] (w.alloc (.cells #[.int .i64 a,.int .i64 b] 66)).drew fun e w' => e = .returned (.int .i64 (fst_ [a,b])) ∧ (w.alloc (.cells #[.int .i64 a,.int .i64 b] 66)).drew = w' := by
 subst hg
 exact first_calls _ 2 2 [a,b] _ ((So.lit erE 66 w (base := w.heap.size) [a,b] #[.int .i64 a,.int .i64 b] 2 rfl rfl (Nat.le_refl _) (by decide)).sl.below ((Below.refl _ _).drew)) (by decide)
theorem first_2b (a b : Int) (w : World) (g : Nat) (hg : w.heap.size = g) : (Calls Tryz.prog 71 #[.slice (some ⟨g,0,none⟩) 2 2] (w.alloc (.cells #[.int .i64 a,.int .i64 b] 66)) fun e w' => e = .returned (.int .i64 (fst_ [a,b])) ∧ (w.alloc (.cells #[.int .i64 a,.int .i64 b] 66)) = w') ∧ (Calls Tryz.prog 71 #[.slice (some ⟨g,0,none⟩) 2 2] (w.alloc (.cells #[.int .i64 a,.int .i64 b] 66)).drew fun e w' => e = .returned (.int .i64 (fst_ [a,b])) ∧ (w.alloc (.cells #[.int .i64 a,.int .i64 b] 66)).drew = w') := ⟨first_2g a b w g hg,first_2d a b w g hg⟩
theorem make_err (hW0 : Wk Rep) (path : ByteArray) (kind ino : Int) {xd xi xk xl xz xp er : Int} {xn : ByteArray} (hr : Rep w v s S D) (hl : Lim s) (h2 : s.rd.length ≤ 18000) (h3 : s.rg.length ≤ 900) (hx : Mxs w S) (hp : path.size ≤ 100000) (k0 : 0 ≤ kind) (k1 : kind ≤ 255) (i0 : 0 ≤ ino) (i1 : ino ≤ 4294967295) (hR : findM s.shown path = (⟨xd,xn,xi,⟨xk,xl,xz,xp⟩⟩,er)) (he : er ≠ 0) :
 Calls Tryz.prog 43 #[v,.string path,.int .u8 kind,.int .u32 ino] w (Ans Rep v s er [] 41 0 S D w) := by
 have A0 := hQ_ (At.start hr)
 have HX := hQ_ hx
 have HS := hQ_ hW0.stays
 have HL := hQ_ hl
 have C0 := hQ_ (aft0 s)
 have HWT := hQ_ when_t
 have HWF := hQ_ when_f
 have HFI := hQ_ (fun w (S D : Nat → Prop) (t : Vs) (hr : Rep w v t S D) (hsm : Sm t s) hl h2 hx => find_c hW0 path hR hr hsm hl h2 hp hx)
 unfold FndC at HFI
 have hsb := find_bd s.shown path
 rw [hR] at hsb
 obtain ⟨hd0,hd1,hi0,hi1,hn0⟩ := hsb
 dsimp only at hd0 hd1 hi0 hi1 hn0 HFI
 have d0 : (er != 0) = true := by simpa using he
 clear hr hl hp hR hx hW0
 by_cases h0 : xi = 0
 ·have d1 : (xi != 0) = false := by simpa using h0
  clear h0
  go_enter Tryz.func43,Tryz.ntmps43
  go_wp2_with fail
  refine (HFI.out _ _ _ _ A0.out.rep (Aft.sm0 C0.out.1) (lim_aft C0.out.1 HL.out (by omega) (by omega)) (by have := C0.out.1.rd; omega) (HX.out.at_ A0.out).1).mono ?_
  rintro e w1 ⟨s1,S1,D1,rfl,hr,st,hsm,hrd,hrg⟩
  have C1 := hQ_ (aftF C0.out hsm hrd hrg)
  have X1 := hQ_ (Blk.new_ w1 #[.int .u32 xd,.string xn,.int .u32 xi,.int .u8 xk,.int .u32 xl,.int .u32 xz,.int .u32 xp] 65)
  have hbn := bX_ X1.out
  have AQ := A0.out.step HS.out hr st
  have A1 := hQ_ (AQ.own HS.out hbn (Nat.le_refl w1.heap.size) (by simp))
  have f1_X0 := cC7 X1.out
  clear hr st hsm hrd hrg hbn AQ
  have FE2 : fst_ [er,0] = er := by unfold fst_; rw [if_neg he]
  have HF2 := hQ_ (first_2b (er) (0) (w1.alloc (.cells #[.int .u32 xd,.string xn,.int .u32 xi,.int .u8 xk,.int .u32 xl,.int .u32 xz,.int .u32 xp] 65)) (w1.heap.size + 1) (by simp))
  rw [FE2] at HF2
  clear FE2
  go_upto_region 2 with (fail)
  go_cut [11] (fun p wx => p = .int .i64 (er) ∧ BL_ (w1.alloc (.cells #[.int .u32 xd,.string xn,.int .u32 xi,.int .u8 xk,.int .u32 xl,.int .u32 xz,.int .u32 xp] 65)) wx)
  case first =>
   go_wp2_with (first | (go_at_call 72; (with_reducible refine (HWT.out _ _).mono ?_); rintro e w9 ⟨rfl,rfl⟩) | (go_at_call 72; (with_reducible refine (HWF.out _ _).mono ?_); rintro e w9 ⟨rfl,rfl⟩) | (go_at_call 71; (with_reducible refine HF2.out.1.mono ?_); rintro e w9 ⟨rfl,rfl⟩))
   all_goals
    go_meet
    exact fB_
  case rest =>
   obtain ⟨rfl,hbc⟩ := hcut
   have A2 := hQ_ (A1.out.below HS.out hbc)
   have X2 := hQ_ (X1.out.below hbc)
   skip
   have f2_X0 := cC7 X2.out
   clear hbc f1_X0
   clear he
   go_wp2_with fail
   go_ret
   exact Ans.ok A2.out ⟨C1.out.1.more (by omega) (by omega),C1.out.2⟩
 ·have d1 : (xi != 0) = true := by simpa using h0
  clear h0
  go_enter Tryz.func43,Tryz.ntmps43
  go_wp2_with fail
  refine (HFI.out _ _ _ _ A0.out.rep (Aft.sm0 C0.out.1) (lim_aft C0.out.1 HL.out (by omega) (by omega)) (by have := C0.out.1.rd; omega) (HX.out.at_ A0.out).1).mono ?_
  rintro e w3 ⟨s3,S3,D3,rfl,hr,st,hsm,hrd,hrg⟩
  have C3 := hQ_ (aftF C0.out hsm hrd hrg)
  have X3 := hQ_ (Blk.new_ w3 #[.int .u32 xd,.string xn,.int .u32 xi,.int .u8 xk,.int .u32 xl,.int .u32 xz,.int .u32 xp] 65)
  have hbn := bX_ X3.out
  have AQ := A0.out.step HS.out hr st
  have A3 := hQ_ (AQ.own HS.out hbn (Nat.le_refl w3.heap.size) (by simp))
  have f3_X0 := cC7 X3.out
  clear hr st hsm hrd hrg hbn AQ
  have FE4 : fst_ [er,11] = er := by unfold fst_; rw [if_neg he]
  have HF4 := hQ_ (first_2b (er) (11) (w3.alloc (.cells #[.int .u32 xd,.string xn,.int .u32 xi,.int .u8 xk,.int .u32 xl,.int .u32 xz,.int .u32 xp] 65)) (w3.heap.size + 1) (by simp))
  rw [FE4] at HF4
  clear FE4
  go_upto_region 2 with (fail)
  go_cut [11] (fun p wx => p = .int .i64 (er) ∧ BL_ (w3.alloc (.cells #[.int .u32 xd,.string xn,.int .u32 xi,.int .u8 xk,.int .u32 xl,.int .u32 xz,.int .u32 xp] 65)) wx)
  case first =>
   go_wp2_with (first | (go_at_call 72; (with_reducible refine (HWT.out _ _).mono ?_); rintro e w9 ⟨rfl,rfl⟩) | (go_at_call 72; (with_reducible refine (HWF.out _ _).mono ?_); rintro e w9 ⟨rfl,rfl⟩) | (go_at_call 71; (with_reducible refine HF4.out.1.mono ?_); rintro e w9 ⟨rfl,rfl⟩))
   all_goals
    go_meet
    exact fB_
  case rest =>
   obtain ⟨rfl,hbc⟩ := hcut
   have A4 := hQ_ (A3.out.below HS.out hbc)
   have X4 := hQ_ (X3.out.below hbc)
   skip
   have f4_X0 := cC7 X4.out
   clear hbc f3_X0
   clear he
   go_wp2_with fail
   go_ret
   exact Ans.ok A4.out ⟨C3.out.1.more (by omega) (by omega),C3.out.2⟩
theorem make_there (hW0 : Wk Rep) (path : ByteArray) (kind ino : Int) {xd xi xk xl xz xp er : Int} {xn : ByteArray} (hr : Rep w v s S D) (hl : Lim s) (h2 : s.rd.length ≤ 18000) (h3 : s.rg.length ≤ 900) (hx : Mxs w S) (hp : path.size ≤ 100000) (k0 : 0 ≤ kind) (k1 : kind ≤ 255) (i0 : 0 ≤ ino) (i1 : ino ≤ 4294967295) (hR : findM s.shown path = (⟨xd,xn,xi,⟨xk,xl,xz,xp⟩⟩,er)) (he : er = 0) (h0 : xi ≠ 0) :
 Calls Tryz.prog 43 #[v,.string path,.int .u8 kind,.int .u32 ino] w (Ans Rep v s 11 [] 41 0 S D w) := by
 have A0 := hQ_ (At.start hr)
 have HX := hQ_ hx
 have HS := hQ_ hW0.stays
 have HL := hQ_ hl
 have C0 := hQ_ (aft0 s)
 have HWT := hQ_ when_t
 have HWF := hQ_ when_f
 have HFI := hQ_ (fun w (S D : Nat → Prop) (t : Vs) (hr : Rep w v t S D) (hsm : Sm t s) hl h2 hx => find_c hW0 path hR hr hsm hl h2 hp hx)
 unfold FndC at HFI
 have hsb := find_bd s.shown path
 rw [hR] at hsb
 obtain ⟨hd0,hd1,hi0,hi1,hn0⟩ := hsb
 dsimp only at hd0 hd1 hi0 hi1 hn0 HFI
 subst he
 have d1 : (xi != 0) = true := by simpa using h0
 clear hr hl hp hR hx hW0 h0
 go_enter Tryz.func43,Tryz.ntmps43
 go_wp2_with fail
 refine (HFI.out _ _ _ _ A0.out.rep (Aft.sm0 C0.out.1) (lim_aft C0.out.1 HL.out (by omega) (by omega)) (by have := C0.out.1.rd; omega) (HX.out.at_ A0.out).1).mono ?_
 rintro e w1 ⟨s1,S1,D1,rfl,hr,st,hsm,hrd,hrg⟩
 have C1 := hQ_ (aftF C0.out hsm hrd hrg)
 have X1 := hQ_ (Blk.new_ w1 #[.int .u32 xd,.string xn,.int .u32 xi,.int .u8 xk,.int .u32 xl,.int .u32 xz,.int .u32 xp] 65)
 have hbn := bX_ X1.out
 have AQ := A0.out.step HS.out hr st
 have A1 := hQ_ (AQ.own HS.out hbn (Nat.le_refl w1.heap.size) (by simp))
 have f1_X0 := cC7 X1.out
 clear hr st hsm hrd hrg hbn AQ
 have FE2 : fst_ [0,11] = 11 := rfl
 have HF2 := hQ_ (first_2b (0) (11) (w1.alloc (.cells #[.int .u32 xd,.string xn,.int .u32 xi,.int .u8 xk,.int .u32 xl,.int .u32 xz,.int .u32 xp] 65)) (w1.heap.size + 1) (by simp))
 rw [FE2] at HF2
 clear FE2
 go_upto_region 2 with (fail)
 go_cut [11] (fun p wx => p = .int .i64 (11) ∧ BL_ (w1.alloc (.cells #[.int .u32 xd,.string xn,.int .u32 xi,.int .u8 xk,.int .u32 xl,.int .u32 xz,.int .u32 xp] 65)) wx)
 case first =>
  go_wp2_with (first | (go_at_call 72; (with_reducible refine (HWT.out _ _).mono ?_); rintro e w9 ⟨rfl,rfl⟩) | (go_at_call 72; (with_reducible refine (HWF.out _ _).mono ?_); rintro e w9 ⟨rfl,rfl⟩) | (go_at_call 71; (with_reducible refine HF2.out.1.mono ?_); rintro e w9 ⟨rfl,rfl⟩))
  all_goals
   go_meet
   exact fB_
 case rest =>
  obtain ⟨rfl,hbc⟩ := hcut
  have A2 := hQ_ (A1.out.below HS.out hbc)
  have X2 := hQ_ (X1.out.below hbc)
  skip
  have f2_X0 := cC7 X2.out
  clear hbc f1_X0
  go_wp2_with fail
  go_ret
  exact Ans.ok A2.out ⟨C1.out.1.more (by omega) (by omega),C1.out.2⟩
theorem make_file (hW0 : Wk Rep) (path : ByteArray) (kind ino : Int) {xd xi xk xl xz xp er : Int} {xn : ByteArray} (hr : Rep w v s S D) (hl : Lim s) (h2 : s.rd.length ≤ 18000) (h3 : s.rg.length ≤ 900) (hx : Mxs w S) (hp : path.size ≤ 100000) (k0 : 0 ≤ kind) (k1 : kind ≤ 255) (i0 : 0 ≤ ino) (i1 : ino ≤ 4294967295) (hR : findM s.shown path = (⟨xd,xn,xi,⟨xk,xl,xz,xp⟩⟩,er)) (he : er = 0) (h0 : xi = 0) (hkd : kind = 1) :
 Calls Tryz.prog 43 #[v,.string path,.int .u8 kind,.int .u32 ino] w (Ans Rep v s 0 [saveP ino 1 1 0 0,hangP xd xn ino] 41 0 S D w) := by
 have A0 := hQ_ (At.start hr)
 have HX := hQ_ hx
 have HS := hQ_ hW0.stays
 have HWK := hQ_ hW0
 have HL := hQ_ hl
 have HRO := hQ_ room_calls
 have C0 := hQ_ (aft0 s)
 have HWT := hQ_ when_t
 have HWF := hQ_ when_f
 have HFI := hQ_ (fun w (S D : Nat → Prop) (t : Vs) (hr : Rep w v t S D) (hsm : Sm t s) hl h2 hx => find_c hW0 path hR hr hsm hl h2 hp hx)
 unfold FndC at HFI
 have HNW := hQ_ (fun w => NodeK.new_ok kind xd w k0 k1 (by have := (find_bd s.shown path).d0; rw [hR] at this; exact this) (by have := (find_bd s.shown path).d1; rw [hR] at this; exact this))
 have hsb := find_bd s.shown path
 rw [hR] at hsb
 obtain ⟨hd0,hd1,hi0,hi1,hn0⟩ := hsb
 dsimp only at hd0 hd1 hi0 hi1 hn0 HFI
 subst he
 have d1 : (xi != 0) = false := by simpa using h0
 unfold NodeL.newV at HNW
 rw [if_pos hkd] at HNW
 clear hr hl hp hR hx hW0 h0 hkd
 go_enter Tryz.func43,Tryz.ntmps43
 go_wp2_with fail
 refine (HFI.out _ _ _ _ A0.out.rep (Aft.sm0 C0.out.1) (lim_aft C0.out.1 HL.out (by omega) (by omega)) (by have := C0.out.1.rd; omega) (HX.out.at_ A0.out).1).mono ?_
 rintro e w1 ⟨s1,S1,D1,rfl,hr,st,hsm,hrd,hrg⟩
 have C1 := hQ_ (aftF C0.out hsm hrd hrg)
 have X1 := hQ_ (Blk.new_ w1 #[.int .u32 xd,.string xn,.int .u32 xi,.int .u8 xk,.int .u32 xl,.int .u32 xz,.int .u32 xp] 65)
 have hbn := bX_ X1.out
 have AQ := A0.out.step HS.out hr st
 have A1 := hQ_ (AQ.own HS.out hbn (Nat.le_refl w1.heap.size) (by simp))
 have f1_X0 := cC7 X1.out
 clear hr st hsm hrd hrg hbn AQ
 have FE2 : fst_ [0,0] = 0 := rfl
 have HF2 := hQ_ (first_2b (0) (0) (w1.alloc (.cells #[.int .u32 xd,.string xn,.int .u32 xi,.int .u8 xk,.int .u32 xl,.int .u32 xz,.int .u32 xp] 65)) (w1.heap.size + 1) (by simp))
 rw [FE2] at HF2
 clear FE2
 go_upto_region 2 with (fail)
 go_cut [11] (fun p wx => p = .int .i64 (0) ∧ BL_ (w1.alloc (.cells #[.int .u32 xd,.string xn,.int .u32 xi,.int .u8 xk,.int .u32 xl,.int .u32 xz,.int .u32 xp] 65)) wx)
 case first =>
  go_wp2_with (first | (go_at_call 72; (with_reducible refine (HWT.out _ _).mono ?_); rintro e w9 ⟨rfl,rfl⟩) | (go_at_call 72; (with_reducible refine (HWF.out _ _).mono ?_); rintro e w9 ⟨rfl,rfl⟩) | (go_at_call 71; (with_reducible refine HF2.out.1.mono ?_); rintro e w9 ⟨rfl,rfl⟩))
  all_goals
   go_meet
   exact fB_
 case rest =>
  obtain ⟨rfl,hbc⟩ := hcut
  have A2 := hQ_ (A1.out.below HS.out hbc)
  have X2 := hQ_ (X1.out.below hbc)
  skip
  have f2_X0 := cC7 X2.out
  clear hbc f1_X0
  go_wp2_with fail
  refine (HNW.out _).mono ?_
  rintro e w3 ⟨rfl,hbw⟩
  have hbn := nW_ hbw (.cells #[.int .u8 1,.int .u32 1,.int .u32 0,.int .u32 0] 59)
  have A3 := hQ_ (A2.out.own HS.out hbn hbw.size (by simp))
  have X3 := hQ_ (X2.out.below hbn)
  have I3 := hQ_ (Blk.new_ w3 #[.int .u8 1,.int .u32 1,.int .u32 0,.int .u32 0] 59)
  have f3_X0 := cC7 X3.out
  have f3_I0 := cC4 I3.out
  clear hbw hbn f2_X0
  go_wp2_with fail
  refine (save_w HWK.out ino 1 (1) 0 0 A3.out.rep (lim_aft C1.out.1 HL.out (by omega) (by omega)) (by omega) (by omega) ⟨by omega,by omega,by omega,by omega,by omega,by omega,by omega,by omega⟩).mono ?_
  intro e w4 hh
  rcases Wrote.split hh with ⟨s4,S4,D4,rfl,ho,hr,st,ha⟩ | ⟨s4,S4,D4,rfl,ho,hr,st,ha⟩
  ·obtain ⟨x1,x2⟩ := C1.out.1.app C1.out.2 ha
   have C4 := hQ_ (And.intro x1 (x2.trans ho))
   clear x1 x2 ho ha
   have A4 := hQ_ (A3.out.step HS.out hr st)
   have X4 := hQ_ (A3.out.blk HS.out X3.out (.inl (.inr rfl)) st)
   have I4 := hQ_ (A3.out.blk HS.out I3.out (.inr rfl) st)
   obtain ⟨f4_X0,f4_X1,f4_X2,f4_X3,f4_X4,f4_X5,f4_X6⟩ := cC7 X4.out
   obtain ⟨f4_I0,f4_I1,f4_I2,f4_I3⟩ := cC4 I4.out
   clear st hr f3_X0 f3_I0
   go_wp2_with fail
   refine (hang_w HWK.out xd xn ino A4.out.rep (lim_aft C4.out.1 HL.out (by omega) (by omega)) (by omega) (by omega) (by omega) (by omega) (by omega)).mono ?_
   intro e w5 hh
   rcases Wrote.split hh with ⟨s5,S5,D5,rfl,ho,hr,st,ha⟩ | ⟨s5,S5,D5,rfl,ho,hr,st,ha⟩
   ·obtain ⟨x1,x2⟩ := C4.out.1.app C4.out.2 ha
    have C5 := hQ_ (And.intro x1 (x2.trans ho))
    clear x1 x2 ho ha
    have A5 := hQ_ (A4.out.step HS.out hr st)
    have X5 := hQ_ (A4.out.blk HS.out X4.out (.inl (.inr rfl)) st)
    have I5 := hQ_ (A4.out.blk HS.out I4.out (.inr rfl) st)
    obtain ⟨f5_X0,f5_X1,f5_X2,f5_X3,f5_X4,f5_X5,f5_X6⟩ := cC7 X5.out
    obtain ⟨f5_I0,f5_I1,f5_I2,f5_I3⟩ := cC4 I5.out
    clear st hr f4_X0 f4_X1 f4_X2 f4_X3 f4_X4 f4_X5 f4_X6 f4_I0 f4_I1 f4_I2 f4_I3
    go_wp2_with (go_at_call 75; refine (HRO.out _ _).mono ?_; rintro e w9 ⟨rfl,rfl⟩)
    go_ret
    exact Ans.ok A5.out ⟨C5.out.1.more (by omega) (by omega),C5.out.2⟩
   ·obtain ⟨x1,x2⟩ := C4.out.1.app C4.out.2 ha
    have C5 := hQ_ (And.intro x1 (x2.trans ho))
    clear x1 x2 ho ha
    have A5 := hQ_ (A4.out.step HS.out hr st)
    have X5 := hQ_ (A4.out.blk HS.out X4.out (.inl (.inr rfl)) st)
    have I5 := hQ_ (A4.out.blk HS.out I4.out (.inr rfl) st)
    obtain ⟨f5_X0,f5_X1,f5_X2,f5_X3,f5_X4,f5_X5,f5_X6⟩ := cC7 X5.out
    obtain ⟨f5_I0,f5_I1,f5_I2,f5_I3⟩ := cC4 I5.out
    clear st hr f4_X0 f4_X1 f4_X2 f4_X3 f4_X4 f4_X5 f4_X6 f4_I0 f4_I1 f4_I2 f4_I3
    go_wp2_with (go_at_call 75; refine (HRO.out _ _).mono ?_; rintro e w9 ⟨rfl,rfl⟩)
    go_ret
    exact Ans.full A5.out ⟨(Aft.stop (qs := []) C5.out.1 C5.out.2).1.more (by omega) (by omega),(Aft.stop (qs := []) C5.out.1 C5.out.2).2⟩
  ·obtain ⟨x1,x2⟩ := C1.out.1.app C1.out.2 ha
   have C4 := hQ_ (And.intro x1 (x2.trans ho))
   clear x1 x2 ho ha
   have A4 := hQ_ (A3.out.step HS.out hr st)
   have X4 := hQ_ (A3.out.blk HS.out X3.out (.inl (.inr rfl)) st)
   have I4 := hQ_ (A3.out.blk HS.out I3.out (.inr rfl) st)
   obtain ⟨f4_X0,f4_X1,f4_X2,f4_X3,f4_X4,f4_X5,f4_X6⟩ := cC7 X4.out
   obtain ⟨f4_I0,f4_I1,f4_I2,f4_I3⟩ := cC4 I4.out
   clear st hr f3_X0 f3_I0
   go_wp2_with (go_at_call 75; refine (HRO.out _ _).mono ?_; rintro e w9 ⟨rfl,rfl⟩)
   go_ret
   exact Ans.full A4.out ⟨(Aft.stop (qs := [hangP xd xn ino]) C4.out.1 C4.out.2).1.more (by omega) (by omega),(Aft.stop (qs := [hangP xd xn ino]) C4.out.1 C4.out.2).2⟩
theorem make_dir (hW0 : Wk Rep) (path : ByteArray) (kind ino : Int) {xd xi xk xl xz xp er : Int} {xn : ByteArray} (hr : Rep w v s S D) (hl : Lim s) (h2 : s.rd.length ≤ 18000) (h3 : s.rg.length ≤ 900) (hx : Mxs w S) (hp : path.size ≤ 100000) (k0 : 0 ≤ kind) (k1 : kind ≤ 255) (i0 : 0 ≤ ino) (i1 : ino ≤ 4294967295) (hR : findM s.shown path = (⟨xd,xn,xi,⟨xk,xl,xz,xp⟩⟩,er)) (he : er = 0) (h0 : xi = 0) (hkd : kind ≠ 1) :
 Calls Tryz.prog 43 #[v,.string path,.int .u8 kind,.int .u32 ino] w (Ans Rep v s 0 [saveP ino 2 2 0 xd,hangP xd xn ino,tieP xd 1] 41 0 S D w) := by
 have A0 := hQ_ (At.start hr)
 have HX := hQ_ hx
 have HS := hQ_ hW0.stays
 have HWK := hQ_ hW0
 have HL := hQ_ hl
 have HRO := hQ_ room_calls
 have C0 := hQ_ (aft0 s)
 have HWT := hQ_ when_t
 have HWF := hQ_ when_f
 have HFI := hQ_ (fun w (S D : Nat → Prop) (t : Vs) (hr : Rep w v t S D) (hsm : Sm t s) hl h2 hx => find_c hW0 path hR hr hsm hl h2 hp hx)
 unfold FndC at HFI
 have HNW := hQ_ (fun w => NodeK.new_ok kind xd w k0 k1 (by have := (find_bd s.shown path).d0; rw [hR] at this; exact this) (by have := (find_bd s.shown path).d1; rw [hR] at this; exact this))
 have hsb := find_bd s.shown path
 rw [hR] at hsb
 obtain ⟨hd0,hd1,hi0,hi1,hn0⟩ := hsb
 dsimp only at hd0 hd1 hi0 hi1 hn0 HFI
 subst he
 have d1 : (xi != 0) = false := by simpa using h0
 unfold NodeL.newV at HNW
 rw [if_neg hkd] at HNW
 clear hr hl hp hR hx hW0 h0 hkd
 go_enter Tryz.func43,Tryz.ntmps43
 go_wp2_with fail
 refine (HFI.out _ _ _ _ A0.out.rep (Aft.sm0 C0.out.1) (lim_aft C0.out.1 HL.out (by omega) (by omega)) (by have := C0.out.1.rd; omega) (HX.out.at_ A0.out).1).mono ?_
 rintro e w1 ⟨s1,S1,D1,rfl,hr,st,hsm,hrd,hrg⟩
 have C1 := hQ_ (aftF C0.out hsm hrd hrg)
 have X1 := hQ_ (Blk.new_ w1 #[.int .u32 xd,.string xn,.int .u32 xi,.int .u8 xk,.int .u32 xl,.int .u32 xz,.int .u32 xp] 65)
 have hbn := bX_ X1.out
 have AQ := A0.out.step HS.out hr st
 have A1 := hQ_ (AQ.own HS.out hbn (Nat.le_refl w1.heap.size) (by simp))
 have f1_X0 := cC7 X1.out
 clear hr st hsm hrd hrg hbn AQ
 have FE2 : fst_ [0,0] = 0 := rfl
 have HF2 := hQ_ (first_2b (0) (0) (w1.alloc (.cells #[.int .u32 xd,.string xn,.int .u32 xi,.int .u8 xk,.int .u32 xl,.int .u32 xz,.int .u32 xp] 65)) (w1.heap.size + 1) (by simp))
 rw [FE2] at HF2
 clear FE2
 go_upto_region 2 with (fail)
 go_cut [11] (fun p wx => p = .int .i64 (0) ∧ BL_ (w1.alloc (.cells #[.int .u32 xd,.string xn,.int .u32 xi,.int .u8 xk,.int .u32 xl,.int .u32 xz,.int .u32 xp] 65)) wx)
 case first =>
  go_wp2_with (first | (go_at_call 72; (with_reducible refine (HWT.out _ _).mono ?_); rintro e w9 ⟨rfl,rfl⟩) | (go_at_call 72; (with_reducible refine (HWF.out _ _).mono ?_); rintro e w9 ⟨rfl,rfl⟩) | (go_at_call 71; (with_reducible refine HF2.out.1.mono ?_); rintro e w9 ⟨rfl,rfl⟩))
  all_goals
   go_meet
   exact fB_
 case rest =>
  obtain ⟨rfl,hbc⟩ := hcut
  have A2 := hQ_ (A1.out.below HS.out hbc)
  have X2 := hQ_ (X1.out.below hbc)
  skip
  have f2_X0 := cC7 X2.out
  clear hbc f1_X0
  go_wp2_with fail
  refine (HNW.out _).mono ?_
  rintro e w3 ⟨rfl,hbw⟩
  have hbn := nW_ hbw (.cells #[.int .u8 2,.int .u32 2,.int .u32 0,.int .u32 xd] 59)
  have A3 := hQ_ (A2.out.own HS.out hbn hbw.size (by simp))
  have X3 := hQ_ (X2.out.below hbn)
  have I3 := hQ_ (Blk.new_ w3 #[.int .u8 2,.int .u32 2,.int .u32 0,.int .u32 xd] 59)
  have f3_X0 := cC7 X3.out
  have f3_I0 := cC4 I3.out
  clear hbw hbn f2_X0
  go_wp2_with fail
  refine (save_w HWK.out ino 2 (2) 0 xd A3.out.rep (lim_aft C1.out.1 HL.out (by omega) (by omega)) (by omega) (by omega) ⟨by omega,by omega,by omega,by omega,by omega,by omega,by omega,by omega⟩).mono ?_
  intro e w4 hh
  rcases Wrote.split hh with ⟨s4,S4,D4,rfl,ho,hr,st,ha⟩ | ⟨s4,S4,D4,rfl,ho,hr,st,ha⟩
  ·obtain ⟨x1,x2⟩ := C1.out.1.app C1.out.2 ha
   have C4 := hQ_ (And.intro x1 (x2.trans ho))
   clear x1 x2 ho ha
   have A4 := hQ_ (A3.out.step HS.out hr st)
   have X4 := hQ_ (A3.out.blk HS.out X3.out (.inl (.inr rfl)) st)
   have I4 := hQ_ (A3.out.blk HS.out I3.out (.inr rfl) st)
   obtain ⟨f4_X0,f4_X1,f4_X2,f4_X3,f4_X4,f4_X5,f4_X6⟩ := cC7 X4.out
   obtain ⟨f4_I0,f4_I1,f4_I2,f4_I3⟩ := cC4 I4.out
   clear st hr f3_X0 f3_I0
   go_wp2_with fail
   refine (hang_w HWK.out xd xn ino A4.out.rep (lim_aft C4.out.1 HL.out (by omega) (by omega)) (by omega) (by omega) (by omega) (by omega) (by omega)).mono ?_
   intro e w5 hh
   rcases Wrote.split hh with ⟨s5,S5,D5,rfl,ho,hr,st,ha⟩ | ⟨s5,S5,D5,rfl,ho,hr,st,ha⟩
   ·obtain ⟨x1,x2⟩ := C4.out.1.app C4.out.2 ha
    have C5 := hQ_ (And.intro x1 (x2.trans ho))
    clear x1 x2 ho ha
    have A5 := hQ_ (A4.out.step HS.out hr st)
    have X5 := hQ_ (A4.out.blk HS.out X4.out (.inl (.inr rfl)) st)
    have I5 := hQ_ (A4.out.blk HS.out I4.out (.inr rfl) st)
    obtain ⟨f5_X0,f5_X1,f5_X2,f5_X3,f5_X4,f5_X5,f5_X6⟩ := cC7 X5.out
    obtain ⟨f5_I0,f5_I1,f5_I2,f5_I3⟩ := cC4 I5.out
    clear st hr f4_X0 f4_X1 f4_X2 f4_X3 f4_X4 f4_X5 f4_X6 f4_I0 f4_I1 f4_I2 f4_I3
    go_wp2_with fail
    refine (tie_calls HWK.out xd (1) A5.out.rep (lim_aft C5.out.1 HL.out (by omega) (by omega)) (by have := C5.out.1.rd; omega) (by omega) (by omega) (by omega) (by omega)).mono ?_
    intro e w6 hh
    rcases Wrote.split hh with ⟨s6,S6,D6,rfl,ho,hr,st,ha⟩ | ⟨s6,S6,D6,rfl,ho,hr,st,ha⟩
    ·obtain ⟨x1,x2⟩ := C5.out.1.app C5.out.2 ha
     have C6 := hQ_ (And.intro x1 (x2.trans ho))
     clear x1 x2 ho ha
     have A6 := hQ_ (A5.out.step HS.out hr st)
     have X6 := hQ_ (A5.out.blk HS.out X5.out (.inl (.inr rfl)) st)
     have I6 := hQ_ (A5.out.blk HS.out I5.out (.inr rfl) st)
     obtain ⟨f6_X0,f6_X1,f6_X2,f6_X3,f6_X4,f6_X5,f6_X6⟩ := cC7 X6.out
     obtain ⟨f6_I0,f6_I1,f6_I2,f6_I3⟩ := cC4 I6.out
     clear st hr f5_X0 f5_X1 f5_X2 f5_X3 f5_X4 f5_X5 f5_X6 f5_I0 f5_I1 f5_I2 f5_I3
     go_wp2_with (go_at_call 75; refine (HRO.out _ _).mono ?_; rintro e w9 ⟨rfl,rfl⟩)
     go_ret
     exact Ans.ok A6.out ⟨C6.out.1.more (by omega) (by omega),C6.out.2⟩
    ·obtain ⟨x1,x2⟩ := C5.out.1.app C5.out.2 ha
     have C6 := hQ_ (And.intro x1 (x2.trans ho))
     clear x1 x2 ho ha
     have A6 := hQ_ (A5.out.step HS.out hr st)
     have X6 := hQ_ (A5.out.blk HS.out X5.out (.inl (.inr rfl)) st)
     have I6 := hQ_ (A5.out.blk HS.out I5.out (.inr rfl) st)
     obtain ⟨f6_X0,f6_X1,f6_X2,f6_X3,f6_X4,f6_X5,f6_X6⟩ := cC7 X6.out
     obtain ⟨f6_I0,f6_I1,f6_I2,f6_I3⟩ := cC4 I6.out
     clear st hr f5_X0 f5_X1 f5_X2 f5_X3 f5_X4 f5_X5 f5_X6 f5_I0 f5_I1 f5_I2 f5_I3
     go_wp2_with (go_at_call 75; refine (HRO.out _ _).mono ?_; rintro e w9 ⟨rfl,rfl⟩)
     go_ret
     exact Ans.full A6.out ⟨(Aft.stop (qs := []) C6.out.1 C6.out.2).1.more (by omega) (by omega),(Aft.stop (qs := []) C6.out.1 C6.out.2).2⟩
   ·obtain ⟨x1,x2⟩ := C4.out.1.app C4.out.2 ha
    have C5 := hQ_ (And.intro x1 (x2.trans ho))
    clear x1 x2 ho ha
    have A5 := hQ_ (A4.out.step HS.out hr st)
    have X5 := hQ_ (A4.out.blk HS.out X4.out (.inl (.inr rfl)) st)
    have I5 := hQ_ (A4.out.blk HS.out I4.out (.inr rfl) st)
    obtain ⟨f5_X0,f5_X1,f5_X2,f5_X3,f5_X4,f5_X5,f5_X6⟩ := cC7 X5.out
    obtain ⟨f5_I0,f5_I1,f5_I2,f5_I3⟩ := cC4 I5.out
    clear st hr f4_X0 f4_X1 f4_X2 f4_X3 f4_X4 f4_X5 f4_X6 f4_I0 f4_I1 f4_I2 f4_I3
    go_wp2_with (go_at_call 75; refine (HRO.out _ _).mono ?_; rintro e w9 ⟨rfl,rfl⟩)
    go_ret
    exact Ans.full A5.out ⟨(Aft.stop (qs := [tieP xd (1)]) C5.out.1 C5.out.2).1.more (by omega) (by omega),(Aft.stop (qs := [tieP xd (1)]) C5.out.1 C5.out.2).2⟩
  ·obtain ⟨x1,x2⟩ := C1.out.1.app C1.out.2 ha
   have C4 := hQ_ (And.intro x1 (x2.trans ho))
   clear x1 x2 ho ha
   have A4 := hQ_ (A3.out.step HS.out hr st)
   have X4 := hQ_ (A3.out.blk HS.out X3.out (.inl (.inr rfl)) st)
   have I4 := hQ_ (A3.out.blk HS.out I3.out (.inr rfl) st)
   obtain ⟨f4_X0,f4_X1,f4_X2,f4_X3,f4_X4,f4_X5,f4_X6⟩ := cC7 X4.out
   obtain ⟨f4_I0,f4_I1,f4_I2,f4_I3⟩ := cC4 I4.out
   clear st hr f3_X0 f3_I0
   go_wp2_with (go_at_call 75; refine (HRO.out _ _).mono ?_; rintro e w9 ⟨rfl,rfl⟩)
   go_ret
   exact Ans.full A4.out ⟨(Aft.stop (qs := [hangP xd xn ino,tieP xd (1)]) C4.out.1 C4.out.2).1.more (by omega) (by omega),(Aft.stop (qs := [hangP xd xn ino,tieP xd (1)]) C4.out.1 C4.out.2).2⟩
theorem make_calls (hW0 : Wk Rep) (path : ByteArray) (kind ino : Int) (hr : Rep w v s S D) (hl : Lim s) (h2 : s.rd.length ≤ 18000) (h3 : s.rg.length ≤ 900) (hx : Mxs w S) (hp : path.size ≤ 100000) (k0 : 0 ≤ kind) (k1 : kind ≤ 255) (i0 : 0 ≤ ino) (i1 : ino ≤ 4294967295) :
 Calls Tryz.prog 43 #[v,.string path,.int .u8 kind,.int .u32 ino] w (Ans Rep v s (makV s.shown path kind ino).1 (makV s.shown path kind ino).2 41 0 S D w) := by
 unfold makV
 obtain ⟨⟨⟨xd,xn,xi,⟨xk,xl,xz,xp⟩⟩,er⟩,hR⟩ : ∃ R,findM s.shown path = R := ⟨_,rfl⟩
 have h := hR
 rw [hR]
 dsimp only
 by_cases he : er = 0
 ·rw [if_neg (fun h => h he)]
  by_cases h0 : xi = 0
  ·rw [if_neg (fun h => h h0)]
   by_cases hkd : kind = 1
   ·rw [if_pos hkd]
    exact make_file hW0 path kind ino hr hl h2 h3 hx hp k0 k1 i0 i1 h he h0 hkd
   ·rw [if_neg hkd]
    exact make_dir hW0 path kind ino hr hl h2 h3 hx hp k0 k1 i0 i1 h he h0 hkd
  ·rw [if_pos h0]
   exact make_there hW0 path kind ino hr hl h2 h3 hx hp k0 k1 i0 i1 h he h0
 ·rw [if_pos he]
  exact make_err hW0 path kind ino hr hl h2 h3 hx hp k0 k1 i0 i1 h he
end Go.Proofs.YtfalhnomhidkcaaGreatDoor.DirsKe
namespace Go.Proofs.YtfalhnomhidkcaaGreatDoor.DirsL
open Go.RowKit
open Byte KeysM TreeM ViewM NamesM NamesL Lst Ho Tx WalkF Chg TreeL ViewL WalkL Vat DirsM DirsV DirsR DirsRe DirsK DirsKa DirsKc
open Own hiding keeps
open ViewR (Sh)
variable {Rep : RepT}
def Mine (w : World) (b : Nat) : Prop := w.heap.size ≤ b ∧ b < w.heap.size + 4
section
variable {w0 u u' : World} {S0 D0 S D S' D' : Nat → Prop} {Q : Nat → Prop} {cs : Array Value} {h0 hn h h' : Sh} {v : Value} {s s' : Vs} {F F' : Fs}
theorem results_row3 {P : Program} {fn : Func} {a b p : Tmp} {ty : TypeId} (h : fn.results = #[.tmp a,.cell p ty,.tmp b]) (tmps : Array Value) (w : World) (g : Nat) (t : TypeId) (cs : Array Value) (fr : Nat × Nat) (d : TypeDesc)
 (hp : tmps.getD p undef = .pointer (some ⟨g,0,none⟩)) (x y : Value) (hx : tmps.getD a undef = x) (hy : tmps.getD b undef = y) (hg : w.heap[g]? = some (.cells cs t fr)) (hu : P.underlying ty = some d) (hd : (match d with | .struct _ | .array _ _ => true | _ => false) = true) (hi : (P.info? ty).map (·.size) = some cs.size) :
 (results fn tmps).run P w = .ok (.tuple #[x,.agg cs,y]) w := by
 subst hx hy
 have hp' : tmps[p]?.getD undef = .pointer (some ⟨g,0,none⟩) := by simpa using hp
 simp [results,h,hp',asAddr,run_loadVar_row w g t ty cs fr d hg hu hd hi]
end
def DoE (Rep : RepT) (Q : Nat → Prop) (v : Value) (s : Vs) (ps : List Wrt) (kk m : Nat) (S D : Nat → Prop) (h : Sh) (F F' : Fs) (w : World) (e : Ending) (w' : World) : Prop :=
 ∃ s' S' D' h',e = .returned (.tuple #[.bool true,.agg #[.slice h'.a h'.n h'.c],.bool (!(goW s ps).2)]) ∧ Rep w' v s' S' D' ∧ Stp S D S' D' w w' ∧ Aft s s' ps kk m ∧ FsA (fun b => ¬ S' b ∧ Q b) w' h' (if (goW s ps).2 = true then F' else F)
theorem DoE.ok {Q : Nat → Prop} {v : Value} {s s' : Vs} {ps : List Wrt} {kk m : Nat} {S D M S' D' : Nat → Prop} {h h' : Sh} {F F' : Fs} {w w' : World} (hA : At Rep w S D M w' v s' S' D') (hf : FsA (fun b => ¬ S' b ∧ Q b) w' h' F') (hg : (goW s ps).2 = true) (ha : Aft s s' ps kk m) : DoE Rep Q v s ps kk m S D h F F' w (.returned (.tuple #[.bool true,.agg #[.slice h'.a h'.n h'.c],.bool false])) w' :=
 ⟨s',S',D',h',by rw [hg]; rfl,hA.rep,hA.st,ha,by rw [if_pos hg]; exact hf⟩
theorem DoE.full {Q : Nat → Prop} {v : Value} {s s' : Vs} {ps : List Wrt} {kk m : Nat} {S D M S' D' : Nat → Prop} {h h' : Sh} {F F' : Fs} {w w' : World} (hA : At Rep w S D M w' v s' S' D') (hf : FsA (fun b => ¬ S' b ∧ Q b) w' h' F) (hg : (goW s ps).2 = false) (ha : Aft s s' ps kk m) : DoE Rep Q v s ps kk m S D h F F' w (.returned (.tuple #[.bool true,.agg #[.slice h'.a h'.n h'.c],.bool true])) w' :=
 ⟨s',S',D',h',by rw [hg]; rfl,hA.rep,hA.st,ha,by rw [if_neg (by rw [hg]; decide)]; exact hf⟩
end Go.Proofs.YtfalhnomhidkcaaGreatDoor.DirsL
namespace Go.Proofs.YtfalhnomhidkcaaGreatDoor.DirsW
open Byte PackM KeysM TreeM ViewM ViewKm NodeM NamesM WalkM DirsM
def upd {α : Type} (f : Int → α) (i : Int) (x : α) : Int → α := fun j => if j = i then x else f j
theorem upd_same {α : Type} (f : Int → α) (i : Int) (x : α) : upd f i x i = x := if_pos rfl
theorem upd_ne {α : Type} (f : Int → α) {i j : Int} (x : α) (h : j ≠ i) : upd f i x j = f j := if_neg h
theorem node_with {F : Fs} (h : Nod F) {n m : Nd} (hm : m ∈ F) (hi : m.ino = n.ino) (j : Int) : nodeM (withM F n) j = if j = n.ino then some n else nodeM F j := by
 have hn := nod_with h hm hi
 by_cases hj : j = n.ino
 ·rw [if_pos hj]
  exact (node_iff hn).2 ⟨(mem_with h hm hi).2 (.inl rfl),hj.symm⟩
 ·rw [if_neg hj]
  cases hx : nodeM F j with
  | none =>
    refine node_no fun x hx2 e => ?_
    rcases (mem_with h hm hi).1 hx2 with rfl | ⟨h1,h2⟩
    ·exact hj e.symm
    ·have := node_of h h1
     rw [e,hx] at this
     cases this
  | some x =>
    have h1 := node_mem hx
    exact (node_iff hn).2 ⟨(mem_with h hm hi).2 (.inr ⟨h1.1,by rw [h1.2]; exact hj⟩),h1.2⟩
theorem node_none {F : Fs} {i : Int} (h : nodeM F i = none) : ∀ x ∈ F,x.ino ≠ i := fun x hx e => by
 unfold nodeM at h
 have := List.find?_eq_none.1 h x hx
 simp [e] at this
theorem node_new {F : Fs} (h : Nod F) {n : Nd} (hn : nodeM F n.ino = none) (j : Int) : nodeM (withM F n) j = if j = n.ino then some n else nodeM F j := by
 have hnn := node_none hn
 have hn2 := nod_new h hnn
 by_cases hj : j = n.ino
 ·rw [if_pos hj]
  exact (node_iff hn2).2 ⟨(mem_new hnn).2 (.inl rfl),hj.symm⟩
 ·rw [if_neg hj]
  cases hx : nodeM F j with
  | none =>
    refine node_no fun x hx2 e => ?_
    rcases (mem_new hnn).1 hx2 with rfl | h1
    ·exact hj e.symm
    ·have := node_of h h1
     rw [e,hx] at this
     cases this
  | some x =>
    have h1 := node_mem hx
    exact (node_iff hn2).2 ⟨(mem_new hnn).2 (.inr h1.1),h1.2⟩
theorem linked_eq {F : Fs} {i by_ : Int} {n : Nd} (hn : nodeM F i = some n) : linkedM F i by_ = withM F { n with links := n.links + by_ } := by unfold linkedM; rw [hn]
theorem named_eq {F : Fs} {d i : Int} {nm : ByteArray} {n : Nd} (hn : nodeM F d = some n) : namedM F d nm i = withM F { n with ents := insE nm i (decide (i = 0)) n.ents } := by unfold namedM; rw [hn]
theorem nod_linked {F : Fs} (h : Nod F) {i by_ : Int} {n : Nd} (hn : nodeM F i = some n) : Nod (linkedM F i by_) := by
 rw [linked_eq hn]; exact nod_with h (node_mem hn).1 rfl
theorem nod_named {F : Fs} (h : Nod F) {d i : Int} {nm : ByteArray} {n : Nd} (hn : nodeM F d = some n) : Nod (namedM F d nm i) := by
 rw [named_eq hn]; exact nod_with h (node_mem hn).1 rfl
theorem node_linked {F : Fs} (h : Nod F) {i by_ : Int} {n : Nd} (hn : nodeM F i = some n) (j : Int) : nodeM (linkedM F i by_) j = if j = i then some { n with links := n.links + by_ } else nodeM F j := by
 have h1 := node_mem hn
 rw [linked_eq hn,node_with (n := { n with links := n.links + by_ }) h h1.1 rfl]
 show (if j = n.ino then _ else _) = _
 rw [h1.2]
theorem node_named {F : Fs} (h : Nod F) {d i : Int} {nm : ByteArray} {n : Nd} (hn : nodeM F d = some n) (j : Int) : nodeM (namedM F d nm i) j = if j = d then some { n with ents := insE nm i (decide (i = 0)) n.ents } else nodeM F j := by
 have h1 := node_mem hn
 rw [named_eq hn,node_with (n := { n with ents := insE nm i (decide (i = 0)) n.ents }) h h1.1 rfl]
 show (if j = n.ino then _ else _) = _
 rw [h1.2]
theorem cnt_linked {F : Fs} (h : Nod F) {i by_ : Int} {n : Nd} (hn : nodeM F i = some n) (j : Int) : cnt (linkedM F i by_) j = cnt F j := by
 have h1 := node_mem hn
 rw [linked_eq hn]
 have := S_with (n := { n with links := n.links + by_ }) h h1.1 rfl (toE j)
 have e : toE j { n with links := n.links + by_ } = toE j n := rfl
 unfold cnt
 omega
theorem cnt_new {F : Fs} {n : Nd} (hn : nodeM F n.ino = none) (he : n.ents = []) (j : Int) : cnt (withM F n) j = cnt F j := by
 have := S_new (node_none hn) (toE j)
 have e : toE j n = 0 := by unfold toE; rw [he]; rfl
 unfold cnt
 omega
def oldE (n : Nd) (nm : ByteArray) (j : Int) : Nat := (n.ents.filter fun e => decide (e.name = nm)).countP fun e => decide (e.ino = j)
theorem old_none {n : Nd} {nm : ByteArray} (h : ∀ e ∈ n.ents,e.name ≠ nm) (j : Int) : oldE n nm j = 0 := by
 unfold oldE
 rw [List.filter_eq_nil_iff.2 (fun e he => by simpa using h e he)]
 rfl
theorem cnt_named {F : Fs} (h : Nod F) {d i : Int} {nm : ByteArray} {n : Nd} (hn : nodeM F d = some n) (ho : Ord n.ents) (j : Int) : cnt (namedM F d nm i) j + oldE n nm j = cnt F j + (if i ≠ 0 ∧ i = j then 1 else 0) := by
 have h1 := node_mem hn
 rw [named_eq hn]
 have h2 := S_with (n := { n with ents := insE nm i (decide (i = 0)) n.ents }) h h1.1 rfl (toE j)
 have h3 := count_ins ho nm i (fun e => decide (e.ino = j))
 have e1 : toE j { n with ents := insE nm i (decide (i = 0)) n.ents } = (insE nm i (decide (i = 0)) n.ents).countP (fun e => decide (e.ino = j)) := rfl
 have e2 : toE j n = n.ents.countP (fun e => decide (e.ino = j)) := rfl
 simp only [decide_eq_true_eq] at h3
 unfold cnt oldE
 omega
def dirB (F : Fs) (j : Int) : Bool := match nodeM F j with
 | some n => decide (n.kind = 2)
 | none => false
def subs (F : Fs) (l : List En) : Nat := l.countP fun e => dirB F e.ino
def wantC (m : Nd) : Int := if m.ino = 1 then 0 else if m.kind = 2 then 1 else m.links
structure Wd (F : Fs) (π δ ε : Int → Int) (x : Int) : Prop where
 nod : Nod F
 root : ∃ n,nodeM F 1 = some n ∧ n.kind = 2
 ino : ∀ n ∈ F,1 ≤ n.ino ∧ n.ino ≤ 4294967295
 kind : ∀ n ∈ F,n.kind = 2 ∨ (n.kind = 1 ∧ n.ents = [])
 data : ∀ n ∈ F,n.data.size ≤ 4096 ∧ (n.kind = 2 → n.data = NE)
 ord : ∀ n ∈ F,Ord n.ents
 name : ∀ n ∈ F,∀ e ∈ n.ents,nameOk e.name = true
 some_ : ∀ n ∈ F,∀ e ∈ n.ents,1 ≤ e.ino ∧ e.ino ≤ 4294967295
 goes : ∀ n ∈ F,∀ e ∈ n.ents,e.ino ≠ x → ∃ m,nodeM F e.ino = some m
 par : ∀ n ∈ F,∀ e ∈ n.ents,dirB F e.ino = true → π e.ino = n.ino
 par1 : π 1 = 1
 cnt : ∀ m ∈ F,(cnt F m.ino : Int) = wantC m + δ m.ino
 pos : ∀ m ∈ F,m.kind = 1 → 1 ≤ m.links ∧ m.links ≤ 1000
 dl : ∀ m ∈ F,m.kind = 2 → m.links = 2 + subs F m.ents + ε m.ino
def zro : Int → Int := fun _ => 0
abbrev Wf (F : Fs) (π : Int → Int) : Prop := Wd F π zro zro 0
theorem Wd.eq {F : Fs} {π δ ε δ' ε' : Int → Int} {x : Int} (h : Wd F π δ ε x) (h1 : ∀ j,δ j = δ' j) (h2 : ∀ j,ε j = ε' j) : Wd F π δ' ε' x := by
 rw [← funext h1,← funext h2]
 exact h
section
variable {F : Fs} {π δ ε : Int → Int} {x : Int}
theorem dir_some {F : Fs} {j : Int} {n : Nd} (h : nodeM F j = some n) : dirB F j = decide (n.kind = 2) := by unfold dirB; rw [h]
theorem dir_eq {F F' : Fs} {j : Int} (h : nodeM F' j = nodeM F j) : dirB F' j = dirB F j := by unfold dirB; rw [h]
theorem Wd.ex_none (h : Wd F π δ ε x) {i : Int} (hi : nodeM F i = none) (hx : i ≠ x) : ∀ n ∈ F,∀ e ∈ n.ents,e.ino ≠ i := fun n hn e he ei => by
 obtain ⟨m,hm⟩ := h.goes n hn e he (by rw [ei]; exact hx)
 rw [ei,hi] at hm
 cases hm
theorem subs_eq {F F' : Fs} {l : List En} (h : ∀ e ∈ l,dirB F' e.ino = dirB F e.ino) : subs F' l = subs F l := by
 unfold subs
 exact List.countP_congr (fun e he => by rw [h e he])
theorem Wd.new_ (h : Wd F π δ ε x) {i k : Int} (hi : nodeM F i = none) (hx : i ≠ x) (h1 : 2 ≤ i) (h2 : i ≤ 4294967295) : Wd (withM F (newNd k i)) π (upd δ i (-1)) (upd ε i 0) x := by
 have hino : (newNd k i).ino = i := by unfold newNd; split <;> rfl
 have hents : (newNd k i).ents = [] := by unfold newNd; split <;> rfl
 have hi' : nodeM F (newNd k i).ino = none := by rw [hino]; exact hi
 have hne := h.ex_none hi hx
 have hN : ∀ j,nodeM (withM F (newNd k i)) j = if j = i then some (newNd k i) else nodeM F j := fun j => by rw [node_new h.nod hi',hino]
 have hmem : ∀ y,y ∈ withM F (newNd k i) ↔ y = newNd k i ∨ y ∈ F := fun y => mem_new (node_none hi')
 have hold : ∀ y ∈ F,y.ino ≠ i := node_none hi
 have hd : ∀ n ∈ F,∀ e ∈ n.ents,dirB (withM F (newNd k i)) e.ino = dirB F e.ino := fun n hn e he => dir_eq (by rw [hN,if_neg (hne n hn e he)])
 have hk : (newNd k i).kind = 1 ∧ (newNd k i).links = 1 ∨ (newNd k i).kind = 2 ∧ (newNd k i).links = 2 := by
  unfold newNd
  split
  ·exact .inl ⟨rfl,rfl⟩
  ·exact .inr ⟨rfl,rfl⟩
 have hdata : (newNd k i).data = NE := by unfold newNd; split <;> rfl
 refine ⟨nod_new h.nod (node_none hi'),?_,?_,?_,?_,?_,?_,?_,?_,?_,h.par1,?_,?_,?_⟩
 ·obtain ⟨n,h3,h4⟩ := h.root
  exact ⟨n,by rw [hN,if_neg (by omega)]; exact h3,h4⟩
 ·intro n hn
  rcases (hmem n).1 hn with rfl | hn
  ·rw [hino]; omega
  ·exact h.ino n hn
 ·intro n hn
  rcases (hmem n).1 hn with rfl | hn
  ·rcases hk with h3 | h3
   ·exact .inr ⟨h3.1,hents⟩
   ·exact .inl h3.1
  ·exact h.kind n hn
 ·intro n hn
  rcases (hmem n).1 hn with rfl | hn
  ·exact ⟨by rw [hdata]; decide,fun _ => hdata⟩
  ·exact h.data n hn
 ·intro n hn
  rcases (hmem n).1 hn with rfl | hn
  ·rw [hents]; exact List.Pairwise.nil
  ·exact h.ord n hn
 ·intro n hn e he
  rcases (hmem n).1 hn with rfl | hn
  ·rw [hents] at he; cases he
  ·exact h.name n hn e he
 ·intro n hn e he
  rcases (hmem n).1 hn with rfl | hn
  ·rw [hents] at he; cases he
  ·exact h.some_ n hn e he
 ·intro n hn e he hex
  rcases (hmem n).1 hn with rfl | hn
  ·rw [hents] at he; cases he
  ·obtain ⟨m,hm⟩ := h.goes n hn e he hex
   exact ⟨m,by rw [hN,if_neg (hne n hn e he)]; exact hm⟩
 ·intro n hn e he hdr
  rcases (hmem n).1 hn with rfl | hn
  ·rw [hents] at he; cases he
  ·rw [hd n hn e he] at hdr
   exact h.par n hn e he hdr
 ·intro m hm
  rcases (hmem m).1 hm with rfl | hm
  ·rw [hino,cnt_new hi' hents]
   have hz : DirsM.cnt F i = 0 := by
    have := (cnt_pos (f := F) (i := i)).1
    have h3 : ¬ 0 < DirsM.cnt F i := fun h4 => by
     obtain ⟨n,hn,e,he,hei⟩ := this h4
     exact hne n hn e he hei
    omega
   unfold wantC
   rw [hz,hino,upd_same,if_neg (by omega)]
   rcases hk with h3 | h3
   ·rw [h3.1,h3.2,if_neg (by decide)]; rfl
   ·rw [h3.1,if_pos rfl]; rfl
  ·rw [cnt_new hi' hents,upd_ne _ _ (hold m hm)]
   exact h.cnt m hm
 ·intro m hm hk1
  rcases (hmem m).1 hm with rfl | hm
  ·rcases hk with h3 | h3
   ·rw [h3.2]; omega
   ·rw [h3.1] at hk1; omega
  ·exact h.pos m hm hk1
 ·intro m hm hk1
  rcases (hmem m).1 hm with rfl | hm
  ·rw [hents,hino,upd_same]
   rcases hk with h3 | h3
   ·rw [h3.1] at hk1; omega
   ·rw [h3.2]; rfl
  ·rw [subs_eq (hd m hm),upd_ne _ _ (hold m hm)]
   exact h.dl m hm hk1
theorem Wd.link (h : Wd F π δ ε x) {i y : Int} {n : Nd} (hn : nodeM F i = some n) (hp : n.kind = 1 → 1 ≤ n.links + y ∧ n.links + y ≤ 1000) (hi1 : n.kind = 1 → i ≠ 1) : Wd (linkedM F i y) π (if n.kind = 2 then δ else upd δ i (δ i - y)) (if n.kind = 2 then upd ε i (ε i + y) else ε) x := by
 have hm := node_mem hn
 have hN := fun j => node_linked (by_ := y) h.nod hn j
 have hmem : ∀ z,z ∈ linkedM F i y ↔ z = { n with links := n.links + y } ∨ (z ∈ F ∧ z.ino ≠ i) := fun z => by
  rw [linked_eq hn,mem_with (n := { n with links := n.links + y }) h.nod hm.1 rfl]
  show _ ∨ (_ ∧ z.ino ≠ n.ino) ↔ _
  rw [hm.2]
 have hd : ∀ j,dirB (linkedM F i y) j = dirB F j := fun j => by
  unfold dirB
  rw [hN]
  by_cases hj : j = i
  ·rw [if_pos hj,hj,hn]
  ·rw [if_neg hj]
 have hs : ∀ l,subs (linkedM F i y) l = subs F l := fun l => subs_eq (fun e _ => hd e.ino)
 refine ⟨nod_linked h.nod hn,?_,?_,?_,?_,?_,?_,?_,?_,?_,h.par1,?_,?_,?_⟩
 ·obtain ⟨r,h3,h4⟩ := h.root
  rw [hN]
  by_cases hj : (1 : Int) = i
  ·rw [if_pos hj]
   rw [hj,hn] at h3
   injection h3 with h3
   subst h3
   exact ⟨_,rfl,h4⟩
  ·rw [if_neg hj]
   exact ⟨r,h3,h4⟩
 ·intro z hz
  rcases (hmem z).1 hz with rfl | ⟨hz,_⟩
  ·exact h.ino n hm.1
  ·exact h.ino z hz
 ·intro z hz
  rcases (hmem z).1 hz with rfl | ⟨hz,_⟩
  ·exact h.kind n hm.1
  ·exact h.kind z hz
 ·intro z hz
  rcases (hmem z).1 hz with rfl | ⟨hz,_⟩
  ·exact h.data n hm.1
  ·exact h.data z hz
 ·intro z hz
  rcases (hmem z).1 hz with rfl | ⟨hz,_⟩
  ·exact h.ord n hm.1
  ·exact h.ord z hz
 ·intro z hz e he
  rcases (hmem z).1 hz with rfl | ⟨hz,_⟩
  ·exact h.name n hm.1 e he
  ·exact h.name z hz e he
 ·intro z hz e he
  rcases (hmem z).1 hz with rfl | ⟨hz,_⟩
  ·exact h.some_ n hm.1 e he
  ·exact h.some_ z hz e he
 ·intro z hz e he hex
  obtain ⟨m,hm2⟩ : ∃ m,nodeM F e.ino = some m := by
   rcases (hmem z).1 hz with rfl | ⟨hz,_⟩
   ·exact h.goes n hm.1 e he hex
   ·exact h.goes z hz e he hex
  rw [hN]
  by_cases hj : e.ino = i
  ·rw [if_pos hj]; exact ⟨_,rfl⟩
  ·rw [if_neg hj]; exact ⟨m,hm2⟩
 ·intro z hz e he hdr
  rw [hd] at hdr
  rcases (hmem z).1 hz with rfl | ⟨hz,_⟩
  ·exact h.par n hm.1 e he hdr
  ·exact h.par z hz e he hdr
 ·intro z hz
  rw [cnt_linked h.nod hn]
  rcases (hmem z).1 hz with rfl | ⟨hz,hzi⟩
  ·have h3 := h.cnt n hm.1
   show (DirsM.cnt F n.ino : Int) = wantC { n with links := n.links + y } + _
   unfold wantC at h3 ⊢
   dsimp only
   by_cases hk : n.kind = 2
   ·rw [if_pos hk]
    rw [if_pos hk] at h3 ⊢
    exact h3
   ·rw [if_neg hk]
    rw [if_neg hk] at h3 ⊢
    have hk1 : n.kind = 1 := by rcases h.kind n hm.1 with h4 | h4; exact absurd h4 hk; exact h4.1
    have hne := hi1 hk1
    rw [hm.2] at h3 ⊢
    rw [if_neg hne] at h3 ⊢
    rw [upd_same,h3]
    show n.links + δ i = n.links + y + (δ i - y)
    omega
  ·have h3 := h.cnt z hz
   by_cases hk : n.kind = 2
   ·rw [if_pos hk]; exact h3
   ·rw [if_neg hk,upd_ne _ _ hzi]; exact h3
 ·intro z hz hk
  rcases (hmem z).1 hz with rfl | ⟨hz,_⟩
  ·exact hp hk
  ·exact h.pos z hz hk
 ·intro z hz hk
  rw [hs]
  rcases (hmem z).1 hz with rfl | ⟨hz,hzi⟩
  ·have hk2 : n.kind = 2 := hk
   have h3 := h.dl n hm.1 hk2
   rw [if_pos hk2]
   show n.links + y = 2 + subs F n.ents + upd ε i (ε i + y) n.ino
   rw [hm.2,upd_same]
   rw [hm.2] at h3
   omega
  ·have h3 := h.dl z hz hk
   by_cases hk2 : n.kind = 2
   ·rw [if_pos hk2,upd_ne _ _ hzi]; exact h3
   ·rw [if_neg hk2]; exact h3
theorem Wd.named (h : Wd F π δ ε x) {d i : Int} {nm : ByteArray} {n : Nd} {π' : Int → Int} (hn : nodeM F d = some n) (hk2 : n.kind = 2)
 (hi : i ≠ 0 → nameOk nm = true ∧ 1 ≤ i ∧ i ≤ 4294967295 ∧ ∃ m,nodeM F i = some m ∧ (m.kind = 2 → π' i = d))
 (hπ : ∀ z ∈ F,∀ e ∈ z.ents,(z.ino = d → e.name ≠ nm) → dirB F e.ino = true → π' e.ino = z.ino) (hπ1 : π' 1 = 1) :
 Wd (namedM F d nm i) π' (fun j => δ j + (if i ≠ 0 ∧ i = j then 1 else 0) - oldE n nm j) (upd ε d (ε d + ((n.ents.filter fun e => decide (e.name = nm)).countP fun e => dirB F e.ino : Nat) - (if i ≠ 0 ∧ dirB F i = true then 1 else 0))) x := by
 have hm := node_mem hn
 have ho := h.ord n hm.1
 have hN := fun j => node_named (i := i) (nm := nm) h.nod hn j
 have hmem : ∀ z,z ∈ namedM F d nm i ↔ z = { n with ents := insE nm i (decide (i = 0)) n.ents } ∨ (z ∈ F ∧ z.ino ≠ d) := fun z => by
  rw [named_eq hn,mem_with (n := { n with ents := insE nm i (decide (i = 0)) n.ents }) h.nod hm.1 rfl]
  show _ ∨ (_ ∧ z.ino ≠ n.ino) ↔ _
  rw [hm.2]
 have hd : ∀ j,dirB (namedM F d nm i) j = dirB F j := fun j => by
  unfold dirB
  rw [hN]
  by_cases hj : j = d
  ·rw [if_pos hj,hj,hn]
  ·rw [if_neg hj]
 have hs : ∀ l,subs (namedM F d nm i) l = subs F l := fun l => subs_eq (fun e _ => hd e.ino)
 have hins : ∀ e,e ∈ insE nm i (decide (i = 0)) n.ents ↔ (i ≠ 0 ∧ e = ⟨nm,i⟩) ∨ (e ∈ n.ents ∧ e.name ≠ nm) := fun e => mem_ins ho
 refine ⟨nod_named h.nod hn,?_,?_,?_,?_,?_,?_,?_,?_,?_,hπ1,?_,?_,?_⟩
 ·obtain ⟨r,h3,h4⟩ := h.root
  rw [hN]
  by_cases hj : (1 : Int) = d
  ·rw [if_pos hj]
   rw [hj,hn] at h3
   injection h3 with h3
   subst h3
   exact ⟨_,rfl,h4⟩
  ·rw [if_neg hj]
   exact ⟨r,h3,h4⟩
 ·intro z hz
  rcases (hmem z).1 hz with rfl | ⟨hz,_⟩
  ·exact h.ino n hm.1
  ·exact h.ino z hz
 ·intro z hz
  rcases (hmem z).1 hz with rfl | ⟨hz,_⟩
  ·exact .inl hk2
  ·exact h.kind z hz
 ·intro z hz
  rcases (hmem z).1 hz with rfl | ⟨hz,_⟩
  ·exact h.data n hm.1
  ·exact h.data z hz
 ·intro z hz
  rcases (hmem z).1 hz with rfl | ⟨hz,_⟩
  ·exact ord_ins ho nm i
  ·exact h.ord z hz
 ·intro z hz e he
  rcases (hmem z).1 hz with rfl | ⟨hz,_⟩
  ·rcases (hins e).1 he with ⟨h1,rfl⟩ | ⟨h1,_⟩
   ·exact (hi h1).1
   ·exact h.name n hm.1 e h1
  ·exact h.name z hz e he
 ·intro z hz e he
  rcases (hmem z).1 hz with rfl | ⟨hz,_⟩
  ·rcases (hins e).1 he with ⟨h1,rfl⟩ | ⟨h1,_⟩
   ·exact ⟨(hi h1).2.1,(hi h1).2.2.1⟩
   ·exact h.some_ n hm.1 e h1
  ·exact h.some_ z hz e he
 ·intro z hz e he hex
  obtain ⟨m,hm2⟩ : ∃ m,nodeM F e.ino = some m := by
   rcases (hmem z).1 hz with rfl | ⟨hz,_⟩
   ·rcases (hins e).1 he with ⟨h1,rfl⟩ | ⟨h1,_⟩
    ·obtain ⟨m,h3,_⟩ := (hi h1).2.2.2
     exact ⟨m,h3⟩
    ·exact h.goes n hm.1 e h1 hex
   ·exact h.goes z hz e he hex
  rw [hN]
  by_cases hj : e.ino = d
  ·rw [if_pos hj]; exact ⟨_,rfl⟩
  ·rw [if_neg hj]; exact ⟨m,hm2⟩
 ·intro z hz e he hdr
  rw [hd] at hdr
  rcases (hmem z).1 hz with rfl | ⟨hz,hzd⟩
  ·show π' e.ino = n.ino
   rcases (hins e).1 he with ⟨h1,rfl⟩ | ⟨h1,h2⟩
   ·obtain ⟨m,h3,h4⟩ := (hi h1).2.2.2
    rw [dir_some h3,decide_eq_true_eq] at hdr
    rw [hm.2]
    exact h4 hdr
   ·exact hπ n hm.1 e h1 (fun _ => h2) hdr
  ·exact hπ z hz e he (fun h5 => absurd h5 hzd) hdr
 ·intro z hz
  have hc := cnt_named (i := i) (nm := nm) h.nod hn ho z.ino
  have h3 : (DirsM.cnt F z.ino : Int) = wantC z + δ z.ino := by
   rcases (hmem z).1 hz with rfl | ⟨hz,_⟩
   ·exact h.cnt n hm.1
   ·exact h.cnt z hz
  show ((DirsM.cnt (namedM F d nm i) z.ino : Nat) : Int) = wantC z + (δ z.ino + (if i ≠ 0 ∧ i = z.ino then 1 else 0) - oldE n nm z.ino)
  by_cases hq : i ≠ 0 ∧ i = z.ino
  ·rw [if_pos hq] at hc ⊢
   omega
  ·rw [if_neg hq] at hc ⊢
   omega
 ·intro z hz hk
  rcases (hmem z).1 hz with rfl | ⟨hz,_⟩
  ·exact h.pos n hm.1 hk
  ·exact h.pos z hz hk
 ·intro z hz hk
  rw [hs]
  rcases (hmem z).1 hz with rfl | ⟨hz,hzd⟩
  ·have h3 := h.dl n hm.1 hk2
   have h4 := count_ins ho nm i (fun e => dirB F e.ino)
   show n.links = 2 + subs F (insE nm i (decide (i = 0)) n.ents) + upd ε d _ n.ino
   rw [hm.2,upd_same]
   rw [hm.2] at h3
   have e1 : subs F (insE nm i (decide (i = 0)) n.ents) = (insE nm i (decide (i = 0)) n.ents).countP (fun e => dirB F e.ino) := rfl
   have e2 : subs F n.ents = n.ents.countP (fun e => dirB F e.ino) := rfl
   by_cases hq : i ≠ 0 ∧ dirB F i = true
   ·rw [if_pos hq] at h4 ⊢
    omega
   ·rw [if_neg hq] at h4 ⊢
    omega
  ·rw [upd_ne _ _ hzd]
   exact h.dl z hz hk
theorem Wd.ins (h : Wd F π δ ε x) {d i : Int} {nm : ByteArray} {n m : Nd} {π' : Int → Int} (hn : nodeM F d = some n) (hk2 : n.kind = 2) (hno : ∀ e ∈ n.ents,e.name ≠ nm) (hnm : nameOk nm = true) (h1 : 1 ≤ i) (h2 : i ≤ 4294967295) (hmi : nodeM F i = some m)
 (hπ : (m.kind ≠ 2 ∧ π' = π) ∨ (m.kind = 2 ∧ i ≠ 1 ∧ π' = upd π i d ∧ ∀ z ∈ F,∀ e ∈ z.ents,e.ino ≠ i)) :
 Wd (namedM F d nm i) π' (upd δ i (δ i + 1)) (if m.kind = 2 then upd ε d (ε d - 1) else ε) x := by
 have hm := node_mem hn
 have ho := h.ord n hm.1
 have hdi := dir_some hmi
 have h0 := h.named (i := i) (nm := nm) (π' := π') hn hk2 (fun _ => ⟨hnm,h1,h2,m,hmi,fun hk => by
  rcases hπ with h3 | h3
  ·exact absurd hk h3.1
  ·rw [h3.2.2.1,upd_same]⟩) (fun z hz y hy _ hd => by
  rcases hπ with h3 | h3
  ·rw [h3.2]; exact h.par z hz y hy hd
  ·rw [h3.2.2.1,upd_ne _ _ (h3.2.2.2 z hz y hy)]; exact h.par z hz y hy hd) (by
  rcases hπ with h3 | h3
  ·rw [h3.2]; exact h.par1
  ·rw [h3.2.2.1,upd_ne _ _ (fun e => h3.2.1 e.symm)]; exact h.par1)
 have hf : (n.ents.filter fun e => decide (e.name = nm)) = [] := List.filter_eq_nil_iff.2 (fun e he => by simpa using hno e he)
 refine h0.eq (fun j => ?_) (fun j => ?_)
 ·rw [old_none hno]
  unfold upd
  by_cases hj : j = i
  ·rw [if_pos hj,if_pos ⟨by omega,hj.symm⟩,hj]; omega
  ·rw [if_neg hj,if_neg (fun h => hj h.2.symm)]; omega
 ·rw [hf]
  unfold upd
  rw [hdi]
  by_cases hk : m.kind = 2
  ·rw [if_pos hk,decide_eq_true hk]
   by_cases hj : j = d
   ·rw [if_pos hj,if_pos hj,if_pos ⟨by omega,rfl⟩]; simp
   ·rw [if_neg hj,if_neg hj]
  ·rw [if_neg hk,decide_eq_false hk]
   by_cases hj : j = d
   ·rw [if_pos hj,if_neg (fun h => by cases h.2),hj]; simp
   ·rw [if_neg hj]
end
end Go.Proofs.YtfalhnomhidkcaaGreatDoor.DirsW
namespace Go.Proofs.YtfalhnomhidkcaaGreatDoor.FileM
open Byte PackM KeysM
def cut0 : List Int → List Int
 | [] => []
 | x :: r => match cut0 r with
   | [] => if x = 0 then [] else [x]
   | y :: q => x :: y :: q
theorem cut0_nil_iff : ∀ {l : List Int},cut0 l = [] ↔ ∀ x ∈ l,x = 0
 | [] => by simp [cut0]
 | x :: r => by
   have ih := cut0_nil_iff (l := r)
   unfold cut0
   cases h : cut0 r with
   | nil =>
     have h1 := ih.1 h
     by_cases hx : x = 0
     ·simpa [hx] using h1
     ·simp [hx]
   | cons y q =>
     have : ¬ ∀ x ∈ r,x = 0 := fun k => by rw [ih.2 k] at h; cases h
     simp only [reduceCtorEq,false_iff,List.mem_cons,forall_eq_or_imp]
     exact fun k => this k.2
theorem cut0_spec : ∀ (l : List Int),∃ k,l = cut0 l ++ List.replicate k 0
 | [] => ⟨0,rfl⟩
 | x :: r => by
   obtain ⟨k,hk⟩ := cut0_spec r
   cases h : cut0 r with
   | nil =>
     rw [h] at hk
     by_cases hx : x = 0
     ·refine ⟨k + 1,?_⟩
      unfold cut0
      rw [h,hx]
      dsimp only
      rw [if_pos rfl,List.replicate_succ]
      exact congrArg (List.cons 0) hk
     ·refine ⟨k,?_⟩
      unfold cut0
      rw [h]
      dsimp only
      rw [if_neg hx]
      exact congrArg (List.cons x) hk
   | cons y q =>
     refine ⟨k,?_⟩
     rw [h] at hk
     unfold cut0
     rw [h]
     exact congrArg (List.cons x) hk
theorem cut0_len (l : List Int) : (cut0 l).length ≤ l.length := by
 obtain ⟨k,hk⟩ := cut0_spec l
 have := congrArg List.length hk
 rw [List.length_append] at this
 omega
theorem cut0_last : ∀ {l : List Int} (h : cut0 l ≠ []),(cut0 l).getLast h ≠ 0
 | [],h => absurd rfl h
 | x :: r,h => by
   cases hr : cut0 r with
   | nil =>
     have e : cut0 (x :: r) = if x = 0 then [] else [x] := by rw [cut0,hr]
     by_cases hx : x = 0
     ·exact absurd (by rw [e,if_pos hx]) h
     ·have e2 : cut0 (x :: r) = [x] := by rw [e,if_neg hx]
      simp only [e2,List.getLast_singleton]
      exact hx
   | cons y q =>
     have e : cut0 (x :: r) = x :: cut0 r := by rw [cut0,hr]
     have hne : cut0 r ≠ [] := by rw [hr]; simp
     simp only [e]
     rw [List.getLast_cons hne]
     exact cut0_last hne
theorem cut0_app0 : ∀ (l : List Int) (k : Nat),cut0 (l ++ List.replicate k 0) = cut0 l
 | [],k => cut0_nil_iff.2 fun x hx => List.eq_of_mem_replicate (by simpa using hx)
 | x :: r,k => by
   rw [List.cons_append,cut0,cut0_app0 r k]
   rfl
theorem cut0_mem {l : List Int} {x : Int} (h : x ∈ cut0 l) : x ∈ l := by
 obtain ⟨k,hk⟩ := cut0_spec l
 rw [hk]
 exact List.mem_append_left _ h
def pad (n : Nat) (l : List Int) : List Int := (l ++ List.replicate n 0).take n
theorem pad_len (n : Nat) (l : List Int) : (pad n l).length = n := by
 unfold pad
 rw [List.length_take,List.length_append,List.length_replicate]
 omega
theorem pad_cut0 (n : Nat) (l : List Int) : pad n (cut0 l) = pad n l := by
 obtain ⟨k,hk⟩ := cut0_spec l
 have h : ∀ (m : List Int),pad n (m ++ List.replicate k 0) = pad n m := fun m => by
  apply List.ext_getElem?
  intro i
  unfold pad
  rw [List.getElem?_take,List.getElem?_take]
  by_cases hi : i < n
  ·rw [if_pos hi,if_pos hi,List.append_assoc,List.replicate_append_replicate]
   by_cases hm : i < m.length
   ·rw [List.getElem?_append_left hm,List.getElem?_append_left hm]
   ·rw [List.getElem?_append_right (by omega),List.getElem?_append_right (by omega),List.getElem?_replicate,List.getElem?_replicate,if_pos (by omega),if_pos (by omega)]
  ·rw [if_neg hi,if_neg hi]
 conv => rhs; rw [hk]
 exact (h _).symm
def blkL (d : ByteArray) (w : Nat) : List Int := cut0 (((txt d).drop (64 * w)).take 64)
def blkG (d : ByteArray) (w : Int) : Option ByteArray := if blkL d w.toNat = [] then none else some (str (blkL d w.toNat))
theorem blkL_bd (d : ByteArray) (w : Nat) : ∀ x ∈ blkL d w,0 ≤ x ∧ x ≤ 255 := fun x hx => txt_bd d x (List.mem_of_mem_drop (List.mem_of_mem_take (cut0_mem hx)))
theorem blkL_len (d : ByteArray) (w : Nat) : (blkL d w).length ≤ 64 := by
 have := cut0_len (((txt d).drop (64 * w)).take 64)
 rw [List.length_take] at this
 unfold blkL
 omega
theorem blkG_nil (w : Int) : blkG ⟨#[]⟩ w = none := by
 have h : blkL ⟨#[]⟩ w.toNat = [] := by
  unfold blkL
  rw [show txt ⟨#[]⟩ = [] from rfl,List.drop_nil,List.take_nil]
  rfl
 unfold blkG
 rw [if_pos h]
theorem blkG_far {d : ByteArray} {w : Int} (h : (d.size : Int) ≤ 64 * w) : blkG d w = none := by
 have h1 : blkL d w.toNat = [] := by
  unfold blkL
  rw [List.drop_eq_nil_of_le (by rw [txt_len]; omega),List.take_nil]
  rfl
 unfold blkG
 rw [if_pos h1]
def valL (v : Option ByteArray) : List Int := match v with
 | some b => txt b
 | none => []
theorem val_blk (d : ByteArray) (w : Int) : valL (blkG d w) = blkL d w.toNat := by
 unfold blkG
 by_cases h : blkL d w.toNat = []
 ·rw [if_pos h,h]; rfl
 ·rw [if_neg h]
  exact txt_str _ (blkL_bd _ _)
end Go.Proofs.YtfalhnomhidkcaaGreatDoor.FileM
namespace Go.Proofs.YtfalhnomhidkcaaGreatDoor.DirsX
open FileM Byte PackM KeysM TreeM ViewM ViewKm NodeM NamesM WalkM WalkF WalkKm DirsM DirsV DirsW
def gk (L : List Pr) (k : ByteArray) : Option ByteArray := (getL k L).map (·.value)
abbrev Gf := ByteArray → Option ByteArray
def setG (g : Gf) (p : Pr) : Gf := fun k => if k = p.key then (if p.gone = true then none else some p.value) else g k
theorem get_iff {L : List Pr} (hr : Rise L) {k : ByteArray} {p : Pr} : getL k L = some p ↔ p ∈ L ∧ p.key = k :=
 ⟨fun h => ⟨List.mem_of_find?_eq_some h,by simpa using List.find?_some h⟩,fun ⟨h1,h2⟩ => by rw [← h2]; exact get_mem hr h1⟩
theorem gk_done {L : List Pr} (hr : Rise L) (p : Pr) : gk (doneW L p) = setG (gk L) p := by
 funext k
 unfold gk setG
 have hr2 := rise_done hr p
 by_cases hk : k = p.key
 ·rw [if_pos hk]
  by_cases hg : p.gone = true
  ·rw [if_pos hg,get_none' (fun q hq e => by
    rcases mem_done.1 hq with ⟨h1,_⟩ | ⟨_,h2⟩
    ·rw [hg] at h1; cases h1
    ·exact h2 (by rw [e,hk]))]
   rfl
  ·rw [if_neg hg,(get_iff hr2 (p := ⟨p.key,p.value,false⟩)).2 ⟨mem_done.2 (.inl ⟨by simpa using hg,rfl⟩),hk.symm⟩]
   rfl
 ·rw [if_neg hk]
  cases hq : getL k L with
  | none =>
    rw [get_none' (fun q hq2 e => by
     rcases mem_done.1 hq2 with ⟨_,h1⟩ | ⟨h1,_⟩
     ·rw [h1] at e; exact hk e.symm
     ·exact get_none hq q h1 e)]
    show _ = Option.map _ (getL k L); rw [hq]
  | some q =>
    have h1 := (get_iff hr).1 hq
    rw [(get_iff hr2 (p := q)).2 ⟨mem_done.2 (.inr ⟨h1.1,fun e => hk (by rw [← h1.2,e])⟩),h1.2⟩]
    show _ = Option.map _ (getL k L); rw [hq]
theorem gone_done {L : List Pr} (h : ∀ p ∈ L,p.gone = false) (q : Pr) : ∀ p ∈ doneW L q,p.gone = false := fun p hp => by
 rcases mem_done.1 hp with ⟨_,h1⟩ | ⟨h1,_⟩
 ·rw [h1]
 ·exact h p h1
def outW (L : List Pr) : List Wrt → List Pr
 | [] => L
 | p :: ps => outW (doneW L (p L)) ps
theorem go_out : ∀ (ps : List Wrt) {s : Vs},s.Ok → (goW s ps).2 = true → (goW s ps).1.shown = outW s.shown ps ∧ (goW s ps).1.Ok
 | [],s,ho,_ => ⟨rfl,ho⟩
 | p :: ps,s,ho,h => by
   cases hf : fullW s.wr (p s.shown) with
   | true => rw [goW_full hf] at h; cases h
   | false =>
     rw [goW_room hf] at h ⊢
     have h1 : (s.write (p s.shown)).shown = doneW s.shown (p s.shown) := by
      unfold Vs.write
      rw [if_neg (by rw [hf]; decide)]
      exact shown_write ho.base ho.wr _
     have h2 := go_out ps (ok_write ho _) h
     rw [h1] at h2
     exact h2
def loadG (g : Gf) (i : Int) : Ino × Bool := match g (kI i) with
 | none => if i = 1 then (⟨2,2,0,1⟩,true) else (ino0,false)
 | some v => if gok v then (⟨gk v,gl v,gs v,gp v⟩,true) else (ino0,false)
where gk := NodeM.gk
theorem load_g (L : List Pr) (i : Int) : loadM L i = loadG (gk L) i := by
 unfold loadM loadG gk
 cases getL (kI i) L <;> rfl
def childG (g : Gf) (d : Int) (nm : ByteArray) : Int × Bool := match g (kE d nm) with
 | none => (0,false)
 | some v => if v.size = 4 then (PackM.getn (txt v) 0 4,true) else (0,false)
theorem child_g (L : List Pr) (d : Int) (nm : ByteArray) : childM L d nm = childG (gk L) d nm := by
 unfold childM childG gk
 cases getL (kE d nm) L <;> rfl
theorem kI_inj {i j : Int} (h0 : 0 ≤ i) (h1 : i ≤ 4294967295) (j0 : 0 ≤ j) (j1 : j ≤ 4294967295) (h : kI i = kI j) : i = j := by
 have a := sp_I i h0 h1
 rw [h,sp_I j j0 j1] at a
 injection a with _ a
 exact a.symm
theorem kE_inj {i j : Int} {a b : ByteArray} (h0 : 0 ≤ i) (h1 : i ≤ 4294967295) (j0 : 0 ≤ j) (j1 : j ≤ 4294967295) (ha : goodN a) (hb : goodN b) (h : kE i a = kE j b) : i = j ∧ a = b := by
 have x := sp_E i a h0 h1 ha.1 ha.2
 rw [h,sp_E j b j0 j1 hb.1 hb.2] at x
 injection x with _ x y
 exact ⟨x.symm,y.symm⟩
theorem kIE {i j : Int} {a : ByteArray} (h0 : 0 ≤ i) (h1 : i ≤ 4294967295) (j0 : 0 ≤ j) (j1 : j ≤ 4294967295) (ha : goodN a) : kI i ≠ kE j a := fun h => by
 have x := sp_I i h0 h1
 rw [h,sp_E j a j0 j1 ha.1 ha.2] at x
 injection x with x
 cases x
theorem kD_inj {i j v w : Int} (h0 : 0 ≤ i) (h1 : i ≤ 4294967295) (j0 : 0 ≤ j) (j1 : j ≤ 4294967295) (hv : 0 ≤ v ∧ v ≤ 65535) (hw : 0 ≤ w ∧ w ≤ 65535) (h : kD i v = kD j w) : i = j ∧ v = w := by
 have x := sp_D i v h0 h1 hv.1 hv.2
 rw [h,sp_D j w j0 j1 hw.1 hw.2] at x
 injection x with _ x _ y
 exact ⟨x.symm,y.symm⟩
theorem kID {i j w : Int} (h0 : 0 ≤ i) (h1 : i ≤ 4294967295) (j0 : 0 ≤ j) (j1 : j ≤ 4294967295) (hw : 0 ≤ w ∧ w ≤ 65535) : kI i ≠ kD j w := fun h => by
 have x := sp_I i h0 h1
 rw [h,sp_D j w j0 j1 hw.1 hw.2] at x
 injection x with x
 cases x
theorem kED {i j w : Int} {a : ByteArray} (h0 : 0 ≤ i) (h1 : i ≤ 4294967295) (j0 : 0 ≤ j) (j1 : j ≤ 4294967295) (ha : goodN a) (hw : 0 ≤ w ∧ w ≤ 65535) : kE i a ≠ kD j w := fun h => by
 have x := sp_E i a h0 h1 ha.1 ha.2
 rw [h,sp_D j w j0 j1 hw.1 hw.2] at x
 injection x with x
 cases x
theorem good_of {s : ByteArray} (h : nameOk s = true) : goodN s := name_pos h
def inoW (π : Int → Int) (n : Nd) : ByteArray := nput n.kind n.links n.data.size (if n.kind = 2 then π n.ino else 0)
structure Bs (F : Fs) : Prop where
 nod : Nod F
 ino : ∀ n ∈ F,1 ≤ n.ino ∧ n.ino ≤ 4294967295
 ord : ∀ n ∈ F,Ord n.ents
 name : ∀ n ∈ F,∀ e ∈ n.ents,goodN e.name
theorem Bs.of {F : Fs} {π δ ε : Int → Int} {x : Int} (h : Wd F π δ ε x) : Bs F := ⟨h.nod,h.ino,h.ord,fun n hn e he => good_of (h.name n hn e he)⟩
structure RG (F : Fs) (π : Int → Int) (g : Gf) : Prop where
 keys : ∀ k,g k ≠ none → (∃ n ∈ F,k = kI n.ino) ∨ (∃ n ∈ F,∃ e ∈ n.ents,k = kE n.ino e.name) ∨ (∃ n ∈ F,∃ w,(0 ≤ w ∧ w ≤ 65535) ∧ k = kD n.ino w ∧ blkG n.data w ≠ none)
 inos : ∀ n ∈ F,g (kI n.ino) = some (inoW π n) ∨ (n.ino = 1 ∧ n.kind = 2 ∧ n.links = 2 ∧ g (kI 1) = none)
 ents : ∀ n ∈ F,∀ e ∈ n.ents,g (kE n.ino e.name) = some (hangV e.ino)
 blks : ∀ n ∈ F,∀ w,0 ≤ w ∧ w ≤ 65535 → g (kD n.ino w) = blkG n.data w
section
variable {F : Fs} {π : Int → Int} {g : Gf}
theorem setG_same (g : Gf) (p : Pr) : setG g p p.key = if p.gone = true then none else some p.value := if_pos rfl
theorem setG_ne (g : Gf) {p : Pr} {k : ByteArray} (h : k ≠ p.key) : setG g p k = g k := if_neg h
theorem RG.new_ (h : RG F π g) (b : Bs F) {n : Nd} (hn : nodeM F n.ino = none) (he : n.ents = []) (hd : n.data = NE) (h1 : 1 ≤ n.ino) (h2 : n.ino ≤ 4294967295) : RG (withM F n) π (setG g ⟨kI n.ino,inoW π n,false⟩) := by
 have hne := node_none hn
 have hmem : ∀ z,z ∈ withM F n ↔ z = n ∨ z ∈ F := fun z => mem_new hne
 refine ⟨fun k hk => ?_,fun z hz => ?_,fun z hz e hez => ?_,fun z hz w hw => ?_⟩
 ·by_cases hq : k = kI n.ino
  ·exact .inl ⟨n,(hmem n).2 (.inl rfl),hq⟩
  ·rw [setG_ne g (p := ⟨kI n.ino,inoW π n,false⟩) hq] at hk
   rcases h.keys k hk with ⟨m,h3,h4⟩ | ⟨m,h3,e,h4,h5⟩ | ⟨m,h3,w,h4,h5,h6⟩
   ·exact .inl ⟨m,(hmem m).2 (.inr h3),h4⟩
   ·exact .inr (.inl ⟨m,(hmem m).2 (.inr h3),e,h4,h5⟩)
   ·exact .inr (.inr ⟨m,(hmem m).2 (.inr h3),w,h4,h5,h6⟩)
 ·rcases (hmem z).1 hz with rfl | hz
  ·left
   exact setG_same g ⟨kI z.ino,inoW π z,false⟩
  ·have hzi := b.ino z hz
   have hq : ∀ j,1 ≤ j → j ≤ 4294967295 → j ≠ n.ino → kI j ≠ kI n.ino := fun j a c d e => d (kI_inj (by omega) c (by omega) h2 e)
   rcases h.inos z hz with h3 | ⟨h3,h4,h5,h6⟩
   ·left
    rw [setG_ne g (p := ⟨kI n.ino,inoW π n,false⟩) (hq z.ino hzi.1 hzi.2 (hne z hz))]
    exact h3
   ·right
    exact ⟨h3,h4,h5,by rw [setG_ne g (p := ⟨kI n.ino,inoW π n,false⟩) (hq 1 (by omega) (by omega) (by rw [← h3]; exact hne z hz))]; exact h6⟩
 ·rcases (hmem z).1 hz with rfl | hz
  ·rw [he] at hez; cases hez
  ·have hzi := b.ino z hz
   rw [setG_ne g (p := ⟨kI n.ino,inoW π n,false⟩) (kIE (by omega) h2 (by omega) hzi.2 (b.name z hz e hez)).symm]
   exact h.ents z hz e hez
 ·rcases (hmem z).1 hz with rfl | hz
  ·rw [hd,blkG_nil,setG_ne g (p := ⟨kI z.ino,inoW π z,false⟩) (kID (by omega) h2 (by omega) h2 hw).symm]
   cases hg : g (kD z.ino w) with
   | none => rfl
   | some v =>
     exfalso
     rcases h.keys _ (by rw [hg]; simp) with ⟨m,h3,h4⟩ | ⟨m,h3,e,h4,h5⟩ | ⟨m,h3,u,h4,h5,h6⟩
     ·have hb := b.ino m h3
      exact kID (by omega) hb.2 (by omega) h2 hw h4.symm
     ·have hb := b.ino m h3
      exact kED (by omega) hb.2 (by omega) h2 (b.name m h3 e h4) hw h5.symm
     ·have hb := b.ino m h3
      exact hne m h3 (kD_inj (by omega) h2 (by omega) hb.2 hw h4 h5).1.symm
  ·have hzi := b.ino z hz
   rw [setG_ne g (p := ⟨kI n.ino,inoW π n,false⟩) (kID (by omega) h2 (by omega) hzi.2 hw).symm]
   exact h.blks z hz w hw
theorem RG.save_ (h : RG F π g) (b : Bs F) {n n' : Nd} {π' : Int → Int} (hn : nodeM F n.ino = some n) (hi : n'.ino = n.ino) (he : n'.ents = n.ents) (hd : n'.data = n.data) (hπ : ∀ j,j ≠ n.ino → π' j = π j) : RG (withM F n') π' (setG g ⟨kI n.ino,inoW π' n',false⟩) := by
 have hm := node_mem hn
 have hmem : ∀ z,z ∈ withM F n' ↔ z = n' ∨ (z ∈ F ∧ z.ino ≠ n.ino) := fun z => by rw [mem_with b.nod hm.1 hi.symm,hi]
 have hni := b.ino n hm.1
 refine ⟨fun k hk => ?_,fun z hz => ?_,fun z hz e hez => ?_,fun z hz w hw => ?_⟩
 ·by_cases hq : k = kI n.ino
  ·exact .inl ⟨n',(hmem n').2 (.inl rfl),by rw [hi]; exact hq⟩
  ·rw [setG_ne g (p := ⟨kI n.ino,inoW π' n',false⟩) hq] at hk
   rcases h.keys k hk with ⟨m,h3,h4⟩ | ⟨m,h3,e,h4,h5⟩ | ⟨m,h3,w,h4,h5,h6⟩
   ·refine .inl ⟨m,(hmem m).2 (.inr ⟨h3,fun e => hq (by rw [h4,e])⟩),h4⟩
   ·by_cases hmn : m.ino = n.ino
    ·have : m = n := nod_eq b.nod h3 hm.1 hmn
     subst this
     exact .inr (.inl ⟨n',(hmem n').2 (.inl rfl),e,by rw [he]; exact h4,by rw [hi]; exact h5⟩)
    ·exact .inr (.inl ⟨m,(hmem m).2 (.inr ⟨h3,hmn⟩),e,h4,h5⟩)
   ·by_cases hmn : m.ino = n.ino
    ·have : m = n := nod_eq b.nod h3 hm.1 hmn
     subst this
     exact .inr (.inr ⟨n',(hmem n').2 (.inl rfl),w,h4,by rw [hi]; exact h5,by rw [hd]; exact h6⟩)
    ·exact .inr (.inr ⟨m,(hmem m).2 (.inr ⟨h3,hmn⟩),w,h4,h5,h6⟩)
 ·rcases (hmem z).1 hz with rfl | ⟨hz,hzn⟩
  ·left
   rw [hi]
   exact setG_same g ⟨kI n.ino,inoW π' z,false⟩
  ·have hzi := b.ino z hz
   have hq : kI z.ino ≠ kI n.ino := fun e => hzn (kI_inj (by omega) hzi.2 (by omega) hni.2 e)
   have hw : inoW π' z = inoW π z := by unfold inoW; rw [hπ z.ino hzn]
   rcases h.inos z hz with h3 | ⟨h3,h4,h5,h6⟩
   ·left
    rw [setG_ne g (p := ⟨kI n.ino,inoW π' n',false⟩) hq,hw]
    exact h3
   ·right
    exact ⟨h3,h4,h5,by rw [setG_ne g (p := ⟨kI n.ino,inoW π' n',false⟩) (by rw [← h3]; exact hq)]; exact h6⟩
 ·obtain ⟨y,hy,hyi,hye⟩ : ∃ y ∈ F,y.ino = z.ino ∧ e ∈ y.ents := by
   rcases (hmem z).1 hz with rfl | ⟨hz,_⟩
   ·exact ⟨n,hm.1,hi.symm,by rw [← he]; exact hez⟩
   ·exact ⟨z,hz,rfl,hez⟩
  have hyb := b.ino y hy
  rw [← hyi,setG_ne g (p := ⟨kI n.ino,inoW π' n',false⟩) (kIE (by omega) hni.2 (by omega) hyb.2 (b.name y hy e hye)).symm]
  exact h.ents y hy e hye
 ·obtain ⟨y,hy,hyi,hye⟩ : ∃ y ∈ F,y.ino = z.ino ∧ y.data = z.data := by
   rcases (hmem z).1 hz with rfl | ⟨hz,_⟩
   ·exact ⟨n,hm.1,hi.symm,hd.symm⟩
   ·exact ⟨z,hz,rfl,rfl⟩
  have hyb := b.ino y hy
  rw [← hyi,← hye,setG_ne g (p := ⟨kI n.ino,inoW π' n',false⟩) (kID (by omega) hni.2 (by omega) hyb.2 hw).symm]
  exact h.blks y hy w hw
theorem RG.hang_ (h : RG F π g) (b : Bs F) {d i : Int} {nm : ByteArray} {n : Nd} {p : Pr} (hn : nodeM F d = some n) (hnm : goodN nm) (hp : p.key = kE d nm) (hg : p.gone = decide (i = 0)) (hv : i ≠ 0 → p.value = hangV i) : RG (namedM F d nm i) π (setG g p) := by
 have hm := node_mem hn
 have hni := b.ino n hm.1
 have ho := b.ord n hm.1
 have hmem : ∀ z,z ∈ namedM F d nm i ↔ z = { n with ents := insE nm i (decide (i = 0)) n.ents } ∨ (z ∈ F ∧ z.ino ≠ d) := fun z => by
  rw [named_eq hn,mem_with (n := { n with ents := insE nm i (decide (i = 0)) n.ents }) b.nod hm.1 rfl]
  show _ ∨ (_ ∧ z.ino ≠ n.ino) ↔ _
  rw [hm.2]
 rw [hm.2] at hni
 have hins : ∀ e,e ∈ insE nm i (decide (i = 0)) n.ents ↔ (i ≠ 0 ∧ e = ⟨nm,i⟩) ∨ (e ∈ n.ents ∧ e.name ≠ nm) := fun e => mem_ins ho
 have hI : ∀ j,1 ≤ j → j ≤ 4294967295 → setG g p (kI j) = g (kI j) := fun j h1 h2 => setG_ne g (by rw [hp]; exact kIE (by omega) h2 (by omega) hni.2 hnm)
 refine ⟨fun k hk => ?_,fun z hz => ?_,fun z hz e hez => ?_,fun z hz w hw => ?_⟩
 ·by_cases hq : k = kE d nm
  ·by_cases hi0 : i = 0
   ·exact absurd (by rw [hq,← hp,setG_same,hg,decide_eq_true hi0]; rfl) hk
   ·exact .inr (.inl ⟨_,(hmem _).2 (.inl rfl),⟨nm,i⟩,(hins _).2 (.inl ⟨hi0,rfl⟩),by rw [hq]; show _ = kE n.ino nm; rw [hm.2]⟩)
  ·rw [setG_ne g (by rw [hp]; exact hq)] at hk
   rcases h.keys k hk with ⟨m,h3,h4⟩ | ⟨m,h3,e,h4,h5⟩ | ⟨m,h3,w,h4,h5,h6⟩
   ·by_cases hmd : m.ino = d
    ·exact .inl ⟨_,(hmem _).2 (.inl rfl),by rw [h4,hmd]; show _ = kI n.ino; rw [hm.2]⟩
    ·exact .inl ⟨m,(hmem m).2 (.inr ⟨h3,hmd⟩),h4⟩
   ·by_cases hmd : m.ino = d
    ·have : m = n := nod_eq b.nod h3 hm.1 (by rw [hmd,hm.2])
     subst this
     refine .inr (.inl ⟨_,(hmem _).2 (.inl rfl),e,(hins e).2 (.inr ⟨h4,fun en => hq (by rw [h5,en,hmd])⟩),h5⟩)
    ·exact .inr (.inl ⟨m,(hmem m).2 (.inr ⟨h3,hmd⟩),e,h4,h5⟩)
   ·by_cases hmd : m.ino = d
    ·have : m = n := nod_eq b.nod h3 hm.1 (by rw [hmd,hm.2])
     subst this
     exact .inr (.inr ⟨_,(hmem _).2 (.inl rfl),w,h4,h5,h6⟩)
    ·exact .inr (.inr ⟨m,(hmem m).2 (.inr ⟨h3,hmd⟩),w,h4,h5,h6⟩)
 ·rcases (hmem z).1 hz with rfl | ⟨hz,hzd⟩
  ·have hb := b.ino n hm.1
   show setG g p (kI n.ino) = some (inoW π n) ∨ (n.ino = 1 ∧ n.kind = 2 ∧ n.links = 2 ∧ setG g p (kI 1) = none)
   rw [hI n.ino hb.1 hb.2,hI 1 (by omega) (by omega)]
   exact h.inos n hm.1
  ·have hb := b.ino z hz
   rw [hI z.ino hb.1 hb.2,hI 1 (by omega) (by omega)]
   exact h.inos z hz
 ·rcases (hmem z).1 hz with rfl | ⟨hz,hzd⟩
  ·show setG g p (kE n.ino e.name) = _
   rcases (hins e).1 hez with ⟨h1,rfl⟩ | ⟨h1,h2⟩
   ·rw [hm.2,← hp,setG_same,hg,decide_eq_false h1,hv h1]; rfl
   ·have hb := b.ino n hm.1
    rw [setG_ne g (by rw [hp]; exact fun e1 => h2 (kE_inj (by omega) hb.2 (by omega) hni.2 (b.name n hm.1 e h1) hnm e1).2)]
    exact h.ents n hm.1 e h1
  ·have hb := b.ino z hz
   rw [setG_ne g (by rw [hp]; exact fun e1 => hzd (kE_inj (by omega) hb.2 (by omega) hni.2 (b.name z hz e hez) hnm e1).1)]
   exact h.ents z hz e hez
 ·obtain ⟨y,hy,hyi,hye⟩ : ∃ y ∈ F,y.ino = z.ino ∧ y.data = z.data := by
   rcases (hmem z).1 hz with rfl | ⟨hz,_⟩
   ·exact ⟨n,hm.1,rfl,rfl⟩
   ·exact ⟨z,hz,rfl,rfl⟩
  have hyb := b.ino y hy
  rw [← hyi,← hye,setG_ne g (by rw [hp]; exact (kED (by omega) hni.2 (by omega) hyb.2 hnm hw).symm)]
  exact h.blks y hy w hw
theorem RG.data_ (h : RG F π g) (b : Bs F) {g' : Gf} {n n' : Nd} (hn : nodeM F n.ino = some n) (hi : n'.ino = n.ino) (he : n'.ents = n.ents) (hI : g' (kI n.ino) = some (inoW π n')) (hB : ∀ w,0 ≤ w ∧ w ≤ 65535 → g' (kD n.ino w) = blkG n'.data w) (hO : ∀ k,k ≠ kI n.ino → (∀ w,0 ≤ w ∧ w ≤ 65535 → k ≠ kD n.ino w) → g' k = g k) : RG (withM F n') π g' := by
 have hm := node_mem hn
 have hmem : ∀ z,z ∈ withM F n' ↔ z = n' ∨ (z ∈ F ∧ z.ino ≠ n.ino) := fun z => by rw [mem_with b.nod hm.1 hi.symm,hi]
 have hni := b.ino n hm.1
 have hE : ∀ y ∈ F,∀ e ∈ y.ents,g' (kE y.ino e.name) = g (kE y.ino e.name) := fun y hy e hye => by
  have hyb := b.ino y hy
  exact hO _ (kIE (by omega) hni.2 (by omega) hyb.2 (b.name y hy e hye)).symm (fun w hw => kED (by omega) hyb.2 (by omega) hni.2 (b.name y hy e hye) hw)
 refine ⟨fun k hk => ?_,fun z hz => ?_,fun z hz e hez => ?_,fun z hz w hw => ?_⟩
 ·by_cases hq : k = kI n.ino
  ·exact .inl ⟨n',(hmem n').2 (.inl rfl),by rw [hi]; exact hq⟩
  ·by_cases hD : ∃ w,(0 ≤ w ∧ w ≤ 65535) ∧ k = kD n.ino w
   ·obtain ⟨w,hw,hkw⟩ := hD
    rw [hkw,hB w hw] at hk
    exact .inr (.inr ⟨n',(hmem n').2 (.inl rfl),w,hw,by rw [hi]; exact hkw,hk⟩)
   ·have hD2 : ∀ w,0 ≤ w ∧ w ≤ 65535 → k ≠ kD n.ino w := fun w hw e => hD ⟨w,hw,e⟩
    rw [hO k hq hD2] at hk
    rcases h.keys k hk with ⟨m,h3,h4⟩ | ⟨m,h3,e,h4,h5⟩ | ⟨m,h3,w,h4,h5,h6⟩
    ·exact .inl ⟨m,(hmem m).2 (.inr ⟨h3,fun e => hq (by rw [h4,e])⟩),h4⟩
    ·by_cases hmn : m.ino = n.ino
     ·have : m = n := nod_eq b.nod h3 hm.1 hmn
      subst this
      exact .inr (.inl ⟨n',(hmem n').2 (.inl rfl),e,by rw [he]; exact h4,by rw [hi]; exact h5⟩)
     ·exact .inr (.inl ⟨m,(hmem m).2 (.inr ⟨h3,hmn⟩),e,h4,h5⟩)
    ·exact .inr (.inr ⟨m,(hmem m).2 (.inr ⟨h3,fun e => hD2 w h4 (by rw [h5,e])⟩),w,h4,h5,h6⟩)
 ·rcases (hmem z).1 hz with rfl | ⟨hz,hzn⟩
  ·left
   rw [hi]
   exact hI
  ·have hzi := b.ino z hz
   have hq : ∀ j,1 ≤ j → j ≤ 4294967295 → j ≠ n.ino → g' (kI j) = g (kI j) := fun j a c d => hO _ (fun e => d (kI_inj (by omega) c (by omega) hni.2 e)) (fun w hw => kID (by omega) c (by omega) hni.2 hw)
   rcases h.inos z hz with h3 | ⟨h3,h4,h5,h6⟩
   ·left
    rw [hq z.ino hzi.1 hzi.2 hzn]
    exact h3
   ·right
    exact ⟨h3,h4,h5,by rw [hq 1 (by omega) (by omega) (by rw [← h3]; exact hzn)]; exact h6⟩
 ·obtain ⟨y,hy,hyi,hye⟩ : ∃ y ∈ F,y.ino = z.ino ∧ e ∈ y.ents := by
   rcases (hmem z).1 hz with rfl | ⟨hz,_⟩
   ·exact ⟨n,hm.1,hi.symm,by rw [← he]; exact hez⟩
   ·exact ⟨z,hz,rfl,hez⟩
  rw [← hyi,hE y hy e hye]
  exact h.ents y hy e hye
 ·rcases (hmem z).1 hz with rfl | ⟨hz,hzn⟩
  ·rw [hi]
   exact hB w hw
  ·have hzi := b.ino z hz
   rw [hO _ (kID (by omega) hni.2 (by omega) hzi.2 hw).symm (fun v hv e => hzn (kD_inj (by omega) hzi.2 (by omega) hni.2 hw hv e).1)]
   exact h.blks z hz w hw
theorem RG.congr {F' : Fs} (h : RG F π g) (hm : ∀ z,z ∈ F' ↔ z ∈ F) : RG F' π g :=
 ⟨fun k hk => by
   rcases h.keys k hk with ⟨n,h1,h2⟩ | ⟨n,h1,e,h2,h3⟩ | ⟨n,h1,w,h2,h3⟩
   ·exact .inl ⟨n,(hm n).2 h1,h2⟩
   ·exact .inr (.inl ⟨n,(hm n).2 h1,e,h2,h3⟩)
   ·exact .inr (.inr ⟨n,(hm n).2 h1,w,h2,h3⟩),fun n hn => h.inos n ((hm n).1 hn),fun n hn => h.ents n ((hm n).1 hn),fun n hn => h.blks n ((hm n).1 hn)⟩
end
end Go.Proofs.YtfalhnomhidkcaaGreatDoor.DirsX
namespace Go.Proofs.YtfalhnomhidkcaaGreatDoor.DirsY
open Byte PackM KeysM TreeM ViewM ViewKm NamesM WalkM WalkF WalkKm DirsM DirsV DirsW DirsX
open NodeM hiding gk
open FileM
def inoL (π : Int → Int) (n : Nd) : Ino := ⟨n.kind,n.links,n.data.size,if n.kind = 2 then π n.ino else 0⟩
structure Fine (π : Int → Int) (n : Nd) : Prop where
 kl : (n.kind = 1 ∧ 1 ≤ n.links ∧ n.links ≤ 1000) ∨ (n.kind = 2 ∧ 2 ≤ n.links ∧ n.links ≤ 4294967295)
 p0 : 0 ≤ π n.ino
 p1 : π n.ino ≤ 4294967295
 d : n.data.size ≤ 4096 ∧ (n.kind = 2 → n.data = NE)
section
variable {F : Fs} {π : Int → Int} {g : Gf} {L : List Pr}
theorem load_put {k l z p : Int} (hm : may k l z p = true) (k0 : 0 ≤ k) (k1 : k ≤ 255) (l0 : 0 ≤ l) (l1 : l ≤ 4294967295) (s0 : 0 ≤ z) (s1 : z ≤ 4294967295) (p0 : 0 ≤ p) (p1 : p ≤ 4294967295) {i : Int} (h : g (kI i) = some (nput k l z p)) : loadG g i = (⟨k,l,z,p⟩,true) := by
 unfold loadG
 rw [h]
 dsimp only
 rw [gok_put k0 k1 l0 l1 s0 s1 p0 p1,if_pos hm]
 show ((⟨NodeM.gk (nput k l z p),gl (nput k l z p),gs (nput k l z p),gp (nput k l z p)⟩ : Ino),true) = _
 rw [NodeM.gk_put k0 k1,gl_put k0 k1 l0 l1,gs_put k0 k1 s0 s1,gp_put k0 k1 p0 p1]
theorem load_at (h : RG F π g) {n : Nd} (hn : n ∈ F) (hf : Fine π n) (h1 : π 1 = 1) : loadG g n.ino = (inoL π n,true) := by
 have hp0 : 0 ≤ (if n.kind = 2 then π n.ino else 0) ∧ (if n.kind = 2 then π n.ino else 0) ≤ 4294967295 := by
  have := hf.p0; have := hf.p1
  split <;> omega
 have hd := hf.d
 have hm : may n.kind n.links n.data.size (if n.kind = 2 then π n.ino else 0) = true := by
  rcases hf.kl with ⟨h2,h3,h4⟩ | ⟨h2,h3,h4⟩
  ·rw [h2,may_file]
   simp
   omega
  ·have h0 : n.data.size = 0 := by rw [hd.2 h2]; rfl
   rw [h2,may_else (by decide),h0]
   simp
   omega
 rcases h.inos n hn with h3 | ⟨h3,h4,h5,h6⟩
 ·exact load_put hm (by rcases hf.kl with h | h <;> omega) (by rcases hf.kl with h | h <;> omega) (by rcases hf.kl with h | h <;> omega) (by rcases hf.kl with h | h <;> omega) (by omega) (by omega) hp0.1 hp0.2 h3
 ·unfold loadG inoL
  rw [h3,h6,h4,h5,h1,hd.2 h4]
  rfl
theorem g_none (h : RG F π g) (b : Bs F) {i : Int} (h1 : 0 ≤ i) (h2 : i ≤ 4294967295) (hi : nodeM F i = none) : g (kI i) = none := by
 cases hg : g (kI i) with
 | none => rfl
 | some v =>
   exfalso
   rcases h.keys (kI i) (by rw [hg]; simp) with ⟨n,h3,h4⟩ | ⟨n,h3,e,h4,h5⟩ | ⟨n,h3,w,h4,h5⟩
   ·have hb := b.ino n h3
    exact node_none hi n h3 (kI_inj h1 h2 (by omega) hb.2 h4).symm
   ·have hb := b.ino n h3
    exact kIE h1 h2 (by omega) hb.2 (b.name n h3 e h4) h5
   ·have hb := b.ino n h3
    exact kID h1 h2 (by omega) hb.2 h4 h5.1
theorem load_no (h : RG F π g) (b : Bs F) {i : Int} (h1 : 0 ≤ i) (h2 : i ≤ 4294967295) (h3 : i ≠ 1) (hi : nodeM F i = none) : loadG g i = (ino0,false) := by
 unfold loadG
 rw [g_none h b h1 h2 hi]
 exact if_neg h3
theorem g_noent (h : RG F π g) (b : Bs F) {d : Int} {nm : ByteArray} (h1 : 0 ≤ d) (h2 : d ≤ 4294967295) (hnm : goodN nm) (hi : ∀ n ∈ F,n.ino = d → ∀ e ∈ n.ents,e.name ≠ nm) : g (kE d nm) = none := by
 cases hg : g (kE d nm) with
 | none => rfl
 | some v =>
   exfalso
   rcases h.keys (kE d nm) (by rw [hg]; simp) with ⟨n,h3,h4⟩ | ⟨n,h3,e,h4,h5⟩ | ⟨n,h3,w,h4,h5⟩
   ·have hb := b.ino n h3
    exact kIE (by omega) hb.2 h1 h2 hnm h4.symm
   ·have hb := b.ino n h3
    have h6 := kE_inj h1 h2 (by omega) hb.2 hnm (b.name n h3 e h4) h5
    exact hi n h3 h6.1.symm e h4 h6.2.symm
   ·have hb := b.ino n h3
    exact kED h1 h2 (by omega) hb.2 hnm h4 h5.1
theorem child_at (h : RG F π g) (b : Bs F) (hs : ∀ n ∈ F,∀ e ∈ n.ents,1 ≤ e.ino ∧ e.ino ≤ 4294967295) {n : Nd} (hn : n ∈ F) {nm : ByteArray} (hnm : goodN nm) : childG g n.ino nm = (entryM n nm,decide (entryM n nm ≠ 0)) := by
 have hb := b.ino n hn
 unfold childG
 rcases entry_ways n nm with ⟨e,h1,h2,h3⟩ | ⟨h1,h2⟩
 ·have h4 := hs n hn e h1
  rw [← h2,h.ents n hn e h1]
  dsimp only
  rw [if_pos (hangV_size _),hangV_get (by omega) h4.2,entry_some (b.ord n hn) h1,decide_eq_true (by omega)]
 ·rw [g_noent h b (by omega) hb.2 hnm (fun m hm e => by rw [nod_eq b.nod hm hn e]; exact h1),h2]
  rfl
def inoAt (F : Fs) (π : Int → Int) (i : Int) : Ino := match nodeM F i with
 | some n => inoL π n
 | none => ino0
def spotOf (F : Fs) (π : Int → Int) (s : Spt) : Spot := ⟨s.dir,s.name,s.ino,inoAt F π s.ino⟩
theorem inoAt_some {i : Int} {n : Nd} (h : nodeM F i = some n) : inoAt F π i = inoL π n := by unfold inoAt; rw [h]
theorem inoAt_none {i : Int} (h : nodeM F i = none) : inoAt F π i = ino0 := by unfold inoAt; rw [h]
structure Led (F : Fs) (s : Spt) : Prop where
 way : (s.dir = 0 ∧ s.name = NE ∧ s.ino = 1) ∨ (nameOk s.name = true ∧ ∃ d,nodeM F s.dir = some d ∧ d.kind = 2 ∧ entryM d s.name = s.ino)
 at_ : s.ino = 0 ∨ ∃ n,nodeM F s.ino = some n
structure Sim (F : Fs) (π : Int → Int) (g : Gf) : Prop where
 wf : Wf F π
 rg : RG F π g
 pb : ∀ j,0 ≤ π j ∧ π j ≤ 4294967295
 small : ∀ n ∈ F,n.ents.length ≤ 1000
theorem Sim.bs (h : Sim F π g) : Bs F := .of h.wf
theorem Sim.zero (h : Sim F π g) : nodeM F 0 = none := node_no fun x hx e => by have := (h.wf.ino x hx).1; omega
theorem Sim.fine (h : Sim F π g) {n : Nd} (hn : n ∈ F) : Fine π n := by
 refine ⟨?_,(h.pb _).1,(h.pb _).2,h.wf.data n hn⟩
 rcases h.wf.kind n hn with h1 | h1
 ·have h2 := h.wf.dl n hn h1
  have h3 : subs F n.ents ≤ n.ents.length := List.countP_le_length
  have h4 := h.small n hn
  have h5 : zro n.ino = 0 := rfl
  exact .inr ⟨h1,by omega,by omega⟩
 ·exact .inl ⟨h1.1,h.wf.pos n hn h1.1⟩
theorem Sim.load (h : Sim F π g) {i : Int} {n : Nd} (hn : nodeM F i = some n) : loadG g i = (inoL π n,true) := by
 have h1 := node_mem hn
 rw [← h1.2]
 exact load_at h.rg h1.1 (h.fine h1.1) h.wf.par1
theorem Sim.step (h : Sim F π (DirsX.gk L)) {x : Spot} {n : Nd} (hn : nodeM F x.ino = some n) {nm : ByteArray} (hnm : goodN nm) : stepM L x nm = spotOf F π ⟨x.ino,nm,entryM n nm⟩ ∧ (entryM n nm = 0 ∨ ∃ m,nodeM F (entryM n nm) = some m) := by
 have h1 := node_mem hn
 have hc := child_at h.rg h.bs h.wf.some_ h1.1 hnm
 rw [h1.2] at hc
 unfold stepM
 rw [child_g,hc]
 rcases entry_ways n nm with ⟨e,h2,h3,h4⟩ | ⟨h2,h3⟩
 ·have h5 := h.wf.some_ n h1.1 e h2
  obtain ⟨m,hm⟩ := h.wf.goes n h1.1 e h2 (by omega)
  rw [h4]
  refine ⟨?_,.inr ⟨m,hm⟩⟩
  dsimp only
  rw [load_g,h.load hm,if_pos (by simp; omega)]
  unfold spotOf
  rw [inoAt_some hm]
 ·rw [h3]
  refine ⟨?_,.inl rfl⟩
  dsimp only
  rw [if_neg (by simp)]
  unfold spotOf
  rw [inoAt_none h.zero]
theorem Sim.find_l (h : Sim F π (DirsX.gk L)) : ∀ (l : List ByteArray) {s : Spt},(∀ x ∈ l,nameOk x = true) → Led F s → findL L (spotOf F π s) l = (spotOf F π (fndL F s l).1,(fndL F s l).2) ∧ ((fndL F s l).2 = 0 → Led F (fndL F s l).1)
 | [],s,_,hs => ⟨rfl,fun _ => hs⟩
 | nm :: r,s,hl,hs => by
   have hnm := hl nm (by simp)
   unfold findL fndL
   by_cases h0 : s.ino = 0
   ·rw [if_pos (show (spotOf F π s).ino = 0 from h0),if_pos h0]
    refine ⟨?_,fun h => by cases h⟩
    show (spot0,(10 : Int)) = (spotOf F π spt0,10)
    unfold spotOf
    rw [show spt0.ino = 0 from rfl,inoAt_none h.zero]
    rfl
   ·rw [if_neg (show ¬ (spotOf F π s).ino = 0 from h0),if_neg h0]
    obtain ⟨n,hn⟩ := hs.at_.resolve_left h0
    have hk : (spotOf F π s).node.k = n.kind := by show (inoAt F π s.ino).k = _; rw [inoAt_some hn]; rfl
    rw [hn,hk]
    dsimp only
    by_cases hk2 : n.kind = 2
    ·rw [if_neg (fun h => h hk2),if_neg (fun h => h hk2)]
     have h1 := h.step (x := spotOf F π s) (n := n) hn (good_of hnm)
     rw [h1.1]
     exact h.find_l r (fun x hx => hl x (by simp [hx])) ⟨.inr ⟨hnm,n,hn,hk2,rfl⟩,h1.2⟩
    ·rw [if_pos hk2,if_pos hk2]
     refine ⟨?_,fun h => by cases h⟩
     show (spot0,(12 : Int)) = (spotOf F π spt0,12)
     unfold spotOf
     rw [show spt0.ino = 0 from rfl,inoAt_none h.zero]
     rfl
theorem spl_ok (s : ByteArray) : ∀ x ∈ (spl s).1,nameOk x = true := by
 unfold spl
 split
 ·exact fun x hx => by cases hx
 ·split
  ·exact fun x hx => by cases hx
  ·split
   ·exact fun x hx => by cases hx
   ·split
    ·rename_i h
     rw [Bool.and_eq_true,decide_eq_true_eq] at h
     exact fun x hx => List.all_eq_true.1 h.1 x hx
    ·exact fun x hx => by cases hx
theorem Sim.find (h : Sim F π (DirsX.gk L)) (path : ByteArray) : findM L path = (spotOf F π (fndM F path).1,(fndM F path).2) ∧ ((fndM F path).2 = 0 → Led F (fndM F path).1) := by
 unfold findM fndM
 by_cases hs : (spl path).2 ≠ 0
 ·rw [if_pos hs,if_pos hs]
  refine ⟨?_,fun h => absurd h hs⟩
  show (spot0,(spl path).2) = (spotOf F π spt0,(spl path).2)
  unfold spotOf
  rw [show spt0.ino = 0 from rfl,inoAt_none h.zero]
  rfl
 ·rw [if_neg hs,if_neg hs]
  obtain ⟨r,hr,hk⟩ := h.wf.root
  have h1 : (⟨0,⟨#[]⟩,1,(loadM L 1).1⟩ : Spot) = spotOf F π ⟨0,NE,1⟩ := by
   unfold spotOf
   rw [show (⟨0,NE,1⟩ : Spt).ino = 1 from rfl,inoAt_some hr,load_g,h.load hr]
  rw [h1]
  exact h.find_l _ (spl_ok path) ⟨.inl ⟨rfl,rfl,rfl⟩,.inr ⟨r,hr⟩⟩
theorem kE_txt {d : Int} {a : ByteArray} (h : a.size ≤ 32) : txt (kE d a) = kq 69 d ++ txt a := by
 unfold kE
 rw [if_neg (by omega),txt_append,ks_txt (by decide) (by decide)]
end
end Go.Proofs.YtfalhnomhidkcaaGreatDoor.DirsY
namespace Go.Proofs.YtfalhnomhidkcaaGreatDoor.DirsS
open Byte PackM KeysM TreeM ViewM ViewKm NamesM WalkM WalkF WalkKm DirsM DirsV DirsW DirsX
open DirsY
open NodeM hiding gk
def tot (F : Fs) : Nat := S F fun n => n.ents.length
structure Ws (F : Fs) (N M K : Nat) : Prop where
 nod : Nod F
 ino : ∀ n ∈ F,1 ≤ n.ino ∧ n.ino ≤ 4294967295
 kind : ∀ n ∈ F,n.kind = 2 ∨ n.kind = 1
 data : ∀ n ∈ F,n.data = NE
 ord : ∀ n ∈ F,Ord n.ents
 name : ∀ n ∈ F,∀ e ∈ n.ents,nameOk e.name = true
 some_ : ∀ n ∈ F,∀ e ∈ n.ents,1 ≤ e.ino ∧ e.ino ≤ 4294967295
 links : ∀ n ∈ F,-(K : Int) ≤ n.links ∧ n.links ≤ K
 len : F.length ≤ N
 tot_ : tot F ≤ M
section
variable {F : Fs} {N M K : Nat}
theorem Ws.bs (h : Ws F N M K) : Bs F := ⟨h.nod,h.ino,h.ord,fun n hn e he => good_of (h.name n hn e he)⟩
theorem Ws.small (h : Ws F N M K) {n : Nd} (hn : n ∈ F) : n.ents.length ≤ M := by
 have := S_le hn (fun n => n.ents.length)
 have := h.tot_
 unfold tot at this
 omega
theorem Ws.fd (h : Ws F N M K) {n : Nd} (hn : n ∈ F) : n.data.size ≤ 4096 ∧ (n.kind = 2 → n.data = NE) := by
 have e := h.data n hn
 exact ⟨by rw [e]; decide,fun _ => e⟩
theorem Ws.more (h : Ws F N M K) {N' M' K' : Nat} (h1 : N ≤ N') (h2 : M ≤ M') (h3 : K ≤ K') : Ws F N' M' K' :=
 ⟨h.nod,h.ino,h.kind,h.data,h.ord,h.name,h.some_,fun n hn => by have := h.links n hn; omega,Nat.le_trans h.len h1,Nat.le_trans h.tot_ h2⟩
theorem len_with (h : Nod F) {n m : Nd} (hm : m ∈ F) (hi : m.ino = n.ino) : (withM F n).length = F.length := by
 obtain ⟨A,B,h1,h2⟩ := with_at h hm hi
 rw [h2,h1]
 simp
theorem Ws.put (h : Ws F N M K) {n m : Nd} {M' K' : Nat} (hm : m ∈ F) (hi : m.ino = n.ino) (h1 : n.kind = m.kind) (h2 : n.data = m.data) (h3 : Ord n.ents) (h4 : ∀ e ∈ n.ents,nameOk e.name = true ∧ 1 ≤ e.ino ∧ e.ino ≤ 4294967295) (h5 : -(K' : Int) ≤ n.links ∧ n.links ≤ K') (hK : K ≤ K') (h6 : n.ents.length + M ≤ m.ents.length + M') : Ws (withM F n) N M' K' := by
 have hmem := fun z => mem_with (x := z) h.nod hm hi
 refine ⟨nod_with h.nod hm hi,fun z hz => ?_,fun z hz => ?_,fun z hz => ?_,fun z hz => ?_,fun z hz e he => ?_,fun z hz e he => ?_,fun z hz => ?_,?_,?_⟩
 ·rcases (hmem z).1 hz with rfl | hz
  ·rw [← hi]; exact h.ino m hm
  ·exact h.ino z hz.1
 ·rcases (hmem z).1 hz with rfl | hz
  ·rw [h1]; exact h.kind m hm
  ·exact h.kind z hz.1
 ·rcases (hmem z).1 hz with rfl | hz
  ·rw [h2]; exact h.data m hm
  ·exact h.data z hz.1
 ·rcases (hmem z).1 hz with rfl | hz
  ·exact h3
  ·exact h.ord z hz.1
 ·rcases (hmem z).1 hz with rfl | hz
  ·exact (h4 e he).1
  ·exact h.name z hz.1 e he
 ·rcases (hmem z).1 hz with rfl | hz
  ·exact (h4 e he).2
  ·exact h.some_ z hz.1 e he
 ·rcases (hmem z).1 hz with rfl | hz
  ·exact h5
  ·have := h.links z hz.1; omega
 ·rw [len_with h.nod hm hi]; exact h.len
 ·have h7 := S_with h.nod hm hi (fun n => n.ents.length)
  have h8 := h.tot_
  unfold tot at h8 ⊢
  omega
theorem Ws.linked (h : Ws F N M K) {i y : Int} {n : Nd} (hn : nodeM F i = some n) (hy : -1 ≤ y ∧ y ≤ 1) : Ws (linkedM F i y) N M (K + 1) := by
 have hm := node_mem hn
 rw [linked_eq hn]
 have h1 := h.links n hm.1
 refine h.put (n := { n with links := n.links + y }) hm.1 rfl rfl rfl (h.ord n hm.1) (fun e he => ⟨h.name n hm.1 e he,h.some_ n hm.1 e he⟩) ?_ (Nat.le_succ _) (Nat.le_refl _)
 show -((K + 1 : Nat) : Int) ≤ n.links + y ∧ n.links + y ≤ ((K + 1 : Nat) : Int)
 omega
theorem len_ins (nm : ByteArray) (i : Int) {l : List En} (h : Ord l) : (insE nm i (decide (i = 0)) l).length ≤ l.length + (if i = 0 then 0 else 1) := by
 have h1 := count_ins h nm i (fun _ => true)
 simp only [List.countP_true] at h1
 by_cases hi : i = 0
 ·rw [if_neg (fun h => h.1 hi)] at h1
  rw [if_pos hi]
  omega
 ·rw [if_pos ⟨hi,trivial⟩] at h1
  rw [if_neg hi]
  omega
theorem Ws.named (h : Ws F N M K) {d i : Int} {nm : ByteArray} {n : Nd} (hn : nodeM F d = some n) (hi : i ≠ 0 → nameOk nm = true ∧ 1 ≤ i ∧ i ≤ 4294967295) : Ws (namedM F d nm i) N (M + if i = 0 then 0 else 1) K := by
 have hm := node_mem hn
 have ho := h.ord n hm.1
 rw [named_eq hn]
 refine h.put (n := { n with ents := insE nm i (decide (i = 0)) n.ents }) hm.1 rfl rfl rfl (ord_ins ho nm i) (fun e he => ?_) (h.links n hm.1) (Nat.le_refl _) ?_
 ·rcases (mem_ins ho).1 he with ⟨h1,rfl⟩ | ⟨h1,_⟩
  ·exact hi h1
  ·exact ⟨h.name n hm.1 e h1,h.some_ n hm.1 e h1⟩
 ·have := len_ins nm i ho
  show (insE nm i (decide (i = 0)) n.ents).length + M ≤ n.ents.length + _
  omega
theorem new_ino (k i : Int) : (newNd k i).ino = i := by unfold newNd; split <;> rfl
theorem new_ents (k i : Int) : (newNd k i).ents = [] := by unfold newNd; split <;> rfl
theorem new_data (k i : Int) : (newNd k i).data = NE := by unfold newNd; split <;> rfl
theorem Ws.new_ (h : Ws F N M K) {k i : Int} (hi : nodeM F i = none) (h1 : 1 ≤ i) (h2 : i ≤ 4294967295) (hK : 2 ≤ K) : Ws (withM F (newNd k i)) (N + 1) M K := by
 have hne : ∀ x ∈ F,x.ino ≠ (newNd k i).ino := by rw [new_ino]; exact node_none hi
 have hmem := fun z => mem_new (x := z) hne
 have hk : ((newNd k i).kind = 2 ∧ (newNd k i).links = 2) ∨ ((newNd k i).kind = 1 ∧ (newNd k i).links = 1) := by
  unfold newNd
  split
  ·exact .inr ⟨rfl,rfl⟩
  ·exact .inl ⟨rfl,rfl⟩
 have hdata : (newNd k i).data = NE := by unfold newNd; split <;> rfl
 refine ⟨nod_new h.nod hne,fun z hz => ?_,fun z hz => ?_,fun z hz => ?_,fun z hz => ?_,fun z hz e he => ?_,fun z hz e he => ?_,fun z hz => ?_,?_,?_⟩
 ·rcases (hmem z).1 hz with rfl | hz
  ·rw [new_ino]; exact ⟨h1,h2⟩
  ·exact h.ino z hz
 ·rcases (hmem z).1 hz with rfl | hz
  ·rcases hk with h | h
   ·exact .inl h.1
   ·exact .inr h.1
  ·exact h.kind z hz
 ·rcases (hmem z).1 hz with rfl | hz
  ·exact hdata
  ·exact h.data z hz
 ·rcases (hmem z).1 hz with rfl | hz
  ·rw [new_ents]; exact List.Pairwise.nil
  ·exact h.ord z hz
 ·rcases (hmem z).1 hz with rfl | hz
  ·rw [new_ents] at he; cases he
  ·exact h.name z hz e he
 ·rcases (hmem z).1 hz with rfl | hz
  ·rw [new_ents] at he; cases he
  ·exact h.some_ z hz e he
 ·rcases (hmem z).1 hz with rfl | hz
  ·rcases hk with h | h <;> omega
  ·exact h.links z hz
 ·rw [with_new hne,List.length_append]
  have := h.len
  simp
  omega
 ·have h3 := S_new hne (fun n => n.ents.length)
  have h4 := h.tot_
  rw [new_ents] at h3
  simp only [List.length_nil] at h3
  unfold tot at h4 ⊢
  omega
theorem Ws.tight (h : Ws F N M K) {π : Int → Int} (w : Wf F π) (hM : M ≤ 900) : Ws F N M 2000 :=
 ⟨h.nod,h.ino,h.kind,h.data,h.ord,h.name,h.some_,fun n hn => by
   rcases w.kind n hn with h1 | h1
   ·have h2 := w.dl n hn h1
    have h3 : subs F n.ents ≤ n.ents.length := List.countP_le_length
    have h4 := h.small hn
    have h5 : zro n.ino = 0 := rfl
    omega
   ·have := w.pos n hn h1.1
    omega,h.len,h.tot_⟩
end
section
variable {F : Fs} {π : Int → Int} {g : Gf} {L : List Pr}
theorem rg_pi (h : RG F π g) {π' : Int → Int} (hp : ∀ n ∈ F,π' n.ino = π n.ino) : RG F π' g :=
 ⟨h.keys,fun n hn => by
   have e : inoW π' n = inoW π n := by unfold inoW; rw [hp n hn]
   rw [e]
   exact h.inos n hn,h.ents,h.blks⟩
theorem mem_of_node {A B : Fs} (ha : Nod A) (hb : Nod B) (h : ∀ j,nodeM A j = nodeM B j) (z : Nd) : z ∈ A ↔ z ∈ B := by
 constructor
 ·intro hz
  have := node_of ha hz
  rw [h] at this
  exact (node_mem this).1
 ·intro hz
  have := node_of hb hz
  rw [← h] at this
  exact (node_mem this).1
theorem rg_new (h : RG F π (DirsX.gk L)) (b : Bs F) (hr : Rise L) {n : Nd} (hn : nodeM F n.ino = none) (he : n.ents = []) (hd : n.data = NE) (h1 : 1 ≤ n.ino) (h2 : n.ino ≤ 4294967295) {k l z p : Int} (hv : nput k l z p = inoW π n) : RG (withM F n) π (DirsX.gk (doneW L (saveP n.ino k l z p L))) := by
 rw [gk_done hr]
 unfold saveP
 rw [hv]
 exact h.new_ b hn he hd h1 h2
theorem rg_save (h : RG F π (DirsX.gk L)) (b : Bs F) (hr : Rise L) {i y : Int} {n : Nd} (hn : nodeM F i = some n) {k l z p : Int} (hv : nput k l z p = inoW π { n with links := n.links + y }) : RG (linkedM F i y) π (DirsX.gk (doneW L (saveP i k l z p L))) := by
 have hm := node_mem hn
 rw [gk_done hr,linked_eq hn]
 unfold saveP
 rw [hv,← hm.2]
 rw [← hm.2] at hn
 exact h.save_ (n' := { n with links := n.links + y }) b hn rfl rfl rfl (fun j _ => rfl)
theorem rg_tie (h : RG F π (DirsX.gk L)) (b : Bs F) (hr : Rise L) {i y : Int} {n : Nd} (hn : nodeM F i = some n) (hf : Fine π n) (h1 : π 1 = 1) (hl : 0 ≤ n.links + y ∧ n.links + y ≤ 4294967295) : RG (linkedM F i y) π (DirsX.gk (doneW L (tieP i y L))) := by
 have hm := node_mem hn
 have hlo : loadM L i = (inoL π n,true) := by rw [load_g,← hm.2]; exact load_at h hm.1 hf h1
 have e : tieP i y L = saveP i n.kind (n.links + y) n.data.size (if n.kind = 2 then π n.ino else 0) L := by
  unfold tieP saveP
  rw [hlo]
  show (⟨kI i,nput n.kind (u32 (n.links + y)) n.data.size (if n.kind = 2 then π n.ino else 0),false⟩ : Pr) = _
  unfold u32
  rw [Int.emod_eq_of_lt hl.1 (by omega)]
 rw [e]
 exact rg_save h b hr hn rfl
theorem rg_hang (h : RG F π (DirsX.gk L)) (b : Bs F) (hr : Rise L) {d i : Int} {nm : ByteArray} {n : Nd} (hn : nodeM F d = some n) (hnm : goodN nm) (hi : i ≠ 0) : RG (namedM F d nm i) π (DirsX.gk (doneW L (hangP d nm i L))) := by
 rw [gk_done hr]
 exact h.hang_ b hn hnm rfl (by rw [decide_eq_false hi]; rfl) (fun _ => rfl)
theorem rise_out : ∀ (ps : List Wrt) {L : List Pr},Rise L → Rise (outW L ps)
 | [],L,h => h
 | p :: ps,L,h => rise_out ps (rise_done h _)
theorem gone_out : ∀ (ps : List Wrt) {L : List Pr},(∀ p ∈ L,p.gone = false) → ∀ p ∈ outW L ps,p.gone = false
 | [],L,h => h
 | p :: ps,L,h => gone_out ps (gone_done h _)
theorem out_app : ∀ (ps qs : List Wrt) (L : List Pr),outW L (ps ++ qs) = outW (outW L ps) qs
 | [],qs,L => rfl
 | p :: ps,qs,L => out_app ps qs _
end
end Go.Proofs.YtfalhnomhidkcaaGreatDoor.DirsS
namespace Go.Proofs.YtfalhnomhidkcaaGreatDoor.DirsZ
open Byte PackM KeysM TreeM ViewM ViewKm NamesM WalkM WalkF WalkKm DirsM DirsV DirsW DirsX DirsY DirsS
open NodeM hiding gk
structure St (F : Fs) (π : Int → Int) (L : List Pr) (k : Nat) : Prop where
 sim : Sim F π (DirsX.gk L)
 ws : Ws F (k + 1) k 2000
 hk : k ≤ 900
 rise : Rise L
 gone : ∀ p ∈ L,p.gone = false
structure Did (L : List Pr) (V : Int × List Wrt) (M : Int × Fs) (k : Nat) : Prop where
 er : V.1 = M.1
 st : ∃ π',St M.2 π' (outW L V.2) k
 no : V.1 ≠ 0 → V.2 = []
section
variable {F : Fs} {π : Int → Int} {L : List Pr} {k : Nat}
theorem St.of {F : Fs} {π : Int → Int} {L : List Pr} {k N M K : Nat} (wf : Wf F π) (rg : RG F π (DirsX.gk L)) (pb : ∀ j,0 ≤ π j ∧ π j ≤ 4294967295) (ws : Ws F N M K) (h1 : N ≤ k + 1) (h2 : M ≤ k) (hk : k ≤ 900) (hr : Rise L) (hg : ∀ p ∈ L,p.gone = false) : St F π L k := by
 have w := (ws.tight wf (by omega)).more h1 h2 (Nat.le_refl _)
 exact ⟨⟨wf,rg,pb,fun n hn => by have := w.small hn; omega⟩,w,hk,hr,hg⟩
theorem St.more (h : St F π L k) {k' : Nat} (h1 : k ≤ k') (h2 : k' ≤ 900) : St F π L k' := ⟨h.sim,h.ws.more (by omega) h1 (Nat.le_refl _),h2,h.rise,h.gone⟩
theorem Did.err (h : St F π L k) (hk : k + 1 ≤ 900) {e : Int} : Did L (e,[]) (e,F) (k + 1) := ⟨rfl,⟨π,h.more (Nat.le_succ _) hk⟩,fun _ => rfl⟩
def Eqv (A B : Fs) : Prop := ∀ j,nodeM A j = nodeM B j
theorem Eqv.mem {A B : Fs} (h : Eqv A B) (ha : Nod A) (hb : Nod B) (z : Nd) : z ∈ A ↔ z ∈ B := mem_of_node ha hb h z
theorem rg_eqv {A B : Fs} {g : Gf} (h : RG A π g) (e : Eqv A B) (ha : Nod A) (hb : Nod B) : RG B π g := h.congr fun z => (e.mem ha hb z).symm
theorem named_at {A : Fs} (h : Nod A) {d e i : Int} {nm : ByteArray} {n m : Nd} (hd : nodeM A d = some n) (hm : nodeM A e = some m) : ∃ m',nodeM (namedM A d nm i) e = some m' ∧ m'.kind = m.kind ∧ m'.links = m.links ∧ m'.ino = m.ino ∧ (e ≠ d → m' = m) ∧ (e = d → m'.ents = insE nm i (decide (i = 0)) m.ents) := by
 rw [node_named h hd]
 by_cases he : e = d
 ·rw [if_pos he]
  subst he
  rw [hd] at hm
  injection hm with hm
  subst hm
  exact ⟨_,rfl,rfl,rfl,rfl,fun h => absurd rfl h,fun _ => rfl⟩
 ·rw [if_neg he]
  exact ⟨m,hm,rfl,rfl,rfl,fun _ => rfl,fun h => absurd h he⟩
theorem linked_at {A : Fs} (h : Nod A) {d e y : Int} {n m : Nd} (hd : nodeM A d = some n) (hm : nodeM A e = some m) : ∃ m',nodeM (linkedM A d y) e = some m' ∧ m'.kind = m.kind ∧ m'.links = (if e = d then m.links + y else m.links) ∧ m'.ino = m.ino ∧ m'.ents = m.ents := by
 rw [node_linked h hd]
 by_cases he : e = d
 ·rw [if_pos he,if_pos he]
  subst he
  rw [hd] at hm
  injection hm with hm
  subst hm
  exact ⟨_,rfl,rfl,rfl,rfl,rfl⟩
 ·rw [if_neg he,if_neg he]
  exact ⟨m,hm,rfl,rfl,rfl,rfl⟩
theorem eqv_ln {A : Fs} (h : Nod A) {d e i y : Int} {nm : ByteArray} {n m : Nd} (hd : nodeM A d = some n) (he : nodeM A e = some m) : Eqv (linkedM (namedM A d nm i) e y) (namedM (linkedM A e y) d nm i) := fun j => by
 have h1 := nod_named (i := i) (nm := nm) h hd
 have h2 := nod_linked (by_ := y) h he
 by_cases hde : d = e
 ·subst hde
  rw [hd] at he
  injection he with he
  subst he
  have a1 : nodeM (namedM A d nm i) d = some { n with ents := insE nm i (decide (i = 0)) n.ents } := by rw [node_named h hd,if_pos rfl]
  have a2 : nodeM (linkedM A d y) d = some { n with links := n.links + y } := by rw [node_linked h hd,if_pos rfl]
  rw [node_linked h1 a1,node_named h2 a2,node_named h hd,node_linked h hd]
  by_cases hj : j = d
  ·rw [if_pos hj,if_pos hj]
  ·rw [if_neg hj,if_neg hj,if_neg hj,if_neg hj]
 ·have a1 : nodeM (namedM A d nm i) e = some m := by rw [node_named h hd,if_neg (fun x => hde x.symm)]; exact he
  have a2 : nodeM (linkedM A e y) d = some n := by rw [node_linked h he,if_neg hde]; exact hd
  rw [node_linked h1 a1,node_named h2 a2,node_named h hd,node_linked h he]
  by_cases hj : j = d
  ·rw [if_pos hj,if_pos hj,if_neg (fun x => hde (by rw [← hj,x]))]
  ·rw [if_neg hj,if_neg hj]
theorem no_entry (h : St F π L k) {d : Int} {n : Nd} (hn : nodeM F d = some n) {nm : ByteArray} (h0 : entryM n nm = 0) : ∀ e ∈ n.ents,e.name ≠ nm := fun e he en => by
 have h1 := node_mem hn
 have h2 := entry_some (h.ws.ord n h1.1) he
 rw [en,h0] at h2
 have := (h.ws.some_ n h1.1 e he).1
 omega
theorem make_did (h : St F π L k) (hk : k + 1 ≤ 900) (path : ByteArray) {kind ino : Int} (h1 : 2 ≤ ino) (h2 : ino ≤ 4294967295) (hi : nodeM F ino = none) : Did L (makV L path kind ino) (makeM F path kind ino) (k + 1) := by
 obtain ⟨hf,hled⟩ := h.sim.find path
 unfold makV makeM
 rw [hf]
 obtain ⟨⟨s,er⟩,hR⟩ : ∃ R,fndM F path = R := ⟨_,rfl⟩
 rw [hR] at hled ⊢
 dsimp only at hled ⊢
 by_cases he : er ≠ 0
 ·rw [if_pos he,if_pos he]; exact Did.err h hk
 rw [if_neg he,if_neg he]
 have hsi : (spotOf F π s).ino = s.ino := rfl
 have hsd : (spotOf F π s).dir = s.dir := rfl
 have hsn : (spotOf F π s).name = s.name := rfl
 rw [hsi,hsd,hsn]
 by_cases h0 : s.ino ≠ 0
 ·rw [if_pos h0,if_pos h0]; exact Did.err h hk
 rw [if_neg h0,if_neg h0]
 have h00 : s.ino = 0 := by omega
 have led := hled (by omega)
 obtain ⟨hnm,d,hd,hdk,hde⟩ := led.way.resolve_left (fun h => by omega)
 rw [h00] at hde
 have hno := no_entry h hd hde
 have hdm := node_mem hd
 have hdi := h.ws.ino d hdm.1
 rw [hdm.2] at hdi
 have hdne : s.dir ≠ ino := fun e => by rw [e,hi] at hd; cases hd
 have hi' : nodeM F (newNd kind ino).ino = none := by rw [new_ino]; exact hi
 have w1 := h.sim.wf.new_ (k := kind) hi (by omega) h1 h2
 have s1 := h.ws.new_ (k := kind) hi (by omega) h2 (by omega)
 have hN1 := fun j => node_new h.ws.nod hi' j
 have hd1 : nodeM (withM F (newNd kind ino)) s.dir = some d := by rw [hN1,new_ino,if_neg hdne]; exact hd
 have hn1 : nodeM (withM F (newNd kind ino)) ino = some (newNd kind ino) := by rw [hN1,new_ino,if_pos rfl]
 have hino0 : ino ≠ 0 := by omega
 by_cases hk1 : kind = 1
 ·subst hk1
  rw [if_pos rfl]
  have e1 : makeAt F s 1 ino = namedM (withM F (newNd 1 ino)) s.dir s.name ino := rfl
  rw [e1]
  refine ⟨rfl,⟨π,?_⟩,fun h => absurd rfl h⟩
  have w2 := w1.ins hd1 hdk hno hnm (by omega) h2 hn1 (.inl ⟨by show (1 : Int) ≠ 2; decide,rfl⟩)
  have w3 := w2.eq (δ' := zro) (ε' := zro) (fun j => by
   unfold upd zro
   by_cases hj : j = ino
   ·rw [if_pos hj,if_pos rfl]; rfl
   ·rw [if_neg hj,if_neg hj]) (fun j => by
   rw [if_neg (show ¬ (newNd 1 ino).kind = 2 by show ¬ (1 : Int) = 2; decide)]
   unfold upd zro
   split <;> rfl)
  have r1 := rg_new (n := newNd 1 ino) h.sim.rg h.ws.bs h.rise hi' (new_ents _ _) (new_data _ _) (by rw [new_ino]; omega) (by rw [new_ino]; exact h2) (k := 1) (l := 1) (z := 0) (p := 0) rfl
  rw [new_ino] at r1
  have r2 := rg_hang r1 s1.bs (rise_done h.rise _) hd1 (good_of hnm) hino0
  exact St.of w3 r2 h.sim.pb (s1.named (i := ino) hd1 (fun _ => ⟨hnm,by omega,h2⟩)) (by omega) (by rw [if_neg hino0]; omega) hk (rise_out _ h.rise) (gone_out _ h.gone)
 ·rw [if_neg hk1]
  have e1 : makeAt F s kind ino = namedM (linkedM (withM F (newNd kind ino)) s.dir 1) s.dir s.name ino := by
   unfold makeAt newNd
   rw [if_neg hk1,if_neg hk1]
  have e2 : newNd kind ino = ⟨ino,2,2,NE,[]⟩ := if_neg hk1
  rw [e1]
  refine ⟨rfl,⟨upd π ino s.dir,?_⟩,fun h => absurd rfl h⟩
  have hpb : ∀ j,0 ≤ upd π ino s.dir j ∧ upd π ino s.dir j ≤ 4294967295 := fun j => by
   have := h.sim.pb j
   unfold upd
   split <;> omega
  have w2 := w1.link (y := 1) hd1 (fun hq => by omega) (fun hq => by omega)
  rw [if_pos hdk,if_pos hdk] at w2
  have s2 := s1.linked (y := 1) hd1 (by omega)
  obtain ⟨d2,hd2,k2,l2,i2,en2⟩ := linked_at (y := 1) s1.nod hd1 hd1
  obtain ⟨n2,hn2,kn2,_,_,_⟩ := linked_at (y := 1) s1.nod hd1 hn1
  have hnk : n2.kind = 2 := by rw [kn2,e2]
  have hex := h.sim.wf.ex_none hi (by omega)
  have w3 := w2.ins (π' := upd π ino s.dir) hd2 (by rw [k2]; exact hdk) (by rw [en2]; exact hno) hnm (by omega) h2 hn2 (.inr ⟨hnk,by omega,rfl,fun z hz y hy hyi => by
   have hz1 := node_of s2.nod hz
   rw [node_linked s1.nod hd1] at hz1
   by_cases hzd : z.ino = s.dir
   ·rw [if_pos hzd] at hz1
    injection hz1 with hz1
    rw [← hz1] at hy
    exact hex d hdm.1 y hy hyi
   ·rw [if_neg hzd,hN1,new_ino] at hz1
    by_cases hzi : z.ino = ino
    ·rw [if_pos hzi] at hz1
     injection hz1 with hz1
     rw [← hz1,new_ents] at hy
     cases hy
    ·rw [if_neg hzi] at hz1
     exact hex z (node_mem hz1).1 y hy hyi⟩)
  have w4 := w3.eq (δ' := zro) (ε' := zro) (fun j => by
   unfold upd zro
   by_cases hj : j = ino
   ·rw [if_pos hj,if_pos rfl]; rfl
   ·rw [if_neg hj,if_neg hj]) (fun j => by
   rw [if_pos hnk]
   unfold upd zro
   by_cases hj : j = s.dir
   ·rw [if_pos hj,if_pos rfl,if_neg hdne]; rfl
   ·rw [if_neg hj,if_neg hj]; split <;> rfl)
  have r0 : RG F (upd π ino s.dir) (DirsX.gk L) := rg_pi h.sim.rg fun n hn => upd_ne _ _ (node_none hi n hn)
  have r1 := rg_new (n := newNd kind ino) r0 h.ws.bs h.rise hi' (new_ents _ _) (new_data _ _) (by rw [new_ino]; omega) (by rw [new_ino]; exact h2) (k := 2) (l := 2) (z := 0) (p := s.dir) (by
   rw [e2]
   unfold inoW
   dsimp only
   rw [if_pos rfl,upd_same]
   rfl)
  rw [new_ino] at r1
  have hr1 := rise_done h.rise (saveP ino 2 2 0 s.dir L)
  have r2 := rg_hang r1 s1.bs hr1 hd1 (good_of hnm) hino0
  have hr2 := rise_done hr1 (hangP s.dir s.name ino (doneW L (saveP ino 2 2 0 s.dir L)))
  have s3 := s1.named (i := ino) (nm := s.name) hd1 (fun _ => ⟨hnm,by omega,h2⟩)
  obtain ⟨d3,hd3,k3,l3,i3,_,_⟩ := named_at (i := ino) (nm := s.name) s1.nod hd1 hd1
  have hfd := h.sim.fine hdm.1
  have hfk := hfd.kl.resolve_left (fun h => by omega)
  have hdl : d.links ≤ 2000 := (h.ws.links d hdm.1).2
  have r3 := rg_tie (y := 1) r2 s3.bs hr2 hd3 ⟨.inr ⟨by rw [k3]; exact hdk,by rw [l3]; omega,by rw [l3]; omega⟩,(hpb _).1,(hpb _).2,s3.fd (node_mem hd3).1⟩ (by rw [upd_ne _ _ (show (1 : Int) ≠ ino by omega)]; exact h.sim.wf.par1) (by rw [l3]; omega)
  have s4 := s2.named (i := ino) (nm := s.name) hd2 (fun _ => ⟨hnm,by omega,h2⟩)
  have r4 := rg_eqv r3 (eqv_ln s1.nod hd1 hd1) (s3.linked hd3 (by omega)).nod s4.nod
  exact St.of w4 r4 hpb s4 (by omega) (by rw [if_neg hino0]; omega) hk (rise_out _ h.rise) (gone_out _ h.gone)
end
end Go.Proofs.YtfalhnomhidkcaaGreatDoor.DirsZ
namespace Go.Proofs.YtfalhnomhidkcaaGreatDoor.DirsLb
open Go.RowKit
open Byte KeysM TreeM ViewM NamesM Lst Tx WalkM WalkF WalkKm DirsM DirsV DirsR DirsRd DirsRe DirsW DirsY DirsS DirsZ
open DirsX hiding gk
open ViewR (Sh)
section
variable {F : Fs} {π : Int → Int} {L : List Pr} {k N M K : Nat}
theorem smf (h : Ws F N M K) (h1 : N ≤ 1000) (h2 : M ≤ 1000) (h3 : K ≤ 1000000) : SmF F := by
 refine ⟨Nat.le_trans h.len h1,fun n hn => ?_⟩
 have hi := h.ino n hn
 have hk := h.kind n hn
 have hl := h.links n hn
 have hs := h.small hn
 refine ⟨by omega,hi.2,by omega,by omega,by omega,by omega,?_,by omega,fun e he => ?_⟩
 ·rw [h.data n hn]; decide
 ·have := (name_pos (h.name n hn e he)).2
  have := h.some_ n hn e he
  exact ⟨by omega,by omega,by omega⟩
theorem St.smf (h : St F π L k) : SmF F := DirsLb.smf h.ws (by have := h.hk; omega) (by have := h.hk; omega) (by omega)
theorem St.cl (h : St F π L k) : Cl F := by
 obtain ⟨r,hr,_⟩ := h.sim.wf.root
 exact ⟨⟨r,hr⟩,fun n hn e he => h.sim.wf.goes n hn e he (by have := (h.ws.some_ n hn e he).1; omega)⟩
theorem led_of (h : St F π L k) (path : ByteArray) (h0 : (fndM F path).2 = 0) : Led F (fndM F path).1 := (h.sim.find path).2 h0
theorem ref_make (h : St F π L k) (path : ByteArray) {kind ino : Int} (hp : path.size ≤ 100000) (h1 : 2 ≤ ino) (h2 : ino ≤ 4294967295) (hi : nodeM F ino = none) {hh : Sh} : ∀ T u,FsA T u hh F → (∀ b,u.heap.size ≤ b → T b) → Calls Tryz.prog 44 #[.agg #[.slice hh.a hh.n hh.c],.string path,.int .u8 kind,.int .u32 ino] u (AnsE T (makeM F path kind ino) u) := fun T u hf hT =>
 make_calls hh F path kind ino u hf (St.smf h) (St.cl h) (by unfold maxLen; omega) (fun h0 h00 => by
  have hk := h.hk
  obtain ⟨_,d,hd,_,_⟩ := (led_of h path h0).way.resolve_left (fun q => by rw [h00] at q; have := q.2.2; omega)
  have hdne : (fndM F path).1.dir ≠ ino := fun e => by rw [e,hi] at hd; cases hd
  have hi' : nodeM F (newNd kind ino).ino = none := by rw [new_ino]; exact hi
  have s1 := h.ws.new_ (k := kind) hi (by omega) h2 (by omega)
  have hd1 : nodeM (withM F (newNd kind ino)) (fndM F path).1.dir = some d := by rw [node_new h.ws.nod hi',new_ino,if_neg hdne]; exact hd
  refine ⟨smf s1 (by omega) (by omega) (by omega),⟨d,hd1⟩,?_,?_⟩
  ·split
   ·exact smf s1 (by omega) (by omega) (by omega)
   ·exact smf (s1.linked (y := 1) hd1 (by omega)) (by omega) (by omega) (by omega)
  ·split
   ·exact ⟨d,hd1⟩
   ·obtain ⟨d2,hd2,_⟩ := linked_at (y := 1) s1.nod hd1 hd1
    exact ⟨d2,hd2⟩) hT
end
end Go.Proofs.YtfalhnomhidkcaaGreatDoor.DirsLb
namespace Go.Proofs.YtfalhnomhidkcaaGreatDoor.DirsLd
open Go.RowKit
open Byte KeysM TreeM TreeR ViewM ViewKm NamesM Lst Tx WalkM WalkF WalkKm Chg TreeL TreeG TreeH ViewL WalkL WalkV Vat DirsK
open Own hiding keeps
open ViewR (Sh NewA)
variable {Rep : RepT}
theorem take_nx {α : Type} {L : List α} {k : Nat} {x : α} (h : L[k]? = some x) : L.take (k + 1) = L.take k ++ [x] := by
 obtain ⟨hk,he⟩ := List.getElem?_eq_some_iff.1 h
 rw [List.take_succ_eq_append_getElem hk,he]
theorem info_pr : (Tryz.prog.info? 46).map (·.size) = some 3 := by kernel_rfl
theorem key_in {p : Pr} (h : (sp p.key).letter ≠ 0) : kl p.key ⟨#[]⟩ = false ∧ kl p.key ⟨#[255]⟩ = true := by
 have hx : ∀ c : Int,(txt p.key).getD 0 0 = c → c < 255 → 0 < p.key.size → kl p.key ⟨#[]⟩ = false ∧ kl p.key ⟨#[255]⟩ = true := fun c hc hlt hs => by
  have hl := txt_len p.key
  rw [kl_lt,kl_lt]
  cases ht : txt p.key with
  | nil => rw [ht] at hl; simp at hl; omega
  | cons a r =>
    rw [ht] at hc
    have ha : a = c := by simpa using hc
    refine ⟨KeysV.lt_nil _,?_⟩
    rw [show txt (⟨#[255]⟩ : ByteArray) = [255] by decide]
    unfold lt
    rw [decide_eq_true (show a < 255 by omega)]
    simp
 rcases sp_ways p.key with q | q | q | q
 ·rw [q] at h; exact absurd rfl h
 ·exact hx 73 q.1 (by decide) (by omega)
 ·exact hx 69 q.1 (by decide) (by omega)
 ·exact hx 68 q.1 (by decide) (by omega)
theorem range_all {L : List Pr} (h : ∀ p ∈ L,(sp p.key).letter ≠ 0) : rangeL ⟨#[]⟩ ⟨#[255]⟩ L = L := by
 unfold rangeL
 refine List.filter_eq_self.2 fun p hp => ?_
 have := key_in (h p hp)
 rw [this.1,this.2]
 rfl
theorem put_next {L : List Pr} (hr : Rise L) (hg : ∀ p ∈ L,p.gone = false) {k : Nat} {p : Pr} (h : L[k]? = some p) : putL p.key p.value (L.take k) = L.take (k + 1) := by
 rw [take_nx h,put_putP]
 have e : (⟨p.key,p.value,false⟩ : Pr) = p := by rw [← hg p (List.mem_of_getElem? h)]
 rw [e]
 refine put_end fun q hq => ?_
 obtain ⟨hk,he⟩ := List.getElem?_eq_some_iff.1 h
 obtain ⟨i,hi,hqe⟩ := List.getElem_of_mem hq
 rw [List.length_take] at hi
 rw [List.getElem_take] at hqe
 unfold Rise at hr
 have := (List.pairwise_iff_getElem.1 hr) i k (by omega) hk (by omega)
 rw [hqe,he] at this
 exact this
end Go.Proofs.YtfalhnomhidkcaaGreatDoor.DirsLd
namespace Go.Proofs.YtfalhnomhidkcaaGreatDoor.DirsLe
open Go.RowKit
open Byte KeysM TreeM ViewM NamesM NamesL Lst WalkM WalkF WalkKm Chg TreeL ViewL WalkL WalkV Vat DirsV DirsK DirsKa DirsKc
open Own hiding keeps
variable {Rep : RepT}
def pd : ByteArray := ⟨#[47,100]⟩
def s0 : Vs := ⟨[],[],[],[]⟩
theorem step_ {v : Value} {s t : Vs} {er : Int} {ps : List Wrt} {k m : Nat} {S D : Nat → Prop} {w : World} {e : Ending} {w' : World} (h : Ans Rep v s er ps k m S D w e w') (hs : Sm s t) (hg : (goW t ps).2 = true) :
 ∃ s' S' D',e = .returned (.int .i64 er) ∧ Rep w' v s' S' D' ∧ Stp S D S' D' w w' ∧ Sm s' (goW t ps).1 ∧ s'.rd.length ≤ s.rd.length + k ∧ s'.rg.length ≤ s.rg.length + m := by
 obtain ⟨s',S',D',he,hr,st,ha⟩ := h
 have h1 := goW_sm ps hs
 rw [h1.2,if_pos hg] at he
 exact ⟨s',S',D',he,hr,st,ha.sm.trans h1.1,ha.rd,ha.rg⟩
theorem lim_sm {s : Vs} (h1 : s.base = []) (h2 : s.rd.length ≤ 500) (h3 : s.rg.length ≤ 50) : Lim s := ⟨by rw [h1]; exact Nat.zero_le _,by omega,by omega⟩
end Go.Proofs.YtfalhnomhidkcaaGreatDoor.DirsLe
namespace Go.Proofs.YtfalhnomhidkcaaGreatDoor.DirsLf
open Go.RowKit
open Byte KeysM TreeM ViewM NamesM NamesL Lst Ho WalkM WalkF Chg TreeL ViewL WalkV Vat DirsM DirsV DirsR DirsW DirsY DirsS DirsZ DirsK DirsKc DirsLd
open DirsX hiding gk
open WalkL
open Own hiding keeps
open ViewR (Sh)
variable {Rep : RepT}
def F0 : Fs := [⟨1,2,2,NE,[]⟩]
theorem node0 (j : Int) : nodeM F0 j = if j = 1 then some ⟨1,2,2,NE,[]⟩ else none := by
 unfold nodeM F0
 by_cases h : j = 1
 ·rw [if_pos h,List.find?_cons,decide_eq_true (by show (1 : Int) = j; omega)]
 ·rw [if_neg h,List.find?_cons,decide_eq_false (by show ¬ (1 : Int) = j; omega)]
  rfl
theorem mem0 {n : Nd} (h : n ∈ F0) : n = ⟨1,2,2,NE,[]⟩ := List.mem_singleton.1 h
theorem st0 : St F0 (fun _ => 1) [] 0 := by
 have no : ∀ n ∈ F0,∀ e ∈ n.ents,False := fun n hn e he => by rw [mem0 hn] at he; cases he
 have n1 : nodeM F0 1 = some ⟨1,2,2,NE,[]⟩ := by rw [node0,if_pos rfl]
 have wf : Wf F0 (fun _ => 1) :=
  { nod := List.pairwise_singleton _ _
    root := ⟨_,n1,rfl⟩
    ino := fun n hn => by rw [mem0 hn]; exact ⟨by show (1 : Int) ≤ 1; omega,by show (1 : Int) ≤ 4294967295; omega⟩
    kind := fun n hn => by rw [mem0 hn]; exact .inl rfl
    data := fun n hn => by rw [mem0 hn]; exact ⟨by decide,fun _ => rfl⟩
    ord := fun n hn => by rw [mem0 hn]; exact List.Pairwise.nil
    name := fun n hn e he => (no n hn e he).elim
    some_ := fun n hn e he => (no n hn e he).elim
    goes := fun n hn e he => (no n hn e he).elim
    par := fun n hn e he => (no n hn e he).elim
    par1 := rfl
    cnt := fun n hn => by rw [mem0 hn]; rfl
    pos := fun n hn hk => by rw [mem0 hn] at hk; cases hk
    dl := fun n hn hk => by rw [mem0 hn]; rfl }
 have ws : Ws F0 1 0 2 :=
  { nod := wf.nod
    ino := wf.ino
    kind := fun n hn => by rw [mem0 hn]; exact .inl rfl
    data := fun n hn => by rw [mem0 hn]
    ord := wf.ord
    name := wf.name
    some_ := wf.some_
    links := fun n hn => by rw [mem0 hn]; exact ⟨by show -((2 : Nat) : Int) ≤ 2; omega,by show (2 : Int) ≤ ((2 : Nat) : Int); omega⟩
    len := Nat.le_refl 1
    tot_ := Nat.le_refl 0 }
 have rg : RG F0 (fun _ => 1) (DirsX.gk []) := ⟨fun k hk => absurd rfl hk,fun n hn => .inr (by rw [mem0 hn]; exact ⟨rfl,rfl,rfl,rfl⟩),fun n hn e he => (no n hn e he).elim,fun n hn w hw => by rw [mem0 hn,show (⟨1,2,2,NE,[]⟩ : Nd).data = NE from rfl,FileM.blkG_nil]; rfl⟩
 exact St.of wf rg (fun _ => ⟨by show (0 : Int) ≤ 1; omega,by show (1 : Int) ≤ 4294967295; omega⟩) ws (by omega) (by omega) (by omega) List.Pairwise.nil (fun p hp => by cases hp)
section
variable {Q : Nat → Prop} {w2 w w' : World} {S2 D2 S D S' D' : Nat → Prop} {g : Nat} {v v' : Value} {s s' : Vs} {h h' : Sh} {F F' : Fs} {k : Nat}
theorem at_new (p : At Rep w2 S2 D2 (fun b => b = g) w v s S D) (hr : Rep w' v' s' S' D') (st : Stp S D S' D' w w') : At Rep w2 S2 D2 (fun b => b = g) w' v' s' S' D' := by
 refine ⟨hr,⟨p.st.chg.then_ st.chg (fun i hi hm => ?_),kept_trans p.st.kept st.kept,p.st.own.trans st.own p.st.chg.size,p.st.dep.trans st.dep p.st.chg.size⟩,fun b hb => ?_⟩
 ·rcases p.st.own i hm with h | h
  ·exact h
  ·omega
 ·have h1 := p.mine b hb
  refine ⟨h1.1,Nat.lt_of_lt_of_le h1.2.1 st.chg.size,fun hd => ?_⟩
  rcases st.dep b hd with h | h
  ·exact h1.2.2 h
  ·omega
end
end Go.Proofs.YtfalhnomhidkcaaGreatDoor.DirsLf
namespace Go.Proofs.YtfalhnomhidkcaaGreatDoor.NamesW
open Go.RowKit
open Byte Lst Tx NamesL NamesK
theorem mx_of {w : World} (h : w.ShapedOpen Tryz.prog) : Mx w := NamesY.splitLay.s1_3 w h
end Go.Proofs.YtfalhnomhidkcaaGreatDoor.NamesW
namespace Go.Proofs.YtfalhnomhidkcaaGreatDoor.DirsLx
open Go.RowKit Go.ChangeShapes Go.WideShapes Go.Deep Go.Maps
open Lst WalkV WalkD WalkE DirsLd DirsLf
theorem newb : NewB WalkK.VRep := new_b ViewK.new_ok
end Go.Proofs.YtfalhnomhidkcaaGreatDoor.DirsLx
namespace Go.Proofs.YtfalhnomhidkcaaGreatDoor.DirsP
open Go.RowKit
open Byte KeysM TreeM ViewM NamesM NamesL Lst Ho WalkM WalkF Chg TreeL ViewL WalkV Vat DirsM DirsV DirsR DirsW DirsY DirsS DirsZ DirsK DirsKc DirsLd DirsLf
open DirsX hiding gk
open WalkL
open Own hiding keeps
open ViewR (Sh)
open TreeR (prE GotV)
variable {Rep : RepT}
def CopyN (Rep : RepT) : Prop := ∀ ⦃w v s S D⦄,Rep w v s S D → Lim s → Calls Tryz.prog 19 #[v] w fun e w' => ∃ v' S' D',e = .returned v' ∧ Rep w' v' s S' D' ∧ (∀ b,D' b → w.heap.size ≤ b) ∧ Below w.heap.size w w'
end Go.Proofs.YtfalhnomhidkcaaGreatDoor.DirsP
namespace Go.Proofs.YtfalhnomhidkcaaGreatDoor.DirsPx
open Go.RowKit
open Lst TreeM ViewM ViewL WalkV DirsLd DirsP DirsLx ViewKs ViewKw
theorem copy_v : CopyN ViewK.VRep := by
 rintro w v s S D ⟨g,b,sh,wt,rd,rg,rfl,hv,h1,h2,rfl,rfl⟩ hl
 obtain ⟨l1,l2,l3,l4,l5,l6⟩ := ViewK.lens hl h1
 refine (copy_calls hv l6).mono ?_
 rintro e w' ⟨c,rg',rfl,hc,hn,hv',hb⟩
 refine ⟨_,_,_,rfl,⟨c,b,sh,wt,rd,rg',rfl,hv',h1,h2,rfl,rfl⟩,fun q hq => ?_,hb⟩
 rcases hq with rfl | hq
 ·exact hc
 ·exact hn q hq
theorem copy_n : CopyN WalkK.VRep := fun _ _ _ _ _ r hl => (copy_v r.1 hl).mono fun _ _ ⟨v',S',D',e,hr,h1,h2⟩ => ⟨v',S',D',e,⟨hr,r.2⟩,h1,h2⟩
theorem look_n : LookOk WalkK.VRep := look_b ViewK.look_ok
end Go.Proofs.YtfalhnomhidkcaaGreatDoor.DirsPx
namespace Go.Proofs.YtfalhnomhidkcaaGreatDoor.FileV
open Byte PackM KeysM TreeM ViewM ViewKm NodeM WalkM WalkF WalkKm DirsV FileM
def filV (L : List Pr) (ino : Int) : Ino × Int := if (loadM L ino).2 = true ∧ (loadM L ino).1.k = 1 then ((loadM L ino).1,0) else (ino0,16)
def putP (ino which : Int) (b : List Int) : Wrt := fun _ => ⟨kD ino which,str (cut0 b),decide (cut0 b = [])⟩
def getB (L : List Pr) (ino which : Int) : List Int := pad 64 (valL ((getL (kD ino which) L).map (·.value)))
theorem getB_len (L : List Pr) (ino which : Int) : (getB L ino which).length = 64 := pad_len _ _
def valB (L : List Pr) (ino which : Int) : List Int := valL ((getL (kD ino which) L).map (·.value))
def shoPs (L : List Pr) (ino size : Int) : List Wrt := if (valB L ino (size / 64)).length ≤ (size % 64).toNat then [] else [putP ino (size / 64) ((valB L ino (size / 64)).take (size % 64).toNat)]
def setB (l xs : List Int) (f : Nat) : List Int := l.take f ++ (xs ++ l.drop (f + xs.length))
theorem setB_len (l xs : List Int) (f : Nat) (h : f + xs.length ≤ l.length) : (setB l xs f).length = l.length := by
 unfold setB
 rw [List.length_append,List.length_append,List.length_take,List.length_drop]
 omega
def wrP (ino : Int) (p : Int × Int × Int) (xs : List Int) : Wrt := fun L => putP ino p.1 (setB (getB L ino p.1) xs p.2.1.toNat) L
def wrPs (ino : Int) : List Int → List (Int × Int × Int) → List Wrt
 | _,[] => []
 | xs,p :: P => wrP ino p (xs.take p.2.2.toNat) :: wrPs ino (xs.drop p.2.2.toNat) P
def blkF (ino from_ : Int) (p : Pr) : Bool := decide ((sp p.key).letter = 68) && decide ((sp p.key).ino = ino) && decide (from_ ≤ (sp p.key).n)
def delP (k : ByteArray) : Wrt := fun _ => ⟨k,⟨#[]⟩,true⟩
def drpPs (L : List Pr) (ino from_ : Int) : List Wrt := (L.filter (blkF ino from_)).map fun p => delP p.key
def pcB (L : List Pr) (ino : Int) (p : Int × Int × Int) : List Int := ((getB L ino p.1).drop p.2.1.toNat).take p.2.2.toNat
def rdL (L : List Pr) (ino : Int) (P : List (Int × Int × Int)) : List Int := P.flatMap (pcB L ino)
def cutV (a n : Int) : List (Int × Int × Int) := if a < 0 ∨ n ≤ 0 ∨ 4096 < a ∨ 4096 - a < n then [] else cuts n.toNat a n
def blkN (size : Int) : Int := if size ≤ 0 then 0 else (size - 1) / 64 + 1
def reaV (L : List Pr) (ino a n : Int) : List Int × Int := if (filV L ino).2 ≠ 0 then ([],(filV L ino).2) else if a < 0 ∨ n < 0 ∨ 1024 < n then ([],15) else (rdL L ino (cutV a (min n ((filV L ino).1.s - a))),0)
def allV (L : List Pr) (ino : Int) : List Int × Int := if (filV L ino).2 ≠ 0 then ([],(filV L ino).2) else (rdL L ino (cutV 0 (filV L ino).1.s),0)
def wriV (L : List Pr) (ino a : Int) (b : List Int) : Int × List Wrt := if (filV L ino).2 ≠ 0 then ((filV L ino).2,[]) else if a < 0 ∨ 1024 < b.length then (15,[]) else if 4096 - (b.length : Int) < a then (19,[]) else if b.length = 0 then (0,[]) else (0,wrPs ino b (cutV a b.length) ++ [saveP ino (filV L ino).1.k (filV L ino).1.l (max (filV L ino).1.s (a + b.length)) (filV L ino).1.p])
def truV (L : List Pr) (ino z : Int) : Int × List Wrt := if (filV L ino).2 ≠ 0 then ((filV L ino).2,[]) else if z < 0 then (15,[]) else if 4096 < z then (19,[]) else (0,drpPs L ino (blkN z) ++ (shoPs (outV L (drpPs L ino (blkN z))) ino z ++ [saveP ino (filV L ino).1.k (filV L ino).1.l z (filV L ino).1.p]))
where
 outV (L : List Pr) : List Wrt → List Pr
 | [] => L
 | p :: ps => outV (doneW L (p L)) ps
end Go.Proofs.YtfalhnomhidkcaaGreatDoor.FileV