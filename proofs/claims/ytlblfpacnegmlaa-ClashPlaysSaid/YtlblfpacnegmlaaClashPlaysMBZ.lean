import Derived.StillTailTactics
import Derived.Deep.AppendLies
import Derived.Deep.RegionLaw
import Derived.Test.YtlblfpacnegmlaaSq
import Derived.Test.YtlblfpacnegmlaaClashPlaysMBY
import Derived.Deep.MidRow
import Derived.WalkSpells
import Derived.Test.YtlblfpacnegmlaaViewD
import Derived.Test.YtlblfpacnegmlaaClashS
import Derived.Test.YtlblfpacnegmlaaClashPlaysMBV
set_option maxHeartbeats 16000000
set_option linter.unusedVariables false
set_option linter.unusedSimpArgs false
set_option maxRecDepth 100000
namespace Go.Proofs.Ytlblfpacnegmlaa.ViewKw
open Go.RowKit
open Byte KeysM TreeM ViewM ViewKm ViewKn ViewKr ViewKs Own Lst Chg TreeR TreeL TreeG TreeH Ho ViewR
variable {w : World} {g : Nat} {b sh wt rd rg : Value} {B S W R : List Pr} {G : List (ByteArray × ByteArray)}
theorem new_view (w : World) (b : Value) (h : TN w b B) : VC (w.alloc (.cells #[b,b,.pointer none,.pointer none,.slice none 0 0] 69)) w.heap.size b b (.pointer none) (.pointer none) (.slice none 0 0) B B [] [] [] := by
 have hb := bN_ w (.cells #[b,b,.pointer none,.pointer none,.slice none 0 0] 69)
 exact ⟨Blk.new_ _ _ _,h.below hb,h.below hb,.inl ⟨rfl,rfl⟩,.inl ⟨rfl,rfl⟩,So.nil_ _ _ _ _⟩
theorem new_calls (b : Value) (w : World) (h : TN w b B) : Calls Try.prog 22 #[b] w fun e w' => e = .returned (.pointer (some ⟨w.heap.size,0,none⟩)) ∧ VC w' w.heap.size b b (.pointer none) (.pointer none) (.slice none 0 0) B B [] [] [] ∧ Below w.heap.size w w' := by
 obtain ⟨A,rfl⟩ := h.form
 have HV := hQ_ (new_view w _ h)
 have hb := bN_ w (.cells #[.pointer A,.pointer A,.pointer none,.pointer none,.slice none 0 0] 69)
 have HB := hQ_ hb
 clear h hb
 go_enter Try.func22,Try.ntmps22
 go_wp2_with fail
 go_ret
 exact ⟨rfl,HV.out,HB.out⟩
def RgTo (w : World) (rg rg' : Value) : Prop := rg'.ownBlock = rg.ownBlock ∨ ∃ k,rg'.ownBlock = some k ∧ w.heap.size ≤ k
def RangeR (g : Nat) (b sh wt rd rg : Value) (B S W R : List Pr) (G : List (ByteArray × ByteArray)) (L : List Pr) (w : World) (e : Ending) (w' : World) : Prop := ∃ v rg',e = .returned v ∧ So prE 49 w' w.heap.size v L.length L ∧ VC w' g b sh wt rd rg' B S W R G ∧ Did g rg w w' ∧ RgTo w rg rg'
theorem range_none (x y : ByteArray) (h : VC w g b sh wt rd rg B S W R G) (hk : kl x y = false) :
 Calls Try.prog 25 #[.pointer (some ⟨g,0,none⟩),.string x,.string y] w (RangeR g b sh wt rd rg B S W R G [] w) := by
 have f1 : Op.bytesLess x.toList y.toList = false := hk
 have HV := hQ_ h
 clear h hk
 go_enter Try.func25,Try.ntmps25
 go_wp2_with fail
 go_ret
 exact ⟨_,rg,rfl,So.nil_ _ _ _ _,HV.out,Did.refl _ _ _,.inl rfl⟩
theorem range_old (x y : ByteArray) (h : VC w g b sh wt rd rg B S W R G) (hs : S.length ≤ 50000) (hg : G.length ≤ 50000) (hk : kl x y = true) (hR : hasR x y G = true) :
 Calls Try.prog 25 #[.pointer (some ⟨g,0,none⟩),.string x,.string y] w (RangeR g b sh wt rd rg B S W R G (rangeL x y S) w) := by
 have f1 : Op.bytesLess x.toList y.toList = true := hk
 have HV := hQ_ h
 have HRR := hQ_ hR
 have hb1 := bN_ w (.cells #[.string x,.string y] 47)
 have HB1 := hQ_ hb1
 obtain ⟨W1,hW1⟩ : ∃ W1,w.alloc (.cells #[.string x,.string y] 47) = W1 := ⟨_,rfl⟩
 have HBX := Blk.new_ w #[.string x,.string y] 47
 rw [hW1] at HB1 HBX
 have HV1 := hQ_ (HV.out.below HB1.out)
 obtain ⟨k0,k1,k2,k3,k4,_⟩ := HV1.out.cells
 obtain ⟨x0,x1⟩ := cC2 HBX
 have E1 := hQ_ hW1
 clear h hk hR hb1 hW1 HBX
 obtain ⟨A,c,e,_,_,h0⟩ := Tx.So.head HV.out.rgs
 subst e
 go_enter Try.func25,Try.ntmps25
 go_upto_region 4 with (fail)
 change Code.wp _ _ _ _ (w.alloc (.cells #[.string x,.string y] 47))
 rw [E1.out]
 have HCT := hQ_ (contains_calls A G.length c G x y W1.drew (So.sl (So.below HV1.out.rgs ((Below.refl _ _).drew))) (by omega))
 rw [HRR.out] at HCT
 have y4 : W1.drew.cell? ⟨g,4,none⟩ = some (.slice A G.length c) := k4
 have y0 : W1.drew.cell? ⟨w.heap.size,0,none⟩ = some (.string x) := x0
 have y1 : W1.drew.cell? ⟨w.heap.size,1,none⟩ = some (.string y) := x1
 go_still_tail 5,(by kernel_rfl)
 change wpList _ _ _ _ _ W1.drew
 go_wp2_with (first
  | (go_at_call 41; refine HCT.out.mono ?_; rintro e w2 ⟨rfl,hb2⟩; have HB2 := hQ_ hb2; have HV2 := hQ_ ((HV1.out.below ((Below.refl _ _).drew)).below hb2); obtain ⟨m0,m1,m2,m3,m4,_⟩ := HV2.out.cells; have HTR := hQ_ (tnrange x y HV2.out.shown hs); clear hb2)
  | (go_at_call 42; refine HTR.out.mono ?_; rintro e w3 ⟨v,rfl,ho,hb3⟩; have HO := hQ_ ho; have HB3 := hQ_ hb3; clear ho hb3))
 go_ret
 have hd : Did g (.slice A G.length c) w w2 := ((((Did.refl g _ w).below HB1.out).below ((Below.refl _ _).drew)).below HB2.out)
 have hz : w.heap.size ≤ w2.heap.size := hd.chg.size
 exact ⟨_,_,rfl,So.lower HO.out hz,HV2.out.below HB3.out,hd.below HB3.out,.inl rfl⟩
theorem VC.app {x y : ByteArray} {w3 : World} {o : Obj} {rg' : Value} (h : VC w g b sh wt rd rg B S W R G) (hg' : (w.alloc o).drew.grownBy w3 rg.ownBlock) (ho : So rgE 47 w3 0 rg' (G.length + 1) (G ++ [(x,y)])) : Blk w3 g #[b,sh,wt,rd,rg] 69 ∧ VC (w3.setCell ⟨g,4,none⟩ rg') g b sh wt rd rg' B S W R (G ++ [(x,y)]) ∧ Did g rg w (w3.setCell ⟨g,4,none⟩ rg') := by
 have hg : (w.alloc o).grownBy w3 rg.ownBlock := ⟨hg'.os,hg'.tape,hg'.output,hg'.size,hg'.block⟩
 have hb : Below w.heap.size w (w.alloc o) := bW_
 have h1 := h.below hb
 have k1 : Kept (w.alloc o) w3 := Kept.of_grown h1.rgs hg (by decide)
 have hblk : Blk w3 g #[b,sh,wt,rd,rg] 69 := h1.rgs.stays hg h1.blk (by decide)
 have k2 : Kept w3 (w3.setCell ⟨g,4,none⟩ rg') := ViewD.kept_set hblk (by decide) 4 rg'
 have k := ViewD.Kept.trans k1 k2
 have ap := So.apart ho hblk (by decide)
 have ho' : So rgE 47 (w3.setCell ⟨g,4,none⟩ rg') 0 rg' (G.length + 1) (G ++ [(x,y)]) := So.chg (S := fun q => q = g) ho ((Chg.refl (fun q => q = g) w3).own 4 rg') (fun q hq e => ap q hq e)
 exact ⟨hblk,⟨hblk.set_ 4 rg',h1.base.keep k,h1.shown.keep k,h1.wr.keep k,h1.read.keep k,by rw [List.length_append]; exact ho'⟩,⟨((Chg.of_below hb).trans (Chg.of_grown (S := own g rg) hg (fun k hk => .inl (.inr hk)))).setCell (.inl (.inl rfl)) _,ViewD.Kept.trans (Kept.of_below hb) k⟩⟩
theorem rg_next {w3 : World} {x y : ByteArray} {gg cap n : Nat} (hn : G.length = n) (h : w3.ownsRow 0 47 2 (.slice (some ⟨gg,0,none⟩) (n + 1) cap) (n + 1) (flat rgE G ++ [.string x,.string y])) : So rgE 47 w3 0 (.slice (some ⟨gg,0,none⟩) (n + 1) cap) (G.length + 1) (G ++ [(x,y)]) := by
 subst hn
 refine ⟨by simp,?_⟩
 rw [flat_append]
 exact h
theorem range_new (x y : ByteArray) (h : VC w g b sh wt rd rg B S W R G) (hs : S.length ≤ 50000) (hg : G.length ≤ 50000) (hk : kl x y = true) (hR : hasR x y G = false) :
 Calls Try.prog 25 #[.pointer (some ⟨g,0,none⟩),.string x,.string y] w (RangeR g b sh wt rd rg B S W R (G ++ [(x,y)]) (rangeL x y S) w) := by
 have f1 : Op.bytesLess x.toList y.toList = true := hk
 have HV := hQ_ h
 have HRR := hQ_ hR
 have hb1 := bN_ w (.cells #[.string x,.string y] 47)
 have HB1 := hQ_ hb1
 obtain ⟨W1,hW1⟩ : ∃ W1,w.alloc (.cells #[.string x,.string y] 47) = W1 := ⟨_,rfl⟩
 have HBX := Blk.new_ w #[.string x,.string y] 47
 rw [hW1] at HB1 HBX
 have HV1 := hQ_ (HV.out.below HB1.out)
 obtain ⟨k0,k1,k2,k3,k4,_⟩ := HV1.out.cells
 obtain ⟨x0,x1⟩ := cC2 HBX
 have HX := hQ_ HBX
 have E1 := hQ_ hW1
 clear h hk hR hb1 hW1 HBX
 obtain ⟨A,c,e,_,_,h0⟩ := Tx.So.head HV.out.rgs
 obtain ⟨n,hn⟩ : ∃ n,G.length = n := ⟨_,rfl⟩
 have HN := hQ_ hn
 have E := hQ_ e
 rw [hn] at hg
 rw [e,hn] at k4
 have HCT := hQ_ (contains_calls A n c G x y W1.drew (So.sl (by have := So.below HV1.out.rgs ((Below.refl _ _).drew : Below W1.heap.size W1 W1.drew); rw [e,hn] at this; exact this)) (by omega))
 rw [HRR.out] at HCT
 clear hn e
 go_enter Try.func25,Try.ntmps25
 go_upto_region 4 with (fail)
 change Code.wp _ _ _ _ (w.alloc (.cells #[.string x,.string y] 47))
 rw [E1.out]
 have y4 : W1.drew.cell? ⟨g,4,none⟩ = some (.slice A n c) := k4
 have y0 : W1.drew.cell? ⟨w.heap.size,0,none⟩ = some (.string x) := x0
 have y1 : W1.drew.cell? ⟨w.heap.size,1,none⟩ = some (.string y) := x1
 go_still_tail 5,(by kernel_rfl)
 change wpList _ _ _ _ _ W1.drew
 go_upto_region 5 with (go_at_call 41; refine HCT.out.mono ?_; rintro e w2 ⟨rfl,hb2⟩; have HB2 := hQ_ hb2; have HV2 := hQ_ ((HV1.out.below ((Below.refl _ _).drew)).below hb2); have HX2 := hQ_ (((HX.out.below ((Below.refl _ _).drew)).below hb2)); clear hb2)
 have m4 : w2.cell? ⟨g,4,none⟩ = some (.slice A n c) := by have h := HV2.out.cells.2.2.2.2.1; rw [E.out,HN.out] at h; exact h
 have m4a : (w2.alloc (.cells #[.string x,.string y] 47)).cell? ⟨g,4,none⟩ = some (.slice A n c) := by rw [World.cell?_alloc_lt _ _ ⟨g,4,none⟩ HV2.out.lt,m4]
 have z0 := cC2 HX2.out
 have HOWN : Hid (w2.ownsRow 0 47 2 (.slice A n c) n (flat rgE G)) := hQ_ (by have h := HV2.out.rgs.2; rw [E.out,HN.out] at h; exact h)
 obtain ⟨i0,hi0,hz0,hz1,hz2⟩ := info_parts info_rg
 go_region_law (first
  | (refine step_append_lies _ (by rfl) _ _ _ (by rfl) 0 47 i0 _ 2 32 Try.underlying23 hi0 hz0 hz1 hz2 rfl (by omega) (.slice A n c) n _ (by rfl) ((HOWN.out.alloc _).drew)
      ⟨w2.heap.size,0,none⟩ 1 1 [.string x,.string y] (by rfl) (by rfl) (World.news_of_block (cs := #[.string x,.string y]) (t := 47) (fr := (0,0)) (heap_alloc_new w2 _)) (by simp [Value.oneCell'])
      (by omega) (by unfold maxLen; omega) (by omega) (by simp) (w2.heap.size + 1) (by simp) ?_; intro gg cap w3 hown3 hgrow hat hlt'; have HAP := hQ_ (VC.app HV2.out (by rw [E.out,HN.out]; exact hgrow) (rg_next HN.out hown3)); have HAT := hQ_ hat; have n4 : w3.cell? ⟨g,4,none⟩ = some (.slice A n c) := (by have h := HAP.out.1.cell 4; rw [E.out,HN.out] at h; exact h); have q4 := HAP.out.1.frozen 4; clear hown3 hgrow hat hlt'))
 all_goals
  have HV4 := hQ_ HAP.out.2.1
  obtain ⟨l0,l1,l2,l3,l4,_⟩ := HV4.out.cells
  have HTR := hQ_ (tnrange x y HV4.out.shown hs)
  go_wp2_with (go_at_call 42; refine HTR.out.mono ?_; rintro e w5 ⟨v,rfl,ho,hb5⟩; have HO := hQ_ ho; have HB5 := hQ_ hb5; clear ho hb5)
  go_ret
  have hd : Did g rg w w2 := ((((Did.refl g _ w).below HB1.out).below ((Below.refl _ _).drew)).below HB2.out)
  have hd2 := HAP.out.2.2
  have hd3 : Did g rg w _ := ⟨hd.chg.trans hd2.chg,ViewD.Kept.trans hd.kept hd2.kept⟩
  refine ⟨_,_,rfl,So.lower HO.out hd3.chg.size,HV4.out.below HB5.out,hd3.below HB5.out,?_⟩
  rcases HAT.out with h | h
  ·left
   rw [E.out,HN.out]
   exact h.symm
  ·right
   exact ⟨gg,rfl,by have := hd.chg.size; omega⟩
end Go.Proofs.Ytlblfpacnegmlaa.ViewKw
namespace Go.Proofs.Ytlblfpacnegmlaa.ViewK
open Go.RowKit
open Byte KeysM TreeM ViewM ViewKm ViewKn ViewKr ViewKs ViewKw Own Lst Chg TreeR TreeL TreeG TreeH Ho ViewR ViewL
def VRep (w : World) (v : Value) (s : Vs) (S D : Nat → Prop) : Prop := ∃ (g : Nat) (b sh wt rd rg : Value),v = .pointer (some ⟨g,0,none⟩) ∧ VC w g b sh wt rd rg s.base s.shown (kys s.wr) s.rd s.rg ∧ s.Ok ∧ Bare s.wr ∧ S = own g rg ∧ D = own g rg
theorem stays : Stays VRep where
 stay := by
  rintro w w' v s S D T ⟨g,b,sh,wt,rd,rg,rfl,hv,h1,h2,rfl,rfl⟩ hc hT hk
  exact ⟨g,b,sh,wt,rd,rg,rfl,hv.stay hc hk (fun h => hT g h (.inl rfl)) (fun k hk' h => hT k h (.inr hk')),h1,h2,rfl,rfl⟩
 ok := by
  rintro w v s S D ⟨g,b,sh,wt,rd,rg,rfl,hv,h1,h2,rfl,rfl⟩
  exact h1
 lt := by
  rintro w v s S D ⟨g,b,sh,wt,rd,rg,rfl,hv,h1,h2,rfl,rfl⟩ q hq
  rcases hq with rfl | hq
  ·exact hv.lt
  ·exact (hv.rgs.lt hq).2
 sub := by
  rintro w v s S D ⟨g,b,sh,wt,rd,rg,rfl,hv,h1,h2,rfl,rfl⟩ q hq
  exact hq
theorem lens {s : Vs} (h : Lim s) (ho : s.Ok) : s.base.length ≤ 2000 ∧ s.shown.length ≤ 50000 ∧ s.wr.length ≤ 2000 ∧ (kys s.wr).length ≤ 50000 ∧ s.rd.length ≤ 30000 ∧ s.rg.length ≤ 2000 := by
 have h1 := h.base
 have h2 := h.rd
 have h3 := h.rg
 have h4 := ho.lw
 have h5 : s.shown.length ≤ s.base.length + s.wr.length := shown_len s.base s.wr
 refine ⟨by omega,by omega,by omega,by rw [kys_len]; omega,by omega,by omega⟩
theorem stp {g : Nat} {rg : Value} {w w' : World} (d : Did g rg w w') : Stp (own g rg) (own g rg) (own g rg) (own g rg) w w' := ⟨d.chg,d.kept,Grow.refl _ _,Grow.refl _ _⟩
theorem own_new {w : World} {g : Nat} {rg rg' : Value} (h : RgTo w rg rg') : Grow w (own g rg) (own g rg') := fun b hb => by
 rcases hb with rfl | hb
 ·exact .inl (.inl rfl)
 ·rcases h with h | ⟨k,h1,h2⟩
  ·exact .inl (.inr (by rw [← h]; exact hb))
  ·rw [h1] at hb
   injection hb with hb
   exact .inr (by omega)
theorem sh_of {α : Type} {e : Enc α} {T : TypeId} {w : World} {base : Nat} {v : Value} {L : List α} (h : So e T w base v L.length L) : ∃ r : Sh,v = .slice r.a r.n r.c ∧ Sl e w r.a r.n L ∧ ∀ b o,r.a = some ⟨b,o,none⟩ → base ≤ b := by
 rcases h.form with ⟨rfl,h0⟩ | ⟨g,cap,rfl,h1,_⟩
 ·refine ⟨⟨none,0,0⟩,rfl,?_,fun b o e => by cases e⟩
  have := List.eq_nil_of_length_eq_zero h0
  subst this
  exact Sl.nil_ _ _ _
 ·exact ⟨⟨some ⟨g,0,none⟩,L.length,cap⟩,rfl,So.sl h,fun b o e => by injection e with e; injection e with e; omega⟩
theorem new_ok : NewOk VRep := by
 intro w t L h hr hl
 refine (new_calls t w (TN.of hr)).mono ?_
 rintro e w' ⟨rfl,hv,hb⟩
 have hw : ∀ q,own w.heap.size (.slice none 0 0) q → w.heap.size ≤ q := fun q hq => by
  rcases hq with rfl | hq
  ·exact Nat.le_refl _
  ·cases hq
 exact ⟨_,_,_,rfl,⟨_,_,_,_,_,_,rfl,hv,⟨trise hr,List.Pairwise.nil,List.Pairwise.nil,Nat.zero_le _⟩,Bare.nil,rfl,rfl⟩,hw,hw,hb⟩
theorem get_ok : GetOk VRep := by
 rintro w v s S D k ⟨g,b,sh,wt,rd,rg,rfl,hv,h1,h2,rfl,rfl⟩ hl hk
 obtain ⟨l1,l2,l3,l4,l5,l6⟩ := lens hl h1
 refine (get_calls k hv l2 (by omega)).mono ?_
 rintro e w' ⟨rd',rfl,hv',hd⟩
 exact ⟨_,_,rfl,⟨g,b,sh,wt,rd',rg,rfl,by rw [put_putP] at hv'; exact hv',ok_read h1 k,h2,rfl,rfl⟩,stp hd⟩
theorem range_ok : RangeOk VRep := by
 rintro w v s S D x y ⟨g,b,sh,wt,rd,rg,rfl,hv,h1,h2,rfl,rfl⟩ hl hx hy
 obtain ⟨l1,l2,l3,l4,l5,l6⟩ := lens hl h1
 have key : ∀ (G : List (ByteArray × ByteArray)) (L : List Pr),(s.ranged x y).rg = G → s.rangeOf x y = L → Calls Try.prog 25 #[.pointer (some ⟨g,0,none⟩),.string x,.string y] w (RangeR g b sh wt rd rg s.base s.shown (kys s.wr) s.rd G L w) → Calls Try.prog 25 #[.pointer (some ⟨g,0,none⟩),.string x,.string y] w fun e w' => ∃ (r : Sh) (S' D' : Nat → Prop),e = .returned (.slice r.a r.n r.c) ∧ Sl prE w' r.a r.n (s.rangeOf x y) ∧ (0 < r.n → NewA w r) ∧ VRep w' (.pointer (some ⟨g,0,none⟩)) (s.ranged x y) S' D' ∧ Stp (own g rg) (own g rg) S' D' w w' := by
  intro G L hG hL hc
  refine hc.mono ?_
  rintro e w' ⟨u,rg',rfl,ho,hv',hd,hto⟩
  obtain ⟨r,rfl,hsl,hnew⟩ := sh_of ho
  refine ⟨r,_,_,rfl,by rw [hL]; exact hsl,fun _ => fun b o e => hnew b o e,⟨g,b,sh,wt,rd,rg',rfl,?_,ok_ranged h1 x y,?_,rfl,rfl⟩,hd.chg,hd.kept,own_new hto,own_new hto⟩
  ·rw [hG]
   have e1 : (s.ranged x y).base = s.base ∧ (s.ranged x y).shown = s.shown ∧ (s.ranged x y).wr = s.wr ∧ (s.ranged x y).rd = s.rd := by
    unfold Vs.ranged
    split <;> exact ⟨rfl,rfl,rfl,rfl⟩
   rw [e1.1,e1.2.1,e1.2.2.1,e1.2.2.2]
   exact hv'
  ·have e1 : (s.ranged x y).wr = s.wr := by
    unfold Vs.ranged
    split <;> rfl
   rw [e1]
   exact h2
 cases hk : kl x y with
 | false =>
   refine key s.rg [] ?_ ?_ (range_none x y hv hk)
   ·unfold Vs.ranged
    rw [hk]
    rfl
   ·unfold Vs.rangeOf
    rw [hk]
    rfl
 | true =>
   cases hh : hasR x y s.rg with
   | true =>
     refine key s.rg (rangeL x y s.shown) ?_ ?_ (range_old x y hv l2 (by omega) hk hh)
     ·unfold Vs.ranged addR
      rw [hk,hh]
      rfl
     ·unfold Vs.rangeOf
      rw [hk]
      rfl
   | false =>
     refine key (s.rg ++ [(x,y)]) (rangeL x y s.shown) ?_ ?_ (range_new x y hv l2 (by omega) hk hh)
     ·unfold Vs.ranged addR
      rw [hk,hh]
      rfl
     ·unfold Vs.rangeOf
      rw [hk]
      rfl
theorem reads_ok : ReadsOk VRep := by
 rintro w v s S D ⟨g,b,sh,wt,rd,rg,rfl,hv,h1,h2,rfl,rfl⟩ hl
 obtain ⟨l1,l2,l3,l4,l5,l6⟩ := lens hl h1
 refine (reads_calls hv l5).mono ?_
 rintro e w' ⟨u,rfl,ho,hb⟩
 obtain ⟨r,rfl,hsl,_⟩ := sh_of ho
 exact ⟨r,rfl,hsl,hb⟩
theorem ranges_ok : RangesOk VRep := by
 rintro w v s S D ⟨g,b,sh,wt,rd,rg,rfl,hv,h1,h2,rfl,rfl⟩ hl
 obtain ⟨l1,l2,l3,l4,l5,l6⟩ := lens hl h1
 refine (ranges_calls hv l6).mono ?_
 rintro e w' ⟨u,rfl,ho,hb⟩
 obtain ⟨r,rfl,hsl,_⟩ := sh_of ho
 exact ⟨r,rfl,hsl,hb⟩
end Go.Proofs.Ytlblfpacnegmlaa.ViewK
namespace Go.Proofs.Ytlblfpacnegmlaa.ClashW
open Go.RowKit Go.ChangeShapes Go.WideShapes Go.Deep Go.Maps
open Byte TreeM ViewM Go.Proofs.Ytlblfpacnegmlaa.Form Lst Args TreeR ViewR ViewL Nest Rch ClashL ClashP ClashQ ClashS
open Tx (txE)
open Own (keeps)
section
variable {Rep : HRep} {VRep : World → Value → Vs → (Nat → Prop) → (Nat → Prop) → Prop}
theorem plays_big (hF : FixOk) (A B C : Option Addr) (m c n c2 q c3 : Nat) (L : List Oq) (w : World)
 (hl : Sl oqE w A m L) (hm : m ≤ maxLen) (hf : ∀ o ∈ L,o.h.n ≤ 140737488351232) (hbig : 300 < tot L ∨ 100 < n ∨ 100 < q) :
 Calls Try.prog 5 #[.slice A m c,.slice B n c2,.slice C q c3] w fun e w' => e = .returned (.bool true) ∧ Below w.heap.size w w' := by
 have HF := hQ_ hF
 have hgr := great_calls A m c L w hl hm hf
 have ways : decide (300 < tot L) = true ∨ (decide (300 < tot L) = false ∧ decide ((100 : Int) < (n : Int)) = true) ∨ (decide (300 < tot L) = false ∧ decide ((100 : Int) < (n : Int)) = false ∧ decide ((100 : Int) < (q : Int)) = true) := by
  simp only [decide_eq_true_eq,decide_eq_false_iff_not]
  omega
 clear hl hm hf hF hbig
 rcases ways with d | ⟨d,d2⟩ | ⟨d,d2,d3⟩
 all_goals
  rw [d] at hgr
  have HGR := hQ_ hgr
  clear hgr d
  go_enter Try.func5,Try.ntmps5
  go_wp2_with fail
  refine HGR.out.mono ?_
  rintro e w1 ⟨rfl,hb1⟩
  have HB1 := hQ_ hb1
  clear hb1
  go_wp2_with fail
  refine (HF.out _).mono ?_
  rintro e w2 ⟨rfl,hb2⟩
  have HB2 := hQ_ (keeps HB1.out hb2)
  clear hb2
  go_wp2_with fail
  go_ret
  exact ⟨rfl,HB2.out⟩
def OqG (w : World) (o : Oq) : Prop := (∃ W,Sl prE w o.h.a o.h.n W) ∧ o.h.n ≤ 140737488351232 ∧ (o.h.a = none → o.h.c = 0) ∧ 0 ≤ o.num ∧ o.num ≤ 18446744073709551615 ∧ -9223372036854775808 ≤ o.kind ∧ o.kind ≤ 9223372036854775807
theorem hws_of {w : World} : ∀ {L : List Oq},(∀ o ∈ L,OqG w o) → ∃ WS,Hws w L WS
 | [],_ => ⟨[],rfl,fun j o W h => by simp at h⟩
 | o :: L,h => by
   obtain ⟨WS,hW⟩ := hws_of (L := L) (fun x hx => h x (List.mem_cons_of_mem _ hx))
   obtain ⟨W,h0⟩ := (h o (List.mem_cons_self ..)).1
   refine ⟨W :: WS,by simp [hW.len],fun j x V hx hV => ?_⟩
   cases j with
   | zero =>
     simp at hx hV
     subst hx hV
     exact h0
   | succ j => exact hW.row j x V (by simpa using hx) (by simpa using hV)
theorem plays_law (hH : Hst Rep VRep) (hN : HNil VRep) (hV : Vwc VRep) (hF : FixOk) (A B C : Option Addr) (m c n c2 q c3 : Nat) (L : List Oq) (R : List ByteArray) (G : List (ByteArray × ByteArray)) (w : World)
 (hl : Sl oqE w A m L) (hr : Sl txE w B n R) (hg : Sl rgE w C q G) (hm : m ≤ maxLen) (hgood : ∀ o ∈ L,OqG w o)
 (hfr : ∀ t ∈ R,t.size ≤ 140737488351232) (hfg : ∀ p ∈ G,p.1.size ≤ 140737488351232 ∧ p.2.size ≤ 140737488351232) :
 Calls Try.prog 5 #[.slice A m c,.slice B n c2,.slice C q c3] w fun e w' => e = .returned (.bool true) ∧ Below w.heap.size w w' := by
 by_cases hbig : 300 < tot L ∨ 100 < n ∨ 100 < q
 ·exact plays_big hF A B C m c n c2 q c3 L w hl hm (fun o ho => (hgood o ho).2.1) hbig
 ·obtain ⟨WS,hW⟩ := hws_of hgood
  exact plays_small hH hN hV hF A B C m c n c2 q c3 L WS R G w hl hW hr hg hm (fun o ho => (hgood o ho).2.1) (fun o ho => (hgood o ho).2.2.1) (fun o ho => (hgood o ho).2.2.2) hfr hfg (by omega) (by omega) (by omega)
end
section
variable {H : Type} {enc : TypeId × Value → H} {w : World} {base fuel : Nat}
instance : Inhabited Pr := ⟨⟨⟨#[]⟩,⟨#[]⟩,false⟩⟩
theorem three {α : Type} {l : List α} (h : l.length = 3) : ∃ a b c,l = [a,b,c] := by
 match l,h with
 | [a,b,c],_ => exact ⟨a,b,c,rfl⟩
theorem int_of {cs : List Value} {x : DataW H × List MemPlace} (h : DataW.trod enc Try.prog w base (fun _ => true) true fuel 3 cs = some x) : ∃ n,cs = [.int .i64 n] ∧ -9223372036854775808 ≤ n ∧ n ≤ 9223372036854775807 := by
 obtain ⟨n,h1,_,h2⟩ := DataW.trod_int Try.underlying3 h
 have := bounds_i64 h2
 exact ⟨n,h1,this.1,this.2⟩
theorem u64_of {cs : List Value} {x : DataW H × List MemPlace} (h : DataW.trod enc Try.prog w base (fun _ => true) true fuel 35 cs = some x) : ∃ n,cs = [.int .u64 n] ∧ 0 ≤ n ∧ n ≤ 18446744073709551615 := by
 obtain ⟨n,h1,_,h2⟩ := DataW.trod_int Try.underlying35 h
 have := bounds_u64 h2
 exact ⟨n,h1,this.1,this.2⟩
theorem prs_of {cs : List Value} {x : DataW H × List MemPlace} (h : DataW.trod enc Try.prog w base (fun _ => true) true fuel 24 cs = some x) (hw : ∀ n ∈ x.1.weights Try.prog 24,n ≤ reachBytes) :
 ∃ A m c,∃ L : List Pr,cs = [.slice A m c] ∧ m ≤ 140737488351232 ∧ Sl prE w A m L ∧ (A = none → c = 0) := by
 obtain ⟨A,m,c,L,h1,h2,h3,h4,_,h5,h6⟩ := sl_reach prE (fun _ => True) Try.underlying24 (by kernel_rfl) (fun es n z hz _ => by
  obtain ⟨xs,n2,_,hxe,hlen,hxl,hg⟩ := DataW.trod_struct Try.underlying49 hz
  have h3 : Try.prog.cellsOf 49 = 3 := by kernel_rfl
  have hs : Try.prog.cellsOf 9 = 1 := by kernel_rfl
  have hb : Try.prog.cellsOf 4 = 1 := by kernel_rfl
  rw [h3] at hlen
  have hxl : xs.length = 3 := hxl
  obtain ⟨c0,c1,c2,rfl⟩ := three hlen
  obtain ⟨x0,x1,x2,rfl⟩ := three hxl
  have g0 : DataW.trod enc Try.prog w base (fun _ => true) true n2 9 (([c0,c1,c2].drop 0).take (Try.prog.cellsOf 9)) = some x0 := hg 0 _ rfl
  have g1 : DataW.trod enc Try.prog w base (fun _ => true) true n2 9 (([c0,c1,c2].drop 1).take (Try.prog.cellsOf 9)) = some x1 := hg 1 _ rfl
  have g2 : DataW.trod enc Try.prog w base (fun _ => true) true n2 4 (([c0,c1,c2].drop 2).take (Try.prog.cellsOf 4)) = some x2 := hg 2 _ rfl
  rw [hs] at g0 g1
  rw [hb] at g2
  obtain ⟨s0,e0,_⟩ := DataW.trod_string Try.underlying9 g0
  obtain ⟨s1,e1,_⟩ := DataW.trod_string Try.underlying9 g1
  obtain ⟨b2,e2,_⟩ := DataW.trod_bool Try.underlying4 g2
  simp at e0 e1 e2
  subst e0 e1 e2
  exact ⟨⟨s0,s1,b2⟩,rfl,trivial⟩) h hw
 have hb : Try.prog.bytesOf 49 = 40 := by kernel_rfl
 rw [hb] at h6
 exact ⟨A,m,c,L,h1,by omega,h4,h5⟩
theorem op_of {cs : List Value} {x : DataW H × List MemPlace} (h : DataW.trod enc Try.prog w base (fun _ => true) true fuel 37 cs = some x) (hw : ∀ n ∈ x.1.weights Try.prog 37,n ≤ reachBytes) :
 ∃ p : Oq,cs = oqE.cells p ∧ OqG w p := by
 obtain ⟨xs,n2,_,hxe,hlen,hxl,hg⟩ := DataW.trod_struct Try.underlying37 h
 have h3 : Try.prog.cellsOf 37 = 3 := by kernel_rfl
 have hi : Try.prog.cellsOf 3 = 1 := by kernel_rfl
 have hu : Try.prog.cellsOf 35 = 1 := by kernel_rfl
 have hs : Try.prog.cellsOf 24 = 1 := by kernel_rfl
 rw [h3] at hlen
 have hxl : xs.length = 3 := hxl
 obtain ⟨c0,c1,c2,rfl⟩ := three hlen
 obtain ⟨x0,x1,x2,rfl⟩ := three hxl
 have g0 : DataW.trod enc Try.prog w base (fun _ => true) true n2 3 (([c0,c1,c2].drop 0).take (Try.prog.cellsOf 3)) = some x0 := hg 0 _ rfl
 have g1 : DataW.trod enc Try.prog w base (fun _ => true) true n2 24 (([c0,c1,c2].drop 1).take (Try.prog.cellsOf 24)) = some x1 := hg 1 _ rfl
 have g2 : DataW.trod enc Try.prog w base (fun _ => true) true n2 35 (([c0,c1,c2].drop 2).take (Try.prog.cellsOf 35)) = some x2 := hg 2 _ rfl
 rw [hi] at g0
 rw [hs] at g1
 rw [hu] at g2
 have hw1 : ∀ n ∈ x1.1.weights Try.prog 24,n ≤ reachBytes := fun n hn => hw n (by
  rw [hxe]
  simp only [DataW.weights,Try.underlying37]
  exact weights_part (i := 1) (t := 24) (d := x1.1) rfl rfl n hn)
 obtain ⟨n0,e0,k0,k0'⟩ := int_of g0
 obtain ⟨A,m,c,W,e1,k1,k2,k3⟩ := prs_of g1 hw1
 obtain ⟨n2,e2,k4,k4'⟩ := u64_of g2
 simp at e0 e1 e2
 subst e0 e1 e2
 exact ⟨⟨n0,⟨A,m,c⟩,n2⟩,rfl,⟨W,k2⟩,k1,k3,k4,k4',k0,k0'⟩
theorem ops_of {cs : List Value} {x : DataW H × List MemPlace} (h : DataW.trod enc Try.prog w base (fun _ => true) true fuel 28 cs = some x) (hw : ∀ n ∈ x.1.weights Try.prog 28,n ≤ reachBytes) :
 ∃ A m c,∃ L : List Oq,cs = [.slice A m c] ∧ m ≤ c ∧ c ≤ maxLen ∧ Sl oqE w A m L ∧ ∀ p ∈ L,OqG w p := by
 obtain ⟨A,m,c,L,h1,h2,h3,h4,h5,_⟩ := sl_reach oqE (OqG w) Try.underlying28 (by kernel_rfl) (fun es n z hz hk => op_of hz hk) h hw
 exact ⟨A,m,c,L,h1,h2,h3,h4,h5⟩
theorem two {α : Type} {l : List α} (h : l.length = 2) : ∃ a b,l = [a,b] := by
 match l,h with
 | [a,b],_ => exact ⟨a,b,rfl⟩
theorem rgs_of {cs : List Value} {x : DataW H × List MemPlace} (h : DataW.trod enc Try.prog w base (fun _ => true) true fuel 23 cs = some x) (hw : ∀ n ∈ x.1.weights Try.prog 23,n ≤ reachBytes) :
 ∃ A m c,∃ L : List (ByteArray × ByteArray),cs = [.slice A m c] ∧ m ≤ c ∧ c ≤ maxLen ∧ Sl rgE w A m L ∧ ∀ p ∈ L,p.1.size ≤ 140737488351232 ∧ p.2.size ≤ 140737488351232 := by
 haveI : Inhabited (ByteArray × ByteArray) := ⟨(⟨#[]⟩,⟨#[]⟩)⟩
 obtain ⟨A,m,c,L,h1,h2,h3,h4,h5,_⟩ := sl_reach rgE (fun p => p.1.size ≤ 140737488351232 ∧ p.2.size ≤ 140737488351232) Try.underlying23 (by kernel_rfl) (fun es n z hz hk => by
  obtain ⟨xs,n2,_,hxe,hlen,hxl,hg⟩ := DataW.trod_array Try.underlying47 hz
  have h2 : Try.prog.cellsOf 47 = 2 := by kernel_rfl
  have hs : Try.prog.cellsOf 9 = 1 := by kernel_rfl
  rw [h2] at hlen
  rw [hs] at hg
  obtain ⟨c0,c1,rfl⟩ := two hlen
  obtain ⟨x0,x1,rfl⟩ := two hxl
  have g0 : DataW.trod enc Try.prog w base (fun _ => true) true n2 9 [c0] = some x0 := hg 0 (by omega)
  have g1 : DataW.trod enc Try.prog w base (fun _ => true) true n2 9 [c1] = some x1 := hg 1 (by omega)
  have hwt : ∀ d,d ∈ [x0,x1] → ∀ k ∈ d.1.weights Try.prog 9,k ≤ reachBytes := fun d hd k hk2 => hk k (by
   rw [hxe]
   simp only [DataW.weights,Try.underlying47]
   exact Tx.weights_all (List.mem_map.2 ⟨d,hd,rfl⟩) k hk2)
  obtain ⟨s0,e0,f0⟩ := text_reach Try.underlying9 g0 (hwt x0 (by simp))
  obtain ⟨s1,e1,f1⟩ := text_reach Try.underlying9 g1 (hwt x1 (by simp))
  simp at e0 e1
  subst e0 e1
  exact ⟨(s0,s1),rfl,f0,f1⟩) h hw
 exact ⟨A,m,c,L,h1,h2,h3,h4,h5⟩
end
theorem vwc : Vwc ViewK.VRep := ⟨ViewK.stays,ViewK.new_ok,ViewK.get_ok,ViewK.range_ok,ViewK.reads_ok,ViewK.ranges_ok⟩
theorem plays_all (A B C : Option Addr) (m c n c2 q c3 : Nat) (L : List Oq) (R : List ByteArray) (G : List (ByteArray × ByteArray)) (w : World) (h : m ≤ c ∧ c ≤ maxLen ∧ Sl oqE w A m L ∧ ∀ p ∈ L,OqG w p) (hr : ClashX.RdT w B n c2 R) (hg : q ≤ c3 ∧ c3 ≤ maxLen ∧ Sl rgE w C q G ∧ ∀ p ∈ G,p.1.size ≤ 140737488351232 ∧ p.2.size ≤ 140737488351232) :
 Calls Try.prog 5 #[.slice A m c,.slice B n c2,.slice C q c3] w fun e w' => e = .returned (.bool true) ∧ Below w.heap.size w w' :=
 plays_law (ClashHe.hst vwc.stays vwc.reads vwc.ranges) ClashHe.hnil vwc ClashX.fixed_ok A B C m c n c2 q c3 L R G w h.2.2.1 hr.2.2.1 hg.2.2.1 (Nat.le_trans h.1 h.2.1) h.2.2.2 hr.2.2.2.1 hg.2.2.2
end Go.Proofs.Ytlblfpacnegmlaa.ClashW