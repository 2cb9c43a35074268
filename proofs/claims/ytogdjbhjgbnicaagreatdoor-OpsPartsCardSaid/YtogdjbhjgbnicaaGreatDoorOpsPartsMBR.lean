import Derived.Deep.RegionLaw
import Derived.Test.YtogdjbhjgbnicaaGreatDoorSq
import Derived.Test.YtogdjbhjgbnicaaGreatDoorOpsPartsMBH
import Derived.Test.YtogdjbhjgbnicaaGreatDoorNodeK
import Derived.Test.YtogdjbhjgbnicaaGreatDoorKeysB
import Derived.Test.YtogdjbhjgbnicaaGreatDoorKeysD
set_option maxHeartbeats 16000000
set_option linter.unusedVariables false
set_option linter.unusedSimpArgs false
set_option maxRecDepth 100000
namespace Go.Proofs.YtogdjbhjgbnicaaGreatDoor.WalkKa
open Go.RowKit
open Byte PackM PackV PackG KeysM KeysR KeysS KeysL KeysC TreeM TreeR ViewM NodeM NodeG NodeK WalkM WalkF WalkKm Lst Chg TreeL ViewL WalkL WalkV Vat
open Own hiding keeps
variable {Rep : RepT}
def Small (Rep : RepT) : Prop := ∀ ⦃w v s S D⦄,Rep w v s S D → VsB s
def LoadV (L : List Pr) (ino : Int) : Value := .tuple #[.agg #[.int .u8 (loadM L ino).1.k,.int .u32 (loadM L ino).1.l,.int .u32 (loadM L ino).1.s,.int .u32 (loadM L ino).1.p],.bool (loadM L ino).2]
theorem ki_size (ino : Int) : (kI ino).size ≤ 100000 := by unfold kI; rw [ks_size]; omega
theorem ke_size (dir : Int) (name : ByteArray) : (kE dir name).size ≤ 100000 := by
 unfold kE
 split
 ·decide
 ·rw [ByteArray.size_append,ks_size]; omega
theorem loadv_none {L : List Pr} {ino : Int} (h : getL (kI ino) L = none) (h1 : ino ≠ 1) : LoadV L ino = .tuple #[.agg #[.int .u8 0,.int .u32 0,.int .u32 0,.int .u32 0],.bool false] := by
 unfold LoadV
 rw [load_none h,if_neg h1]
 rfl
theorem loadv_root {L : List Pr} (h : getL (kI 1) L = none) : LoadV L 1 = .tuple #[.agg #[.int .u8 2,.int .u32 2,.int .u32 0,.int .u32 1],.bool true] := by
 unfold LoadV
 rw [load_none h,if_pos rfl]
theorem loadv_some {L : List Pr} {ino : Int} {q : Pr} (h : getL (kI ino) L = some q) : LoadV L ino = GetV q.value := by
 unfold LoadV GetV
 rw [load_some h]
 cases gok q.value <;> rfl
theorem getv_parts (t : ByteArray) : ∃ (k l z p : Int) (b : Bool),GetV t = .tuple #[.agg #[.int .u8 k,.int .u32 l,.int .u32 z,.int .u32 p],.bool b] := by
 unfold GetV
 split
 ·exact ⟨_,_,_,_,_,rfl⟩
 ·exact ⟨_,_,_,_,_,rfl⟩
theorem load_calls (hS : Stays Rep) (hG : GetOk Rep) (hB : Small Rep) {w : World} {v : Value} {s : Vs} {S D : Nat → Prop} (ino : Int) (hr : Rep w v s S D) (hl : Lim s) (h0 : 0 ≤ ino) (h1 : ino ≤ 4294967295) :
 Calls Tryz.prog 127 #[v,.int .u32 ino] w (WalkL.Stepped Rep v (s.read (kI ino)) (LoadV s.shown ino) S D w) := by
 have R0 := hQ_ (Blk.new_ w #[.int .u8 0,.int .u32 0,.int .u32 0,.int .u32 0] 46)
 have hb0 := bX_ R0.out
 have A0 := hQ_ ((At.start hr).own hS hb0 (Nat.le_refl _) (by simp))
 have HI := hQ_ (fun w => inode_calls ino w h0 h1)
 have hok := hS.ok hr
 have hbs := hB hr
 have HS := hQ_ hS
 have HL := hQ_ hl
 have HKS : Hid ((kI ino).size ≤ 200000000000000) := hQ_ (by have := ki_size ino; omega)
 have HGet := hQ_ hG
 obtain ⟨K,hK⟩ : ∃ K,kI ino = K := ⟨_,rfl⟩
 rw [hK] at HI HKS ⊢
 clear hb0 hr hl hS hG hB
 cases hg : getL K s.shown with
 | none =>
   rw [← hK] at hg
   by_cases hi : ino = 1
   ·subst hi
    have HE := hQ_ (loadv_root hg)
    rw [hK] at hg
    have HG := hQ_ hg
    clear hok hbs hg hK
    go_enter Tryz.func127,Tryz.ntmps127
    go_wp2_with fail
    refine (HI.out _).mono ?_
    rintro e w1 ⟨rfl,hb1⟩
    have A1 := hQ_ (A0.out.below HS.out hb1)
    have R1 := hQ_ (R0.out.below hb1)
    clear hb1
    go_wp2_with fail
    refine (HGet.out K A1.out.rep HL.out HKS.out).mono ?_
    rw [HG.out]
    rintro e w2 ⟨S2,D2,rfl,hr2,st2⟩
    have A2 := hQ_ (A1.out.step HS.out hr2 st2)
    have R2 := hQ_ (A1.out.blk HS.out R1.out (.inr rfl) st2)
    clear hr2 st2
    dsimp only [GotV]
    go_wp2_with fail
    refine (root_ok _).mono ?_
    rintro e w3 ⟨rfl,hb3⟩
    have A3 := hQ_ (A2.out.below HS.out hb3)
    have R3 := hQ_ (R2.out.below hb3)
    clear hb3
    go_wp2_with ((with_reducible refine pick none ?_); refine store_blk rfl 46 _ _ rfl w.heap.size #[.int .u8 2,.int .u32 2,.int .u32 0,.int .u32 1] rfl rfl 46 _ R3.out info_ino rfl (by simp [Value.oneCell']) ?_; intro w5 hk5 hg5)
    have A5 := A3.out.stored HS.out R3.out (.inr rfl) (by decide) hg5
    exact bodyPost_ret (v := .tuple #[.agg #[.int .u8 2,.int .u32 2,.int .u32 0,.int .u32 1],.bool true]) (results_row_tmp rfl _ _ w.heap.size 46 _ (0,0) _ rfl _ rfl hk5 Tryz.underlying46 rfl info_ino) rfl ⟨S2,D2,by rw [HE.out],A5.rep,A5.st⟩
   ·have HE := hQ_ (loadv_none hg hi)
    rw [hK] at hg
    have HG := hQ_ hg
    have d1 : (ino == 1) = false := by rw [beq_eq_false_iff_ne]; exact hi
    have HX := hQ_ (fun w => get_ok ⟨#[]⟩ w (by decide))
    unfold GetE at HX
    rw [getv_no (t := ⟨#[]⟩) (by decide)] at HX
    clear hok hbs hg hK hi
    go_enter Tryz.func127,Tryz.ntmps127
    go_wp2_with fail
    refine (HI.out _).mono ?_
    rintro e w1 ⟨rfl,hb1⟩
    have A1 := hQ_ (A0.out.below HS.out hb1)
    have R1 := hQ_ (R0.out.below hb1)
    clear hb1
    go_wp2_with fail
    refine (HGet.out K A1.out.rep HL.out HKS.out).mono ?_
    rw [HG.out]
    rintro e w2 ⟨S2,D2,rfl,hr2,st2⟩
    have A2 := hQ_ (A1.out.step HS.out hr2 st2)
    have R2 := hQ_ (A1.out.blk HS.out R1.out (.inr rfl) st2)
    clear hr2 st2
    dsimp only [GotV]
    go_wp2_with fail
    refine (HX.out _).mono ?_
    rintro e w3 ⟨rfl,hb3⟩
    have A3 := hQ_ (A2.out.below HS.out hb3)
    have R3 := hQ_ (R2.out.below hb3)
    clear hb3
    go_wp2_with ((with_reducible refine pick none ?_); refine store_blk rfl 46 _ _ rfl w.heap.size #[.int .u8 0,.int .u32 0,.int .u32 0,.int .u32 0] rfl rfl 46 _ R3.out info_ino rfl (by simp [Value.oneCell']) ?_; intro w5 hk5 hg5)
    have A5 := A3.out.stored HS.out R3.out (.inr rfl) (by decide) hg5
    exact bodyPost_ret (v := .tuple #[.agg #[.int .u8 0,.int .u32 0,.int .u32 0,.int .u32 0],.bool false]) (results_row_tmp rfl _ _ w.heap.size 46 _ (0,0) _ rfl _ rfl hk5 Tryz.underlying46 rfl info_ino) rfl ⟨S2,D2,by rw [HE.out],A5.rep,A5.st⟩
 | some q =>
   have hq := hbs.shown hok (get_in hg)
   rw [← hK] at hg
   have hE := loadv_some hg
   rw [hK] at hg
   have HG := hQ_ hg
   have HX := hQ_ (fun w => get_ok q.value w (by unfold maxLen; omega))
   unfold GetE at HX
   obtain ⟨xk,xl,xz,xp,xb,hv⟩ := getv_parts q.value
   rw [hv] at HX hE
   have HE := hQ_ hE
   obtain ⟨qk,qv,qg⟩ := q
   dsimp only at HX hq
   clear hok hbs hg hK hE hv
   go_enter Tryz.func127,Tryz.ntmps127
   go_wp2_with fail
   refine (HI.out _).mono ?_
   rintro e w1 ⟨rfl,hb1⟩
   have A1 := hQ_ (A0.out.below HS.out hb1)
   have R1 := hQ_ (R0.out.below hb1)
   clear hb1
   go_wp2_with fail
   refine (HGet.out K A1.out.rep HL.out HKS.out).mono ?_
   rw [HG.out]
   rintro e w2 ⟨S2,D2,rfl,hr2,st2⟩
   have A2 := hQ_ (A1.out.step HS.out hr2 st2)
   have R2 := hQ_ (A1.out.blk HS.out R1.out (.inr rfl) st2)
   clear hr2 st2
   dsimp only [GotV]
   go_wp2_with fail
   refine (HX.out _).mono ?_
   rintro e w3 ⟨rfl,hb3⟩
   have A3 := hQ_ (A2.out.below HS.out hb3)
   have R3 := hQ_ (R2.out.below hb3)
   clear hb3
   go_wp2_with ((with_reducible refine pick none ?_); refine store_blk rfl 46 _ _ rfl w.heap.size #[.int .u8 xk,.int .u32 xl,.int .u32 xz,.int .u32 xp] rfl rfl 46 _ R3.out info_ino rfl (by simp [Value.oneCell']) ?_; intro w5 hk5 hg5)
   have A5 := A3.out.stored HS.out R3.out (.inr rfl) (by decide) hg5
   exact bodyPost_ret (v := .tuple #[.agg #[.int .u8 xk,.int .u32 xl,.int .u32 xz,.int .u32 xp],.bool xb]) (results_row_tmp rfl _ _ w.heap.size 46 _ (0,0) _ rfl _ rfl hk5 Tryz.underlying46 rfl info_ino) rfl ⟨S2,D2,by rw [HE.out],A5.rep,A5.st⟩
theorem nput_size (k l z p : Int) : (nput k l z p).size ≤ 1000 := by
 unfold nput
 rw [str_size]
 simp [nb,low_len]
structure InvS (Rep : RepT) (w : World) (v : Value) (s : Vs) (S D : Nat → Prop) (k l z p : Int) (u : World) : Prop where
 at_ : At Rep w S D (fun b => False ∨ b = w.heap.size) u v s S D
 blk : Blk u w.heap.size #[.int .u8 k,.int .u32 l,.int .u32 z,.int .u32 p] 46
theorem invs_step {w u u' : World} {v : Value} {s : Vs} {S D : Nat → Prop} {k l z p : Int} (hS : Hid (Stays Rep)) (J : Hid (InvS Rep w v s S D k l z p u)) (hb : Below u.heap.size u u') : Hid (InvS Rep w v s S D k l z p u') := hQ_ ⟨J.out.1.below hS.out hb,J.out.2.below hb⟩
theorem invs_cells {w u : World} {v : Value} {s : Vs} {S D : Nat → Prop} {k l z p : Int} (J : Hid (InvS Rep w v s S D k l z p u)) : u.cell? ⟨w.heap.size,0,none⟩ = some (.int .u8 k) ∧ u.cell? ⟨w.heap.size,1,none⟩ = some (.int .u32 l) ∧ u.cell? ⟨w.heap.size,2,none⟩ = some (.int .u32 z) ∧ u.cell? ⟨w.heap.size,3,none⟩ = some (.int .u32 p) := ⟨J.out.2.cell 0,J.out.2.cell 1,J.out.2.cell 2,J.out.2.cell 3⟩
theorem save_ok (hS : Stays Rep) (hX : ViewL.SetOk Rep) : SaveOk Rep := by
 intro w v s S D ino k l z p hr hl h0 h1 hi
 have A0 := hQ_ (At.start hr)
 have HI := hQ_ (fun w => inode_calls ino w h0 h1)
 have HP := hQ_ (fun w => put_ok k l z p w hi.k0 hi.k1 hi.l0 hi.l1 hi.s0 hi.s1 hi.p0 hi.p1)
 have HKS : Hid ((kI ino).size ≤ 200000000000000) := hQ_ (by have := ki_size ino; omega)
 have HVS : Hid ((nput k l z p).size ≤ 200000000000000) := hQ_ (by have := nput_size k l z p; omega)
 generalize kI ino = K at *
 generalize nput k l z p = V at *
 have HB0 := (Below.refl w.heap.size w).alloc (Nat.le_refl _) (.cells #[.int .u8 k,.int .u32 l,.int .u32 z,.int .u32 p] 46)
 have A1 := A0.out.own hS HB0 (Nat.le_refl _) (by simp)
 have R1 := Blk.new_ w #[.int .u8 k,.int .u32 l,.int .u32 z,.int .u32 p] 46
 have J0 : Hid (InvS Rep w v s S D k l z p (w.alloc (.cells #[.int .u8 k,.int .u32 l,.int .u32 z,.int .u32 p] 46)).drew) := hQ_ ⟨A1.below hS ((Below.refl _ _).drew),R1.drew⟩
 obtain ⟨c0,c1,c2,c3⟩ := invs_cells J0
 have HS := hQ_ hS
 have HXJ : Hid (∀ u,Hid (InvS Rep w v s S D k l z p u) → Calls Tryz.prog 122 #[v,.string K,.string V] u fun e w' => ∃ S' D',e = .returned (.bool (!fullW s.wr ⟨K,V,false⟩)) ∧ Rep w' v (s.write ⟨K,V,false⟩) S' D' ∧ Stp S D S' D' w w') := hQ_ (fun u J => (hX K V J.out.1.rep hl HKS.out HVS.out).mono (by
  rintro e w' ⟨S',D',e1,h1,h2⟩
  exact ⟨S',D',e1,h1,(J.out.1.step HS.out h1 h2).st⟩))
 clear hr hl hS hX HB0 hi A1 R1
 go_enter Tryz.func101,Tryz.ntmps101
 go_wp2_with fail
 go_region_law (first
  | (go_simp; go_at_call 123; refine (HI.out _).mono ?_; rintro e w2 ⟨rfl,hb2⟩; have J2 := invs_step HS (by assumption) hb2; obtain ⟨d0,d1,d2,d3⟩ := invs_cells J2; clear hb2)
  | (go_simp; go_at_call 124; refine (HP.out _).mono ?_; rintro e w3 ⟨rfl,hb3⟩; have J3 := invs_step HS (by assumption) hb3; obtain ⟨e0,e1,e2,e3⟩ := invs_cells J3; clear hb3)
  | (go_simp; go_at_call 122; refine (HXJ.out _ (by assumption)).mono ?_; rintro e w4 ⟨S4,D4,rfl,hr4,st4⟩; have HR4 := hQ_ hr4; have HST4 := hQ_ st4; clear hr4 st4))
 all_goals
  go_wp2_with fail
  go_ret
  exact ⟨S4,D4,rfl,HR4.out,HST4.out⟩
theorem drop_ok (hS : Stays Rep) (hX : CutOk Rep) : DropOk Rep := by
 intro w v s S D ino hr hl h0 h1
 have A0 := hQ_ (At.start hr)
 have HI := hQ_ (fun w => inode_calls ino w h0 h1)
 have HKS : Hid ((kI ino).size ≤ 200000000000000) := hQ_ (by have := ki_size ino; omega)
 generalize kI ino = K at *
 have HS := hQ_ hS
 have HL := hQ_ hl
 have HX := hQ_ hX
 clear hr hl hS hX
 go_enter Tryz.func140,Tryz.ntmps140
 go_wp2_with fail
 refine (HI.out _).mono ?_
 rintro e w2 ⟨rfl,hb2⟩
 have A2 := hQ_ (A0.out.below HS.out hb2)
 clear hb2
 go_wp2_with fail
 refine (HX.out K A2.out.rep HL.out HKS.out).mono ?_
 rintro e w4 ⟨S4,D4,rfl,hr4,st4⟩
 have A4 := hQ_ (A2.out.step HS.out hr4 st4)
 clear hr4 st4
 go_wp2_with fail
 go_ret
 exact ⟨S4,D4,rfl,A4.out.rep,A4.out.st⟩
def ChildV (L : List Pr) (dir : Int) (name : ByteArray) : Value := .tuple #[.int .u32 (childM L dir name).1,.bool (childM L dir name).2]
theorem childv_none {L : List Pr} {dir : Int} {name : ByteArray} (h : getL (kE dir name) L = none) : ChildV L dir name = .tuple #[.int .u32 0,.bool false] := by
 unfold ChildV childM
 rw [h]
theorem childv_no {L : List Pr} {dir : Int} {name : ByteArray} {q : Pr} (h : getL (kE dir name) L = some q) (h4 : q.value.size ≠ 4) : ChildV L dir name = .tuple #[.int .u32 0,.bool false] := by
 unfold ChildV childM
 rw [h]
 dsimp only
 rw [if_neg h4]
theorem childv_yes {L : List Pr} {dir : Int} {name : ByteArray} {q : Pr} (h : getL (kE dir name) L = some q) (h4 : q.value.size = 4) : ChildV L dir name = .tuple #[.int .u32 (PackM.getn (txt q.value) 0 4),.bool true] := by
 unfold ChildV childM
 rw [h]
 dsimp only
 rw [if_pos h4]
theorem child_ok (hS : Stays Rep) (hG : GetOk Rep) (hB : Small Rep) : ChildOk Rep := by
 intro w v s S D dir name hr hl h0 h1 hn
 show Calls _ _ _ _ (WalkL.Stepped Rep v (s.read (kE dir name)) (ChildV s.shown dir name) S D w)
 have A0 := hQ_ (At.start hr)
 have HI := hQ_ (fun w => entry_calls dir name w h0 h1 hn)
 have HKS : Hid ((kE dir name).size ≤ 200000000000000) := hQ_ (by have := ke_size dir name; omega)
 have hok := hS.ok hr
 have hbs := hB hr
 have HS := hQ_ hS
 have HL := hQ_ hl
 have HGet := hQ_ hG
 have hns : (name.size : Int) ≤ 100000 := by omega
 obtain ⟨K,hK⟩ : ∃ K,kE dir name = K := ⟨_,rfl⟩
 rw [hK] at HI HKS ⊢
 clear hr hl hS hG hB
 rcases (show (∃ t : ByteArray,t.size ≠ 4 ∧ t.size ≤ 200000000000000 ∧ (∃ b,GotV (getL K s.shown) = .tuple #[.string t,.bool b]) ∧ ChildV s.shown dir name = .tuple #[.int .u32 0,.bool false]) ∨ (∃ t : ByteArray,t.size = 4 ∧ GotV (getL K s.shown) = .tuple #[.string t,.bool true] ∧ ChildV s.shown dir name = .tuple #[.int .u32 (PackM.getn (txt t) 0 4),.bool true]) by
  cases hg : getL K s.shown with
  | none =>
    rw [← hK] at hg
    exact .inl ⟨⟨#[]⟩,by decide,by decide,⟨false,rfl⟩,childv_none hg⟩
  | some q =>
    have hq := hbs.shown hok (get_in hg)
    rw [← hK] at hg
    by_cases h4 : q.value.size = 4
    ·exact .inr ⟨q.value,h4,rfl,childv_yes hg h4⟩
    ·exact .inl ⟨q.value,h4,hq,⟨true,rfl⟩,childv_no hg h4⟩) with ⟨t,ht,ht2,⟨b,hv⟩,he⟩ | ⟨t,ht,hv,he⟩
 ·have HV := hQ_ hv
  have HE := hQ_ he
  have d : ((t.size : Int) != 4) = true := by simp; omega
  have hts : (t.size : Int) ≤ 9223372036854775807 := by omega
  clear hv he hok hbs hK ht ht2
  go_enter Tryz.func146,Tryz.ntmps146
  go_wp2_with fail
  refine (HI.out _).mono ?_
  rintro e w1 ⟨rfl,hb1⟩
  have A1 := hQ_ (A0.out.below HS.out hb1)
  clear hb1
  go_wp2_with fail
  refine (HGet.out K A1.out.rep HL.out HKS.out).mono ?_
  rw [HV.out]
  rintro e w2 ⟨S2,D2,rfl,hr2,st2⟩
  have A2 := hQ_ (A1.out.step HS.out hr2 st2)
  clear hr2 st2
  go_wp2_with fail
  go_ret2
  exact ⟨S2,D2,by rw [HE.out]; rfl,A2.out.rep,A2.out.st⟩
 ·have HV := hQ_ hv
  have HE := hQ_ he
  have d : ((t.size : Int) != 4) = false := by simp; omega
  have hts : (t.size : Int) ≤ 9223372036854775807 := by omega
  have hbd := get_bd (txt t) 0 4 (txt_bd t)
  have e256 : (256 : Int) ^ 4 = 4294967296 := by decide
  rw [e256] at hbd
  have hgx : gx (txt t) 0 4 = PackM.getn (txt t) 0 4 := by
   have hl := txt_len t
   have hg := g_ok (txt t) 0 4 (by omega) (by rw [show width 4 = 4 from rfl]; omega)
   rw [hg.1]
   rfl
  have HG : Hid (∀ (A : Option Addr) (c : Nat) (w : World),Bs w A 4 (txt t) → Calls Tryz.prog 157 #[.slice A (4 : Nat) c,.int .i64 0,.int .i64 4] w fun e w' => e = .returned (.tuple #[.int .u64 (PackM.getn (txt t) 0 4),.int .i64 (gi (txt t) 0 4),.int .i64 (ge (txt t) 0 4)]) ∧ w = w') := hQ_ (fun A c w hb => by
   have := get_calls A 4 c (txt t) 0 4 w hb (by omega) (by omega) (by omega) (by omega) (by omega)
   rw [hgx] at this
   exact this)
  generalize PackM.getn (txt t) 0 4 = X at *
  generalize gi (txt t) 0 4 = X2 at *
  generalize ge (txt t) 0 4 = X3 at *
  clear hv he hok hbs hK hgx e256
  go_enter Tryz.func146,Tryz.ntmps146
  go_wp2_with fail
  refine (HI.out _).mono ?_
  rintro e w1 ⟨rfl,hb1⟩
  have A1 := hQ_ (A0.out.below HS.out hb1)
  clear hb1
  go_wp2_with fail
  refine (HGet.out K A1.out.rep HL.out HKS.out).mono ?_
  rw [HV.out]
  rintro e w2 ⟨S2,D2,rfl,hr2,st2⟩
  have A2 := hQ_ (A1.out.step HS.out hr2 st2)
  clear hr2 st2
  obtain ⟨cap,w3,hrun,hf,hb3⟩ := conv_key w2 t
  rw [ht] at hrun hf
  have HF := hQ_ hf
  have A3 := hQ_ (A2.out.below HS.out hb3)
  clear hf hb3 ht
  go_wp2_with ((with_reducible refine pick (some 26) ?_); refine wpList_conv rfl 9 39 _ rfl (.string t) (.slice (some ⟨w2.heap.size,0,none⟩) 4 cap) rfl hrun ?_)
  refine (HG.out _ _ _ HF.out.bs).mono ?_
  rintro e w4 ⟨rfl,rfl⟩
  go_wp2_with fail
  go_ret2
  exact ⟨S2,D2,by rw [HE.out]; rfl,A3.out.rep,A3.out.st⟩
theorem hang_ok (hS : Stays Rep) (hX : ViewL.SetOk Rep) : HangOk Rep := by
 intro w v s S D dir name ino hr hl h0 h1 i0 i1 hn
 have A0 := hQ_ (At.start hr)
 have HI := hQ_ (fun w => entry_calls dir name w h0 h1 hn)
 have HKS : Hid ((kE dir name).size ≤ 200000000000000) := hQ_ (by have := ke_size dir name; omega)
 have HVS : Hid ((hangV ino).size ≤ 200000000000000) := hQ_ (by rw [hangV_size]; omega)
 have HP := hQ_ (fun w => put_calls none 0 0 [] 4 ino w (Bs.nil_ _ _) (by omega) (by omega) (by omega))
 rw [List.nil_append,show width 4 = 4 from rfl] at HP
 have HLN : Hid ((low 4 ino).length = 4) := hQ_ (low_len 4 ino)
 have HSTR : Hid (str (low 4 ino) = hangV ino) := hQ_ rfl
 have hns : (name.size : Int) ≤ 100000 := by omega
 generalize kE dir name = K at *
 generalize hangV ino = V at *
 generalize low 4 ino = Z at *
 have HS := hQ_ hS
 have HL := hQ_ hl
 have HX := hQ_ hX
 clear hr hl hS hX
 go_enter Tryz.func102,Tryz.ntmps102
 go_wp2_with fail
 refine (HI.out _).mono ?_
 rintro e w1 ⟨rfl,hb1⟩
 have A1 := hQ_ (A0.out.below HS.out hb1)
 clear hb1
 go_wp2_with fail
 refine (HP.out _).mono ?_
 intro e w2 hm
 obtain ⟨g,cap,rfl,ho,hb2⟩ := hm.at_ HLN.out
 have hst := ho.str_ (P := Tryz.prog) 39 9 Tryz.underlying39 Tryz.underlying5 Tryz.underlying9
 rw [HSTR.out] at hst
 have A2 := hQ_ (A1.out.below HS.out hb2)
 clear hm ho hb2
 go_wp2_with fail
 refine (HX.out K V A2.out.rep HL.out HKS.out HVS.out).mono ?_
 rintro e w4 ⟨S4,D4,rfl,hr4,st4⟩
 have A4 := hQ_ (A2.out.step HS.out hr4 st4)
 clear hr4 st4
 go_wp2_with fail
 go_ret
 exact ⟨S4,D4,rfl,A4.out.rep,A4.out.st⟩
theorem unhang_ok (hS : Stays Rep) (hX : CutOk Rep) : UnhangOk Rep := by
 intro w v s S D dir name hr hl h0 h1 hn
 have A0 := hQ_ (At.start hr)
 have HI := hQ_ (fun w => entry_calls dir name w h0 h1 hn)
 have HKS : Hid ((kE dir name).size ≤ 200000000000000) := hQ_ (by have := ke_size dir name; omega)
 have hns : (name.size : Int) ≤ 100000 := by omega
 generalize kE dir name = K at *
 have HS := hQ_ hS
 have HL := hQ_ hl
 have HX := hQ_ hX
 clear hr hl hS hX
 go_enter Tryz.func137,Tryz.ntmps137
 go_wp2_with fail
 refine (HI.out _).mono ?_
 rintro e w2 ⟨rfl,hb2⟩
 have A2 := hQ_ (A0.out.below HS.out hb2)
 clear hb2
 go_wp2_with fail
 refine (HX.out K A2.out.rep HL.out HKS.out).mono ?_
 rintro e w4 ⟨S4,D4,rfl,hr4,st4⟩
 have A4 := hQ_ (A2.out.step HS.out hr4 st4)
 clear hr4 st4
 go_wp2_with fail
 go_ret
 exact ⟨S4,D4,rfl,A4.out.rep,A4.out.st⟩
end Go.Proofs.YtogdjbhjgbnicaaGreatDoor.WalkKa