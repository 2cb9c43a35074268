import Derived.Test.YtfalhnomhidkcaaGreatDoorSq
import Derived.Test.YtfalhnomhidkcaaGreatDoorDirsRa
set_option maxHeartbeats 16000000
set_option linter.unusedVariables false
set_option linter.unusedSimpArgs false
set_option maxRecDepth 100000
namespace Go.Proofs.YtfalhnomhidkcaaGreatDoor.DirsRb
open Go.RowKit
open Byte KeysM TreeM Lst Ho Tx DirsM Chg DirsR DirsRa
open Own hiding keeps
open ViewR (Sh)
theorem info_ent : (Tryz.prog.info? 115).map (·.size) = some 2 := by kernel_rfl
theorem three (x y : ByteArray) : x = y ∨ kl y x = true ∨ kl x y = true := by
 cases h : kl y x with
 | true => exact .inr (.inl rfl)
 | false =>
   cases h2 : kl x y with
   | true => exact .inr (.inr rfl)
   | false => exact .inl (kl_tri h2 h)
theorem rng {w w' : World} {b o : Nat} {cs : List Value} (hb : Below w.heap.size w w') (hlt : b < w.heap.size) (h : w.rangeAt b o cs) : w'.rangeAt b o cs := fun i v hv => (hb.cell (p := ⟨b,o + i,none⟩) hlt).trans (h i v hv)
theorem ent_done {T : Nat → Prop} {w : World} {A : Option Addr} {m c base : Nat} {M : List En} (hT : ∀ b,base ≤ b → T b) (hso : So enE 115 w base (.slice A m c) m M) : EntA T w ⟨A,m,c⟩ M := by
 rcases hso.form with ⟨h1,h2⟩ | ⟨g,cap,h1,h2,h3,_⟩
 ·injection h1 with h1 h4 h5
  exact ⟨hso.sl,fun b o e => by dsimp only at e; rw [h1] at e; cases e⟩
 ·injection h1 with h1 h4 h5
  refine ⟨hso.sl,fun b o e => ?_⟩
  dsimp only at e
  rw [h1] at e
  injection e with e
  injection e with e1 e2
  subst e1
  exact ⟨hT _ h2,h3⟩
theorem named_calls {T : Nat → Prop} (h : Sh) (F : Fs) (i : Int) (nm : ByteArray) (y : Int) (n : Nd) (w : World) (hf : FsA T w h F) (hn : nodeM F i = some n) (hs : SmF F) (hT : ∀ b,w.heap.size ≤ b → T b) :
 Calls Tryz.prog 96 #[.agg #[.slice h.a h.n h.c],.int .u32 i,.string nm,.int .u32 y] w (FsE T (namedM F i nm y) w) := by
 have hix := idx_at hn
 obtain ⟨b,o,he,hha,hb,hlt,hcl,hent⟩ := hf.get hix.1
 obtain ⟨ha,hm,hc⟩ := h
 dsimp only at hha hlt
 subst hha
 have hlen : hm ≤ 1000 := by have := hf.len; have := hs.len; dsimp only at *; omega
 obtain ⟨W,hW⟩ : ∃ W,(w.alloc (.cells #[.slice (some ⟨b,o,none⟩) hm hc] 29)).alloc (.cells #[.slice none 0 0] 29) = W := ⟨_,rfl⟩
 have hbw : Below w.heap.size w W := by rw [← hW]; exact (bW_).alloc (by simp) _
 have hB0 : Blk W w.heap.size #[.slice (some ⟨b,o,none⟩) hm hc] 29 := by rw [← hW]; exact (Blk.new_ w _ _).alloc _
 have HB0 := hQ_ hB0
 have HBW := hQ_ hbw
 have HAT := hQ_ (fun v (hv : Below W.heap.size W v) => at_calls _ F i n v ((hf.below hbw).below hv) hn hs.len)
 unfold AtE at HAT
 dsimp only at HAT
 have HW := hQ_ hW
 have HF := hQ_ hf
 have hsn := hs.all n (node_mem hn).1
 have HLM : Hid (namedM F i nm y = withM F { n with ents := insE nm y (decide (y = 0)) n.ents }) := hQ_ (by unfold namedM; rw [hn])
 have HSF := hQ_ hs.len
 have HT := hQ_ hT
 have hel : he.n ≤ 1000 := by rw [← hent.len]; exact hsn.e
 rw [HLM.out]
 obtain ⟨R,hR⟩ : ∃ R,insE nm y (decide (y = 0)) n.ents = R := ⟨_,rfl⟩
 obtain ⟨dn0,hd0⟩ : ∃ dn0,(y == 0) = dn0 := ⟨_,rfl⟩
 have hd0' : decide (y = 0) = dn0 := by rw [← hd0]; rfl
 rw [hR]
 rw [hd0'] at hR
 have HWS : Hid (W.heap.size = w.heap.size + 2) := hQ_ (by rw [← hW]; simp)
 have hB1 : Blk W (w.heap.size + 1) #[.slice none 0 0] 29 := by
  rw [← hW]
  have := Blk.new_ (w.alloc (.cells #[.slice (some ⟨b,o,none⟩) hm hc] 29)) #[.slice none 0 0] 29
  simpa using this
 have HB1 := hQ_ hB1
 generalize idx F i = k at *
 obtain ⟨ni,nk,nl,nd,ne⟩ := n
 obtain ⟨ea,em,ec⟩ := he
 dsimp only at hcl hent hel hR
 have HR := hQ_ hR
 have RD : Hid (∀ v,Below W.heap.size W v → Below W.heap.size W v ∧ v.cell? ⟨w.heap.size,0,none⟩ = some (.slice (some ⟨b,o,none⟩) hm hc) ∧ v.cell? ⟨b,o + k * 5,none⟩ = some (.int .u32 ni) ∧ v.cell? ⟨b,o + k * 5 + 1,none⟩ = some (.int .u8 nk) ∧ v.cell? ⟨b,o + k * 5 + 2,none⟩ = some (.int .i64 nl) ∧ v.cell? ⟨b,o + k * 5 + 3,none⟩ = some (.string nd) ∧ v.cell? ⟨b,o + k * 5 + 4,none⟩ = some (.slice ea em ec)) := hQ_ (fun v hv => by
  have hx := hB0.below hv
  have hk := Own.keeps hbw hv
  have hz : ∀ i u,[Value.int .u32 ni,.int .u8 nk,.int .i64 nl,.string nd,.slice ea em ec][i]? = some u → v.cell? ⟨b,o + k * 5 + i,none⟩ = some u := fun i u hu => (hk.cell (p := ⟨b,o + k * 5 + i,none⟩) hb).trans (hcl i u hu)
  exact ⟨hv,hx.cell 0,hz 0 _ rfl,hz 1 _ rfl,hz 2 _ rfl,hz 3 _ rfl,hz 4 _ rfl⟩)
 obtain ⟨r0,r1,r2,r3,r4,r5,r6⟩ := RD.out W (Below.refl _ _)
 obtain ⟨s0,s1,s2,s3,s4,s5,s6⟩ := RD.out (W.alloc (.cells #[.int .u32 0,.int .u8 0,.int .i64 0,.string ⟨#[]⟩,.slice none 0 0] 85)) (bW_)
 have JB : Hid (Below W.heap.size W W.drew) := hQ_ ((Below.refl _ _).drew)
 have JA : Hid (Below W.heap.size W (W.alloc (.cells #[.int .u32 0,.int .u8 0,.int .i64 0,.string ⟨#[]⟩,.slice none 0 0] 85)).drew) := hQ_ ((bW_).drew)
 have KA : Hid (Blk (W.alloc (.cells #[.int .u32 0,.int .u8 0,.int .i64 0,.string ⟨#[]⟩,.slice none 0 0] 85)).drew W.heap.size #[.int .u32 0,.int .u8 0,.int .i64 0,.string ⟨#[]⟩,.slice none 0 0] 85) := hQ_ (Blk.new_ W _ _).drew
 have HEN := hQ_ hent
 dsimp only
 clear hf hn hs hW hB0 hB1 hbw hcl hent hsn HLM hT hix hR hd0'
 go_enter Tryz.func96,Tryz.ntmps96
 go_wp2_with fail
 rw [HW.out]
 go_upto_region 1 with (fail)
 go_cut [9] (fun p wx => Cut1 W #[.int .u32 ni,.int .u8 nk,.int .i64 nl,.string nd,.slice ea em ec] p wx)
 case first =>
  go_region_law (first
   | (go_simp; go_at_call 39; (with_reducible refine (HAT.out _ JA.out).mono ?_); rintro e v1 ⟨rfl,hv1⟩; have J1 := hQ_ (Own.keeps JA.out hv1); obtain ⟨q0,q1,q2,q3,q4,q5,q6⟩ := RD.out _ J1.out; have K1 := hQ_ (KA.out.below hv1); obtain ⟨g0,g1,g2,g3,g4⟩ : v1.cell? ⟨W.heap.size,0,none⟩ = some (.int .u32 0) ∧ v1.cell? ⟨W.heap.size,1,none⟩ = some (.int .u8 0) ∧ v1.cell? ⟨W.heap.size,2,none⟩ = some (.int .i64 0) ∧ v1.cell? ⟨W.heap.size,3,none⟩ = some (.string ⟨#[]⟩) ∧ v1.cell? ⟨W.heap.size,4,none⟩ = some (.slice none 0 0) := ⟨K1.out.cell 0,K1.out.cell 1,K1.out.cell 2,K1.out.cell 3,K1.out.cell 4⟩; obtain ⟨f0,f1,f2,f3,f4⟩ : v1.frozen? ⟨W.heap.size,0,none⟩ = false ∧ v1.frozen? ⟨W.heap.size,1,none⟩ = false ∧ v1.frozen? ⟨W.heap.size,2,none⟩ = false ∧ v1.frozen? ⟨W.heap.size,3,none⟩ = false ∧ v1.frozen? ⟨W.heap.size,4,none⟩ = false := ⟨K1.out.frozen 0,K1.out.frozen 1,K1.out.frozen 2,K1.out.frozen 3,K1.out.frozen 4⟩; clear hv1)
   | (go_simp; go_at_call 39; (with_reducible refine (HAT.out _ JB.out).mono ?_); rintro e v1 ⟨rfl,hv1⟩; have J1 := hQ_ (Own.keeps JB.out hv1); obtain ⟨q0,q1,q2,q3,q4,q5,q6⟩ := RD.out _ J1.out; have J2 : Hid (Below W.heap.size W (v1.alloc (.cells #[.int .u32 0,.int .u8 0,.int .i64 0,.string ⟨#[]⟩,.slice none 0 0] 85))) := hQ_ (J1.out.alloc J1.out.size _); obtain ⟨p0,p1,p2,p3,p4,p5,p6⟩ := RD.out _ J2.out; clear hv1))
  all_goals
   go_wp2_with fail
   go_meet
   first | (with_reducible exact cut_b J1.out _) | (with_reducible exact cut_a K1.out J1.out (Nat.le_refl _) _ _ _ _ _)
 case rest =>
  obtain ⟨g,rfl,hg,K2,J2⟩ := hcut
  have hws := HWS.out
  have HK2 := hQ_ K2
  have HBC := hQ_ (Own.keeps HBW.out J2)
  have HJ2 := hQ_ J2
  have hgl := K2.lt
  have c4 := cZ4 K2
  have SO0 := hQ_ (So.new_ enE 115 wc (Nat.le_refl wc.heap.size))
  have SB0 := hQ_ ((Below.refl wc.heap.size wc).alloc (Nat.le_refl _) (.cells #[] 115))
  have hB4 : (wc.alloc (.cells #[] 115)).cell? ⟨g,4,none⟩ = some (.slice ea em ec) := (K2.below SB0.out).cell 4
  obtain ⟨W1,hW1⟩ : ∃ W1,wc.alloc (.cells #[] 115) = W1 := ⟨_,rfl⟩
  rw [hW1] at hB4
  have HW1 := hQ_ hW1
  rw [hW1] at SO0 SB0
  clear K2 J2 RD JA JB KA r0 r1 r2 r3 r4 r5 r6 s0 s1 s2 s3 s4 s5 s6 HAT hW1
  go_wp2_with fail
  rw [HW1.out]
  go_wp2_with fail
  go_loopw [10,11,26] (fun v d j wr => ∃ (A : Option Addr) (m c k : Nat) (dn : Bool) (M : List En),v = .slice A m c ∧ d = .bool dn ∧ j = .int .i64 k ∧ k ≤ em ∧ m ≤ 2 * k ∧ So enE 115 wr wc.heap.size (.slice A m c) m M ∧ Hid (M ++ insE nm y dn (ne.drop k) = R) ∧ Below wc.heap.size wc wr) (fun _ _ j _ => em - (intOf j).toNat)
  case atStart => exact ⟨_,0,0,0,dn0,[],rfl,rfl,rfl,Nat.zero_le _,Nat.le_refl _,SO0.out,hQ_ (by rw [List.nil_append,List.drop_zero]; exact HR.out),SB0.out⟩
  case round =>
  obtain ⟨A,m,c,k,dn,M,rfl,rfl,rfl,hk,hmk,hso,HRR,hbel⟩ := hrel
  have HSO := hQ_ hso
  have HBL := hQ_ hbel
  have HBX := hQ_ (Own.keeps HBC.out hbel)
  have hbs := hbel.size
  have c4w : wr.cell? ⟨g,4,none⟩ = some (.slice ea em ec) := (HK2.out.below hbel).cell 4
  clear hso hbel c4 hB4
  by_cases hlt : k < em
  ·obtain ⟨x,b2,o2,hx,rfl,hb2,hcl⟩ := HEN.out.1.get k hlt
   have HCL := hQ_ (show w.rangeAt b2 (o2 + k * 2) [.string x.name,.int .u32 x.ino] from hcl)
   have HCW := hQ_ (rng HBX.out hb2 HCL.out)
   have c5 : wr.cell? ⟨b2,o2 + k * 2,none⟩ = some (.string x.name) := HCW.out 0 _ rfl
   have hr := HRR.out
   rw [drop_some hx] at hr
   unfold insE at hr
   clear hcl hx
   obtain ⟨xn,xi⟩ := x
   dsimp only at hr HCL HCW c5
   cases dn with
   | true =>
     rcases (show xn = nm ∨ kl nm xn = true ∨ kl xn nm = true from three xn nm) with hA | hB | hC
     ·have hk1 : kl xn nm = false := by rw [hA]; exact kl_irr _
      have hk2 : xn = nm := hA
      have e1 : (nm.toList == xn.toList) = true := (TreeR.eq_list _ _).trans (decide_eq_true hA.symm)
      have e2 : (xn.toList == nm.toList) = true := (TreeR.eq_list _ _).trans (decide_eq_true hA)
      have e4 : (xn.toList != nm.toList) = false := by rw [bne,e2]; rfl
      have e3 : Op.bytesLess nm.toList xn.toList = false := by rw [hA]; exact kl_irr _
      have HR2 : Hid ((M) ++ insE nm y true (ne.drop (k + 1)) = R) := hQ_ (by rw [hk1,if_pos hk2] at hr; rw [← hr]; simp)
      clear hr HRR hk1 hk2 hA
      go_wp2_with fail
      go_roundw
      case rel => exact ⟨A,m,c,k + 1,true,_,rfl,rfl,by go_num,by omega,by omega,HSO.out,HR2,HBL.out⟩
      case measure => simp [intOf]; omega
     ·have hk1 : kl xn nm = false := kl_asym hB
      have hk2 : ¬ xn = nm := (kl_ne hB).symm
      have e1 : (nm.toList == xn.toList) = false := (TreeR.eq_list _ _).trans (decide_eq_false (kl_ne hB))
      have e2 : (xn.toList == nm.toList) = false := (TreeR.eq_list _ _).trans (decide_eq_false hk2)
      have e4 : (xn.toList != nm.toList) = true := by rw [bne,e2]; rfl
      have e3 : Op.bytesLess nm.toList xn.toList = true := hB
      have HR2 : Hid ((M ++ [(⟨xn,xi⟩ : En)]) ++ insE nm y true (ne.drop (k + 1)) = R) := hQ_ (by rw [hk1,if_neg hk2] at hr; rw [← hr]; simp)
      clear hr HRR hk1 hk2 hB
      go_wp2_with (first | ((with_reducible refine pick (some 60) ?_); refine wpList_load_mid rfl 115 _ rfl b2 (o2 + k * 2) rfl [.string xn,.int .u32 xi] _ HCW.out Tryz.underlying115 rfl info_ent ?_) | ((with_reducible refine pick (some 62) ?_); refine wpList_append_any enE 115 rfl _ _ _ rfl Tryz.underlying83 info_en rfl wc.heap.size _ m M rfl (HSO.out.below (bW_)) _ 1 1 [(⟨xn,xi⟩ : En)] rfl (Sl.new_ enE _ _ _ _ rfl) (fun h => by cases h) (m + 1) rfl _ rfl (by unfold maxLen; omega) (by omega) (by simp; omega) ?_; intro v4 w4 hown4 hg4 hat4; obtain ⟨A4,c4,rfl,_⟩ := Tx.So.head hown4; have HSO4 := hQ_ hown4; have HBB4 : Hid (Below wc.heap.size wc w4) := hQ_ (Below.grown (Below.alloc HBL.out hbs _) hg4 (by simp; omega) (fun k hk => (HSO.out.lt hk).1)); have hbs4 := HBB4.out.size; have HBX4 := hQ_ (Own.keeps HBC.out HBB4.out); clear hown4 hg4))
      go_roundw
      case rel => exact ⟨A4,m + 1,c4,k + 1,true,_,rfl,rfl,by go_num,by omega,by omega,HSO4.out,HR2,HBB4.out⟩
      case measure => simp [intOf]; omega
     ·have hk1 : kl xn nm = true := hC
      have hk2 : ¬ xn = nm := kl_ne hC
      have e1 : (nm.toList == xn.toList) = false := (TreeR.eq_list _ _).trans (decide_eq_false (kl_ne hC).symm)
      have e2 : (xn.toList == nm.toList) = false := (TreeR.eq_list _ _).trans (decide_eq_false hk2)
      have e4 : (xn.toList != nm.toList) = true := by rw [bne,e2]; rfl
      have e3 : Op.bytesLess nm.toList xn.toList = false := kl_asym hC
      have HR2 : Hid ((M ++ [(⟨xn,xi⟩ : En)]) ++ insE nm y true (ne.drop (k + 1)) = R) := hQ_ (by rw [hk1,if_neg hk2] at hr; rw [← hr]; simp)
      clear hr HRR hk1 hk2 hC
      go_wp2_with (first | ((with_reducible refine pick (some 60) ?_); refine wpList_load_mid rfl 115 _ rfl b2 (o2 + k * 2) rfl [.string xn,.int .u32 xi] _ HCW.out Tryz.underlying115 rfl info_ent ?_) | ((with_reducible refine pick (some 62) ?_); refine wpList_append_any enE 115 rfl _ _ _ rfl Tryz.underlying83 info_en rfl wc.heap.size _ m M rfl (HSO.out.below (bW_)) _ 1 1 [(⟨xn,xi⟩ : En)] rfl (Sl.new_ enE _ _ _ _ rfl) (fun h => by cases h) (m + 1) rfl _ rfl (by unfold maxLen; omega) (by omega) (by simp; omega) ?_; intro v4 w4 hown4 hg4 hat4; obtain ⟨A4,c4,rfl,_⟩ := Tx.So.head hown4; have HSO4 := hQ_ hown4; have HBB4 : Hid (Below wc.heap.size wc w4) := hQ_ (Below.grown (Below.alloc HBL.out hbs _) hg4 (by simp; omega) (fun k hk => (HSO.out.lt hk).1)); have hbs4 := HBB4.out.size; have HBX4 := hQ_ (Own.keeps HBC.out HBB4.out); clear hown4 hg4))
      go_roundw
      case rel => exact ⟨A4,m + 1,c4,k + 1,true,_,rfl,rfl,by go_num,by omega,by omega,HSO4.out,HR2,HBB4.out⟩
      case measure => simp [intOf]; omega
   | false =>
     rcases (show xn = nm ∨ kl nm xn = true ∨ kl xn nm = true from three xn nm) with hA | hB | hC
     ·have hk1 : kl xn nm = false := by rw [hA]; exact kl_irr _
      have hk2 : xn = nm := hA
      have e1 : (nm.toList == xn.toList) = true := (TreeR.eq_list _ _).trans (decide_eq_true hA.symm)
      have e2 : (xn.toList == nm.toList) = true := (TreeR.eq_list _ _).trans (decide_eq_true hA)
      have e4 : (xn.toList != nm.toList) = false := by rw [bne,e2]; rfl
      have e3 : Op.bytesLess nm.toList xn.toList = false := by rw [hA]; exact kl_irr _
      have HR2 : Hid ((M ++ [(⟨nm,y⟩ : En)]) ++ insE nm y true (ne.drop (k + 1)) = R) := hQ_ (by rw [hk1,if_pos hk2] at hr; rw [← hr]; simp)
      clear hr HRR hk1 hk2 hA
      go_wp2_with (first | ((with_reducible refine pick (some 46) ?_); refine wpList_append_any enE 115 rfl _ _ _ rfl Tryz.underlying83 info_en rfl wc.heap.size _ m M rfl (HSO.out.below (bW_)) _ 1 1 [(⟨nm,y⟩ : En)] rfl (Sl.new_ enE _ _ _ _ rfl) (fun h => by cases h) (m + 1) rfl _ rfl (by unfold maxLen; omega) (by omega) (by simp; omega) ?_; intro v3 w3 hown3 hg3 hat3; obtain ⟨A3,c3,rfl,_⟩ := Tx.So.head hown3; have HSO3 := hQ_ hown3; have HBB3 : Hid (Below wc.heap.size wc w3) := hQ_ (Below.grown (Below.alloc HBL.out hbs _) hg3 (by simp; omega) (fun k hk => (HSO.out.lt hk).1)); have hbs3 := HBB3.out.size; have HBX3 := hQ_ (Own.keeps HBC.out HBB3.out); clear hown3 hg3; have c43 : w3.cell? ⟨g,4,none⟩ = some (.slice (some ⟨b2,o2,none⟩) em ec) := (HK2.out.below HBB3.out).cell 4; have c53 : w3.cell? ⟨b2,o2 + k * 2,none⟩ = some (.string xn) := (rng HBX3.out hb2 HCL.out) 0 _ rfl))
      go_roundw
      case rel => exact ⟨A3,m + 1,c3,k + 1,true,_,rfl,rfl,by go_num,by omega,by omega,HSO3.out,HR2,HBB3.out⟩
      case measure => simp [intOf]; omega
     ·have hk1 : kl xn nm = false := kl_asym hB
      have hk2 : ¬ xn = nm := (kl_ne hB).symm
      have e1 : (nm.toList == xn.toList) = false := (TreeR.eq_list _ _).trans (decide_eq_false (kl_ne hB))
      have e2 : (xn.toList == nm.toList) = false := (TreeR.eq_list _ _).trans (decide_eq_false hk2)
      have e4 : (xn.toList != nm.toList) = true := by rw [bne,e2]; rfl
      have e3 : Op.bytesLess nm.toList xn.toList = true := hB
      have HR2 : Hid ((M ++ [(⟨nm,y⟩ : En)] ++ [(⟨xn,xi⟩ : En)]) ++ insE nm y true (ne.drop (k + 1)) = R) := hQ_ (by rw [hk1,if_neg hk2] at hr; rw [← hr]; simp)
      clear hr HRR hk1 hk2 hB
      go_wp2_with (first | ((with_reducible refine pick (some 46) ?_); refine wpList_append_any enE 115 rfl _ _ _ rfl Tryz.underlying83 info_en rfl wc.heap.size _ m M rfl (HSO.out.below (bW_)) _ 1 1 [(⟨nm,y⟩ : En)] rfl (Sl.new_ enE _ _ _ _ rfl) (fun h => by cases h) (m + 1) rfl _ rfl (by unfold maxLen; omega) (by omega) (by simp; omega) ?_; intro v3 w3 hown3 hg3 hat3; obtain ⟨A3,c3,rfl,_⟩ := Tx.So.head hown3; have HSO3 := hQ_ hown3; have HBB3 : Hid (Below wc.heap.size wc w3) := hQ_ (Below.grown (Below.alloc HBL.out hbs _) hg3 (by simp; omega) (fun k hk => (HSO.out.lt hk).1)); have hbs3 := HBB3.out.size; have HBX3 := hQ_ (Own.keeps HBC.out HBB3.out); clear hown3 hg3; have c43 : w3.cell? ⟨g,4,none⟩ = some (.slice (some ⟨b2,o2,none⟩) em ec) := (HK2.out.below HBB3.out).cell 4; have c53 : w3.cell? ⟨b2,o2 + k * 2,none⟩ = some (.string xn) := (rng HBX3.out hb2 HCL.out) 0 _ rfl) | ((with_reducible refine pick (some 60) ?_); refine wpList_load_mid rfl 115 _ rfl b2 (o2 + k * 2) rfl [.string xn,.int .u32 xi] _ (rng HBX3.out hb2 HCL.out) Tryz.underlying115 rfl info_ent ?_) | ((with_reducible refine pick (some 62) ?_); refine wpList_append_any enE 115 rfl _ _ _ rfl Tryz.underlying83 info_en rfl wc.heap.size _ (m + 1) (M ++ [(⟨nm,y⟩ : En)]) rfl (HSO3.out.below (bW_)) _ 1 1 [(⟨xn,xi⟩ : En)] rfl (Sl.new_ enE _ _ _ _ rfl) (fun h => by cases h) ((m + 1) + 1) rfl _ rfl (by unfold maxLen; omega) (by omega) (by simp; omega) ?_; intro v4 w4 hown4 hg4 hat4; obtain ⟨A4,c4,rfl,_⟩ := Tx.So.head hown4; have HSO4 := hQ_ hown4; have HBB4 : Hid (Below wc.heap.size wc w4) := hQ_ (Below.grown (Below.alloc HBB3.out hbs3 _) hg4 (by simp; omega) (fun k hk => (HSO3.out.lt hk).1)); have hbs4 := HBB4.out.size; have HBX4 := hQ_ (Own.keeps HBC.out HBB4.out); clear hown4 hg4))
      go_roundw
      case rel => exact ⟨A4,m + 1 + 1,c4,k + 1,true,_,rfl,rfl,by go_num,by omega,by omega,HSO4.out,HR2,HBB4.out⟩
      case measure => simp [intOf]; omega
     ·have hk1 : kl xn nm = true := hC
      have hk2 : ¬ xn = nm := kl_ne hC
      have e1 : (nm.toList == xn.toList) = false := (TreeR.eq_list _ _).trans (decide_eq_false (kl_ne hC).symm)
      have e2 : (xn.toList == nm.toList) = false := (TreeR.eq_list _ _).trans (decide_eq_false hk2)
      have e4 : (xn.toList != nm.toList) = true := by rw [bne,e2]; rfl
      have e3 : Op.bytesLess nm.toList xn.toList = false := kl_asym hC
      have HR2 : Hid ((M ++ [(⟨xn,xi⟩ : En)]) ++ insE nm y false (ne.drop (k + 1)) = R) := hQ_ (by rw [hk1,if_neg hk2] at hr; rw [← hr]; simp)
      clear hr HRR hk1 hk2 hC
      go_wp2_with (first | ((with_reducible refine pick (some 60) ?_); refine wpList_load_mid rfl 115 _ rfl b2 (o2 + k * 2) rfl [.string xn,.int .u32 xi] _ HCW.out Tryz.underlying115 rfl info_ent ?_) | ((with_reducible refine pick (some 62) ?_); refine wpList_append_any enE 115 rfl _ _ _ rfl Tryz.underlying83 info_en rfl wc.heap.size _ m M rfl (HSO.out.below (bW_)) _ 1 1 [(⟨xn,xi⟩ : En)] rfl (Sl.new_ enE _ _ _ _ rfl) (fun h => by cases h) (m + 1) rfl _ rfl (by unfold maxLen; omega) (by omega) (by simp; omega) ?_; intro v4 w4 hown4 hg4 hat4; obtain ⟨A4,c4,rfl,_⟩ := Tx.So.head hown4; have HSO4 := hQ_ hown4; have HBB4 : Hid (Below wc.heap.size wc w4) := hQ_ (Below.grown (Below.alloc HBL.out hbs _) hg4 (by simp; omega) (fun k hk => (HSO.out.lt hk).1)); have hbs4 := HBB4.out.size; have HBX4 := hQ_ (Own.keeps HBC.out HBB4.out); clear hown4 hg4))
      go_roundw
      case rel => exact ⟨A4,m + 1,c4,k + 1,false,_,rfl,rfl,by go_num,by omega,by omega,HSO4.out,HR2,HBB4.out⟩
      case measure => simp [intOf]; omega
  ·have hr := HRR.out
   rw [List.drop_eq_nil_of_le (by rw [HEN.out.1.1]; dsimp only; omega)] at hr
   unfold insE at hr
   cases dn with
   | true =>
     have HM : Hid (M = R) := hQ_ (by rw [← hr]; simp)
     clear hr HRR
     go_upto_region 15 with (fail)
     have hbz := HBL.out.size
     have HJZ := hQ_ (HJ2.out.trans (HBL.out.mono HJ2.out.size))
     have c4z : wr.cell? ⟨g,4,none⟩ = some (.slice ea em ec) := (HK2.out.below HBL.out).cell 4
     have f4z : wr.frozen? ⟨g,4,none⟩ = false := (HK2.out.below HBL.out).frozen 4
     have K3 := hQ_ (show Blk (wr.setCell ⟨g,4,none⟩ (.slice A (m) c)) g #[.int .u32 ni,.int .u8 nk,.int .i64 nl,.string nd,.slice A (m) c] 85 from (HK2.out.below HBL.out).set_ 4 (.slice A (m) c))
     have J3 := hQ_ (HJZ.out.setCell (p := ⟨g,4,none⟩) hg (.slice A (m) c))
     have HBX3z := hQ_ (Own.keeps HBW.out J3.out)
     have R3 := hQ_ (HB1.out.below J3.out)
     have c03 : (wr.setCell ⟨g,4,none⟩ (.slice A (m) c)).cell? ⟨w.heap.size,0,none⟩ = some (.slice (some ⟨b,o,none⟩) hm hc) := (HB0.out.below J3.out).cell 0
     have EN3 : EntA (But T (w.heap.size + 1)) (wr.setCell ⟨g,4,none⟩ (.slice A (m) c)) ⟨A,m,c⟩ R := by
      have h0 := ent_done (T := fun b => But T (w.heap.size + 1) b ∧ b ≠ g) (fun b hb => ⟨⟨HT.out b (by have := HBC.out.size; omega),by have := HJ2.out.size; omega⟩,by omega⟩) HSO.out
      rw [HM.out] at h0
      exact h0.chg (S := fun b => b = g) ((Chg.refl (fun b => b = g) _).setCell (p := ⟨g,4,none⟩) (.inl rfl) _) (fun b hb _ => ⟨hb.2,hb.1⟩)
     have HWC := hQ_ (with_calls (T := But T (w.heap.size + 1)) ⟨some ⟨b,o,none⟩,hm,hc⟩ F ⟨ni,nk,nl,nd,R⟩ ⟨A,m,c⟩ (wr.setCell ⟨g,4,none⟩ (.slice A (m) c)) ((fs_but HF.out (by omega)).below HBX3z.out) EN3 HSF.out (fun b hb => ⟨HT.out b (Nat.le_trans HBX3z.out.size hb),by have := J3.out.size; omega⟩))
     dsimp only [nodeV] at HWC
     clear EN3
     go_wp2_with (first
      | ((with_reducible refine pick (some 75) ?_); refine load_blk rfl 85 _ rfl g rfl 85 _ _ K3.out Tryz.underlying85 rfl info_node ?_)
      | (go_at_call 94; refine HWC.out.mono ?_; rintro e w4 ⟨h4,rfl,hf4,hb4⟩; have R4 := hQ_ (R3.out.below hb4); have HF4 := hQ_ hf4; have HB4 := hQ_ (Own.keeps HBX3z.out hb4); clear hf4 hb4)
      | ((with_reducible refine pick none ?_); refine store_blk rfl 29 _ _ rfl (w.heap.size + 1) #[.slice h4.a h4.n h4.c] rfl rfl 29 _ R4.out info_fs rfl (by simp [Value.oneCell']) ?_; intro w5 hk5 hg5))
     exact bodyPost_ret (v := .agg #[.slice h4.a h4.n h4.c]) (results_cell_row rfl _ _ (w.heap.size + 1) 29 _ (0,0) _ rfl hk5 Tryz.underlying29 rfl info_fs) rfl ⟨h4,rfl,fs_store HF4.out hg5,HB4.out.grown hg5 HB4.out.size (fun k hk => by injection hk with hk; omega)⟩
   | false =>
     have HM : Hid (M ++ [(⟨nm,y⟩ : En)] = R) := hQ_ (by rw [← hr]; simp)
     clear hr HRR
     go_upto_region 15 with (((with_reducible refine pick (some 71) ?_); refine wpList_append_any enE 115 rfl _ _ _ rfl Tryz.underlying83 info_en rfl wc.heap.size _ m M rfl (HSO.out.below (bW_)) _ 1 1 [(⟨nm,y⟩ : En)] rfl (Sl.new_ enE _ _ _ _ rfl) (fun h => by cases h) (m + 1) rfl _ rfl (by unfold maxLen; omega) (by omega) (by simp; omega) ?_; intro v3 w3 hown3 hg3 hat3; obtain ⟨A3,c3,rfl,_⟩ := Tx.So.head hown3; have HSO3 := hQ_ hown3; have HBB3 : Hid (Below wc.heap.size wc w3) := hQ_ (Below.grown (Below.alloc HBL.out hbs _) hg3 (by simp; omega) (fun k hk => (HSO.out.lt hk).1)); have hbs3 := HBB3.out.size; have HBX3 := hQ_ (Own.keeps HBC.out HBB3.out); clear hown3 hg3))
     have hbz := HBB3.out.size
     have HJZ := hQ_ (HJ2.out.trans (HBB3.out.mono HJ2.out.size))
     have c4z : w3.cell? ⟨g,4,none⟩ = some (.slice ea em ec) := (HK2.out.below HBB3.out).cell 4
     have f4z : w3.frozen? ⟨g,4,none⟩ = false := (HK2.out.below HBB3.out).frozen 4
     have K3 := hQ_ (show Blk (w3.setCell ⟨g,4,none⟩ (.slice A3 (m + 1) c3)) g #[.int .u32 ni,.int .u8 nk,.int .i64 nl,.string nd,.slice A3 (m + 1) c3] 85 from (HK2.out.below HBB3.out).set_ 4 (.slice A3 (m + 1) c3))
     have J3 := hQ_ (HJZ.out.setCell (p := ⟨g,4,none⟩) hg (.slice A3 (m + 1) c3))
     have HBX3z := hQ_ (Own.keeps HBW.out J3.out)
     have R3 := hQ_ (HB1.out.below J3.out)
     have c03 : (w3.setCell ⟨g,4,none⟩ (.slice A3 (m + 1) c3)).cell? ⟨w.heap.size,0,none⟩ = some (.slice (some ⟨b,o,none⟩) hm hc) := (HB0.out.below J3.out).cell 0
     have EN3 : EntA (But T (w.heap.size + 1)) (w3.setCell ⟨g,4,none⟩ (.slice A3 (m + 1) c3)) ⟨A3,m + 1,c3⟩ R := by
      have h0 := ent_done (T := fun b => But T (w.heap.size + 1) b ∧ b ≠ g) (fun b hb => ⟨⟨HT.out b (by have := HBC.out.size; omega),by have := HJ2.out.size; omega⟩,by omega⟩) HSO3.out
      rw [HM.out] at h0
      exact h0.chg (S := fun b => b = g) ((Chg.refl (fun b => b = g) _).setCell (p := ⟨g,4,none⟩) (.inl rfl) _) (fun b hb _ => ⟨hb.2,hb.1⟩)
     have HWC := hQ_ (with_calls (T := But T (w.heap.size + 1)) ⟨some ⟨b,o,none⟩,hm,hc⟩ F ⟨ni,nk,nl,nd,R⟩ ⟨A3,m + 1,c3⟩ (w3.setCell ⟨g,4,none⟩ (.slice A3 (m + 1) c3)) ((fs_but HF.out (by omega)).below HBX3z.out) EN3 HSF.out (fun b hb => ⟨HT.out b (Nat.le_trans HBX3z.out.size hb),by have := J3.out.size; omega⟩))
     dsimp only [nodeV] at HWC
     clear EN3
     go_wp2_with (first
      | ((with_reducible refine pick (some 75) ?_); refine load_blk rfl 85 _ rfl g rfl 85 _ _ K3.out Tryz.underlying85 rfl info_node ?_)
      | (go_at_call 94; refine HWC.out.mono ?_; rintro e w4 ⟨h4,rfl,hf4,hb4⟩; have R4 := hQ_ (R3.out.below hb4); have HF4 := hQ_ hf4; have HB4 := hQ_ (Own.keeps HBX3z.out hb4); clear hf4 hb4)
      | ((with_reducible refine pick none ?_); refine store_blk rfl 29 _ _ rfl (w.heap.size + 1) #[.slice h4.a h4.n h4.c] rfl rfl 29 _ R4.out info_fs rfl (by simp [Value.oneCell']) ?_; intro w5 hk5 hg5))
     exact bodyPost_ret (v := .agg #[.slice h4.a h4.n h4.c]) (results_cell_row rfl _ _ (w.heap.size + 1) 29 _ (0,0) _ rfl hk5 Tryz.underlying29 rfl info_fs) rfl ⟨h4,rfl,fs_store HF4.out hg5,HB4.out.grown hg5 HB4.out.size (fun k hk => by injection hk with hk; omega)⟩
end Go.Proofs.YtfalhnomhidkcaaGreatDoor.DirsRb