import Derived.Test.YtfalhnomhidkcaaGreatDoorSq
import Derived.Test.YtfalhnomhidkcaaGreatDoorDirsRc
import Derived.Test.YtfalhnomhidkcaaGreatDoorNodeG
import Derived.Test.YtfalhnomhidkcaaGreatDoorNamesL
import Derived.Deep.LoopGhost
set_option maxHeartbeats 16000000
set_option linter.unusedVariables false
set_option linter.unusedSimpArgs false
set_option maxRecDepth 100000
namespace Go.Proofs.YtfalhnomhidkcaaGreatDoor.DirsRd
open Go.RowKit
open Byte KeysM TreeM Lst Ho Tx NamesM NamesR WalkF DirsM Chg DirsR DirsRa DirsRc
open Own hiding keeps
open ViewR (Sh)
structure Cl (F : Fs) : Prop where
 root : ∃ n,nodeM F 1 = some n
 goes : ∀ n ∈ F,∀ e ∈ n.ents,∃ m,nodeM F e.ino = some m
def FndE (F : Fs) (path : ByteArray) (w : World) (e : Ending) (w' : World) : Prop := e = .returned (.tuple #[spotA (fndM F path).1,.int .i64 (fndM F path).2]) ∧ Below w.heap.size w w'
theorem FndE.of {F : Fs} {path : ByteArray} {w w' : World} {d i er : Int} {nm : ByteArray} (h : fndM F path = (⟨d,nm,i⟩,er)) (hb : Below w.heap.size w w') : FndE F path w (.returned (.tuple #[.agg #[.int .u32 d,.string nm,.int .u32 i],.int .i64 er])) w' := by
 unfold FndE
 rw [h]
 exact ⟨rfl,hb⟩
theorem set3 {v1 : World} {g : Nat} {z0 z1 z2 : Value} {U : TypeId} (K : Blk v1 g #[z0,z1,z2] U) (a b c : Value) : Blk (((v1.setCell ⟨g,0,none⟩ a).setCell ⟨g,1,none⟩ b).setCell ⟨g,2,none⟩ c) g #[a,b,c] U := by
 have h1 := K.set_ 0 a
 have h2 := h1.set_ 1 b
 have h3 := h2.set_ 2 c
 exact h3
theorem below3 {w v1 : World} {B g : Nat} (J : Below B w v1) (hg : B ≤ g) (a b c : Value) : Below B w (((v1.setCell ⟨g,0,none⟩ a).setCell ⟨g,1,none⟩ b).setCell ⟨g,2,none⟩ c) := ((J.setCell hg a).setCell hg b).setCell hg c
theorem entry_ok {F : Fs} (hc : Cl F) {n : Nd} (hn : n ∈ F) (nm : ByteArray) : entryM n nm = 0 ∨ ∃ m,nodeM F (entryM n nm) = some m := by
 rcases entry_ways n nm with ⟨e,h1,h2,h3⟩ | ⟨_,h3⟩
 ·rw [h3]
  exact .inr (hc.goes n hn e h1)
 ·exact .inl h3
theorem find_calls {T : Nat → Prop} (h : Sh) (F : Fs) (path : ByteArray) (w : World) (hf : FsA T w h F) (hs : SmF F) (hcl : Cl F) (hp : path.size ≤ maxLen) :
 Calls Tryz.prog 93 #[.agg #[.slice h.a h.n h.c],.string path] w (FndE F path w) := by
 obtain ⟨W,hW⟩ : ∃ W,(w.alloc (.cells #[.slice h.a h.n h.c] 29)).alloc (.cells #[.int .u32 0,.string ⟨#[]⟩,.int .u32 0] 156) = W := ⟨_,rfl⟩
 have hbw : Below w.heap.size w W := by rw [← hW]; exact (bW_).alloc (by simp) _
 have HWS : Hid (W.heap.size = w.heap.size + 1 + 1) := hQ_ (by rw [← hW]; simp)
 have hB0 : Blk W w.heap.size #[.slice h.a h.n h.c] 29 := by rw [← hW]; exact (Blk.new_ w _ _).alloc _
 have hB1 : Blk W (w.heap.size + 1) #[.int .u32 0,.string ⟨#[]⟩,.int .u32 0] 156 := by
  rw [← hW]
  have := Blk.new_ (w.alloc (.cells #[.slice h.a h.n h.c] 29)) #[.int .u32 0,.string ⟨#[]⟩,.int .u32 0] 156
  simpa using this
 have HB0 := hQ_ hB0
 have HB1 := hQ_ hB1
 have HBW := hQ_ hbw
 have HF := hQ_ hf
 have HS := hQ_ hs
 have HC := hQ_ hcl
 have HW := hQ_ hW
 have HSP := hQ_ (refspl_calls path W hp)
 unfold SplE at HSP
 have hlen : h.n ≤ 1000 := by rw [← hf.len]; exact hs.len
 have hsm := NamesL.spl_small path
 obtain ⟨ha,hm,hc⟩ := h
 dsimp only at hlen
 clear hf hs hcl hW hB0 hB1 hbw hp
 by_cases hse : (spl path).2 = 0
 ·have HRF : Hid (fndM F path = fndL F ⟨0,NE,1⟩ (spl path).1) := hQ_ (if_neg (fun h => h hse))
  rw [hse] at HSP
  generalize (spl path).1 = L at *
  clear hse
  go_enter Tryz.func93,Tryz.ntmps93
  go_wp2_with fail
  rw [HW.out]
  refine HSP.out.mono ?_
  rintro e w1 ⟨A,m,c,rfl,hso,hb1⟩
  have HL := hQ_ hso.sl
  have hml : m ≤ 16 := by rw [← hso.1]; exact hsm.1
  have HNM := hQ_ hsm.2
  have HBX1 := hQ_ (Own.keeps HBW.out hb1)
  have HB01 := hQ_ (HB0.out.below hb1)
  have HB11 := hQ_ (HB1.out.below hb1)
  have hs1 := hb1.size
  have hws := HWS.out
  have AT0 := hQ_ (Blk.new_ w1 #[.int .u32 0,.string ⟨#[]⟩,.int .u32 1] 156)
  have BT0 := hQ_ ((Below.refl w1.heap.size w1).alloc (Nat.le_refl _) (.cells #[.int .u32 0,.string ⟨#[]⟩,.int .u32 1] 156))
  clear hso hb1 hsm
  go_wp2_with fail
  go_loopg [23] m (fun gm j wr => ∃ (k : Nat) (xd xi : Int) (xn : ByteArray),j = .int .i64 k ∧ k ≤ m ∧ gm = m - k ∧ Hid (Blk wr w1.heap.size #[.int .u32 xd,.string xn,.int .u32 xi] 156) ∧ Hid (fndL F ⟨xd,xn,xi⟩ (L.drop k) = fndM F path) ∧ Hid (xi = 0 ∨ ∃ n,nodeM F xi = some n) ∧ Hid (Below w1.heap.size w1 wr))
  case atStart => exact ⟨0,0,1,⟨#[]⟩,rfl,Nat.zero_le _,rfl,AT0,hQ_ (by rw [List.drop_zero,HRF.out]),hQ_ (.inr HC.out.root),BT0⟩
  case round =>
   obtain ⟨k,xd,xi,xn,rfl,hk,rfl,AT,HR,HXI,HBL⟩ := hrel
   have HBX := hQ_ (Own.keeps HBX1.out HBL.out)
   have hbs := HBL.out.size
   have HB0w := hQ_ (HB01.out.below HBL.out)
   have HB1w := hQ_ (HB11.out.below HBL.out)
   have a2 := cZ2 AT.out
   by_cases hlt : k < m
   ·obtain ⟨nm,b2,o2,hx,rfl,hb2,hcl2⟩ := HL.out.get k hlt
    have hr := HR.out
    rw [drop_some hx] at hr
    unfold fndL at hr
    have HNX := hQ_ (HNM.out nm (List.mem_of_getElem? hx))
    have hc2 := tx_cell hcl2
    have HC2 : Hid (∀ v,Below w1.heap.size w1 v → v.cell? ⟨b2,o2 + k,none⟩ = some (.string nm)) := hQ_ (fun v hv => (hv.cell (p := ⟨b2,o2 + k,none⟩) hb2).trans hc2)
    clear hx hcl2 hc2
    by_cases hx0 : xi = 0
    ·dsimp only at hr
     rw [if_pos hx0] at hr
     have HE := hQ_ hr.symm
     have d1 : (xi == 0) = true := by simpa using hx0
     clear hr HR hx0
     go_wp2_with ((with_reducible refine pick none ?_); refine store_blk rfl 156 _ _ rfl (w.heap.size + 1) #[.int .u32 0,.string ⟨#[]⟩,.int .u32 0] rfl rfl 156 _ HB1w.out info_spt rfl (by simp [Value.oneCell']) ?_; intro w5 hk5 hg5)
     exact bodyPost_ret (v := .tuple #[.agg #[.int .u32 0,.string ⟨#[]⟩,.int .u32 0],.int .i64 10]) (NodeG.results_row_tmp rfl _ _ (w.heap.size + 1) 156 _ (0,0) _ rfl _ rfl hk5 Tryz.underlying156 rfl info_spt) rfl (FndE.of HE.out (HBX.out.grown hg5 HBX.out.size (fun k hk => by injection hk with hk; omega)))
    ·obtain ⟨n,hn⟩ : ∃ n,nodeM F xi = some n := by
      rcases HXI.out with h | h
      ·exact absurd h hx0
      ·exact h
     dsimp only at hr
     rw [if_neg hx0,hn] at hr
     dsimp only at hr
     have d0 : (xi == 0) = false := by simpa using hx0
     have hix := idx_at hn
     obtain ⟨b,o,he,rfl,hb,hltF,hclF,hent⟩ := HF.out.get hix.1
     have HAT := hQ_ (fun v (hv : Below wr.heap.size wr v) => at_calls _ F xi n v (HF.out.below (Own.keeps HBX.out hv)) hn HS.out.len)
     unfold AtE at HAT
     dsimp only at HAT
     have hmem := (node_mem hn).1
     have hsn := HS.out.all n hmem
     have HEO := hQ_ (entry_ok HC.out hmem nm)
     have HNT := hQ_ (fun v (hv : Below w.heap.size w v) => entry_calls n he nm v (hent.below hv) hsn (by have := HNX.out; omega))
     generalize idx F xi = kk at *
     clear hmem hent hn hix hx0 hsn HR
     obtain ⟨ni,nk,nl,nd,ne⟩ := n
     obtain ⟨ea,em,ec⟩ := he
     dsimp only [nodeV] at hclF HNT hr
     have RD : Hid (∀ v,Below wr.heap.size wr v → Below wr.heap.size wr v ∧ v.cell? ⟨w.heap.size,0,none⟩ = some (.slice (some ⟨b,o,none⟩) hm hc) ∧ v.cell? ⟨w1.heap.size,2,none⟩ = some (.int .u32 xi) ∧ v.cell? ⟨b,o + kk * 5,none⟩ = some (.int .u32 ni) ∧ v.cell? ⟨b,o + kk * 5 + 1,none⟩ = some (.int .u8 nk) ∧ v.cell? ⟨b,o + kk * 5 + 2,none⟩ = some (.int .i64 nl) ∧ v.cell? ⟨b,o + kk * 5 + 3,none⟩ = some (.string nd) ∧ v.cell? ⟨b,o + kk * 5 + 4,none⟩ = some (.slice ea em ec)) := hQ_ (fun v hv => by
      have hx := HB0w.out.below hv
      have hy := AT.out.below hv
      have hk := Own.keeps HBX.out hv
      have hz : ∀ i u,[Value.int .u32 ni,.int .u8 nk,.int .i64 nl,.string nd,.slice ea em ec][i]? = some u → v.cell? ⟨b,o + kk * 5 + i,none⟩ = some u := fun i u hu => (hk.cell (p := ⟨b,o + kk * 5 + i,none⟩) hb).trans (hclF i u hu)
      exact ⟨hv,hx.cell 0,hy.cell 2,hz 0 _ rfl,hz 1 _ rfl,hz 2 _ rfl,hz 3 _ rfl,hz 4 _ rfl⟩)
     obtain ⟨r0,r1,r7,r2,r3,r4,r5,r6⟩ := RD.out wr (Below.refl _ _)
     obtain ⟨s0,s1,s7,s2,s3,s4,s5,s6⟩ := RD.out (wr.alloc (.cells #[.int .u32 0,.int .u8 0,.int .i64 0,.string ⟨#[]⟩,.slice none 0 0] 85)) (bW_)
     have JB : Hid (Below wr.heap.size wr wr.drew) := hQ_ ((Below.refl _ _).drew)
     have JA : Hid (Below wr.heap.size wr (wr.alloc (.cells #[.int .u32 0,.int .u8 0,.int .i64 0,.string ⟨#[]⟩,.slice none 0 0] 85)).drew) := hQ_ ((bW_).drew)
     have KA : Hid (Blk (wr.alloc (.cells #[.int .u32 0,.int .u8 0,.int .i64 0,.string ⟨#[]⟩,.slice none 0 0] 85)).drew wr.heap.size #[.int .u32 0,.int .u8 0,.int .i64 0,.string ⟨#[]⟩,.slice none 0 0] 85) := hQ_ (Blk.new_ wr _ _).drew
     have HRR := hQ_ hr
     clear hclF hr
     go_upto_region 10 with (fail)
     go_cut [10] (fun p wx => Cut1 wr #[.int .u32 ni,.int .u8 nk,.int .i64 nl,.string nd,.slice ea em ec] p wx)
     case first =>
      go_region_law (first
       | (go_simp; go_at_call 39; (with_reducible refine (HAT.out _ JA.out).mono ?_); rintro e v1 ⟨rfl,hv1⟩; have J1 := hQ_ (Own.keeps JA.out hv1); obtain ⟨q0,q1,q7,q2,q3,q4,q5,q6⟩ := RD.out _ J1.out; have K1 := hQ_ (KA.out.below hv1); obtain ⟨g0,g1,g2,g3,g4⟩ : v1.cell? ⟨wr.heap.size,0,none⟩ = some (.int .u32 0) ∧ v1.cell? ⟨wr.heap.size,1,none⟩ = some (.int .u8 0) ∧ v1.cell? ⟨wr.heap.size,2,none⟩ = some (.int .i64 0) ∧ v1.cell? ⟨wr.heap.size,3,none⟩ = some (.string ⟨#[]⟩) ∧ v1.cell? ⟨wr.heap.size,4,none⟩ = some (.slice none 0 0) := ⟨K1.out.cell 0,K1.out.cell 1,K1.out.cell 2,K1.out.cell 3,K1.out.cell 4⟩; obtain ⟨f0,f1,f2,f3,f4⟩ : v1.frozen? ⟨wr.heap.size,0,none⟩ = false ∧ v1.frozen? ⟨wr.heap.size,1,none⟩ = false ∧ v1.frozen? ⟨wr.heap.size,2,none⟩ = false ∧ v1.frozen? ⟨wr.heap.size,3,none⟩ = false ∧ v1.frozen? ⟨wr.heap.size,4,none⟩ = false := ⟨K1.out.frozen 0,K1.out.frozen 1,K1.out.frozen 2,K1.out.frozen 3,K1.out.frozen 4⟩; clear hv1)
       | (go_simp; go_at_call 39; (with_reducible refine (HAT.out _ JB.out).mono ?_); rintro e v1 ⟨rfl,hv1⟩; have J1 := hQ_ (Own.keeps JB.out hv1); obtain ⟨q0,q1,q7,q2,q3,q4,q5,q6⟩ := RD.out _ J1.out; have J2 : Hid (Below wr.heap.size wr (v1.alloc (.cells #[.int .u32 0,.int .u8 0,.int .i64 0,.string ⟨#[]⟩,.slice none 0 0] 85))) := hQ_ (J1.out.alloc J1.out.size _); obtain ⟨p0,p1,p7,p2,p3,p4,p5,p6⟩ := RD.out _ J2.out; clear hv1))
      all_goals
       go_wp2_with fail
       go_meet
       first | (with_reducible exact cut_b J1.out _) | (with_reducible exact cut_a K1.out J1.out (Nat.le_refl _) _ _ _ _ _)
     case rest =>
      obtain ⟨g,rfl,hg,K2,J2⟩ := hcut
      clear RD JA JB KA r0 r1 r2 r3 r4 r5 r6 r7 s0 s1 s2 s3 s4 s5 s6 s7 HAT
      have m1 := cZ1 K2
      have HBXc := hQ_ (Own.keeps HBX.out J2)
      have HB1c := hQ_ (HB1w.out.below J2)
      have hj2 := J2.size
      by_cases hk2 : nk = 2
      ·have hr := HRR.out
       rw [if_neg (fun h => h hk2)] at hr
       have d2 : (nk != 2) = false := by simpa using hk2
       have HR2 := hQ_ hr
       have HK2 := hQ_ K2
       have HTc := hQ_ (AT.out.below J2)
       have HBL2 := hQ_ (HBL.out.trans (J2.mono HBL.out.size))
       generalize entryM ⟨ni,nk,nl,nd,ne⟩ nm = E at *
       have RD : Hid (∀ v,Below wc.heap.size wc v → Below wc.heap.size wc v ∧ v.cell? ⟨w1.heap.size,2,none⟩ = some (.int .u32 xi) ∧ v.cell? ⟨b2,o2 + k,none⟩ = some (.string nm) ∧ v.cell? ⟨g,0,none⟩ = some (.int .u32 ni) ∧ v.cell? ⟨g,1,none⟩ = some (.int .u8 nk) ∧ v.cell? ⟨g,2,none⟩ = some (.int .i64 nl) ∧ v.cell? ⟨g,3,none⟩ = some (.string nd) ∧ v.cell? ⟨g,4,none⟩ = some (.slice ea em ec)) := hQ_ (fun v hv => by
        have hx := HTc.out.below hv
        have hy := HK2.out.below hv
        exact ⟨hv,hx.cell 2,HC2.out v (HBL2.out.trans (hv.mono HBL2.out.size)),hy.cell 0,hy.cell 1,hy.cell 2,hy.cell 3,hy.cell 4⟩)
       obtain ⟨r0,r1,r2,r3,r4,r5,r6,r7⟩ := RD.out wc (Below.refl _ _)
       have JB : Hid (Below wc.heap.size wc wc.drew) := hQ_ ((Below.refl _ _).drew)
       have HNT2 := hQ_ (fun v (hv : Below wc.heap.size wc v) => HNT.out v (Own.keeps HBXc.out hv))
       clear hr hk2 K2 J2 HRR m1
       go_wp2_with fail
       go_region_law ((go_simp; go_at_call 137; (with_reducible refine (HNT2.out _ JB.out).mono ?_); rintro e v1 ⟨rfl,hv1⟩; have J1 := hQ_ (Own.keeps JB.out hv1); obtain ⟨q0,q1,q2,q3,q4,q5,q6,q7⟩ := RD.out _ J1.out; have K1 := hQ_ (HTc.out.below J1.out); obtain ⟨g0,g1,g2⟩ : v1.cell? ⟨w1.heap.size,0,none⟩ = some (.int .u32 xd) ∧ v1.cell? ⟨w1.heap.size,1,none⟩ = some (.string xn) ∧ v1.cell? ⟨w1.heap.size,2,none⟩ = some (.int .u32 xi) := ⟨K1.out.cell 0,K1.out.cell 1,K1.out.cell 2⟩; obtain ⟨f0,f1,f2⟩ : v1.frozen? ⟨w1.heap.size,0,none⟩ = false ∧ v1.frozen? ⟨w1.heap.size,1,none⟩ = false ∧ v1.frozen? ⟨w1.heap.size,2,none⟩ = false := ⟨K1.out.frozen 0,K1.out.frozen 1,K1.out.frozen 2⟩; clear hv1))
       all_goals
        have HT3 := hQ_ (set3 K1.out (.int .u32 xi) (.string nm) (.int .u32 E))
        have HB3 := hQ_ (below3 (HBL2.out.trans (J1.out.mono HBL2.out.size)) (Nat.le_refl _) (.int .u32 xi) (.string nm) (.int .u32 E))
        go_wp2_with fail
        go_roundg (m - (k + 1))
        case measure => omega
        case rel => exact ⟨k + 1,xi,E,nm,by go_num,by omega,rfl,HT3,HR2,HEO,HB3⟩
      ·have hr := HRR.out
       rw [if_pos hk2] at hr
       have d2 : (nk != 2) = true := by simpa using hk2
       have HE := hQ_ hr.symm
       clear hr hk2 K2 J2 HRR
       go_wp2_with ((with_reducible refine pick none ?_); refine store_blk rfl 156 _ _ rfl (w.heap.size + 1) #[.int .u32 0,.string ⟨#[]⟩,.int .u32 0] rfl rfl 156 _ HB1c.out info_spt rfl (by simp [Value.oneCell']) ?_; intro w5 hk5 hg5)
       exact bodyPost_ret (v := .tuple #[.agg #[.int .u32 0,.string ⟨#[]⟩,.int .u32 0],.int .i64 12]) (NodeG.results_row_tmp rfl _ _ (w.heap.size + 1) 156 _ (0,0) _ rfl _ rfl hk5 Tryz.underlying156 rfl info_spt) rfl (FndE.of HE.out (HBXc.out.grown hg5 HBXc.out.size (fun k hk => by injection hk with hk; omega)))
   ·have hr := HR.out
    rw [List.drop_eq_nil_of_le (by rw [HL.out.1]; omega)] at hr
    have HE : Hid (fndM F path = (⟨xd,xn,xi⟩,0)) := hQ_ hr.symm
    clear hr HR
    go_wp2_with (first
     | ((with_reducible refine pick (some 56) ?_); refine load_blk rfl 156 _ rfl w1.heap.size rfl 156 _ _ AT.out Tryz.underlying156 rfl info_spt ?_)
     | ((with_reducible refine pick none ?_); refine store_blk rfl 156 _ _ rfl (w.heap.size + 1) #[.int .u32 xd,.string xn,.int .u32 xi] rfl rfl 156 _ HB1w.out info_spt rfl (by simp [Value.oneCell']) ?_; intro w5 hk5 hg5))
    exact bodyPost_ret (v := .tuple #[.agg #[.int .u32 xd,.string xn,.int .u32 xi],.int .i64 0]) (NodeG.results_row_tmp rfl _ _ (w.heap.size + 1) 156 _ (0,0) _ rfl _ rfl hk5 Tryz.underlying156 rfl info_spt) rfl (FndE.of HE.out (HBX.out.grown hg5 HBX.out.size (fun k hk => by injection hk with hk; omega)))
 ·have HE : Hid (fndM F path = (spt0,(spl path).2)) := hQ_ (if_pos hse)
  have d1 : ((spl path).2 != 0) = true := by simpa using hse
  generalize (spl path).1 = L at *
  generalize (spl path).2 = er at *
  clear hse hsm
  go_enter Tryz.func93,Tryz.ntmps93
  go_wp2_with fail
  rw [HW.out]
  refine HSP.out.mono ?_
  rintro e w1 ⟨A,m,c,rfl,hso,hb1⟩
  have HBX := hQ_ (Own.keeps HBW.out hb1)
  have HB1w := hQ_ (HB1.out.below hb1)
  clear hso hb1
  go_wp2_with ((with_reducible refine pick none ?_); refine store_blk rfl 156 _ _ rfl (w.heap.size + 1) #[.int .u32 0,.string ⟨#[]⟩,.int .u32 0] rfl rfl 156 _ HB1w.out info_spt rfl (by simp [Value.oneCell']) ?_; intro w5 hk5 hg5)
  exact bodyPost_ret (v := .tuple #[.agg #[.int .u32 0,.string ⟨#[]⟩,.int .u32 0],.int .i64 er]) (NodeG.results_row_tmp rfl _ _ (w.heap.size + 1) 156 _ (0,0) _ rfl _ rfl hk5 Tryz.underlying156 rfl info_spt) rfl (FndE.of HE.out (HBX.out.grown hg5 HBX.out.size (fun k hk => by injection hk with hk; omega)))
end Go.Proofs.YtfalhnomhidkcaaGreatDoor.DirsRd