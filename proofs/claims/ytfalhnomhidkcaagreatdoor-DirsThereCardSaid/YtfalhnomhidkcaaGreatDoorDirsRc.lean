import Derived.Test.YtfalhnomhidkcaaGreatDoorSq
import Derived.Test.YtfalhnomhidkcaaGreatDoorDirsRa
set_option maxHeartbeats 16000000
set_option linter.unusedVariables false
set_option linter.unusedSimpArgs false
set_option maxRecDepth 100000
namespace Go.Proofs.YtfalhnomhidkcaaGreatDoor.DirsRc
open Go.RowKit
open Byte KeysM TreeM Lst Ho Tx DirsM Chg DirsR DirsRa
open Own hiding keeps
open ViewR (Sh)
theorem without_calls {T : Nat → Prop} (h : Sh) (F : Fs) (i : Int) (w : World) (hf : FsA T w h F) (hs : F.length ≤ 1000) (hT : ∀ b,w.heap.size ≤ b → T b) :
 Calls Tryz.prog 138 #[.agg #[.slice h.a h.n h.c],.int .u32 i] w (FsE T (withoutM F i) w) := by
 have hlen : h.n ≤ 1000 := by rw [← hf.len]; exact hs
 have HLN := hQ_ hf.len
 obtain ⟨W,hW⟩ : ∃ W,(w.alloc (.cells #[.slice h.a h.n h.c] 29)).alloc (.cells #[.slice none 0 0] 29) = W := ⟨_,rfl⟩
 have hb : Below w.heap.size w W := by rw [← hW]; exact (bW_).alloc (by simp) _
 have hB0 : Blk W w.heap.size #[.slice h.a h.n h.c] 29 := by rw [← hW]; exact (Blk.new_ w _ _).alloc _
 have hB2 : Blk W (w.heap.size + 1) #[.slice none 0 0] 29 := by
  rw [← hW]
  have := Blk.new_ (w.alloc (.cells #[.slice h.a h.n h.c] 29)) #[.slice none 0 0] 29
  simpa using this
 have HWS : Hid (W.heap.size = w.heap.size + 1 + 1) := hQ_ (by rw [← hW]; simp)
 have HF := hQ_ hf
 have HB := hQ_ hb
 have B0 := hQ_ hB0
 have B2 := hQ_ hB2
 have HW := hQ_ hW
 have HT := hQ_ hT
 obtain ⟨R,hR⟩ : ∃ R,withoutM F i = R := ⟨_,rfl⟩
 have HR := hQ_ hR
 rw [hR]
 obtain ⟨ha,hm,hc⟩ := h
 dsimp only at hlen HLN HW B0 B2 ⊢
 clear hf hs hb hB0 hB2 hW hT hR
 go_enter Tryz.func138,Tryz.ntmps138
 go_wp2_with fail
 rw [HW.out]
 have SO0 : Hid (So nhE 85 (W.alloc (.cells #[] 85)) W.heap.size (.slice (some ⟨w.heap.size + 1 + 1,0,none⟩) 0 0) 0 []) := hQ_ (by rw [← HWS.out]; exact So.new_ nhE 85 W (Nat.le_refl W.heap.size))
 have SB0 := hQ_ ((Below.refl W.heap.size W).alloc (Nat.le_refl _) (.cells #[] 85))
 obtain ⟨W1,hW1⟩ : ∃ W1,W.alloc (.cells #[] 85) = W1 := ⟨_,rfl⟩
 rw [hW1] at SO0 SB0 ⊢
 go_loopw [5,11] (fun v j wr => ∃ (A : Option Addr) (m c k : Nat) (M : List (Nd × Sh)),v = .slice A m c ∧ j = .int .i64 k ∧ k ≤ hm ∧ m ≤ k ∧ So nhE 85 wr W.heap.size (.slice A m c) m M ∧ Hid (M.map (·.1) ++ withoutM (F.drop k) i = R) ∧ Hid (Ents T w M) ∧ Below W.heap.size W wr) (fun _ j _ => hm - (intOf j).toNat)
 case atStart => exact ⟨_,0,0,0,[],rfl,rfl,Nat.zero_le _,Nat.le_refl _,SO0.out,hQ_ (by rw [List.map_nil,List.nil_append,List.drop_zero]; exact HR.out),hQ_ (fun p hp => by cases hp),SB0.out⟩
 case round =>
  obtain ⟨A,m,c,k,M,rfl,rfl,hk,hmk,hso,HRR,HEN,hbel⟩ := hrel
  have HSO := hQ_ hso
  have HBL := hQ_ hbel
  have HBX := hQ_ (Own.keeps HB.out hbel)
  have hbs := hbel.size
  have c0 : wr.cell? ⟨w.heap.size,0,none⟩ = some (.slice ha hm hc) := (B0.out.below hbel).cell 0
  clear hso hbel
  by_cases hlt : k < hm
  ·obtain ⟨x,hx⟩ : ∃ x,F[k]? = some x := ⟨_,List.getElem?_eq_getElem (by rw [HLN.out]; exact hlt)⟩
   obtain ⟨b,o,xe,rfl,hb,_,hcl,hxe⟩ := HF.out.get hx
   have hcl2 : wr.rangeAt b (o + k * 5) [.int .u32 x.ino,.int .u8 x.kind,.int .i64 x.links,.string x.data,.slice xe.a xe.n xe.c] := fun i v hv => (HBX.out.cell (p := ⟨b,o + k * 5 + i,none⟩) hb).trans (hcl i v hv)
   have c2 : wr.cell? ⟨b,o + k * 5,none⟩ = some (.int .u32 x.ino) := hcl2 0 _ rfl
   have HCL := hQ_ hcl2
   have HXE := hQ_ hxe
   have hr := HRR.out
   rw [drop_some hx] at hr
   unfold withoutM at hr
   rw [List.filter_cons] at hr
   clear hcl hcl2 hxe hx
   obtain ⟨xi,xk,xl,xd,xn⟩ := x
   dsimp only at hr HCL HXE c2
   by_cases hi : xi = i
   ·rw [decide_eq_true hi,if_neg (by decide)] at hr
    have HR2 : Hid (M.map (·.1) ++ withoutM (F.drop (k + 1)) i = R) := hQ_ hr
    have d1 : (xi != i) = false := by simpa using hi
    clear hr hi HRR
    go_wp2_with fail
    go_roundw
    case rel => exact ⟨A,m,c,k + 1,_,rfl,by go_num,by omega,by omega,HSO.out,HR2,HEN,HBL.out⟩
    case measure => simp [intOf]; omega
   ·rw [decide_eq_false hi,if_pos (by decide)] at hr
    have HR2 : Hid ((M ++ [((⟨xi,xk,xl,xd,xn⟩ : Nd),xe)]).map (·.1) ++ withoutM (F.drop (k + 1)) i = R) := hQ_ (by rw [List.map_append,List.append_assoc]; exact hr)
    have d1 : (xi != i) = true := by simpa using hi
    clear hr hi HRR
    obtain ⟨xa,xm,xc⟩ := xe
    dsimp only at HCL HXE
    go_wp2_with (first
     | ((with_reducible refine pick (some 27) ?_); refine wpList_load_mid rfl 85 _ rfl b (o + k * 5) rfl [.int .u32 xi,.int .u8 xk,.int .i64 xl,.string xd,.slice xa xm xc] _ HCL.out Tryz.underlying85 rfl info_node ?_)
     | ((with_reducible refine pick (some 29) ?_); refine wpList_append_any nhE 85 rfl _ _ _ rfl Tryz.underlying27 info_nh rfl W.heap.size _ m M rfl (HSO.out.below (bW_)) _ 1 1 [((⟨xi,xk,xl,xd,xn⟩ : Nd),(⟨xa,xm,xc⟩ : Sh))] rfl (Sl.new_ nhE _ _ _ _ rfl) (fun h => by cases h) (m + 1) rfl _ rfl (by unfold maxLen; omega) (by omega) (by simp; omega) ?_; intro v' w' hown' hg' hat'; obtain ⟨A3,c3',rfl,_⟩ := Tx.So.head hown'))
    have HBB : Hid (Below W.heap.size W w') := hQ_ (Below.grown (Below.alloc HBL.out hbs _) hg' (by simp; omega) (fun k hk => (HSO.out.lt hk).1))
    have HEN2 := hQ_ (HEN.out.snoc (n := ⟨xi,xk,xl,xd,xn⟩) HXE.out)
    go_roundw
    case rel => exact ⟨A3,m + 1,c3',k + 1,_,rfl,by go_num,by omega,by omega,hown',HR2,HEN2,HBB.out⟩
    case measure => simp [intOf]; omega
  ·have hr := HRR.out
   rw [List.drop_eq_nil_of_le (by rw [HLN.out]; omega)] at hr
   have HRM : Hid (M.map (·.1) = R) := hQ_ (by rw [← hr]; simp [withoutM])
   have N2 := hQ_ (B2.out.below HBL.out)
   have hws := HWS.out
   clear hr HRR
   go_wp2_with ((with_reducible refine pick none ?_); refine store_blk rfl 29 _ _ rfl (w.heap.size + 1) #[.slice A m c] rfl rfl 29 _ N2.out info_fs rfl (by simp [Value.oneCell']) ?_; intro w5 hk5 hg5)
   obtain ⟨h1,h2⟩ := fs_end HT.out HSO.out HBX.out hg5 (by omega) (by omega) HRM.out HEN.out
   exact bodyPost_ret (v := .agg #[.slice A m c]) (results_cell_row rfl _ _ (w.heap.size + 1) 29 _ (0,0) _ rfl hk5 Tryz.underlying29 rfl info_fs) rfl ⟨⟨A,m,c⟩,rfl,h1,h2⟩
def spotA (s : Spt) : Value := .agg #[.int .u32 s.dir,.string s.name,.int .u32 s.ino]
def NodeE (T : Nat → Prop) (n : Nd) (w : World) (e : Ending) (w' : World) : Prop := ∃ he : Sh,e = .returned (nodeV n he) ∧ EntA T w' he n.ents ∧ Below w.heap.size w w'
theorem node_calls {T : Nat → Prop} (h : Sh) (F : Fs) (s : Spt) (n : Nd) (w : World) (hf : FsA T w h F) (hn : nodeM F s.ino = some n) (hs : F.length ≤ 1000) :
 Calls Tryz.prog 99 #[.agg #[.slice h.a h.n h.c],spotA s] w (NodeE T n w) := by
 have hix := idx_at hn
 obtain ⟨b,o,he,hha,hb,hlt,hcl,hent⟩ := hf.get hix.1
 obtain ⟨ha,hm,hc⟩ := h
 dsimp only at hha hlt
 subst hha
 have hlen : hm ≤ 1000 := by have := hf.len; dsimp only at *; omega
 obtain ⟨W,hW⟩ : ∃ W,((w.alloc (.cells #[.slice (some ⟨b,o,none⟩) hm hc] 29)).alloc (.cells #[.int .u32 s.dir,.string s.name,.int .u32 s.ino] 156)).alloc (.cells #[.int .u32 0,.int .u8 0,.int .i64 0,.string ⟨#[]⟩,.slice none 0 0] 85) = W := ⟨_,rfl⟩
 have hbw : Below w.heap.size w W := by rw [← hW]; exact ((bW_).alloc (by simp) _).alloc (by simp; omega) _
 have hB0 : Blk W w.heap.size #[.slice (some ⟨b,o,none⟩) hm hc] 29 := by rw [← hW]; exact ((Blk.new_ w _ _).alloc _).alloc _
 have hB1 : Blk W (w.heap.size + 1) #[.int .u32 s.dir,.string s.name,.int .u32 s.ino] 156 := by
  rw [← hW]
  have := (Blk.new_ (w.alloc (.cells #[.slice (some ⟨b,o,none⟩) hm hc] 29)) #[.int .u32 s.dir,.string s.name,.int .u32 s.ino] 156).alloc (.cells #[.int .u32 0,.int .u8 0,.int .i64 0,.string ⟨#[]⟩,.slice none 0 0] 85)
  simpa using this
 have hB2 : Blk W (w.heap.size + 2) #[.int .u32 0,.int .u8 0,.int .i64 0,.string ⟨#[]⟩,.slice none 0 0] 85 := by
  rw [← hW]
  have := Blk.new_ ((w.alloc (.cells #[.slice (some ⟨b,o,none⟩) hm hc] 29)).alloc (.cells #[.int .u32 s.dir,.string s.name,.int .u32 s.ino] 156)) #[.int .u32 0,.int .u8 0,.int .i64 0,.string ⟨#[]⟩,.slice none 0 0] 85
  simpa using this
 have HB2 := hQ_ hB2
 have HBW := hQ_ hbw
 have HAT := hQ_ (fun v (hv : Below W.heap.size W v) => at_calls _ F s.ino n v ((hf.below hbw).below hv) hn hs)
 unfold AtE at HAT
 dsimp only at HAT
 have HW := hQ_ hW
 generalize idx F s.ino = k at *
 obtain ⟨ni,nk,nl,nd,ne⟩ := n
 obtain ⟨ea,em,ec⟩ := he
 obtain ⟨sd,sn,si⟩ := s
 dsimp only at hcl hent HAT hB1 HW
 have RD : Hid (∀ v,Below W.heap.size W v → Below W.heap.size W v ∧ v.cell? ⟨w.heap.size,0,none⟩ = some (.slice (some ⟨b,o,none⟩) hm hc) ∧ v.cell? ⟨w.heap.size + 1,2,none⟩ = some (.int .u32 si) ∧ v.cell? ⟨b,o + k * 5,none⟩ = some (.int .u32 ni) ∧ v.cell? ⟨b,o + k * 5 + 1,none⟩ = some (.int .u8 nk) ∧ v.cell? ⟨b,o + k * 5 + 2,none⟩ = some (.int .i64 nl) ∧ v.cell? ⟨b,o + k * 5 + 3,none⟩ = some (.string nd) ∧ v.cell? ⟨b,o + k * 5 + 4,none⟩ = some (.slice ea em ec)) := hQ_ (fun v hv => by
  have hx := hB0.below hv
  have hy := hB1.below hv
  have hk := Own.keeps hbw hv
  have hz : ∀ i u,[Value.int .u32 ni,.int .u8 nk,.int .i64 nl,.string nd,.slice ea em ec][i]? = some u → v.cell? ⟨b,o + k * 5 + i,none⟩ = some u := fun i u hu => (hk.cell (p := ⟨b,o + k * 5 + i,none⟩) hb).trans (hcl i u hu)
  exact ⟨hv,hx.cell 0,hy.cell 2,hz 0 _ rfl,hz 1 _ rfl,hz 2 _ rfl,hz 3 _ rfl,hz 4 _ rfl⟩)
 obtain ⟨r0,r1,r7,r2,r3,r4,r5,r6⟩ := RD.out W (Below.refl _ _)
 have JB : Hid (Below W.heap.size W W.drew) := hQ_ ((Below.refl _ _).drew)
 have HEN := hQ_ hent
 unfold spotA
 dsimp only
 clear hf hn hs hW hB0 hB1 hB2 hbw hcl hent hix
 go_enter Tryz.func99,Tryz.ntmps99
 go_wp2_with fail
 rw [HW.out]
 go_region_law ((go_simp; go_at_call 39; (with_reducible refine (HAT.out _ JB.out).mono ?_); rintro e v1 ⟨rfl,hv1⟩; have J1 := hQ_ (Own.keeps JB.out hv1); obtain ⟨q0,q1,q7,q2,q3,q4,q5,q6⟩ := RD.out _ J1.out; have K1 := hQ_ (HB2.out.below J1.out); obtain ⟨g0,g1,g2,g3,g4⟩ : v1.cell? ⟨w.heap.size + 2,0,none⟩ = some (.int .u32 0) ∧ v1.cell? ⟨w.heap.size + 2,1,none⟩ = some (.int .u8 0) ∧ v1.cell? ⟨w.heap.size + 2,2,none⟩ = some (.int .i64 0) ∧ v1.cell? ⟨w.heap.size + 2,3,none⟩ = some (.string ⟨#[]⟩) ∧ v1.cell? ⟨w.heap.size + 2,4,none⟩ = some (.slice none 0 0) := ⟨K1.out.cell 0,K1.out.cell 1,K1.out.cell 2,K1.out.cell 3,K1.out.cell 4⟩; obtain ⟨f0,f1,f2,f3,f4⟩ : v1.frozen? ⟨w.heap.size + 2,0,none⟩ = false ∧ v1.frozen? ⟨w.heap.size + 2,1,none⟩ = false ∧ v1.frozen? ⟨w.heap.size + 2,2,none⟩ = false ∧ v1.frozen? ⟨w.heap.size + 2,3,none⟩ = false ∧ v1.frozen? ⟨w.heap.size + 2,4,none⟩ = false := ⟨K1.out.frozen 0,K1.out.frozen 1,K1.out.frozen 2,K1.out.frozen 3,K1.out.frozen 4⟩; clear hv1))
 all_goals
  obtain ⟨K5,J5⟩ := set5 K1.out (Own.keeps HBW.out J1.out) (by omega) (.int .u32 ni) (.int .u8 nk) (.int .i64 nl) (.string nd) (.slice ea em ec)
  have K5 := hQ_ K5
  have J5 := hQ_ J5
  go_wp2_with fail
  exact bodyPost_ret (v := .agg #[.int .u32 ni,.int .u8 nk,.int .i64 nl,.string nd,.slice ea em ec]) (results_cell_row rfl _ _ (w.heap.size + 2) 85 _ (0,0) _ rfl K5.out Tryz.underlying85 rfl info_node) rfl ⟨⟨ea,em,ec⟩,rfl,HEN.out.below J5.out,J5.out⟩
theorem new_calls {T : Nat → Prop} (w : World) (hT : ∀ b,w.heap.size ≤ b → T b) : Calls Tryz.prog 13 #[] w (FsE T [⟨1,2,2,NE,[]⟩] w) := by
 obtain ⟨W,hW⟩ : ∃ W,w.alloc (.cells #[.slice none 0 0] 29) = W := ⟨_,rfl⟩
 have hB0 : Blk W w.heap.size #[.slice none 0 0] 29 := by rw [← hW]; exact Blk.new_ w _ _
 have HB0 := hQ_ hB0
 have hbw : Below w.heap.size w W := by rw [← hW]; exact bW_
 have HBW := hQ_ hbw
 have HSL := hQ_ (Sl.new_ nhE W 85 ((⟨1,2,2,NE,[]⟩ : Nd),(⟨none,0,0⟩ : Sh)) #[.int .u32 1,.int .u8 2,.int .i64 2,.string ⟨#[]⟩,.slice none 0 0] rfl)
 have HBA := hQ_ ((Below.refl W.heap.size W).alloc (Nat.le_refl _) (.cells #[.int .u32 1,.int .u8 2,.int .i64 2,.string ⟨#[]⟩,.slice none 0 0] 85))
 have HB2 := hQ_ (HB0.out.below HBA.out)
 have HT := hQ_ hT
 clear hB0 hbw hT
 subst hW
 have hsz : (w.alloc (.cells #[.slice none 0 0] 29)).heap.size = w.heap.size + 1 := by simp
 rw [hsz] at HSL
 have hbs := HBA.out.size
 go_enter Tryz.func13,Tryz.ntmps13
 go_wp2_with ((with_reducible refine pick none ?_); refine store_blk rfl 29 _ _ rfl w.heap.size #[.slice (some ⟨w.heap.size + 1,0,none⟩) 1 1] rfl rfl 29 _ HB2.out info_fs rfl (by simp [Value.oneCell']) ?_; intro w5 hk5 hg5)
 have hb5 : Below w.heap.size w w5 := (Own.keeps HBW.out HBA.out).grown hg5 (by simp; omega) (fun k hk => by injection hk with hk; omega)
 have hF : FsA (But T w.heap.size) ((w.alloc (.cells #[.slice none 0 0] 29)).alloc (.cells #[.int .u32 1,.int .u8 2,.int .i64 2,.string ⟨#[]⟩,.slice none 0 0] 85)) ⟨some ⟨w.heap.size + 1,0,none⟩,1,1⟩ [⟨1,2,2,NE,[]⟩] := by
  refine ⟨_,rfl,HSL.out,fun b o e => ?_,fun p hp => ?_⟩
  ·dsimp only at e
   injection e with e
   injection e with e1 e2
   subst e1
   exact ⟨⟨HT.out _ (by omega),by omega⟩,by simp⟩
  ·rw [List.mem_singleton.1 hp]
   exact ⟨Sl.nil_ _ _ _,fun b o e => by cases e⟩
 exact bodyPost_ret (v := .agg #[.slice (some ⟨w.heap.size + 1,0,none⟩) 1 1]) (results_cell_row rfl _ _ w.heap.size 29 _ (0,0) _ rfl hk5 Tryz.underlying29 rfl info_fs) rfl ⟨⟨some ⟨w.heap.size + 1,0,none⟩,1,1⟩,rfl,fs_store hF hg5,hb5⟩
end Go.Proofs.YtfalhnomhidkcaaGreatDoor.DirsRc