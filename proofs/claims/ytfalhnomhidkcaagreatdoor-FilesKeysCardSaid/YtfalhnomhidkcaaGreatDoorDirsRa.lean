import Derived.Test.YtfalhnomhidkcaaGreatDoorSq
import Derived.Test.YtfalhnomhidkcaaGreatDoorDirsR
import Derived.Deep.RegionLaw
import Derived.Deep.DeepCutAuto
import Derived.Deep.CutBlock
set_option maxHeartbeats 16000000
set_option linter.unusedVariables false
set_option linter.unusedSimpArgs false
set_option maxRecDepth 100000
namespace Go.Proofs.YtfalhnomhidkcaaGreatDoor.DirsRa
open Go.RowKit
open Byte KeysM TreeM Lst Ho Tx DirsM Chg DirsR
open Own hiding keeps
open ViewR (Sh)
def But (T : Nat → Prop) (r : Nat) (b : Nat) : Prop := T b ∧ b ≠ r
theorem fs_but {T : Nat → Prop} {w : World} {h : Sh} {F : Fs} {r : Nat} (hf : FsA T w h F) (hr : w.heap.size ≤ r) : FsA (But T r) w h F :=
 hf.chg (S := fun _ => False) (Chg.refl _ w) (fun b hb hlt => ⟨fun h => h,hb,by omega⟩)
theorem ent_but {T : Nat → Prop} {w : World} {h : Sh} {l : List En} {r : Nat} (hf : EntA T w h l) (hr : w.heap.size ≤ r) : EntA (But T r) w h l :=
 hf.chg (S := fun _ => False) (Chg.refl _ w) (fun b hb hlt => ⟨fun h => h,hb,by omega⟩)
theorem fs_store {T : Nat → Prop} {w w' : World} {h : Sh} {F : Fs} {r : Nat} (hf : FsA (But T r) w h F) (hg : w.grownBy w' (some r)) : FsA T w' h F :=
 hf.chg (S := fun b => b = r) (Chg.of_grown hg (fun k e => .inl (by injection e with e; exact e.symm))) (fun b hb _ => ⟨hb.2,hb.1⟩)
def Cut1 (W : World) (cs : Array Value) (p : Value) (wx : World) : Prop := ∃ g,p = .pointer (some ⟨g,0,none⟩) ∧ W.heap.size ≤ g ∧ Blk wx g cs 85 ∧ Below W.heap.size W wx
theorem cut_a {W v1 : World} {g : Nat} {z0 z1 z2 z3 z4 : Value} (K : Blk v1 g #[z0,z1,z2,z3,z4] 85) (J : Below W.heap.size W v1) (hg : W.heap.size ≤ g) (a b c d e : Value) : Cut1 W #[a,b,c,d,e] (.pointer (some ⟨g,0,none⟩)) (((((v1.setCell ⟨g,0,none⟩ a).setCell ⟨g,1,none⟩ b).setCell ⟨g,2,none⟩ c).setCell ⟨g,3,none⟩ d).setCell ⟨g,4,none⟩ e) := by
 have h1 := K.set_ 0 a
 have h2 := h1.set_ 1 b
 have h3 := h2.set_ 2 c
 have h4 := h3.set_ 3 d
 have h5 := h4.set_ 4 e
 exact ⟨g,rfl,hg,h5,(((((J.setCell hg a).setCell hg b).setCell hg c).setCell hg d).setCell hg e)⟩
theorem cut_b {W v1 : World} (J : Below W.heap.size W v1) (cs : Array Value) : Cut1 W cs (.pointer (some ⟨v1.heap.size,0,none⟩)) (v1.alloc (.cells cs 85)) := ⟨_,rfl,J.size,Blk.new_ v1 _ _,J.alloc J.size _⟩
theorem linked_calls {T : Nat → Prop} (h : Sh) (F : Fs) (i y : Int) (n : Nd) (w : World) (hf : FsA T w h F) (hn : nodeM F i = some n) (hs : SmF F) (hy : -1000 ≤ y) (hy2 : y ≤ 1000) (hT : ∀ b,w.heap.size ≤ b → T b) :
 Calls Tryz.prog 95 #[.agg #[.slice h.a h.n h.c],.int .u32 i,.int .i64 y] w (FsE T (linkedM F i y) w) := by
 have hix := idx_at hn
 obtain ⟨b,o,he,hha,hb,hlt,hcl,hent⟩ := hf.get hix.1
 obtain ⟨ha,hm,hc⟩ := h
 dsimp only at hha hlt
 subst hha
 have hlen : hm ≤ 1000 := by have := hf.len; have := hs.len; dsimp only at *; omega
 obtain ⟨W,hW⟩ : ∃ W,(w.alloc (.cells #[.slice (some ⟨b,o,none⟩) hm hc] 29)).alloc (.cells #[.slice none 0 0] 29) = W := ⟨_,rfl⟩
 have hbw : Below w.heap.size w W := by rw [← hW]; exact (bW_).alloc (by simp) _
 have hB0 : Blk W w.heap.size #[.slice (some ⟨b,o,none⟩) hm hc] 29 := by rw [← hW]; exact (Blk.new_ w _ _).alloc _
 have HB0 := hQ_ hB0
 have HBW := hQ_ hbw
 have HAT := hQ_ (fun v (hv : Below W.heap.size W v) => at_calls _ F i n v ((hf.below hbw).below hv) hn hs.len)
 unfold AtE at HAT
 dsimp only at HAT
 have HW := hQ_ hW
 have HF := hQ_ hf
 have hsn := hs.all n (node_mem hn).1
 have HLM : Hid (linkedM F i y = withM F { n with links := n.links + y }) := hQ_ (by unfold linkedM; rw [hn])
 have HSF := hQ_ hs.len
 have HT := hQ_ hT
 have hl0 := hsn.l0
 have hl1 := hsn.l1
 rw [HLM.out]
 have HWS : Hid (W.heap.size = w.heap.size + 2) := hQ_ (by rw [← hW]; simp)
 have hB1 : Blk W (w.heap.size + 1) #[.slice none 0 0] 29 := by
  rw [← hW]
  have := Blk.new_ (w.alloc (.cells #[.slice (some ⟨b,o,none⟩) hm hc] 29)) #[.slice none 0 0] 29
  simpa using this
 have HB1 := hQ_ hB1
 generalize idx F i = k at *
 obtain ⟨ni,nk,nl,nd,ne⟩ := n
 obtain ⟨ea,em,ec⟩ := he
 dsimp only at hcl hent
 have RD : Hid (∀ v,Below W.heap.size W v → Below W.heap.size W v ∧ v.cell? ⟨w.heap.size,0,none⟩ = some (.slice (some ⟨b,o,none⟩) hm hc) ∧ v.cell? ⟨b,o + k * 5,none⟩ = some (.int .u32 ni) ∧ v.cell? ⟨b,o + k * 5 + 1,none⟩ = some (.int .u8 nk) ∧ v.cell? ⟨b,o + k * 5 + 2,none⟩ = some (.int .i64 nl) ∧ v.cell? ⟨b,o + k * 5 + 3,none⟩ = some (.string nd) ∧ v.cell? ⟨b,o + k * 5 + 4,none⟩ = some (.slice ea em ec)) := hQ_ (fun v hv => by
  have hx := hB0.below hv
  have hk := Own.keeps hbw hv
  have hz : ∀ i u,[Value.int .u32 ni,.int .u8 nk,.int .i64 nl,.string nd,.slice ea em ec][i]? = some u → v.cell? ⟨b,o + k * 5 + i,none⟩ = some u := fun i u hu => (hk.cell (p := ⟨b,o + k * 5 + i,none⟩) hb).trans (hcl i u hu)
  exact ⟨hv,hx.cell 0,hz 0 _ rfl,hz 1 _ rfl,hz 2 _ rfl,hz 3 _ rfl,hz 4 _ rfl⟩)
 obtain ⟨r0,r1,r2,r3,r4,r5,r6⟩ := RD.out W (Below.refl _ _)
 obtain ⟨s0,s1,s2,s3,s4,s5,s6⟩ := RD.out (W.alloc (.cells #[.int .u32 0,.int .u8 0,.int .i64 0,.string ⟨#[]⟩,.slice none 0 0] 85)) (bW_)
 have JB : Hid (Below W.heap.size W W.drew) := hQ_ ((Below.refl _ _).drew)
 have JA : Hid (Below W.heap.size W (W.alloc (.cells #[.int .u32 0,.int .u8 0,.int .i64 0,.string ⟨#[]⟩,.slice none 0 0] 85)).drew) := hQ_ ((bW_).drew)
 have KA : Hid (Blk (W.alloc (.cells #[.int .u32 0,.int .u8 0,.int .i64 0,.string ⟨#[]⟩,.slice none 0 0] 85)).drew W.heap.size #[.int .u32 0,.int .u8 0,.int .i64 0,.string ⟨#[]⟩,.slice none 0 0] 85) := hQ_ (Blk.new_ W _ _).drew
 have HEN := hQ_ hent
 dsimp only at hl0 hl1 ⊢
 clear hf hn hs hW hB0 hB1 hbw hcl hent hsn HLM hT hix
 go_enter Tryz.func95,Tryz.ntmps95
 go_wp2_with fail
 rw [HW.out]
 go_upto_region 1 with (fail)
 go_cut [7] (fun p wx => Cut1 W #[.int .u32 ni,.int .u8 nk,.int .i64 nl,.string nd,.slice ea em ec] p wx)
 case first =>
  go_region_law (first
   | (go_simp; go_at_call 39; (with_reducible refine (HAT.out _ JA.out).mono ?_); rintro e v1 ⟨rfl,hv1⟩; have J1 := hQ_ (Own.keeps JA.out hv1); obtain ⟨q0,q1,q2,q3,q4,q5,q6⟩ := RD.out _ J1.out; have K1 := hQ_ (KA.out.below hv1); obtain ⟨g0,g1,g2,g3,g4⟩ : v1.cell? ⟨W.heap.size,0,none⟩ = some (.int .u32 0) ∧ v1.cell? ⟨W.heap.size,1,none⟩ = some (.int .u8 0) ∧ v1.cell? ⟨W.heap.size,2,none⟩ = some (.int .i64 0) ∧ v1.cell? ⟨W.heap.size,3,none⟩ = some (.string ⟨#[]⟩) ∧ v1.cell? ⟨W.heap.size,4,none⟩ = some (.slice none 0 0) := ⟨K1.out.cell 0,K1.out.cell 1,K1.out.cell 2,K1.out.cell 3,K1.out.cell 4⟩; obtain ⟨f0,f1,f2,f3,f4⟩ : v1.frozen? ⟨W.heap.size,0,none⟩ = false ∧ v1.frozen? ⟨W.heap.size,1,none⟩ = false ∧ v1.frozen? ⟨W.heap.size,2,none⟩ = false ∧ v1.frozen? ⟨W.heap.size,3,none⟩ = false ∧ v1.frozen? ⟨W.heap.size,4,none⟩ = false := ⟨K1.out.frozen 0,K1.out.frozen 1,K1.out.frozen 2,K1.out.frozen 3,K1.out.frozen 4⟩; clear hv1)
   | (go_simp; go_at_call 39; (with_reducible refine (HAT.out _ JB.out).mono ?_); rintro e v1 ⟨rfl,hv1⟩; have J1 := hQ_ (Own.keeps JB.out hv1); obtain ⟨q0,q1,q2,q3,q4,q5,q6⟩ := RD.out _ J1.out; have J2 : Hid (Below W.heap.size W (v1.alloc (.cells #[.int .u32 0,.int .u8 0,.int .i64 0,.string ⟨#[]⟩,.slice none 0 0] 85))) := hQ_ (J1.out.alloc J1.out.size _); obtain ⟨p0,p1,p2,p3,p4,p5,p6⟩ := RD.out _ J2.out; clear hv1))
  all_goals
   go_wp2_with fail
   go_meet
   first | (with_reducible exact cut_b J1.out _) | (with_reducible exact cut_a K1.out J1.out (Nat.le_refl _) _ _ _ _ _)
 case rest =>
  obtain ⟨g,rfl,hg,K2,J2⟩ := hcut
  have hws := HWS.out
  have g2 := cZ2 K2
  have f2 := K2.frozen 2
  have hK3 := K2.set_ 2 (.int .i64 (nl + y))
  have K3 := hQ_ (show Blk _ g #[.int .u32 ni,.int .u8 nk,.int .i64 (nl + y),.string nd,.slice ea em ec] 85 from hK3)
  have J3 := hQ_ (J2.setCell (p := ⟨g,2,none⟩) hg (.int .i64 (nl + y)))
  have HBX3 := hQ_ (Own.keeps HBW.out J3.out)
  have R3 := hQ_ (HB1.out.below J3.out)
  have d1 : IntKind.i64.wrap (nl + y) = nl + y := IntWalk.i64_in _ (by omega)
  have c03 : (wc.setCell ⟨g,2,none⟩ (.int .i64 (nl + y))).cell? ⟨w.heap.size,0,none⟩ = some (.slice (some ⟨b,o,none⟩) hm hc) := (HB0.out.below J3.out).cell 0
  have HWC := hQ_ (with_calls (T := But T (w.heap.size + 1)) ⟨some ⟨b,o,none⟩,hm,hc⟩ F ⟨ni,nk,nl + y,nd,ne⟩ ⟨ea,em,ec⟩ (wc.setCell ⟨g,2,none⟩ (.int .i64 (nl + y))) ((fs_but HF.out (by omega)).below HBX3.out) ((ent_but HEN.out (by omega)).below HBX3.out) HSF.out (fun b hb => ⟨HT.out b (Nat.le_trans HBX3.out.size hb),by have := J3.out.size; omega⟩))
  dsimp only [nodeV] at HWC
  clear hK3 K2 J2 RD JA JB KA r0 r1 r2 r3 r4 r5 r6 s0 s1 s2 s3 s4 s5 s6 HAT
  go_wp2_with (first
   | ((with_reducible refine pick (some 21) ?_); refine load_blk rfl 85 _ rfl g rfl 85 _ _ K3.out Tryz.underlying85 rfl info_node ?_)
   | (go_at_call 94; refine HWC.out.mono ?_; rintro e w4 ⟨h4,rfl,hf4,hb4⟩; have R4 := hQ_ (R3.out.below hb4); have HF4 := hQ_ hf4; have HB4 := hQ_ (Own.keeps HBX3.out hb4); clear hf4 hb4)
   | ((with_reducible refine pick none ?_); refine store_blk rfl 29 _ _ rfl (w.heap.size + 1) #[.slice h4.a h4.n h4.c] rfl rfl 29 _ R4.out info_fs rfl (by simp [Value.oneCell']) ?_; intro w5 hk5 hg5))
  exact bodyPost_ret (v := .agg #[.slice h4.a h4.n h4.c]) (results_cell_row rfl _ _ (w.heap.size + 1) 29 _ (0,0) _ rfl hk5 Tryz.underlying29 rfl info_fs) rfl ⟨h4,rfl,fs_store HF4.out hg5,HB4.out.grown hg5 HB4.out.size (fun k hk => by injection hk with hk; omega)⟩
end Go.Proofs.YtfalhnomhidkcaaGreatDoor.DirsRa