import Derived.Deep.RegionHeld3
import Derived.Deep.DeepCutAuto
import Derived.Test.YtepjjndfodcggaaGreatDoorSq
import Derived.Test.YtepjjndfodcggaaGreatDoorDirsRefuseMBT
import Derived.Test.YtepjjndfodcggaaGreatDoorPackG
import Derived.Test.YtepjjndfodcggaaGreatDoorKeysN
import Derived.Deep.Onto
import Derived.Test.YtepjjndfodcggaaGreatDoorKeysV
import Derived.LoopTactic
import Derived.RegionTactic
import Derived.ChangeAlike
set_option maxHeartbeats 16000000
set_option linter.unusedVariables false
set_option linter.unusedSimpArgs false
set_option maxRecDepth 100000
namespace Go.Proofs.YtepjjndfodcggaaGreatDoor.NodeK
open Go.RowKit
open Byte PackM PackV PackG ConvS KeysM KeysR KeysS NodeM NodeG Lst NodeL
open Own hiding keeps
theorem may_ok : MayOk := by
 intro k l s p w k0 k1 l0 l1 s0 s1 p0 p1
 obtain ⟨B,hB⟩ : ∃ b,may k l s p = b := ⟨_,rfl⟩
 have HBB := hQ_ hB
 rw [hB]
 clear hB
 go_enter Tryz.func115,Tryz.ntmps115
 go_wp2
 all_goals
  go_ret
  rw [← HBB.out]
  refine ⟨ret_bool ?_,bW_⟩
  rw [Bool.eq_iff_iff]
  unfold may
  split <;> simp_all <;> omega
def pre (k l s p : Int) (j : Nat) : List Int := [k] ++ ([l,s,p].take j).flatMap (low 4)
theorem pre_len (k l s p : Int) (j : Nat) (hj : j ≤ 3) : (pre k l s p j).length = 1 + 4 * j := by
 match j,hj with
 | 0,_ => simp [pre]
 | 1,_ => simp [pre,low_len]
 | 2,_ => simp [pre,low_len]
 | 3,_ => simp [pre,low_len]
theorem pre_succ (k l s p : Int) (j : Nat) (hj : j < 3) : pre k l s p (j + 1) = pre k l s p j ++ low 4 ([l,s,p].getD j 0) := by
 match j,hj with
 | 0,_ => simp [pre]
 | 1,_ => simp [pre]
 | 2,_ => simp [pre]
theorem pre_all (k l s p : Int) : pre k l s p 3 = nb k l s p := by simp [pre,nb]
theorem low1 (k : Int) (k0 : 0 ≤ k) (k1 : k ≤ 255) : low (width 1) k = [k] := by
 show low 1 k = [k]
 have e : k % 256 = k := by omega
 simp [low,e]
theorem put_ok : PutOk := by
 intro k l s p w k0 k1 l0 l1 s0 s1 p0 p1
 have HX := hQ_ (Blk.new_ w #[.int .u8 k,.int .u32 l,.int .u32 s,.int .u32 p] 59)
 have HB := hQ_ ((Below.refl w.heap.size w).alloc (Nat.le_refl _) (.cells #[.int .u8 k,.int .u32 l,.int .u32 s,.int .u32 p] 59))
 have HP := hQ_ (fun w => put_calls none 0 0 [] 1 k w (Bs.nil_ _ _) (by omega) (by omega) (by omega))
 have HL := hQ_ (low1 k k0 k1)
 have e0 : pre k l s p 0 = [k] := by simp [pre]
 rw [HL.out,List.nil_append,← e0] at HP
 clear e0
 go_enter Tryz.func125,Tryz.ntmps125
 go_wp2_with fail
 refine (HP.out _).mono ?_
 intro e w1 hm
 obtain ⟨g1,c1,rfl,ho1,hb1⟩ := hm.at_ (pre_len k l s p 0 (by omega))
 have HX1 := hQ_ (HX.out.below hb1)
 have HB1 := hQ_ (keeps HB.out hb1)
 have HO1 := hQ_ (lower ho1 (by simp) : Ob w1 w.heap.size 5 g1 (1 + 4 * 0) c1 (pre k l s p 0))
 have t1 := cZ1 HX1.out
 have t2 := cZ2 HX1.out
 have t3 := cZ3 HX1.out
 have hz1 := hb1.size
 have HZ1 := hQ_ (show w.heap.size ≤ w1.heap.size by simp at hz1; omega)
 have HB2 := hQ_ (HB1.out.alloc HZ1.out (.cells #[.int .u32 l,.int .u32 s,.int .u32 p] 36))
 have HY2 := hQ_ (Blk.new_ w1 #[.int .u32 l,.int .u32 s,.int .u32 p] 36)
 have HO2 := hQ_ (HO1.out.below ((Below.refl _ _).alloc (Nat.le_refl _) (.cells #[.int .u32 l,.int .u32 s,.int .u32 p] 36)))
 clear hm ho1 hb1 hz1
 have HPN := hQ_ (fun (g c j : Nat) (x : Int) (w : World) (xs : List Int) (hb : Bs w (some ⟨g,0,none⟩) (1 + 4 * j) xs) (hj : j < 3) => put_calls (some ⟨g,0,none⟩) (1 + 4 * j) c xs 4 x w hb (by omega) (by omega) (by omega))
 go_wp2_with fail
 go_loopw [3,18] (fun b i wr => ∃ (j g c : Nat),j ≤ 3 ∧ i = .int .i64 j ∧ b = .slice (some ⟨g,0,none⟩) (1 + 4 * j) c ∧ Ob wr w.heap.size 5 g (1 + 4 * j) c (pre k l s p j) ∧ Blk wr w1.heap.size #[.int .u32 l,.int .u32 s,.int .u32 p] 36 ∧ Below w.heap.size w wr) (fun _ i _ => 3 - (intOf i).toNat)
 case atStart => exact ⟨0,g1,c1,by omega,rfl,rfl,HO2.out,HY2.out,HB2.out⟩
 case round =>
  obtain ⟨j,g,c,hj,rfl,rfl,ho,hy,hb⟩ := hrel
  have HO := hQ_ ho
  have HY := hQ_ hy
  have HBW := hQ_ hb
  clear ho hy hb
  by_cases hlt : j < 3
  ·obtain ⟨x,hx,x0,x1⟩ : ∃ x,[l,s,p].getD j 0 = x ∧ 0 ≤ x ∧ x ≤ 4294967295 := by
    refine ⟨_,rfl,?_⟩
    match j,hlt with
    | 0,_ => exact ⟨l0,l1⟩
    | 1,_ => exact ⟨s0,s1⟩
    | 2,_ => exact ⟨p0,p1⟩
   have hc : wr.cell? ⟨w1.heap.size,j,none⟩ = some (.int .u32 x) := by
    rw [HY.out.cell j,← hx]
    match j,hlt with
    | 0,_ => rfl
    | 1,_ => rfl
    | 2,_ => rfl
   have HE := hQ_ (pre_succ k l s p j hlt)
   rw [hx] at HE
   have HN := hQ_ (HPN.out g c j x wr _ HO.out.bs hlt)
   rw [show width 4 = 4 from rfl,← HE.out] at HN
   have HLN := hQ_ (pre_len k l s p (j + 1) (by omega))
   clear hx HE
   go_wp2_with fail
   refine HN.out.mono ?_
   intro e w2 hm
   obtain ⟨g2,c2,rfl,ho2,hb2⟩ := hm.at_ HLN.out
   go_wp2_with fail
   go_roundw
   case rel => exact ⟨j + 1,g2,c2,by omega,by go_num,rfl,lower ho2 HBW.out.size,HY.out.below hb2,keeps HBW.out hb2⟩
   case measure => simp [intOf]; omega
  ·obtain rfl : j = 3 := by omega
   have hs := HO.out.str_ (P := Tryz.prog) 77 9 Tryz.underlying77 Tryz.underlying5 Tryz.underlying9
   rw [pre_all,show str (nb k l s p) = nput k l s p from rfl] at hs
   obtain ⟨ss,hss⟩ : ∃ z,nput k l s p = z := ⟨_,rfl⟩
   rw [hss] at hs
   have HSS := hQ_ hss
   clear hss
   go_wp2_with fail
   go_ret
   exact ⟨by rw [HSS.out]; rfl,HBW.out⟩
theorem number_calls (A : Option Addr) (n c : Nat) (xs : List Int) (j : Nat) (w : World) (hb : Bs w A n xs) (hn : 13 = n) (J : Int) (hJ : J = j) (hj : j < 3) : Calls Tryz.prog 114 #[.slice A n c,.int .i64 J] w fun e w' => e = .returned (.int .u32 (PackM.getn xs (1 + 4 * j) 4)) ∧ w = w' := by
 subst hn
 subst hJ
 have hl := hb.len
 obtain ⟨i,hi⟩ : ∃ i,1 + 4 * j = i := ⟨_,rfl⟩
 rw [hi]
 have hg := g_ok xs i 4 (by omega) (by rw [show width 4 = 4 from rfl]; omega)
 have hG := get_calls A 13 c xs i 4 w hb (by omega) (by omega) (by omega) (by omega) (by omega)
 have e0 : gx xs i 4 = PackM.getn xs i 4 := by
  rw [hg.1]
  rfl
 have hd := get_bd xs i 4 hb.2.1
 have e1 : (256 : Int) ^ 4 = 4294967296 := by decide
 rw [e1] at hd
 rw [e0] at hG
 have e2 : (i : Int) = 1 + (j : Int) * 4 := by omega
 rw [e2] at hG
 have HG := hQ_ hG
 clear hG hg e0 e1 e2 hl hb hi
 generalize PackM.getn xs i 4 = X at *
 go_enter Tryz.func114,Tryz.ntmps114
 go_wp2_with fail
 refine HG.out.mono ?_
 rintro e w2 ⟨rfl,rfl⟩
 go_wp2_with fail
 go_ret
 exact ⟨rfl,rfl⟩
theorem get_no (t : ByteArray) (w : World) (h : t.size ≠ 13) (hn : t.size ≤ maxLen) : Calls Tryz.prog 67 #[.string t] w (GetE t w) := by
 unfold maxLen at hn
 unfold GetE
 rw [getv_no (by unfold gok; rw [decide_eq_false h]; rfl)]
 have d : ((t.size : Int) != 13) = true := by simp; omega
 have hs : (t.size : Int) ≤ 9223372036854775807 := by omega
 have HB := hQ_ ((Below.refl w.heap.size w).alloc (Nat.le_refl _) (.cells #[.int .u8 0,.int .u32 0,.int .u32 0,.int .u32 0] 59))
 have HR := hQ_ (Blk.new_ w #[.int .u8 0,.int .u32 0,.int .u32 0,.int .u32 0] 59)
 clear h
 go_enter Tryz.func67,Tryz.ntmps67
 go_wp2_with ((with_reducible refine pick none ?_); refine store_blk rfl 59 _ _ rfl w.heap.size #[.int .u8 0,.int .u32 0,.int .u32 0,.int .u32 0] rfl rfl 59 _ HR.out info_ino rfl (by simp [Value.oneCell']) ?_; intro w5 hk5 hg5)
 exact bodyPost_ret (v := .tuple #[.agg #[.int .u8 0,.int .u32 0,.int .u32 0,.int .u32 0],.bool false]) (results_row_tmp rfl _ _ w.heap.size 59 _ (0,0) _ rfl _ rfl hk5 Tryz.underlying59 rfl info_ino) rfl ⟨rfl,below_store HB.out hg5 (by simp)⟩
theorem get_13 (t : ByteArray) (w : World) (h : t.size = 13) : Calls Tryz.prog 67 #[.string t] w (GetE t w) := by
 have b1 := g_bd t 1
 have b5 := g_bd t 5
 have b9 := g_bd t 9
 have b0 := gk_bd t
 have HM := hQ_ (fun w => may_ok (gk t) (gl t) (gs t) (gp t) w b0.1 b0.2 b1.1 b1.2 b5.1 b5.2 b9.1 b9.2)
 have hgok : gok t = may (gk t) (gl t) (gs t) (gp t) := by
  unfold gok
  rw [h]
  rfl
 have HB0 := (Below.refl w.heap.size w).alloc (Nat.le_refl _) (.cells #[.int .u8 0,.int .u32 0,.int .u32 0,.int .u32 0] 59)
 have HR := Blk.new_ w #[.int .u8 0,.int .u32 0,.int .u32 0,.int .u32 0] 59
 obtain ⟨cap,w1,hrun,hf,hb1⟩ := conv_key (w.alloc (.cells #[.int .u8 0,.int .u32 0,.int .u32 0,.int .u32 0] 59)) t
 have hsz : (w.alloc (.cells #[.int .u8 0,.int .u32 0,.int .u32 0,.int .u32 0] 59)).heap.size = w.heap.size + 1 := by simp
 rw [hsz] at hrun hf
 rw [h] at hrun hf
 have HB1 := hQ_ (keeps HB0 hb1)
 have HR1 := hQ_ (HR.below hb1)
 have hz1 := hb1.size
 rw [hsz] at hz1
 have HG0 := hQ_ (fun (v : World) (hv : Below w1.heap.size w1 v) => number_calls (some ⟨w.heap.size + 1,0,none⟩) 13 cap (txt t) 0 v (hf.bs.below hv) rfl 0 rfl (by omega))
 have HG1 := hQ_ (fun (v : World) (hv : Below w1.heap.size w1 v) => number_calls (some ⟨w.heap.size + 1,0,none⟩) 13 cap (txt t) 1 v (hf.bs.below hv) rfl 1 rfl (by omega))
 have HG2 := hQ_ (fun (v : World) (hv : Below w1.heap.size w1 v) => number_calls (some ⟨w.heap.size + 1,0,none⟩) 13 cap (txt t) 2 v (hf.bs.below hv) rfl 2 rfl (by omega))
 rw [show PackM.getn (txt t) (1 + 4 * 0) 4 = gl t from rfl] at HG0
 rw [show PackM.getn (txt t) (1 + 4 * 1) 4 = gs t from rfl] at HG1
 rw [show PackM.getn (txt t) (1 + 4 * 2) 4 = gp t from rfl] at HG2
 have BD0 := hQ_ ((Below.refl w1.heap.size w1).drew)
 have BD1 := hQ_ (((Below.refl w1.heap.size w1).alloc (Nat.le_refl _) (.cells #[.int .u8 0,.int .u32 0,.int .u32 0,.int .u32 0] 59)).drew)
 have d : ((t.size : Int) != 13) = false := by simp; omega
 have hs : (t.size : Int) ≤ 9223372036854775807 := by omega
 have h0 : 0 < t.size := by omega
 have hk : ((t[0]'h0).toNat : Int) = gk t := by
  unfold gk
  rw [List.getD_eq_getElem?_getD,List.getElem?_eq_getElem (by rw [txt_len]; exact h0),Option.getD_some]
  simp [txt]
  rfl
 clear HB0 HR hf hb1 hsz b1 b5 b9 hz1 h
 unfold GetE
 go_enter Tryz.func67,Tryz.ntmps67
 go_upto_region 4 with ((with_reducible refine pick (some 11) ?_); refine wpList_conv rfl 9 77 _ rfl (.string t) (.slice (some ⟨w.heap.size + 1,0,none⟩) 13 cap) rfl hrun ?_)
 go_cut [5] (fun p wx => p = .pointer (some ⟨w1.heap.size,0,none⟩) ∧ (w1.alloc (.cells #[.int .u8 (gk t),.int .u32 (gl t),.int .u32 (gs t),.int .u32 (gp t)] 59)).drew = wx)
 case first =>
  go_region_held3 (fun v => Below w1.heap.size w1 v)
   (first | exact BD0.out | exact BD1.out | exact (bW_).drew | assumption)
   (first
   | (go_at_call 114; (with_reducible refine (HG0.out _ (by assumption)).mono ?_); rintro e w2 ⟨rfl,rfl⟩)
   | (go_at_call 114; (with_reducible refine (HG1.out _ (by assumption)).mono ?_); rintro e w2 ⟨rfl,rfl⟩)
   | (go_at_call 114; (with_reducible refine (HG2.out _ (by assumption)).mono ?_); rintro e w2 ⟨rfl,rfl⟩))
  all_goals (go_wp2_with fail; go_meet; exact ⟨rfl,rfl⟩)
 case rest =>
  obtain ⟨rfl,rfl⟩ := hcut
  have HX := hQ_ ((Blk.new_ w1 #[.int .u8 (gk t),.int .u32 (gl t),.int .u32 (gs t),.int .u32 (gp t)] 59).drew)
  have HBX := hQ_ ((HB1.out.alloc HB1.out.size (.cells #[.int .u8 (gk t),.int .u32 (gl t),.int .u32 (gs t),.int .u32 (gp t)] 59)).drew)
  have HRX := hQ_ ((HR1.out.alloc (.cells #[.int .u8 (gk t),.int .u32 (gl t),.int .u32 (gs t),.int .u32 (gp t)] 59)).drew)
  obtain ⟨W,hW⟩ : ∃ W,(w1.alloc (.cells #[.int .u8 (gk t),.int .u32 (gl t),.int .u32 (gs t),.int .u32 (gp t)] 59)).drew = W := ⟨_,rfl⟩
  have hWS : w1.heap.size < W.heap.size := by rw [← hW]; simp
  rw [hW] at HX HBX HRX ⊢
  clear hW
  have HM2 := hQ_ (HM.out W)
  cases hb : gok t with
  | true =>
    have HV := hQ_ (getv_yes hb)
    rw [hgok.symm.trans hb] at HM2
    clear hgok hb
    go_wp2_with ((with_reducible refine pick (some 21) ?_); refine load_blk rfl 59 _ rfl w1.heap.size rfl 59 _ _ HX.out Tryz.underlying59 rfl info_ino ?_)
    refine HM2.out.mono ?_
    rintro e w3 ⟨rfl,hb3⟩
    have HX3 := hQ_ (HX.out.below hb3)
    have HR3 := hQ_ (HRX.out.below hb3)
    have HB3 := hQ_ (keeps HBX.out hb3)
    have HZ3 := hQ_ (show w.heap.size ≤ w3.heap.size by have h1 := hb3.size; have h2 := HB1.out.size; omega)
    clear hb3
    go_wp2_with (first
     | ((with_reducible refine pick (some 25) ?_); refine load_blk rfl 59 _ rfl w1.heap.size rfl 59 _ _ HX3.out Tryz.underlying59 rfl info_ino ?_)
     | ((with_reducible refine pick none ?_); refine store_blk rfl 59 _ _ rfl w.heap.size #[.int .u8 (gk t),.int .u32 (gl t),.int .u32 (gs t),.int .u32 (gp t)] rfl rfl 59 _ HR3.out info_ino rfl (by simp [Value.oneCell']) ?_; intro w5 hk5 hg5))
    exact bodyPost_ret (v := .tuple #[.agg #[.int .u8 (gk t),.int .u32 (gl t),.int .u32 (gs t),.int .u32 (gp t)],.bool true]) (results_row_tmp rfl _ _ w.heap.size 59 _ (0,0) _ rfl _ rfl hk5 Tryz.underlying59 rfl info_ino) rfl ⟨by rw [HV.out],below_store HB3.out hg5 HZ3.out⟩
  | false =>
    have HV := hQ_ (getv_no hb)
    rw [hgok.symm.trans hb] at HM2
    clear hgok hb
    go_wp2_with ((with_reducible refine pick (some 21) ?_); refine load_blk rfl 59 _ rfl w1.heap.size rfl 59 _ _ HX.out Tryz.underlying59 rfl info_ino ?_)
    refine HM2.out.mono ?_
    rintro e w3 ⟨rfl,hb3⟩
    have HX3 := hQ_ (HX.out.below hb3)
    have HR3 := hQ_ (HRX.out.below hb3)
    have HB3 := hQ_ (keeps HBX.out hb3)
    have HZ3 := hQ_ (show w.heap.size ≤ w3.heap.size by have h1 := hb3.size; have h2 := HB1.out.size; omega)
    clear hb3
    go_wp2_with (first
     | ((with_reducible refine pick none ?_); refine store_blk rfl 59 _ _ rfl w.heap.size #[.int .u8 0,.int .u32 0,.int .u32 0,.int .u32 0] rfl rfl 59 _ HR3.out info_ino rfl (by simp [Value.oneCell']) ?_; intro w5 hk5 hg5))
    exact bodyPost_ret (v := .tuple #[.agg #[.int .u8 0,.int .u32 0,.int .u32 0,.int .u32 0],.bool false]) (results_row_tmp rfl _ _ w.heap.size 59 _ (0,0) _ rfl _ rfl hk5 Tryz.underlying59 rfl info_ino) rfl ⟨by rw [HV.out],below_store HB3.out hg5 HZ3.out⟩
theorem get_ok : GetOk := by
 intro t w hn
 by_cases h : t.size = 13
 ·exact get_13 t w h
 ·exact get_no t w h hn
theorem new_ok : NewOk := by
 intro k p w k0 k1 p0 p1
 unfold newV
 have HB := hQ_ ((Below.refl w.heap.size w).alloc (Nat.le_refl _) (.cells #[.int .u8 0,.int .u32 0,.int .u32 0,.int .u32 0] 59))
 have HR := hQ_ (Blk.new_ w #[.int .u8 0,.int .u32 0,.int .u32 0,.int .u32 0] 59)
 by_cases h : k = 1
 ·rw [if_pos h]
  go_enter Tryz.func91,Tryz.ntmps91
  go_wp2_with ((with_reducible refine pick none ?_); refine store_blk rfl 59 _ _ rfl w.heap.size #[.int .u8 1,.int .u32 1,.int .u32 0,.int .u32 0] rfl rfl 59 _ HR.out info_ino rfl (by simp [Value.oneCell']) ?_; intro w5 hk5 hg5)
  exact bodyPost_ret (v := .agg #[.int .u8 1,.int .u32 1,.int .u32 0,.int .u32 0]) (results_cell_row rfl _ _ w.heap.size 59 _ (0,0) _ rfl hk5 Tryz.underlying59 rfl info_ino) rfl ⟨rfl,below_store HB.out hg5 (by simp)⟩
 ·rw [if_neg h]
  go_enter Tryz.func91,Tryz.ntmps91
  go_wp2_with ((with_reducible refine pick none ?_); refine store_blk rfl 59 _ _ rfl w.heap.size #[.int .u8 2,.int .u32 2,.int .u32 0,.int .u32 p] rfl rfl 59 _ HR.out info_ino rfl (by simp [Value.oneCell']) ?_; intro w5 hk5 hg5)
  exact bodyPost_ret (v := .agg #[.int .u8 2,.int .u32 2,.int .u32 0,.int .u32 p]) (results_cell_row rfl _ _ w.heap.size 59 _ (0,0) _ rfl hk5 Tryz.underlying59 rfl info_ino) rfl ⟨rfl,below_store HB.out hg5 (by simp)⟩
theorem root_ok : RootOk := by
 intro w
 have HN := hQ_ (new_ok 2 1 (w.alloc (.cells #[.int .u8 0,.int .u32 0,.int .u32 0,.int .u32 0] 59)) (by omega) (by omega) (by omega) (by omega))
 rw [show newV 2 1 = .agg #[.int .u8 2,.int .u32 2,.int .u32 0,.int .u32 1] from rfl] at HN
 have HB := hQ_ ((Below.refl w.heap.size w).alloc (Nat.le_refl _) (.cells #[.int .u8 0,.int .u32 0,.int .u32 0,.int .u32 0] 59))
 have HR := hQ_ (Blk.new_ w #[.int .u8 0,.int .u32 0,.int .u32 0,.int .u32 0] 59)
 go_enter Tryz.func66,Tryz.ntmps66
 go_wp2_with fail
 refine HN.out.mono ?_
 rintro e w1 ⟨rfl,hb1⟩
 have HR1 := hQ_ (HR.out.below hb1)
 have HB1 := hQ_ (keeps HB.out hb1)
 have hz := hb1.size
 have HZ := hQ_ (show w.heap.size ≤ w1.heap.size by simp at hz; omega)
 clear hb1 hz
 go_wp2_with ((with_reducible refine pick none ?_); refine store_blk rfl 59 _ _ rfl w.heap.size #[.int .u8 2,.int .u32 2,.int .u32 0,.int .u32 1] rfl rfl 59 _ HR1.out info_ino rfl (by simp [Value.oneCell']) ?_; intro w5 hk5 hg5)
 exact bodyPost_ret (v := .agg #[.int .u8 2,.int .u32 2,.int .u32 0,.int .u32 1]) (results_cell_row rfl _ _ w.heap.size 59 _ (0,0) _ rfl hk5 Tryz.underlying59 rfl info_ino) rfl ⟨rfl,below_store HB1.out hg5 HZ.out⟩
end Go.Proofs.YtepjjndfodcggaaGreatDoor.NodeK
namespace Go.Proofs.YtepjjndfodcggaaGreatDoor.KeysL
open Go.RowKit
open Byte KeysM KeysR KeysS KeysN
def Txt (s : ByteArray) (w : World) (e : Ending) (w' : World) : Prop := e = .returned (.string s) ∧ Below w.heap.size w w'
def InodeOk : Prop := ∀ (ino : Int) (w : World),0 ≤ ino → ino ≤ 4294967295 → Calls Tryz.prog 65 #[.int .u32 ino] w (Txt (kI ino) w)
def EntryOk : Prop := ∀ (ino : Int) (name : ByteArray) (w : World),0 ≤ ino → ino ≤ 4294967295 → name.size ≤ 100000 → Calls Tryz.prog 63 #[.int .u32 ino,.string name] w (Txt (kE ino name) w)
def BlockOk : Prop := ∀ (ino n : Int) (w : World),0 ≤ ino → ino ≤ 4294967295 → -9223372036854775808 ≤ n → n ≤ 9223372036854775807 → Calls Tryz.prog 135 #[.int .u32 ino,.int .i64 n] w (Txt (kD ino n) w)
def SplitOk : Prop := ∀ (key : ByteArray) (w : World),key.size ≤ 100000 → Calls Tryz.prog 105 #[.string key] w (SpE (sp key) w)
def NameOk : Prop := ∀ (s : ByteArray) (w : World),s.size ≤ 100000 → Calls Tryz.prog 146 #[.string s] w fun e w' => e = .returned (.bool (nameOk s)) ∧ Below w.heap.size w w'
end Go.Proofs.YtepjjndfodcggaaGreatDoor.KeysL
namespace Go.Proofs.YtepjjndfodcggaaGreatDoor.KeysC
open Go.RowKit
open Byte PackM PackV KeysM KeysR KeysS KeysL KeysV
theorem head_calls (c ino : Int) (w : World) (hc0 : 0 ≤ c) (hc1 : c ≤ 255) (h0 : 0 ≤ ino) (h1 : ino ≤ 4294967295) :
 Calls Tryz.prog 112 #[.int .u8 c,.int .u32 ino] w (Made (kq c ino) w) := by
 have hbw := bN_ w (.cells #[.int .u8 c] 5)
 have HB := hQ_ hbw
 have HP := hQ_ (put_calls (some ⟨w.heap.size,0,none⟩) 1 1 [c] 4 ino (w.alloc (.cells #[.int .u8 c] 5)) (Bs.new_ w 5 (0,0) [c] (by intro z hz; rw [List.mem_singleton] at hz; omega)) (by omega) (by omega) (by omega))
 rw [kq_of] at HP
 have HL := hQ_ (kq_len c ino)
 clear hbw
 obtain ⟨zs,hzs⟩ : ∃ z,kq c ino = z := ⟨_,rfl⟩
 rw [hzs] at HP HL ⊢
 clear hzs
 go_enter Tryz.func112,Tryz.ntmps112
 go_wp2_with (go_at_call 124; refine HP.out.mono ?_; intro e w2 hm; obtain ⟨g,cap,rfl,ho,hb2⟩ := hm.at_ HL.out; have HO : Hid (Ob w2 w.heap.size 5 g 5 cap zs) := hQ_ ⟨ho.1,ho.2.1,World.ownsRow.mono ho.2.2 HB.out.size⟩; have HB2 := hQ_ (keeps HB.out hb2); clear hm ho hb2)
 go_ret
 exact Made.of HL.out rfl HO.out HB2.out
theorem inode_calls : InodeOk := by
 intro ino w h0 h1
 unfold Txt
 have HQ := hQ_ (fun w => head_calls 73 ino w (by omega) (by omega) h0 h1)
 have HK : Hid (str (kq 73 ino) = kI ino) := hQ_ rfl
 have HL := hQ_ (kq_len 73 ino)
 obtain ⟨zs,hzs⟩ : ∃ z,kq 73 ino = z := ⟨_,rfl⟩
 obtain ⟨ss,hss⟩ : ∃ z,kI ino = z := ⟨_,rfl⟩
 rw [hzs] at HQ HK HL
 rw [hss] at HK ⊢
 clear hzs hss
 go_enter Tryz.func65,Tryz.ntmps65
 go_wp2_with (go_at_call 112; refine (HQ.out _).mono ?_; intro e w2 hm; obtain ⟨g,cap,rfl,ho,hb2⟩ := hm.at_ HL.out; have hs := ho.str_ (P := Tryz.prog) 77 9 Tryz.underlying77 Tryz.underlying5 Tryz.underlying9; rw [HK.out] at hs; have HB2 := hQ_ hb2; clear hm ho hb2)
 go_ret
 exact ⟨rfl,HB2.out⟩
theorem entry_calls : EntryOk := by
 intro ino name w h0 h1 hn
 unfold Txt
 by_cases hl : 32 < name.size
 ·have he : kE ino name = E0 := if_pos hl
  rw [he]
  have d : decide ((32 : Int) < (name.size : Int)) = true := by simp; omega
  clear he
  go_enter Tryz.func63,Tryz.ntmps63
  go_wp2_with fail
  go_ret
  exact ⟨rfl,Below.refl _ _⟩
 ·have he : kE ino name = ks 69 ino ++ name := if_neg hl
  rw [he]
  have d : decide ((32 : Int) < (name.size : Int)) = false := by simp; omega
  have hs : ((ks 69 ino).size : Int) ≤ 8388608 := by rw [ks_size]; omega
  have hs2 : (name.size : Int) ≤ 8388608 := by omega
  have HQ := hQ_ (fun w => head_calls 69 ino w (by omega) (by omega) h0 h1)
  have HK : Hid (str (kq 69 ino) = ks 69 ino) := hQ_ rfl
  have HL := hQ_ (kq_len 69 ino)
  obtain ⟨zs,hzs⟩ : ∃ z,kq 69 ino = z := ⟨_,rfl⟩
  obtain ⟨ss,hss⟩ : ∃ z,ks 69 ino = z := ⟨_,rfl⟩
  rw [hzs] at HQ HK HL
  rw [hss] at HK hs ⊢
  clear he hzs hss
  go_enter Tryz.func63,Tryz.ntmps63
  go_wp2_with (go_at_call 112; refine (HQ.out _).mono ?_; intro e w2 hm; obtain ⟨g,cap,rfl,ho,hb2⟩ := hm.at_ HL.out; have hst := ho.str_ (P := Tryz.prog) 77 9 Tryz.underlying77 Tryz.underlying5 Tryz.underlying9; rw [HK.out] at hst; have HB2 := hQ_ hb2; clear hm ho hb2)
  go_ret
  exact ⟨rfl,HB2.out⟩
theorem low2 (n : Int) (h0 : 0 ≤ n) (h1 : n ≤ 65535) : low (width 2) n = [n / 256,n % 256] := by
 have e : low (width 2) n = [n / 256 % 256,n % 256] := by
  show low 2 n = _
  simp [low]
 rw [e,show n / 256 % 256 = n / 256 by omega]
theorem block_calls : BlockOk := by
 intro ino n w h0 h1 hn0 hn1
 unfold Txt
 have HQ := hQ_ (fun w => head_calls 68 ino w (by omega) (by omega) h0 h1)
 rcases (show n < 0 ∨ (0 ≤ n ∧ 65535 < n) ∨ (0 ≤ n ∧ n ≤ 65535) by omega) with hl | ⟨hl,hl2⟩ | ⟨hl,hl2⟩
 ·have he : kD ino n = E0 := if_pos (.inl hl)
  rw [he]
  have d : decide (n < (0 : Int)) = true := by simpa using hl
  clear he
  go_enter Tryz.func135,Tryz.ntmps135
  go_wp2_with fail
  go_ret
  exact ⟨rfl,Below.refl _ _⟩
 ·have he : kD ino n = E0 := if_pos (.inr (by omega))
  rw [he]
  have d : decide (n < (0 : Int)) = false := by simp; omega
  have d2 : decide ((65535 : Int) < n) = true := by simpa using hl2
  clear he
  go_enter Tryz.func135,Tryz.ntmps135
  go_wp2_with fail
  go_ret
  exact ⟨rfl,Below.refl _ _⟩
 ·have he : kD ino n = str (kq 68 ino ++ low (width 2) n) := by
   rw [low2 n hl hl2,← str_append]
   exact if_neg (by omega)
  rw [he]
  have d : decide (n < (0 : Int)) = false := by simp; omega
  have d2 : decide ((65535 : Int) < n) = false := by simp; omega
  have r1 : IntKind.u64.wrap n = n := by rw [IntKind.wrap_u64]; omega
  have HL := hQ_ (kq_len 68 ino)
  have HL2 : Hid ((kq 68 ino ++ low (width 2) n).length = 7) := hQ_ (by rw [List.length_append,kq_len,low_len]; rfl)
  obtain ⟨q,hq⟩ : ∃ q,kq 68 ino = q := ⟨_,rfl⟩
  rw [hq] at HQ HL HL2 ⊢
  obtain ⟨r,hr⟩ : ∃ r,q ++ low (width 2) n = r := ⟨_,rfl⟩
  obtain ⟨ss,hss⟩ : ∃ z,str r = z := ⟨_,rfl⟩
  rw [hr] at HL2 ⊢
  rw [hss]
  have HR := hQ_ hr
  have HS := hQ_ hss
  clear hq he hr hss
  go_enter Tryz.func135,Tryz.ntmps135
  go_wp2_with fail
  refine (HQ.out _).mono ?_
  intro e w2 hm
  obtain ⟨g,cap,rfl,ho,hb2⟩ := hm.at_ HL.out
  have HB2 := hQ_ hb2
  have HP := hQ_ (put_calls (some ⟨g,0,none⟩) 5 cap q 2 n w2 ho.bs (by omega) (by omega) (by omega))
  rw [HR.out] at HP
  clear hm ho hb2
  go_wp2_with fail
  refine HP.out.mono ?_
  intro e w3 hm
  obtain ⟨g3,cap3,rfl,ho,hb3⟩ := hm.at_ HL2.out
  have hst := ho.str_ (P := Tryz.prog) 77 9 Tryz.underlying77 Tryz.underlying5 Tryz.underlying9
  rw [HS.out] at hst
  have HB3 := hQ_ (keeps HB2.out hb3)
  clear hm ho hb3
  go_wp2_with fail
  go_ret
  exact ⟨rfl,HB3.out⟩
end Go.Proofs.YtepjjndfodcggaaGreatDoor.KeysC
namespace Go.Proofs.YtepjjndfodcggaaGreatDoor.KeysB
open Go.RowKit
open Byte PackM PackV KeysM KeysR KeysS KeysL KeysV KeysC
theorem Bs.front {w : World} {g n : Nat} {xs : List Int} (h : Bs w (some ⟨g,0,none⟩) n xs) (k : Nat) (hk : k ≤ n) : Bs w (some ⟨g,0,none⟩) k (xs.take k) := by
 have := h.sub 0 k (by omega)
 simpa using this
theorem conv_front {w : World} {g n cap : Nat} {xs : List Int} (h : Bs w (some ⟨g,0,none⟩) n xs) (k : Nat) (hk : k ≤ n) {s : ByteArray} (hs : str (xs.take k) = s) : (convert 77 9 (.slice (some ⟨g,0,none⟩) k cap)).run Tryz.prog w = .ok (.string s) w := by
 subst hs
 exact (Bs.front h k hk).str_ 77 9 Tryz.underlying77 Tryz.underlying5 Tryz.underlying9
theorem conv_one (w : World) (y : Int) (h0 : 0 ≤ y) (h1 : y ≤ 255) {s : ByteArray} (hs : str [y] = s) : (convert 77 9 (.slice (some ⟨w.heap.size,0,none⟩) 1 1)).run Tryz.prog (w.alloc (.cells #[.int .u8 y] 5)) = .ok (.string s) (w.alloc (.cells #[.int .u8 y] 5)) := by
 subst hs
 exact (Bs.new_ w 5 (0,0) [y] (by intro z hz; simp at hz; omega)).str_ 77 9 Tryz.underlying77 Tryz.underlying5 Tryz.underlying9
theorem conv_one_drew (w : World) (y : Int) (h0 : 0 ≤ y) (h1 : y ≤ 255) {s : ByteArray} (hs : str [y] = s) : (convert 77 9 (.slice (some ⟨w.heap.size,0,none⟩) 1 1)).run Tryz.prog (w.alloc (.cells #[.int .u8 y] 5)).drew = .ok (.string s) (w.alloc (.cells #[.int .u8 y] 5)).drew := by
 subst hs
 exact ((Bs.new_ w 5 (0,0) [y] (by intro z hz; simp at hz; omega)).below ((Below.refl _ _).drew)).str_ 77 9 Tryz.underlying77 Tryz.underlying5 Tryz.underlying9
theorem above_calls (g cap : Nat) (xs : List Int) (w : World) (hb : Bs w (some ⟨g,0,none⟩) 5 xs) (hc : 5 ≤ cap) (h0 : xs.getD 0 0 < 255) :
 Calls Tryz.prog 141 #[.slice (some ⟨g,0,none⟩) 5 cap] w fun e w' => ∃ S,e = .returned (.string S) ∧ Hid (Up xs S) ∧ Below w.heap.size w w' := by
 have HB := hQ_ hb
 have H0 := hQ_ h0
 clear hb h0
 go_enter Tryz.func141,Tryz.ntmps141
 go_wp2
 go_loop [3] (fun v => ∃ k : Nat,k < 5 ∧ v = .int .i64 k ∧ Hid (∀ j,k < j → j < 5 → xs.getD j 0 = 255)) (fun v => (intOf v).toNat)
 case atStart => exact ⟨4,by omega,rfl,hQ_ (fun j h1 h2 => by omega)⟩
 case round =>
  obtain ⟨k,hk,rfl,HK⟩ := hrel
  have hcell := HB.out.at_ k hk
  rw [Nat.zero_add] at hcell
  have hbd := HB.out.bd k
  by_cases hx : xs.getD k 0 = 255
  ·rw [hx] at hcell
   have hk1 : 0 < k := by
    rcases Nat.eq_zero_or_pos k with rfl | h
    ·have := H0.out
     omega
    ·exact h
   have HX := hQ_ hx
   clear hx hbd
   go_wp2
   go_round
   case rel => exact ⟨k - 1,by omega,by go_num,hQ_ (fun j h1 h2 => (by
    rcases Nat.lt_or_ge k j with h | h
    ·exact HK.out j h h2
    ·obtain rfl : j = k := by omega
     exact HX.out))⟩
   case measure => simp [intOf]; omega
  ·have hUp : Up xs (str (xs.take k ++ [xs.getD k 0 + 1])) := ⟨k,by rw [HB.out.len]; exact hk,by omega,fun j h1 h2 => HK.out j h1 (by rw [← HB.out.len]; exact h2),txt_str _ (by
    intro z hz
    rcases List.mem_append.1 hz with h | h
    ·exact HB.out.2.1 z (List.mem_of_mem_take h)
    ·rw [List.mem_singleton] at h
     omega)⟩
   rw [← str_append] at hUp
   have HU := hQ_ hUp
   have hy : (xs.getD k 0 == 255) = false := by rw [beq_eq_false_iff_ne]; exact hx
   have hz1 : ((str (xs.take k)).size : Int) ≤ 8388608 := by rw [str_size,List.length_take,HB.out.len]; omega
   have hz2 : ((str [xs.getD k 0 + 1]).size : Int) ≤ 8388608 := by rw [str_size]; simp
   generalize hyy : xs.getD k 0 = y at hcell hbd hx hy HU hz2
   obtain ⟨s1,hs1⟩ : ∃ s,str (xs.take k) = s := ⟨_,rfl⟩
   obtain ⟨s2,hs2⟩ : ∃ s,str [y + 1] = s := ⟨_,rfl⟩
   rw [hs1] at HU hz1
   rw [hs2] at HU hz2
   have hkc : k ≤ cap := by omega
   have hk5 : (k : Int) < 5 := by omega
   have c1 := conv_front (cap := cap) (HB.out.below ((Below.refl _ _).drew)) k (by omega) hs1
   have hb1 := bN_ w (.cells #[.int .u8 (y + 1)] 5)
   have c3 := conv_front (cap := cap) (HB.out.below hb1.drew) k (by omega) hs1
   have c2 := conv_one_drew w (y + 1) (by omega) (by omega) hs2
   have r1 : IntKind.u8.wrap (y + 1) = y + 1 := by rw [IntKind.wrap_u8]; omega
   have hq9 : ¬ 9223372036854775807 < s1.size + s2.size := by omega
   have HBB := hQ_ hb1
   clear hx hyy hs1 hs2 hUp hb1
   go_wp2
   go_region
   all_goals
    go_wp2
    go_ret
    exact ⟨_,rfl,HU,HBB.out.drew⟩
theorem kq_front (c ino : Int) : (kq c ino).getD 0 0 = c := rfl
theorem above_of {zs : List Int} {w w1 v : World} {g cap : Nat} {c : Int} (hf : zs.getD 0 0 = c) (hc : c < 255) (ho : Ob w1 w.heap.size 5 g 5 cap zs) (hv : Below w1.heap.size w1 v) :
 Calls Tryz.prog 141 #[.slice (some ⟨g,0,none⟩) 5 cap] v fun e w' => ∃ S,e = .returned (.string S) ∧ Hid (Up zs S) ∧ Below v.heap.size v w' :=
 above_calls g cap zs v (ho.bs.below hv) ho.capLe (by rw [hf]; exact hc)
theorem conv_after {zs : List Int} {w1 v : World} {g cap : Nat} {s : ByteArray} (hb : Bs w1 (some ⟨g,0,none⟩) 5 zs) (hs : str zs = s) (hv : Below w1.heap.size w1 v) :
 (convert 77 9 (.slice (some ⟨g,0,none⟩) 5 cap)).run Tryz.prog v = .ok (.string s) v := by
 subst hs
 exact (hb.below hv).str_ 77 9 Tryz.underlying77 Tryz.underlying5 Tryz.underlying9
theorem up_size {xs : List Int} {S : ByteArray} (h : Up xs S) : S.size ≤ xs.length := by
 obtain ⟨k,hk,_,_,e⟩ := h
 have := congrArg List.length e
 rw [txt_len,List.length_append,List.length_take] at this
 simp at this
 omega
theorem entries_small (ino : Int) (w : World) (h0 : 0 ≤ ino) (h1 : ino ≤ 4294967295) : Calls Tryz.prog 104 #[.int .u32 ino] w fun e w' => ∃ a b,e = .returned (.tuple #[.string a,.string b]) ∧ Hid (Rng a b fun s => decide (s.letter = 69) && decide (s.ino = ino)) ∧ a.size ≤ 7 ∧ b.size ≤ 7 ∧ Below w.heap.size w w' := by
 have HQ := hQ_ (fun w => head_calls 69 ino w (by omega) (by omega) h0 h1)
 have HL := hQ_ (kq_len 69 ino)
 have HF := hQ_ (kq_front 69 ino)
 have HR : Hid (∀ a b,txt a = kq 69 ino → Up (kq 69 ino) b → Rng a b fun s => decide (s.letter = 69) && decide (s.ino = ino)) := hQ_ (fun a b ha hb => rng_entries ha hb h0 h1)
 have HT := hQ_ (ks_txt (c := 69) (ino := ino) (by omega) (by omega))
 have HK : Hid (str (kq 69 ino) = ks 69 ino) := hQ_ rfl
 generalize ks 69 ino = ss at HT HK
 generalize kq 69 ino = zs at HQ HL HF HR HT HK
 go_enter Tryz.func104,Tryz.ntmps104
 go_wp2_with fail
 refine (HQ.out _).mono ?_
 intro e w2 hm
 obtain ⟨g,cap,rfl,ho,hb2⟩ := hm.at_ HL.out
 have HB2 := hQ_ hb2
 have HBS := hQ_ ho.bs
 have AB := hQ_ (above_of HF.out (by omega) ho ((Below.refl _ _).drew))
 have c1 := conv_after (cap := cap) ho.bs HK.out ((Below.refl _ _).drew)
 clear hm ho hb2
 go_wp2_with fail
 go_region_law (go_simp; go_at_call 141; refine AB.out.mono ?_; rintro e w3 ⟨S,rfl,HU,hb3⟩; have c4 := conv_after (cap := cap) HBS.out HK.out (keeps ((Below.refl _ _).drew) hb3); have HB3 := hQ_ (keeps HB2.out (keeps ((Below.refl _ _).drew) hb3)); clear hb3)
 all_goals
  go_wp2_with fail
  go_ret2
  exact ⟨ss,S,rfl,hQ_ (HR.out ss S HT.out HU.out),by have := congrArg List.length HT.out; rw [txt_len,HL.out] at this; omega,by have := up_size HU.out; rw [HL.out] at this; omega,HB3.out⟩
theorem blocks_small (ino n : Int) (w : World) (h0 : 0 ≤ ino) (h1 : ino ≤ 4294967295) (hn0 : -9223372036854775808 ≤ n) (hn1 : n ≤ 9223372036854775807) : Calls Tryz.prog 133 #[.int .u32 ino,.int .i64 n] w fun e w' => ∃ a b,e = .returned (.tuple #[.string a,.string b]) ∧ Hid (Rng a b fun s => decide (s.letter = 68) && decide (s.ino = ino) && decide (n ≤ s.n)) ∧ a.size ≤ 7 ∧ b.size ≤ 7 ∧ Below w.heap.size w w' := by
 have HQ := hQ_ (fun w => head_calls 68 ino w (by omega) (by omega) h0 h1)
 have HL := hQ_ (kq_len 68 ino)
 have HF := hQ_ (kq_front 68 ino)
 have HM : Hid (∀ a b,txt a = kq 68 ino ++ [max n 0 / 256,max n 0 % 256] → Up (kq 68 ino) b → n ≤ 65535 → Rng a b fun s => decide (s.letter = 68) && decide (s.ino = ino) && decide (n ≤ s.n)) := hQ_ (fun a b ha hb hn => rng_blocks ha hb h0 h1 hn)
 have HN : Hid (∀ b,65535 < n → Rng b b fun s => decide (s.letter = 68) && decide (s.ino = ino) && decide (n ≤ s.n)) := hQ_ (fun b hb => rng_none hb)
 obtain ⟨zs,hzs⟩ : ∃ z,kq 68 ino = z := ⟨_,rfl⟩
 rw [hzs] at HQ HL HF HM
 by_cases hl : 65535 < n
 ·have d2 : decide ((65535 : Int) < n) = true := by simpa using hl
  clear hzs
  go_enter Tryz.func133,Tryz.ntmps133
  go_wp2_with fail
  refine (HQ.out _).mono ?_
  intro e w2 hm
  obtain ⟨g,cap,rfl,ho,hb2⟩ := hm.at_ HL.out
  have HB2 := hQ_ hb2
  have AB := hQ_ (above_of HF.out (by omega) ho (Below.refl _ _))
  clear hm ho hb2
  go_wp2_with fail
  refine AB.out.mono ?_
  rintro e w3 ⟨S,rfl,HU,hb3⟩
  have HB3 := hQ_ (keeps HB2.out hb3)
  clear hb3
  go_wp2_with fail
  go_ret2
  exact ⟨S,S,rfl,hQ_ (HN.out S hl),by have := up_size HU.out; rw [HL.out] at this; omega,by have := up_size HU.out; rw [HL.out] at this; omega,HB3.out⟩
 ·have d2 : decide ((65535 : Int) < n) = false := by simp; omega
  have HBK := hQ_ (fun (w : World) => block_calls ino (max n 0) w h0 h1 (by omega) (by omega))
  unfold Txt at HBK
  have HT : Hid (txt (kD ino (max n 0)) = zs ++ [max n 0 / 256,max n 0 % 256]) := hQ_ (by
   have hk : kD ino (max n 0) = ks 68 ino ++ str [max n 0 / 256,max n 0 % 256] := if_neg (by omega)
   rw [hk,txt_append,ks_txt (by omega) (by omega),txt_str _ (by simp; omega),hzs])
  obtain ⟨ss,hss⟩ : ∃ z,kD ino (max n 0) = z := ⟨_,rfl⟩
  rw [hss] at HBK HT
  clear hss hzs
  go_enter Tryz.func133,Tryz.ntmps133
  go_wp2_with fail
  refine (HQ.out _).mono ?_
  intro e w2 hm
  obtain ⟨g,cap,rfl,ho,hb2⟩ := hm.at_ HL.out
  have HB2 := hQ_ hb2
  have AB := hQ_ (above_of HF.out (by omega) ho (Below.refl _ _))
  clear hm ho hb2
  go_wp2_with fail
  refine AB.out.mono ?_
  rintro e w3 ⟨S,rfl,HU,hb3⟩
  have HB3 := hQ_ (keeps HB2.out hb3)
  clear hb3
  go_wp2_with fail
  all_goals
   refine (HBK.out _).mono ?_
   rintro e w4 ⟨rfl,hb4⟩
   have HB4 := hQ_ (keeps HB3.out hb4)
   clear hb4
   go_wp2_with fail
   go_ret2
   exact ⟨ss,S,rfl,hQ_ (HM.out ss S HT.out HU.out (by omega)),by have := congrArg List.length HT.out; rw [txt_len,List.length_append,HL.out] at this; simp at this; omega,by have := up_size HU.out; rw [HL.out] at this; omega,HB4.out⟩
end Go.Proofs.YtepjjndfodcggaaGreatDoor.KeysB