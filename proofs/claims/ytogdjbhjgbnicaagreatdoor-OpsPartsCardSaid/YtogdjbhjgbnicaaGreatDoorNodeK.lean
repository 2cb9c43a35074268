import Derived.Test.YtogdjbhjgbnicaaGreatDoorSq
import Derived.Test.YtogdjbhjgbnicaaGreatDoorNodeL
import Derived.Test.YtogdjbhjgbnicaaGreatDoorPackG
import Derived.Deep.RegionHeld3
import Derived.Deep.DeepCutAuto
set_option maxHeartbeats 16000000
set_option linter.unusedVariables false
set_option linter.unusedSimpArgs false
set_option maxRecDepth 100000
namespace Go.Proofs.YtogdjbhjgbnicaaGreatDoor.NodeK
open Go.RowKit
open Byte PackM PackV PackG ConvS KeysM KeysR KeysS NodeM NodeG Lst NodeL
open Own hiding keeps
theorem may_ok : MayOk := by
 intro k l s p w k0 k1 l0 l1 s0 s1 p0 p1
 obtain ⟨B,hB⟩ : ∃ b,may k l s p = b := ⟨_,rfl⟩
 have HBB := hQ_ hB
 rw [hB]
 clear hB
 go_enter Tryz.func166,Tryz.ntmps166
 go_wp2
 all_goals
  go_ret
  rw [← HBB.out]
  refine ⟨ret_bool ?_,bW_⟩
  rw [Bool.eq_iff_iff]
  unfold may
  split <;> simp_all <;> omega
def pre (k l s p : Int) (j : Nat) : List Int := [k] ++ ([l,s,p].take j).flatMap (low 4)
theorem pre_len (k l s p : Int) (j : Nat) (hj : j ≤ 3) : (pre k l s p j).length = 1 + 4 * j := by
 match j,hj with
 | 0,_ => simp [pre]
 | 1,_ => simp [pre,low_len]
 | 2,_ => simp [pre,low_len]
 | 3,_ => simp [pre,low_len]
theorem pre_succ (k l s p : Int) (j : Nat) (hj : j < 3) : pre k l s p (j + 1) = pre k l s p j ++ low 4 ([l,s,p].getD j 0) := by
 match j,hj with
 | 0,_ => simp [pre]
 | 1,_ => simp [pre]
 | 2,_ => simp [pre]
theorem pre_all (k l s p : Int) : pre k l s p 3 = nb k l s p := by simp [pre,nb]
theorem low1 (k : Int) (k0 : 0 ≤ k) (k1 : k ≤ 255) : low (width 1) k = [k] := by
 show low 1 k = [k]
 have e : k % 256 = k := by omega
 simp [low,e]
theorem put_ok : PutOk := by
 intro k l s p w k0 k1 l0 l1 s0 s1 p0 p1
 have HX := hQ_ (Blk.new_ w #[.int .u8 k,.int .u32 l,.int .u32 s,.int .u32 p] 46)
 have HB := hQ_ ((Below.refl w.heap.size w).alloc (Nat.le_refl _) (.cells #[.int .u8 k,.int .u32 l,.int .u32 s,.int .u32 p] 46))
 have HP := hQ_ (fun w => put_calls none 0 0 [] 1 k w (Bs.nil_ _ _) (by omega) (by omega) (by omega))
 have HL := hQ_ (low1 k k0 k1)
 have e0 : pre k l s p 0 = [k] := by simp [pre]
 rw [HL.out,List.nil_append,← e0] at HP
 clear e0
 go_enter Tryz.func124,Tryz.ntmps124
 go_wp2_with fail
 refine (HP.out _).mono ?_
 intro e w1 hm
 obtain ⟨g1,c1,rfl,ho1,hb1⟩ := hm.at_ (pre_len k l s p 0 (by omega))
 have HX1 := hQ_ (HX.out.below hb1)
 have HB1 := hQ_ (keeps HB.out hb1)
 have HO1 := hQ_ (lower ho1 (by simp) : Ob w1 w.heap.size 5 g1 (1 + 4 * 0) c1 (pre k l s p 0))
 have t1 := cZ1 HX1.out
 have t2 := cZ2 HX1.out
 have t3 := cZ3 HX1.out
 have hz1 := hb1.size
 have HZ1 := hQ_ (show w.heap.size ≤ w1.heap.size by simp at hz1; omega)
 have HB2 := hQ_ (HB1.out.alloc HZ1.out (.cells #[.int .u32 l,.int .u32 s,.int .u32 p] 33))
 have HY2 := hQ_ (Blk.new_ w1 #[.int .u32 l,.int .u32 s,.int .u32 p] 33)
 have HO2 := hQ_ (HO1.out.below ((Below.refl _ _).alloc (Nat.le_refl _) (.cells #[.int .u32 l,.int .u32 s,.int .u32 p] 33)))
 clear hm ho1 hb1 hz1
 have HPN := hQ_ (fun (g c j : Nat) (x : Int) (w : World) (xs : List Int) (hb : Bs w (some ⟨g,0,none⟩) (1 + 4 * j) xs) (hj : j < 3) => put_calls (some ⟨g,0,none⟩) (1 + 4 * j) c xs 4 x w hb (by omega) (by omega) (by omega))
 go_wp2_with fail
 go_loopw [3,18] (fun b i wr => ∃ (j g c : Nat),j ≤ 3 ∧ i = .int .i64 j ∧ b = .slice (some ⟨g,0,none⟩) (1 + 4 * j) c ∧ Ob wr w.heap.size 5 g (1 + 4 * j) c (pre k l s p j) ∧ Blk wr w1.heap.size #[.int .u32 l,.int .u32 s,.int .u32 p] 33 ∧ Below w.heap.size w wr) (fun _ i _ => 3 - (intOf i).toNat)
 case atStart => exact ⟨0,g1,c1,by omega,rfl,rfl,HO2.out,HY2.out,HB2.out⟩
 case round =>
  obtain ⟨j,g,c,hj,rfl,rfl,ho,hy,hb⟩ := hrel
  have HO := hQ_ ho
  have HY := hQ_ hy
  have HBW := hQ_ hb
  clear ho hy hb
  by_cases hlt : j < 3
  ·obtain ⟨x,hx,x0,x1⟩ : ∃ x,[l,s,p].getD j 0 = x ∧ 0 ≤ x ∧ x ≤ 4294967295 := by
    refine ⟨_,rfl,?_⟩
    match j,hlt with
    | 0,_ => exact ⟨l0,l1⟩
    | 1,_ => exact ⟨s0,s1⟩
    | 2,_ => exact ⟨p0,p1⟩
   have hc : wr.cell? ⟨w1.heap.size,j,none⟩ = some (.int .u32 x) := by
    rw [HY.out.cell j,← hx]
    match j,hlt with
    | 0,_ => rfl
    | 1,_ => rfl
    | 2,_ => rfl
   have HE := hQ_ (pre_succ k l s p j hlt)
   rw [hx] at HE
   have HN := hQ_ (HPN.out g c j x wr _ HO.out.bs hlt)
   rw [show width 4 = 4 from rfl,← HE.out] at HN
   have HLN := hQ_ (pre_len k l s p (j + 1) (by omega))
   clear hx HE
   go_wp2_with fail
   refine HN.out.mono ?_
   intro e w2 hm
   obtain ⟨g2,c2,rfl,ho2,hb2⟩ := hm.at_ HLN.out
   go_wp2_with fail
   go_roundw
   case rel => exact ⟨j + 1,g2,c2,by omega,by go_num,rfl,lower ho2 HBW.out.size,HY.out.below hb2,keeps HBW.out hb2⟩
   case measure => simp [intOf]; omega
  ·obtain rfl : j = 3 := by omega
   have hs := HO.out.str_ (P := Tryz.prog) 39 9 Tryz.underlying39 Tryz.underlying5 Tryz.underlying9
   rw [pre_all,show str (nb k l s p) = nput k l s p from rfl] at hs
   obtain ⟨ss,hss⟩ : ∃ z,nput k l s p = z := ⟨_,rfl⟩
   rw [hss] at hs
   have HSS := hQ_ hss
   clear hss
   go_wp2_with fail
   go_ret
   exact ⟨by rw [HSS.out]; rfl,HBW.out⟩
theorem number_calls (A : Option Addr) (n c : Nat) (xs : List Int) (j : Nat) (w : World) (hb : Bs w A n xs) (hn : 13 = n) (J : Int) (hJ : J = j) (hj : j < 3) : Calls Tryz.prog 165 #[.slice A n c,.int .i64 J] w fun e w' => e = .returned (.int .u32 (PackM.getn xs (1 + 4 * j) 4)) ∧ w = w' := by
 subst hn
 subst hJ
 have hl := hb.len
 obtain ⟨i,hi⟩ : ∃ i,1 + 4 * j = i := ⟨_,rfl⟩
 rw [hi]
 have hg := g_ok xs i 4 (by omega) (by rw [show width 4 = 4 from rfl]; omega)
 have hG := get_calls A 13 c xs i 4 w hb (by omega) (by omega) (by omega) (by omega) (by omega)
 have e0 : gx xs i 4 = PackM.getn xs i 4 := by
  rw [hg.1]
  rfl
 have hd := get_bd xs i 4 hb.2.1
 have e1 : (256 : Int) ^ 4 = 4294967296 := by decide
 rw [e1] at hd
 rw [e0] at hG
 have e2 : (i : Int) = 1 + (j : Int) * 4 := by omega
 rw [e2] at hG
 have HG := hQ_ hG
 clear hG hg e0 e1 e2 hl hb hi
 generalize PackM.getn xs i 4 = X at *
 go_enter Tryz.func165,Tryz.ntmps165
 go_wp2_with fail
 refine HG.out.mono ?_
 rintro e w2 ⟨rfl,rfl⟩
 go_wp2_with fail
 go_ret
 exact ⟨rfl,rfl⟩
theorem get_no (t : ByteArray) (w : World) (h : t.size ≠ 13) (hn : t.size ≤ maxLen) : Calls Tryz.prog 154 #[.string t] w (GetE t w) := by
 unfold maxLen at hn
 unfold GetE
 rw [getv_no (by unfold gok; rw [decide_eq_false h]; rfl)]
 have d : ((t.size : Int) != 13) = true := by simp; omega
 have hs : (t.size : Int) ≤ 9223372036854775807 := by omega
 have HB := hQ_ ((Below.refl w.heap.size w).alloc (Nat.le_refl _) (.cells #[.int .u8 0,.int .u32 0,.int .u32 0,.int .u32 0] 46))
 have HR := hQ_ (Blk.new_ w #[.int .u8 0,.int .u32 0,.int .u32 0,.int .u32 0] 46)
 clear h
 go_enter Tryz.func154,Tryz.ntmps154
 go_wp2_with ((with_reducible refine pick none ?_); refine store_blk rfl 46 _ _ rfl w.heap.size #[.int .u8 0,.int .u32 0,.int .u32 0,.int .u32 0] rfl rfl 46 _ HR.out info_ino rfl (by simp [Value.oneCell']) ?_; intro w5 hk5 hg5)
 exact bodyPost_ret (v := .tuple #[.agg #[.int .u8 0,.int .u32 0,.int .u32 0,.int .u32 0],.bool false]) (results_row_tmp rfl _ _ w.heap.size 46 _ (0,0) _ rfl _ rfl hk5 Tryz.underlying46 rfl info_ino) rfl ⟨rfl,below_store HB.out hg5 (by simp)⟩
theorem get_13 (t : ByteArray) (w : World) (h : t.size = 13) : Calls Tryz.prog 154 #[.string t] w (GetE t w) := by
 have b1 := g_bd t 1
 have b5 := g_bd t 5
 have b9 := g_bd t 9
 have b0 := gk_bd t
 have HM := hQ_ (fun w => may_ok (gk t) (gl t) (gs t) (gp t) w b0.1 b0.2 b1.1 b1.2 b5.1 b5.2 b9.1 b9.2)
 have hgok : gok t = may (gk t) (gl t) (gs t) (gp t) := by
  unfold gok
  rw [h]
  rfl
 have HB0 := (Below.refl w.heap.size w).alloc (Nat.le_refl _) (.cells #[.int .u8 0,.int .u32 0,.int .u32 0,.int .u32 0] 46)
 have HR := Blk.new_ w #[.int .u8 0,.int .u32 0,.int .u32 0,.int .u32 0] 46
 obtain ⟨cap,w1,hrun,hf,hb1⟩ := conv_key (w.alloc (.cells #[.int .u8 0,.int .u32 0,.int .u32 0,.int .u32 0] 46)) t
 have hsz : (w.alloc (.cells #[.int .u8 0,.int .u32 0,.int .u32 0,.int .u32 0] 46)).heap.size = w.heap.size + 1 := by simp
 rw [hsz] at hrun hf
 rw [h] at hrun hf
 have HB1 := hQ_ (keeps HB0 hb1)
 have HR1 := hQ_ (HR.below hb1)
 have hz1 := hb1.size
 rw [hsz] at hz1
 have HG0 := hQ_ (fun (v : World) (hv : Below w1.heap.size w1 v) => number_calls (some ⟨w.heap.size + 1,0,none⟩) 13 cap (txt t) 0 v (hf.bs.below hv) rfl 0 rfl (by omega))
 have HG1 := hQ_ (fun (v : World) (hv : Below w1.heap.size w1 v) => number_calls (some ⟨w.heap.size + 1,0,none⟩) 13 cap (txt t) 1 v (hf.bs.below hv) rfl 1 rfl (by omega))
 have HG2 := hQ_ (fun (v : World) (hv : Below w1.heap.size w1 v) => number_calls (some ⟨w.heap.size + 1,0,none⟩) 13 cap (txt t) 2 v (hf.bs.below hv) rfl 2 rfl (by omega))
 rw [show PackM.getn (txt t) (1 + 4 * 0) 4 = gl t from rfl] at HG0
 rw [show PackM.getn (txt t) (1 + 4 * 1) 4 = gs t from rfl] at HG1
 rw [show PackM.getn (txt t) (1 + 4 * 2) 4 = gp t from rfl] at HG2
 have BD0 := hQ_ ((Below.refl w1.heap.size w1).drew)
 have BD1 := hQ_ (((Below.refl w1.heap.size w1).alloc (Nat.le_refl _) (.cells #[.int .u8 0,.int .u32 0,.int .u32 0,.int .u32 0] 46)).drew)
 have d : ((t.size : Int) != 13) = false := by simp; omega
 have hs : (t.size : Int) ≤ 9223372036854775807 := by omega
 have h0 : 0 < t.size := by omega
 have hk : ((t[0]'h0).toNat : Int) = gk t := by
  unfold gk
  rw [List.getD_eq_getElem?_getD,List.getElem?_eq_getElem (by rw [txt_len]; exact h0),Option.getD_some]
  simp [txt]
  rfl
 clear HB0 HR hf hb1 hsz b1 b5 b9 hz1 h
 unfold GetE
 go_enter Tryz.func154,Tryz.ntmps154
 go_upto_region 4 with ((with_reducible refine pick (some 11) ?_); refine wpList_conv rfl 9 39 _ rfl (.string t) (.slice (some ⟨w.heap.size + 1,0,none⟩) 13 cap) rfl hrun ?_)
 go_cut [5] (fun p wx => p = .pointer (some ⟨w1.heap.size,0,none⟩) ∧ (w1.alloc (.cells #[.int .u8 (gk t),.int .u32 (gl t),.int .u32 (gs t),.int .u32 (gp t)] 46)).drew = wx)
 case first =>
  go_region_held3 (fun v => Below w1.heap.size w1 v)
   (first | exact BD0.out | exact BD1.out | exact (bW_).drew | assumption)
   (first
   | (go_at_call 165; (with_reducible refine (HG0.out _ (by assumption)).mono ?_); rintro e w2 ⟨rfl,rfl⟩)
   | (go_at_call 165; (with_reducible refine (HG1.out _ (by assumption)).mono ?_); rintro e w2 ⟨rfl,rfl⟩)
   | (go_at_call 165; (with_reducible refine (HG2.out _ (by assumption)).mono ?_); rintro e w2 ⟨rfl,rfl⟩))
  all_goals (go_wp2_with fail; go_meet; exact ⟨rfl,rfl⟩)
 case rest =>
  obtain ⟨rfl,rfl⟩ := hcut
  have HX := hQ_ ((Blk.new_ w1 #[.int .u8 (gk t),.int .u32 (gl t),.int .u32 (gs t),.int .u32 (gp t)] 46).drew)
  have HBX := hQ_ ((HB1.out.alloc HB1.out.size (.cells #[.int .u8 (gk t),.int .u32 (gl t),.int .u32 (gs t),.int .u32 (gp t)] 46)).drew)
  have HRX := hQ_ ((HR1.out.alloc (.cells #[.int .u8 (gk t),.int .u32 (gl t),.int .u32 (gs t),.int .u32 (gp t)] 46)).drew)
  obtain ⟨W,hW⟩ : ∃ W,(w1.alloc (.cells #[.int .u8 (gk t),.int .u32 (gl t),.int .u32 (gs t),.int .u32 (gp t)] 46)).drew = W := ⟨_,rfl⟩
  have hWS : w1.heap.size < W.heap.size := by rw [← hW]; simp
  rw [hW] at HX HBX HRX ⊢
  clear hW
  have HM2 := hQ_ (HM.out W)
  cases hb : gok t with
  | true =>
    have HV := hQ_ (getv_yes hb)
    rw [hgok.symm.trans hb] at HM2
    clear hgok hb
    go_wp2_with ((with_reducible refine pick (some 21) ?_); refine load_blk rfl 46 _ rfl w1.heap.size rfl 46 _ _ HX.out Tryz.underlying46 rfl info_ino ?_)
    refine HM2.out.mono ?_
    rintro e w3 ⟨rfl,hb3⟩
    have HX3 := hQ_ (HX.out.below hb3)
    have HR3 := hQ_ (HRX.out.below hb3)
    have HB3 := hQ_ (keeps HBX.out hb3)
    have HZ3 := hQ_ (show w.heap.size ≤ w3.heap.size by have h1 := hb3.size; have h2 := HB1.out.size; omega)
    clear hb3
    go_wp2_with (first
     | ((with_reducible refine pick (some 25) ?_); refine load_blk rfl 46 _ rfl w1.heap.size rfl 46 _ _ HX3.out Tryz.underlying46 rfl info_ino ?_)
     | ((with_reducible refine pick none ?_); refine store_blk rfl 46 _ _ rfl w.heap.size #[.int .u8 (gk t),.int .u32 (gl t),.int .u32 (gs t),.int .u32 (gp t)] rfl rfl 46 _ HR3.out info_ino rfl (by simp [Value.oneCell']) ?_; intro w5 hk5 hg5))
    exact bodyPost_ret (v := .tuple #[.agg #[.int .u8 (gk t),.int .u32 (gl t),.int .u32 (gs t),.int .u32 (gp t)],.bool true]) (results_row_tmp rfl _ _ w.heap.size 46 _ (0,0) _ rfl _ rfl hk5 Tryz.underlying46 rfl info_ino) rfl ⟨by rw [HV.out],below_store HB3.out hg5 HZ3.out⟩
  | false =>
    have HV := hQ_ (getv_no hb)
    rw [hgok.symm.trans hb] at HM2
    clear hgok hb
    go_wp2_with ((with_reducible refine pick (some 21) ?_); refine load_blk rfl 46 _ rfl w1.heap.size rfl 46 _ _ HX.out Tryz.underlying46 rfl info_ino ?_)
    refine HM2.out.mono ?_
    rintro e w3 ⟨rfl,hb3⟩
    have HX3 := hQ_ (HX.out.below hb3)
    have HR3 := hQ_ (HRX.out.below hb3)
    have HB3 := hQ_ (keeps HBX.out hb3)
    have HZ3 := hQ_ (show w.heap.size ≤ w3.heap.size by have h1 := hb3.size; have h2 := HB1.out.size; omega)
    clear hb3
    go_wp2_with (first
     | ((with_reducible refine pick none ?_); refine store_blk rfl 46 _ _ rfl w.heap.size #[.int .u8 0,.int .u32 0,.int .u32 0,.int .u32 0] rfl rfl 46 _ HR3.out info_ino rfl (by simp [Value.oneCell']) ?_; intro w5 hk5 hg5))
    exact bodyPost_ret (v := .tuple #[.agg #[.int .u8 0,.int .u32 0,.int .u32 0,.int .u32 0],.bool false]) (results_row_tmp rfl _ _ w.heap.size 46 _ (0,0) _ rfl _ rfl hk5 Tryz.underlying46 rfl info_ino) rfl ⟨by rw [HV.out],below_store HB3.out hg5 HZ3.out⟩
theorem get_ok : GetOk := by
 intro t w hn
 by_cases h : t.size = 13
 ·exact get_13 t w h
 ·exact get_no t w h hn
theorem cuts_fuel : ∀ (f g : Nat) (a n : Int),0 ≤ a → n ≤ f → n ≤ g → cuts f a n = cuts g a n := by
 intro f
 induction f with
 | zero =>
   intro g a n ha hf hg
   cases g with
   | zero => rfl
   | succ g =>
     show [] = NodeM.cuts (g + 1) a n
     unfold NodeM.cuts
     rw [if_pos (by omega)]
 | succ f ih =>
   intro g a n ha hf hg
   cases g with
   | zero =>
     show NodeM.cuts (f + 1) a n = []
     unfold NodeM.cuts
     rw [if_pos (by omega)]
   | succ g =>
     unfold NodeM.cuts
     by_cases h : n ≤ 0
     ·rw [if_pos h,if_pos h]
     ·rw [if_neg h,if_neg h]
      have hm : min n (64 - a % 64) = n ∨ min n (64 - a % 64) = 64 - a % 64 := by omega
      rw [ih g _ _ (by omega) (by omega) (by omega)]
theorem cuts_len : ∀ (f : Nat) (a n : Int),(cuts f a n).length ≤ f := by
 intro f
 induction f with
 | zero => intro a n; exact Nat.le_refl _
 | succ f ih =>
   intro a n
   unfold NodeM.cuts
   split
   ·simp
   ·have := ih (a + min n (64 - a % 64)) (n - min n (64 - a % 64))
    simp
    omega
def rest (a n : Int) : List (Int × Int × Int) := cuts n.toNat a n
theorem rest_nil {a n : Int} (h : n ≤ 0) : rest a n = [] := by
 have e : n.toNat = 0 := by omega
 unfold rest
 rw [e]
 rfl
theorem rest_next {a n m : Int} (ha : 0 ≤ a) (h : 0 < n) (hm : m = min n (64 - a % 64)) : rest a n = (a / 64,a % 64,m) :: rest (a + m) (n - m) := by
 subst hm
 obtain ⟨f,hf⟩ : ∃ f : Nat,n.toNat = f + 1 := ⟨n.toNat - 1,by omega⟩
 unfold rest
 rw [hf]
 have hm : min n (64 - a % 64) = n ∨ min n (64 - a % 64) = 64 - a % 64 := by omega
 conv => lhs; unfold NodeM.cuts
 rw [if_neg (by omega),cuts_fuel f (n - min n (64 - a % 64)).toNat _ _ (by omega) (by omega) (by omega)]
theorem info_tr : (Tryz.prog.info? 183).map (fun i => (i.zero,i.size,i.bytes)) = some (some (.agg #[.int .i64 0,.int .i64 0,.int .i64 0]),trE.size,24) := by kernel_rfl
theorem below_append2 {w wr w2 : World} {v : Value} {m : Nat} {L : List (Int × Int × Int)} {C : Array Value} {T : TypeId} (hb : Below w.heap.size w wr) (ho : So trE 183 wr w.heap.size v m L) (hg : (wr.alloc (.cells C T)).grownBy w2 v.ownBlock) : Below w.heap.size w w2 :=
 (hb.alloc hb.size _).grown hg (by have := hb.size; simp; omega) (fun g hv => (ho.lt hv).1)
theorem cut_no (a n : Int) (w : World) (a0 : -9223372036854775808 ≤ a) (a1 : a ≤ 9223372036854775807) (n0 : -9223372036854775808 ≤ n) (n1 : n ≤ 9223372036854775807) (h : a < 0 ∨ n ≤ 0 ∨ 4096 < a ∨ 4096 - a < n) : Calls Tryz.prog 128 #[.int .i64 a,.int .i64 n] w (CutE a n w) := by
 have e : cutL a n = [] := if_pos h
 unfold CutE
 rw [e]
 clear e
 by_cases ha : a < 0
 ·clear h
  go_enter Tryz.func128,Tryz.ntmps128
  go_wp2_with fail
  go_ret
  exact ⟨none,0,0,rfl,So.nil_ _ _ _ _,Below.refl _ _⟩
 ·have d1 : decide (a < 0) = false := by simpa using ha
  by_cases hn : n ≤ 0
  ·clear h
   go_enter Tryz.func128,Tryz.ntmps128
   go_wp2_with fail
   go_ret
   exact ⟨none,0,0,rfl,So.nil_ _ _ _ _,Below.refl _ _⟩
  ·have d2 : decide (n ≤ 0) = false := by simpa using hn
   have h3 : 4096 - a < n := by omega
   clear h
   go_enter Tryz.func128,Tryz.ntmps128
   go_wp2_with fail
   go_ret
   exact ⟨none,0,0,rfl,So.nil_ _ _ _ _,Below.refl _ _⟩
theorem cut_yes (a n : Int) (w : World) (a0 : 0 ≤ a) (n0 : 0 < n) (hs : a + n ≤ 4096) : Calls Tryz.prog 128 #[.int .i64 a,.int .i64 n] w (CutE a n w) := by
 have e : cutL a n = rest a n := if_neg (by omega)
 unfold CutE
 rw [e]
 have hR : (rest a n).length ≤ 4096 := Nat.le_trans (cuts_len _ _ _) (by omega)
 obtain ⟨R,hRe⟩ : ∃ R,rest a n = R := ⟨_,rfl⟩
 have HR := hQ_ hRe
 rw [hRe] at hR ⊢
 clear e hRe
 have d1 : decide (a < 0) = false := by simp; omega
 have d2 : decide (n ≤ 0) = false := by simp; omega
 have d3 : decide (4096 - a < n) = false := by simp; omega
 go_enter Tryz.func128,Tryz.ntmps128
 go_wp2_with fail
 go_loopw [0,1,5] (fun x y v wr => ∃ (a' n' : Int) (m : Nat) (L : List (Int × Int × Int)),0 ≤ a' ∧ 0 ≤ n' ∧ a' + n' ≤ 4096 ∧ x = .int .i64 a' ∧ y = .int .i64 n' ∧ So trE 183 wr w.heap.size v m L ∧ Hid (L ++ rest a' n' = R) ∧ m ≤ R.length ∧ Below w.heap.size w wr) (fun _ y _ _ => (intOf y).toNat)
 case atStart => exact ⟨a,n,0,[],by omega,by omega,by omega,rfl,rfl,So.nil_ _ _ _ _,hQ_ (by rw [List.nil_append]; exact HR.out),Nat.zero_le _,Below.refl _ _⟩
 case round =>
  obtain ⟨a',n',m,L,ha',hn',hs',rfl,rfl,hso,HL,hm,hb⟩ := hrel
  have HO := hQ_ hso
  have HB := hQ_ hb
  clear hso hb d1 d2 d3 a0 n0 hs HR
  by_cases hlt : 0 < n'
  ·have HNX := hQ_ (rest_next ha' hlt rfl)
   have hl2 : L.length + 1 ≤ R.length := by
    rw [← HL.out,HNX.out]
    simp
   have hlm := HO.out.1
   have hq0 : 1 ≤ min n' (64 - a' % 64) ∧ min n' (64 - a' % 64) ≤ 64 ∧ min n' (64 - a' % 64) ≤ n' := by omega
   have hbz := HB.out.size
   go_wp2_with ((with_reducible refine pick (some 35) ?_); refine wpList_append_lst trE 183 rfl _ _ _ rfl Tryz.underlying181 info_tr rfl w.heap.size _ m L rfl (HO.out.below (bW_)) wr.heap.size 0 1 1 [(a' / 64,a' % 64,min n' (64 - a' % 64))] rfl (Sl.new_ trE wr _ (a' / 64,a' % 64,min n' (64 - a' % 64)) _ rfl) (m + 1) rfl (L ++ [(a' / 64,a' % 64,min n' (64 - a' % 64))]) rfl (by unfold maxLen; omega) (by omega) (by simp; omega) ?_; intro v' w2 ho2 hg2 _ _)
   go_roundw
   case rel => exact ⟨_,_,m + 1,_,by omega,by omega,by omega,rfl,rfl,ho2,hQ_ (by rw [List.append_assoc]; exact (congrArg (L ++ ·) HNX.out.symm).trans HL.out),by omega,below_append2 HB.out HO.out hg2⟩
   case measure => simp [intOf]; omega
  ·obtain rfl : n' = 0 := by omega
   have hl := HL.out
   rw [rest_nil (by omega),List.append_nil] at hl
   subst hl
   rcases HO.out.form with ⟨hv,rfl⟩ | ⟨g,cap,hv,_⟩
   ·subst hv
    go_wp2_with fail
    go_ret
    exact ⟨none,0,0,rfl,HO.out,HB.out⟩
   ·subst hv
    go_wp2_with fail
    go_ret
    exact ⟨some ⟨g,0,none⟩,m,cap,rfl,HO.out,HB.out⟩
theorem cut_ok : CutOk := by
 intro a n w a0 a1 n0 n1
 by_cases h : a < 0 ∨ n ≤ 0 ∨ 4096 < a ∨ 4096 - a < n
 ·exact cut_no a n w a0 a1 n0 n1 h
 ·exact cut_yes a n w (by omega) (by omega) (by omega)
theorem blocks_ok : BlocksOk := by
 intro n w n0 n1
 unfold blk
 by_cases h : n ≤ 0
 ·rw [if_pos h]
  go_enter Tryz.func110,Tryz.ntmps110
  go_wp2_with fail
  go_ret
  exact ⟨rfl,Below.refl _ _⟩
 ·rw [if_neg h]
  go_enter Tryz.func110,Tryz.ntmps110
  go_wp2_with fail
  go_ret
  exact ⟨ret_int (by omega),Below.refl _ _⟩
theorem new_ok : NewOk := by
 intro k p w k0 k1 p0 p1
 unfold newV
 have HB := hQ_ ((Below.refl w.heap.size w).alloc (Nat.le_refl _) (.cells #[.int .u8 0,.int .u32 0,.int .u32 0,.int .u32 0] 46))
 have HR := hQ_ (Blk.new_ w #[.int .u8 0,.int .u32 0,.int .u32 0,.int .u32 0] 46)
 by_cases h : k = 1
 ·rw [if_pos h]
  go_enter Tryz.func100,Tryz.ntmps100
  go_wp2_with ((with_reducible refine pick none ?_); refine store_blk rfl 46 _ _ rfl w.heap.size #[.int .u8 1,.int .u32 1,.int .u32 0,.int .u32 0] rfl rfl 46 _ HR.out info_ino rfl (by simp [Value.oneCell']) ?_; intro w5 hk5 hg5)
  exact bodyPost_ret (v := .agg #[.int .u8 1,.int .u32 1,.int .u32 0,.int .u32 0]) (results_cell_row rfl _ _ w.heap.size 46 _ (0,0) _ rfl hk5 Tryz.underlying46 rfl info_ino) rfl ⟨rfl,below_store HB.out hg5 (by simp)⟩
 ·rw [if_neg h]
  go_enter Tryz.func100,Tryz.ntmps100
  go_wp2_with ((with_reducible refine pick none ?_); refine store_blk rfl 46 _ _ rfl w.heap.size #[.int .u8 2,.int .u32 2,.int .u32 0,.int .u32 p] rfl rfl 46 _ HR.out info_ino rfl (by simp [Value.oneCell']) ?_; intro w5 hk5 hg5)
  exact bodyPost_ret (v := .agg #[.int .u8 2,.int .u32 2,.int .u32 0,.int .u32 p]) (results_cell_row rfl _ _ w.heap.size 46 _ (0,0) _ rfl hk5 Tryz.underlying46 rfl info_ino) rfl ⟨rfl,below_store HB.out hg5 (by simp)⟩
theorem root_ok : RootOk := by
 intro w
 have HN := hQ_ (new_ok 2 1 (w.alloc (.cells #[.int .u8 0,.int .u32 0,.int .u32 0,.int .u32 0] 46)) (by omega) (by omega) (by omega) (by omega))
 rw [show newV 2 1 = .agg #[.int .u8 2,.int .u32 2,.int .u32 0,.int .u32 1] from rfl] at HN
 have HB := hQ_ ((Below.refl w.heap.size w).alloc (Nat.le_refl _) (.cells #[.int .u8 0,.int .u32 0,.int .u32 0,.int .u32 0] 46))
 have HR := hQ_ (Blk.new_ w #[.int .u8 0,.int .u32 0,.int .u32 0,.int .u32 0] 46)
 go_enter Tryz.func153,Tryz.ntmps153
 go_wp2_with fail
 refine HN.out.mono ?_
 rintro e w1 ⟨rfl,hb1⟩
 have HR1 := hQ_ (HR.out.below hb1)
 have HB1 := hQ_ (keeps HB.out hb1)
 have hz := hb1.size
 have HZ := hQ_ (show w.heap.size ≤ w1.heap.size by simp at hz; omega)
 clear hb1 hz
 go_wp2_with ((with_reducible refine pick none ?_); refine store_blk rfl 46 _ _ rfl w.heap.size #[.int .u8 2,.int .u32 2,.int .u32 0,.int .u32 1] rfl rfl 46 _ HR1.out info_ino rfl (by simp [Value.oneCell']) ?_; intro w5 hk5 hg5)
 exact bodyPost_ret (v := .agg #[.int .u8 2,.int .u32 2,.int .u32 0,.int .u32 1]) (results_cell_row rfl _ _ w.heap.size 46 _ (0,0) _ rfl hk5 Tryz.underlying46 rfl info_ino) rfl ⟨rfl,below_store HB1.out hg5 HZ.out⟩
end Go.Proofs.YtogdjbhjgbnicaaGreatDoor.NodeK