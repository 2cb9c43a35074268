import Derived.Test.YtlblfpacnegmlaaSq
import Derived.Test.YtlblfpacnegmlaaClashQ
import Derived.Test.YtlblfpacnegmlaaOwc
import Derived.Test.YtlblfpacnegmlaaHo
set_option maxHeartbeats 16000000
set_option linter.unusedVariables false
set_option linter.unusedSimpArgs false
set_option maxRecDepth 100000
namespace Go.Proofs.Ytlblfpacnegmlaa.ClashS
open Go.RowKit
open Byte KeysM TreeM ViewM ClashM Lst Chg Ho TreeR TreeL ViewR ViewL Nest ClashL ClashP ClashQ Owc
open Tx (txE)
open Own
structure Hws (w : World) (L : List Oq) (WS : List (List Pr)) : Prop where
 len : WS.length = L.length
 row : ∀ (j : Nat) (o : Oq) (W : List Pr),L[j]? = some o → WS[j]? = some W → Sl prE w o.h.a o.h.n W
structure Rds (w : World) (hs : List Hd) (l : List (List Pr)) : Prop where
 len : hs.length = l.length
 row : ∀ (j : Nat) (x : Hd) (W : List Pr),hs[j]? = some x → l[j]? = some W → Sl prE w x.a x.n W ∧ x.n ≤ 300
theorem Rds.snoc {w : World} {hs : List Hd} {l : List (List Pr)} (h : Rds w hs l) {x : Hd} {W : List Pr} (hx : Sl prE w x.a x.n W) (hn : x.n ≤ 300) : Rds w (hs ++ [x]) (l ++ [W]) := by
 refine ⟨by simp [h.len],fun j y V hy hV => ?_⟩
 rcases Nat.lt_trichotomy j l.length with hj | hj | hj
 ·rw [List.getElem?_append_left (by rw [h.len]; exact hj)] at hy
  rw [List.getElem?_append_left hj] at hV
  exact h.row j y V hy hV
 ·subst hj
  rw [← h.len,List.getElem?_concat_length] at hy
  rw [List.getElem?_concat_length] at hV
  cases hy
  cases hV
  exact ⟨hx,hn⟩
 ·rw [List.getElem?_eq_none (by simp; omega)] at hV
  cases hV
def OffB (v : Value) (T D : Nat → Prop) : Prop := ∀ b,v.ownBlock = some b → ¬ T b ∧ ¬ D b
theorem So.shape {α : Type} {e : Enc α} {T : TypeId} {w : World} {base : Nat} {v : Value} {n : Nat} {L : List α} (h : So e T w base v n L) : ∃ a c,v = .slice a n c := by
 rcases h.form with ⟨rfl,rfl⟩ | ⟨g,cap,rfl,_⟩
 ·exact ⟨_,_,rfl⟩
 ·exact ⟨_,_,rfl⟩
structure InvP (Rep : HRep) (VRep : World → Value → Vs → (Nat → Prop) → (Nat → Prop) → Prop) (w w0 wr : World) (h : Value) (v9 : Value) (hs : List Hd) (l : List (List Pr)) (g : Nat) (T : Nat → Prop) (v : Value) (s : Vs) (S D : Nat → Prop) : Prop where
 row : So hdE 24 wr w0.heap.size v9 l.length hs
 rds : Rds w hs l
 off : OffB v9 T D
 both : Both Rep VRep w.heap.size wr h l g T v s S D
 bel : Below w.heap.size w wr
section
variable {Rep : HRep} {VRep : World → Value → Vs → (Nat → Prop) → (Nat → Prop) → Prop}
theorem InvP.below {w w0 wr w' : World} {h v9 v : Value} {hs : List Hd} {l : List (List Pr)} {g : Nat} {T S D : Nat → Prop} {s : Vs} (hH : HStay Rep) (hV : Stays VRep) (k : InvP Rep VRep w w0 wr h v9 hs l g T v s S D) (hb : Below wr.heap.size wr w') : InvP Rep VRep w w0 w' h v9 hs l g T v s S D :=
 ⟨k.row.below hb,k.rds,k.off,k.both.below hH hV hb,keeps k.bel hb⟩
theorem So.chg {α : Type} {e : Enc α} {T : TypeId} {w w' : World} {base : Nat} {v : Value} {n : Nat} {L : List α} {Q : Nat → Prop} (h : So e T w base v n L) (k : Chg Q w w') (ho : ∀ b,v.ownBlock = some b → ¬ Q b) : So e T w' base v n L := by
 obtain ⟨h1,h2,h3⟩ := h
 refine ⟨h1,h2,?_⟩
 rcases h3 with hn | ⟨g,cap,cur,rfl,hb,hgg,rest⟩
 ·exact .inl hn
 ·refine .inr ⟨g,cap,cur,rfl,hb,?_,rest⟩
  rw [k.block g (Array.getElem?_eq_some_iff.1 hgg).1 (ho g rfl)]
  exact hgg
theorem own_some {α : Type} {e : Enc α} {T : TypeId} {w : World} {base : Nat} {v : Value} {n : Nat} {L : List α} (h : So e T w base v n L) {x y : Nat} (hx : v.ownBlock = some x ∨ v.ownBlock = some y) : ∃ g c,v = .slice (some ⟨g,0,none⟩) n c := by
 rcases h.form with ⟨rfl,rfl⟩ | ⟨g,cap,rfl,_⟩
 ·rcases hx with hx | hx <;> simp [Value.ownBlock] at hx
 ·exact ⟨g,cap,rfl⟩
theorem zero_pair (w : World) : (zeroValue 49).run Try.prog w = .ok (.agg #[.string ⟨#[]⟩,.string ⟨#[]⟩,.bool false]) w := by kernel_rfl
theorem zero_pair1 : ∀ i (h : i < (Value.agg #[.string ⟨#[]⟩,.string ⟨#[]⟩,.bool false]).cells.size),(Value.agg #[.string ⟨#[]⟩,.string ⟨#[]⟩,.bool false]).cells[i].oneCell' = true := by decide +kernel
structure Mid (Rep : HRep) (VRep : World → Value → Vs → (Nat → Prop) → (Nat → Prop) → Prop) (w w0 wr : World) (h : Value) (v9 : Value) (hs : List Hd) (n : Nat) (l : List (List Pr)) (g : Nat) (T : Nat → Prop) (v : Value) (s : Vs) (S D : Nat → Prop) : Prop where
 row : So hdE 24 wr w0.heap.size v9 n hs
 off : OffB v9 T D
 both : Both Rep VRep w.heap.size wr h l g T v s S D
 bel : Below w.heap.size w wr
theorem InvP.add {w w0 wr w' : World} {h v9 v : Value} {hs : List Hd} {l l' : List (List Pr)} {g g' : Nat} {T T' S D : Nat → Prop} {s : Vs} (hV : Stays VRep) (k : InvP Rep VRep w w0 wr h v9 hs l g T v s S D) (hr : Rep w' h l' g' T') (hc : Chg T wr w') (hk : Kept wr w') (hg : Grow wr T T') : Mid Rep VRep w w0 w' h v9 hs l.length l' g' T' v s S D :=
 ⟨So.chg k.row hc (fun b hb => (k.off b hb).1),fun b hb => ⟨fun ht => by
   rcases hg b ht with h1 | h1
   ·exact (k.off b hb).1 h1
   ·have := (k.row.lt hb).2
    omega,(k.off b hb).2⟩,k.both.step hV hr hc hk hg k.bel.size,below_chg k.bel hc k.both.old (Nat.le_refl _)⟩
theorem Mid.below {w w0 wr w' : World} {h v9 v : Value} {hs : List Hd} {n : Nat} {l : List (List Pr)} {g : Nat} {T S D : Nat → Prop} {s : Vs} (hH : HStay Rep) (hV : Stays VRep) (k : Mid Rep VRep w w0 wr h v9 hs n l g T v s S D) (hb : Below wr.heap.size wr w') : Mid Rep VRep w w0 w' h v9 hs n l g T v s S D :=
 ⟨k.row.below hb,k.off,k.both.below hH hV hb,keeps k.bel hb⟩
theorem Mid.far {w w0 wr w' : World} {h v9 v : Value} {hs : List Hd} {n : Nat} {l : List (List Pr)} {g : Nat} {T S D Q : Nat → Prop} {s : Vs} (hH : HStay Rep) (hV : Stays VRep) (k : Mid Rep VRep w w0 wr h v9 hs n l g T v s S D) (hc : Chg Q wr w') (hk : Kept wr w') (h0 : ∀ b,v9.ownBlock = some b → ¬ Q b) (h1 : ∀ b,Q b → ¬ T b) (h2 : ∀ b,Q b → ¬ D b) (h3 : ∀ b,Q b → w.heap.size ≤ b) : Mid Rep VRep w w0 w' h v9 hs n l g T v s S D :=
 ⟨So.chg k.row hc h0,k.off,k.both.far hH hV hc hk h1 h2,below_chg k.bel hc h3 (Nat.le_refl _)⟩
theorem Mid.append {w w0 wr w' : World} {h v9 v9' v : Value} {hs : List Hd} {x : Hd} {l : List (List Pr)} {W : List Pr} {g : Nat} {T S D : Nat → Prop} {s : Vs} (hH : HStay Rep) (hV : Stays VRep) (k : Mid Rep VRep w w0 wr h v9 hs l.length (l ++ [W]) g T v s S D) (hw : w.heap.size ≤ w0.heap.size) (hr : Rds w hs l) (hx : Sl prE w x.a x.n W) (hn : x.n ≤ 300)
 (ho : So hdE 24 w' w0.heap.size v9' (l.length + 1) (hs ++ [x])) (hg : wr.grownBy w' v9.ownBlock) (hat : v9'.ownBlock = v9.ownBlock ∨ v9'.ownBlock = some wr.heap.size) : InvP Rep VRep w w0 w' h v9' (hs ++ [x]) (l ++ [W]) g T v s S D := by
 have hc : Chg (fun b => v9.ownBlock = some b) wr w' := Chg.of_grown hg (fun b hb => .inl hb)
 refine ⟨by rw [List.length_append]; exact ho,hr.snoc hx hn,fun b hb => ?_,k.both.far hH hV hc (Kept.of_grown k.row hg (by decide)) (fun b hb => (k.off b hb).1) (fun b hb => (k.off b hb).2),below_chg k.bel hc (fun b hb => Nat.le_trans hw (k.row.lt hb).1) (Nat.le_refl _)⟩
 rcases hat with h1 | h1
 ·exact k.off b (h1 ▸ hb)
 ·rw [hb] at h1
  cases h1
  exact ⟨fun ht => Nat.lt_irrefl _ (hH.lt k.both.his _ ht),fun hd => Nat.lt_irrefl _ (hV.lt k.both.view.rep _ hd)⟩
theorem info_hd : (Try.prog.info? 24).map (fun i => (i.zero,i.size,i.bytes)) = some (some (.slice none 0 0),hdE.size,24) := by kernel_rfl
theorem InvP.forget {w w0 wr w' : World} {h v9 v : Value} {hs : List Hd} {l : List (List Pr)} {g g' : Nat} {T T' S D : Nat → Prop} {s : Vs} (hV : Stays VRep) (k : InvP Rep VRep w w0 wr h v9 hs l g T v s S D) (hr : Rep w' h l g' T') (hc : Chg T wr w') (hk : Kept wr w') (hg : Grow wr T T') : InvP Rep VRep w w0 w' h v9 hs l g' T' v s S D :=
 ⟨So.chg k.row hc (fun b hb => (k.off b hb).1),k.rds,fun b hb => ⟨fun ht => by
   rcases hg b ht with h1 | h1
   ·exact (k.off b hb).1 h1
   ·have := (k.row.lt hb).2
    omega,(k.off b hb).2⟩,k.both.step hV hr hc hk hg k.bel.size,below_chg k.bel hc k.both.old (Nat.le_refl _)⟩
theorem plays_small (hH : Hst Rep VRep) (hN : HNil VRep) (hV : Vwc VRep) (hF : FixOk) (A B C : Option Addr) (m c n c2 q c3 : Nat) (L : List Oq) (WS : List (List Pr)) (R : List ByteArray) (G : List (ByteArray × ByteArray)) (w : World)
 (hl : Sl oqE w A m L) (hw : Hws w L WS) (hr : Sl txE w B n R) (hg : Sl rgE w C q G) (hm : m ≤ maxLen) (hf : ∀ o ∈ L,o.h.n ≤ 140737488351232) (hnh : ∀ o ∈ L,o.h.a = none → o.h.c = 0) (hnum : ∀ o ∈ L,0 ≤ o.num ∧ o.num ≤ 18446744073709551615 ∧ -9223372036854775808 ≤ o.kind ∧ o.kind ≤ 9223372036854775807)
 (hfr : ∀ t ∈ R,t.size ≤ 140737488351232) (hfg : ∀ p ∈ G,p.1.size ≤ 140737488351232 ∧ p.2.size ≤ 140737488351232) (hgr : tot L ≤ 300) (hn : n ≤ 100) (hq : q ≤ 100) :
 Calls Try.prog 5 #[.slice A m c,.slice B n c2,.slice C q c3] w fun e w' => e = .returned (.bool true) ∧ Below w.heap.size w w' := by
 have hmL : m ≤ 300 := by have := len_tot L; have := hl.1; omega
 have HH := hQ_ hH
 have HN := hQ_ hN
 have HV := hQ_ hV
 have HF := hQ_ hF
 have HL := hQ_ hl
 have HW := hQ_ hw
 have HNM := hQ_ hnum
 have HNH := hQ_ hnh
 have HGR : Hid (Calls Try.prog 9 #[.slice A m c] w fun e w' => e = .returned (.bool false) ∧ Below w.heap.size w w') := hQ_ (by
  have := great_calls A m c L w hl hm hf
  rwa [show decide (300 < tot L) = false from decide_eq_false (by omega)] at this)
 have HLK := hQ_ (fun (w' : World) (h : Below w.heap.size w w') => looked_calls hV B C n c2 q c3 R G w' (hr.below h) (hg.below h) hn hq hfr hfg)
 have HSM : Hid (∀ o ∈ L,o.h.n ≤ 300) := hQ_ (fun o ho => by
  obtain ⟨i,hi⟩ := List.mem_iff_getElem?.1 ho
  have h1 := tot_next hi
  have h2 := tot_take L (i + 1)
  omega)
 have d1 : decide ((100 : Int) < (n : Int)) = false := decide_eq_false (by omega)
 have d2 : decide ((100 : Int) < (q : Int)) = false := decide_eq_false (by omega)
 clear hH hN hV hF hl hw hr hg hm hf hnh hnum hfr hfg hgr
 go_enter Try.func5,Try.ntmps5
 go_wp2_with fail
 refine HGR.out.mono ?_
 rintro e w1 ⟨rfl,hb1⟩
 have HB1 := hQ_ hb1
 clear hb1
 go_wp2_with fail
 refine (HH.out.new _).mono ?_
 rintro e w2 ⟨hv,T0,rfl,hrep,hT0,hb2⟩
 obtain ⟨hb,rfl⟩ := HH.out.stays.some_ hrep
 have HB2 := hQ_ (keeps HB1.out hb2)
 have HREP := hQ_ hrep
 have HT0 : Hid (∀ b,T0 b → w.heap.size ≤ b) := hQ_ (fun b h => Nat.le_trans HB1.out.size (hT0 b h))
 clear hrep hT0 hb2
 go_wp2_with fail
 refine (HF.out _).mono ?_
 rintro e w3 ⟨rfl,hb3⟩
 have HB3 := hQ_ (keeps HB2.out hb3)
 have HREP3 := hQ_ (HH.out.stays.stay (Q := fun _ => False) HREP.out (Chg.of_below hb3) (fun _ h => h.elim))
 clear hb3 HREP
 go_wp2_with fail
 refine (HLK.out _ HB3.out).mono ?_
 rintro e w4 ⟨v,s,S,D,rfl,hlk,hb4⟩
 have HB4 := hQ_ (keeps HB3.out hb4)
 have HINV : Hid (InvP Rep VRep w w w4 (.pointer (some ⟨hb,0,none⟩)) (.slice none 0 0) [] [] 0 T0 v s S D) := hQ_
  ⟨So.nil_ _ _ _ _,⟨rfl,fun j x W h => by simp at h⟩,fun b h => by simp [Value.ownBlock] at h,⟨HH.out.stays.stay (Q := fun _ => False) HREP3.out (Chg.of_below hb4) (fun _ h => h.elim),HT0.out,
    ⟨hlk.rep,hlk.base,hlk.rd,hlk.rg,fun b h => Nat.le_trans HB3.out.size (hlk.own b h),fun b h => Nat.le_trans HB3.out.size (hlk.dep b h),hlk.sz⟩,fun b h1 h2 => by
      have := HH.out.stays.lt HREP3.out b h1
      have := hlk.dep b h2
      omega⟩,HB4.out⟩
 clear hlk hb4 HREP3
 go_wp2_with fail
 go_loopw [9,10,47] (fun v9 v10 i wr => ∃ (k : Nat) (hs : List Hd) (l : List (List Pr)) (g : Nat) (T : Nat → Prop),k ≤ m ∧ i = .int .i64 k ∧ v10 = .int .u64 g ∧ g ≤ l.length ∧ l.length ≤ k ∧ Hid (InvP Rep VRep w w wr (.pointer (some ⟨hb,0,none⟩)) v9 hs l g T v s S D)) (fun _ _ i _ => m - (intOf i).toNat)
 case atStart => exact ⟨0,[],[],0,T0,Nat.zero_le _,rfl,rfl,Nat.le_refl _,Nat.le_refl _,HINV⟩
 case round =>
  clear HINV
  obtain ⟨k,hs,l,g,T,hk,rfl,rfl,hgl,hlk,HI⟩ := hrel
  obtain ⟨la,lc,rfl⟩ := So.shape HI.out.row
  by_cases hlt : k < m
  ·obtain ⟨x,gb,o,hx,rfl,hg,hcl⟩ := (HL.out.below HI.out.bel).get k hlt
   have HC : Hid (wr.rangeAt gb (o + k * 3) [.int .i64 x.kind,.slice x.h.a x.h.n x.h.c,.int .u64 x.num]) := hQ_ hcl
   have hnx := HNM.out x (List.mem_of_getElem? hx)
   have HX := hQ_ hx
   obtain ⟨kind,⟨a,cn,cc⟩,num⟩ := x
   dsimp only at HC hnx
   obtain ⟨n0,n1,k0,k1⟩ := hnx
   obtain ⟨N,rfl⟩ := Int.eq_ofNat_of_zero_le n0
   have HA := hQ_ (HI.out.below HH.out.stays HV.out.stays ((Below.refl _ _).alloc (Nat.le_refl _) (.cells #[.int .i64 kind,.slice a cn cc,.int .u64 N] 37)))
   have HBK := hQ_ (Blk.new_ wr #[.int .i64 kind,.slice a cn cc,.int .u64 N] 37)
   clear hcl hx hg
   by_cases h0 : kind = 0
   ·subst h0
    obtain ⟨W,hW⟩ : ∃ W,WS[k]? = some W := by
     have h1 := (List.getElem?_eq_some_iff.1 HX.out).1
     rw [← HW.out.len] at h1
     exact ⟨_,List.getElem?_eq_getElem h1⟩
    have HSW := hQ_ (HW.out.row k _ W HX.out hW)
    have HCN := hQ_ (HSM.out _ (List.mem_of_getElem? HX.out))
    have HNIL := hQ_ (HNH.out _ (List.mem_of_getElem? HX.out))
    dsimp only at HSW HCN HNIL
    have hcn := HCN.out
    have HTL := hQ_ (HH.out.stays.lt HI.out.both.his)
    clear hW
    obtain ⟨Wa,hWa⟩ : ∃ Wa,wr.alloc (.cells #[.int .i64 0,.slice a cn cc,.int .u64 N] 37) = Wa := ⟨_,rfl⟩
    have HWA := hQ_ hWa
    have hsz : Wa.heap.size = wr.heap.size + 1 := by rw [← hWa]; simp
    rw [hWa] at HA HBK
    have HSN : Hid (So prE 49 (Wa.alloc (.cells #[] 49)) (wr.heap.size + 1) (.slice (some ⟨wr.heap.size + 1,0,none⟩) 0 0) 0 []) := hQ_ (by rw [← hsz]; exact So.new_ prE _ Wa (Nat.le_refl _))
    have HSZ := hQ_ hsz
    clear hWa hsz
    go_wp2_with (first
     | ((with_reducible refine pick (some 50) ?_); refine wpList_load_mid rfl 37 _ rfl gb (o + k * 3) rfl _ _ HC.out Try.underlying37 rfl info_oq ?_)
     | ((with_reducible refine pick (some 61) ?_); rw [HWA.out]; refine Tx.wpList_append_any prE 49 rfl _ _ _ rfl Try.underlying24 info_pair rfl (wr.heap.size + 1) _ 0 [] rfl HSN.out a cn cc W rfl ((HSW.out.below HA.out.bel).below (below_lit _ _)) HNIL.out cn (by omega) W (by simp) (by unfold maxLen; omega) (by omega) (by have := HSZ.out; simp; omega) ?_; intro v2 w5 ho2 hg2 hat2; obtain ⟨og,oc,rfl⟩ := own_some ho2 hat2; have HO2 := hQ_ ho2; have HB5 : Hid (Below Wa.heap.size Wa w5) := hQ_ ((below_lit (w := Wa) #[] 49).grown hg2 (by simp) (fun k hk => by have := (HSN.out.lt hk).1; have := HSZ.out; omega)); have HI5 := hQ_ (HA.out.below HH.out.stays HV.out.stays HB5.out); clear ho2 hg2 hat2)
     | (go_at_call 12; refine (HH.out.add _ cn _ W HI5.out.both.his (by omega) HO2.out.sl (by omega)).mono ?_; rintro e w6 ⟨T',rfl,hr6,hc6,hk6,hgw6⟩; have HM6 := hQ_ (HI5.out.add HV.out.stays hr6 hc6 hk6 hgw6); have hnT : ∀ b,wr.heap.size ≤ b → ¬ T b := (fun b hb ht => by have := HTL.out b ht; omega); have HO6 := hQ_ (So.chg HO2.out hc6 (fun b hb => hnT b (by have := (HO2.out.lt hb).1; omega))); have c12 : w6.cell? ⟨wr.heap.size,1,none⟩ = some (.slice a cn cc) := hc6.cell (p := ⟨wr.heap.size,1,none⟩) ((HBK.out.below HB5.out).cell 1) (hnT _ (Nat.le_refl _)); have HOG : Hid (¬ T' og ∧ ¬ D og ∧ wr.heap.size < og) := hQ_ (by have h1 := HO2.out.lt (g := og) rfl; exact ⟨(fun ht => by rcases hgw6 og ht with h2 | h2; exact hnT og (by omega) h2; omega),(fun hd => by have := HV.out.stays.lt HI.out.both.view.rep og hd; omega),by omega⟩); clear hr6 hc6 hk6 hgw6 hnT)
     | ((with_reducible refine pick none ?_); refine wpList_clear_own prE 49 rfl _ _ rfl _ Try.underlying24 _ zero_pair rfl zero_pair1 og cn oc W rfl HO6.out ?_; intro w7 hg7; have hc7 : Chg (fun b => b = og) w6 w7 := Chg.of_grown hg7 (fun b hb => .inl (by cases hb; rfl)); have c12' : w7.cell? ⟨wr.heap.size,1,none⟩ = some (.slice a cn cc) := hc7.cell (p := ⟨wr.heap.size,1,none⟩) c12 (fun e => by have e' : wr.heap.size = og := e; have := HOG.out.2.2; omega); have HM7 := hQ_ ((HM6.out.far HH.out.stays HV.out.stays hc7 (Kept.of_grown HO6.out hg7 (by decide)) (fun b hb e => by have e' : b = og := e; have h1 := (HI.out.row.lt hb).2; have h2 := HOG.out.2.2; omega) (fun b e => by have e' : b = og := e; rw [e']; exact HOG.out.1) (fun b e => by have e' : b = og := e; rw [e']; exact HOG.out.2.1) (fun b e => by have e' : b = og := e; have h1 := HI.out.bel.size; have h2 := HOG.out.2.2; omega)).below HH.out.stays HV.out.stays ((Below.refl _ _).alloc (Nat.le_refl _) (.cells #[.slice a cn cc] 24))); clear hg7 hc7)
     | ((with_reducible refine pick (some 73) ?_); (refine Tx.wpList_append_any hdE 24 rfl _ _ _ rfl Try.underlying34 info_hd rfl w.heap.size _ l.length hs rfl HM7.out.row _ 1 1 [⟨a,cn,cc⟩] rfl (Sl.new_ hdE w7 24 ⟨a,cn,cc⟩ #[.slice a cn cc] rfl) (fun e => by cases e) (l.length + 1) rfl (hs ++ [⟨a,cn,cc⟩]) rfl (by unfold maxLen; omega) (by omega) HM7.out.bel.size ?_; intro v9' w9 ho9 hg9 hat9; have HO9 := hQ_ ho9; have HG9 := hQ_ (And.intro hg9 hat9); clear ho9 hg9 hat9)))
    have HI9 := hQ_ (HM7.out.append (x := ⟨a,cn,cc⟩) HH.out.stays HV.out.stays (Nat.le_refl _) HI.out.rds HSW.out HCN.out HO9.out HG9.out.1 HG9.out.2)
    obtain ⟨la9,lc9,rfl⟩ := So.shape HO9.out
    have E10 := hQ_ (show ((l ++ [W]).length : Int) = (l.length : Int) + 1 by rw [List.length_append]; rfl)
    have HNW := hQ_ (HH.out.now HI9.out.both.his (by rw [List.length_append]; simp; omega))
    go_wp2_with fail
    refine HNW.out.mono ?_
    rintro e w10 ⟨rfl,hb10⟩
    have HI10 := hQ_ (HI9.out.below HH.out.stays HV.out.stays hb10)
    clear hb10
    rw [E10.out]
    have HLN := hQ_ (HH.out.len HI10.out.both.his (by rw [List.length_append]; simp; omega))
    rw [E10.out] at HLN
    go_wp2_with fail
    refine HLN.out.mono ?_
    rintro e w11 ⟨rfl,hb11⟩
    have HI11 := hQ_ (HI10.out.below HH.out.stays HV.out.stays hb11)
    clear hb11
    go_wp2_with fail
    go_roundw
    case rel => exact ⟨k + 1,_,_,g,_,by omega,by go_num,rfl,by rw [List.length_append]; omega,by rw [List.length_append]; simp; omega,HI11⟩
    case measure => simp [intOf]; omega
   ·by_cases h1 : kind = 1
    ·subst h1
     have HFG := hQ_ (HH.out.forget N HA.out.both.his (by omega) (by omega))
     have HTL := hQ_ (HH.out.stays.lt HI.out.both.his)
     obtain ⟨f,hfm,hfb,ways⟩ : ∃ f,forgetM g l.length N = f ∧ f ≤ l.length ∧ ((l.length < N ∧ g < l.length ∧ l.length = f) ∨ (l.length < N ∧ ¬ g < l.length ∧ g = f) ∨ (¬ l.length < N ∧ g < N ∧ N = f) ∨ (¬ l.length < N ∧ ¬ g < N ∧ g = f)) :=
      ⟨_,rfl,(forget_bd hgl).1,by unfold forgetM; omega⟩
     rw [hfm] at HFG
     clear hfm
     rcases ways with ⟨x1,x2,rfl⟩ | ⟨x1,x2,rfl⟩ | ⟨x1,x2,rfl⟩ | ⟨x1,x2,rfl⟩
     all_goals
      go_wp2_with (first
       | ((with_reducible refine pick (some 50) ?_); refine wpList_load_mid rfl 37 _ rfl gb (o + k * 3) rfl _ _ HC.out Try.underlying37 rfl info_oq ?_)
       | (go_at_call 13; refine (HFG.out).mono ?_; rintro e w6 ⟨T',rfl,hr6,hc6,hk6,hgw6⟩; have cN : w6.cell? ⟨wr.heap.size,2,none⟩ = some (.int .u64 N) := hc6.cell (p := ⟨wr.heap.size,2,none⟩) (HBK.out.cell 2) (fun ht => Nat.lt_irrefl _ (HTL.out _ ht)); have HA6 := hQ_ (HA.out.forget HV.out.stays hr6 hc6 hk6 hgw6); clear hr6 hc6 hk6 hgw6)
       | (go_at_call 17; refine (HH.out.now HA6.out.both.his (by omega)).mono ?_; rintro e w7 ⟨rfl,hb7⟩; have HA7 := hQ_ (HA6.out.below HH.out.stays HV.out.stays hb7); clear hb7)
       | (go_at_call 18; refine (HH.out.len HA7.out.both.his (by omega)).mono ?_; rintro e w8 ⟨rfl,hb8⟩; have HA8 := hQ_ (HA7.out.below HH.out.stays HV.out.stays hb8); clear hb8))
      go_roundw
      case rel => exact ⟨k + 1,hs,l,_,_,by omega,by go_num,rfl,by omega,by omega,HA8⟩
      case measure => simp [intOf]; omega
    ·by_cases h2 : kind = 2
     ·
      subst h2
      obtain ⟨wo,hwo⟩ : ∃ wo,wo = wr := ⟨_,rfl⟩
      subst hwo
      obtain ⟨X,hX⟩ : ∃ X,seenM (keysOf s) s.rg l (max N g) = X := ⟨_,rfl⟩
      have hcl0 := fun w' (h : Below (wo.alloc (.cells #[.int .i64 2,.slice a cn cc,.int .u64 N] 37)).heap.size (wo.alloc (.cells #[.int .i64 2,.slice a cn cc,.int .u64 N] 37)) w') => HH.out.clash N (HA.out.below HH.out.stays HV.out.stays h).both.his (by omega) (by omega) (HA.out.below HH.out.stays HV.out.stays h).both.view.rep (HA.out.both.view.lim (Nat.le_refl _) (Nat.le_refl _)) (fun t ht => by
       obtain ⟨p,hp,rfl⟩ := List.mem_map.1 ht
       exact HA.out.both.view.sz p hp)
      rw [hX] at hcl0
      obtain ⟨st,hst,K2,hK2,ways⟩ : ∃ st,max N g = st ∧ ∃ K2,(decide (g ≤ N) || decide (l.length ≤ N)) = K2 ∧ ((decide (N < g) = true ∧ decide (g ≤ N) = false ∧ decide (l.length ≤ N) = false ∧ K2 = false ∧ N < g ∧ g = st) ∨ (decide (N < g) = false ∧ decide (g ≤ N) = true ∧ K2 = true ∧ ¬ N < g ∧ N = st)) := by
       refine ⟨_,rfl,_,rfl,?_⟩
       by_cases h : N < g
       ·exact .inl ⟨decide_eq_true h,decide_eq_false (by omega),decide_eq_false (by omega),by rw [decide_eq_false (show ¬ g ≤ N by omega),decide_eq_false (show ¬ l.length ≤ N by omega)]; rfl,h,by omega⟩
       ·exact .inr ⟨decide_eq_false h,decide_eq_true (by omega),by rw [decide_eq_true (show g ≤ N by omega)]; rfl,h,by omega⟩
      rw [hK2] at hcl0
      rw [hst] at hX
      have HX := hQ_ hX
      have HCL := hQ_ hcl0
      have HRL := hQ_ HI.out.both.view.rd
      have HGL := hQ_ HI.out.both.view.rg
      clear hX hcl0 hst hK2
      rcases ways with ⟨y1,y2,y3,rfl,x1,rfl⟩ | ⟨y1,y2,rfl,x1,rfl⟩
      ·go_wp2_with (first
        | ((with_reducible refine pick (some 50) ?_); refine wpList_load_mid rfl 37 _ rfl gb (o + k * 3) rfl _ _ HC.out Try.underlying37 rfl info_oq ?_)
        | (go_at_call 14; refine (HCL.out _ (Below.refl _ _)).mono ?_; rintro e w6 ⟨rfl,hb6⟩; have HA6 := hQ_ (HA.out.below HH.out.stays HV.out.stays hb6); have HBK6 := hQ_ (HBK.out.below hb6); have cN : w6.cell? ⟨wo.heap.size,2,none⟩ = some (.int .u64 N) := HBK6.out.cell 2; clear hb6))
       go_loopw [17,18] (fun s17 s18 wq => ∃ (j : Nat) (b : Bool),s17 = .bool b ∧ s18 = .int .u64 j ∧ g ≤ j ∧ j ≤ max g l.length ∧ Hid (partM (keysOf s) s.rg l g j = b) ∧ Hid (InvP Rep VRep w w wq (.pointer (some ⟨hb,0,none⟩)) (.slice la l.length lc) hs l g T v s S D) ∧ Hid (Below w6.heap.size w6 wq)) (fun _ s18 _ => l.length - (intOf s18).toNat)
       case atStart => exact ⟨g,false,rfl,rfl,Nat.le_refl _,by omega,hQ_ (part_zero _ _ _ _),HA6,hQ_ (Below.refl _ _)⟩
       case round =>
        clear HA6 HI HA
        obtain ⟨j,b,rfl,rfl,hj1,hj2,HPB,HI,HB6⟩ := hrel
        by_cases hlj : j < l.length
        ·obtain ⟨wq,hwq⟩ : ∃ wq,wq = wr := ⟨_,rfl⟩
         subst hwq
         have dlj : decide (j < l.length) = true := decide_eq_true hlj
         obtain ⟨W,hW⟩ : ∃ W,l[j]? = some W := ⟨_,List.getElem?_eq_getElem hlj⟩
         have HPN := hQ_ (part_next (R := keysOf s) (G := s.rg) hj1 hW)
         cases b with
         | true =>
           have HP2 : Hid (partM (keysOf s) s.rg l g (j + 1) = true) := hQ_ (by rw [HPN.out,HPB.out]; rfl)
           clear hW HPN
           go_wp2_with fail
           refine wp_region_held_drew (S := fun q0 => Below wq.heap.size wq q0) (by kernel_rfl) ((Below.refl _ _).drew) (fun hHeld => ?_)
           refine hw_ 0 (some 105) ?_
           refine hw_ 1 (some 106) ?_
           refine ho_skip 2 (some 107) rfl rfl (by kernel_rfl) (by kernel_rfl) (by kernel_rfl) (fun _ _ _ h => h) (by kernel_rfl) (by assumption) ?_; simp only [pZ_]
           refine ho_skip 4 (some 109) rfl rfl (by kernel_rfl) (by kernel_rfl) (by kernel_rfl) (fun _ _ _ h => h) (by kernel_rfl) (by assumption) ?_; simp only [pZ_]
           refine ho_skip 6 (some 111) rfl rfl (by kernel_rfl) (by kernel_rfl) (by kernel_rfl) (fun _ _ _ h => h) (by kernel_rfl) (by assumption) ?_; simp only [pZ_]
           refine ho_skip 7 (some 112) rfl rfl (by kernel_rfl) (by kernel_rfl) (by kernel_rfl) (fun _ _ _ h => h) (by kernel_rfl) (by assumption) ?_; simp only [pZ_]
           refine ho_skip 8 (some 113) rfl rfl (by kernel_rfl) (by kernel_rfl) (by kernel_rfl) (fun _ _ _ h => h) (by kernel_rfl) (by assumption) ?_; simp only [pZ_]
           refine ho_skip 9 (some 114) rfl rfl (by kernel_rfl) (by kernel_rfl) (by kernel_rfl) (fun _ _ _ h => h) (by kernel_rfl) (by assumption) ?_; simp only [pZ_]
           refine ho_skip 3 (some 108) rfl rfl (by kernel_rfl) (by kernel_rfl) (by kernel_rfl) (fun _ _ _ h => h) (by kernel_rfl) (by assumption) ?_; simp only [pZ_]
           refine ho_skip 5 (some 110) rfl rfl (by kernel_rfl) (by kernel_rfl) (by kernel_rfl) (fun _ _ _ h => h) (by kernel_rfl) (by assumption) ?_; simp only [pZ_]
           refine ho_skip 10 (some 115) rfl rfl (by kernel_rfl) (by kernel_rfl) (by kernel_rfl) (fun _ _ _ h => h) (by kernel_rfl) (by assumption) ?_; simp only [pZ_]
           refine hw_ 11 (some 116) ?_
           refine hw_ 12 (some 17) ?_
           refine wpAnyH_done (by kernel_rfl) ?_ _
           have HI9 := hQ_ (HI.out.below HH.out.stays HV.out.stays hHeld)
           have HB9 := hQ_ (keeps HB6.out hHeld)
           clear hHeld
           go_wp2_with fail
           go_roundw
           case rel => exact ⟨j + 1,true,rfl,by go_num,by omega,by omega,HP2,HI9,HB9⟩
           case measure => simp [intOf]; omega
         | false =>
           obtain ⟨⟨xa,xn,xc⟩,gl,o2,hx,hla,_,hclx⟩ := (HI.out.row.sl).get j hlj
           obtain rfl : o2 = 0 := by
            rcases HI.out.row.form with ⟨h0,_⟩ | ⟨gg,cap,h0,_⟩
            ·injection h0 with h0
             rw [hla] at h0
             cases h0
            ·injection h0 with h0
             rw [hla] at h0
             injection h0 with h0
             injection h0
           subst hla
           have HXW := hQ_ (HI.out.rds.row j _ W hx hW).1
           have hxn : xn ≤ 300 := (HI.out.rds.row j _ W hx hW).2
           dsimp only at HXW
           have hcell : wq.cell? ⟨gl,j,none⟩ = some (.slice xa xn xc) := by
            have := hclx 0 _ rfl
            rw [show (0 + j * hdE.size + 0) = j by show 0 + j * 1 + 0 = j; omega] at this
            exact this
           have hglt : gl < wq.heap.size := (HI.out.row.lt (g := gl) rfl).2
           have RD : Hid (∀ q0,Below wq.heap.size wq q0 → Below wq.heap.size wq q0 ∧ q0.cell? ⟨gl,j,none⟩ = some (.slice xa xn xc)) := hQ_ (fun q0 hb => ⟨hb,(hb.cell (p := ⟨gl,j,none⟩) hglt).trans hcell⟩)
           have HRE := hQ_ (fun (u : World) (hb : Below wq.heap.size wq u) => HV.out.reads (HV.out.stays.below HI.out.both.view.rep hb) (HI.out.both.view.lim (Nat.le_refl _) (Nat.le_refl _)))
           have HRA := hQ_ (fun (u : World) (hb : Below wq.heap.size wq u) => HV.out.ranges (HV.out.stays.below HI.out.both.view.rep hb) (HI.out.both.view.lim (Nat.le_refl _) (Nat.le_refl _)))
           have HP2 : Hid (partM (keysOf s) s.rg l g (j + 1) = clashM (keysOf s) s.rg W) := hQ_ (by rw [HPN.out,HPB.out]; rfl)
           clear hW HPN hx hclx hcell
           go_wp2_with fail
           refine wp_region_held_drew (S := fun q0 => Below wq.heap.size wq q0 ∧ q0.cell? ⟨gl,j,none⟩ = some (.slice xa xn xc)) (by kernel_rfl) (RD.out _ (Below.refl _ _).drew) (fun hHeld => ?_)
           refine hw_ 0 (some 105) ?_
           refine hw_ 1 (some 106) ?_
           refine hw_ 2 (some 107) ?_
           refine hw_ 4 (some 109) ?_
           refine hw_ 6 (some 111) ?_
           refine hw_ 7 (some 112) ?_
           refine hw_ 8 (some 113) ?_
           refine hw_ 9 (some 114) ?_
           refine ho_step 3 (some 108) rfl rfl (by kernel_rfl) (by kernel_rfl) (fun K hK => ?_)
           go_simp
           go_at_call 15
           refine (HRE.out _ hHeld.1).mono ?_
           rintro e w8 ⟨r8,rfl,hsl8,hb8⟩
           obtain ⟨ra,rn,rc⟩ := r8
           dsimp only at hsl8
           have hrn : rn ≤ 100 := by have := hsl8.1; have := HRL.out; omega
           have HS8 := hQ_ (reads_tx hsl8)
           clear hsl8
           try go_wp2_with fail
           refine hK.out _ _ (RD.out _ (Own.keeps hHeld.1 hb8)) (fun hHeld2 => ?_)
           clear hHeld
           have hHeld := hHeld2
           clear hHeld2
           clear hK K
           try simp only [pZ_]
           refine ho_step 5 (some 110) rfl rfl (by kernel_rfl) (by kernel_rfl) (fun K hK => ?_)
           go_simp
           go_at_call 16
           refine (HRA.out _ hHeld.1).mono ?_
           rintro e w9 ⟨r9,rfl,hsl9,hb9⟩
           obtain ⟨qa,qn,qc⟩ := r9
           dsimp only at hsl9
           have hqn : qn ≤ 100 := by have := hsl9.1; have := HGL.out; omega
           have HCR := hQ_ (ClashR.refclash_calls ra qa xa rn rc qn qc xn xc _ _ W w9 (HS8.out.below hb9) hsl9 (HXW.out.below (Own.keeps HI.out.bel (Own.keeps hHeld.1 hb9))) (by omega) (by omega) (by omega))
           clear hsl9
           try go_wp2_with fail
           refine hK.out _ _ (RD.out _ (Own.keeps hHeld.1 hb9)) (fun hHeld2 => ?_)
           clear hHeld
           have hHeld := hHeld2
           clear hHeld2
           clear hK K
           try simp only [pZ_]
           refine ho_step 10 (some 115) rfl rfl (by kernel_rfl) (by kernel_rfl) (fun K hK => ?_)
           go_simp
           go_at_call 8
           refine HCR.out.mono ?_
           rintro e w10 ⟨rfl,rfl⟩
           try go_wp2_with fail
           refine hK.out _ _ (hHeld) (fun hHeld2 => ?_)
           clear hHeld
           have hHeld := hHeld2
           clear hHeld2
           clear hK K
           try simp only [pZ_]
           refine hw_ 11 (some 116) ?_
           refine hw_ 12 (some 17) ?_
           refine wpAnyH_done (by kernel_rfl) ?_ _
           have HI9 := hQ_ (HI.out.below HH.out.stays HV.out.stays hHeld.1)
           have HB9 := hQ_ (keeps HB6.out hHeld.1)
           clear hHeld
           go_wp2_with fail
           go_roundw
           case rel => exact ⟨j + 1,_,rfl,by go_num,by omega,by omega,HP2,HI9,HB9⟩
           case measure => simp [intOf]; omega
        ·have dlj : decide (j < l.length) = false := decide_eq_false hlj
         obtain rfl : X = b := by
          rw [← HX.out,← HPB.out]
          exact (part_all (by omega)).symm
         have cM : wr.cell? ⟨wo.heap.size,2,none⟩ = some (.int .u64 N) := ((HBK6.out.below HB6.out).cell 2)
         have HNW := hQ_ (fun (u : World) (h : Below wr.heap.size wr u) => HH.out.now (HI.out.below HH.out.stays HV.out.stays h).both.his (by omega))
         clear HX HPB HCL
         cases X with
         | true =>
           go_wp2_with fail
           refine (HNW.out _ (Below.refl _ _)).mono ?_
           rintro e w11 ⟨rfl,hb11⟩
           have HI11 := hQ_ (HI.out.below HH.out.stays HV.out.stays hb11)
           clear hb11
           go_wp2_with fail
           refine (HH.out.len HI11.out.both.his (by omega)).mono ?_
           rintro e w12 ⟨rfl,hb12⟩
           have HI12 := hQ_ (HI11.out.below HH.out.stays HV.out.stays hb12)
           clear hb12
           go_wp2_with fail
           go_roundw
           case rel => exact ⟨k + 1,hs,l,g,T,by omega,by go_num,rfl,hgl,by omega,HI12⟩
           case measure => simp [intOf]; omega
         | false =>
           go_wp2_with fail
           refine (HNW.out _ (Below.refl _ _)).mono ?_
           rintro e w11 ⟨rfl,hb11⟩
           have HI11 := hQ_ (HI.out.below HH.out.stays HV.out.stays hb11)
           clear hb11
           go_wp2_with fail
           refine (HH.out.len HI11.out.both.his (by omega)).mono ?_
           rintro e w12 ⟨rfl,hb12⟩
           have HI12 := hQ_ (HI11.out.below HH.out.stays HV.out.stays hb12)
           clear hb12
           go_wp2_with fail
           go_roundw
           case rel => exact ⟨k + 1,hs,l,g,T,by omega,by go_num,rfl,hgl,by omega,HI12⟩
           case measure => simp [intOf]; omega
      ·go_wp2_with (first
        | ((with_reducible refine pick (some 50) ?_); refine wpList_load_mid rfl 37 _ rfl gb (o + k * 3) rfl _ _ HC.out Try.underlying37 rfl info_oq ?_)
        | (go_at_call 14; refine (HCL.out _ (Below.refl _ _)).mono ?_; rintro e w6 ⟨rfl,hb6⟩; have HA6 := hQ_ (HA.out.below HH.out.stays HV.out.stays hb6); have HBK6 := hQ_ (HBK.out.below hb6); have cN : w6.cell? ⟨wo.heap.size,2,none⟩ = some (.int .u64 N) := HBK6.out.cell 2; clear hb6))
       go_loopw [17,18] (fun s17 s18 wq => ∃ (j : Nat) (b : Bool),s17 = .bool b ∧ s18 = .int .u64 j ∧ N ≤ j ∧ j ≤ max N l.length ∧ Hid (partM (keysOf s) s.rg l N j = b) ∧ Hid (InvP Rep VRep w w wq (.pointer (some ⟨hb,0,none⟩)) (.slice la l.length lc) hs l g T v s S D) ∧ Hid (Below w6.heap.size w6 wq)) (fun _ s18 _ => l.length - (intOf s18).toNat)
       case atStart => exact ⟨N,false,rfl,rfl,Nat.le_refl _,by omega,hQ_ (part_zero _ _ _ _),HA6,hQ_ (Below.refl _ _)⟩
       case round =>
        clear HA6 HI HA
        obtain ⟨j,b,rfl,rfl,hj1,hj2,HPB,HI,HB6⟩ := hrel
        by_cases hlj : j < l.length
        ·obtain ⟨wq,hwq⟩ : ∃ wq,wq = wr := ⟨_,rfl⟩
         subst hwq
         have dlj : decide (j < l.length) = true := decide_eq_true hlj
         obtain ⟨W,hW⟩ : ∃ W,l[j]? = some W := ⟨_,List.getElem?_eq_getElem hlj⟩
         have HPN := hQ_ (part_next (R := keysOf s) (G := s.rg) hj1 hW)
         cases b with
         | true =>
           have HP2 : Hid (partM (keysOf s) s.rg l N (j + 1) = true) := hQ_ (by rw [HPN.out,HPB.out]; rfl)
           clear hW HPN
           go_wp2_with fail
           refine wp_region_held_drew (S := fun q0 => Below wq.heap.size wq q0) (by kernel_rfl) ((Below.refl _ _).drew) (fun hHeld => ?_)
           refine hw_ 0 (some 105) ?_
           refine hw_ 1 (some 106) ?_
           refine ho_skip 2 (some 107) rfl rfl (by kernel_rfl) (by kernel_rfl) (by kernel_rfl) (fun _ _ _ h => h) (by kernel_rfl) (by assumption) ?_; simp only [pZ_]
           refine ho_skip 4 (some 109) rfl rfl (by kernel_rfl) (by kernel_rfl) (by kernel_rfl) (fun _ _ _ h => h) (by kernel_rfl) (by assumption) ?_; simp only [pZ_]
           refine ho_skip 6 (some 111) rfl rfl (by kernel_rfl) (by kernel_rfl) (by kernel_rfl) (fun _ _ _ h => h) (by kernel_rfl) (by assumption) ?_; simp only [pZ_]
           refine ho_skip 7 (some 112) rfl rfl (by kernel_rfl) (by kernel_rfl) (by kernel_rfl) (fun _ _ _ h => h) (by kernel_rfl) (by assumption) ?_; simp only [pZ_]
           refine ho_skip 8 (some 113) rfl rfl (by kernel_rfl) (by kernel_rfl) (by kernel_rfl) (fun _ _ _ h => h) (by kernel_rfl) (by assumption) ?_; simp only [pZ_]
           refine ho_skip 9 (some 114) rfl rfl (by kernel_rfl) (by kernel_rfl) (by kernel_rfl) (fun _ _ _ h => h) (by kernel_rfl) (by assumption) ?_; simp only [pZ_]
           refine ho_skip 3 (some 108) rfl rfl (by kernel_rfl) (by kernel_rfl) (by kernel_rfl) (fun _ _ _ h => h) (by kernel_rfl) (by assumption) ?_; simp only [pZ_]
           refine ho_skip 5 (some 110) rfl rfl (by kernel_rfl) (by kernel_rfl) (by kernel_rfl) (fun _ _ _ h => h) (by kernel_rfl) (by assumption) ?_; simp only [pZ_]
           refine ho_skip 10 (some 115) rfl rfl (by kernel_rfl) (by kernel_rfl) (by kernel_rfl) (fun _ _ _ h => h) (by kernel_rfl) (by assumption) ?_; simp only [pZ_]
           refine hw_ 11 (some 116) ?_
           refine hw_ 12 (some 17) ?_
           refine wpAnyH_done (by kernel_rfl) ?_ _
           have HI9 := hQ_ (HI.out.below HH.out.stays HV.out.stays hHeld)
           have HB9 := hQ_ (keeps HB6.out hHeld)
           clear hHeld
           go_wp2_with fail
           go_roundw
           case rel => exact ⟨j + 1,true,rfl,by go_num,by omega,by omega,HP2,HI9,HB9⟩
           case measure => simp [intOf]; omega
         | false =>
           obtain ⟨⟨xa,xn,xc⟩,gl,o2,hx,hla,_,hclx⟩ := (HI.out.row.sl).get j hlj
           obtain rfl : o2 = 0 := by
            rcases HI.out.row.form with ⟨h0,_⟩ | ⟨gg,cap,h0,_⟩
            ·injection h0 with h0
             rw [hla] at h0
             cases h0
            ·injection h0 with h0
             rw [hla] at h0
             injection h0 with h0
             injection h0
           subst hla
           have HXW := hQ_ (HI.out.rds.row j _ W hx hW).1
           have hxn : xn ≤ 300 := (HI.out.rds.row j _ W hx hW).2
           dsimp only at HXW
           have hcell : wq.cell? ⟨gl,j,none⟩ = some (.slice xa xn xc) := by
            have := hclx 0 _ rfl
            rw [show (0 + j * hdE.size + 0) = j by show 0 + j * 1 + 0 = j; omega] at this
            exact this
           have hglt : gl < wq.heap.size := (HI.out.row.lt (g := gl) rfl).2
           have RD : Hid (∀ q0,Below wq.heap.size wq q0 → Below wq.heap.size wq q0 ∧ q0.cell? ⟨gl,j,none⟩ = some (.slice xa xn xc)) := hQ_ (fun q0 hb => ⟨hb,(hb.cell (p := ⟨gl,j,none⟩) hglt).trans hcell⟩)
           have HRE := hQ_ (fun (u : World) (hb : Below wq.heap.size wq u) => HV.out.reads (HV.out.stays.below HI.out.both.view.rep hb) (HI.out.both.view.lim (Nat.le_refl _) (Nat.le_refl _)))
           have HRA := hQ_ (fun (u : World) (hb : Below wq.heap.size wq u) => HV.out.ranges (HV.out.stays.below HI.out.both.view.rep hb) (HI.out.both.view.lim (Nat.le_refl _) (Nat.le_refl _)))
           have HP2 : Hid (partM (keysOf s) s.rg l N (j + 1) = clashM (keysOf s) s.rg W) := hQ_ (by rw [HPN.out,HPB.out]; rfl)
           clear hW HPN hx hclx hcell
           go_wp2_with fail
           refine wp_region_held_drew (S := fun q0 => Below wq.heap.size wq q0 ∧ q0.cell? ⟨gl,j,none⟩ = some (.slice xa xn xc)) (by kernel_rfl) (RD.out _ (Below.refl _ _).drew) (fun hHeld => ?_)
           refine hw_ 0 (some 105) ?_
           refine hw_ 1 (some 106) ?_
           refine hw_ 2 (some 107) ?_
           refine hw_ 4 (some 109) ?_
           refine hw_ 6 (some 111) ?_
           refine hw_ 7 (some 112) ?_
           refine hw_ 8 (some 113) ?_
           refine hw_ 9 (some 114) ?_
           refine ho_step 3 (some 108) rfl rfl (by kernel_rfl) (by kernel_rfl) (fun K hK => ?_)
           go_simp
           go_at_call 15
           refine (HRE.out _ hHeld.1).mono ?_
           rintro e w8 ⟨r8,rfl,hsl8,hb8⟩
           obtain ⟨ra,rn,rc⟩ := r8
           dsimp only at hsl8
           have hrn : rn ≤ 100 := by have := hsl8.1; have := HRL.out; omega
           have HS8 := hQ_ (reads_tx hsl8)
           clear hsl8
           try go_wp2_with fail
           refine hK.out _ _ (RD.out _ (Own.keeps hHeld.1 hb8)) (fun hHeld2 => ?_)
           clear hHeld
           have hHeld := hHeld2
           clear hHeld2
           clear hK K
           try simp only [pZ_]
           refine ho_step 5 (some 110) rfl rfl (by kernel_rfl) (by kernel_rfl) (fun K hK => ?_)
           go_simp
           go_at_call 16
           refine (HRA.out _ hHeld.1).mono ?_
           rintro e w9 ⟨r9,rfl,hsl9,hb9⟩
           obtain ⟨qa,qn,qc⟩ := r9
           dsimp only at hsl9
           have hqn : qn ≤ 100 := by have := hsl9.1; have := HGL.out; omega
           have HCR := hQ_ (ClashR.refclash_calls ra qa xa rn rc qn qc xn xc _ _ W w9 (HS8.out.below hb9) hsl9 (HXW.out.below (Own.keeps HI.out.bel (Own.keeps hHeld.1 hb9))) (by omega) (by omega) (by omega))
           clear hsl9
           try go_wp2_with fail
           refine hK.out _ _ (RD.out _ (Own.keeps hHeld.1 hb9)) (fun hHeld2 => ?_)
           clear hHeld
           have hHeld := hHeld2
           clear hHeld2
           clear hK K
           try simp only [pZ_]
           refine ho_step 10 (some 115) rfl rfl (by kernel_rfl) (by kernel_rfl) (fun K hK => ?_)
           go_simp
           go_at_call 8
           refine HCR.out.mono ?_
           rintro e w10 ⟨rfl,rfl⟩
           try go_wp2_with fail
           refine hK.out _ _ (hHeld) (fun hHeld2 => ?_)
           clear hHeld
           have hHeld := hHeld2
           clear hHeld2
           clear hK K
           try simp only [pZ_]
           refine hw_ 11 (some 116) ?_
           refine hw_ 12 (some 17) ?_
           refine wpAnyH_done (by kernel_rfl) ?_ _
           have HI9 := hQ_ (HI.out.below HH.out.stays HV.out.stays hHeld.1)
           have HB9 := hQ_ (keeps HB6.out hHeld.1)
           clear hHeld
           go_wp2_with fail
           go_roundw
           case rel => exact ⟨j + 1,_,rfl,by go_num,by omega,by omega,HP2,HI9,HB9⟩
           case measure => simp [intOf]; omega
        ·have dlj : decide (j < l.length) = false := decide_eq_false hlj
         obtain rfl : X = b := by
          rw [← HX.out,← HPB.out]
          exact (part_all (by omega)).symm
         have cM : wr.cell? ⟨wo.heap.size,2,none⟩ = some (.int .u64 N) := ((HBK6.out.below HB6.out).cell 2)
         have HNW := hQ_ (fun (u : World) (h : Below wr.heap.size wr u) => HH.out.now (HI.out.below HH.out.stays HV.out.stays h).both.his (by omega))
         clear HX HPB HCL
         cases X with
         | true =>
           go_wp2_with fail
           refine (HNW.out _ (Below.refl _ _)).mono ?_
           rintro e w11 ⟨rfl,hb11⟩
           have HI11 := hQ_ (HI.out.below HH.out.stays HV.out.stays hb11)
           clear hb11
           go_wp2_with fail
           refine (HH.out.len HI11.out.both.his (by omega)).mono ?_
           rintro e w12 ⟨rfl,hb12⟩
           have HI12 := hQ_ (HI11.out.below HH.out.stays HV.out.stays hb12)
           clear hb12
           go_wp2_with fail
           go_roundw
           case rel => exact ⟨k + 1,hs,l,g,T,by omega,by go_num,rfl,hgl,by omega,HI12⟩
           case measure => simp [intOf]; omega
         | false =>
           go_wp2_with fail
           refine (HNW.out _ (Below.refl _ _)).mono ?_
           rintro e w11 ⟨rfl,hb11⟩
           have HI11 := hQ_ (HI.out.below HH.out.stays HV.out.stays hb11)
           clear hb11
           go_wp2_with fail
           refine (HH.out.len HI11.out.both.his (by omega)).mono ?_
           rintro e w12 ⟨rfl,hb12⟩
           have HI12 := hQ_ (HI11.out.below HH.out.stays HV.out.stays hb12)
           clear hb12
           go_wp2_with fail
           go_roundw
           case rel => exact ⟨k + 1,hs,l,g,T,by omega,by go_num,rfl,hgl,by omega,HI12⟩
           case measure => simp [intOf]; omega
      skip
     ·have e0 : (kind == 0) = false := by rw [beq_eq_false_iff_ne]; exact h0
      have e1 : (kind == 1) = false := by rw [beq_eq_false_iff_ne]; exact h1
      have e2 : (kind == 2) = false := by rw [beq_eq_false_iff_ne]; exact h2
      have HNW := hQ_ (fun w' (h : Below (wr.alloc (.cells #[.int .i64 kind,.slice a cn cc,.int .u64 N] 37)).heap.size (wr.alloc (.cells #[.int .i64 kind,.slice a cn cc,.int .u64 N] 37)) w') => HH.out.now (HA.out.below HH.out.stays HV.out.stays h).both.his (by omega))
      clear h0 h1 h2
      go_wp2_with (first
       | ((with_reducible refine pick (some 50) ?_); refine wpList_load_mid rfl 37 _ rfl gb (o + k * 3) rfl _ _ HC.out Try.underlying37 rfl info_oq ?_)
       | (go_at_call 17; refine (HNW.out _ (Below.refl _ _)).mono ?_; rintro e w6 ⟨rfl,hb6⟩; have HA6 := hQ_ (HA.out.below HH.out.stays HV.out.stays hb6); clear hb6)
       | (go_at_call 18; refine (HH.out.len HA6.out.both.his (by omega)).mono ?_; rintro e w7 ⟨rfl,hb7⟩; have HA7 := hQ_ (HA6.out.below HH.out.stays HV.out.stays hb7); clear hb7))
      go_roundw
      case rel => exact ⟨k + 1,hs,l,g,T,by omega,by go_num,rfl,hgl,by omega,HA7⟩
      case measure => simp [intOf]; omega
  ·obtain rfl : m = k := by omega
   have HVW := hQ_ HI.out.both.view
   have HBE := hQ_ HI.out.bel
   have HLM := hQ_ (HI.out.both.view.lim (Nat.le_refl _) (Nat.le_refl _))
   go_wp2_with (first
    | (go_at_call 13; refine (HN.out.forget _).mono ?_; rintro e w6 ⟨rfl,hb6⟩; have HV6 := hQ_ (HV.out.stays.below HVW.out.rep hb6); have HB6 := hQ_ (keeps HBE.out hb6); clear hb6)
    | (go_at_call 14; refine (HN.out.clash HV6.out HLM.out).mono ?_; rintro e w7 ⟨rfl,hb7⟩; have HB7 := hQ_ (keeps HB6.out hb7); clear hb7)
    | (go_at_call 12; refine (HN.out.add _).mono ?_; rintro e w8 ⟨rfl,hb8⟩; have HB8 := hQ_ (keeps HB7.out hb8); clear hb8)
    | (go_at_call 17; refine (HN.out.now _).mono ?_; rintro e w9 ⟨rfl,hb9⟩; have HB9 := hQ_ (keeps HB8.out hb9); clear hb9)
    | (go_at_call 18; refine (HN.out.len _).mono ?_; rintro e w10 ⟨rfl,hb10⟩; have HB10 := hQ_ (keeps HB9.out hb10); clear hb10))
   go_ret
   exact ⟨rfl,HB10.out⟩
end
end Go.Proofs.Ytlblfpacnegmlaa.ClashS