import Derived.Test.YtlblfpacnegmlaaSq
import Derived.Test.YtlblfpacnegmlaaClashL
import Derived.Test.YtlblfpacnegmlaaNest
import Derived.Test.YtlblfpacnegmlaaViewL
import Derived.Deep.MidRow
set_option maxHeartbeats 16000000
set_option linter.unusedVariables false
set_option linter.unusedSimpArgs false
set_option maxRecDepth 100000
namespace Go.Proofs.Ytlblfpacnegmlaa.ClashP
open Go.RowKit
open Byte KeysM TreeM ViewM ClashM Lst Chg TreeR TreeL TreeG ViewR ViewL Nest ClashL
open Tx (txE)
open Own (keeps)
structure Oq where
 kind : Int
 h : Hd
 num : Int
instance : Inhabited Oq := ⟨⟨0,default,0⟩⟩
def oqE : Enc Oq := ⟨fun o => [.int .i64 o.kind,.slice o.h.a o.h.n o.h.c,.int .u64 o.num],3,fun _ => rfl,fun o u hu => by
 simp only [List.mem_cons,List.mem_nil_iff,or_false] at hu
 rcases hu with rfl | rfl | rfl <;> rfl,by decide⟩
def tot : List Oq → Nat
 | [] => 0
 | o :: L => o.h.n + 1 + tot L
theorem tot_append (L M : List Oq) : tot (L ++ M) = tot L + tot M := by
 induction L with
 | nil => simp [tot]
 | cons o L ih => simp only [List.cons_append,tot,ih]; omega
theorem tot_next {L : List Oq} {i : Nat} {o : Oq} (h : L[i]? = some o) : tot (L.take (i + 1)) = tot (L.take i) + (o.h.n + 1) := by
 obtain ⟨hk,he⟩ := List.getElem?_eq_some_iff.1 h
 rw [List.take_succ_eq_append_getElem hk,he,tot_append]
 rfl
theorem tot_take (L : List Oq) (i : Nat) : tot (L.take i) ≤ tot L := by
 conv => rhs; rw [← List.take_append_drop i L,tot_append]
 omega
theorem len_tot (L : List Oq) : L.length ≤ tot L := by
 induction L with
 | nil => exact Nat.le_refl _
 | cons o L ih => simp only [List.length_cons,tot]; omega
theorem info_oq : (Try.prog.info? 37).map (·.size) = some 3 := by kernel_rfl
theorem great_calls (A : Option Addr) (m c : Nat) (L : List Oq) (w : World) (hl : Sl oqE w A m L) (hm : m ≤ maxLen) (hf : ∀ o ∈ L,o.h.n ≤ 140737488351232) :
 Calls Try.prog 9 #[.slice A m c] w fun e w' => e = .returned (.bool (decide (300 < tot L))) ∧ Below w.heap.size w w' := by
 unfold maxLen at hm
 have HL := hQ_ hl
 have HF := hQ_ hf
 have HLen := hQ_ hl.1
 clear hl hf
 go_enter Try.func9,Try.ntmps9
 go_wp2_with fail
 go_loopw [3,8] (fun v i wr => ∃ (k s : Nat),k ≤ m ∧ i = .int .i64 k ∧ v = .int .i64 s ∧ s ≤ 300 ∧ Hid (s = tot (L.take k)) ∧ Hid (Below w.heap.size w wr)) (fun _ i _ => m - (intOf i).toNat)
 case atStart => exact ⟨0,0,Nat.zero_le _,rfl,rfl,by omega,hQ_ rfl,hQ_ (Below.refl _ _)⟩
 case round =>
  obtain ⟨k,s,hk,rfl,rfl,hs,HS,HBR⟩ := hrel
  by_cases hlt : k < m
  ·obtain ⟨x,g,o,hx,rfl,hg,hcl⟩ := (HL.out.below HBR.out).get k hlt
   have HC : Hid (wr.rangeAt g (o + k * 3) [.int .i64 x.kind,.slice x.h.a x.h.n x.h.c,.int .u64 x.num]) := hQ_ hcl
   have hfx := HF.out x (List.mem_of_getElem? hx)
   have HN : Hid (s + (x.h.n + 1) = tot (L.take (k + 1))) := hQ_ (by rw [tot_next hx,HS.out])
   obtain ⟨kind,⟨a,n,c'⟩,num⟩ := x
   dsimp only at HC HN hfx
   have HAL := hQ_ (HBR.out.alloc HBR.out.size (.cells #[.int .i64 kind,.slice a n c',.int .u64 num] 37))
   by_cases hbig : 300 < s + (n + 1)
   ·have d : decide ((300 : Int) < (s : Int) + ((n : Int) + 1)) = true := decide_eq_true (by omega)
    have HD : Hid (decide (300 < tot L) = true) := hQ_ (decide_eq_true (by have := HN.out; have := tot_take L (k + 1); omega))
    clear hcl hx
    go_wp2_with (first
     | ((with_reducible refine pick (some 11) ?_); refine wpList_load_mid rfl 37 _ rfl g (o + k * 3) rfl _ _ HC.out Try.underlying37 rfl info_oq ?_))
    go_ret
    exact ⟨by rw [HD.out]; rfl,HAL.out⟩
   ·have d : decide ((300 : Int) < (s : Int) + ((n : Int) + 1)) = false := decide_eq_false (by omega)
    clear hcl hx
    go_wp2_with (first
     | ((with_reducible refine pick (some 11) ?_); refine wpList_load_mid rfl 37 _ rfl g (o + k * 3) rfl _ _ HC.out Try.underlying37 rfl info_oq ?_))
    go_roundw
    case rel => exact ⟨k + 1,s + (n + 1),by omega,by go_num,by go_num,by omega,HN,HAL⟩
    case measure => simp [intOf]; omega
  ·obtain rfl : m = k := by omega
   have HD : Hid (decide (300 < tot L) = false) := hQ_ (decide_eq_false (by
    have := HS.out
    rw [List.take_of_length_le (by rw [HLen.out]; exact Nat.le_refl _)] at this
    omega))
   go_wp2_with fail
   go_ret
   exact ⟨by rw [HD.out]; rfl,HBR.out⟩
structure Vwc (Rep : World → Value → Vs → (Nat → Prop) → (Nat → Prop) → Prop) : Prop where
 stays : Stays Rep
 new : NewOk Rep
 get : GetOk Rep
 range : RangeOk Rep
 reads : ReadsOk Rep
 ranges : RangesOk Rep
variable {Rep : World → Value → Vs → (Nat → Prop) → (Nat → Prop) → Prop}
structure Lk (Rep : World → Value → Vs → (Nat → Prop) → (Nat → Prop) → Prop) (B : Nat) (w : World) (v : Value) (s : Vs) (S D : Nat → Prop) (k m : Nat) : Prop where
 rep : Rep w v s S D
 base : s.base = []
 rd : s.rd.length ≤ k
 rg : s.rg.length ≤ m
 own : ∀ b,S b → B ≤ b
 dep : ∀ b,D b → B ≤ b
 sz : ∀ p ∈ s.rd,p.key.size ≤ 140737488351232
theorem Lk.lim {B : Nat} {w : World} {v : Value} {s : Vs} {S D : Nat → Prop} {k m : Nat} (h : Lk Rep B w v s S D k m) (hk : k ≤ 100) (hm : m ≤ 100) : Lim s :=
 ⟨by rw [h.base]; decide,by have := h.rd; omega,by have := h.rg; omega⟩
theorem Lk.next {B : Nat} {w w' : World} {v : Value} {s s' : Vs} {S D S' D' : Nat → Prop} {k m k' m' : Nat} (h : Lk Rep B w v s S D k m) (hr : Rep w' v s' S' D') (hst : Stp S D S' D' w w') (hB : B ≤ w.heap.size) (hb : s'.base = s.base) (h1 : s'.rd.length ≤ k') (h2 : s'.rg.length ≤ m') (hz : ∀ p ∈ s'.rd,p.key.size ≤ 140737488351232) : Lk Rep B w' v s' S' D' k' m' :=
 ⟨hr,hb.trans h.base,h1,h2,new_own h.own hB hst.own,new_own h.dep hB hst.dep,hz⟩
theorem read_sz {s : Vs} {x : ByteArray} (h : ∀ p ∈ s.rd,p.key.size ≤ 140737488351232) (hx : x.size ≤ 140737488351232) : ∀ p ∈ (s.read x).rd,p.key.size ≤ 140737488351232 := fun p hp => by
 rcases mem_putP hp with rfl | ⟨h1,_⟩
 ·exact hx
 ·exact h p h1
theorem addR_len (a b : ByteArray) (G : List (ByteArray × ByteArray)) : (addR a b G).length ≤ G.length + 1 := by
 unfold addR
 split
 ·omega
 ·simp
theorem ranged_len (s : Vs) (a b : ByteArray) : (s.ranged a b).rg.length ≤ s.rg.length + 1 := by
 unfold Vs.ranged
 split
 ·exact addR_len _ _ _
 ·omega
theorem ranged_base (s : Vs) (a b : ByteArray) : (s.ranged a b).base = s.base := by
 unfold Vs.ranged
 split <;> rfl
theorem ranged_rd (s : Vs) (a b : ByteArray) : (s.ranged a b).rd = s.rd := by
 unfold Vs.ranged
 split <;> rfl
theorem info_two : (Try.prog.info? 47).map (·.size) = some 2 := by kernel_rfl
theorem looked_calls (hV : Vwc Rep) (A B : Option Addr) (n c m c2 : Nat) (R : List ByteArray) (G : List (ByteArray × ByteArray)) (w : World) (hr : Sl txE w A n R) (hg : Sl rgE w B m G) (hn : n ≤ 100) (hm : m ≤ 100) (hfr : ∀ t ∈ R,t.size ≤ 140737488351232) (hfg : ∀ p ∈ G,p.1.size ≤ 140737488351232 ∧ p.2.size ≤ 140737488351232) :
 Calls Try.prog 11 #[.slice A n c,.slice B m c2] w fun e w' => ∃ v s S D,e = .returned v ∧ Lk Rep w.heap.size w' v s S D 100 100 ∧ Below w.heap.size w w' := by
 have HV := hQ_ hV
 have HR := hQ_ hr
 have HG := hQ_ hg
 have HFR := hQ_ hfr
 have HFG := hQ_ hfg
 clear hV hr hg hfr hfg
 go_enter Try.func11,Try.ntmps11
 go_wp2_with fail
 refine (new_calls _).mono ?_
 rintro e w1 ⟨tv,hh,rfl,htr,hb1⟩
 have HTR := hQ_ htr
 have HB1 := hQ_ hb1
 clear htr hb1
 go_wp2_with fail
 refine (HV.out.new HTR.out (by decide)).mono ?_
 rintro e w2 ⟨v,S,D,rfl,hrep,hS,hD,hb2⟩
 have HB2 := hQ_ (keeps HB1.out hb2)
 have HLK : Hid (Lk Rep w.heap.size w2 v ⟨[],[],[],[]⟩ S D 0 0) := hQ_ ⟨hrep,rfl,by simp,by simp,fun b h => Nat.le_trans HB1.out.size (hS b h),fun b h => Nat.le_trans HB1.out.size (hD b h),fun p hp => by cases hp⟩
 clear hrep hS hD hb2
 go_wp2_with fail
 go_loopw [14] (fun i wr => ∃ (k : Nat) (s : Vs) (S D : Nat → Prop),k ≤ n ∧ i = .int .i64 k ∧ Hid (Lk Rep w.heap.size wr v s S D k 0) ∧ Hid (Below w.heap.size w wr)) (fun i _ => n - (intOf i).toNat)
 case atStart => exact ⟨0,_,_,_,Nat.zero_le _,rfl,HLK,HB2⟩
 case round =>
  obtain ⟨k,s,S,D,hk,rfl,HK,HBR⟩ := hrel
  by_cases hlt : k < n
  ·obtain ⟨x,g,o,hx,rfl,hg,hcl⟩ := (HR.out.below HBR.out).get k hlt
   have c1 : wr.cell? ⟨g,o + k * 1,none⟩ = some (.string x) := hcl 0 _ rfl
   rw [Nat.mul_one] at c1
   have hfx := HFR.out x (List.mem_of_getElem? hx)
   have HGET := hQ_ (HV.out.get x HK.out.rep (HK.out.lim (by omega) (by omega)) (by omega))
   clear hcl hx
   go_wp2_with (first
    | (go_at_call 24; refine (HGET.out).mono ?_; rintro e w3 ⟨S',D',rfl,hr3,hst⟩; have HK3 : Hid (Lk Rep w.heap.size w3 v (s.read x) S' D' (k + 1) 0) := hQ_ (HK.out.next hr3 hst HBR.out.size rfl (Nat.le_trans (putP_len _ _) (by have := HK.out.rd; omega)) HK.out.rg (read_sz HK.out.sz hfx)); have HB3 := hQ_ (below_chg HBR.out hst.chg HK.out.own (Nat.le_refl _)); clear hr3 hst))
   go_roundw
   case rel => exact ⟨k + 1,_,S',D',by omega,by go_num,HK3,HB3⟩
   case measure => simp [intOf]; omega
  ·obtain rfl : n = k := by omega
   clear HLK
   obtain ⟨W1,hW1⟩ : ∃ W1,W1 = wr := ⟨_,rfl⟩
   subst hW1
   go_wp2_with fail
   go_loopw [24] (fun i wr => ∃ (k : Nat) (s : Vs) (S D : Nat → Prop),k ≤ m ∧ i = .int .i64 k ∧ Hid (Lk Rep w.heap.size wr v s S D n k) ∧ Hid (Below w.heap.size w wr)) (fun i _ => m - (intOf i).toNat)
   case atStart => exact ⟨0,_,_,_,Nat.zero_le _,rfl,HK,HBR⟩
   case round =>
    clear HK HBR
    obtain ⟨k,s,S,D,hk,rfl,HK,HBR⟩ := hrel
    by_cases hlt : k < m
    ·obtain ⟨⟨x,y⟩,g,o,hx,rfl,hg,hcl⟩ := (HG.out.below HBR.out).get k hlt
     have HC : Hid (wr.rangeAt g (o + k * 2) [.string x,.string y]) := hQ_ hcl
     have hfx := HFG.out _ (List.mem_of_getElem? hx)
     dsimp only at hfx
     have hbl := bN_ wr (.cells #[.string x,.string y] 47)
     have hrep := HV.out.stays.below HK.out.rep hbl
     have HRNG := hQ_ (HV.out.range x y hrep (HK.out.lim (by omega) (by omega)) (by omega) (by omega))
     have HBA := hQ_ (keeps HBR.out hbl)
     clear hcl hx hbl hrep
     go_wp2_with (first
      | ((with_reducible refine pick (some 27) ?_); refine wpList_load_mid rfl 47 _ rfl g (o + k * 2) rfl _ _ HC.out Try.underlying47 rfl info_two ?_)
      | (go_at_call 25; refine (HRNG.out).mono ?_; rintro e w3 ⟨r,S',D',rfl,_,_,hr3,hst⟩; have HK3 : Hid (Lk Rep w.heap.size w3 v (s.ranged x y) S' D' n (k + 1)) := hQ_ ⟨hr3,(ranged_base _ _ _).trans HK.out.base,(by rw [ranged_rd]; exact HK.out.rd),Nat.le_trans (ranged_len _ _ _) (by have := HK.out.rg; omega),new_own HK.out.own HBA.out.size hst.own,new_own HK.out.dep HBA.out.size hst.dep,(by rw [ranged_rd]; exact HK.out.sz)⟩; have HB3 := hQ_ (below_chg HBA.out hst.chg HK.out.own (by simp)); clear hr3 hst))
     go_roundw
     case rel => exact ⟨k + 1,_,S',D',by omega,by go_num,HK3,HB3⟩
     case measure => simp [intOf]; omega
    ·obtain rfl : m = k := by omega
     go_wp2_with fail
     go_ret
     exact ⟨v,s,S,D,rfl,⟨HK.out.rep,HK.out.base,by have := HK.out.rd; omega,by have := HK.out.rg; omega,HK.out.own,HK.out.dep,HK.out.sz⟩,HBR.out⟩
end Go.Proofs.Ytlblfpacnegmlaa.ClashP