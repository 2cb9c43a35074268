import Derived.Test.YtlblfpacnegmlaaSq
import Derived.Test.YtlblfpacnegmlaaClashKm
import Derived.Test.YtlblfpacnegmlaaClashC
import Derived.Test.YtlblfpacnegmlaaClashY
set_option maxHeartbeats 16000000
set_option linter.unusedVariables false
set_option linter.unusedSimpArgs false
set_option maxRecDepth 100000
namespace Go.Proofs.Ytlblfpacnegmlaa.ClashKd
open Go.RowKit
open Byte KeysM TreeM ViewM ClashM ClashKm Lst TreeR ViewR ClashR ClashL ClashC ClashY
open Tx (txE info_tx tx_cell)
open Own
theorem below_drewN {B : Nat} {a w : World} (h : Below B a w) (q : Nat) : Below B a (w.drewN q) := ⟨h.os,h.tape,h.output,h.size,h.block⟩
def SeekE (f : ByteArray) (K : List ByteArray) (w : World) (e : Ending) (w' : World) : Prop := ∃ b : Bool,e = .returned (.tuple #[.int .i64 (lead f K),.bool b]) ∧ Below w.heap.size w w'
theorem search_calls (A : Option Addr) (n c : Nat) (K : List ByteArray) (f : ByteArray) (w : World) (hl : Sl txE w A n K) (hK : Up K) (hn : n ≤ 100000) :
 Calls Try.prog 37 #[.slice A n c,.string f] w (SeekE f K w) := by
 rcases Nat.eq_zero_or_pos n with rfl | h0
 ·have hk : K = [] := List.eq_nil_of_length_eq_zero hl.1
  subst hk
  refine Calls.mono (R := _) (Any2.slices_BinarySearch_string_empty searchLay A c f w) ?_
  rintro e w' ⟨rfl,rfl⟩
  exact ⟨false,rfl,Below.refl _ _⟩
 ·obtain ⟨x,b,o,_,rfl,_,_⟩ := hl.get 0 h0
  refine Calls.mono (R := _) (Any2.slices_BinarySearch_string searchLay b o n c (fun t => K.getD t f) f w (by omega) (fun j hj => ?_)) ?_
  ·have hj' : j < K.length := by rw [hl.1]; exact hj
   have := tx_cell (hl.at_ j K[j] (List.getElem?_eq_getElem hj')).2
   rw [this,List.getD_eq_getElem?_getD,List.getElem?_eq_getElem hj']
   rfl
  ·rintro e w' ⟨he,q,rfl⟩
   rw [halve hK hl.1] at he
   exact ⟨_,he,below_drewN (Below.refl _ _) q⟩
structure Am (w : World) (q : Nat) (A : Option Addr) (n c : Nat) (K : List ByteArray) : Prop where
 hi : q < w.heap.size
 cell : w.cell? ⟨q,0,none⟩ = some (.slice A n c)
 sl : Sl txE w A n K
 up : Up K
theorem Am.below {w w' : World} {q : Nat} {A : Option Addr} {n c : Nat} {K : List ByteArray} (h : Am w q A n c K) (hb : Below w.heap.size w w') : Am w' q A n c K :=
 ⟨Nat.lt_of_lt_of_le h.hi hb.size,(hb.cell (p := ⟨q,0,none⟩) h.hi).trans h.cell,h.sl.below hb,h.up⟩
theorem amt_calls (q : Nat) (A : Option Addr) (n c : Nat) (K : List ByteArray) (f t : ByteArray) (w : World) (h : Am w q A n c K) (hn : n ≤ 100000) :
 Calls Try.prog 36 #[.string f,.string t,.pointer (some ⟨q,0,none⟩)] w fun e w' => e = .returned (.bool (amongB K f t)) ∧ Below w.heap.size w w' := by
 have H := hQ_ h
 have c0 := h.cell
 have HS := hQ_ (search_calls A n c K f w h.sl h.up hn)
 have hlen : K.length = n := h.sl.1
 have hi := lead_le f K
 obtain ⟨B,hB⟩ : ∃ B,amongB K f t = B := ⟨_,rfl⟩
 have hE := among_is (t := t) (f := f) h.up
 rw [hB,hlen] at hE
 rw [hB]
 unfold SeekE at HS
 obtain ⟨i,hI⟩ : ∃ i,lead f K = i := ⟨_,rfl⟩
 rw [hI] at HS hE hi
 rw [hlen] at hi
 by_cases hlt : i < n
 ·rw [decide_eq_true hlt,Bool.true_and] at hE
  obtain ⟨y,hy⟩ : ∃ y,K[i]? = some y := ⟨_,List.getElem?_eq_getElem (by omega)⟩
  have ey : K.getD i f = y := by rw [List.getD_eq_getElem?_getD,hy]; rfl
  rw [ey] at hE
  have HY := hQ_ hy
  have HE := hQ_ hE
  obtain ⟨_,b,o,_,rfl,_,_⟩ := h.sl.get i hlt
  have d : decide (i < n) = true := decide_eq_true hlt
  have d2 : decide ((i : Int) < (n : Int)) = true := decide_eq_true (by omega)
  clear hE hy ey hB hlen hI h
  go_enter Try.func36,Try.ntmps36
  go_wp2_with fail
  refine HS.out.mono ?_
  rintro e w2 ⟨bb,rfl,hb2⟩
  have HB2 := hQ_ hb2
  have H2 := hQ_ (H.out.below hb2)
  have c2 : w2.cell? ⟨q,0,none⟩ = some (.slice (some ⟨b,o,none⟩) n c) := H2.out.cell
  have cy : w2.cell? ⟨b,o + i,none⟩ = some (.string y) := tx_cell (H2.out.sl.at_ i y HY.out).2
  have hk : Op.bytesLess y.toList t.toList = B := HE.out.symm
  clear hb2
  go_wp2_with fail
  go_ret
  exact ⟨rfl,HB2.out⟩
 ·rw [decide_eq_false hlt,Bool.false_and] at hE
  subst hE
  have d : decide (i < n) = false := decide_eq_false hlt
  have d2 : decide ((i : Int) < (n : Int)) = false := decide_eq_false (by omega)
  clear hB hlen hI h
  go_enter Try.func36,Try.ntmps36
  go_wp2_with fail
  refine HS.out.mono ?_
  rintro e w2 ⟨bb,rfl,hb2⟩
  have HB2 := hQ_ hb2
  have H2 := hQ_ (H.out.below hb2)
  have c2 : w2.cell? ⟨q,0,none⟩ = some (.slice A n c) := H2.out.cell
  clear hb2
  go_wp2_with fail
  go_ret
  exact ⟨rfl,HB2.out⟩
def Tel2 (F : FuncId) (cap : Array Value) (w : World) (P : ByteArray → ByteArray → Bool) : Prop := ∀ (x y : ByteArray) (w' : World),Below w.heap.size w w' → Calls Try.prog F (#[.string x,.string y] ++ cap) w' fun e w2 => e = .returned (.bool (P x y)) ∧ Below w'.heap.size w' w2
theorem amt_tel {w : World} {q : Nat} {A : Option Addr} {n c : Nat} {K : List ByteArray} (h : Am w q A n c K) (hn : n ≤ 100000) : Tel2 36 #[.pointer (some ⟨q,0,none⟩)] w (amongB K) := fun x y w' hb => amt_calls q A n c K x y w' (h.below hb) hn
def AmongE (A : Option Addr) (n c : Nat) (K : List ByteArray) (w : World) (e : Ending) (w' : World) : Prop := ∃ q,e = .returned (.func (.func 36) #[] #[.pointer (some ⟨q,0,none⟩)]) ∧ Am w' q A n c K ∧ Below w.heap.size w w'
theorem among_calls (A : Option Addr) (n c : Nat) (K : List ByteArray) (w : World) (hl : Sl txE w A n K) (hK : Up K) :
 Calls Try.prog 20 #[.slice A n c] w (AmongE A n c K w) := by
 have hb : Below w.heap.size w (w.alloc (.cells #[.slice A n c] 22)) := below_lit _ _
 have HA : Hid (Am (w.alloc (.cells #[.slice A n c] 22)) w.heap.size A n c K) := hQ_ ⟨by simp,(Blk.new_ w #[.slice A n c] 22).cell 0,hl.below hb,hK⟩
 have HB := hQ_ hb
 clear hb hl hK
 go_enter Try.func20,Try.ntmps20
 go_wp2_with fail
 go_ret
 exact ⟨_,rfl,HA.out,HB.out⟩
structure Fv (w : World) (q : Nat) (F : FuncId) (cap : Array Value) (P : ByteArray → ByteArray → Bool) : Prop where
 hi : q < w.heap.size
 cell : w.cell? ⟨q,0,none⟩ = some (.func (.func F) #[] cap)
 tel : Tel2 F cap w P
theorem Fv.below {w w' : World} {q : Nat} {F : FuncId} {cap : Array Value} {P : ByteArray → ByteArray → Bool} (h : Fv w q F cap P) (hb : Below w.heap.size w w') : Fv w' q F cap P :=
 ⟨Nat.lt_of_lt_of_le h.hi hb.size,(hb.cell (p := ⟨q,0,none⟩) h.hi).trans h.cell,fun x y u hu => h.tel x y u (keeps hb hu)⟩
theorem one_calls (q : Nat) (F : FuncId) (cap : Array Value) (P : ByteArray → ByteArray → Bool) (k : ByteArray) (w : World) (h : Fv w q F cap P) (hk : k.size ≤ 140737488351232) (hF : ∀ (args : Array Value) (w : World),(callFunc F args).run Try.prog w = .ok (.enter F args) w) :
 Calls Try.prog 32 #[.string k,.pointer (some ⟨q,0,none⟩)] w fun e w' => e = .returned (.bool (P k (next k))) ∧ Below w.heap.size w w' := by
 have c0 := h.cell
 have HT := hQ_ (h.tel k (next k) w (Below.refl _ _))
 unfold next at HT ⊢
 clear h
 go_enter Try.func32,Try.ntmps32
 go_wp2_with fail
 refine HT.out.mono ?_
 rintro e w2 ⟨rfl,hb2⟩
 have HB2 := hQ_ hb2
 clear hb2
 go_wp2_with fail
 go_ret
 exact ⟨rfl,HB2.out⟩
theorem all_calls (q : Nat) (F : FuncId) (cap : Array Value) (P : ByteArray → ByteArray → Bool) (x y : ByteArray) (w : World) (h : Fv w q F cap P) (hF : ∀ (args : Array Value) (w : World),(callFunc F args).run Try.prog w = .ok (.enter F args) w) :
 Calls Try.prog 33 #[.agg #[.string x,.string y],.pointer (some ⟨q,0,none⟩)] w fun e w' => e = .returned (.bool (P x y)) ∧ Below w.heap.size w w' := by
 have hb1 : Below w.heap.size w (w.alloc (.cells #[.string x,.string y] 47)) := below_lit _ _
 have c0 : (w.alloc (.cells #[.string x,.string y] 47)).cell? ⟨q,0,none⟩ = some (.func (.func F) #[] cap) := (h.below hb1).cell
 have HT := hQ_ (h.tel x y _ hb1)
 have HB1 := hQ_ hb1
 clear h hb1
 go_enter Try.func33,Try.ntmps33
 go_wp2_with fail
 refine HT.out.mono ?_
 rintro e w2 ⟨rfl,hb2⟩
 have HB2 := hQ_ (keeps HB1.out hb2)
 clear hb2
 go_wp2_with fail
 go_ret
 exact ⟨rfl,HB2.out⟩
def touchB (R : List ByteArray) (G : List (ByteArray × ByteArray)) (P : ByteArray → ByteArray → Bool) : Bool := R.any (fun k => P k (next k)) || G.any (fun r => P r.1 r.2)
theorem ent_one : ∀ (args : Array Value) (w : World),(callFunc 32 args).run Try.prog w = .ok (.enter 32 args) w := fun args w => by kernel_rfl
theorem ent_all : ∀ (args : Array Value) (w : World),(callFunc 33 args).run Try.prog w = .ok (.enter 33 args) w := fun args w => by kernel_rfl
theorem ent_am : ∀ (args : Array Value) (w : World),(callFunc 36 args).run Try.prog w = .ok (.enter 36 args) w := fun args w => by kernel_rfl
theorem one_has {q : Nat} {F : FuncId} {cap : Array Value} {P : ByteArray → ByteArray → Bool} {w : World} (A : Option Addr) (n c : Nat) (R : List ByteArray) (h : Fv w q F cap P) (hF : ∀ (args : Array Value) (w : World),(callFunc F args).run Try.prog w = .ok (.enter F args) w) (hl : Sl txE w A n R) (hn : n ≤ 100000) (hsz : ∀ t ∈ R,t.size ≤ 140737488351232) :
 Calls Try.prog 34 #[.slice A n c,.func (.func 32) #[] #[.pointer (some ⟨q,0,none⟩)]] w fun e w' => e = .returned (.bool (R.any (fun k => P k (next k)))) ∧ Below w.heap.size w w' := by
 rw [← any_at R (fun k => P k (next k)) hl.1]
 refine has_tx _ _ A n c R _ w hl hn ent_one (fun j x w' hx hb => ?_)
 rw [hx]
 exact one_calls q F cap P x w' (h.below hb) (hsz x (List.mem_of_getElem? hx)) hF
theorem all_has {q : Nat} {F : FuncId} {cap : Array Value} {P : ByteArray → ByteArray → Bool} {w : World} (A : Option Addr) (n c : Nat) (G : List (ByteArray × ByteArray)) (h : Fv w q F cap P) (hF : ∀ (args : Array Value) (w : World),(callFunc F args).run Try.prog w = .ok (.enter F args) w) (hl : Sl rgE w A n G) (hn : n ≤ 100000) :
 Calls Try.prog 35 #[.slice A n c,.func (.func 33) #[] #[.pointer (some ⟨q,0,none⟩)]] w fun e w' => e = .returned (.bool (G.any (fun r => P r.1 r.2))) ∧ Below w.heap.size w w' := by
 haveI : Inhabited (ByteArray × ByteArray) := ⟨(⟨#[]⟩,⟨#[]⟩)⟩
 rw [← any_at G (fun r => P r.1 r.2) hl.1]
 refine has_rg _ _ A n c G _ w hl hn ent_all (fun j x w' hx hb => ?_)
 rw [hx]
 exact all_calls q F cap P x.1 x.2 w' (h.below hb) hF
theorem touched_calls (A B : Option Addr) (n c m c2 : Nat) (R : List ByteArray) (G : List (ByteArray × ByteArray)) (F : FuncId) (cap : Array Value) (P : ByteArray → ByteArray → Bool) (w : World) (hr : Sl txE w A n R) (hg : Sl rgE w B m G) (hn : n ≤ 100000) (hm : m ≤ 100000) (hsz : ∀ t ∈ R,t.size ≤ 140737488351232) (hT : Tel2 F cap w P) (hF : ∀ (args : Array Value) (w : World),(callFunc F args).run Try.prog w = .ok (.enter F args) w) :
 Calls Try.prog 19 #[.slice A n c,.slice B m c2,.func (.func F) #[] cap] w fun e w' => e = .returned (.bool (touchB R G P)) ∧ Below w.heap.size w w' := by
 obtain ⟨w1,hw1⟩ : ∃ w1,w.alloc (.cells #[.func (.func F) #[] cap] 51) = w1 := ⟨_,rfl⟩
 have hb1 : Below w.heap.size w w1 := by rw [← hw1]; exact below_lit _ _
 have hv : Fv w1 w.heap.size F cap P := ⟨by rw [← hw1]; simp,by rw [← hw1]; exact (Blk.new_ w #[.func (.func F) #[] cap] 51).cell 0,fun x y u hu => hT x y u (keeps hb1 hu)⟩
 have HO := hQ_ (one_has A n c R hv hF (hr.below hb1) hn hsz)
 have HV := hQ_ hv
 have HG := hQ_ (hg.below hb1)
 have HB1 := hQ_ hb1
 have HW := hQ_ hw1
 obtain ⟨X,hX⟩ : ∃ X,R.any (fun k => P k (next k)) = X := ⟨_,rfl⟩
 unfold touchB
 rw [hX] at HO ⊢
 clear hw1 hb1 hv hr hg hsz hT hX
 cases X with
 | true =>
   go_enter Try.func19,Try.ntmps19
   go_wp2_with fail
   rw [HW.out]
   go_wp2_with fail
   refine HO.out.mono ?_
   rintro e w2 ⟨rfl,hb2⟩
   have HB2 := hQ_ (keeps HB1.out hb2)
   clear hb2
   go_wp2_with fail
   go_ret
   exact ⟨rfl,HB2.out⟩
 | false =>
   go_enter Try.func19,Try.ntmps19
   go_wp2_with fail
   rw [HW.out]
   go_wp2_with fail
   refine HO.out.mono ?_
   rintro e w2 ⟨rfl,hb2⟩
   have HB2 := hQ_ (keeps HB1.out hb2)
   have HA2 := hQ_ (all_has B m c2 G (HV.out.below hb2) hF (HG.out.below hb2) hm)
   clear hb2
   go_wp2_with fail
   refine HA2.out.mono ?_
   rintro e w3 ⟨rfl,hb3⟩
   have HB3 := hQ_ (keeps HB2.out hb3)
   clear hb3
   go_wp2_with fail
   go_ret
   exact ⟨by simp,HB3.out⟩
end Go.Proofs.Ytlblfpacnegmlaa.ClashKd