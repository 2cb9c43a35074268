import Derived.Test.YtlblfpacnegmlaaSq
import Derived.Test.YtlblfpacnegmlaaClashL
import Derived.Test.YtlblfpacnegmlaaNest
set_option maxHeartbeats 16000000
set_option linter.unusedVariables false
set_option linter.unusedSimpArgs false
set_option maxRecDepth 100000
namespace Go.Proofs.Ytlblfpacnegmlaa.ClashC
open Go.RowKit
open Byte KeysM TreeM ViewM ClashM Lst TreeR ViewR Nest ClashL
open Tx (txE)
open Own (keeps)
def Tel {α : Type} (V : α → Value) (F : FuncId) (cap : Array Value) (w : World) (L : List α) (p : Nat → Bool) : Prop := ∀ (j : Nat) (x : α) (w' : World),L[j]? = some x → Below w.heap.size w w' → Calls Try.prog F (#[V x] ++ cap) w' fun e w2 => e = .returned (.bool (p j)) ∧ Below w'.heap.size w' w2
theorem tel_is {α : Type} {V : α → Value} {F : FuncId} {cap : Array Value} {w : World} {L : List α} {p : Nat → Bool} (h : Tel V F cap w L p) {j : Nat} {x : α} {b : Bool} (hb : p j = b) (hx : L[j]? = some x) (w' : World) (hw : Below w.heap.size w w') : Calls Try.prog F (#[V x] ++ cap) w' fun e w2 => e = .returned (.bool b) ∧ Below w'.heap.size w' w2 := by
 subst hb
 exact h j x w' hx hw
def Ix (p : Nat → Bool) (n : Nat) (w : World) (e : Ending) (w' : World) : Prop := ∃ r : Int,e = .returned (.int .i64 r) ∧ decide (0 ≤ r) = (List.range n).any p ∧ Below w.heap.size w w'
theorem no_ix {p : Nat → Bool} {n : Nat} (h : ∀ j,j < n → p j = false) : (List.range n).any p = false := by
 rw [List.any_eq_false]
 intro j hj
 rw [h j (List.mem_range.1 hj)]
 decide
theorem yes_ix {p : Nat → Bool} {n k : Nat} (hk : k < n) (h : p k = true) : (List.range n).any p = true := List.any_eq_true.2 ⟨k,List.mem_range.2 hk,h⟩
theorem any_at {α : Type} [Inhabited α] (L : List α) (q : α → Bool) {n : Nat} (hn : L.length = n) : (List.range n).any (fun j => q (L[j]?.getD default)) = L.any q := by
 subst hn
 rw [Bool.eq_iff_iff,List.any_eq_true,List.any_eq_true]
 constructor
 ·rintro ⟨j,hj,h⟩
  have hj' := List.mem_range.1 hj
  rw [List.getElem?_eq_getElem hj'] at h
  exact ⟨_,List.getElem_mem hj',h⟩
 ·rintro ⟨x,hx,h⟩
  obtain ⟨j,hj,rfl⟩ := List.getElem_of_mem hx
  exact ⟨j,List.mem_range.2 hj,by rw [List.getElem?_eq_getElem hj]; exact h⟩
theorem seek_tx (F : FuncId) (cap : Array Value) (A : Option Addr) (n c : Nat) (L : List ByteArray) (p : Nat → Bool) (w : World) (hl : Sl txE w A n L) (hn : n ≤ 100000) (hF : ∀ (args : Array Value) (w : World),(callFunc F args).run Try.prog w = .ok (.enter F args) w) (hT : Tel (fun x : ByteArray => Value.string x) F cap w L p) :
 Calls Try.prog 46 #[.slice A n c,.func (.func F) #[] cap] w (Ix p n w) := by
 have HL := hQ_ hl
 have HT := hQ_ hT
 clear hl hT
 go_enter Try.func46,Try.ntmps46
 go_wp2
 go_loopw [8] (fun i wr => ∃ k : Nat,k ≤ n ∧ i = .int .i64 k ∧ Hid (∀ j,j < k → p j = false) ∧ Hid (Below w.heap.size w wr)) (fun i _ => n - (intOf i).toNat)
 case atStart => exact ⟨0,Nat.zero_le _,rfl,hQ_ (fun j h => by omega),hQ_ (Below.refl _ _)⟩
 case round =>
  obtain ⟨k,hk,rfl,HK,HBR⟩ := hrel
  by_cases hlt : k < n
  ·obtain ⟨x,g,o,hx,rfl,hg,hcl⟩ := (HL.out.below HBR.out).get k hlt
   have c1 : wr.cell? ⟨g,o + k,none⟩ = some (.string x) := by have := hcl 0 _ rfl; rw [show txE.size = 1 from rfl,Nat.mul_one] at this; exact this
   obtain ⟨b,hb⟩ : ∃ b,p k = b := ⟨_,rfl⟩
   have HT1 := hQ_ (tel_is HT.out hb hx wr HBR.out)
   have HB := hQ_ hb
   clear hcl hx hb
   cases b with
   | true =>
     go_wp2_with (fail)
     refine (HT1.out).mono ?_
     rintro e w5 ⟨rfl,hb5⟩
     have HB5 := hQ_ (keeps HBR.out hb5)
     clear hb5
     go_wp2_with fail
     go_ret
     exact ⟨(k : Int),rfl,by rw [yes_ix hlt HB.out]; exact decide_eq_true (by omega),HB5.out⟩
   | false =>
     go_wp2_with (fail)
     refine (HT1.out).mono ?_
     rintro e w5 ⟨rfl,hb5⟩
     have HB5 := hQ_ (keeps HBR.out hb5)
     have HK5 : Hid (∀ j,j < k + 1 → p j = false) := hQ_ (fun j hj => by
      by_cases h : j = k
      ·rw [h]; exact HB.out
      ·exact HK.out j (by omega))
     clear hb5
     go_wp2_with fail
     go_roundw
     case rel => exact ⟨k + 1,by omega,by go_num,HK5,HB5⟩
     case measure => simp [intOf]; omega
  ·obtain rfl : n = k := by omega
   go_wp2
   go_ret
   exact ⟨-1,rfl,by rw [no_ix HK.out]; decide,HBR.out⟩
theorem has_tx (F : FuncId) (cap : Array Value) (A : Option Addr) (n c : Nat) (L : List ByteArray) (p : Nat → Bool) (w : World) (hl : Sl txE w A n L) (hn : n ≤ 100000) (hF : ∀ (args : Array Value) (w : World),(callFunc F args).run Try.prog w = .ok (.enter F args) w) (hT : Tel (fun x : ByteArray => Value.string x) F cap w L p) :
 Calls Try.prog 34 #[.slice A n c,.func (.func F) #[] cap] w fun e w' => e = .returned (.bool ((List.range n).any p)) ∧ Below w.heap.size w w' := by
 have HS := hQ_ (seek_tx F cap A n c L p w hl hn hF hT)
 clear hl hT
 go_enter Try.func34,Try.ntmps34
 go_wp2_with fail
 refine HS.out.mono ?_
 rintro e w2 ⟨r,rfl,hr,hb⟩
 have HR := hQ_ hr
 have HB := hQ_ hb
 clear hr hb
 go_wp2_with fail
 go_ret
 exact ⟨ret_bool HR.out,HB.out⟩
theorem info_two : (Try.prog.info? 47).map (·.size) = some 2 := by kernel_rfl
theorem seek_rg (F : FuncId) (cap : Array Value) (A : Option Addr) (n c : Nat) (L : List (ByteArray × ByteArray)) (p : Nat → Bool) (w : World) (hl : Sl rgE w A n L) (hn : n ≤ 100000) (hF : ∀ (args : Array Value) (w : World),(callFunc F args).run Try.prog w = .ok (.enter F args) w) (hT : Tel (fun x : ByteArray × ByteArray => Value.agg #[.string x.1,.string x.2]) F cap w L p) :
 Calls Try.prog 47 #[.slice A n c,.func (.func F) #[] cap] w (Ix p n w) := by
 have HL := hQ_ hl
 have HT := hQ_ hT
 clear hl hT
 go_enter Try.func47,Try.ntmps47
 go_wp2
 go_loopw [8] (fun i wr => ∃ k : Nat,k ≤ n ∧ i = .int .i64 k ∧ Hid (∀ j,j < k → p j = false) ∧ Hid (Below w.heap.size w wr)) (fun i _ => n - (intOf i).toNat)
 case atStart => exact ⟨0,Nat.zero_le _,rfl,hQ_ (fun j h => by omega),hQ_ (Below.refl _ _)⟩
 case round =>
  obtain ⟨k,hk,rfl,HK,HBR⟩ := hrel
  by_cases hlt : k < n
  ·obtain ⟨x,g,o,hx,rfl,hg,hcl⟩ := (HL.out.below HBR.out).get k hlt
   have HC : Hid (wr.rangeAt g (o + k * 2) [.string x.1,.string x.2]) := hQ_ hcl
   obtain ⟨b,hb⟩ : ∃ b,p k = b := ⟨_,rfl⟩
   have HT1 := hQ_ (tel_is HT.out hb hx wr HBR.out)
   have HB := hQ_ hb
   clear hcl hx hb
   obtain ⟨x1,x2⟩ := x
   dsimp only at HC HT1
   cases b with
   | true =>
     go_wp2_with (((with_reducible refine pick (some 15) ?_); refine wpList_load_mid rfl 47 _ rfl g (o + k * 2) rfl _ _ HC.out Try.underlying47 rfl info_two ?_))
     refine (HT1.out).mono ?_
     rintro e w5 ⟨rfl,hb5⟩
     have HB5 := hQ_ (keeps HBR.out hb5)
     clear hb5
     go_wp2_with fail
     go_ret
     exact ⟨(k : Int),rfl,by rw [yes_ix hlt HB.out]; exact decide_eq_true (by omega),HB5.out⟩
   | false =>
     go_wp2_with (((with_reducible refine pick (some 15) ?_); refine wpList_load_mid rfl 47 _ rfl g (o + k * 2) rfl _ _ HC.out Try.underlying47 rfl info_two ?_))
     refine (HT1.out).mono ?_
     rintro e w5 ⟨rfl,hb5⟩
     have HB5 := hQ_ (keeps HBR.out hb5)
     have HK5 : Hid (∀ j,j < k + 1 → p j = false) := hQ_ (fun j hj => by
      by_cases h : j = k
      ·rw [h]; exact HB.out
      ·exact HK.out j (by omega))
     clear hb5
     go_wp2_with fail
     go_roundw
     case rel => exact ⟨k + 1,by omega,by go_num,HK5,HB5⟩
     case measure => simp [intOf]; omega
  ·obtain rfl : n = k := by omega
   go_wp2
   go_ret
   exact ⟨-1,rfl,by rw [no_ix HK.out]; decide,HBR.out⟩
theorem has_rg (F : FuncId) (cap : Array Value) (A : Option Addr) (n c : Nat) (L : List (ByteArray × ByteArray)) (p : Nat → Bool) (w : World) (hl : Sl rgE w A n L) (hn : n ≤ 100000) (hF : ∀ (args : Array Value) (w : World),(callFunc F args).run Try.prog w = .ok (.enter F args) w) (hT : Tel (fun x : ByteArray × ByteArray => Value.agg #[.string x.1,.string x.2]) F cap w L p) :
 Calls Try.prog 35 #[.slice A n c,.func (.func F) #[] cap] w fun e w' => e = .returned (.bool ((List.range n).any p)) ∧ Below w.heap.size w w' := by
 have HS := hQ_ (seek_rg F cap A n c L p w hl hn hF hT)
 clear hl hT
 go_enter Try.func35,Try.ntmps35
 go_wp2_with fail
 refine HS.out.mono ?_
 rintro e w2 ⟨r,rfl,hr,hb⟩
 have HR := hQ_ hr
 have HB := hQ_ hb
 clear hr hb
 go_wp2_with fail
 go_ret
 exact ⟨ret_bool HR.out,HB.out⟩
theorem seek_hd (F : FuncId) (cap : Array Value) (A : Option Addr) (n c : Nat) (L : List Hd) (p : Nat → Bool) (w : World) (hl : Sl hdE w A n L) (hn : n ≤ 100000) (hF : ∀ (args : Array Value) (w : World),(callFunc F args).run Try.prog w = .ok (.enter F args) w) (hT : Tel (fun x : Hd => Value.slice x.a x.n x.c) F cap w L p) :
 Calls Try.prog 43 #[.slice A n c,.func (.func F) #[] cap] w (Ix p n w) := by
 have HL := hQ_ hl
 have HT := hQ_ hT
 clear hl hT
 go_enter Try.func43,Try.ntmps43
 go_wp2
 go_loopw [8] (fun i wr => ∃ k : Nat,k ≤ n ∧ i = .int .i64 k ∧ Hid (∀ j,j < k → p j = false) ∧ Hid (Below w.heap.size w wr)) (fun i _ => n - (intOf i).toNat)
 case atStart => exact ⟨0,Nat.zero_le _,rfl,hQ_ (fun j h => by omega),hQ_ (Below.refl _ _)⟩
 case round =>
  obtain ⟨k,hk,rfl,HK,HBR⟩ := hrel
  by_cases hlt : k < n
  ·obtain ⟨x,g,o,hx,rfl,hg,hcl⟩ := (HL.out.below HBR.out).get k hlt
   have c1 : wr.cell? ⟨g,o + k,none⟩ = some (.slice x.a x.n x.c) := by have := hcl 0 _ rfl; rw [show hdE.size = 1 from rfl,Nat.mul_one] at this; exact this
   obtain ⟨b,hb⟩ : ∃ b,p k = b := ⟨_,rfl⟩
   have HT1 := hQ_ (tel_is HT.out hb hx wr HBR.out)
   have HB := hQ_ hb
   clear hcl hx hb
   obtain ⟨xa,xn,xc⟩ := x
   dsimp only at c1 HT1
   cases b with
   | true =>
     go_wp2_with (fail)
     refine (HT1.out).mono ?_
     rintro e w5 ⟨rfl,hb5⟩
     have HB5 := hQ_ (keeps HBR.out hb5)
     clear hb5
     go_wp2_with fail
     go_ret
     exact ⟨(k : Int),rfl,by rw [yes_ix hlt HB.out]; exact decide_eq_true (by omega),HB5.out⟩
   | false =>
     go_wp2_with (fail)
     refine (HT1.out).mono ?_
     rintro e w5 ⟨rfl,hb5⟩
     have HB5 := hQ_ (keeps HBR.out hb5)
     have HK5 : Hid (∀ j,j < k + 1 → p j = false) := hQ_ (fun j hj => by
      by_cases h : j = k
      ·rw [h]; exact HB.out
      ·exact HK.out j (by omega))
     clear hb5
     go_wp2_with fail
     go_roundw
     case rel => exact ⟨k + 1,by omega,by go_num,HK5,HB5⟩
     case measure => simp [intOf]; omega
  ·obtain rfl : n = k := by omega
   go_wp2
   go_ret
   exact ⟨-1,rfl,by rw [no_ix HK.out]; decide,HBR.out⟩
theorem has_hd (F : FuncId) (cap : Array Value) (A : Option Addr) (n c : Nat) (L : List Hd) (p : Nat → Bool) (w : World) (hl : Sl hdE w A n L) (hn : n ≤ 100000) (hF : ∀ (args : Array Value) (w : World),(callFunc F args).run Try.prog w = .ok (.enter F args) w) (hT : Tel (fun x : Hd => Value.slice x.a x.n x.c) F cap w L p) :
 Calls Try.prog 29 #[.slice A n c,.func (.func F) #[] cap] w fun e w' => e = .returned (.bool ((List.range n).any p)) ∧ Below w.heap.size w w' := by
 have HS := hQ_ (seek_hd F cap A n c L p w hl hn hF hT)
 clear hl hT
 go_enter Try.func29,Try.ntmps29
 go_wp2_with fail
 refine HS.out.mono ?_
 rintro e w2 ⟨r,rfl,hr,hb⟩
 have HR := hQ_ hr
 have HB := hQ_ hb
 clear hr hb
 go_wp2_with fail
 go_ret
 exact ⟨ret_bool HR.out,HB.out⟩
end Go.Proofs.Ytlblfpacnegmlaa.ClashC