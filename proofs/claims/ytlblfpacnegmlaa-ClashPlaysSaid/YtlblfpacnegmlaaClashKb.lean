import Derived.Test.YtlblfpacnegmlaaSq
import Derived.Test.YtlblfpacnegmlaaClashKm
import Derived.Test.YtlblfpacnegmlaaClashC
import Derived.Test.YtlblfpacnegmlaaClashYs
set_option maxHeartbeats 16000000
set_option linter.unusedVariables false
set_option linter.unusedSimpArgs false
set_option maxRecDepth 100000
namespace Go.Proofs.Ytlblfpacnegmlaa.ClashKb
open Go.RowKit
open Byte KeysM TreeM ViewM ClashM ClashKm Lst TreeR ViewR ClashR ClashL ClashC ClashYs
open Tx (txE info_tx)
open Own
theorem flat_tx (K : List ByteArray) : flat txE K = K.map Value.string := by
 induction K with
 | nil => rfl
 | cons a K ih => rw [flat_cons,ih]; rfl
theorem grown_put (w : World) (g m : Nat) (d : Array (List UInt8)) (os : Array Obj) : w.grownBy (Go.Sort.grow (Go.Sort.putRow encStr (Go.Sort.ahead w m) g 0 d) os) (some g) := by
 refine ⟨rfl,rfl,rfl,by simp [Go.Sort.grow,Go.Sort.putRow,Go.Sort.mapBlock,Go.Sort.ahead],fun k hk hne => ?_⟩
 have h1 : g ≠ k := fun e => hne (by rw [e])
 rw [Go.Sort.heap_grow_old _ _ (by simpa [Go.Sort.putRow,Go.Sort.mapBlock,Go.Sort.ahead] using hk)]
 simp [Go.Sort.putRow,Go.Sort.mapBlock,Go.Sort.ahead,Array.getElem?_modify,h1]
theorem sort_calls (g n cap base : Nat) (K : List ByteArray) (W : World) (hK : K.length = n) (hn : n ≤ 100000) (hown : So txE 9 W base (.slice (some ⟨g,0,none⟩) n cap) n K) :
 Calls Try.prog 38 #[.slice (some ⟨g,0,none⟩) n cap] W fun e w' => e = .returned (.tuple #[]) ∧ Sl txE w' (some ⟨g,0,none⟩) n (sorted K) ∧ W.grownBy w' (some g) := by
 subst hK
 have hg := hown.lt (g := g) rfl
 have hlen : (K.map raw).length = K.length := by simp
 have hH : Go.Sort.Holds encStr W g 0 (K.map raw).toArray := by
  intro j hj
  have hj' : j < K.length := by simpa using hj
  have hc := hown.2.cells (g := g) rfl j (.string K[j]) (by rw [flat_tx]; simp [hj'])
  refine ⟨?_,?_⟩
  ·have e : (⟨g,0,none⟩ : Addr).add j = ⟨g,0 + j,none⟩ := Addr.add_mid g 0 j
   rw [← e,hc]
   simp [hj',raw]
  ·have := hown.2.frozenAt (g := g) j
   simpa using this
 have hcon := Any.slices_Sort_string sortLay g 0 cap (K.map raw) W hH hg.2 (by rw [hlen]; omega)
 rw [hlen] at hcon
 refine Calls.mono (R := _) hcon ?_
 rintro e w' ⟨he,m,os,rfl⟩
 refine ⟨he,⟨len_sorted K,?_⟩,grown_put _ _ _ _ _⟩
 intro j x hx
 have hj : j < K.length := by have := (List.getElem?_eq_some_iff.1 hx).1; rwa [len_sorted] at this
 have hgr := grown_put W g m ((K.map raw).mergeSort fun x y => decide (x ≤ y)).toArray os
 refine ⟨g,0,rfl,Nat.lt_of_lt_of_le hg.2 hgr.size,?_⟩
 intro i u hu
 have hi : i = 0 := by
  have := (List.getElem?_eq_some_iff.1 hu).1
  have h1 : (txE.cells x).length = 1 := rfl
  omega
 subst hi
 have hu' : u = .string x := by
  have : some (Value.string x) = some u := hu
  injection this with this
  exact this.symm
 subst hu'
 have hsz : ((K.map raw).mergeSort fun x y => decide (x ≤ y)).toArray.size = (K.map raw).toArray.size := by simp
 rw [Go.Sort.cell?_grow _ _ _ (by simpa [Go.Sort.putRow,Go.Sort.mapBlock,Go.Sort.ahead] using hg.2)]
 have h1 := Go.Sort.cell?_putRow encStr (Go.Sort.ahead W m) g 0 (K.map raw).toArray ((K.map raw).mergeSort fun x y => decide (x ≤ y)).toArray (Go.Sort.holds_ahead _ _ _ _ _ _ hH) hsz j (by simpa using hj)
 rw [show (0 + j * txE.size + 0) = 0 + j by show 0 + j * 1 + 0 = 0 + j; omega,h1]
 unfold sorted at hx
 rw [List.getElem?_map] at hx
 obtain ⟨l,hl,rfl⟩ := Option.map_eq_some_iff.1 hx
 have e2 : ((K.map raw).mergeSort fun x y => decide (x ≤ y)).toArray[j]! = l := by
  rw [getElem!_def]
  simp [hl]
 rw [e2]
 rfl
def KeysE (W : List Pr) (w : World) (e : Ending) (w' : World) : Prop := ∃ A n c K,e = .returned (.slice A n c) ∧ Sl txE w' A n K ∧ Up K ∧ Same K W ∧ n = W.length ∧ n ≤ c ∧ c ≤ maxLen ∧ (A = none → c = 0) ∧ (∀ b o,A = some ⟨b,o,none⟩ → w.heap.size ≤ b ∧ b < w'.heap.size) ∧ Below w.heap.size w w'
theorem info_pr : (Try.prog.info? 49).map (·.size) = some 3 := by kernel_rfl
theorem keys_next {L : List Pr} {k : Nat} {p : Pr} (h : L[k]? = some p) : (L.take (k + 1)).map Pr.key = (L.take k).map Pr.key ++ [p.key] := by
 obtain ⟨hk,he⟩ := List.getElem?_eq_some_iff.1 h
 rw [List.take_succ_eq_append_getElem hk,he,List.map_append]
 rfl
theorem key_at (w : World) (k : ByteArray) : Sl txE ((w.alloc (.cells #[.string k] 9))) (some ⟨w.heap.size,0,none⟩) 1 [k] := Sl.new_ txE w 9 k #[.string k] rfl
theorem keysof_calls (C : Option Addr) (q c3 : Nat) (W : List Pr) (w : World) (hw : Sl prE w C q W) (hq : q ≤ 100000) :
 Calls Try.prog 21 #[.slice C q c3] w (KeysE W w) := by
 have HW := hQ_ hw
 have HLN := hQ_ hw.1
 clear hw
 go_enter Try.func21,Try.ntmps21
 go_wp2_with fail
 go_loopw [3,8] (fun v i wr => ∃ k : Nat,k ≤ q ∧ i = .int .i64 k ∧ Hid (So txE 9 wr w.heap.size v k ((W.take k).map Pr.key)) ∧ Hid (Below w.heap.size w wr)) (fun _ i _ => q - (intOf i).toNat)
 case atStart => exact ⟨0,Nat.zero_le _,rfl,hQ_ (So.nil_ _ _ _ _),hQ_ (Below.refl _ _)⟩
 case round =>
  obtain ⟨k,hk,rfl,HO,HB⟩ := hrel
  by_cases hlt : k < q
  ·obtain ⟨p,g,o,hp,rfl,hg,hcl⟩ := (HW.out.below HB.out).get k hlt
   have HC : Hid (wr.rangeAt g (o + k * 3) [.string p.key,.string p.value,.bool p.gone]) := hQ_ hcl
   have HTK := hQ_ (keys_next hp)
   clear hcl hp
   obtain ⟨pk,pv,pg⟩ := p
   dsimp only at HC HTK
   have HB3 : Hid (Below w.heap.size w ((wr.alloc (.cells #[.string pk,.string pv,.bool pg] 49)).alloc (.cells #[.string pk] 9))) := hQ_ ((HB.out.alloc HB.out.size _).alloc (HB.out.alloc HB.out.size (.cells #[.string pk,.string pv,.bool pg] 49)).size _)
   have HO3 := hQ_ ((HO.out.below (below_lit #[.string pk,.string pv,.bool pg] 49)).below (below_lit #[.string pk] 9))
   have hka := key_at (wr.alloc (.cells #[.string pk,.string pv,.bool pg] 49)) pk
   rw [show (wr.alloc (.cells #[.string pk,.string pv,.bool pg] 49)).heap.size = wr.heap.size + 1 by simp] at hka
   have HKA := hQ_ hka
   have c0 : (wr.alloc (.cells #[.string pk,.string pv,.bool pg] 49)).cell? ⟨wr.heap.size,0,none⟩ = some (.string pk) := (Blk.new_ wr #[.string pk,.string pv,.bool pg] 49).cell 0
   clear hka
   go_wp2_with (first
    | ((with_reducible refine pick (some 11) ?_); refine wpList_load_mid rfl 49 _ rfl g (o + k * 3) rfl _ _ HC.out Try.underlying49 rfl info_pr ?_)
    | ((with_reducible refine pick (some 16) ?_); refine wpList_append_lst txE 9 rfl _ _ _ rfl Try.underlying22 info_tx rfl w.heap.size _ _ _ rfl HO3.out (wr.heap.size + 1) 0 1 1 [pk] rfl HKA.out _ rfl _ HTK.out.symm (by unfold maxLen; omega) (by omega) HB3.out.size ?_; intro v' w4 ho4 hg4 _ _; have HO4 := hQ_ ho4; have HB4 := hQ_ (HB3.out.grown hg4 HB3.out.size (fun g hg => (HO3.out.lt hg).1)); clear ho4 hg4))
   go_roundw
   case rel => exact ⟨k + 1,by omega,by go_num,HO4,HB4⟩
   case measure => simp [intOf]; omega
  ·obtain rfl : k = q := by omega
   have h0 := HO.out
   rw [List.take_of_length_le (by rw [HLN.out]; exact Nat.le_refl _)] at h0
   have HO1 := hQ_ h0
   clear h0
   rcases HO1.out.form with ⟨rfl,hq0⟩ | ⟨g,cap,rfl,hg0,hg1,hc1,hc2⟩
   ·have HQ := hQ_ hq0
    have HS := hQ_ (Any.slices_Sort_string_none sortLay none 0)
    have hW : W = [] := List.eq_nil_of_length_eq_zero (by rw [HLN.out,hq0])
    have HWN := hQ_ hW
    clear hq0 hW
    go_wp2_with fail
    refine (HS.out _).mono ?_
    rintro e w2 ⟨rfl,hw2⟩
    have HB2 : Hid (Below w.heap.size w w2) := hQ_ (by subst hw2; exact HB.out)
    clear hw2
    go_wp2_with fail
    go_ret
    refine ⟨none,0,0,[],rfl,Sl.nil_ _ _ _,List.Pairwise.nil,?_,by rw [HWN.out]; rfl,Nat.le_refl _,Nat.zero_le _,fun _ => rfl,(fun _ _ h => by cases h),HB2.out⟩
    rw [HWN.out]
    intro k
    simp
   ·have HS := hQ_ (sort_calls g k cap w.heap.size _ wr (by rw [List.length_map,HLN.out]) (by omega) HO1.out)
    have HG := hQ_ (And.intro hg0 hg1)
    have HCC := hQ_ (And.intro hc1 hc2)
    clear hg0 hg1 hc1 hc2
    go_wp2_with fail
    refine HS.out.mono ?_
    rintro e w2 ⟨rfl,hs2,hgr2⟩
    have HS2 := hQ_ hs2
    have HGS := hQ_ hgr2.size
    have HB2 := hQ_ (HB.out.grown hgr2 HB.out.size (fun b hb => by injection hb with hb; rw [← hb]; exact HG.out.1))
    clear hs2 hgr2
    go_wp2_with fail
    go_ret
    refine ⟨some ⟨g,0,none⟩,k,cap,_,rfl,HS2.out,up_sorted _,same_sorted W,HLN.out.symm,HCC.out.1,HCC.out.2,fun h => by (cases h),?_,HB2.out⟩
    intro b o h
    injection h with h
    injection h with h1 _
    rw [← h1]
    exact ⟨HG.out.1,Nat.lt_of_lt_of_le HG.out.2 HGS.out⟩
end Go.Proofs.Ytlblfpacnegmlaa.ClashKb