import Derived.Test.YtlblfpacnegmlaaClashQ
import Derived.Test.YtlblfpacnegmlaaClashYd
import Derived.Test.YtlblfpacnegmlaaClashK
set_option linter.unusedVariables false
set_option linter.unusedSimpArgs false
namespace Go.Proofs.Ytlblfpacnegmlaa.ClashH
open Go.RowKit
open Byte KeysM TreeM ViewM ClashM ClashKm Lst Chg TreeR TreeL ViewR ViewL Nest ClashL ClashQ ClashYd
open Tx (txE)
open Own
theorem flat_hd (L : List Hd) : flat hdE L = L.map (fun h => Value.slice h.a h.n h.c) := by
 induction L with
 | nil => rfl
 | cons a L ih => rw [flat_cons,ih]; rfl
abbrev encH (h : Hd) : Value := .slice h.a h.n h.c
theorem one_hd : Go.Proofs.OneCell encH := fun _ => rfl
theorem grown_put (w : World) (g m : Nat) (d : Array Hd) : w.grownBy (Go.Sort.putRow encH (Go.Sort.ahead w m) g 0 d) (some g) := by
 refine ⟨rfl,rfl,rfl,by simp [Go.Sort.putRow,Go.Sort.mapBlock,Go.Sort.ahead],fun k hk hne => ?_⟩
 have h1 : g ≠ k := fun e => hne (by rw [e])
 simp [Go.Sort.putRow,Go.Sort.mapBlock,Go.Sort.ahead,Array.getElem?_modify,h1]
theorem so_put {w : World} {base g n cap q : Nat} {hs : List Hd} {T : TypeId} (h : So hdE T w base (.slice (some ⟨g,0,none⟩) n cap) n hs) (k : Nat) (hk : k ≤ n) (z : Hd) : So hdE T (Go.Sort.putRow encH (Go.Sort.ahead w q) g 0 (hs.drop k ++ List.replicate k z).toArray) base (.slice (some ⟨g,0,none⟩) (n - k) cap) (n - k) (hs.drop k) := by
 obtain ⟨hl,hfl,hr⟩ := h
 rcases hr with ⟨hn,_⟩ | ⟨g',cap',cur,hv,hb,hg,hc1,hc2,hsz,htk⟩
 ·cases hn
 ·injection hv with e1 e2 e3
  injection e1 with e1
  injection e1 with e1
  subst e1 e3
  have hsz1 : cur.size = cap := by rw [hsz]; exact Nat.mul_one _
  refine ⟨by rw [List.length_drop,hl],by rw [flat_len,List.length_drop,hl],.inr ⟨g,cap,Go.Sort.putCells encH 0 (hs.drop k ++ List.replicate k z).toArray cur,rfl,hb,?_,by omega,hc2,by simp [Go.Sort.putCells,hsz],?_⟩⟩
  ·simp [Go.Sort.putRow,Go.Sort.mapBlock,Go.Sort.ahead,Array.getElem?_modify,hg,Go.Sort.onCells]
  ·rw [flat_hd]
   apply List.ext_getElem?
   intro j
   have e1 : (n - k) * hdE.size = n - k := Nat.mul_one _
   rw [e1]
   by_cases hj : j < n - k
   ·rw [List.getElem?_take_of_lt hj,Array.getElem?_toList]
    have hd : j < (hs.drop k).length := by rw [List.length_drop,hl]; exact hj
    have hjc : j < cur.size := by omega
    have hjl : j < hs.length - k + k := by rw [List.length_drop] at hd; omega
    simp only [Go.Sort.putCells,Array.getElem?_mapIdx,Array.getElem?_eq_getElem hjc,Option.map_some]
    rw [List.getElem?_map,List.getElem?_eq_getElem hd]
    have e2 : (hs.drop k ++ List.replicate k z).toArray[j - 0]! = (hs.drop k)[j] := by
     rw [Nat.sub_zero,getElem!_def]
     simp only [List.getElem?_toArray]
     rw [List.getElem?_append_left hd,List.getElem?_eq_getElem hd]
    rw [if_pos ⟨Nat.zero_le _,by simp; omega⟩,e2]
    rfl
   ·rw [List.getElem?_eq_none (by simp; omega),List.getElem?_eq_none (by rw [List.length_map,List.length_drop,hl]; omega)]
theorem zero_row (w : World) : (zeroValue 22).run Try.prog w = .ok (encH ⟨none,0,0⟩) w := by kernel_rfl
theorem info_row : (Try.prog.info? 22).map (fun i => (i.zero,i.size,i.bytes)) = some (some (.slice none 0 0),1,24) := by kernel_rfl
theorem delete_calls (g n cap k : Nat) (hs : List Hd) (base : Nat) (w : World) (h : So hdE 22 w base (.slice (some ⟨g,0,none⟩) n cap) n hs) (hk : k ≤ n) :
 Calls Try.prog 27 #[.slice (some ⟨g,0,none⟩) n cap,.int .i64 0,.int .i64 k] w fun e w' => e = .returned (.slice (some ⟨g,0,none⟩) (n - k) cap) ∧ So hdE 22 w' base (.slice (some ⟨g,0,none⟩) (n - k) cap) (n - k) (hs.drop k) ∧ w.grownBy w' (some g) := by
 have hg := h.lt (g := g) rfl
 have hl := h.1
 obtain ⟨i0,hi0,_,hi1,_⟩ := info_parts info_row
 rcases h.form with ⟨h0,_⟩ | ⟨g',cap',hv,_,_,hc1,hc2⟩
 ·cases h0
 injection hv with _ _ e3
 subst e3
 unfold maxLen at hc2
 have hH : Go.Sort.Holds encH w g 0 hs.toArray := by
  intro j hj
  have hj' : j < hs.length := by simpa using hj
  have hc := h.2.cells (g := g) rfl j (encH hs[j]) (by rw [flat_hd]; simp [hj',encH])
  refine ⟨?_,?_⟩
  ·have e : (⟨g,0,none⟩ : Addr).add j = ⟨g,0 + j,none⟩ := Addr.add_mid g 0 j
   rw [← e,hc]
   simp [hj']
  ·have := h.2.frozenAt (g := g) j
   simpa using this
 have hcon := AnyE.slices_Delete delLay encH one_hd ⟨none,0,0⟩ (fun w => zero_row w) i0 hi0 hi1 g 0 cap 0 k hs.toArray w hH (by simpa [hl] using hc1) hc2 (Nat.zero_le _) (by simpa [hl] using hk)
 rw [show hs.toArray.size = n by simpa using hl] at hcon
 refine Calls.mono (R := _) hcon ?_
 rintro e w' ⟨he,q,rfl⟩
 rw [Nat.sub_zero] at he ⊢
 have e1 : (hs.toArray.toList.take 0 ++ hs.toArray.toList.drop k ++ List.replicate k (⟨none,0,0⟩ : Hd)).toArray = (hs.drop k ++ List.replicate k (⟨none,0,0⟩ : Hd)).toArray := by simp
 rw [e1]
 exact ⟨he,so_put h k hk _,grown_put _ _ _ _⟩
end Go.Proofs.Ytlblfpacnegmlaa.ClashH