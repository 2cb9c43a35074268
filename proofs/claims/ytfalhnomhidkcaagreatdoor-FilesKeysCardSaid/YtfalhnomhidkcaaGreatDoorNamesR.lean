import Derived.Test.YtfalhnomhidkcaaGreatDoorSq
import Derived.Test.YtfalhnomhidkcaaGreatDoorNamesM
import Derived.Test.YtfalhnomhidkcaaGreatDoorTx
import Derived.Test.YtfalhnomhidkcaaGreatDoorKeysN
import Derived.Deep.QuietTactic
import Derived.BigQuiet
set_option maxHeartbeats 16000000
set_option linter.unusedVariables false
set_option linter.unusedSimpArgs false
set_option maxRecDepth 100000
namespace Go.Proofs.YtfalhnomhidkcaaGreatDoor.NamesR
open Go.RowKit
open Byte KeysM KeysN NamesM Lst Tx
open KeysS (key_at)
open Own (keeps)
def SplE (s : ByteArray) (w : World) (e : Ending) (w' : World) : Prop := ∃ A m c,e = .returned (.tuple #[.slice A m c,.int .i64 (spl s).2]) ∧ So txE 9 w' w.heap.size (.slice A m c) m (spl s).1 ∧ Below w.heap.size w w'
theorem SplE.of {s : ByteArray} {w w' : World} {A : Option Addr} {m c : Nat} {L : List ByteArray} {x : Int} (h : spl s = (L,x)) (ho : So txE 9 w' w.heap.size (.slice A m c) m L) (hb : Below w.heap.size w w') : SplE s w (.returned (.tuple #[.slice A m c,.int .i64 x])) w' := by
 refine ⟨A,m,c,?_,?_,hb⟩ <;> rw [h]
 exact ho
theorem So.none_ {w : World} : So txE 9 w w.heap.size (.slice none 0 0) 0 [] := So.nil_ _ _ _ _
theorem made0 (w : World) : So txE 9 (w.alloc (.cells #[] 9)) w.heap.size (.slice (some ⟨w.heap.size,0,none⟩) 0 0) 0 [] := So.new_ txE _ w (Nat.le_refl _)
theorem refspl_small (s : ByteArray) (w : World) (hn : s.size ≤ maxLen) (h : s.size = 0 ∨ 255 < s.size ∨ (1 ≤ s.size ∧ s.size ≤ 255 ∧ ((txt s).getD 0 0 ≠ 47 ∨ s.size = 1))) : Calls Tryz.prog 136 #[.string s] w (SplE s w) := by
 unfold maxLen at hn
 have hs : (s.size : Int) ≤ 9223372036854775807 := by omega
 have HO := hQ_ (made0 w)
 have HB := hQ_ ((Below.refl w.heap.size w).alloc (Nat.le_refl _) (.cells #[] 9))
 rcases h with h | h | ⟨h0,h1,h⟩
 ·have hk := spl_no (s := s) (.inl h)
  have HK := hQ_ hk
  have d : ((s.size : Int) == 0) = true := (by rw [beq_iff_eq]; omega)
  have d' : (s.size == 0) = true := (by rw [beq_iff_eq]; omega)
  clear hk h
  go_enter Tryz.func136,Tryz.ntmps136
  go_wp2_with fail
  go_ret2
  exact SplE.of HK.out HO.out HB.out
 ·have hk := spl_no (s := s) (.inr h)
  have HK := hQ_ hk
  have d : ((s.size : Int) == 0) = false := (by rw [beq_eq_false_iff_ne]; omega)
  have d' : (s.size == 0) = false := (by rw [beq_eq_false_iff_ne]; omega)
  have d2 : decide ((255 : Int) < (s.size : Int)) = true := by simp; omega
  have d2' : decide (255 < s.size) = true := by simp; omega
  clear hk h
  go_enter Tryz.func136,Tryz.ntmps136
  go_wp2_with fail
  go_ret2
  exact SplE.of HK.out HO.out HB.out
 ·have d : ((s.size : Int) == 0) = false := (by rw [beq_eq_false_iff_ne]; omega)
  have d' : (s.size == 0) = false := (by rw [beq_eq_false_iff_ne]; omega)
  have d2 : decide ((255 : Int) < (s.size : Int)) = false := by simp; omega
  have d2' : decide (255 < s.size) = false := by simp; omega
  have hp0 : 0 < s.size := by omega
  have hk0 := key_at s 0 hp0
  by_cases h47 : (txt s).getD 0 0 = 47
  ·have hz : s.size = 1 := by
    rcases h with h | h
    ·exact absurd h47 h
    ·exact h
   have HK := hQ_ (spl_1 hz h47)
   have d3 : (((s[0]'hp0).toNat : Int) != 47) = false := by rw [← hk0,h47]; rfl
   have d3' : (((s[0]'hp0).toNat : Int) == 47) = true := by rw [← hk0,h47]; rfl
   have d4 : ((s.size : Int) == 1) = true := (by rw [beq_iff_eq]; omega)
   have d4' : (s.size == 1) = true := (by rw [beq_iff_eq]; omega)
   clear hk0 h h47 hz
   go_enter Tryz.func136,Tryz.ntmps136
   go_wp2_with fail
   go_ret2
   exact SplE.of HK.out HO.out HB.out
  ·have HK := hQ_ (spl_15 (s := s) (by omega) h47)
   have d3 : (((s[0]'hp0).toNat : Int) != 47) = true := by rw [← hk0,bne_iff_ne]; exact h47
   have d3' : (((s[0]'hp0).toNat : Int) == 47) = false := by rw [← hk0,beq_eq_false_iff_ne]; exact h47
   clear hk0 h h47
   go_enter Tryz.func136,Tryz.ntmps136
   go_wp2_with fail
   go_ret2
   exact SplE.of HK.out HO.out HB.out
theorem name_is (x : ByteArray) (b : Bool) (hb : nameOk x = b) (hx : x.size ≤ 100000) (w : World) : Calls Tryz.prog 152 #[.string x] w fun e w' => e = .returned (.bool b) ∧ w = w' := by
 subst hb
 exact refname_calls x w (by omega)
theorem all_of {L : List ByteArray} {x : ByteArray} {s : ByteArray} {n : Nat} {rest : List (List Int)} {Z : List (List Int)} (h : Z = L.map txt ++ (txt x :: rest)) : Z = (L ++ [x]).map txt ++ rest := by
 rw [h,List.map_append]
 simp
theorem refspl_long (s : ByteArray) (w : World) (h2 : 2 ≤ s.size) (h3 : s.size ≤ 255) (h47 : (txt s).getD 0 0 = 47) : Calls Tryz.prog 136 #[.string s] w (SplE s w) := by
 have hs : (s.size : Int) ≤ 9223372036854775807 := by omega
 have HO := hQ_ (made0 w)
 have H47 := hQ_ h47
 have d : ((s.size : Int) == 0) = false := (by rw [beq_eq_false_iff_ne]; omega)
 have d' : (s.size == 0) = false := (by rw [beq_eq_false_iff_ne]; omega)
 have d2 : decide ((255 : Int) < (s.size : Int)) = false := by simp; omega
 have d2' : decide (255 < s.size) = false := by simp; omega
 have hp0 : 0 < s.size := by omega
 have hk0 := key_at s 0 hp0
 have d3 : (((s[0]'hp0).toNat : Int) != 47) = false := by rw [← hk0,h47]; rfl
 have d3' : (((s[0]'hp0).toNat : Int) == 47) = true := by rw [← hk0,h47]; rfl
 have d4 : ((s.size : Int) == 1) = false := (by rw [beq_eq_false_iff_ne]; omega)
 have d4' : (s.size == 1) = false := (by rw [beq_eq_false_iff_ne]; omega)
 obtain ⟨Z,hZ⟩ : ∃ Z,fields ((txt s).drop 1) = Z := ⟨_,rfl⟩
 have HZ := hQ_ hZ
 clear hk0 h47 hZ
 go_enter Tryz.func136,Tryz.ntmps136
 go_wp2_with fail
 go_loopw [5,6,7] (fun v f i wr => ∃ (A : Option Addr) (m c F I : Nat) (L : List ByteArray),v = .slice A m c ∧ f = .int .i64 F ∧ i = .int .i64 I ∧ 1 ≤ F ∧ F ≤ I ∧ I ≤ s.size + 1 ∧ m < I ∧ Hid (I = s.size + 1 → F = s.size + 1) ∧ So txE 9 wr w.heap.size (.slice A m c) m L ∧ Hid (∀ j,F ≤ j → j < I → (txt s).getD j 0 ≠ 47) ∧ Hid (Z = L.map txt ++ (if F ≤ s.size then fields ((txt s).drop F) else [])) ∧ Hid (L.all nameOk = true) ∧ w.heap.size < wr.heap.size ∧ Hid (some w.heap.size ≠ (Value.slice A m c).ownBlock) ∧ So txE 9 wr w.heap.size (.slice (some ⟨w.heap.size,0,none⟩) 0 0) 0 [] ∧ Below w.heap.size w wr) (fun _ _ i _ => s.size + 2 - (intOf i).toNat)
 case atStart =>
  refine ⟨_,0,0,1,1,[],rfl,rfl,rfl,by omega,by omega,by omega,by omega,hQ_ (fun h => by omega),?_,hQ_ (fun j h1 h2 => by omega),hQ_ ?_,hQ_ rfl,by simp; omega,hQ_ (by simp [Value.ownBlock]),HO.out.below (bW_),(bW_).alloc (by simp) _⟩
  ·have := So.new_ txE 9 (w.alloc (.cells #[] 9)) (base := w.heap.size) (by simp)
   simpa using this
  ·rw [if_pos (by omega),HZ.out]
   rfl
 case round =>
  obtain ⟨A,m,c,F,I,L,rfl,rfl,rfl,hF1,hFI,hI,hmI,HE,hso,HN,HF,HA,hlt0,HNE,hs0,hbel⟩ := hrel
  by_cases hle : I ≤ s.size
  ·have HLE := hQ_ hle
   have hz : ∀ q,(wr.alloc (.cells #[.string q] 9)).heap.size = wr.heap.size + 1 := fun q => by simp
   clear hz
   by_cases hW : I < s.size → (txt s).getD I 0 = 47
   ·
    have hFA := field_at hFI hle HN.out hW
    have hz1 := HF.out
    rw [if_pos (show F ≤ s.size by omega),hFA] at hz1
    have HFB := hQ_ hz1
    have HFC := hQ_ (all_of (s := s) (n := 0) hz1)
    have hxs : (s.extract F I).size ≤ 100000 := by simp; omega
    have way : (((I : Int) == (s.size : Int)) = true ∧ (I == s.size) = true) ∨ (∃ h : I < s.size,((I : Int) == (s.size : Int)) = false ∧ (I == s.size) = false ∧ (((s[I]'h).toNat : Int) == 47) = true) := by
     rcases Nat.lt_or_eq_of_le hle with h | h
     ·refine .inr ⟨h,by rw [beq_eq_false_iff_ne]; omega,by rw [beq_eq_false_iff_ne]; omega,?_⟩
      rw [beq_iff_eq,← key_at s I h]
      exact hW h
     ·exact .inl ⟨by rw [beq_iff_eq]; omega,by rw [beq_iff_eq]; omega⟩
    obtain ⟨X,hX⟩ : ∃ X,s.extract F I = X := ⟨_,rfl⟩
    rw [hX] at HFB HFC hxs
    have x1 : s.extract F I = X := hX
    clear hFA hz1 hW hX
    cases hb : nameOk X with
    | true =>
      have HNM := hQ_ (fun w => name_is X true hb hxs w)
      have HA2 : Hid ((L ++ [X]).all nameOk = true) := hQ_ (all_snoc HA.out hb)
      clear hb
      rcases way with ⟨w1,w1'⟩ | ⟨hlt,w1,w1',w2⟩
      all_goals
       go_wp2_with (first
        | (go_at_call 152; refine (HNM.out _).mono ?_; rintro e w' ⟨rfl,rfl⟩)
        | ((with_reducible refine pick (some 56) ?_); refine wpList_append_lst txE 9 rfl _ _ _ rfl Tryz.underlying105 info_tx rfl w.heap.size _ m L rfl (hso.below (bW_)) wr.heap.size 0 1 1 [X] rfl (Sl.new_ txE _ _ X _ rfl) (m + 1) rfl _ rfl (by unfold maxLen; omega) (by omega) (by simp; omega) ?_; intro v' w' hown' hg' hat' _; obtain ⟨A',c',rfl,_⟩ := So.head hown'))
       have hal := hbel.alloc hbel.size (.cells #[.string X] 9)
       have hs1 := (hs0.below ((Below.refl _ _).alloc (Nat.le_refl _) (.cells #[.string X] 9))).grown hg' (.inr HNE.out)
       have hb1 : Below w.heap.size w w' := hal.grown hg' hal.size (fun k hk => ((hso.below ((Below.refl _ _).alloc (Nat.le_refl _) (.cells #[.string X] 9))).lt hk).1)
       have hne' : Hid (some w.heap.size ≠ (Value.slice A' (m + 1) c').ownBlock) := hQ_ (by
        rcases hat' with e | e
        ·rw [e]; exact HNE.out
        ·rw [e]
         simp
         omega)
       go_roundw
       case rel => exact ⟨A',m + 1,c',I + 1,I + 1,L ++ [X],rfl,by go_num,by go_num,by omega,by omega,by omega,by omega,hQ_ (fun h => h),hown',hQ_ (fun j h1 h2 => by omega),HFC,HA2,by have := hg'.size; simp at this; omega,hne',hs1,hb1⟩
       case measure => simp [intOf]; omega
    | false =>
      have HNM := hQ_ (fun w => name_is X false hb hxs w)
      have HK := hQ_ (spl_bad h2 h3 H47.out (HZ.out.trans HFB.out) hb)
      clear hb
      rcases way with ⟨w1,w1'⟩ | ⟨hlt,w1,w1',w2⟩
      all_goals
       go_wp2_with (go_at_call 152; refine (HNM.out _).mono ?_; rintro e w' ⟨rfl,rfl⟩)
       go_ret2
       exact SplE.of HK.out hs0 hbel
   ·have hlt : I < s.size := Classical.byContradiction fun h => hW (fun h2 => absurd h2 h)
    have hn47 : (txt s).getD I 0 ≠ 47 := fun h => hW (fun _ => h)
    have w1 : ((I : Int) == (s.size : Int)) = false := by rw [beq_eq_false_iff_ne]; omega
    have w1' : (I == s.size) = false := by rw [beq_eq_false_iff_ne]; omega
    have w2 : (((s[I]'hlt).toNat : Int) == 47) = false := by rw [beq_eq_false_iff_ne,← key_at s I hlt]; exact hn47
    have HN2 : Hid (∀ j,F ≤ j → j < I + 1 → (txt s).getD j 0 ≠ 47) := hQ_ (fun j h1 h2 => by
     rcases Nat.lt_or_eq_of_le (Nat.le_of_lt_succ h2) with h | h
     ·exact HN.out j h1 h
     ·rw [h]; exact hn47)
    clear hW hn47
    go_wp2_with fail
    go_roundw
    case rel => exact ⟨A,m,c,F,I + 1,L,rfl,rfl,by go_num,by omega,by omega,by omega,by omega,hQ_ (fun h => by omega),hso,HN2,HF,HA,hlt0,HNE,hs0,hbel⟩
    case measure => simp [intOf]; omega
  ·obtain rfl : I = s.size + 1 := by omega
   obtain rfl := HE.out rfl
   have hz1 := HF.out
   rw [if_neg (by omega),List.append_nil] at hz1
   have HK := hQ_ (spl_all h2 h3 H47.out (HZ.out.trans hz1) HA.out)
   have hml := hso.1
   have HSO := hQ_ hso
   clear hz1 hso
   by_cases hm : m ≤ 16
   ·have HK2 : Hid (spl s = (L,0)) := hQ_ (by rw [HK.out,if_pos (by omega)])
    have dm : decide ((16 : Int) < (m : Int)) = false := by rw [decide_eq_false_iff_not]; omega
    have dm' : decide (16 < m) = false := by rw [decide_eq_false_iff_not]; omega
    clear hml hm
    go_wp2_with fail
    go_ret2
    exact SplE.of HK2.out HSO.out hbel
   ·have HK2 : Hid (spl s = ([],17)) := hQ_ (by rw [HK.out,if_neg (by omega)])
    have dm : decide ((16 : Int) < (m : Int)) = true := by rw [decide_eq_true_eq]; omega
    have dm' : decide (16 < m) = true := by rw [decide_eq_true_eq]; omega
    clear hml hm
    go_wp2_with fail
    go_ret2
    exact SplE.of HK2.out hs0 hbel
theorem refspl_calls (s : ByteArray) (w : World) (hn : s.size ≤ maxLen) : Calls Tryz.prog 136 #[.string s] w (SplE s w) := by
 by_cases h : 2 ≤ s.size ∧ s.size ≤ 255 ∧ (txt s).getD 0 0 = 47
 ·exact refspl_long s w h.1 h.2.1 h.2.2
 ·refine refspl_small s w hn ?_
  by_cases h0 : s.size = 0
  ·exact .inl h0
  ·by_cases h1 : 255 < s.size
   ·exact .inr (.inl h1)
   ·refine .inr (.inr ⟨by omega,by omega,?_⟩)
    by_cases h2 : (txt s).getD 0 0 = 47
    ·exact .inr (by omega)
    ·exact .inl h2
end Go.Proofs.YtfalhnomhidkcaaGreatDoor.NamesR