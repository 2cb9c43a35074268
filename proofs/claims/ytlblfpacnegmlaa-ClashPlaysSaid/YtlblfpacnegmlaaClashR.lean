import Derived.Test.YtlblfpacnegmlaaSq
import Derived.Test.YtlblfpacnegmlaaClashM
import Derived.Test.YtlblfpacnegmlaaViewR
import Derived.Test.YtlblfpacnegmlaaTx
import Derived.WalkLawsBesides
set_option maxHeartbeats 16000000
set_option linter.unusedVariables false
set_option linter.unusedSimpArgs false
set_option maxRecDepth 100000
namespace Go.Proofs.Ytlblfpacnegmlaa.ClashR
open Go.RowKit
open Byte KeysM TreeM ViewM ClashM Lst TreeR ViewR Tx
theorem rg_cells {w : World} {b o k : Nat} {x : ByteArray × ByteArray} (h : w.rangeAt b (o + k * rgE.size) (rgE.cells x)) : w.cell? ⟨b,o + k * 2,none⟩ = some (.string x.1) ∧ w.cell? ⟨b,o + k * 2 + 1,none⟩ = some (.string x.2) :=
 ⟨h 0 _ rfl,h 1 _ rfl⟩
theorem ne_list {a b : ByteArray} (h : a ≠ b) : (a.toList == b.toList) = false := by rw [eq_list,decide_eq_false h]
theorem clash_true {R : List ByteArray} {G : List (ByteArray × ByteArray)} {W : List Pr} {i : Nat} {p : Pr} (hp : W[i]? = some p) (h : hitK R G p.key = true) : clashM R G W = true := any_hit hp h
theorem refclash_calls (A B C : Option Addr) (n c m c2 q c3 : Nat) (R : List ByteArray) (G : List (ByteArray × ByteArray)) (W : List Pr) (w : World) (hr : Sl txE w A n R) (hg : Sl rgE w B m G) (hw : Sl prE w C q W) (hn : n ≤ 100000) (hm : m ≤ 100000) (hq : q ≤ 100000) :
 Calls Try.prog 8 #[.slice A n c,.slice B m c2,.slice C q c3] w fun e w' => e = .returned (.bool (clashM R G W)) ∧ w = w' := by
 have HR := hQ_ hr
 have HG := hQ_ hg
 have HW := hQ_ hw
 obtain ⟨X,hX⟩ : ∃ X,clashM R G W = X := ⟨_,rfl⟩
 have HX := hQ_ hX
 rw [hX]
 clear hr hg hw hX
 go_enter Try.func8,Try.ntmps8
 go_wp2
 go_loop [13] (fun i => ∃ k : Nat,k ≤ q ∧ i = .int .i64 k ∧ Hid ((W.take k).any (fun p => hitK R G p.key) = false)) (fun i => q - (intOf i).toNat)
 case atStart => exact ⟨0,Nat.zero_le _,rfl,hQ_ rfl⟩
 case round =>
  obtain ⟨k,hk,rfl,HK⟩ := hrel
  by_cases hlt : k < q
  ·obtain ⟨p,g,o,hp,rfl,_,hcl⟩ := HW.out.get k hlt
   obtain ⟨c1,_,_⟩ := pair_cells hcl
   have HP := hQ_ hp
   clear hcl hp
   go_wp2
   go_loop [23] (fun i => ∃ j : Nat,j ≤ n ∧ i = .int .i64 j ∧ Hid ((R.take j).any (fun x => decide (x = p.key)) = false)) (fun i => n - (intOf i).toNat)
   case atStart => exact ⟨0,Nat.zero_le _,rfl,hQ_ rfl⟩
   case round =>
    obtain ⟨j,hj,rfl,HJ⟩ := hrel
    by_cases hjn : j < n
    ·obtain ⟨x,g2,o2,hx,rfl,_,hcl2⟩ := HR.out.get j hjn
     have d1 := tx_cell hcl2
     have HXX := hQ_ hx
     clear hcl2 hx
     by_cases he : x = p.key
     ·have hh : (x.toList == p.key.toList) = true := by rw [eq_list,decide_eq_true he]
      have HT : Hid (true = X) := hQ_ (by
       rw [← HX.out]
       refine (clash_true HP.out ?_).symm
       unfold hitK
       rw [any_hit HXX.out (by simpa using he)]
       rfl)
      clear he
      go_wp2
      go_ret
      exact ⟨ret_bool HT.out,rfl⟩
     ·have hh := ne_list he
      have HJ2 : Hid ((R.take (j + 1)).any (fun x => decide (x = p.key)) = false) := hQ_ (by rw [any_next HXX.out,HJ.out,decide_eq_false he]; rfl)
      clear he
      go_wp2
      go_round
      case rel => exact ⟨j + 1,by omega,by go_num,HJ2⟩
      case measure => simp [intOf]; omega
    ·obtain rfl : j = n := by omega
     have HRN : Hid (R.any (fun x => decide (x = p.key)) = false) := hQ_ (by
      have := HJ.out
      rw [List.take_of_length_le (by rw [HR.out.1]; exact Nat.le_refl _)] at this
      exact this)
     clear HJ
     go_wp2
     go_loop [35] (fun i => ∃ l : Nat,l ≤ m ∧ i = .int .i64 l ∧ Hid ((G.take l).any (inR p.key) = false)) (fun i => m - (intOf i).toNat)
     case atStart => exact ⟨0,Nat.zero_le _,rfl,hQ_ rfl⟩
     case round =>
      obtain ⟨l,hl,rfl,HL⟩ := hrel
      by_cases hlm : l < m
      ·obtain ⟨x,g3,o3,hx,rfl,_,hcl3⟩ := HG.out.get l hlm
       obtain ⟨d1,d2⟩ := rg_cells hcl3
       have HXX := hQ_ hx
       clear hcl3 hx
       have e0 : (x.1.toList == p.key.toList) = decide (x.1 = p.key) := eq_list _ _
       by_cases hin : inR p.key x = true
       ·have HT : Hid (true = X) := hQ_ (by
         rw [← HX.out]
         refine (clash_true HP.out ?_).symm
         unfold hitK
         rw [any_hit HXX.out hin,Bool.or_true])
        unfold inR at hin
        rw [Bool.and_eq_true] at hin
        have t1 : Op.bytesLess p.key.toList x.1.toList = false := by have := hin.1; simpa [kl] using this
        have t2 : Op.bytesLess p.key.toList x.2.toList = true := hin.2
        clear hin e0
        go_wp2
        go_ret
        exact ⟨ret_bool HT.out,rfl⟩
       ·have hin' : inR p.key x = false := by simpa using hin
        have HL2 : Hid ((G.take (l + 1)).any (inR p.key) = false) := hQ_ (by rw [any_next HXX.out,HL.out,hin']; rfl)
        have way : Op.bytesLess p.key.toList x.1.toList = true ∨ (Op.bytesLess p.key.toList x.1.toList = false ∧ Op.bytesLess p.key.toList x.2.toList = false) := by
         unfold inR kl at hin'
         cases h1 : Op.bytesLess p.key.toList x.1.toList with
         | true => exact .inl rfl
         | false =>
           rw [h1] at hin'
           exact .inr ⟨rfl,by simpa using hin'⟩
        clear hin hin' e0
        rcases way with t1 | ⟨t1,t2⟩
        all_goals
         go_wp2
         go_round
         case rel => exact ⟨l + 1,by omega,by go_num,HL2⟩
         case measure => simp [intOf]; omega
      ·obtain rfl : l = m := by omega
       have HK2 : Hid ((W.take (k + 1)).any (fun p => hitK R G p.key) = false) := hQ_ (by
        have := HL.out
        rw [List.take_of_length_le (by rw [HG.out.1]; exact Nat.le_refl _)] at this
        rw [any_next HP.out,HK.out]
        unfold hitK
        rw [HRN.out,this]
        rfl)
       go_wp2
       go_round
       case rel => exact ⟨k + 1,by omega,by go_num,HK2⟩
       case measure => simp [intOf]; omega
  ·obtain rfl : k = q := by omega
   have HT : Hid (false = X) := hQ_ (by
    have := HK.out
    rw [List.take_of_length_le (by rw [HW.out.1]; exact Nat.le_refl _)] at this
    rw [← HX.out]
    exact this.symm)
   go_wp2
   go_ret
   exact ⟨ret_bool HT.out,rfl⟩
end Go.Proofs.Ytlblfpacnegmlaa.ClashR