import Derived.Test.YtfalhnomhidkcaaGreatDoorSq
import Derived.Test.YtfalhnomhidkcaaGreatDoorNamesR
import Derived.Laws.Concat
import Derived.WalkLawsBesides
import Derived.WalkSpells
set_option maxHeartbeats 16000000
set_option linter.unusedVariables false
set_option linter.unusedSimpArgs false
set_option maxRecDepth 100000
namespace Go.Proofs.YtfalhnomhidkcaaGreatDoor.NamesS
open Go.RowKit
open Byte KeysM KeysN NamesM Lst Tx NamesR
open Own (keeps)
theorem below_drewN {B : Nat} {a w : World} (h : Below B a w) (n : Nat) : Below B a (w.drewN n) := ⟨h.os,h.tape,h.output,h.size,h.block⟩
theorem same_calls (A B : Option Addr) (n c c2 : Nat) (L : List ByteArray) (w : World) (ha : Sl txE w A n L) (hb : Sl txE w B n L) (hn : n ≤ 100000) :
 Calls Tryz.prog 49 #[.slice A n c,.slice B n c2] w fun e w' => e = .returned (.bool true) ∧ Below w.heap.size w w' := by
 have HA := hQ_ ha
 have HB := hQ_ hb
 clear ha hb
 go_enter Tryz.func49,Tryz.ntmps49
 go_wp2
 go_loopw [13] (fun i wr => ∃ k : Nat,k ≤ n ∧ i = .int .i64 k ∧ Below w.heap.size w wr) (fun i _ => n - (intOf i).toNat)
 case atStart => exact ⟨0,Nat.zero_le _,rfl,Below.refl _ _⟩
 case round =>
  obtain ⟨k,hk,rfl,hbel⟩ := hrel
  by_cases hlt : k < n
  ·obtain ⟨x,g,o,hx,rfl,hg,hcl⟩ := (HA.out.below hbel).get k hlt
   obtain ⟨y,g2,o2,hy,rfl,hg2,hcl2⟩ := (HB.out.below hbel).get k hlt
   rw [hx] at hy
   injection hy with hy
   subst hy
   have c1 := tx_cell hcl
   have c2 := tx_cell hcl2
   have q1 : (0 : Int) ≤ (k : Int) := by omega
   have q2 : (k : Int) < (n : Int) := by omega
   have HBL := hQ_ hbel
   clear hcl hcl2 hx hbel
   go_wp2_with fail
   go_quiet (fail)
   go_wp2_with fail
   go_roundw
   case rel => exact ⟨k + 1,by omega,by go_num,below_drewN HBL.out _⟩
   case measure => simp [intOf]; omega
  ·obtain rfl : k = n := by omega
   go_wp2_with fail
   go_ret
   exact ⟨rfl,hbel⟩
theorem take_at {α : Type} {L : List α} {k : Nat} {x : α} (h : L[k]? = some x) : L.take (k + 1) = L.take k ++ [x] := by
 obtain ⟨hk,he⟩ := List.getElem?_eq_some_iff.1 h
 rw [List.take_succ_eq_append_getElem hk,he]
end Go.Proofs.YtfalhnomhidkcaaGreatDoor.NamesS