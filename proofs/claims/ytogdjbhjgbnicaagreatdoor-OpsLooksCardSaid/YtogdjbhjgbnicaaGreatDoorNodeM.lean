import Derived.Test.YtogdjbhjgbnicaaGreatDoorKeysM
set_option linter.unusedVariables false
set_option linter.unusedSimpArgs false
namespace Go.Proofs.YtogdjbhjgbnicaaGreatDoor.NodeM
open Byte PackM KeysM
def may (k l s p : Int) : Bool := if k = 1 then decide (0 < l) && decide (l < 1001) && decide (s < 4097) && decide (p = 0) else decide (k = 2) && decide (1 < l) && decide (s = 0)
def nb (k l s p : Int) : List Int := k :: (low 4 l ++ (low 4 s ++ low 4 p))
theorem nb_len (k l s p : Int) : (nb k l s p).length = 13 := by simp [nb,low_len]
def nput (k l s p : Int) : ByteArray := str (nb k l s p)
theorem nput_size (k l s p : Int) : (nput k l s p).size = 13 := by unfold nput; rw [str_size,nb_len]
def gk (t : ByteArray) : Int := (txt t).getD 0 0
def gl (t : ByteArray) : Int := getn (txt t) 1 4
def gs (t : ByteArray) : Int := getn (txt t) 5 4
def gp (t : ByteArray) : Int := getn (txt t) 9 4
def gok (t : ByteArray) : Bool := decide (t.size = 13) && may (gk t) (gl t) (gs t) (gp t)
theorem g_bd (t : ByteArray) (a : Nat) : 0 ≤ getn (txt t) a 4 ∧ getn (txt t) a 4 ≤ 4294967295 := by
 have := get_bd (txt t) a 4 (txt_bd t)
 have e : (256 : Int) ^ 4 = 4294967296 := by decide
 omega
theorem gk_bd (t : ByteArray) : 0 ≤ gk t ∧ gk t ≤ 255 := by
 unfold gk
 rcases Nat.lt_or_ge 0 (txt t).length with h | h
 ·have hm : (txt t).getD 0 0 ∈ txt t := by
   rw [List.getD_eq_getElem?_getD,List.getElem?_eq_getElem h]
   exact List.getElem_mem h
  exact txt_bd t _ hm
 ·rw [List.getD_eq_getElem?_getD,List.getElem?_eq_none h]
  simp
section
variable {k l s p : Int} (k0 : 0 ≤ k) (k1 : k ≤ 255) (l0 : 0 ≤ l) (l1 : l ≤ 4294967295) (s0 : 0 ≤ s) (s1 : s ≤ 4294967295) (p0 : 0 ≤ p) (p1 : p ≤ 4294967295)
include k0 k1
end
def cuts (fuel : Nat) (from_ n : Int) : List (Int × Int × Int) :=
 match fuel with
 | 0 => []
 | f + 1 => if n ≤ 0 then [] else (from_ / 64,from_ % 64,min n (64 - from_ % 64)) :: cuts f (from_ + min n (64 - from_ % 64)) (n - min n (64 - from_ % 64))
end Go.Proofs.YtogdjbhjgbnicaaGreatDoor.NodeM