import Derived.Test.YtogdjbhjgbnicaaGreatDoorKeysM
set_option linter.unusedVariables false
set_option linter.unusedSimpArgs false
namespace Go.Proofs.YtogdjbhjgbnicaaGreatDoor.NodeM
open Byte PackM KeysM
def may (k l s p : Int) : Bool := if k = 1 then decide (0 < l) && decide (l < 1001) && decide (s < 4097) && decide (p = 0) else decide (k = 2) && decide (1 < l) && decide (s = 0)
theorem may_file {l s p : Int} : may 1 l s p = (decide (0 < l) && decide (l < 1001) && decide (s < 4097) && decide (p = 0)) := if_pos rfl
def nb (k l s p : Int) : List Int := k :: (low 4 l ++ (low 4 s ++ low 4 p))
theorem nb_len (k l s p : Int) : (nb k l s p).length = 13 := by simp [nb,low_len]
theorem nb_bd {k l s p : Int} (h0 : 0 ≤ k) (h1 : k ≤ 255) : ∀ x ∈ nb k l s p,0 ≤ x ∧ x ≤ 255 := by
 intro x hx
 unfold nb at hx
 rcases List.mem_cons.1 hx with rfl | h
 ·exact ⟨h0,h1⟩
 ·rcases List.mem_append.1 h with h | h
  ·exact low_bd 4 l x h
  ·rcases List.mem_append.1 h with h | h
   ·exact low_bd 4 s x h
   ·exact low_bd 4 p x h
def nput (k l s p : Int) : ByteArray := str (nb k l s p)
theorem nput_size (k l s p : Int) : (nput k l s p).size = 13 := by unfold nput; rw [str_size,nb_len]
theorem nput_txt {k l s p : Int} (h0 : 0 ≤ k) (h1 : k ≤ 255) : txt (nput k l s p) = nb k l s p := txt_str _ (nb_bd h0 h1)
def gk (t : ByteArray) : Int := (txt t).getD 0 0
def gl (t : ByteArray) : Int := getn (txt t) 1 4
def gs (t : ByteArray) : Int := getn (txt t) 5 4
def gp (t : ByteArray) : Int := getn (txt t) 9 4
def gok (t : ByteArray) : Bool := decide (t.size = 13) && may (gk t) (gl t) (gs t) (gp t)
theorem g_bd (t : ByteArray) (a : Nat) : 0 ≤ getn (txt t) a 4 ∧ getn (txt t) a 4 ≤ 4294967295 := by
 have := get_bd (txt t) a 4 (txt_bd t)
 have e : (256 : Int) ^ 4 = 4294967296 := by decide
 omega
theorem gk_bd (t : ByteArray) : 0 ≤ gk t ∧ gk t ≤ 255 := by
 unfold gk
 rcases Nat.lt_or_ge 0 (txt t).length with h | h
 ·have hm : (txt t).getD 0 0 ∈ txt t := by
   rw [List.getD_eq_getElem?_getD,List.getElem?_eq_getElem h]
   exact List.getElem_mem h
  exact txt_bd t _ hm
 ·rw [List.getD_eq_getElem?_getD,List.getElem?_eq_none h]
  simp
theorem getn_mid (a r : List Int) (x : Int) (n : Nat) (hn : a.length = n) (h0 : 0 ≤ x) (h1 : x ≤ 4294967295) : getn (a ++ (low 4 x ++ r)) n 4 = x := by
 subst hn
 unfold getn
 rw [List.drop_left' rfl,List.take_left' (low_len 4 x),unbe_low]
 exact Int.emod_eq_of_lt h0 (by have e : (256 : Int) ^ 4 = 4294967296 := (by decide); omega)
section
variable {k l s p : Int} (k0 : 0 ≤ k) (k1 : k ≤ 255) (l0 : 0 ≤ l) (l1 : l ≤ 4294967295) (s0 : 0 ≤ s) (s1 : s ≤ 4294967295) (p0 : 0 ≤ p) (p1 : p ≤ 4294967295)
include k0 k1
theorem gk_put : gk (nput k l s p) = k := by
 unfold gk
 rw [nput_txt k0 k1]
 rfl
include l0 l1 in
theorem gl_put : gl (nput k l s p) = l := by
 unfold gl
 rw [nput_txt k0 k1]
 exact getn_mid [k] (low 4 s ++ low 4 p) l 1 rfl l0 l1
include s0 s1 in
theorem gs_put : gs (nput k l s p) = s := by
 unfold gs
 rw [nput_txt k0 k1]
 have := getn_mid (k :: low 4 l) (low 4 p) s 5 (by simp [low_len]) s0 s1
 exact this
include p0 p1 in
theorem gp_put : gp (nput k l s p) = p := by
 unfold gp
 rw [nput_txt k0 k1]
 have := getn_mid (k :: (low 4 l ++ low 4 s)) [] p 9 (by simp [low_len]) p0 p1
 rw [List.append_nil] at this
 unfold nb
 simpa using this
include l0 l1 s0 s1 p0 p1 in
theorem gok_put : gok (nput k l s p) = may k l s p := by
 unfold gok
 rw [gk_put k0 k1,gl_put k0 k1 l0 l1,gs_put k0 k1 s0 s1,gp_put k0 k1 p0 p1,nput_size]
 simp
end
def cuts (fuel : Nat) (from_ n : Int) : List (Int × Int × Int) :=
 match fuel with
 | 0 => []
 | f + 1 => if n ≤ 0 then [] else (from_ / 64,from_ % 64,min n (64 - from_ % 64)) :: cuts f (from_ + min n (64 - from_ % 64)) (n - min n (64 - from_ % 64))
end Go.Proofs.YtogdjbhjgbnicaaGreatDoor.NodeM