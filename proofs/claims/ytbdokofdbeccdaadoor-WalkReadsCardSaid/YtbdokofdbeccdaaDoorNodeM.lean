/- The plain mathematics of layer 15: inodes as bytes, files cut into blocks. Names no program. -/
import Derived.Test.YtbdokofdbeccdaaDoorKeysM
namespace Go.Proofs.YtbdokofdbeccdaaDoor.NodeM
set_option linter.unusedVariables false
set_option linter.unusedSimpArgs false
open Go.Proofs.YtbdokofdbeccdaaDoor.Byte Go.Proofs.YtbdokofdbeccdaaDoor.PackM Go.Proofs.YtbdokofdbeccdaaDoor.KeysM

/-- May an inode be? -/
def may (k l s p : Int) : Bool := if k = 1 then decide (0 < l) && decide (l < 1001) && decide (s < 4097) && decide (p = 0) else decide (k = 2) && decide (1 < l) && decide (s = 0)
/-- Its writing. -/
def nb (k l s p : Int) : List Int := k :: (low 4 l ++ (low 4 s ++ low 4 p))
theorem nb_len (k l s p : Int) : (nb k l s p).length = 13 := by simp [nb, low_len]
def nput (k l s p : Int) : ByteArray := str (nb k l s p)
theorem nput_size (k l s p : Int) : (nput k l s p).size = 13 := by unfold nput; rw [str_size, nb_len]
/-- What stands in a text of thirteen bytes. -/
def gk (t : ByteArray) : Int := (txt t).getD 0 0
def gl (t : ByteArray) : Int := getn (txt t) 1 4
def gs (t : ByteArray) : Int := getn (txt t) 5 4
def gp (t : ByteArray) : Int := getn (txt t) 9 4
def gok (t : ByteArray) : Bool := decide (t.size = 13) && may (gk t) (gl t) (gs t) (gp t)
theorem g_bd (t : ByteArray) (a : Nat) : 0 ≤ getn (txt t) a 4 ∧ getn (txt t) a 4 ≤ 4294967295 := by
  have := get_bd (txt t) a 4 (txt_bd t)
  have e : (256 : Int) ^ 4 = 4294967296 := by decide
  omega
theorem gk_bd (t : ByteArray) : 0 ≤ gk t ∧ gk t ≤ 255 := by
  unfold gk
  rcases Nat.lt_or_ge 0 (txt t).length with h | h
  · have hm : (txt t).getD 0 0 ∈ txt t := by
      rw [List.getD_eq_getElem?_getD, List.getElem?_eq_getElem h]
      exact List.getElem_mem h
    exact txt_bd t _ hm
  · rw [List.getD_eq_getElem?_getD, List.getElem?_eq_none h]
    simp
theorem getn_mid (a r : List Int) (x : Int) (n : Nat) (hn : a.length = n) (h0 : 0 ≤ x) (h1 : x ≤ 4294967295) : getn (a ++ (low 4 x ++ r)) n 4 = x := by
  subst hn
  unfold getn
  rw [List.drop_left' rfl, List.take_left' (low_len 4 x), unbe_low]
  exact Int.emod_eq_of_lt h0 (by have e : (256 : Int) ^ 4 = 4294967296 := (by decide); omega)
section
variable {k l s p : Int} (k0 : 0 ≤ k) (k1 : k ≤ 255) (l0 : 0 ≤ l) (l1 : l ≤ 4294967295) (s0 : 0 ≤ s) (s1 : s ≤ 4294967295) (p0 : 0 ≤ p) (p1 : p ≤ 4294967295)
include k0 k1
end
/-! ### files cut into blocks -/
/-- The pieces of n bytes from one on: which block, from which byte in it on, how many. -/
def cuts (fuel : Nat) (from_ n : Int) : List (Int × Int × Int) :=
  match fuel with
  | 0 => []
  | f + 1 => if n ≤ 0 then [] else (from_ / 64, from_ % 64, min n (64 - from_ % 64)) :: cuts f (from_ + min n (64 - from_ % 64)) (n - min n (64 - from_ % 64))
/-- As the law asks: one behind the other, all of them. -/
def Whole : Int → Bool → List (Int × Int × Int) → Int → Prop
  | a, _, [], z => a = z
  | a, first, (b, o, m) :: L, z => b * 64 + o = a ∧ 0 ≤ o ∧ 1 ≤ m ∧ o + m ≤ 64 ∧ 0 ≤ b ∧ b ≤ 64 ∧ (first = false → o = 0) ∧ Whole (a + m) false L z
theorem Whole.cuts {fuel : Nat} {a n : Int} {first : Bool} (ha : 0 ≤ a) (hz : a + n ≤ 4096) (hn : 0 ≤ n) (hf : n ≤ fuel) (h1 : first = false → n = 0 ∨ a % 64 = 0) : Whole a first (cuts fuel a n) (a + n) := by
  induction fuel generalizing a n first with
  | zero =>
    show a = a + n
    omega
  | succ f ih =>
    unfold NodeM.cuts
    by_cases h : n ≤ 0
    · rw [if_pos h]
      show a = a + n
      omega
    · rw [if_neg h]
      have hm : min n (64 - a % 64) = n ∨ min n (64 - a % 64) = 64 - a % 64 := by omega
      refine ⟨by omega, by omega, by omega, by omega, by omega, by omega, fun hx => ?_, ?_⟩
      · rcases h1 hx with h2 | h2
        · omega
        · exact h2
      · have := ih (a := a + min n (64 - a % 64)) (n := n - min n (64 - a % 64)) (first := false) (by omega) (by omega) (by omega) (by omega) (fun _ => by omega)
        rw [show a + min n (64 - a % 64) + (n - min n (64 - a % 64)) = a + n by omega] at this
        exact this
end Go.Proofs.YtbdokofdbeccdaaDoor.NodeM
