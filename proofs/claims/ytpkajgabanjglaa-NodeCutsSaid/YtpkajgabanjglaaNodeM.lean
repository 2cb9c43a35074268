/- The plain mathematics of layer 15: inodes as bytes, files cut into blocks. Names no program. -/
import Derived.Test.YtpkajgabanjglaaKeysM
namespace Go.Proofs.Ytpkajgabanjglaa.NodeM
set_option linter.unusedVariables false
set_option linter.unusedSimpArgs false
open Go.Proofs.Ytpkajgabanjglaa.Byte Go.Proofs.Ytpkajgabanjglaa.PackM Go.Proofs.Ytpkajgabanjglaa.KeysM

/-- May an inode be? -/
def may (k l s p : Int) : Bool := if k = 1 then decide (0 < l) && decide (l < 1001) && decide (s < 4097) && decide (p = 0) else decide (k = 2) && decide (1 < l) && decide (s = 0)
theorem may_file {l s p : Int} : may 1 l s p = (decide (0 < l) && decide (l < 1001) && decide (s < 4097) && decide (p = 0)) := if_pos rfl
theorem may_else {k l s p : Int} (h : k ≠ 1) : may k l s p = (decide (k = 2) && decide (1 < l) && decide (s = 0)) := if_neg h
/-- Its writing. -/
def nb (k l s p : Int) : List Int := k :: (low 4 l ++ (low 4 s ++ low 4 p))
theorem nb_len (k l s p : Int) : (nb k l s p).length = 13 := by simp [nb, low_len]
theorem nb_bd {k l s p : Int} (h0 : 0 ≤ k) (h1 : k ≤ 255) : ∀ x ∈ nb k l s p, 0 ≤ x ∧ x ≤ 255 := by
  intro x hx
  unfold nb at hx
  rcases List.mem_cons.1 hx with rfl | h
  · exact ⟨h0, h1⟩
  · rcases List.mem_append.1 h with h | h
    · exact low_bd 4 l x h
    · rcases List.mem_append.1 h with h | h
      · exact low_bd 4 s x h
      · exact low_bd 4 p x h
def nput (k l s p : Int) : ByteArray := str (nb k l s p)
theorem nput_size (k l s p : Int) : (nput k l s p).size = 13 := by unfold nput; rw [str_size, nb_len]
theorem nput_txt {k l s p : Int} (h0 : 0 ≤ k) (h1 : k ≤ 255) : txt (nput k l s p) = nb k l s p := txt_str _ (nb_bd h0 h1)
/-- What stands in a text of thirteen bytes. -/
def gk (t : ByteArray) : Int := (txt t).getD 0 0
def gl (t : ByteArray) : Int := getn (txt t) 1 4
def gs (t : ByteArray) : Int := getn (txt t) 5 4
def gp (t : ByteArray) : Int := getn (txt t) 9 4
def gok (t : ByteArray) : Bool := decide (t.size = 13) && may (gk t) (gl t) (gs t) (gp t)
theorem g_bd (t : ByteArray) (a : Nat) : 0 ≤ getn (txt t) a 4 ∧ getn (txt t) a 4 ≤ 4294967295 := by
  have := get_bd (txt t) a 4 (txt_bd t)
  have e : (256 : Int) ^ 4 = 4294967296 := by decide
  omega
theorem gk_bd (t : ByteArray) : 0 ≤ gk t ∧ gk t ≤ 255 := by
  unfold gk
  rcases Nat.lt_or_ge 0 (txt t).length with h | h
  · have hm : (txt t).getD 0 0 ∈ txt t := by
      rw [List.getD_eq_getElem?_getD, List.getElem?_eq_getElem h]
      exact List.getElem_mem h
    exact txt_bd t _ hm
  · rw [List.getD_eq_getElem?_getD, List.getElem?_eq_none h]
    simp
theorem getn_mid (a r : List Int) (x : Int) (n : Nat) (hn : a.length = n) (h0 : 0 ≤ x) (h1 : x ≤ 4294967295) : getn (a ++ (low 4 x ++ r)) n 4 = x := by
  subst hn
  unfold getn
  rw [List.drop_left' rfl, List.take_left' (low_len 4 x), unbe_low]
  exact Int.emod_eq_of_lt h0 (by have e : (256 : Int) ^ 4 = 4294967296 := (by decide); omega)
section
variable {k l s p : Int} (k0 : 0 ≤ k) (k1 : k ≤ 255) (l0 : 0 ≤ l) (l1 : l ≤ 4294967295) (s0 : 0 ≤ s) (s1 : s ≤ 4294967295) (p0 : 0 ≤ p) (p1 : p ≤ 4294967295)
include k0 k1
theorem gk_put : gk (nput k l s p) = k := by
  unfold gk
  rw [nput_txt k0 k1]
  rfl
include l0 l1 in
theorem gl_put : gl (nput k l s p) = l := by
  unfold gl
  rw [nput_txt k0 k1]
  exact getn_mid [k] (low 4 s ++ low 4 p) l 1 rfl l0 l1
include s0 s1 in
theorem gs_put : gs (nput k l s p) = s := by
  unfold gs
  rw [nput_txt k0 k1]
  have := getn_mid (k :: low 4 l) (low 4 p) s 5 (by simp [low_len]) s0 s1
  exact this
include p0 p1 in
theorem gp_put : gp (nput k l s p) = p := by
  unfold gp
  rw [nput_txt k0 k1]
  have := getn_mid (k :: (low 4 l ++ low 4 s)) [] p 9 (by simp [low_len]) p0 p1
  rw [List.append_nil] at this
  unfold nb
  simpa using this
include l0 l1 s0 s1 p0 p1 in
theorem gok_put : gok (nput k l s p) = may k l s p := by
  unfold gok
  rw [gk_put k0 k1, gl_put k0 k1 l0 l1, gs_put k0 k1 s0 s1, gp_put k0 k1 p0 p1, nput_size]
  simp
end
theorem put_back {t : ByteArray} (h : gok t = true) : nput (gk t) (gl t) (gs t) (gp t) = t := by
  have h13 : t.size = 13 := by
    unfold gok at h
    simp at h
    exact h.1
  apply txt_inj
  have hk := gk_bd t
  rw [nput_txt hk.1 hk.2]
  unfold nb gk gl gs gp
  have hl := txt_len t
  have hb := txt_bd t
  rw [h13] at hl
  generalize txt t = L at hl hb
  match L, hl with
  | [a, b, c, d, e, f, g, h, i, j, k, l, m], _ =>
    have q1 : getn [a, b, c, d, e, f, g, h, i, j, k, l, m] 1 4 = unbe [b, c, d, e] := rfl
    have q2 : getn [a, b, c, d, e, f, g, h, i, j, k, l, m] 5 4 = unbe [f, g, h, i] := rfl
    have q3 : getn [a, b, c, d, e, f, g, h, i, j, k, l, m] 9 4 = unbe [j, k, l, m] := rfl
    have r1 := low_unbe [b, c, d, e] (fun x hx => hb x (by simp at hx ⊢; rcases hx with h | h | h | h <;> simp [h]))
    have r2 := low_unbe [f, g, h, i] (fun x hx => hb x (by simp at hx ⊢; rcases hx with h | h | h | h <;> simp [h]))
    have r3 := low_unbe [j, k, l, m] (fun x hx => hb x (by simp at hx ⊢; rcases hx with h | h | h | h <;> simp [h]))
    rw [q1, q2, q3, show low 4 (unbe [b, c, d, e]) = [b, c, d, e] from r1, show low 4 (unbe [f, g, h, i]) = [f, g, h, i] from r2, show low 4 (unbe [j, k, l, m]) = [j, k, l, m] from r3]
    rfl

/-! ### files cut into blocks -/
/-- The pieces of n bytes from one on: which block, from which byte in it on, how many. -/
def cuts (fuel : Nat) (from_ n : Int) : List (Int × Int × Int) :=
  match fuel with
  | 0 => []
  | f + 1 => if n ≤ 0 then [] else (from_ / 64, from_ % 64, min n (64 - from_ % 64)) :: cuts f (from_ + min n (64 - from_ % 64)) (n - min n (64 - from_ % 64))
/-- As the law asks: one behind the other, all of them. -/
def Whole : Int → Bool → List (Int × Int × Int) → Int → Prop
  | a, _, [], z => a = z
  | a, first, (b, o, m) :: L, z => b * 64 + o = a ∧ 0 ≤ o ∧ 1 ≤ m ∧ o + m ≤ 64 ∧ 0 ≤ b ∧ b ≤ 64 ∧ (first = false → o = 0) ∧ Whole (a + m) false L z
theorem Whole.cuts {fuel : Nat} {a n : Int} {first : Bool} (ha : 0 ≤ a) (hz : a + n ≤ 4096) (hn : 0 ≤ n) (hf : n ≤ fuel) (h1 : first = false → n = 0 ∨ a % 64 = 0) : Whole a first (cuts fuel a n) (a + n) := by
  induction fuel generalizing a n first with
  | zero =>
    show a = a + n
    omega
  | succ f ih =>
    unfold NodeM.cuts
    by_cases h : n ≤ 0
    · rw [if_pos h]
      show a = a + n
      omega
    · rw [if_neg h]
      have hm : min n (64 - a % 64) = n ∨ min n (64 - a % 64) = 64 - a % 64 := by omega
      refine ⟨by omega, by omega, by omega, by omega, by omega, by omega, fun hx => ?_, ?_⟩
      · rcases h1 hx with h2 | h2
        · omega
        · exact h2
      · have := ih (a := a + min n (64 - a % 64)) (n := n - min n (64 - a % 64)) (first := false) (by omega) (by omega) (by omega) (by omega) (fun _ => by omega)
        rw [show a + min n (64 - a % 64) + (n - min n (64 - a % 64)) = a + n by omega] at this
        exact this
end Go.Proofs.Ytpkajgabanjglaa.NodeM
