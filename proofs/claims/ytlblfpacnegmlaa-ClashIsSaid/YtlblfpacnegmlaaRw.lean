/- Slices that came in or were made, read cell by cell or struct by struct; rows of structs of the call's own; for all layers. -/
import Derived.Test.YtlblfpacnegmlaaOwn
import Derived.Deep.MidRow
import Derived.OwnWalk
namespace Go.Proofs.Ytlblfpacnegmlaa.Rw
set_option linter.unusedVariables false
open Go.RowKit
open Go.Proofs.Ytlblfpacnegmlaa.Byte Go.Proofs.Ytlblfpacnegmlaa.Own

/-- A slice of one-cell values. -/
def Vs (w : World) (A : Option Addr) (n : Nat) (f : Nat → Value) : Prop := ∀ k, k < n → ∃ b o, A = some ⟨b, o, none⟩ ∧ b < w.heap.size ∧ w.cell? ⟨b, o + k, none⟩ = some (f k)
theorem Vs.below {w w' : World} {A : Option Addr} {n : Nat} {f : Nat → Value} (h : Vs w A n f) (hb : Below w.heap.size w w') : Vs w' A n f := fun k hk => by
  obtain ⟨b, o, e, hlt, hc⟩ := h k hk
  exact ⟨b, o, e, Nat.lt_of_lt_of_le hlt hb.size, (hb.cell (p := ⟨b, o + k, none⟩) hlt).trans hc⟩
theorem Vs.at_ {w : World} {b o n : Nat} {f : Nat → Value} (h : Vs w (some ⟨b, o, none⟩) n f) (k : Nat) (hk : k < n) : w.cell? ⟨b, o + k, none⟩ = some (f k) := by
  obtain ⟨b', o', e, _, hc⟩ := h k hk
  injection e with e
  injection e with e1 e2
  subst e1
  subst e2
  exact hc
/-- A slice of structs of s cells each. -/
def Rs (w : World) (A : Option Addr) (n s : Nat) (f : Nat → List Value) : Prop := ∀ k, k < n → ∃ b o, A = some ⟨b, o, none⟩ ∧ b < w.heap.size ∧ w.rangeAt b (o + k * s) (f k)
theorem Rs.below {w w' : World} {A : Option Addr} {n s : Nat} {f : Nat → List Value} (h : Rs w A n s f) (hb : Below w.heap.size w w') : Rs w' A n s f := fun k hk => by
  obtain ⟨b, o, e, hlt, hc⟩ := h k hk
  exact ⟨b, o, e, Nat.lt_of_lt_of_le hlt hb.size, fun i v hv => (hb.cell (p := ⟨b, o + k * s + i, none⟩) hlt).trans (hc i v hv)⟩
theorem Rs.at_ {w : World} {b o n s : Nat} {f : Nat → List Value} (h : Rs w (some ⟨b, o, none⟩) n s f) (k : Nat) (hk : k < n) : b < w.heap.size ∧ w.rangeAt b (o + k * s) (f k) := by
  obtain ⟨b', o', e, hlt, hc⟩ := h k hk
  injection e with e
  injection e with e1 e2
  subst e1
  subst e2
  exact ⟨hlt, hc⟩
theorem Rs.mono {w : World} {A : Option Addr} {n m s : Nat} {f g : Nat → List Value} (h : Rs w A n s f) (hm : m ≤ n) (hf : ∀ k, k < m → f k = g k) : Rs w A m s g := fun k hk => by
  obtain ⟨b, o, e, hlt, hc⟩ := h k (by omega)
  exact ⟨b, o, e, hlt, by rw [← hf k hk]; exact hc⟩
/-- A block of the call's own: n structs of s cells. -/
structure Ow (w : World) (base g n s : Nat) (f : Nat → List Value) : Prop where
  lo : base ≤ g
  hi : g < w.heap.size
  there : w.there g 0 (n * s)
  cells : ∀ k, k < n → w.rangeAt g (k * s) (f k)
section
variable {w w' : World} {base g n s : Nat} {f : Nat → List Value}
theorem Ow.below (h : Ow w base g n s f) (hb : Below w.heap.size w w') : Ow w' base g n s f :=
  ⟨h.lo, Nat.lt_of_lt_of_le h.hi hb.size, fun j hj => ⟨by rw [hb.cell (p := ⟨g, 0 + j, none⟩) h.hi]; exact (h.there j hj).1, by rw [hb.frozen (p := ⟨g, 0 + j, none⟩) h.hi]; exact (h.there j hj).2⟩,
    fun k hk i v hv => (hb.cell (p := ⟨g, k * s + i, none⟩) h.hi).trans (h.cells k hk i v hv)⟩
theorem Ow.rs (h : Ow w base g n s f) : Rs w (some ⟨g, 0, none⟩) n s f := fun k hk => ⟨g, 0, rfl, h.hi, by rw [Nat.zero_add]; exact h.cells k hk⟩
theorem Ow.lower {base' : Nat} (h : Ow w base g n s f) (hb : base' ≤ base) : Ow w base' g n s f := ⟨Nat.le_trans hb h.lo, h.hi, h.there, h.cells⟩
theorem Ow.congr {f' : Nat → List Value} (h : Ow w base g n s f) (hf : ∀ k, k < n → f k = f' k) : Ow w base g n s f' := ⟨h.lo, h.hi, h.there, fun k hk => by rw [← hf k hk]; exact h.cells k hk⟩
theorem Ow.room (h : Ow w base g n s f) (k : Nat) (hk : k < n) : w.there g (k * s) s := fun j hj => by
  have h1 : k * s + s ≤ n * s := by
    have := Nat.mul_le_mul_right s (show k + 1 ≤ n by omega)
    rw [Nat.add_mul, Nat.one_mul] at this
    exact this
  have := h.there (k * s + j) (by omega)
  rw [Nat.zero_add] at this
  exact this
/-- A struct stored. -/
theorem Ow.put (h : Ow w base g n s f) (k : Nat) (hk : k < n) (cs : List Value) (hcs : cs.length = s) (hl : ∀ j, (f j).length = s) : Ow (w.setCells g (k * s) cs) base g n s (fun j => if j = k then cs else f j) := by
  refine ⟨h.lo, Nat.lt_of_lt_of_le h.hi (grown_setCells g cs (k * s) w).size, World.there_setCells h.there _ _ _, fun j hj => ?_⟩
  by_cases e : j = k
  · subst e
    rw [if_pos rfl]
    exact World.rangeAt_setCells_same w g (j * s) cs (by rw [hcs]; exact h.room j hj)
  · rw [if_neg e]
    refine World.rangeAt_setCells_apart (h.cells j hj) g (k * s) cs (.inr ?_)
    rw [hl, hcs]
    rcases Nat.lt_or_gt_of_ne e with e | e
    · left
      have := Nat.mul_le_mul_right s (show j + 1 ≤ k by omega)
      rw [Nat.add_mul, Nat.one_mul] at this
      exact this
    · right
      have := Nat.mul_le_mul_right s (show k + 1 ≤ j by omega)
      rw [Nat.add_mul, Nat.one_mul] at this
      exact this
/-- What was made, all zero. -/
theorem Ow.made {e : TypeId} {cap : Nat} {z : Value} (h : w.ownsRow base e s (.slice (some ⟨g, 0, none⟩) n cap) n (madeCells z.cells (n * s)).toList) (hs : z.cells.size = s) (h0 : 0 < s) : Ow w base g n s (fun _ => z.cells.toList) := by
  have hp := h.lt g rfl
  have hlen : (madeCells z.cells (n * s)).size = n * s := by simp [madeCells]
  have hget : ∀ k, k < n → ∀ i v, z.cells.toList[i]? = some v → (madeCells z.cells (n * s)).toList[k * s + i]? = some v := fun k hk i v hv => by
    have hi : i < s := by
      have := (List.getElem?_eq_some_iff.1 hv).1
      simpa [hs] using this
    have h1 : k * s + i < n * s := by
      have := Nat.mul_le_mul_right s (show k + 1 ≤ n by omega)
      rw [Nat.add_mul, Nat.one_mul] at this
      omega
    have hm : (k * s + i) % s = i := by rw [Nat.mul_comm, Nat.mul_add_mod, Nat.mod_eq_of_lt hi]
    rw [Array.getElem?_toList] at hv ⊢
    have hv' := (Array.getElem?_eq_some_iff.1 hv).2
    have hz : i < z.cells.size := by rw [hs]; exact hi
    have he : z.cells[i]! = v := by rw [getElem!_pos z.cells i hz]; exact hv'
    simp [madeCells, h1, hs, hm, he]
  refine ⟨hp.1, hp.2, fun j hj => ⟨?_, ?_⟩, fun k hk i v hv => ?_⟩
  · have hj' : j < (madeCells z.cells (n * s)).toList.length := by simpa [hlen] using hj
    have := h.cells (g := g) rfl j _ (List.getElem?_eq_getElem hj')
    rw [Addr.add_mid] at this
    rw [this]
    rfl
  · have := h.frozenAt (g := g) j
    simpa using this
  · have := h.cells (g := g) rfl (k * s + i) v (hget k hk i v hv)
    rw [Addr.add_mid, Nat.zero_add] at this
    exact this
end
end Go.Proofs.Ytlblfpacnegmlaa.Rw
