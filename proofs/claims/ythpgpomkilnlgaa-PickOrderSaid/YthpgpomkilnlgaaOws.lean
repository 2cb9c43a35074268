/- Blocks of structs of the call's own: one cell stored; made by make; read as a slice; for all layers. -/
import Derived.Test.YthpgpomkilnlgaaLst
namespace Go.Proofs.Ythpgpomkilnlgaa.Ows
set_option linter.unusedVariables false
open Go.RowKit
open Go.Proofs.Ythpgpomkilnlgaa.Byte Go.Proofs.Ythpgpomkilnlgaa.Own Go.Proofs.Ythpgpomkilnlgaa.Rw Go.Proofs.Ythpgpomkilnlgaa.Lst
section
variable {w w' : World} {base g n s : Nat} {f : Nat → List Value}
theorem set1 (h : Ow w base g n s f) (k i : Nat) (hk : k < n) (hi : i < s) (v : Value) (hl : ∀ j, j < n → (f j).length = s) : Ow (w.setCell ⟨g, k * s + i, none⟩ v) base g n s (fun j => if j = k then (f j).set i v else f j) := by
  have e0 : w.setCell ⟨g, k * s + i, none⟩ v = w.setCells g (k * s + i) [v] := rfl
  have hroom : ∀ j, j < n → j * s + s ≤ n * s := fun j hj => by
    have := Nat.mul_le_mul_right s (show j + 1 ≤ n by omega)
    rw [Nat.add_mul, Nat.one_mul] at this
    exact this
  rw [e0]
  refine ⟨h.lo, Nat.lt_of_lt_of_le h.hi (grown_setCells g [v] (k * s + i) w).size, World.there_setCells h.there _ _ _, fun j hj => ?_⟩
  by_cases e : j = k
  · subst e
    rw [if_pos rfl]
    intro p u hp
    rw [List.getElem?_set] at hp
    by_cases e2 : i = p
    · subst e2
      rw [if_pos rfl, if_pos (by rw [hl j hj]; exact hi)] at hp
      injection hp with hp
      subst hp
      have hth : w.there g (j * s + i) [v].length := fun x hx => by
        simp only [List.length_cons, List.length_nil] at hx
        have := h.there (j * s + i + x) (by have := hroom j hj; omega)
        rw [Nat.zero_add] at this
        exact this
      exact World.rangeAt_setCells_same w g (j * s + i) [v] hth 0 v rfl
    · rw [if_neg e2] at hp
      have hc := h.cells j hj p u hp
      rw [← hc]
      exact World.cell?_setCells_out g [v] (j * s + i) w ⟨g, j * s + p, none⟩ (fun _ _ => by simp only [List.length_cons, List.length_nil]; omega)
  · rw [if_neg e]
    refine World.rangeAt_setCells_apart (h.cells j hj) g (k * s + i) [v] (.inr ?_)
    rw [hl j hj]
    simp only [List.length_cons, List.length_nil]
    rcases Nat.lt_or_gt_of_ne e with e | e
    · left
      have := Nat.mul_le_mul_right s (show j + 1 ≤ k by omega)
      rw [Nat.add_mul, Nat.one_mul] at this
      omega
    · right
      have := Nat.mul_le_mul_right s (show k + 1 ≤ j by omega)
      rw [Nat.add_mul, Nat.one_mul] at this
      omega
theorem set_len (k i : Nat) (v : Value) (hl : ∀ j, j < n → (f j).length = s) : ∀ j, j < n → ((fun j => if j = k then (f j).set i v else f j) j).length = s := fun j hj => by
  dsimp only
  split
  · rw [List.length_set, hl j hj]
  · exact hl j hj
/-- A cell that may be written, with what it holds. -/
theorem at_cell (h : Ow w base g n s f) (k i : Nat) (hk : k < n) (v : Value) (hi : (f k)[i]? = some v) : w.cell? ⟨g, k * s + i, none⟩ = some v := h.cells k hk i v hi
theorem at_free (h : Ow w base g n s f) (k i : Nat) (hk : k < n) (hi : i < s) : w.frozen? ⟨g, k * s + i, none⟩ = false := (h.room k hk i hi).2
theorem sl_of {α : Type} {e : Enc α} {f : Nat → List Value} {L : List α} (h : Ow w base g n e.size f) (hL : L.length = n) (hf : ∀ j x, L[j]? = some x → f j = e.cells x) : Sl e w (some ⟨g, 0, none⟩) n L := by
  refine ⟨hL, fun j x hx => ⟨g, 0, rfl, h.hi, ?_⟩⟩
  have hj : j < n := by rw [← hL]; exact (List.getElem?_eq_some_iff.1 hx).1
  rw [Nat.zero_add, ← hf j x hx]
  exact h.cells j hj
end
section
variable {P : Program} {w : World}
theorem wpList_make_ow {ops : Array Oper} {rest : List Oper} {o : Oper} {a : Act} {Q : Exit → Act → World → Prop} (hgd : o.guard = none) (l c : Operand) (t : TypeId) (ho : o.op = Op.makeSlice t l c)
    (base : Nat) (e : TypeId) (s bytes : Nat) (z : Value) (ht : P.underlying t = some (.slice e)) (hinfo : (P.info? e).map (fun i => (i.zero, i.size, i.bytes)) = some (some z, s, bytes)) (hzs : z.cells.size = s) (hs0 : 0 < s)
    (kl kc : IntKind) (L C : Int) (n : Nat) (hl : a.eval l = .int kl L) (hc : a.eval c = .int kc C) (hL : L = (n : Int)) (hC : C = (n : Int)) (hn : bytes * n ≤ 140737488355328) (hn2 : n ≤ maxLen) (hbase : base ≤ w.heap.size)
    (h : ∀ w', Ow w' base w.heap.size n s (fun _ => z.cells.toList) → w.grownBy w' none → wpList P ops Q rest (a.put o.dst (.slice (some ⟨w.heap.size, 0, none⟩) n n)) w') :
    wpList P ops Q (o :: rest) a w := by
  obtain ⟨i, hi, hz0, hz1, hz2⟩ := info_parts hinfo
  refine wpList_make_full w hgd l c t ho base e i _ s ht hi hz0 hz1 kl kc L C n hl hc hL hC (by rw [hz2]; omega) hn2 hbase ?_
  intro w' hown hg
  exact h w' (Ow.made hown hzs hs0) hg
end
end Go.Proofs.Ythpgpomkilnlgaa.Ows
