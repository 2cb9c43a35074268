/- Slices of found items: read in memory, of the call's own, sliced, appended. -/
import Derived.Test.YthbafcihmcjchaaGreatDoorRingF
import Derived.Maps.AppendAt
import Derived.Laws.OwnMore
namespace Go.Proofs.YthbafcihmcjchaaGreatDoor.RingS
set_option linter.unusedVariables false
set_option linter.unusedSimpArgs false
open Go.RowKit
open Go.Proofs.YthbafcihmcjchaaGreatDoor.Byte Go.Proofs.YthbafcihmcjchaaGreatDoor.RingM Go.Proofs.YthbafcihmcjchaaGreatDoor.RingC Go.Proofs.YthbafcihmcjchaaGreatDoor.RingK Go.Proofs.YthbafcihmcjchaaGreatDoor.RingF Go.Proofs.YthbafcihmcjchaaGreatDoor.Own

theorem cells_len (x : Fnd) : x.cells.length = 11 := rfl
theorem cells_one (x : Fnd) : ∀ u ∈ x.cells, u.oneCell' = true := by
  intro u hu
  simp only [RingK.Fnd.cells, RingC.cells, List.mem_cons, List.mem_nil_iff, or_false] at hu
  rcases hu with rfl | rfl | rfl | rfl | rfl | rfl | rfl | rfl | rfl | rfl | rfl <;> rfl
def flat (L : List Fnd) : List Value := L.flatMap (·.cells)
theorem flat_len (L : List Fnd) : (flat L).length = L.length * 11 := by
  induction L with
  | nil => rfl
  | cons x L ih =>
    have : flat (x :: L) = x.cells ++ flat L := rfl
    rw [this, List.length_append, ih, cells_len, List.length_cons]
    omega
theorem flat_get (L : List Fnd) (j i : Nat) (x : Fnd) (v : Value) (hj : L[j]? = some x) (hi : x.cells[i]? = some v) : (flat L)[j * 11 + i]? = some v := by
  induction L generalizing j with
  | nil => simp at hj
  | cons y L ih =>
    have e : flat (y :: L) = y.cells ++ flat L := rfl
    rw [e]
    cases j with
    | zero =>
      obtain rfl : y = x := by simpa using hj
      have hl : i < y.cells.length := (List.getElem?_eq_some_iff.1 hi).1
      rw [Nat.zero_mul, Nat.zero_add, List.getElem?_append_left hl]
      exact hi
    | succ j =>
      rw [List.getElem?_append_right (by rw [cells_len]; omega), cells_len, show (j + 1) * 11 + i - 11 = j * 11 + i by omega]
      exact ih j (by simpa using hj)
theorem flat_split (L : List Fnd) (p : Nat) (v : Value) (h : (flat L)[p]? = some v) : ∃ x, L[p / 11]? = some x ∧ x.cells[p % 11]? = some v := by
  induction L generalizing p with
  | nil => simp [flat] at h
  | cons y L ih =>
    have e : flat (y :: L) = y.cells ++ flat L := rfl
    rw [e] at h
    rcases Nat.lt_or_ge p 11 with hp | hp
    · rw [List.getElem?_append_left (by rw [cells_len]; exact hp)] at h
      refine ⟨y, by rw [Nat.div_eq_of_lt hp]; rfl, by rw [Nat.mod_eq_of_lt hp]; exact h⟩
    · rw [List.getElem?_append_right (by rw [cells_len]; exact hp), cells_len] at h
      obtain ⟨x, h1, h2⟩ := ih (p - 11) h
      refine ⟨x, ?_, ?_⟩
      · rw [show p / 11 = (p - 11) / 11 + 1 by omega]
        simpa using h1
      · rw [show p % 11 = (p - 11) % 11 by omega]
        exact h2
/-- A slice that reads as these found items. -/
def FsAt (w : World) (A : Option Addr) (n : Nat) (L : List Fnd) : Prop :=
  L.length = n ∧ ∀ j x, L[j]? = some x → ∃ b o, A = some ⟨b, o, none⟩ ∧ b < w.heap.size ∧ w.rangeAt b (o + j * 11) x.cells
theorem FsAt.below {w w' : World} {A : Option Addr} {n : Nat} {L : List Fnd} (h : FsAt w A n L) (hb : Below w.heap.size w w') : FsAt w' A n L := ⟨h.1, fun j x hj => by
  obtain ⟨b, o, e, hlt, hc⟩ := h.2 j x hj
  exact ⟨b, o, e, Nat.lt_of_lt_of_le hlt hb.size, fun i v hv => (hb.cell (p := ⟨b, o + j * 11 + i, none⟩) hlt).trans (hc i v hv)⟩⟩
theorem FsAt.nil_ (w : World) (A : Option Addr) : FsAt w A 0 [] := ⟨rfl, fun j x h => by simp at h⟩
theorem FsAt.at_ {w : World} {b o n : Nat} {L : List Fnd} (h : FsAt w (some ⟨b, o, none⟩) n L) (j : Nat) (x : Fnd) (hj : L[j]? = some x) : b < w.heap.size ∧ w.rangeAt b (o + j * 11) x.cells := by
  obtain ⟨b', o', e, hlt, hc⟩ := h.2 j x hj
  injection e with e
  injection e with e1 e2
  subst e1
  subst e2
  exact ⟨hlt, hc⟩
theorem FsAt.drop {w : World} {b o n : Nat} {L : List Fnd} (h : FsAt w (some ⟨b, o, none⟩) n L) (k : Nat) : FsAt w (some ⟨b, o + k * 11, none⟩) (n - k) (L.drop k) := by
  refine ⟨by rw [List.length_drop, h.1], fun j x hj => ?_⟩
  rw [List.getElem?_drop] at hj
  obtain ⟨h1, h2⟩ := h.at_ (k + j) x hj
  refine ⟨b, o + k * 11, rfl, h1, ?_⟩
  rw [show o + k * 11 + j * 11 = o + (k + j) * 11 by omega]
  exact h2
theorem FsAt.take {w : World} {b o n : Nat} {L : List Fnd} (h : FsAt w (some ⟨b, o, none⟩) n L) (k : Nat) (hk : k ≤ n) : FsAt w (some ⟨b, o, none⟩) k (L.take k) := by
  refine ⟨by rw [List.length_take, h.1]; omega, fun j x hj => ?_⟩
  have hl : j < k := by
    have := (List.getElem?_eq_some_iff.1 hj).1
    rw [List.length_take] at this
    omega
  rw [List.getElem?_take_of_lt hl] at hj
  exact ⟨b, o, rfl, h.at_ j x hj⟩
/-- A row of the call's own. -/
def Fo (w : World) (base g n cap : Nat) (L : List Fnd) : Prop := L.length = n ∧ w.ownsRow base 103 11 (.slice (some ⟨g, 0, none⟩) n cap) n (flat L)
section
variable {w w' : World} {base g n cap : Nat} {L : List Fnd}
theorem Fo.place (h : Fo w base g n cap L) : base ≤ g ∧ g < w.heap.size := h.2.lt g rfl
theorem Fo.below (h : Fo w base g n cap L) (hb : Below w.heap.size w w') : Fo w' base g n cap L := ⟨h.1, own_below h.2 hb⟩
theorem Fo.fs (h : Fo w base g n cap L) : FsAt w (some ⟨g, 0, none⟩) n L := by
  refine ⟨h.1, fun j x hj => ⟨g, 0, rfl, h.place.2, fun i v hv => ?_⟩⟩
  have := h.2.cells (g := g) rfl (j * 11 + i) v (flat_get L j i x v hj hv)
  have e : (⟨g, 0, none⟩ : Addr).add (j * 11 + i) = ⟨g, 0 + j * 11 + i, none⟩ := by
    rw [Addr.add_mid]
    congr 1
    omega
  rw [e] at this
  exact this
theorem Fo.capLe (h : Fo w base g n cap L) : n ≤ cap := by
  rcases h.2.2 with ⟨h1, _⟩ | ⟨g', cap', cur, h1, _, _, h2, _⟩
  · cases h1
  · injection h1 with _ _ h3
    subst h3
    exact h2
end
theorem Fo.new_ {base : Nat} (w : World) (hb : base ≤ w.heap.size) : Fo (w.alloc (.cells #[] 103)) base w.heap.size 0 0 [] :=
  ⟨rfl, World.ownsRow_lit (size := 11) w #[] 0 hb (by decide) (by simp)⟩
theorem wpList_append_fnds {w : World} {ops : Array Oper} {rest : List Oper} {o : Oper} {a : Act} {Q : Exit → Act → World → Prop} (hgd : o.guard = none) (s x : Operand)
    (ho : o.op = .call { callee := .builtin .append, args := #[s, x], argTypes := #[50, 50] })
    (base g n cap : Nat) (L : List Fnd) (hs : a.eval s = .slice (some ⟨g, 0, none⟩) n cap) (hown : Fo w base g n cap L)
    (b of m c : Nat) (M : List Fnd) (hx : a.eval x = .slice (some ⟨b, of, none⟩) m c) (hr : FsAt w (some ⟨b, of, none⟩) m M)
    (N : Nat) (hN : n + m = N) (K : List Fnd) (hK : L ++ M = K) (h63 : n + m ≤ 1000000000000) (hbase : base ≤ w.heap.size)
    (h : ∀ g' cap' w', Fo w' base g' N cap' K → w.grownBy w' (some g) → (g' = g ∨ g' = w.heap.size) → wpList Tryz.prog ops Q rest (a.put o.dst (.slice (some ⟨g', 0, none⟩) N cap')) w') :
    wpList Tryz.prog ops Q (o :: rest) a w := by
  subst hN
  subst hK
  obtain ⟨i, hi, hz0, hz1, hz2⟩ := info_parts info_found
  refine wpList_append_own_at _ hgd s x _ ho base 103 i _ 11 120 Tryz.underlying50 hi hz0 hz1 hz2 rfl (by omega) _ n _ hs hown.2 ⟨b, of, none⟩ m c (flat M) hx (by rw [flat_len, hr.1]) (fun j u hu => ?_) (fun u hu => ?_) (by unfold maxLen; omega) (by omega) hbase ?_
  · obtain ⟨y, h1, h2⟩ := flat_split M j u hu
    rw [Addr.add_mid]
    have := (hr.at_ _ y h1).2 _ u h2
    rw [show of + j / 11 * 11 + j % 11 = of + j by omega] at this
    exact this
  · obtain ⟨y, _, hy⟩ := List.mem_flatMap.1 hu
    exact cells_one y u hy
  · intro v' w' hown' hg _ hat
    obtain ⟨g', cap', rfl⟩ : ∃ g' cap', v' = .slice (some ⟨g', 0, none⟩) (n + m) cap' := by
      rcases hown'.2 with ⟨rfl, _⟩ | ⟨g', cap', _, rfl, _⟩
      · rcases hat with h' | h' <;> simp [Value.ownBlock] at h'
      · exact ⟨g', cap', rfl⟩
    refine h g' cap' w' ⟨by rw [List.length_append, hown.1, hr.1], by rw [show flat (L ++ M) = flat L ++ flat M from List.flatMap_append]; exact hown'⟩ hg (by rcases hat with h' | h' <;> simp [Value.ownBlock] at h' <;> simp [h'])
end Go.Proofs.YthbafcihmcjchaaGreatDoor.RingS
