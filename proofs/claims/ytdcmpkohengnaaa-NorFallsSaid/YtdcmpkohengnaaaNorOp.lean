/- The operations that came in, as the walks want them: out of the reading of a slice of structs one of whose fields is a slice of bytes. -/
import Derived.Test.YtdcmpkohengnaaaNorPl
import Derived.Deep.Slices
import Derived.ChangeSlices
import Derived.ChangeArms
namespace Go.Proofs.Ytdcmpkohengnaaa.NorOp
set_option linter.unusedVariables false
open Go.RowKit Go.Maps Go.ChangeShapes Go.Deep
open Go.Proofs.Ytdcmpkohengnaaa.Byte Go.Proofs.Ytdcmpkohengnaaa.NorK Go.Proofs.Ytdcmpkohengnaaa.NorPl

instance : Inhabited Opr := ⟨⟨0, 0, 0, none, 0, 0, 0, 0, 0⟩⟩
/-- What is told of one operation's bytes and numbers. -/
def Good (w : World) (o : Opr) : Prop := (∃ bs, Bs w o.B o.bl bs) ∧ (o.B = none → o.bc = 0) ∧
  -9223372036854775808 ≤ o.n ∧ o.n ≤ 9223372036854775807 ∧ o.k ≤ 9223372036854775807 ∧ 0 ≤ o.mask ∧ o.mask ≤ 255
section
variable {H : Type} {enc : TypeId × Value → H} {w : World} {base fuel : Nat}
theorem take_at (cs : List Value) (i : Nat) (h : i < cs.length) : (cs.drop i).take 1 = [cs[i]] := by
  rw [List.drop_eq_getElem_cons h]
  rfl
theorem int_of {cs : List Value} {x : DataW H × List MemPlace} (h : DataW.trod enc Try.prog w base (fun _ => true) true fuel 3 cs = some x) : ∃ n, cs = [.int .i64 n] ∧ -9223372036854775808 ≤ n ∧ n ≤ 9223372036854775807 := by
  obtain ⟨n, h1, _, h2⟩ := DataW.trod_int Try.underlying3 h
  have := bounds_i64 h2
  exact ⟨n, h1, this.1, this.2⟩
theorem byte_of {cs : List Value} {x : DataW H × List MemPlace} (h : DataW.trod enc Try.prog w base (fun _ => true) true fuel 5 cs = some x) : ∃ n, cs = [.int .u8 n] ∧ 0 ≤ n ∧ n ≤ 255 := by
  obtain ⟨n, h1, _, h2⟩ := DataW.trod_int Try.underlying5 h
  have := bounds_u8 h2
  exact ⟨n, h1, this.1, this.2⟩
theorem bytes_of {cs : List Value} {x : DataW H × List MemPlace} (h : DataW.trod enc Try.prog w base (fun _ => true) true fuel 38 cs = some x) : ∃ A len cap, cs = [.slice A len cap] ∧ (∃ bs, Bs w A len bs) ∧ (A = none → cap = 0) := by
  rcases open_ints Try.underlying38 Try.underlying5 (by kernel_rfl) h with ⟨hcs, _⟩ | ⟨a, l, c, zs, hcs, _, hl, hm, hz, _, hcell, hwz⟩
  · exact ⟨none, 0, 0, hcs, ⟨[], Bs.nil_ _ _⟩, fun _ => rfl⟩
  · have := Bs.of_row (w := w) (a := some a) (len := l) (cap := c) (zs := zs) (.inr ⟨a, rfl, hl, hm, by simpa using hz, hcell, hwz⟩)
    exact ⟨some a, l, c, hcs, ⟨_, this.1⟩, this.2.2⟩
theorem seven {α : Type} {l : List α} (h : l.length = 7) : ∃ a b c d e f g, l = [a, b, c, d, e, f, g] := by
  match l, h with
  | [a, b, c, d, e, f, g], _ => exact ⟨a, b, c, d, e, f, g, rfl⟩
theorem op_of {cs : List Value} {x : DataW H × List MemPlace} (h : DataW.trod enc Try.prog w base (fun _ => true) true fuel 40 cs = some x) : ∃ o : Opr, cs = o.cells.toList ∧ Good w o := by
  obtain ⟨xs, n, _, _, hlen, hxl, hg⟩ := DataW.trod_struct Try.underlying40 h
  have h7 : Try.prog.cellsOf 40 = 7 := by kernel_rfl
  have hi : Try.prog.cellsOf 3 = 1 := by kernel_rfl
  have hb : Try.prog.cellsOf 5 = 1 := by kernel_rfl
  have hs : Try.prog.cellsOf 38 = 1 := by kernel_rfl
  rw [h7] at hlen
  have hxl : xs.length = 7 := hxl
  obtain ⟨c0, c1, c2, c3, c4, c5, c6, rfl⟩ := seven hlen
  · clear hlen
    have g0 : DataW.trod enc Try.prog w base (fun _ => true) true n 3 (([c0, c1, c2, c3, c4, c5, c6].drop 0).take (Try.prog.cellsOf 3)) = xs[0]? := hg 0 _ rfl
    have g1 : DataW.trod enc Try.prog w base (fun _ => true) true n 3 (([c0, c1, c2, c3, c4, c5, c6].drop 1).take (Try.prog.cellsOf 3)) = xs[1]? := hg 1 _ rfl
    have g2 : DataW.trod enc Try.prog w base (fun _ => true) true n 3 (([c0, c1, c2, c3, c4, c5, c6].drop 2).take (Try.prog.cellsOf 3)) = xs[2]? := hg 2 _ rfl
    have g3 : DataW.trod enc Try.prog w base (fun _ => true) true n 38 (([c0, c1, c2, c3, c4, c5, c6].drop 3).take (Try.prog.cellsOf 38)) = xs[3]? := hg 3 _ rfl
    have g4 : DataW.trod enc Try.prog w base (fun _ => true) true n 3 (([c0, c1, c2, c3, c4, c5, c6].drop 4).take (Try.prog.cellsOf 3)) = xs[4]? := hg 4 _ rfl
    have g5 : DataW.trod enc Try.prog w base (fun _ => true) true n 3 (([c0, c1, c2, c3, c4, c5, c6].drop 5).take (Try.prog.cellsOf 3)) = xs[5]? := hg 5 _ rfl
    have g6 : DataW.trod enc Try.prog w base (fun _ => true) true n 5 (([c0, c1, c2, c3, c4, c5, c6].drop 6).take (Try.prog.cellsOf 5)) = xs[6]? := hg 6 _ rfl
    rw [hi, List.getElem?_eq_getElem (by omega)] at g0 g1 g2 g4 g5
    rw [hs, List.getElem?_eq_getElem (by omega)] at g3
    rw [hb, List.getElem?_eq_getElem (by omega)] at g6
    obtain ⟨n0, e0, _⟩ := int_of g0
    obtain ⟨n1, e1, _⟩ := int_of g1
    obtain ⟨n2, e2, _⟩ := int_of g2
    obtain ⟨A, l, c, e3, k3, k3'⟩ := bytes_of g3
    obtain ⟨n4, e4, k4, k4'⟩ := int_of g4
    obtain ⟨n5, e5, k5, k5'⟩ := int_of g5
    obtain ⟨n6, e6, k6, k6'⟩ := byte_of g6
    simp at e0 e1 e2 e3 e4 e5 e6
    subst e0 e1 e2 e3 e4 e5 e6
    exact ⟨⟨n0, n1, n2, A, l, c, n4, n5, n6⟩, rfl, k3, k3', k4, k4', k5', k6, k6'⟩
theorem ops_of {cs : List Value} {x : DataW H × List MemPlace} (h : DataW.trod enc Try.prog w base (fun _ => true) true fuel 24 cs = some x) :
    ∃ A m c ops, cs = [.slice A m c] ∧ m ≤ c ∧ m ≤ 9223372036854775807 ∧ OpsAt w A m ops ∧ OpsOk w m ops := by
  have h7 : Try.prog.cellsOf 40 = 7 := by kernel_rfl
  rcases open_slice Try.underlying24 h with ⟨hcs, _⟩ | ⟨a, len, cap, m, n, D, Pl, hcs, _, hl, hm, hmm, _, hx⟩
  · exact ⟨none, 0, 0, fun _ => default, hcs, by omega, by omega, fun j hj => absurd hj (by omega), fun j hj => absurd hj (by omega)⟩
  · have hmc : m = cap := by simpa using hmm
    subst hmc
    obtain ⟨ops, ho⟩ := choose_lt (α := Opr) (n := len) (p := fun i o => (∀ j v, o.cells.toList[j]? = some v → w.cell? (a.add (i * 7 + j)) = some v) ∧ Good w o) (fun i hi => by
      obtain ⟨cs', h1, h2⟩ := hx i (by omega)
      obtain ⟨o, rfl, hg⟩ := op_of h2
      rw [h7] at h1
      obtain ⟨_, _, hc⟩ := World.cells?_some h1
      refine ⟨o, fun j v hv => ?_, hg⟩
      have hj : j < 7 := (List.getElem?_eq_some_iff.1 hv).1
      rw [← Go.Deep.add_add, hc j hj, hv])
    unfold maxLen at hm
    refine ⟨some a, len, m, ops, hcs, hl, by omega, fun j hj => ?_, fun j hj => (ho j hj).2⟩
    obtain ⟨hc, _⟩ := ho j hj
    obtain ⟨b, o, spot⟩ := a
    have h0 := (ho 0 (by omega)).1 0 _ rfl
    have hspot : spot = none := by simpa [Addr.add] using World.cell?_spot h0
    subst hspot
    have hadd : ∀ k, (⟨b, o, none⟩ : Addr).add k = ⟨b, o + k, none⟩ := fun k => by
      unfold Addr.add
      by_cases h0 : k = 0 <;> simp [h0]
    have hb : b < w.heap.size := World.block_lt_of_cell? w (⟨b, o, none⟩ : Addr) (by rw [hadd] at h0; simpa using h0)
    refine ⟨b, o, rfl, hb, fun k v hv => ?_⟩
    have := hc k v hv
    rw [hadd] at this
    rw [Nat.add_assoc]
    exact this
end
end Go.Proofs.Ytdcmpkohengnaaa.NorOp
