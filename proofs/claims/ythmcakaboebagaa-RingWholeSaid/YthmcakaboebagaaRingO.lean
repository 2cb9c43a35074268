/- What layer 7's laws are handed, as the walks want it. -/
import Derived.Test.YthmcakaboebagaaRingOw
import Derived.Test.YthmcakaboebagaaRingF
namespace Go.Proofs.Ythmcakaboebagaa.RingO
set_option linter.unusedVariables false
set_option maxRecDepth 100000
open Go.RowKit Go.ChangeShapes Go.Deep Go.Maps
open Go.Proofs.Ythmcakaboebagaa.Form Go.Proofs.Ythmcakaboebagaa.RingOw Go.Proofs.Ythmcakaboebagaa.RingF

instance : Inhabited Pr := ⟨⟨0, 0, false, 0, 0, 0, 0, 0, 0, false, ⟨#[]⟩, ⟨#[]⟩⟩⟩
theorem c_u64 : Try.prog.cellsOf 25 = 1 := by kernel_rfl
theorem put_form {es : List Value} (hl : es.length = 12) (h : Shp Try.prog 4 67 es) : ∃ p : Pr, es = p.cells ∧ p.key.size ≤ maxLen ∧ p.value.size ≤ maxLen ∧ 0 ≤ p.seq ∧ p.seq ≤ 18446744073709551615 := by
  match es, hl with
  | [c0, c1, c2, c3, c4, c5, c6, c7, c8, c9, c10, c11], _ =>
    have ha := h.field Try.underlying67 0 _ rfl 2 (by kernel_rfl)
    obtain ⟨a0, e0, _⟩ := (ha.elem Try.underlying40 0 (by omega) 1 (by kernel_rfl)).int Try.underlying25
    obtain ⟨a1, e1, _⟩ := (ha.elem Try.underlying40 1 (by omega) 1 (by kernel_rfl)).int Try.underlying25
    obtain ⟨settled, e2⟩ := (h.field Try.underlying67 1 _ rfl 1 (by kernel_rfl)).bool Try.underlying4
    have hr := h.field Try.underlying67 2 _ rfl 9 (by kernel_rfl)
    obtain ⟨seq, ver, index, count, n0, n1, gone, key, value, e3, ⟨w3, _⟩, w1, w2⟩ := raw_form (by rfl) hr
    simp at e0 e1 e2 e3
    obtain ⟨rfl, rfl, rfl, rfl, rfl, rfl, rfl, rfl, rfl⟩ := e3
    subst e0 e1 e2
    exact ⟨⟨a0, a1, settled, seq, ver, index, count, n0, n1, gone, key, value⟩, rfl, w1, w2, w3⟩
theorem prs_of {H : Type} {enc : TypeId × Value → H} {w : World} {base fuel : Nat} {cs : List Value} {x : DataW H × List MemPlace} (h : DataW.trod enc Try.prog w base (fun _ => true) true fuel 50 cs = some x) :
    ∃ A m c ps, cs = [.slice A m c] ∧ m ≤ c ∧ m ≤ maxLen ∧ PrsAt w A m ps ∧ ∀ j, j < m → (ps j).key.size ≤ maxLen ∧ (ps j).value.size ≤ maxLen ∧ 0 ≤ (ps j).seq ∧ (ps j).seq ≤ 18446744073709551615 := by
  have hz : Try.prog.cellsOf 67 = 12 := by kernel_rfl
  obtain ⟨A, m, c, hcs, hl, hm, _, hx⟩ := slice_of 4 Try.underlying50 (by rw [hz]; decide) h
  rw [hz] at hx
  obtain ⟨ps, hp⟩ := choose_lt (α := Pr) (n := m) (p := fun j p => (∃ b o, A = some ⟨b, o, none⟩ ∧ b < w.heap.size ∧ w.rangeAt b (o + j * 12) p.cells) ∧ p.key.size ≤ maxLen ∧ p.value.size ≤ maxLen ∧ 0 ≤ p.seq ∧ p.seq ≤ 18446744073709551615) (fun j hj => by
    obtain ⟨b, o, es, hA, hb, hlen, hf, hc⟩ := hx j hj
    obtain ⟨p, rfl, h1, h2⟩ := put_form hlen hf
    exact ⟨p, ⟨b, o, hA, hb, fun i v hv => hc i v hv⟩, h1, h2⟩)
  exact ⟨A, m, c, ps, hcs, hl, by omega, fun j hj => (hp j hj).1, fun j hj => (hp j hj).2⟩
end Go.Proofs.Ythmcakaboebagaa.RingO
