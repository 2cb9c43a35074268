/- An item by its place's bits, as an argument. -/
import Derived.Test.YthmcakaboebagaaForm
import Derived.Test.YthmcakaboebagaaProg
namespace Go.Proofs.Ythmcakaboebagaa.RingOw
set_option linter.unusedVariables false
set_option maxRecDepth 100000
open Go.RowKit Go.ChangeShapes Go.WideShapes Go.Deep
open Go.Proofs.Ythmcakaboebagaa.Form

theorem raw_form {d : Nat} {es : List Value} (hl : es.length = 9) (h : Shp Try.prog (d + 3) 65 es) : ∃ (seq ver index count n0 n1 : Int) (gone : Bool) (key value : ByteArray),
    es = [.int .u64 seq, .int .u64 ver, .int .i64 index, .int .i64 count, .int .u64 n0, .int .u64 n1, .bool gone, .string key, .string value] ∧
    ((0 ≤ seq ∧ seq ≤ 18446744073709551615) ∧ (0 ≤ ver ∧ ver ≤ 18446744073709551615)) ∧ key.size ≤ maxLen ∧ value.size ≤ maxLen := by
  match es, hl with
  | [c0, c1, c2, c3, c4, c5, c6, c7, c8], _ =>
    obtain ⟨seq, e0, w0⟩ := (h.field Try.underlying65 0 _ rfl 1 (by kernel_rfl)).int Try.underlying25
    obtain ⟨ver, e1, w1⟩ := (h.field Try.underlying65 1 _ rfl 1 (by kernel_rfl)).int Try.underlying25
    obtain ⟨index, e2, _⟩ := (h.field Try.underlying65 2 _ rfl 1 (by kernel_rfl)).int Try.underlying3
    obtain ⟨count, e3, _⟩ := (h.field Try.underlying65 3 _ rfl 1 (by kernel_rfl)).int Try.underlying3
    have ha := h.field Try.underlying65 4 _ rfl 2 (by kernel_rfl)
    obtain ⟨n0, e4, _⟩ := (ha.elem Try.underlying40 0 (by omega) 1 (by kernel_rfl)).int Try.underlying25
    obtain ⟨n1, e5, _⟩ := (ha.elem Try.underlying40 1 (by omega) 1 (by kernel_rfl)).int Try.underlying25
    obtain ⟨gone, e6⟩ := (h.field Try.underlying65 5 _ rfl 1 (by kernel_rfl)).bool Try.underlying4
    obtain ⟨key, e7, w7⟩ := (h.field Try.underlying65 6 _ rfl 1 (by kernel_rfl)).string Try.underlying9
    obtain ⟨value, e8, w8⟩ := (h.field Try.underlying65 7 _ rfl 1 (by kernel_rfl)).string Try.underlying9
    have b0 := bounds_u64 w0
    have b1 := bounds_u64 w1
    simp at e0 e1 e2 e3 e4 e5 e6 e7 e8
    subst e0 e1 e2 e3 e4 e5 e6 e7 e8
    exact ⟨_, _, _, _, _, _, _, _, _, rfl, ⟨⟨b0.1, by have := b0.2; omega⟩, b1.1, by have := b1.2; omega⟩, w7, w8⟩
theorem raw_of {H : Type} {enc : TypeId × Value → H} {w : World} {base base' : Nat} {r : Reach} {v : Value} {d : DataW H} {ps : List MemPlace} {sp : Nat → Bool} {held : Bool}
    (hv : Value.okWide Try.prog w r base 65 v) (h : DataW.Trod enc Try.prog w base' sp held 65 v d ps) : ∃ (seq ver index count n0 n1 : Int) (gone : Bool) (key value : ByteArray),
    v = .agg #[.int .u64 seq, .int .u64 ver, .int .i64 index, .int .i64 count, .int .u64 n0, .int .u64 n1, .bool gone, .string key, .string value] ∧
    ((0 ≤ seq ∧ seq ≤ 18446744073709551615) ∧ (0 ≤ ver ∧ ver ≤ 18446744073709551615)) ∧ key.size ≤ maxLen ∧ value.size ≤ maxLen := by
  obtain ⟨cs, rfl, hs⟩ := okWide_struct Try.underlying65 hv
  obtain ⟨fuel, hf⟩ := h
  have hc : Try.prog.cellsOf 65 = 9 := by kernel_rfl
  obtain ⟨l⟩ := cs
  have hl : l.length = 9 := by rw [hc] at hs; simpa using hs
  obtain ⟨seq, ver, index, count, n0, n1, gone, key, value, e, hb⟩ := raw_form (d := 1) hl (form_of 4 (by simpa [Value.cells] using hf))
  subst e
  exact ⟨seq, ver, index, count, n0, n1, gone, key, value, rfl, hb⟩
end Go.Proofs.Ythmcakaboebagaa.RingOw
