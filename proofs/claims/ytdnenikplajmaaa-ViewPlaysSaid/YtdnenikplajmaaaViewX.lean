/- What layer 14's laws are handed, as the walks want it. -/
import Derived.Test.YtdnenikplajmaaaArgs
import Derived.Test.YtdnenikplajmaaaViewO
import Derived.Test.YtdnenikplajmaaaViewN
import Derived.SizedLaws
namespace Go.Proofs.Ytdnenikplajmaaa.ViewX
set_option linter.unusedVariables false
set_option maxRecDepth 100000
open Go.RowKit Go.ChangeShapes Go.WideShapes Go.Deep Go.Maps
open Go.Proofs.Ytdnenikplajmaaa.Form Go.Proofs.Ytdnenikplajmaaa.Lst Go.Proofs.Ytdnenikplajmaaa.Args Go.Proofs.Ytdnenikplajmaaa.ViewR Go.Proofs.Ytdnenikplajmaaa.ViewB Go.Proofs.Ytdnenikplajmaaa.ViewO

theorem oq_form {es : List Value} (hl : es.length = oqE.size) (h : Shp Try.prog 4 35 es) : ∃ p : Op14, es = oqE.cells p ∧ fitOq p := by
  match es, hl with
  | [c0, c1, c2], _ =>
    obtain ⟨kind, e0, w0⟩ := (h.field Try.underlying35 0 _ rfl 1 (by kernel_rfl)).int Try.underlying3
    obtain ⟨key, e2, w2⟩ := (h.field Try.underlying35 1 _ rfl 1 (by kernel_rfl)).string Try.underlying9
    obtain ⟨value, e3, w3⟩ := (h.field Try.underlying35 2 _ rfl 1 (by kernel_rfl)).string Try.underlying9
    simp at e0 e2 e3
    subst e0 e2 e3
    exact ⟨⟨kind, key, value⟩, rfl, bounds_i64 w0, w2, w3⟩
theorem oqs_of {H : Type} {enc : TypeId × Value → H} {w : World} {base fuel : Nat} {cs : List Value} {x : DataW H × List MemPlace} (h : DataW.trod enc Try.prog w base (fun _ => true) true fuel 23 cs = some x) :
    ∃ A m c, ∃ L : List Op14, cs = [.slice A m c] ∧ m ≤ c ∧ c ≤ maxLen ∧ Sl oqE w A m L ∧ ∀ p ∈ L, fitOq p :=
  sl_of oqE fitOq 4 Try.underlying23 (by kernel_rfl) (fun es hl hs => oq_form hl hs) h
instance : Inhabited (ByteArray × ByteArray) := ⟨⟨⟨#[]⟩, ⟨#[]⟩⟩⟩
theorem two_form {es : List Value} (hl : es.length = rgE.size) (h : Shp Try.prog 4 58 es) : ∃ p : ByteArray × ByteArray, es = rgE.cells p ∧ fitTwo p := by
  match es, hl with
  | [c0, c1], _ =>
    obtain ⟨x, e0, w0⟩ := (h.elem Try.underlying58 0 (by decide) 1 (by kernel_rfl)).string Try.underlying9
    obtain ⟨y, e1, w1⟩ := (h.elem Try.underlying58 1 (by decide) 1 (by kernel_rfl)).string Try.underlying9
    simp at e0 e1
    subst e0 e1
    exact ⟨(x, y), rfl, w0, w1⟩
theorem twos_of {H : Type} {enc : TypeId × Value → H} {w : World} {base fuel : Nat} {cs : List Value} {x : DataW H × List MemPlace} (h : DataW.trod enc Try.prog w base (fun _ => true) true fuel 22 cs = some x) :
    ∃ A m c, ∃ L : List (ByteArray × ByteArray), cs = [.slice A m c] ∧ m ≤ c ∧ c ≤ maxLen ∧ Sl rgE w A m L ∧ ∀ p ∈ L, fitTwo p :=
  sl_of rgE fitTwo 4 Try.underlying22 (by kernel_rfl) (fun es hl hs => two_form hl hs) h
theorem weights_all {H : Type} {P : Program} {e : TypeId} : ∀ {ds : List (DataW H)} {d : DataW H}, d ∈ ds → ∀ n ∈ d.weights P e, n ∈ DataW.weightsAll P e ds
  | a :: ds, d, h, n, hn => by
    simp only [DataW.weightsAll, List.mem_append]
    rcases List.mem_cons.1 h with rfl | h
    · exact .inl hn
    · exact .inr (weights_all h n hn)
  | [], d, h, _, _ => by cases h
/-- Texts that came in, none beyond what memory holds. -/
theorem strs_reach {H : Type} {enc : TypeId × Value → H} {w : World} {base fuel : Nat} {cs : List Value} {x : DataW H × List MemPlace} (h : DataW.trod enc Try.prog w base (fun _ => true) true fuel 30 cs = some x) (hw : ∀ n ∈ x.1.weights Try.prog 30, n ≤ reachBytes) :
    ∃ A m c, ∃ L : List ByteArray, cs = [.slice A m c] ∧ m ≤ c ∧ c ≤ maxLen ∧ Sl txE w A m L ∧ ∀ p ∈ L, p.size ≤ 140737488351232 := by
  obtain ⟨A, m, c, L, hcs, h1, h2, h3, _⟩ := sl_of txE (fun p => p.size ≤ maxLen) 4 Try.underlying30 (by kernel_rfl) (fun es hl hs => by
    obtain ⟨s, rfl, h1⟩ := hs.string Try.underlying9
    exact ⟨s, rfl, h1⟩) h
  refine ⟨A, m, c, L, hcs, h1, h2, h3, fun p hp => ?_⟩
  obtain ⟨j, hj⟩ := List.mem_iff_getElem?.1 hp
  have hjm : j < m := by
    have := (List.getElem?_eq_some_iff.1 hj).1
    rw [h3.1] at this
    exact this
  rcases open_slice Try.underlying30 h with ⟨e, _⟩ | ⟨a, len, cap, k, n, D, Pl, e, _, hl, _, hk, hx, hc⟩
  · rw [hcs] at e
    simp at e
    omega
  · rw [hcs] at e
    simp at e
    obtain ⟨rfl, rfl, rfl⟩ := e
    have hkc : k = c := by simpa using hk
    obtain ⟨es, g1, g2⟩ := hc j (by omega)
    obtain ⟨s, rfl, e2, _⟩ := DataW.trod_string Try.underlying9 g2
    obtain ⟨_, _, g3⟩ := World.cells?_some g1
    have g4 := g3 0 (by rw [show Try.prog.cellsOf 9 = 1 by kernel_rfl]; decide)
    obtain ⟨b, o, ea, _, g5⟩ := h3.2 j p hj
    injection ea with ea
    subst ea
    have g6 := tx_cell g5
    rw [show Try.prog.cellsOf 9 = 1 by kernel_rfl, Nat.mul_one] at g4
    have hadd : ((⟨b, o, none⟩ : Addr).add j).add 0 = ⟨b, o + j, none⟩ := by
      unfold Addr.add
      by_cases h0 : j = 0 <;> simp [h0]
    rw [hadd, g6] at g4
    simp at g4
    subst g4
    have h5 := hw p.data.toList.length (by
      rw [hx]
      simp only [DataW.weights, Try.underlying30]
      refine List.mem_cons_of_mem _ (List.mem_append_left _ (weights_all (d := D j) (List.mem_map.2 ⟨j, List.mem_range.2 (by omega), rfl⟩) _ ?_))
      have e3 : D j = .lit (.string p.data.toList) := congrArg Prod.fst e2
      rw [e3]
      simp [DataW.weights])
    unfold reachBytes at h5
    have : p.data.toList.length = p.size := Array.length_toList
    omega
theorem op_of {H : Type} {enc : TypeId × Value → H} {w : World} {base base' : Nat} {r : Reach} {v : Value} {d : DataW H} {ps : List MemPlace} {sp : Nat → Bool} {held : Bool}
    (hv : Value.okWide Try.prog w r base 35 v) (h : DataW.Trod enc Try.prog w base' sp held 35 v d ps) : ∃ (kind : Int) (key value : ByteArray),
    v = .agg #[.int .i64 kind, .string key, .string value] ∧ key.size ≤ maxLen ∧ value.size ≤ maxLen := by
  obtain ⟨cs, rfl, hs⟩ := okWide_struct Try.underlying35 hv
  obtain ⟨fuel, hf⟩ := h
  have hc : Try.prog.cellsOf 35 = 3 := by kernel_rfl
  obtain ⟨l⟩ := cs
  have hl : l.length = 3 := by rw [hc] at hs; simpa using hs
  obtain ⟨p, e, hb⟩ := oq_form hl (form_of 4 (by simpa [Value.cells] using hf))
  subst e
  exact ⟨p.kind, p.key, p.value, rfl, hb.2.1, hb.2.2⟩
end Go.Proofs.Ytdnenikplajmaaa.ViewX
