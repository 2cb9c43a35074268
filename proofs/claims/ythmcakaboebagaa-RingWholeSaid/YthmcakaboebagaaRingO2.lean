/- Pairs and places' bits, as arguments. -/
import Derived.Test.YthmcakaboebagaaRingOw
import Derived.Test.YthmcakaboebagaaRingD
import Derived.Test.YthmcakaboebagaaRingO
namespace Go.Proofs.Ythmcakaboebagaa.RingO2
set_option linter.unusedVariables false
set_option maxRecDepth 100000
open Go.RowKit Go.ChangeShapes Go.WideShapes Go.Deep Go.Maps
open Go.Proofs.Ythmcakaboebagaa.Form Go.Proofs.Ythmcakaboebagaa.RingD Go.Proofs.Ythmcakaboebagaa.Rw

instance : Inhabited Pa := ⟨⟨⟨#[]⟩, ⟨#[]⟩, false⟩⟩
theorem pair_form {d : Nat} {es : List Value} (hl : es.length = 3) (h : Shp Try.prog (d + 2) 47 es) : ∃ p : Pa, es = p.cells ∧ p.key.size ≤ maxLen ∧ p.value.size ≤ maxLen := by
  match es, hl with
  | [c0, c1, c2], _ =>
    obtain ⟨key, e0, w0⟩ := (h.field Try.underlying47 0 _ rfl 1 (by kernel_rfl)).string Try.underlying9
    obtain ⟨value, e1, w1⟩ := (h.field Try.underlying47 1 _ rfl 1 (by kernel_rfl)).string Try.underlying9
    obtain ⟨gone, e2⟩ := (h.field Try.underlying47 2 _ rfl 1 (by kernel_rfl)).bool Try.underlying4
    simp at e0 e1 e2
    subst e0 e1 e2
    exact ⟨⟨key, value, gone⟩, rfl, w0, w1⟩
theorem bits_form {d : Nat} {es : List Value} (hl : es.length = 2) (h : Shp Try.prog (d + 2) 40 es) : ∃ p : Int × Int, es = [.int .u64 p.1, .int .u64 p.2] := by
  match es, hl with
  | [c0, c1], _ =>
    obtain ⟨a, e0, _⟩ := (h.elem Try.underlying40 0 (by omega) 1 (by kernel_rfl)).int Try.underlying25
    obtain ⟨b, e1, _⟩ := (h.elem Try.underlying40 1 (by omega) 1 (by kernel_rfl)).int Try.underlying25
    simp at e0 e1
    subst e0 e1
    exact ⟨(a, b), rfl⟩
theorem u64_of_row {w : World} {a : Option Addr} {len cap : Nat} {zs : List Int}
    (h : (a = none ∧ len = 0 ∧ cap = 0 ∧ zs = []) ∨ ∃ x, a = some x ∧ len ≤ cap ∧ cap ≤ maxLen ∧ zs.length = cap ∧ (∀ i, i < zs.length → w.cell? (x.add i) = some (.int .u64 (zs.getD i 0))) ∧ ∀ n ∈ zs, (Lit.int .u64 n).wf = true) :
    Vs w a len (fun j => .int .u64 (zs.getD j 0)) ∧ len ≤ maxLen := by
  rcases h with ⟨rfl, rfl, rfl, rfl⟩ | ⟨x, rfl, hl, hm, hz, hc, hw⟩
  · exact ⟨fun k hk => by omega, by decide⟩
  · refine ⟨fun k hk => ?_, by omega⟩
    have hck := hc k (by omega)
    obtain ⟨b, o, spot⟩ := x
    have h0 := hc 0 (by omega)
    have hspot : spot = none := by simpa [Addr.add] using World.cell?_spot h0
    subst hspot
    rw [Addr.add_mid] at hck
    exact ⟨b, o, rfl, World.block_lt_of_cell? w _ hck, hck⟩
section
variable {H : Type} {enc : TypeId × Value → H} {w : World} {base fuel : Nat} {cs : List Value} {x : DataW H × List MemPlace}
theorem pairs_of (h : DataW.trod enc Try.prog w base (fun _ => true) true fuel 26 cs = some x) :
    ∃ A m c, ∃ ps : Nat → Pa, cs = [.slice A m c] ∧ m ≤ c ∧ m ≤ maxLen ∧ Rs w A m 3 (fun j => (ps j).cells) ∧ ∀ j, j < m → (ps j).key.size ≤ maxLen ∧ (ps j).value.size ≤ maxLen := by
  have hz : Try.prog.cellsOf 47 = 3 := by kernel_rfl
  obtain ⟨A, m, c, hcs, hl, hm, _, hx⟩ := slice_of 4 Try.underlying26 (by rw [hz]; decide) h
  rw [hz] at hx
  obtain ⟨ps, hp⟩ := choose_lt (α := Pa) (n := m) (p := fun j p => (∃ b o, A = some ⟨b, o, none⟩ ∧ b < w.heap.size ∧ w.rangeAt b (o + j * 3) p.cells) ∧ p.key.size ≤ maxLen ∧ p.value.size ≤ maxLen) (fun j hj => by
    obtain ⟨b, o, es, hA, hb, hlen, hf, hc⟩ := hx j hj
    obtain ⟨p, rfl, h1, h2⟩ := pair_form hlen hf
    exact ⟨p, ⟨b, o, hA, hb, fun i v hv => hc i v hv⟩, h1, h2⟩)
  exact ⟨A, m, c, ps, hcs, hl, by omega, fun j hj => (hp j hj).1, fun j hj => (hp j hj).2⟩
theorem bits_of (h : DataW.trod enc Try.prog w base (fun _ => true) true fuel 38 cs = some x) :
    ∃ A m c, ∃ ps : Nat → Int × Int, cs = [.slice A m c] ∧ m ≤ c ∧ m ≤ maxLen ∧ Rs w A m 2 (fun j => [.int .u64 (ps j).1, .int .u64 (ps j).2]) := by
  have hz : Try.prog.cellsOf 40 = 2 := by kernel_rfl
  obtain ⟨A, m, c, hcs, hl, hm, _, hx⟩ := slice_of 4 Try.underlying38 (by rw [hz]; decide) h
  rw [hz] at hx
  obtain ⟨ps, hp⟩ := choose_lt (α := Int × Int) (n := m) (p := fun j p => ∃ b o, A = some ⟨b, o, none⟩ ∧ b < w.heap.size ∧ w.rangeAt b (o + j * 2) [.int .u64 p.1, .int .u64 p.2]) (fun j hj => by
    obtain ⟨b, o, es, hA, hb, hlen, hf, hc⟩ := hx j hj
    obtain ⟨p, rfl⟩ := bits_form hlen hf
    exact ⟨p, b, o, hA, hb, fun i v hv => hc i v hv⟩)
  exact ⟨A, m, c, ps, hcs, hl, by omega, hp⟩
theorem slice_len {P : Program} {sp : Nat → Bool} {held : Bool} {t e : TypeId} {A : Option Addr} {m c : Nat} (ht : P.underlying t = some (.slice e)) (h : DataW.trod enc P w base sp held fuel t [.slice A m c] = some x) :
    m = 0 ∨ ∃ el rest, x.1 = .slice el rest ∧ el.length = m := by
  rcases open_slice ht h with ⟨hcs, _⟩ | ⟨a, len, cap, k, n, D, Pl, hcs, _, _, _, _, hx, _⟩
  · left
    simp at hcs
    exact hcs.2.1
  · right
    simp at hcs
    rw [hx, hcs.2.1]
    exact ⟨_, _, rfl, by simp⟩
end
end Go.Proofs.Ythmcakaboebagaa.RingO2
