/- For every number, every list of pairs, every list of numbers and every list of places' bits, the law RingLinks returns true and leaves its arguments as they were. No condition. -/
import Derived.Test.YthmcakaboebagaaRows
import Derived.Test.YthmcakaboebagaaRingO2
import Derived.Test.YthmcakaboebagaaRingLn
import Derived.Test.YthmcakaboebagaaOpen
import Derived.SizedLaws
import Derived.WalkKit
import Derived.ProofKit
import Derived.OpenShut
import Derived.ShutString
import Derived.ChangeOld
import Derived.Below
namespace Go.Proofs.Ythmcakaboebagaa.ringLinks
open Go.ChangeShapes Go.WideShapes Go.ChangeAt Go.RowKit
open Go.ChangeMaps (open_string shut_string)
open Go.Proofs.Ythmcakaboebagaa
set_option linter.unusedVariables false

theorem own : ownKnob Try.prog.godebug = none := by kernel_rfl
theorem laidOut : laidOutB Try.prog = true := by kernel_rfl

/-- What the walk is told of a slice of integers that came in. -/
def IsRow (k : IntKind) (w : World) (a : Option Addr) (len cap : Nat) (zs : List Int) : Prop :=
  (a = none ∧ len = 0 ∧ cap = 0 ∧ zs = []) ∨
  ∃ x, a = some x ∧ len ≤ cap ∧ cap ≤ maxLen ∧ zs.length = cap ∧ (∀ i, i < zs.length → w.cell? (x.add i) = some (.int k (zs.getD i 0))) ∧ ∀ n ∈ zs, (Lit.int k n).wf = true

theorem walk (a0 : Int) (a1 : Option Addr) (len1 cap1 : Nat) (g1 : Nat → RingD.Pa) (a2 : Option Addr) (len2 cap2 : Nat) (z2 : List Int) (a3 : Option Addr) (len3 cap3 : Nat) (g3 : Nat → Int × Int) (w : World) (w0 : (Lit.int .u64 a0).wf = true) (w1 : len1 ≤ cap1 ∧ len1 ≤ maxLen ∧ Rw.Rs w a1 len1 3 (fun j => (g1 j).cells) ∧ ∀ j, j < len1 → (g1 j).key.size ≤ maxLen ∧ (g1 j).value.size ≤ maxLen) (w2 : IsRow .u64 w a2 len2 cap2 z2) (w3 : len3 ≤ cap3 ∧ len3 ≤ maxLen ∧ Rw.Rs w a3 len3 2 (fun j => [.int .u64 (g3 j).1, .int .u64 (g3 j).2])) (z3 : len3 * 16 ≤ 140737488351232) :
    Calls Try.prog 5 #[.int .u64 a0, .slice a1 len1 cap1, .slice a2 len2 cap2, .slice a3 len3 cap3] w fun e w' => e = .returned (.bool true) ∧ Below w.heap.size w w' := by
  have hv := RingO2.u64_of_row w2
  exact RingLn.links_law a1 a2 a3 a0 len1 cap1 len2 cap2 len3 cap3 g1 (fun j => z2.getD j 0) g3 w w1.2.2.1 hv.1 w3.2.2 w1.2.2.2 w1.2.1 hv.2 z3

set_option maxRecDepth 100000 in
theorem lifted (os : Os) (started : os.Started) (H : Type) (enc : TypeId × Value → H) :
    ReturnsInHanded {} Try.checked os 5 .any (Rows.ringLinksSpec.pre6 enc Try.prog Try.f5 Rows.ringLinksRow.domain false) (Rows.ringLinksSpec.post enc Try.prog Try.f5 false true false false) := by
  refine returnsInHanded_of_change_sized (C := Try.checked) own started (by kernel_rfl) Try.func5
    (ChangeSpec.witness6 (enc := enc) (C := Try.checked) false ⟨#[], #[.int .u64 0, .slice none 0 0, .slice none 0 0, .slice none 0 0], []⟩ 8 (by kernel_rfl) (by kernel_rfl) (by kernel_rfl) (by kernel_rfl)) ?_
  intro W base args ds gs before hval0 hW hcnd hsz0 _
  have hsz : (DataW.weightsEach Try.prog (Try.f5.params.toList ++ Rows.ringLinksSpec.plain.varTypes Try.prog) (ds ++ gs)).all (· ≤ reachBytes) = true := hsz0
  have hval : ∀ (j : Nat) t v, Try.f5.params[j]? = some t → args[j]? = some v → Value.okWide Try.prog W .any base t v := hval0
  have hW' := hW
  obtain ⟨p, q, hA0, hV, rfl, hfz, hnd⟩ := hW
  have hA : DataW.TrodAll enc Try.prog W 0 (fun _ => true) true Try.f5.params.toList args.toList ds p := hA0
  rw [Try.params5] at hA hval hsz
  obtain ⟨v0, vs0, d0, ds0, p0, q0, hargs, rfl, rfl, h0, r0⟩ := trodAll_cons hA
  obtain ⟨v1, vs1, d1, ds1, p1, q1, rfl, rfl, rfl, h1, r1⟩ := trodAll_cons r0
  obtain ⟨v2, vs2, d2, ds2, p2, q2, rfl, rfl, rfl, h2, r2⟩ := trodAll_cons r1
  obtain ⟨v3, vs3, d3, ds3, p3, q3, rfl, rfl, rfl, h3, r3⟩ := trodAll_cons r2
  obtain ⟨rfl, rfl, rfl⟩ := trodAll_nil r3
  obtain rfl : args = #[v0, v1, v2, v3] := by cases args; simp_all
  obtain ⟨rfl, rfl⟩ := trodVars_none hV
  have k0 := h0
  have lt0 : ∀ x ∈ p0, x.block < W.heap.size := by obtain ⟨m, hm⟩ := k0; exact DataW.trod_lt m _ _ _ hm
  have k1 := h1
  have lt1 : ∀ x ∈ p1, x.block < W.heap.size := by obtain ⟨m, hm⟩ := k1; exact DataW.trod_lt m _ _ _ hm
  have k2 := h2
  have lt2 : ∀ x ∈ p2, x.block < W.heap.size := by obtain ⟨m, hm⟩ := k2; exact DataW.trod_lt m _ _ _ hm
  have k3 := h3
  have lt3 : ∀ x ∈ p3, x.block < W.heap.size := by obtain ⟨m, hm⟩ := k3; exact DataW.trod_lt m _ _ _ hm
  obtain ⟨a0, rfl, w0⟩ := Open.cell_int Try.underlying25 (by simpa [Value.okWide, Try.underlying25] using (hval 0 25 v0 rfl rfl))
  obtain ⟨a1, len1, cap1, rfl⟩ := okWide_slice Try.underlying26 (hval 1 26 v1 rfl rfl)
  obtain ⟨g1, w1⟩ : ∃ g : Nat → RingD.Pa, len1 ≤ cap1 ∧ len1 ≤ maxLen ∧ Rw.Rs W a1 len1 3 (fun j => (g j).cells) ∧ ∀ j, j < len1 → (g j).key.size ≤ maxLen ∧ (g j).value.size ≤ maxLen := by
    obtain ⟨fuel, hf⟩ := h1
    obtain ⟨A, m, c, g, hcs, y⟩ := RingO2.pairs_of hf
    simp [Value.cells] at hcs
    obtain ⟨rfl, rfl, rfl⟩ := hcs
    exact ⟨g, y⟩
  obtain ⟨a2, len2, cap2, rfl⟩ := okWide_slice Try.underlying37 (hval 2 37 v2 rfl rfl)
  obtain ⟨z2, w2⟩ : ∃ zs, IsRow .u64 W a2 len2 cap2 zs := by
    obtain ⟨fuel, hf⟩ := h2
    rcases open_ints Try.underlying37 Try.underlying25 (by kernel_rfl) hf with ⟨hcs, _⟩ | ⟨x, l, c, zs, hcs, _, hl, hm, hz, _, hcell, hwz⟩
    · simp [Value.cells] at hcs
      obtain ⟨rfl, rfl, rfl⟩ := hcs
      exact ⟨[], .inl ⟨rfl, rfl, rfl, rfl⟩⟩
    · simp [Value.cells] at hcs
      obtain ⟨rfl, rfl, rfl⟩ := hcs
      exact ⟨zs, .inr ⟨_, rfl, hl, hm, by simpa using hz, hcell, hwz⟩⟩
  obtain ⟨a3, len3, cap3, rfl⟩ := okWide_slice Try.underlying38 (hval 3 38 v3 rfl rfl)
  obtain ⟨g3, w3⟩ : ∃ g : Nat → Int × Int, len3 ≤ cap3 ∧ len3 ≤ maxLen ∧ Rw.Rs W a3 len3 2 (fun j => [.int .u64 (g j).1, .int .u64 (g j).2]) := by
    obtain ⟨fuel, hf⟩ := h3
    obtain ⟨A, m, c, g, hcs, y⟩ := RingO2.bits_of hf
    simp [Value.cells] at hcs
    obtain ⟨rfl, rfl, rfl⟩ := hcs
    exact ⟨g, y⟩
  have z3 : len3 * 16 ≤ 140737488351232 := by
    obtain ⟨fuel, hf⟩ := k3
    rcases RingO2.slice_len Try.underlying38 (by simpa [Value.cells] using hf) with h | ⟨el, rest, hd, hel⟩
    · rw [h]; omega
    · have hsl := sized_slice hsz (j := 3) (t := 38) (e := 40) (elems := el) (spare := rest) rfl (by rw [← hd]; rfl) Try.underlying38
      rw [show Try.prog.bytesOf 40 = 16 by kernel_rfl, hel] at hsl
      have h2 := Nat.mul_le_mul_right 16 (Nat.le_add_right len3 rest.length)
      unfold reachBytes at hsl
      omega
  clear hA0 hval0
  refine (walk a0 a1 len1 cap1 g1 a2 len2 cap2 z2 a3 len3 cap3 g3 W w0 w1 w2 w3 z3).mono fun e W' ⟨he, bel⟩ => ?_
  subst he
  exact ⟨_, rfl, _, _, _, [], _, [], hW', trodAll_mk1 (shut_bool Try.underlying4 _), (trodAll_cons_mk (Below.trod laidOut (by kernel_rfl) (of_decide_eq_true (by kernel_rfl)) k0 bel lt0) (trodAll_cons_mk (Below.trod laidOut (by kernel_rfl) (of_decide_eq_true (by kernel_rfl)) k1 bel lt1) (trodAll_cons_mk (Below.trod laidOut (by kernel_rfl) (of_decide_eq_true (by kernel_rfl)) k2 bel lt2) (trodAll_cons_mk (Below.trod laidOut (by kernel_rfl) (of_decide_eq_true (by kernel_rfl)) k3 bel lt3) trodAll_mk0)))), rfl, bel.frame _, fun h => by cases h⟩

theorem over : Rows.ringLinksRow.holds Try.pinned (OpenSpec.ofChange Rows.ringLinksSpec) :=
  OpenClaim.holds_of_wide 5 Try.f5 rfl rfl rfl rfl rfl rfl rfl ⟨rfl, rfl, rfl, rfl, rfl⟩ rfl rfl rfl rfl rfl (by kernel_rfl) Try.func5 (by kernel_rfl)
    (of_decide_eq_true (by kernel_rfl)) (by unfold Func.isWrapper; first | (rw [if_pos (by decide +kernel)]; kernel_rfl) | (rw [if_neg (by decide +kernel)]; exact ⟨rfl, rfl⟩))
    (fun os started H enc _ => lifted os started H enc)

/-- The statement. -/
theorem proved : Rows.RingLinksSaid := over
end Go.Proofs.Ythmcakaboebagaa.ringLinks
