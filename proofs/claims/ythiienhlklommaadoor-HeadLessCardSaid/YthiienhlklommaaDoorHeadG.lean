/- What the row's condition on the package's variable 'example' gives the walk: two integers, 6 and 512. -/
import Derived.Test.YthiienhlklommaaDoorRows
import Derived.Test.YthiienhlklommaaDoorHeadS
import Derived.OpenShut
import Derived.ChangeSame
import Derived.LaidMore
import Derived.LaidHandle
import Derived.MakeChecks
import Derived.Stop.Joined
namespace Go.Proofs.YthiienhlklommaaDoor.HeadG
open Go.ChangeShapes Go.WideShapes Go.RowKit
open Go.Proofs.YthiienhlklommaaDoor.HeadS

theorem gEx : Tryd.prog.globalNamed "flint/flintlaw05.example" = some 0 := by kernel_rfl
theorem tEx : (Tryd.prog.globals[0]?).map (·.type) = some 23 := by kernel_rfl
theorem cInt : Tryd.prog.cellsOf 3 = 1 := by kernel_rfl
theorem of_laid {W : World} (h : laidMetH Tryd.prog [("flint/flintlaw05.example", Rows.laid_flint_flintlaw05_example)] W) : Example W := by
  rw [MakeChecks.laidMetH_plain _ _ _ (by kernel_rfl)] at h
  obtain ⟨ps, ⟨g0, t0, cs0, f0, p0, q0, hg0, ht0, hv0, hd0, _, _⟩, _, _⟩ := h
  obtain rfl := Option.some.inj (gEx.symm.trans hg0)
  obtain rfl := Option.some.inj (tEx.symm.trans ht0)
  obtain ⟨y0, y1, n, hx1, hl, e0, e1⟩ := trod_struct2 Tryd.underlying23 hd0
  simp only [Prod.mk.injEq] at hx1
  have one : ∀ (o : Nat) (y : DataW Unit × List MemPlace) (z : Int), DataW.trod (fun _ => ()) Tryd.prog W 0 (fun _ => true) false n 3 ((cs0.toList.drop o).take (Tryd.prog.cellsOf 3)) = some y → y.1 = .lit (.int .i64 z) → W.cell? ⟨0, o, none⟩ = some (.int .i64 z) := by
    intro o y z hy hz
    obtain ⟨k, a1, a2, _⟩ := DataW.trod_int Tryd.underlying3 hy
    rw [cInt] at a1
    have hcell : cs0.toList[o]? = some (.int .i64 k) := by
      have := congrArg (fun l => l[0]?) a1
      simpa [List.getElem?_take, List.getElem?_drop] using this
    have hk : k = z := by
      rw [a2] at hz
      simpa using hz
    subst hk
    have := World.var?_cell hg0 hv0 o
    rw [this]
    simpa using hcell
  have hm := hx1.1
  simp only [Rows.laid_flint_flintlaw05_example, DataW.agg.injEq, List.cons.injEq, and_true] at hm
  have k0 := one 0 y0 6 e0 hm.1.symm
  exact ⟨World.block_lt_of_cell? W ⟨0, 0, none⟩ k0, k0, one 1 y1 512 e1 hm.2.symm⟩
/-- What the shell of a proof tells of a slice of integers that came in. -/
theorem is_of_row {w : World} {a : Option Addr} {len cap : Nat} {zs : List Int}
    (h : (a = none ∧ len = 0 ∧ cap = 0 ∧ zs = []) ∨ ∃ x, a = some x ∧ len ≤ cap ∧ cap ≤ maxLen ∧ zs.length = cap ∧ (∀ i, i < zs.length → w.cell? (x.add i) = some (.int .i64 (zs.getD i 0))) ∧ ∀ n ∈ zs, (Lit.int .i64 n).wf = true) :
    Is w a len (zs.take len) ∧ len ≤ maxLen := by
  rcases h with ⟨rfl, rfl, rfl, rfl⟩ | ⟨x, rfl, hl, hm, hz, hc, hw⟩
  · refine ⟨⟨rfl, ?_, ?_⟩, by decide⟩
    · intro y hy
      simp at hy
    · intro k hk
      omega
  · refine ⟨⟨by rw [List.length_take]; omega, fun y hy => ?_, fun k hk => ?_⟩, by omega⟩
    · have h2 := hw y (List.mem_of_mem_take hy)
      have h3 := bounds_i64 h2
      omega
    · have hck := hc k (by omega)
      obtain ⟨b, o, spot⟩ := x
      have h0 := hc 0 (by omega)
      have hspot : spot = none := by simpa [Addr.add] using World.cell?_spot h0
      subst hspot
      have e2 : (⟨b, o, none⟩ : Addr).add k = ⟨b, o + k, none⟩ := by
        unfold Addr.add
        by_cases h0 : k = 0 <;> simp [h0]
      rw [e2] at hck
      refine ⟨b, o, rfl, World.block_lt_of_cell? w _ hck, ?_⟩
      rw [hck]
      simp [List.getD_eq_getElem?_getD, hk]
end Go.Proofs.YthiienhlklommaaDoor.HeadG
