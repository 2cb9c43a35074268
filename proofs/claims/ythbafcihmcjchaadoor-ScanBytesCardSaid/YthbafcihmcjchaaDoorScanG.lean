/- What the row's condition on the package's variables 'nowhere' and 'example' gives the walk. -/
import Derived.Test.YthbafcihmcjchaaDoorRows
import Derived.Test.YthbafcihmcjchaaDoorScanB
import Derived.OpenShut
import Derived.LaidMore
import Derived.LaidHandle
import Derived.MakeChecks
import Derived.Stop.Joined
namespace Go.Proofs.YthbafcihmcjchaaDoor.ScanG
open Go.ChangeShapes Go.WideShapes Go.RowKit

theorem gNo : Tryd.prog.globalNamed "flint/place.nowhere" = some 1 := by kernel_rfl
theorem tNo : (Tryd.prog.globals[1]?).map (·.type) = some 98 := by kernel_rfl
theorem gEx : Tryd.prog.globalNamed "flint/flintlaw08.example" = some 0 := by kernel_rfl
theorem tEx : (Tryd.prog.globals[0]?).map (·.type) = some 23 := by kernel_rfl
theorem c1 : Tryd.prog.cellsOf 5 = 1 := by kernel_rfl
theorem cInt : Tryd.prog.cellsOf 3 = 1 := by kernel_rfl
theorem of_laid {W : World} (h : laidMetH Tryd.prog [("flint/place.nowhere", Rows.laid_flint_place_nowhere), ("flint/flintlaw08.example", Rows.laid_flint_flintlaw08_example)] W) : ScanB.Example W ∧ PlaceH.Nowhere W := by
  rw [MakeChecks.laidMetH_plain _ _ _ (by kernel_rfl)] at h
  obtain ⟨ps, ⟨g0, t0, cs0, f0, p0, q0, hg0, ht0, hv0, hd0, ⟨g1, t1, cs1, f1, p1, q1, hg1, ht1, hv1, hd1, _, _⟩, _⟩, _, _⟩ := h
  obtain rfl := Option.some.inj (gNo.symm.trans hg0)
  obtain rfl := Option.some.inj (tNo.symm.trans ht0)
  obtain rfl := Option.some.inj (gEx.symm.trans hg1)
  obtain rfl := Option.some.inj (tEx.symm.trans ht1)
  constructor
  · obtain ⟨y0, y1, n, hx1, hl, e0, e1⟩ := trod_struct2 Tryd.underlying23 hd1
    simp only [Prod.mk.injEq] at hx1
    have one : ∀ (o : Nat) (y : DataW Unit × List MemPlace) (z : Int), DataW.trod (fun _ => ()) Tryd.prog W 0 (fun _ => true) false n 3 ((cs1.toList.drop o).take (Tryd.prog.cellsOf 3)) = some y → y.1 = .lit (.int .i64 z) → W.cell? ⟨0, o, none⟩ = some (.int .i64 z) := by
      intro o y z hy hz
      obtain ⟨k, a1, a2, _⟩ := DataW.trod_int Tryd.underlying3 hy
      rw [cInt] at a1
      have hcell : cs1.toList[o]? = some (.int .i64 k) := by
        have := congrArg (fun l => l[0]?) a1
        simpa [List.getElem?_take, List.getElem?_drop] using this
      have hk : k = z := by
        rw [a2] at hz
        simpa using hz
      subst hk
      have := World.var?_cell hg1 hv1 o
      rw [this]
      simpa using hcell
    have hm := hx1.1
    simp only [Rows.laid_flint_flintlaw08_example, DataW.agg.injEq, List.cons.injEq, and_true] at hm
    have k0 := one 0 y0 6 e0 hm.1.symm
    exact ⟨World.block_lt_of_cell? W ⟨0, 0, none⟩ k0, k0, one 1 y1 512 e1 hm.2.symm⟩
  · obtain ⟨xs, m1, rfl, hx1, hlen, hn3, hel⟩ := DataW.trod_array Tryd.underlying98 hd0
    simp only [Prod.mk.injEq] at hx1
    have key : ∀ i, i < 3 → W.cell? ⟨1, i, none⟩ = some (.int .u8 255) := by
      intro i hi
      have hi' : i < xs.length := by omega
      have h0 := hel i hi
      rw [List.getElem?_eq_getElem hi'] at h0
      obtain ⟨k, e1, e2, _⟩ := DataW.trod_int Tryd.underlying5 h0
      rw [c1, Nat.mul_one] at e1
      have hcell : cs0.toList[i]? = some (.int .u8 k) := by
        have := congrArg (fun l => l[0]?) e1
        simpa [List.getElem?_take, List.getElem?_drop] using this
      have hk : k = 255 := by
        have hm := congrArg (fun d => match d with | DataW.agg l => l[i]? | _ => none) hx1.1
        simp only [Rows.laid_flint_place_nowhere, List.getElem?_map, List.getElem?_eq_getElem hi', e2, Option.map_some] at hm
        have : i = 0 ∨ i = 1 ∨ i = 2 := by omega
        rcases this with rfl | rfl | rfl <;> simpa using hm.symm
      subst hk
      have := World.var?_cell hg0 hv0 i
      rw [this]
      simpa using hcell
    exact ⟨World.block_lt_of_cell? W ⟨1, 0, none⟩ (key 0 (by omega)), key 0 (by omega), key 1 (by omega), key 2 (by omega)⟩
end Go.Proofs.YthbafcihmcjchaaDoor.ScanG
