/- What the row's condition on the package's variable 'nowhere' gives the walk: three cells 255. -/
import Derived.Test.YthmcakaboebagaaDoorRows
import Derived.Test.YthmcakaboebagaaDoorPlaceH
import Derived.OpenShut
import Derived.LaidMore
import Derived.LaidHandle
import Derived.MakeChecks
import Derived.Stop.Joined
namespace Go.Proofs.YthmcakaboebagaaDoor.PlaceOh
open Go.ChangeShapes Go.WideShapes Go.RowKit

theorem gNo : Tryd.prog.globalNamed "flint/place.nowhere" = some 0 := by kernel_rfl
theorem tNo : (Tryd.prog.globals[0]?).map (·.type) = some 46 := by kernel_rfl
theorem c1 : Tryd.prog.cellsOf 5 = 1 := by kernel_rfl
theorem of_laid {W : World} (h : laidMetH Tryd.prog [("flint/place.nowhere", Rows.laid_flint_place_nowhere)] W) : PlaceH.Nowhere W := by
  rw [MakeChecks.laidMetH_plain _ _ _ (by kernel_rfl)] at h
  obtain ⟨ps, ⟨g0, t0, cs0, f0, p0, q0, hg0, ht0, hv0, hd0, _, _⟩, _, _⟩ := h
  obtain rfl := Option.some.inj (gNo.symm.trans hg0)
  obtain rfl := Option.some.inj (tNo.symm.trans ht0)
  obtain ⟨xs, m1, rfl, hx1, hlen, hn3, hel⟩ := DataW.trod_array Tryd.underlying46 hd0
  simp only [Prod.mk.injEq] at hx1
  have key : ∀ i, i < 3 → W.cell? ⟨0, i, none⟩ = some (.int .u8 255) := by
    intro i hi
    have hi' : i < xs.length := by omega
    have h0 := hel i hi
    rw [List.getElem?_eq_getElem hi'] at h0
    obtain ⟨k, e1, e2, _⟩ := DataW.trod_int Tryd.underlying5 h0
    rw [c1, Nat.mul_one] at e1
    have hcell : cs0.toList[i]? = some (.int .u8 k) := by
      have := congrArg (fun l => l[0]?) e1
      simpa [List.getElem?_take, List.getElem?_drop] using this
    have hk : k = 255 := by
      have hm := congrArg (fun d => match d with | DataW.agg l => l[i]? | _ => none) hx1.1
      simp only [Rows.laid_flint_place_nowhere, List.getElem?_map, List.getElem?_eq_getElem hi', e2, Option.map_some] at hm
      have : i = 0 ∨ i = 1 ∨ i = 2 := by omega
      rcases this with rfl | rfl | rfl <;> simpa using hm.symm
    subst hk
    have := World.var?_cell hg0 hv0 i
    rw [this]
    simpa using hcell
  refine ⟨?_, key 0 (by omega), key 1 (by omega), key 2 (by omega)⟩
  exact World.block_lt_of_cell? W ⟨0, 0, none⟩ (key 0 (by omega))
end Go.Proofs.YthmcakaboebagaaDoor.PlaceOh
