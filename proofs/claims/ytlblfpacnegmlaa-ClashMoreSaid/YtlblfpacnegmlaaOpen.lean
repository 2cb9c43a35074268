/- How an argument that is an array or a struct of plain cells is opened: its cells in their order, each with its form and bounds, out of the outer form alone. -/
import Derived.ChangeShapes
import Derived.WideShapes
import Derived.OpenShut
import Derived.Below
namespace Go.Proofs.Ytlblfpacnegmlaa.Open
open Go.RowKit Go.WideShapes Go.ChangeShapes

def CellsOk (P : Program) (w : World) (r : Reach) (b : Nat) : List TypeId → List Value → Prop
  | [], [] => True
  | t :: ts, v :: vs => Cell.okWide P w r b t v ∧ CellsOk P w r b ts vs
  | _, _ => False
section
variable {P : Program} {w : World} {r : Reach} {b : Nat}
theorem CellsOk.nil_ {cs : List Value} (h : CellsOk P w r b [] cs) : cs = [] := by
  cases cs with
  | nil => rfl
  | cons _ _ => exact h.elim
theorem CellsOk.cons_ {t : TypeId} {ts : List TypeId} {cs : List Value} (h : CellsOk P w r b (t :: ts) cs) : ∃ v vs, cs = v :: vs ∧ Cell.okWide P w r b t v ∧ CellsOk P w r b ts vs := by
  cases cs with
  | nil => exact h.elim
  | cons v vs => exact ⟨v, vs, rfl, h.1, h.2⟩
theorem CellsOk.of {ts : List TypeId} : ∀ {cs : List Value}, cs.length = ts.length → (∀ (i : Nat) v u, cs[i]? = some v → ts[i]? = some u → Cell.okWide P w r b u v) → CellsOk P w r b ts cs := by
  induction ts with
  | nil =>
    intro cs hl _
    cases cs with
    | nil => trivial
    | cons _ _ => simp at hl
  | cons t ts ih =>
    intro cs hl h
    cases cs with
    | nil => simp at hl
    | cons v vs => exact ⟨h 0 v t rfl rfl, ih (by simpa using hl) fun i v' u h1 h2 => h (i + 1) v' u (by simpa using h1) (by simpa using h2)⟩
theorem open_cells {t : TypeId} {ts : List TypeId} {v : Value} (hagg : (match P.underlying t with | some (.struct _) | some (.array _ _) => true | _ => false) = true) (hts : P.cellTypes P.depth t = some ts) (hn : P.cellsOf t = ts.length)
    (h : Value.okWide P w r b t v) : ∃ cs : List Value, v = .agg cs.toArray ∧ CellsOk P w r b ts cs := by
  have key : (∃ cs, v = .agg cs ∧ cs.size = P.cellsOf t ∧ Row.okWide P w r b t cs) := by
    unfold Value.okWide at h
    split at h <;> simp_all
  obtain ⟨cs, rfl, hs, ts', h1, _, h2⟩ := key
  rw [hts] at h1
  injection h1 with h1
  subst h1
  obtain ⟨l⟩ := cs
  refine ⟨l, rfl, CellsOk.of (by rw [← hn, ← hs]; rfl) fun i v u hv hu => ?_⟩
  obtain ⟨u', hu', hok⟩ := h2 i v (by simpa using hv)
  have hi : i < ts.length := by
    rcases Nat.lt_or_ge i ts.length with h | h
    · exact h
    · rw [List.getElem?_eq_none h] at hu; cases hu
  rw [Nat.mod_eq_of_lt hi, hu] at hu'
  injection hu' with hu'
  subst hu'
  exact hok
theorem cell_int {t : TypeId} {k : IntKind} {v : Value} (ht : P.underlying t = some (.int k)) (h : Cell.okWide P w r b t v) : ∃ n, v = .int k n ∧ (Lit.int k n).wf = true := by
  unfold Cell.okWide at h
  rw [ht] at h
  cases v <;> simp [Cell.ok, ht] at h
  rename_i k' n
  obtain ⟨rfl, h1⟩ := h
  refine ⟨n, rfl, ?_⟩
  simpa [Lit.wf, IntKind.has] using h1
theorem cell_slice {t e : TypeId} {v : Value} (ht : P.underlying t = some (.slice e)) (h : Cell.okWide P w r b t v) : ∃ a len cap, v = .slice a len cap := by
  simp only [Cell.okWide, ht] at h
  cases v <;> simp_all [Cell.ok]
theorem cell_bool {t : TypeId} {v : Value} (ht : P.underlying t = some .bool) (h : Cell.okWide P w r b t v) : ∃ x, v = .bool x := by
  unfold Cell.okWide at h
  rw [ht] at h
  cases v <;> simp [Cell.ok, ht] at h
  exact ⟨_, rfl⟩
end
end Go.Proofs.Ytlblfpacnegmlaa.Open
