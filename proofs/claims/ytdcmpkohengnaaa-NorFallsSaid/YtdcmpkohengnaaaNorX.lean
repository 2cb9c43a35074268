/- The contracts of the document's device: Program, Erase. -/
import Derived.Test.YtdcmpkohengnaaaNorV
namespace Go.Proofs.Ytdcmpkohengnaaa.NorX
set_option linter.unusedVariables false
set_option linter.unusedSimpArgs false
open Go.RowKit
open Go.Proofs.Ytdcmpkohengnaaa.Byte Go.Proofs.Ytdcmpkohengnaaa.NorD Go.Proofs.Ytdcmpkohengnaaa.NorM Go.Proofs.Ytdcmpkohengnaaa.NorS Go.Proofs.Ytdcmpkohengnaaa.NorB Go.Proofs.Ytdcmpkohengnaaa.NorP Go.Proofs.Ytdcmpkohengnaaa.NorR Go.Proofs.Ytdcmpkohengnaaa.NorU Go.Proofs.Ytdcmpkohengnaaa.NorV Go.Proofs.Ytdcmpkohengnaaa.PlaceM Go.Proofs.Ytdcmpkohengnaaa.PlaceV

section
variable {lo n z K : Nat} {s : St}
theorem refAct_calls (w : World) (v : Value) (h : Ref w lo n z K s v) (i : Nat) (hi : i < n) (off len cb : Nat) (A : Option Addr) (bs : List Int) (down : Bool) (hb : Bs w A len bs) (hlen : len ≤ 100000) (hfit : off + len ≤ z) (hlo : lo ≤ w.heap.size) (hK : K + 2 ≤ 1000000) (hon : s.on = true) :
    Calls Try.prog 49 #[v, .int .i64 i, .int .i64 off, .slice A len cb, .bool down] w
      fun e w' => ∃ v', e = .returned (.tuple #[.int .i64 (s.act i down off bs).1, v']) ∧ Ref w' lo n z (K + 1) (s.act i down off bs).2 v' ∧ Below w.heap.size w w' := by
  obtain ⟨db, dc, wb, wc, bb, bc, cuts, left, whole, mask, L, LC, rfl, hP, hr⟩ := h
  rcases hP.cut with ⟨hc, rfl⟩ | ⟨hc, rfl⟩
  · have e1 : s.act i down off bs = (0, { s with data := s.data.set i (seg down none off bs (s.row i)), cut := none, acts := s.acts + 1 }) := by unfold St.act; rw [hc]
    rw [e1]
    exact refAct_none w db dc wb wc bb bc left whole mask L LC hP hr i hi off len cb A bs down hb hlen hfit hlo (by omega)
  · have hb3 := hP.fits.cb _ _ _ hc
    by_cases hl : left = 0
    · subst hl
      have e1 : s.act i down off bs = (7, { s with data := s.data.set i (seg down (some (whole, mask)) off bs (s.row i)), on := false, cut := none, acts := s.acts + 1, offs := s.offs + 1 }) := by unfold St.act; rw [hc]; exact if_pos rfl
      rw [e1]
      exact refAct_cut w db dc wb wc bb bc 0 whole mask L LC hP hr i hi off len cb A bs down hb hlen hfit hlo hK hon
    · have e1 : s.act i down off bs = (0, { s with data := s.data.set i (seg down none off bs (s.row i)), cut := some (left - 1, whole, mask), acts := s.acts + 1 }) := by unfold St.act; rw [hc]; exact if_neg hl
      rw [e1]
      exact refAct_more w db dc wb wc bb bc left whole mask L LC hP hr i hi off len cb A bs down hb hlen hfit hlo (by omega) (by omega)
end
end Go.Proofs.Ytdcmpkohengnaaa.NorX
