/- The walks of layer 6's chapter's example, and of the laws RecFrames, RecClass, RecPuts. -/
import Derived.Test.YthbafcihmcjchaaDoorRecY
import Derived.Lib.SlBytesConst
namespace Go.Proofs.YthbafcihmcjchaaDoor.RecF
set_option linter.unusedVariables false
set_option linter.unusedSimpArgs false
open Go.RowKit
open Go.Proofs.YthbafcihmcjchaaDoor.Byte Go.Proofs.YthbafcihmcjchaaDoor.PackM Go.Proofs.YthbafcihmcjchaaDoor.PackV Go.Proofs.YthbafcihmcjchaaDoor.RecM Go.Proofs.YthbafcihmcjchaaDoor.RecW Go.Proofs.YthbafcihmcjchaaDoor.RecP Go.Proofs.YthbafcihmcjchaaDoor.RecX

theorem slice_front {g n cap h : Nat} (w : World) (h0 : 0 < cap) (hc : h ≤ cap) : (Instr.sliceAt 24 (.slice (some ⟨g, 0, none⟩) n cap) none (some (.int .i64 h)) none).run Tryd.prog w = .ok (.slice (some ⟨g, 0, none⟩) h cap) w := by
  have hs : (sizeOf (Tryd.prog.elem 24)).run Tryd.prog w = .ok 1 w := by kernel_rfl
  have hT : Tryd.prog.underlying 24 = some (.slice (Tryd.prog.elem 24)) := by kernel_rfl
  have r := run_slice_h (P := Tryd.prog) (w := w) 24 (some ⟨g, 0, none⟩) n cap hT .i64 h (by omega) (by omega)
  rw [hs] at r
  rw [run_sliceAt_slice (h := hT), r]
  show Result.ok _ w = _
  unfold sliced
  have e : ¬ cap = 0 := by omega
  simp [Addr.add, e]
theorem conv_of {w : World} {A : Option Addr} {n c : Nat} {xs : List Int} {t : ByteArray} (h : Bs w A n xs) (ht : str xs = t) : (convert 24 9 (.slice A n c)).run Tryd.prog w = .ok (.string t) w := by
  subst ht
  exact h.str_ (P := Tryd.prog) 24 9 Tryd.underlying24 Tryd.underlying5 Tryd.underlying9
theorem frame_a : (frame 127 [97]).length = 9 ∧ str ((frame 127 [97]).take 3) = ⟨#[127, 0, 1]⟩ ∧ (frame 127 [97]).getD 7 0 = 97 ∧ (frame 127 [97]).getD 8 0 = 0 := by
  refine ⟨frame_len _ _, by rfl, by rfl, by rfl⟩
end Go.Proofs.YthbafcihmcjchaaDoor.RecF
