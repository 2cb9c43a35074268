/- Items compared. -/
import Derived.Test.YthbafcihmcjchaaDoorRingC
import Derived.Laws.StructEq
namespace Go.Proofs.YthbafcihmcjchaaDoor.RingQ
set_option linter.unusedVariables false
set_option maxRecDepth 100000
set_option linter.unusedSimpArgs false
open Go.RowKit
open Go.Proofs.YthbafcihmcjchaaDoor.RingM Go.Proofs.YthbafcihmcjchaaDoor.RingC

theorem eq_complex (d : Nat) (a b c e : Nat) (w : World) (h1 : FloatKind.f64.format.order a c = some .eq) (h2 : FloatKind.f64.format.order b e = some .eq) : (Op.equalIn (d + 1) 45 (.complex .f64 a b) (.complex .f64 c e)).run Tryd.prog w = .ok true w := by
  simp [Op.equalIn, run_underlying Tryd.underlying45, Op.floatEq, h1, h2]
theorem eq_item (seq ver index count : Int) (re im re' im' : Nat) (gone : Bool) (key value : ByteArray) (w : World) (h1 : FloatKind.f64.format.order re re' = some .eq) (h2 : FloatKind.f64.format.order im im' = some .eq) :
    (Op.equalIn 10000 47 (.agg #[.int .u64 seq, .int .u64 ver, .int .i64 index, .int .i64 count, .complex .f64 re im, .bool gone, .string key, .string value]) (.agg #[.int .u64 seq, .int .u64 ver, .int .i64 index, .int .i64 count, .complex .f64 re' im', .bool gone, .string key, .string value])).run Tryd.prog w = .ok true w := by
  have hc := fun w => eq_complex 9998 re im re' im' w h1 h2
  rw [show (10000 : Nat) = 9999 + 1 from rfl, run_equalIn_struct w 9999 47 _ _ (by kernel_rfl) (by kernel_rfl)]
  have u1 := Tryd.underlying36
  have u2 := Tryd.underlying3
  have u3 := Tryd.underlying4
  have u4 := Tryd.underlying9
  have hfs : Tryd.prog.fieldsOf 47 = (match Tryd.prog.underlying 47 with | some (.struct fs) => fs | _ => #[]) := rfl
  rw [hfs, Tryd.underlying47]
  go_simp
end Go.Proofs.YthbafcihmcjchaaDoor.RingQ
