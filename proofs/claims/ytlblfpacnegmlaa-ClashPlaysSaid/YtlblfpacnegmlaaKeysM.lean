import Derived.Test.YtlblfpacnegmlaaByteS
import GoSem.Op.String
set_option linter.unusedVariables false
set_option linter.unusedSimpArgs false
namespace Go.Proofs.Ytlblfpacnegmlaa.KeysM
open Byte
theorem txt_append (s t : ByteArray) : txt (s ++ t) = txt s ++ txt t := by
 unfold txt
 rw [ByteArray.data_append]
 simp
theorem txt_inj {s t : ByteArray} (h : txt s = txt t) : s = t := by
 rw [← str_txt s,← str_txt t,h]
def lt : List Int → List Int → Bool
 | _,[] => false
 | [],_ :: _ => true
 | a :: x,b :: y => decide (a < b) || (decide (a = b) && lt x y)
theorem less_lt (s t : List UInt8) : Op.bytesLess s t = lt (s.map fun b => (b.toNat : Int)) (t.map fun b => (b.toNat : Int)) := by
 induction s generalizing t with
 | nil => cases t <;> rfl
 | cons a x ih =>
   cases t with
   | nil => rfl
   | cons b y =>
     simp only [Op.bytesLess,List.map_cons,lt,ih]
     congr 1
     ·rw [Bool.eq_iff_iff]
      simp [UInt8.lt_iff_toNat_lt]
     ·congr 1
      rw [Bool.eq_iff_iff,beq_iff_eq,decide_eq_true_eq]
      exact ⟨fun h => by rw [h],fun h => UInt8.toNat_inj.1 (by omega)⟩
end Go.Proofs.Ytlblfpacnegmlaa.KeysM