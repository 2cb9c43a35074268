import Derived.Test.YtogdjbhjgbnicaaGreatDoorKeysR
import Derived.Test.YtogdjbhjgbnicaaGreatDoorStill
set_option linter.unusedVariables false
set_option linter.unusedSimpArgs false
namespace Go.Proofs.YtogdjbhjgbnicaaGreatDoor.KeysS
open Go.RowKit
open Byte PackM PackV ConvS KeysM KeysR Still
theorem results_tmp4 {fn : Func} {t u v x : Tmp} (h : fn.results = #[.tmp t,.tmp u,.tmp v,.tmp x]) (tmps : Array Value) (P : Program) (w : World) :
 (results fn tmps).run P w = .ok (.tuple #[tmps.getD t undef,tmps.getD u undef,tmps.getD v undef,tmps.getD x undef]) w := by
 simp [results,h,go_sem]
def SpE (s : Sp) (w : World) (e : Ending) (w' : World) : Prop := e = .returned (.tuple #[.int .u8 s.letter,.int .u32 s.ino,.string s.name,.int .i64 s.n]) ∧ Below w.heap.size w w'
theorem conv_key (w : World) (key : ByteArray) : ∃ cap w',(convert 9 39 (.string key)).run Tryz.prog w = .ok (.slice (some ⟨w.heap.size,0,none⟩) key.size cap) w' ∧ Fresh w' w.heap.size w.heap.size key.size cap (txt key) ∧ Below w.heap.size w w' := by
 have := conv_fresh (P := Tryz.prog) w 9 39 5 (txt key) key.size (txt_len key) (txt_bd key) Tryz.underlying9 Tryz.underlying39 Tryz.underlying5
 rw [str_txt] at this
 exact this
theorem key_at (key : ByteArray) (k : Nat) (h : k < key.size) : (txt key).getD k 0 = (((key[k]'h).toNat : Nat) : Int) := by
 have h' : k < key.data.size := h
 unfold txt
 rw [List.getD_eq_getElem?_getD,List.getElem?_map,List.getElem?_eq_getElem (by simpa using h')]
 simp
 rfl
end Go.Proofs.YtogdjbhjgbnicaaGreatDoor.KeysS