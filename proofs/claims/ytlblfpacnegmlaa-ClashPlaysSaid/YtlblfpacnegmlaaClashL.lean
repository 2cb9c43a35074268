import Derived.Test.YtlblfpacnegmlaaSq
import Derived.Test.YtlblfpacnegmlaaClashR
set_option maxHeartbeats 16000000
set_option linter.unusedVariables false
set_option linter.unusedSimpArgs false
set_option maxRecDepth 100000
namespace Go.Proofs.Ytlblfpacnegmlaa.ClashL
open Go.RowKit
open Byte KeysM TreeM ViewM ClashM Lst TreeR ViewR ClashR
open Tx hiding wpList_append_any
open Own (keeps)
def ClashOk : Prop := ∀ (A B C : Option Addr) (n c m c2 q c3 : Nat) (R : List ByteArray) (G : List (ByteArray × ByteArray)) (W : List Pr) (w : World),Sl txE w A n R → Sl rgE w B m G → Sl prE w C q W → n ≤ 100000 → m ≤ 100000 → q ≤ 100000 → (∀ t ∈ R,t.size ≤ 140737488351232) →
 Calls Try.prog 7 #[.slice A n c,.slice B m c2,.slice C q c3] w fun e w' => e = .returned (.bool (clashM R G W)) ∧ Below w.heap.size w w'
def FixOk : Prop := ∀ w : World,Calls Try.prog 6 #[] w fun e w' => e = .returned (.bool true) ∧ Below w.heap.size w w'
theorem below_lit {w : World} (cs : Array Value) (T : TypeId) : Below w.heap.size w (w.alloc (.cells cs T)) := bW_
theorem fixed_calls (hC : ClashOk) : FixOk := by
 intro w
 have HC := hQ_ hC
 have x1 : clashM [⟨#[97]⟩] [] [⟨⟨#[97]⟩,⟨#[]⟩,false⟩] = true := by decide +kernel
 have x2 : clashM [] [(⟨#[97]⟩,⟨#[99]⟩)] [⟨⟨#[98]⟩,⟨#[]⟩,false⟩] = true := by decide +kernel
 have x3 : clashM [] [(⟨#[97]⟩,⟨#[99]⟩)] [⟨⟨#[99]⟩,⟨#[]⟩,false⟩] = false := by decide +kernel
 have X1 := hQ_ x1
 have X2 := hQ_ x2
 have X3 := hQ_ x3
 clear hC x1 x2 x3
 obtain ⟨W1,hW1⟩ : ∃ W1,((w.alloc (.cells #[.string ⟨#[97]⟩,.string ⟨#[99]⟩] 47)).alloc (.cells #[.string ⟨#[97]⟩] 9)).alloc (.cells #[.string ⟨#[97]⟩,.string ⟨#[]⟩,.bool false] 49) = W1 := ⟨_,rfl⟩
 have hB1 : Below w.heap.size w W1 := by rw [← hW1]; exact ((bW_).alloc (by simp) _).alloc (by simp; omega) _
 have hG1 : Sl rgE W1 (some ⟨w.heap.size,0,none⟩) 1 [(⟨#[97]⟩,⟨#[99]⟩)] := by
  rw [← hW1]
  exact ((Sl.new_ rgE w _ (⟨#[97]⟩,⟨#[99]⟩) _ rfl).below (below_lit _ _)).below (below_lit _ _)
 have hR1 : Sl txE W1 (some ⟨w.heap.size + 1,0,none⟩) 1 [⟨#[97]⟩] := by
  rw [← hW1]
  have := (Sl.new_ txE (w.alloc (.cells #[.string ⟨#[97]⟩,.string ⟨#[99]⟩] 47)) 9 ⟨#[97]⟩ #[.string ⟨#[97]⟩] rfl).below (below_lit #[.string ⟨#[97]⟩,.string ⟨#[]⟩,.bool false] 49)
  simpa using this
 have hP1 : Sl prE W1 (some ⟨w.heap.size + 1 + 1,0,none⟩) 1 [⟨⟨#[97]⟩,⟨#[]⟩,false⟩] := by
  rw [← hW1]
  have := Sl.new_ prE ((w.alloc (.cells #[.string ⟨#[97]⟩,.string ⟨#[99]⟩] 47)).alloc (.cells #[.string ⟨#[97]⟩] 9)) 49 ⟨⟨#[97]⟩,⟨#[]⟩,false⟩ #[.string ⟨#[97]⟩,.string ⟨#[]⟩,.bool false] rfl
  simpa using this
 have HW1 := hQ_ hW1
 have HB1 := hQ_ hB1
 have HG1 := hQ_ hG1
 have HR1 := hQ_ hR1
 have HP1 := hQ_ hP1
 clear hW1 hB1 hG1 hR1 hP1
 go_enter Try.func6,Try.ntmps6
 go_wp2_with fail
 rw [HW1.out]
 refine (HC.out _ _ _ 1 1 0 0 1 1 _ _ _ W1 HR1.out (Sl.nil_ _ _ _) HP1.out (by omega) (by omega) (by omega) (fun t ht => by rw [List.mem_singleton] at ht; rw [ht]; decide)).mono ?_
 rw [X1.out]
 rintro e w2 ⟨rfl,hb2⟩
 have HB2 := hQ_ ((keeps HB1.out hb2).alloc (keeps HB1.out hb2).size (.cells #[.string ⟨#[98]⟩,.string ⟨#[]⟩,.bool false] 49))
 have HG2 := hQ_ ((HG1.out.below hb2).below (below_lit #[.string ⟨#[98]⟩,.string ⟨#[]⟩,.bool false] 49))
 have HP2 := hQ_ (Sl.new_ prE w2 49 ⟨⟨#[98]⟩,⟨#[]⟩,false⟩ #[.string ⟨#[98]⟩,.string ⟨#[]⟩,.bool false] rfl)
 clear hb2
 go_wp2_with fail
 refine (HC.out _ _ _ 0 0 1 1 1 1 _ _ _ _ (Sl.nil_ _ _ _) HG2.out HP2.out (by omega) (by omega) (by omega) (fun t ht => by cases ht)).mono ?_
 rw [X2.out]
 rintro e w3 ⟨rfl,hb3⟩
 have HB3 := hQ_ ((keeps HB2.out hb3).alloc (keeps HB2.out hb3).size (.cells #[.string ⟨#[99]⟩,.string ⟨#[]⟩,.bool false] 49))
 have HG3 := hQ_ ((HG2.out.below hb3).below (below_lit #[.string ⟨#[99]⟩,.string ⟨#[]⟩,.bool false] 49))
 have HP3 := hQ_ (Sl.new_ prE w3 49 ⟨⟨#[99]⟩,⟨#[]⟩,false⟩ #[.string ⟨#[99]⟩,.string ⟨#[]⟩,.bool false] rfl)
 clear hb3
 go_wp2_with fail
 refine (HC.out _ _ _ 0 0 1 1 1 1 _ _ _ _ (Sl.nil_ _ _ _) HG3.out HP3.out (by omega) (by omega) (by omega) (fun t ht => by cases ht)).mono ?_
 rw [X3.out]
 rintro e w4 ⟨rfl,hb4⟩
 have HB4 := hQ_ (keeps HB3.out hb4)
 clear hb4
 go_wp2_with fail
 go_ret
 exact ⟨rfl,HB4.out⟩
end Go.Proofs.Ytlblfpacnegmlaa.ClashL