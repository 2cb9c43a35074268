/- What the laws of layer 11 ask of the project's pick, proved of it: Write, Erase, Oldest, AtOnce, Blank, Lead. -/
import Derived.Test.YthpgpomkilnlgaaPickW
import Derived.Test.YthpgpomkilnlgaaHo
import Derived.Laws.EntriesVeiled
import Derived.OneCell
namespace Go.Proofs.Ythpgpomkilnlgaa.PickG
set_option linter.unusedVariables false
set_option linter.unusedSimpArgs false
open Go.RowKit
open Go.Proofs.Ythpgpomkilnlgaa.Byte Go.Proofs.Ythpgpomkilnlgaa.PickM Go.Proofs.Ythpgpomkilnlgaa.PickN Go.Proofs.Ythpgpomkilnlgaa.PickU Go.Proofs.Ythpgpomkilnlgaa.Own Go.Proofs.Ythpgpomkilnlgaa.Rw Go.Proofs.Ythpgpomkilnlgaa.Lst Go.Proofs.Ythpgpomkilnlgaa.PickR Go.Proofs.Ythpgpomkilnlgaa.PickRe Go.Proofs.Ythpgpomkilnlgaa.PickRq Go.Proofs.Ythpgpomkilnlgaa.PickL Go.Proofs.Ythpgpomkilnlgaa.PickV Go.Proofs.Ythpgpomkilnlgaa.PickW Go.Proofs.Ythpgpomkilnlgaa.Ho

section
variable {F G : FuncId} {ca cb : Array Value} {p : Inf → Bool} {lt : Inf → Inf → Bool} {A : Option Addr} {n c : Nat} {L : List Inf} {w : World}
theorem choose_is {B : Bst} (hB : bestL p lt L = B) (hl : Sl infE w A n L) (hn : n ≤ 100000) (hF : ∀ (args : Array Value) (w : World), (callFunc F args).run Try.prog w = .ok (.enter F args) w) (hG : ∀ (args : Array Value) (w : World), (callFunc G args).run Try.prog w = .ok (.enter G args) w) (hT : Tells L F ca w p) (hT2 : Tells2 G cb w lt) :
    Calls Try.prog 20 #[.slice A n c, .func (.func F) #[] ca, .func (.func G) #[] cb] w fun e w' => e = .returned (.tuple #[.int .i64 (ansN B), .bool B.isSome]) ∧ Below w.heap.size w w' := by
  subst hB
  exact choose_calls F G ca cb p lt A n c L w hl hn hF hG hT hT2
theorem choose_no (hB : bestL p lt L = none) (hl : Sl infE w A n L) (hn : n ≤ 100000) (hF : ∀ (args : Array Value) (w : World), (callFunc F args).run Try.prog w = .ok (.enter F args) w) (hG : ∀ (args : Array Value) (w : World), (callFunc G args).run Try.prog w = .ok (.enter G args) w) (hT : Tells L F ca w p) (hT2 : Tells2 G cb w lt) :
    Calls Try.prog 20 #[.slice A n c, .func (.func F) #[] ca, .func (.func G) #[] cb] w fun e w' => e = .returned (.tuple #[.int .i64 0, .bool false]) ∧ Below w.heap.size w w' := choose_is hB hl hn hF hG hT hT2
theorem choose_yes {i : Nat} {x : Inf} (hB : bestL p lt L = some (i, x)) (hl : Sl infE w A n L) (hn : n ≤ 100000) (hF : ∀ (args : Array Value) (w : World), (callFunc F args).run Try.prog w = .ok (.enter F args) w) (hG : ∀ (args : Array Value) (w : World), (callFunc G args).run Try.prog w = .ok (.enter G args) w) (hT : Tells L F ca w p) (hT2 : Tells2 G cb w lt) :
    Calls Try.prog 20 #[.slice A n c, .func (.func F) #[] ca, .func (.func G) #[] cb] w fun e w' => e = .returned (.tuple #[.int .i64 i, .bool true]) ∧ Below w.heap.size w w' := choose_is hB hl hn hF hG hT hT2
end
set_option maxHeartbeats 1000000 in
theorem write_ok : PickOk 8 writeL := by
  intro A n c L w hl hnc hc hn hf
  have HL := Lib.hid hl
  obtain ⟨B, hB⟩ : ∃ B, writeL L = B := ⟨_, rfl⟩
  rw [hB]
  have HB := Lib.hid hB
  clear hB hl hf hnc hc
  go_enter Try.func8, Try.ntmps8
  go_wp2_with (go_at_call 20; refine (choose_is HB.out HL.out hn ent_writable ent_lessWorn (tells_of writable_calls) (tells2_of worn_calls)).mono ?_; rintro e w2 ⟨rfl, hb2⟩; have HB2 := Lib.hid hb2; clear hb2)
  go_ret2
  exact ⟨rfl, HB2.out⟩
set_option maxHeartbeats 1000000 in
theorem oldest_ok : PickOk 11 oldL := by
  intro A n c L w hl hnc hc hn hf
  have HL := Lib.hid hl
  obtain ⟨B, hB⟩ : ∃ B, oldL L = B := ⟨_, rfl⟩
  rw [hB]
  have HB := Lib.hid hB
  clear hB hl hf hnc hc
  go_enter Try.func11, Try.ntmps11
  go_wp2_with (go_at_call 20; refine (choose_is HB.out HL.out hn ent_erasable ent_older (tells_of erasable_calls) (tells2_of older_calls)).mono ?_; rintro e w2 ⟨rfl, hb2⟩; have HB2 := Lib.hid hb2; clear hb2)
  go_ret2
  exact ⟨rfl, HB2.out⟩
set_option maxHeartbeats 1000000 in
theorem atonce_ok : PickOk 10 onceL := by
  intro A n c L w hl hnc hc hn hf
  have HL := Lib.hid hl
  obtain ⟨B, hB⟩ : ∃ B, onceL L = B := ⟨_, rfl⟩
  rw [hB]
  have HB := Lib.hid hB
  clear hB hl hf hnc hc
  go_enter Try.func10, Try.ntmps10
  go_wp2_with (go_at_call 20; refine (choose_is HB.out HL.out hn ent_AtOnce1 ent_lessWorn (tells_of idle_calls) (tells2_of worn_calls)).mono ?_; rintro e w2 ⟨rfl, hb2⟩; have HB2 := Lib.hid hb2; clear hb2)
  go_ret2
  exact ⟨rfl, HB2.out⟩
set_option maxHeartbeats 2000000 in
theorem least_calls (F : FuncId) (ca : Array Value) (p : Inf → Bool) (A : Option Addr) (n c : Nat) (L : List Inf) (w : World) (hl : Sl infE w A n L) (hnc : n ≤ c) (hn : n ≤ 100000) (hF : ∀ (args : Array Value) (w : World), (callFunc F args).run Try.prog w = .ok (.enter F args) w) (hT : Tells L F ca w p) :
    Calls Try.prog 23 #[.slice A n c, .func (.func F) #[] ca] w fun e w' => e = .returned (.int .i64 (leastB (bestL p worn L))) ∧ Below w.heap.size w w' := by
  have HL := Lib.hid hl
  have HT := Lib.hid hT
  have HF := Lib.hid hF
  clear hT hF
  cases hB : bestL p worn L with
  | none =>
    have HB := Lib.hid hB
    rw [show leastB (none : Bst) = 0 from rfl]
    clear hB hl
    go_enter Try.func23, Try.ntmps23
    go_wp2_with (go_at_call 20; refine (choose_no HB.out HL.out hn HF.out ent_lessWorn HT.out (tells2_of worn_calls)).mono ?_; rintro e w2 ⟨rfl, hb2⟩; have HB2 := Lib.hid hb2; clear hb2)
    go_ret
    exact ⟨rfl, HB2.out⟩
  | some q =>
    obtain ⟨i, x⟩ := q
    have HB := Lib.hid hB
    have hx : i < L.length ∧ L[i]? = some x := by
      rw [← List.take_length (l := L)] at hB
      obtain ⟨h1, h2, _⟩ := best_in _ (Nat.le_refl _) hB
      exact ⟨h1, h2⟩
    rw [show leastB (some (i, x) : Bst) = x.wear from rfl]
    obtain ⟨hi, hx⟩ := hx
    rw [hl.1] at hi
    have hii : (i : Int) < (n : Int) := by omega
    obtain ⟨y, g, o, hy, rfl, hg, hcl⟩ := hl.get i hi
    obtain rfl : y = x := by rw [hx] at hy; injection hy with hy; exact hy.symm
    have HX := Lib.hid hx
    clear hB hl hx hy hcl
    go_enter Try.func23, Try.ntmps23
    go_wp2_with (go_at_call 20; refine (choose_yes HB.out HL.out hn HF.out ent_lessWorn HT.out (tells2_of worn_calls)).mono ?_; rintro e w2 ⟨rfl, hb2⟩; have HB2 := Lib.hid hb2; obtain ⟨z0, z1, z2, z3, z4, z5⟩ := inf_cells ((HL.out.below hb2).at_ i y HX.out).2; clear hb2)
    go_ret
    exact ⟨rfl, HB2.out⟩
theorem near_tells {L : List Inf} {w : World} {bl : Nat} (hf : Fit L) (hbl : bl < w.heap.size) (hc : w.cell? ⟨bl, 0, none⟩ = some (.int .i64 (leastL L))) : Tells L 26 #[.pointer (some ⟨bl, 0, none⟩)] w (pass1 (leastL L)) := by
  intro x w' hx hb
  have h1 := hf x hx
  have h2 := least_fit hf
  exact near_calls bl (leastL L) x w' (Nat.lt_of_lt_of_le hbl hb.size) ((hb.cell (p := ⟨bl, 0, none⟩) hbl).trans hc) h1.1 h1.2 h2.1 h2.2 (least_le hx)
theorem low_tells {L : List Inf} {w : World} {bl : Nat} {lowest : Int} (hbl : bl < w.heap.size) (hc : w.cell? ⟨bl, 0, none⟩ = some (.int .i64 lowest)) : Tells L 29 #[.pointer (some ⟨bl, 0, none⟩)] w (lowP lowest) := by
  intro x w' hx hb
  exact low_calls bl lowest x w' (Nat.lt_of_lt_of_le hbl hb.size) ((hb.cell (p := ⟨bl, 0, none⟩) hbl).trans hc)
set_option maxHeartbeats 2000000 in
theorem free_calls (bf : Nat) (ca : Array Value) (least : Int) (x : Inf) (w : World) (hbf : bf < w.heap.size) (hc : w.cell? ⟨bf, 0, none⟩ = some (.func (.func 26) #[] ca)) (hT : ∀ w', Below w.heap.size w w' → Calls Try.prog 26 (#[infV x] ++ ca) w' fun e w2 => e = .returned (.bool (pass1 least x)) ∧ Below w'.heap.size w' w2) :
    Calls Try.prog 27 #[infV x, .pointer (some ⟨bf, 0, none⟩)] w fun e w' => e = .returned (.bool (pass0 least x)) ∧ Below w.heap.size w w' := by
  have hbx : Below w.heap.size w (w.alloc (.cells #[.int .i64 x.cls, .bool x.opn, .int .i64 x.wear, .int .u64 x.age, .int .i64 x.need, .bool x.held] 29)) := (Below.refl _ _).alloc (Nat.le_refl _) _
  have hbk := Blk.new_ w #[.int .i64 x.cls, .bool x.opn, .int .i64 x.wear, .int .u64 x.age, .int .i64 x.need, .bool x.held] 29
  have HBX := Lib.hid hbx
  have HBK := Lib.hid hbk
  obtain ⟨s0, s1, s2, s3, s4, s5⟩ := blk6 hbk
  have HT := Lib.hid hT
  have HE := Lib.hid ent_Erase1
  clear hbx hbk hT
  cases hm : pass1 least x with
  | false =>
    have HM := Lib.hid hm
    have e : pass0 least x = false := by unfold pass1 at hm; unfold pass0; rw [hm]; rfl
    have HT2 : Hid (∀ w', Below w.heap.size w w' → Calls Try.prog 26 (#[infV x] ++ ca) w' fun e w2 => e = .returned (.bool false) ∧ Below w'.heap.size w' w2) := Lib.hid (by rw [← hm]; exact HT.out)
    rw [e]
    unfold infV
    clear e hm
    have ent := ent_Erase1
    go_enter Try.func27, Try.ntmps27
    go_wp2_with (refine (HT2.out _ HBX.out).mono ?_; rintro e w3 ⟨rfl, hb3⟩; have HB3 := Lib.hid (keeps HBX.out hb3); clear hb3)
    go_ret
    exact ⟨rfl, HB3.out⟩
  | true =>
    have HM := Lib.hid hm
    have e : pass0 least x = needless x := by unfold pass1 at hm; unfold pass0; rw [hm]; rfl
    have HT2 : Hid (∀ w', Below w.heap.size w w' → Calls Try.prog 26 (#[infV x] ++ ca) w' fun e w2 => e = .returned (.bool true) ∧ Below w'.heap.size w' w2) := Lib.hid (by rw [← hm]; exact HT.out)
    rw [e]
    unfold infV
    clear e hm
    have ent := ent_Erase1
    go_enter Try.func27, Try.ntmps27
    go_wp2_with (first
      | (go_at_call 28; refine (unneeded_calls x _).mono ?_; rintro e w4 ⟨rfl, hb4⟩; have HB4 := Lib.hid (keeps HB3.out hb4); clear hb4)
      | (refine (HT2.out _ HBX.out).mono ?_; rintro e w3 ⟨rfl, hb3⟩; have HB3 := Lib.hid (keeps HBX.out hb3); obtain ⟨z0, z1, z2, z3, z4, z5⟩ := blk6 (HBK.out.below hb3); clear hb3))
    go_ret
    exact ⟨rfl, HB4.out⟩
theorem free_tells {L : List Inf} {w : World} {bl bf : Nat} (hf : Fit L) (hbl : bl < w.heap.size) (hc : w.cell? ⟨bl, 0, none⟩ = some (.int .i64 (leastL L))) (hbf : bf < w.heap.size) (hcf : w.cell? ⟨bf, 0, none⟩ = some (.func (.func 26) #[] #[.pointer (some ⟨bl, 0, none⟩)])) : Tells L 27 #[.pointer (some ⟨bf, 0, none⟩)] w (pass0 (leastL L)) := by
  intro x w' hx hb
  exact free_calls bf _ (leastL L) x w' (Nat.lt_of_lt_of_le hbf hb.size) ((hb.cell (p := ⟨bf, 0, none⟩) hbf).trans hcf) (fun w2 hb2 => near_tells hf hbl hc x w2 hx (keeps hb hb2))
end Go.Proofs.Ythpgpomkilnlgaa.PickG
