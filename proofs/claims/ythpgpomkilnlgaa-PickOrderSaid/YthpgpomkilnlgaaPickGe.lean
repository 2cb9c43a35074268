/- The contract of the project's Erase of layer 11. -/
import Derived.Test.YthpgpomkilnlgaaPickG
import Derived.Test.YthpgpomkilnlgaaHo
import Derived.Laws.EntriesVeiled
import Derived.OneCell
namespace Go.Proofs.Ythpgpomkilnlgaa.PickGe
set_option linter.unusedVariables false
set_option linter.unusedSimpArgs false
open Go.RowKit
open Go.Proofs.Ythpgpomkilnlgaa.PickG Go.Proofs.Ythpgpomkilnlgaa.Byte Go.Proofs.Ythpgpomkilnlgaa.PickM Go.Proofs.Ythpgpomkilnlgaa.PickN Go.Proofs.Ythpgpomkilnlgaa.PickU Go.Proofs.Ythpgpomkilnlgaa.Own Go.Proofs.Ythpgpomkilnlgaa.Rw Go.Proofs.Ythpgpomkilnlgaa.Lst Go.Proofs.Ythpgpomkilnlgaa.PickR Go.Proofs.Ythpgpomkilnlgaa.PickRe Go.Proofs.Ythpgpomkilnlgaa.PickRq Go.Proofs.Ythpgpomkilnlgaa.PickL Go.Proofs.Ythpgpomkilnlgaa.PickV Go.Proofs.Ythpgpomkilnlgaa.PickW Go.Proofs.Ythpgpomkilnlgaa.Ho

theorem heldP_least (L : List Inf) : leastB (bestL heldP worn L) = leastL L := rfl
theorem lowest_is (L : List Inf) : leastB (bestL may worn L) = lowestL L := rfl
theorem one_blk {w : World} {v : Value} {t : TypeId} : (w.alloc (.cells #[v] t)).cell? ⟨w.heap.size, 0, none⟩ = some v := (Blk.new_ w #[v] t).cell 0
theorem erase_or {a b c : Bst} : (∃ q, a = some q ∧ orB a (orB b c) = some q) ∨ (a = none ∧ ∃ q, b = some q ∧ orB a (orB b c) = some q) ∨ (a = none ∧ b = none ∧ orB a (orB b c) = c) := by
  cases a with
  | some q => exact .inl ⟨q, rfl, rfl⟩
  | none =>
    cases b with
    | some q => exact .inr (.inl ⟨rfl, q, rfl, rfl⟩)
    | none => exact .inr (.inr ⟨rfl, rfl, rfl⟩)
theorem least_is {F : FuncId} {ca : Array Value} {p : Inf → Bool} {A : Option Addr} {n c : Nat} {L : List Inf} {w : World} {v : Int} (hv : leastB (bestL p worn L) = v) (hl : Sl infE w A n L) (hnc : n ≤ c) (hn : n ≤ 100000) (hF : ∀ (args : Array Value) (w : World), (callFunc F args).run Try.prog w = .ok (.enter F args) w) (hT : Tells L F ca w p) :
    Calls Try.prog 23 #[.slice A n c, .func (.func F) #[] ca] w fun e w' => e = .returned (.int .i64 v) ∧ Below w.heap.size w w' := by
  subst hv
  exact least_calls F ca p A n c L w hl hnc hn hF hT
/-- The world in which the three functions are asked: where the least wears, and the first function, lie. -/
structure Est (w : World) (L : List Inf) (bl : Nat) (v : World) : Prop where
  below : Below w.heap.size w v
  size : bl + 2 < v.heap.size
  lo : w.heap.size ≤ bl
  least : v.cell? ⟨bl, 0, none⟩ = some (.int .i64 (leastL L))
  low : v.cell? ⟨bl + 1, 0, none⟩ = some (.int .i64 (lowestL L))
  near : v.cell? ⟨bl + 2, 0, none⟩ = some (.func (.func 26) #[] #[.pointer (some ⟨bl, 0, none⟩)])
theorem Est.next {w : World} {L : List Inf} {bl : Nat} {v v' : World} (h : Est w L bl v) (hb : Below v.heap.size v v') : Est w L bl v' :=
  ⟨keeps h.below hb, Nat.lt_of_lt_of_le h.size hb.size, h.lo, (hb.cell (p := ⟨bl, 0, none⟩) (by have := h.size; show bl < _; omega)).trans h.least, (hb.cell (p := ⟨bl + 1, 0, none⟩) (by have := h.size; show bl + 1 < _; omega)).trans h.low, (hb.cell (p := ⟨bl + 2, 0, none⟩) h.size).trans h.near⟩
theorem Est.start {w w2 : World} {L : List Inf} (h : Below w.heap.size w w2) : Est w L w2.heap.size (((w2.alloc (.cells #[.int .i64 (leastL L)] 3)).alloc (.cells #[.int .i64 (lowestL L)] 3)).alloc (.cells #[.func (.func 26) #[] #[.pointer (some ⟨w2.heap.size, 0, none⟩)]] 37)) := by
  have b1 : Below w2.heap.size w2 (w2.alloc (.cells #[.int .i64 (leastL L)] 3)) := (Below.refl _ _).alloc (Nat.le_refl _) _
  have c1 := one_blk (w := w2) (v := .int .i64 (leastL L)) (t := 3)
  have z1 : (w2.alloc (.cells #[.int .i64 (leastL L)] 3)).heap.size = w2.heap.size + 1 := by simp
  generalize w2.alloc (.cells #[.int .i64 (leastL L)] 3) = w3 at b1 c1 z1 ⊢
  have b2 : Below w3.heap.size w3 (w3.alloc (.cells #[.int .i64 (lowestL L)] 3)) := (Below.refl _ _).alloc (Nat.le_refl _) _
  have c2 := one_blk (w := w3) (v := .int .i64 (lowestL L)) (t := 3)
  have z2 : (w3.alloc (.cells #[.int .i64 (lowestL L)] 3)).heap.size = w3.heap.size + 1 := by simp
  generalize w3.alloc (.cells #[.int .i64 (lowestL L)] 3) = w4 at b2 c2 z2 ⊢
  have b3 : Below w4.heap.size w4 (w4.alloc (.cells #[.func (.func 26) #[] #[.pointer (some ⟨w2.heap.size, 0, none⟩)]] 37)) := (Below.refl _ _).alloc (Nat.le_refl _) _
  have c3 := one_blk (w := w4) (v := .func (.func 26) #[] #[.pointer (some ⟨w2.heap.size, 0, none⟩)]) (t := 37)
  have z3 : (w4.alloc (.cells #[.func (.func 26) #[] #[.pointer (some ⟨w2.heap.size, 0, none⟩)]] 37)).heap.size = w4.heap.size + 1 := by simp
  generalize w4.alloc (.cells #[.func (.func 26) #[] #[.pointer (some ⟨w2.heap.size, 0, none⟩)]] 37) = w5 at b3 c3 z3 ⊢
  refine ⟨keeps (keeps (keeps h b1) b2) b3, by omega, h.size, ?_, ?_, ?_⟩
  · exact (b3.cell (p := ⟨w2.heap.size, 0, none⟩) (by show w2.heap.size < _; omega)).trans ((b2.cell (p := ⟨w2.heap.size, 0, none⟩) (by show w2.heap.size < _; omega)).trans c1)
  · rw [← z1]
    exact (b3.cell (p := ⟨w3.heap.size, 0, none⟩) (by show w3.heap.size < _; omega)).trans c2
  · have e : w2.heap.size + 2 = w4.heap.size := by omega
    rw [e]
    exact c3
set_option maxRecDepth 100000 in
set_option maxHeartbeats 4000000 in
theorem erase_ok : PickOk 9 eraseL := by
  intro A n c L w hl hnc hc hn hf
  have HL := Lib.hid hl
  have HF := Lib.hid hf
  have hlow := low_both L
  have he : eraseL L = orB (bestL (pass0 (leastL L)) older L) (orB (bestL (pass1 (leastL L)) older L) (bestL may both L)) := rfl
  rw [← hlow] at he
  rw [he]
  obtain ⟨B0, hB0⟩ : ∃ B, bestL (pass0 (leastL L)) older L = B := ⟨_, rfl⟩
  obtain ⟨B1, hB1⟩ : ∃ B, bestL (pass1 (leastL L)) older L = B := ⟨_, rfl⟩
  obtain ⟨B2, hB2⟩ : ∃ B, bestL (lowP (lowestL L)) older L = B := ⟨_, rfl⟩
  rw [hB0, hB1, hB2]
  clear he hlow hl hf hc
  rcases erase_or (a := B0) (b := B1) (c := B2) with ⟨⟨i, x⟩, rfl, e⟩ | ⟨rfl, ⟨i, x⟩, rfl, e⟩ | ⟨rfl, rfl, e⟩
  · rw [e, show ansN (some (i, x) : Bst) = (i : Int) from rfl, show (some (i, x) : Bst).isSome = true from rfl]
    have H0 := Lib.hid hB0
    clear e hB0 hB1 hB2
    go_enter Try.func9, Try.ntmps9
    go_wp2_with (first
      | (go_at_call 23; (with_reducible refine (least_is (heldP_least L) HL.out hnc hn ent_unheld (tells_of unheld_calls)).mono ?_); rintro e w2 ⟨rfl, hb2⟩; have HB2 := Lib.hid hb2; have HL2 := Lib.hid (HL.out.below hb2); clear hb2)
      | (go_at_call 23; (with_reducible refine (least_is (lowest_is L) HL2.out hnc hn ent_erasable (tells_of erasable_calls)).mono ?_); rintro e w3 ⟨rfl, hb3⟩; have HS0 := Lib.hid (Est.start (L := L) (keeps HB2.out hb3)); clear hb3)
      | (go_at_call 20; (have hT := free_tells HF.out (by have := HS0.out.size; omega) HS0.out.least HS0.out.size HS0.out.near; with_reducible refine (choose_yes H0.out (HL.out.below HS0.out.below) hn ent_Erase2 ent_older hT (tells2_of older_calls)).mono ?_); rintro e wa1 ⟨rfl, hb4⟩; have HS1 := Lib.hid (HS0.out.next hb4); obtain ⟨q1⟩ : Nonempty (wa1.cell? ⟨_, 0, none⟩ = some (.func (.func 26) #[] #[.pointer (some ⟨_, 0, none⟩)])) := ⟨HS1.out.near⟩; clear hb4))
    go_ret2
    exact ⟨rfl, HS1.out.below⟩
  · rw [e, show ansN (some (i, x) : Bst) = (i : Int) from rfl, show (some (i, x) : Bst).isSome = true from rfl]
    have H0 := Lib.hid hB0
    have H1 := Lib.hid hB1
    clear e hB0 hB1 hB2
    go_enter Try.func9, Try.ntmps9
    go_wp2_with (first
      | (go_at_call 23; (with_reducible refine (least_is (heldP_least L) HL.out hnc hn ent_unheld (tells_of unheld_calls)).mono ?_); rintro e w2 ⟨rfl, hb2⟩; have HB2 := Lib.hid hb2; have HL2 := Lib.hid (HL.out.below hb2); clear hb2)
      | (go_at_call 23; (with_reducible refine (least_is (lowest_is L) HL2.out hnc hn ent_erasable (tells_of erasable_calls)).mono ?_); rintro e w3 ⟨rfl, hb3⟩; have HS0 := Lib.hid (Est.start (L := L) (keeps HB2.out hb3)); clear hb3)
      | (go_at_call 20; (have hT := free_tells HF.out (by have := HS0.out.size; omega) HS0.out.least HS0.out.size HS0.out.near; with_reducible refine (choose_no H0.out (HL.out.below HS0.out.below) hn ent_Erase2 ent_older hT (tells2_of older_calls)).mono ?_); rintro e wa1 ⟨rfl, hb4⟩; have HS1 := Lib.hid (HS0.out.next hb4); obtain ⟨q1⟩ : Nonempty (wa1.cell? ⟨_, 0, none⟩ = some (.func (.func 26) #[] #[.pointer (some ⟨_, 0, none⟩)])) := ⟨HS1.out.near⟩; clear hb4)
      | (go_at_call 20; (have hT := near_tells HF.out (by have := HS1.out.size; omega) HS1.out.least; with_reducible refine (choose_yes H1.out (HL.out.below HS1.out.below) hn ent_Erase1 ent_older hT (tells2_of older_calls)).mono ?_); rintro e wa2 ⟨rfl, hb4⟩; have HS2 := Lib.hid (HS1.out.next hb4); obtain ⟨q2⟩ : Nonempty (wa2.cell? ⟨_, 0, none⟩ = some (.func (.func 26) #[] #[.pointer (some ⟨_, 0, none⟩)])) := ⟨HS2.out.near⟩; clear hb4))
    go_ret2
    exact ⟨rfl, HS2.out.below⟩
  · rw [e]
    have H0 := Lib.hid hB0
    have H1 := Lib.hid hB1
    have H2 := Lib.hid hB2
    clear e hB0 hB1 hB2
    go_enter Try.func9, Try.ntmps9
    go_wp2_with (first
      | (go_at_call 23; (with_reducible refine (least_is (heldP_least L) HL.out hnc hn ent_unheld (tells_of unheld_calls)).mono ?_); rintro e w2 ⟨rfl, hb2⟩; have HB2 := Lib.hid hb2; have HL2 := Lib.hid (HL.out.below hb2); clear hb2)
      | (go_at_call 23; (with_reducible refine (least_is (lowest_is L) HL2.out hnc hn ent_erasable (tells_of erasable_calls)).mono ?_); rintro e w3 ⟨rfl, hb3⟩; have HS0 := Lib.hid (Est.start (L := L) (keeps HB2.out hb3)); clear hb3)
      | (go_at_call 20; (have hT := free_tells HF.out (by have := HS0.out.size; omega) HS0.out.least HS0.out.size HS0.out.near; with_reducible refine (choose_no H0.out (HL.out.below HS0.out.below) hn ent_Erase2 ent_older hT (tells2_of older_calls)).mono ?_); rintro e wa1 ⟨rfl, hb4⟩; have HS1 := Lib.hid (HS0.out.next hb4); obtain ⟨q1⟩ : Nonempty (wa1.cell? ⟨_, 0, none⟩ = some (.func (.func 26) #[] #[.pointer (some ⟨_, 0, none⟩)])) := ⟨HS1.out.near⟩; clear hb4)
      | (go_at_call 20; (have hT := near_tells HF.out (by have := HS1.out.size; omega) HS1.out.least; with_reducible refine (choose_no H1.out (HL.out.below HS1.out.below) hn ent_Erase1 ent_older hT (tells2_of older_calls)).mono ?_); rintro e wa2 ⟨rfl, hb4⟩; have HS2 := Lib.hid (HS1.out.next hb4); obtain ⟨q2⟩ : Nonempty (wa2.cell? ⟨_, 0, none⟩ = some (.func (.func 26) #[] #[.pointer (some ⟨_, 0, none⟩)])) := ⟨HS2.out.near⟩; clear hb4)
      | (go_at_call 20; (have hT := low_tells (L := L) (by have := HS2.out.size; omega) HS2.out.low; with_reducible refine (choose_is H2.out (HL.out.below HS2.out.below) hn ent_Erase3 ent_older hT (tells2_of older_calls)).mono ?_); rintro e wa3 ⟨rfl, hb4⟩; have HS3 := Lib.hid (HS2.out.next hb4); obtain ⟨q3⟩ : Nonempty (wa3.cell? ⟨_, 0, none⟩ = some (.func (.func 26) #[] #[.pointer (some ⟨_, 0, none⟩)])) := ⟨HS3.out.near⟩; clear hb4))
    go_ret2
    exact ⟨rfl, HS3.out.below⟩
end Go.Proofs.Ythpgpomkilnlgaa.PickGe
