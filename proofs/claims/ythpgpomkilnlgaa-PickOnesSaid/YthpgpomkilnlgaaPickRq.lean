/- The contract of the document's pass of layer 11. -/
import Derived.Test.YthpgpomkilnlgaaPickR
namespace Go.Proofs.Ythpgpomkilnlgaa.PickRq
set_option linter.unusedVariables false
set_option linter.unusedSimpArgs false
open Go.RowKit
open Go.Proofs.Ythpgpomkilnlgaa.Byte Go.Proofs.Ythpgpomkilnlgaa.PickM Go.Proofs.Ythpgpomkilnlgaa.PickN Go.Proofs.Ythpgpomkilnlgaa.Own Go.Proofs.Ythpgpomkilnlgaa.Rw Go.Proofs.Ythpgpomkilnlgaa.Lst Go.Proofs.Ythpgpomkilnlgaa.PickR

theorem blk6 {W : World} {b : Nat} {x : Inf} {t : TypeId} (h : Blk W b #[.int .i64 x.cls, .bool x.opn, .int .i64 x.wear, .int .u64 x.age, .int .i64 x.need, .bool x.held] t) : W.cell? ⟨b, 0, none⟩ = some (.int .i64 x.cls) ∧ W.cell? ⟨b, 1, none⟩ = some (.bool x.opn) ∧ W.cell? ⟨b, 2, none⟩ = some (.int .i64 x.wear) ∧ W.cell? ⟨b, 3, none⟩ = some (.int .u64 x.age) ∧ W.cell? ⟨b, 4, none⟩ = some (.int .i64 x.need) ∧ W.cell? ⟨b, 5, none⟩ = some (.bool x.held) := ⟨h.cell 0, h.cell 1, h.cell 2, h.cell 3, h.cell 4, h.cell 5⟩
theorem near_is {wear least : Int} {b : Bool} (hb : decide (wear < least + 4) = b) (w : World) (h0 : -10000000000000 ≤ wear) (h1 : wear ≤ 10000000000000) (h2 : -10000000000000 ≤ least) (h3 : least ≤ 10000000000000) : Calls Try.prog 35 #[.int .i64 wear, .int .i64 least] w fun e w' => e = .returned (.bool b) ∧ w = w' := by
  subst hb
  exact near_calls wear least w h0 h1 h2 h3
set_option maxHeartbeats 2000000 in
theorem pass_calls (x : Inf) (least : Int) (n : Nat) (w : World) (hn : n < 3) (h0 : -10000000000000 ≤ x.wear) (h1 : x.wear ≤ 10000000000000) (h2 : -10000000000000 ≤ least) (h3 : least ≤ 10000000000000) : Calls Try.prog 32 #[infV x, .int .i64 least, .int .i64 n] w fun e w' => e = .returned (.bool (passN least n x)) ∧ Below w.heap.size w w' := by
  have hbx : Below w.heap.size w (w.alloc (.cells #[.int .i64 x.cls, .bool x.opn, .int .i64 x.wear, .int .u64 x.age, .int .i64 x.need, .bool x.held] 29)) := (Below.refl _ _).alloc (Nat.le_refl _) _
  have hbk := Blk.new_ w #[.int .i64 x.cls, .bool x.opn, .int .i64 x.wear, .int .u64 x.age, .int .i64 x.need, .bool x.held] 29
  have HBX := Lib.hid hbx
  have HBK := Lib.hid hbk
  obtain ⟨s0, s1, s2, s3, s4, s5⟩ := blk6 hbk
  clear hbx hbk
  unfold infV
  cases hm : may x with
  | false =>
    have HM := Lib.hid hm
    have hp : passN least n x = false := by unfold passN pass0 pass1; rw [hm]; (repeat' split) <;> rfl
    rw [hp]
    clear hm hp
    go_enter Try.func32, Try.ntmps32
    go_wp2_with (go_at_call 33; refine (may_is HM.out _).mono ?_; rintro e w3 ⟨rfl, hb3⟩; have HB3 := Lib.hid (keeps HBX.out hb3); clear hb3)
    go_ret
    exact ⟨rfl, HB3.out⟩
  | true =>
    have HM := Lib.hid hm
    match n, hn with
    | 2, _ =>
      have hp : passN least 2 x = true := hm
      rw [hp]
      clear hm hp
      go_enter Try.func32, Try.ntmps32
      go_wp2_with (go_at_call 33; refine (may_is HM.out _).mono ?_; rintro e w3 ⟨rfl, hb3⟩; have HB3 := Lib.hid (keeps HBX.out hb3); clear hb3)
      go_ret
      exact ⟨rfl, HB3.out⟩
    | 1, _ =>
      cases hq : decide (x.wear < least + 4) with
      | false =>
        have HQ := Lib.hid hq
        have hp : passN least 1 x = false := by show (may x && near least x) = false; unfold near; rw [hq, hm]; rfl
        rw [hp]
        clear hm hp hq
        go_enter Try.func32, Try.ntmps32
        go_wp2_with (first
          | (go_at_call 33; refine (may_is HM.out _).mono ?_; rintro e w3 ⟨rfl, hb3⟩; have HB3 := Lib.hid (keeps HBX.out hb3); obtain ⟨z0, z1, z2, z3, z4, z5⟩ := blk6 (HBK.out.below hb3); clear hb3)
          | (go_at_call 35; refine (near_is HQ.out _ h0 h1 h2 h3).mono ?_; rintro e w4 ⟨rfl, rfl⟩))
        go_ret
        exact ⟨rfl, HB3.out⟩
      | true =>
        have HQ := Lib.hid hq
        have hp : passN least 1 x = true := by show (may x && near least x) = true; unfold near; rw [hq, hm]; rfl
        rw [hp]
        clear hm hp hq
        go_enter Try.func32, Try.ntmps32
        go_wp2_with (first
          | (go_at_call 33; refine (may_is HM.out _).mono ?_; rintro e w3 ⟨rfl, hb3⟩; have HB3 := Lib.hid (keeps HBX.out hb3); obtain ⟨z0, z1, z2, z3, z4, z5⟩ := blk6 (HBK.out.below hb3); clear hb3)
          | (go_at_call 35; refine (near_is HQ.out _ h0 h1 h2 h3).mono ?_; rintro e w4 ⟨rfl, rfl⟩))
        go_ret
        exact ⟨rfl, HB3.out⟩
    | 0, _ =>
      cases hq : decide (x.wear < least + 4) with
      | false =>
        have HQ := Lib.hid hq
        have hp : passN least 0 x = false := by show (may x && near least x && needless x) = false; unfold near; rw [hq, hm]; rfl
        rw [hp]
        clear hm hp hq
        go_enter Try.func32, Try.ntmps32
        go_wp2_with (first
          | (go_at_call 33; refine (may_is HM.out _).mono ?_; rintro e w3 ⟨rfl, hb3⟩; have HB3 := Lib.hid (keeps HBX.out hb3); obtain ⟨z0, z1, z2, z3, z4, z5⟩ := blk6 (HBK.out.below hb3); clear hb3)
          | (go_at_call 35; refine (near_is HQ.out _ h0 h1 h2 h3).mono ?_; rintro e w4 ⟨rfl, rfl⟩))
        go_ret
        exact ⟨rfl, HB3.out⟩
      | true =>
        have HQ := Lib.hid hq
        have hp : passN least 0 x = needless x := by show (may x && near least x && needless x) = needless x; unfold near; rw [hq, hm]; rfl
        rw [hp]
        obtain ⟨b, hb⟩ : ∃ b, needless x = b := ⟨_, rfl⟩
        have HD := Lib.hid hb
        rw [hb]
        clear hm hp hq hb
        go_enter Try.func32, Try.ntmps32
        go_wp2_with (first
          | (go_at_call 33; refine (may_is HM.out _).mono ?_; rintro e w3 ⟨rfl, hb3⟩; have HB3 := Lib.hid (keeps HBX.out hb3); obtain ⟨z0, z1, z2, z3, z4, z5⟩ := blk6 (HBK.out.below hb3); clear hb3)
          | (go_at_call 35; refine (near_is HQ.out _ h0 h1 h2 h3).mono ?_; rintro e w4 ⟨rfl, rfl⟩)
          | (go_at_call 34; refine (needless_is HD.out _).mono ?_; rintro e w5 ⟨rfl, hb5⟩; have HB5 := Lib.hid (keeps HB3.out hb5); clear hb5))
        go_ret
        exact ⟨rfl, HB5.out⟩
end Go.Proofs.Ythpgpomkilnlgaa.PickRq
