/- The contracts of what the project's pick asks of a sector: unheld, writable, erasable, unneeded, lessWorn, older; and of AtOnce's function. -/
import Derived.Test.YthpgpomkilnlgaaPickV
import Derived.Test.YthpgpomkilnlgaaPickU
import Derived.IntWalk
namespace Go.Proofs.Ythpgpomkilnlgaa.PickW
set_option linter.unusedVariables false
set_option linter.unusedSimpArgs false
open Go.RowKit
open Go.Proofs.Ythpgpomkilnlgaa.PickRq Go.Proofs.Ythpgpomkilnlgaa.Byte Go.Proofs.Ythpgpomkilnlgaa.PickM Go.Proofs.Ythpgpomkilnlgaa.PickN Go.Proofs.Ythpgpomkilnlgaa.PickU Go.Proofs.Ythpgpomkilnlgaa.Own Go.Proofs.Ythpgpomkilnlgaa.Rw Go.Proofs.Ythpgpomkilnlgaa.Lst Go.Proofs.Ythpgpomkilnlgaa.PickR Go.Proofs.Ythpgpomkilnlgaa.PickRe Go.Proofs.Ythpgpomkilnlgaa.PickL Go.Proofs.Ythpgpomkilnlgaa.PickV

theorem bcell {W w1 : World} (hb : Below W.heap.size W w1) : (∀ b o, b < W.heap.size → w1.cell? ⟨b, o, none⟩ = W.cell? ⟨b, o, none⟩) ∧ (∀ b o, b < W.heap.size → w1.frozen? ⟨b, o, none⟩ = W.frozen? ⟨b, o, none⟩) :=
  ⟨fun b o h => hb.cell (p := ⟨b, o, none⟩) h, fun b o h => hb.frozen (p := ⟨b, o, none⟩) h⟩
def heldP (x : Inf) : Bool := !x.held
set_option maxHeartbeats 1000000 in
theorem unheld_calls (x : Inf) (w : World) : Calls Try.prog 24 #[infV x] w fun e w' => e = .returned (.bool (heldP x)) ∧ Below w.heap.size w w' := by
  obtain ⟨cls, opn, wear, age, need, held⟩ := x
  unfold infV heldP
  dsimp only
  go_enter Try.func24, Try.ntmps24
  go_wp2
  go_ret
  exact ⟨by simp, (Below.refl _ _).alloc (Nat.le_refl _) _⟩
set_option maxHeartbeats 1000000 in
theorem writable_calls (x : Inf) (w : World) : Calls Try.prog 21 #[infV x] w fun e w' => e = .returned (.bool (isBlank x)) ∧ Below w.heap.size w w' := by
  obtain ⟨cls, opn, wear, age, need, held⟩ := x
  unfold infV isBlank
  dsimp only
  by_cases h : cls = 0
  · subst h
    go_enter Try.func21, Try.ntmps21
    go_wp2
    go_ret
    exact ⟨by simp, (Below.refl _ _).alloc (Nat.le_refl _) _⟩
  · have d : (cls == 0) = false := by simpa using h
    go_enter Try.func21, Try.ntmps21
    go_wp2
    go_ret
    exact ⟨by simp [h], (Below.refl _ _).alloc (Nat.le_refl _) _⟩
set_option maxHeartbeats 1000000 in
theorem erasable_calls (x : Inf) (w : World) : Calls Try.prog 25 #[infV x] w fun e w' => e = .returned (.bool (may x)) ∧ Below w.heap.size w w' := by
  obtain ⟨cls, opn, wear, age, need, held⟩ := x
  unfold infV may
  dsimp only
  by_cases h : cls = 0
  · subst h
    go_enter Try.func25, Try.ntmps25
    go_wp2
    go_ret
    exact ⟨by simp, (Below.refl _ _).alloc (Nat.le_refl _) _⟩
  · have d : (cls != 0) = true := by simpa using h
    cases opn with
    | true =>
      go_enter Try.func25, Try.ntmps25
      go_wp2
      go_ret
      exact ⟨by simp, (Below.refl _ _).alloc (Nat.le_refl _) _⟩
    | false =>
      go_enter Try.func25, Try.ntmps25
      go_wp2
      go_ret
      exact ⟨by simp [h], (Below.refl _ _).alloc (Nat.le_refl _) _⟩
set_option maxHeartbeats 1000000 in
theorem unneeded_calls (x : Inf) (w : World) : Calls Try.prog 28 #[infV x] w fun e w' => e = .returned (.bool (needless x)) ∧ Below w.heap.size w w' := by
  obtain ⟨cls, opn, wear, age, need, held⟩ := x
  unfold infV needless
  dsimp only
  by_cases h : need = 0
  · subst h
    go_enter Try.func28, Try.ntmps28
    go_wp2
    go_ret
    exact ⟨by simp, (Below.refl _ _).alloc (Nat.le_refl _) _⟩
  · have d : (need == 0) = false := by simpa using h
    go_enter Try.func28, Try.ntmps28
    go_wp2
    go_ret
    refine ⟨ret_bool ?_, (Below.refl _ _).alloc (Nat.le_refl _) _⟩
    simp [h]
    rw [Bool.eq_iff_iff]
    simp
set_option maxHeartbeats 1000000 in
theorem worn_calls (x y : Inf) (w : World) : Calls Try.prog 22 #[infV x, infV y] w fun e w' => e = .returned (.bool (worn x y)) ∧ Below w.heap.size w w' := by
  obtain ⟨cls, opn, wear, age, need, held⟩ := x
  obtain ⟨cls2, opn2, wear2, age2, need2, held2⟩ := y
  unfold infV worn
  dsimp only
  go_enter Try.func22, Try.ntmps22
  go_wp2
  go_ret
  exact ⟨rfl, ((Below.refl _ _).alloc (Nat.le_refl _) _).alloc (by simp) _⟩
set_option maxHeartbeats 1000000 in
theorem older_calls (x y : Inf) (w : World) : Calls Try.prog 30 #[infV x, infV y] w fun e w' => e = .returned (.bool (PickM.older x y)) ∧ Below w.heap.size w w' := by
  obtain ⟨cls, opn, wear, age, need, held⟩ := x
  obtain ⟨cls2, opn2, wear2, age2, need2, held2⟩ := y
  unfold infV PickM.older
  dsimp only
  go_enter Try.func30, Try.ntmps30
  go_wp2
  go_ret
  exact ⟨rfl, ((Below.refl _ _).alloc (Nat.le_refl _) _).alloc (by simp) _⟩
theorem erasable_is {x : Inf} {b : Bool} (hb : may x = b) (w : World) : Calls Try.prog 25 #[infV x] w fun e w' => e = .returned (.bool b) ∧ Below w.heap.size w w' := by
  subst hb
  exact erasable_calls x w
theorem unneeded_is {x : Inf} {b : Bool} (hb : needless x = b) (w : World) : Calls Try.prog 28 #[infV x] w fun e w' => e = .returned (.bool b) ∧ Below w.heap.size w w' := by
  subst hb
  exact unneeded_calls x w
theorem writable_is {x : Inf} {b : Bool} (hb : isBlank x = b) (w : World) : Calls Try.prog 21 #[infV x] w fun e w' => e = .returned (.bool b) ∧ Below w.heap.size w w' := by
  subst hb
  exact writable_calls x w
theorem tells_of {L : List Inf} {F : FuncId} {w : World} {p : Inf → Bool} (h : ∀ (x : Inf) (w' : World), Calls Try.prog F #[infV x] w' fun e w2 => e = .returned (.bool (p x)) ∧ Below w'.heap.size w' w2) : Tells L F #[] w p :=
  fun x w' _ _ => h x w'
theorem tells2_of {F : FuncId} {w : World} {p : Inf → Inf → Bool} (h : ∀ (x y : Inf) (w' : World), Calls Try.prog F #[infV x, infV y] w' fun e w2 => e = .returned (.bool (p x y)) ∧ Below w'.heap.size w' w2) : Tells2 F #[] w p :=
  fun x y w' _ => h x y w'
theorem ent_unheld : ∀ (args : Array Value) (w : World), (callFunc 24 args).run Try.prog w = .ok (.enter 24 args) w := fun args w => by kernel_rfl
theorem ent_writable : ∀ (args : Array Value) (w : World), (callFunc 21 args).run Try.prog w = .ok (.enter 21 args) w := fun args w => by kernel_rfl
theorem ent_erasable : ∀ (args : Array Value) (w : World), (callFunc 25 args).run Try.prog w = .ok (.enter 25 args) w := fun args w => by kernel_rfl
theorem ent_lessWorn : ∀ (args : Array Value) (w : World), (callFunc 22 args).run Try.prog w = .ok (.enter 22 args) w := fun args w => by kernel_rfl
theorem ent_older : ∀ (args : Array Value) (w : World), (callFunc 30 args).run Try.prog w = .ok (.enter 30 args) w := fun args w => by kernel_rfl
theorem ent_Erase1 : ∀ (args : Array Value) (w : World), (callFunc 26 args).run Try.prog w = .ok (.enter 26 args) w := fun args w => by kernel_rfl
theorem ent_Erase2 : ∀ (args : Array Value) (w : World), (callFunc 27 args).run Try.prog w = .ok (.enter 27 args) w := fun args w => by kernel_rfl
theorem ent_Erase3 : ∀ (args : Array Value) (w : World), (callFunc 29 args).run Try.prog w = .ok (.enter 29 args) w := fun args w => by kernel_rfl
theorem ent_AtOnce1 : ∀ (args : Array Value) (w : World), (callFunc 31 args).run Try.prog w = .ok (.enter 31 args) w := fun args w => by kernel_rfl
theorem wrap_sub (a b : Int) (h : b ≤ a) (h2 : a - b ≤ 4398046511104) : IntKind.u64.wrap (IntKind.u64.wrap a - IntKind.u64.wrap b) = a - b := by
  unfold IntKind.wrap
  simp [IntKind.bits, IntKind.signed]
  omega
def idleP (x : Inf) : Bool := may x && needless x
set_option maxHeartbeats 1000000 in
theorem idle_calls (x : Inf) (w : World) : Calls Try.prog 31 #[infV x] w fun e w' => e = .returned (.bool (idleP x)) ∧ Below w.heap.size w w' := by
  have hbx : Below w.heap.size w (w.alloc (.cells #[.int .i64 x.cls, .bool x.opn, .int .i64 x.wear, .int .u64 x.age, .int .i64 x.need, .bool x.held] 29)) := (Below.refl _ _).alloc (Nat.le_refl _) _
  have hbk := Blk.new_ w #[.int .i64 x.cls, .bool x.opn, .int .i64 x.wear, .int .u64 x.age, .int .i64 x.need, .bool x.held] 29
  have HBX := Lib.hid hbx
  have HBK := Lib.hid hbk
  obtain ⟨s0, s1, s2, s3, s4, s5⟩ := blk6 hbk
  clear hbx hbk
  unfold infV
  cases hm : may x with
  | false =>
    have HM := Lib.hid hm
    have e : idleP x = false := by unfold idleP; rw [hm]; rfl
    rw [e]
    clear e hm
    go_enter Try.func31, Try.ntmps31
    go_wp2_with (first
      | (go_at_call 25; refine (erasable_is HM.out _).mono ?_; rintro e w3 ⟨rfl, hb3⟩; have HB3 := Lib.hid (keeps HBX.out hb3); obtain ⟨z0, z1, z2, z3, z4, z5⟩ := blk6 (HBK.out.below hb3); clear hb3))
    go_ret
    exact ⟨rfl, HB3.out⟩
  | true =>
    have HM := Lib.hid hm
    have e : idleP x = needless x := by unfold idleP; rw [hm]; rfl
    rw [e]
    clear e hm
    go_enter Try.func31, Try.ntmps31
    go_wp2_with (first
      | (go_at_call 25; refine (erasable_is HM.out _).mono ?_; rintro e w3 ⟨rfl, hb3⟩; have HB3 := Lib.hid (keeps HBX.out hb3); obtain ⟨z0, z1, z2, z3, z4, z5⟩ := blk6 (HBK.out.below hb3); clear hb3)
      | (go_at_call 28; refine (unneeded_calls x _).mono ?_; rintro e w4 ⟨rfl, hb4⟩; have HB4 := Lib.hid (keeps HB3.out hb4); clear hb4))
    go_ret
    exact ⟨rfl, HB4.out⟩
set_option maxHeartbeats 2000000 in
theorem near_calls (bl : Nat) (least : Int) (x : Inf) (w : World) (hbl : bl < w.heap.size) (hc : w.cell? ⟨bl, 0, none⟩ = some (.int .i64 least)) (h0 : -1099511627776 ≤ x.wear) (h1 : x.wear ≤ 1099511627776) (h2 : -1099511627776 ≤ least) (h3 : least ≤ 1099511627776) (hle : may x = true → least ≤ x.wear) : Calls Try.prog 26 #[infV x, .pointer (some ⟨bl, 0, none⟩)] w fun e w' => e = .returned (.bool (pass1 least x)) ∧ Below w.heap.size w w' := by
  have hbx : Below w.heap.size w (w.alloc (.cells #[.int .i64 x.cls, .bool x.opn, .int .i64 x.wear, .int .u64 x.age, .int .i64 x.need, .bool x.held] 29)) := (Below.refl _ _).alloc (Nat.le_refl _) _
  have hbk := Blk.new_ w #[.int .i64 x.cls, .bool x.opn, .int .i64 x.wear, .int .u64 x.age, .int .i64 x.need, .bool x.held] 29
  have HBX := Lib.hid hbx
  have HBK := Lib.hid hbk
  obtain ⟨s0, s1, s2, s3, s4, s5⟩ := blk6 hbk
  clear hbx hbk
  unfold infV
  cases hm : may x with
  | false =>
    have HM := Lib.hid hm
    have e : pass1 least x = false := by unfold pass1; rw [hm]; rfl
    rw [e]
    clear e hm hle
    go_enter Try.func26, Try.ntmps26
    go_wp2_with (first
      | (go_at_call 25; refine (erasable_is HM.out _).mono ?_; rintro e w3 ⟨rfl, hb3⟩; have HB3 := Lib.hid (keeps HBX.out hb3); obtain ⟨z0, z1, z2, z3, z4, z5⟩ := blk6 (HBK.out.below hb3); clear hb3))
    go_ret
    exact ⟨rfl, HB3.out⟩
  | true =>
    have HM := Lib.hid hm
    have HBL := Lib.hid hbl
    have hl := hle hm
    have e : pass1 least x = decide (x.wear - least < 4) := by unfold pass1 near; rw [hm, Bool.true_and, decide_eq_decide]; omega
    rw [e]
    clear e hm hle
    go_enter Try.func26, Try.ntmps26
    go_wp2_with (first
      | (go_at_call 25; refine (erasable_is HM.out _).mono ?_; rintro e w3 ⟨rfl, hb3⟩; have HB3 := Lib.hid (keeps HBX.out hb3); obtain ⟨z0, z1, z2, z3, z4, z5⟩ := blk6 (HBK.out.below hb3); have q3 := ((HBX.out.trans (hb3.mono (by simp))).cell (p := ⟨bl, 0, none⟩) hbl).trans hc; clear hb3))
    go_ret
    exact ⟨ret_bool (by rw [wrap_sub _ _ hl (by omega)]), HB3.out⟩
set_option maxHeartbeats 2000000 in
theorem low_calls (bl : Nat) (least : Int) (x : Inf) (w : World) (hbl : bl < w.heap.size) (hc : w.cell? ⟨bl, 0, none⟩ = some (.int .i64 least)) : Calls Try.prog 29 #[infV x, .pointer (some ⟨bl, 0, none⟩)] w fun e w' => e = .returned (.bool (lowP least x)) ∧ Below w.heap.size w w' := by
  have hbx : Below w.heap.size w (w.alloc (.cells #[.int .i64 x.cls, .bool x.opn, .int .i64 x.wear, .int .u64 x.age, .int .i64 x.need, .bool x.held] 29)) := (Below.refl _ _).alloc (Nat.le_refl _) _
  have hbk := Blk.new_ w #[.int .i64 x.cls, .bool x.opn, .int .i64 x.wear, .int .u64 x.age, .int .i64 x.need, .bool x.held] 29
  have HBX := Lib.hid hbx
  have HBK := Lib.hid hbk
  obtain ⟨s0, s1, s2, s3, s4, s5⟩ := blk6 hbk
  clear hbx hbk
  unfold infV
  cases hm : may x with
  | false =>
    have HM := Lib.hid hm
    have e : lowP least x = false := by unfold lowP; rw [hm]; rfl
    rw [e]
    clear e hm
    go_enter Try.func29, Try.ntmps29
    go_wp2_with (first
      | (go_at_call 25; refine (erasable_is HM.out _).mono ?_; rintro e w3 ⟨rfl, hb3⟩; have HB3 := Lib.hid (keeps HBX.out hb3); obtain ⟨z0, z1, z2, z3, z4, z5⟩ := blk6 (HBK.out.below hb3); clear hb3))
    go_ret
    exact ⟨rfl, HB3.out⟩
  | true =>
    have HM := Lib.hid hm
    have HBL := Lib.hid hbl
    have e : lowP least x = (x.wear == least) := by unfold lowP; rw [hm, Bool.true_and]; rw [Bool.eq_iff_iff]; simp
    rw [e]
    clear e hm
    go_enter Try.func29, Try.ntmps29
    go_wp2_with (first
      | (go_at_call 25; refine (erasable_is HM.out _).mono ?_; rintro e w3 ⟨rfl, hb3⟩; have HB3 := Lib.hid (keeps HBX.out hb3); obtain ⟨z0, z1, z2, z3, z4, z5⟩ := blk6 (HBK.out.below hb3); have q3 := ((HBX.out.trans (hb3.mono (by simp))).cell (p := ⟨bl, 0, none⟩) hbl).trans hc; clear hb3))
    go_ret
    exact ⟨rfl, HB3.out⟩
end Go.Proofs.Ythpgpomkilnlgaa.PickW
