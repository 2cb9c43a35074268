/- Layer 11's first law, over what the project's functions are asked. -/
import Derived.Test.YthpgpomkilnlgaaPickL
namespace Go.Proofs.Ythpgpomkilnlgaa.PickA
set_option linter.unusedVariables false
set_option linter.unusedSimpArgs false
open Go.RowKit
open Go.Proofs.Ythpgpomkilnlgaa.Byte Go.Proofs.Ythpgpomkilnlgaa.PickM Go.Proofs.Ythpgpomkilnlgaa.PickN Go.Proofs.Ythpgpomkilnlgaa.Own Go.Proofs.Ythpgpomkilnlgaa.Rw Go.Proofs.Ythpgpomkilnlgaa.Lst Go.Proofs.Ythpgpomkilnlgaa.PickR Go.Proofs.Ythpgpomkilnlgaa.PickRe Go.Proofs.Ythpgpomkilnlgaa.PickL

/-- What may come in: the numbers fit their kinds. -/
def fitX (x : Inf) : Prop := -9223372036854775808 ≤ x.wear ∧ x.wear ≤ 9223372036854775807
def Bd (v : Int) : Prop := -1099511627776 ≤ v ∧ v ≤ 1099511627776
theorem lead_num {a b : Int} (h : a = b) : Ending.returned (.int .i64 a) = .returned (.int .i64 b) := by rw [h]
theorem lead_is (hP : Picks) {A : Option Addr} {n c : Nat} {L : List Inf} {w : World} {lo hi : Int} (hl : Sl infE w A n L) (hn : n ≤ c) (hc : c ≤ maxLen) (h2 : n ≤ 100000) (hf : Fit L) (e1 : lowL L = lo) (e2 : highL L = hi) :
    Calls Try.prog 18 #[.slice A n c] w fun e w' => e = .returned (.int .i64 (hi - lo)) ∧ Below w.heap.size w w' := by
  subst e1
  subst e2
  exact hP.lead A n c L w hl hn hc h2 hf
theorem blank_is (hP : Picks) {A : Option Addr} {n c : Nat} {L : List Inf} {w : World} {B : Nat} (hl : Sl infE w A n L) (hn : n ≤ c) (hc : c ≤ maxLen) (h2 : n ≤ 100000) (hf : Fit L) (e1 : blankN L = B) :
    Calls Try.prog 17 #[.slice A n c] w fun e w' => e = .returned (.int .i64 (B : Nat)) ∧ Below w.heap.size w w' := by
  subst e1
  exact hP.blank A n c L w hl hn hc h2 hf
/-- A call of the project's, its answer under a name. -/
theorem pick_is {f : FuncId} {g : List Inf → Bst} (h : PickOk f g) {A : Option Addr} {n c : Nat} {L : List Inf} {w : World} {b : Bst} (hl : Sl infE w A n L) (hn : n ≤ c) (hc : c ≤ maxLen) (h2 : n ≤ 100000) (hf : Fit L) (e : g L = b) :
    Calls Try.prog f #[.slice A n c] w fun e w' => e = .returned (.tuple #[.int .i64 (ansN b), .bool b.isSome]) ∧ Below w.heap.size w w' := by
  subst e
  exact h A n c L w hl hn hc h2 hf
theorem calls_num {f : FuncId} {a : Array Value} {w : World} {b c : Bst} (e : b = c) (h : Calls Try.prog f a w fun e w' => e = .returned (.int .i64 (num b)) ∧ Below w.heap.size w w') : Calls Try.prog f a w fun e w' => e = .returned (.int .i64 (num c)) ∧ Below w.heap.size w w' := by
  subst e
  exact h
set_option maxRecDepth 100000 in
set_option maxHeartbeats 8000000 in
theorem ones_law (hP : Picks) (A : Option Addr) (n c : Nat) (L : List Inf) (w : World) (hl : Sl infE w A n L) (hn : n ≤ c) (hc : c ≤ maxLen) (hx : ∀ x ∈ L, fitX x) :
    Calls Try.prog 3 #[.slice A n c] w fun e w' => e = .returned (.bool true) ∧ Below w.heap.size w w' := by
  have HP := Lib.hid hP
  have HL := Lib.hid hl
  have HX := Lib.hid hx
  have HC := Lib.hid hc
  have HNC := Lib.hid hn
  clear hP hl hx hc hn
  go_enter Try.func3, Try.ntmps3
  go_wp2_with fail
  refine (great_calls A n c L w HL.out HNC.out HC.out HX.out).mono ?_
  rintro e w1 ⟨g, rfl, hg, hb1⟩
  have HB1 := Lib.hid hb1
  have HG := Lib.hid hg
  clear hb1 hg
  cases g with
  | true =>
    go_wp2_with fail
    refine (fixed_calls HP.out _).mono ?_
    rintro e w2 ⟨rfl, hb2⟩
    have HB2 := Lib.hid (keeps HB1.out hb2)
    clear hb2
    go_wp2_with fail
    go_ret
    exact ⟨rfl, HB2.out⟩
  | false =>
    obtain ⟨hn200, hfit⟩ := HG.out rfl
    have HF := Lib.hid hfit
    have HN1 := Lib.hid (show n ≤ 100000 by omega)
    have HLN := Lib.hid HL.out.1
    clear hfit HG
    obtain ⟨bw, e1⟩ : ∃ b, writeL L = b := ⟨_, rfl⟩
    obtain ⟨be, e2⟩ : ∃ b, eraseL L = b := ⟨_, rfl⟩
    obtain ⟨bo, e3⟩ : ∃ b, onceL L = b := ⟨_, rfl⟩
    obtain ⟨bl, e4⟩ : ∃ b, oldL L = b := ⟨_, rfl⟩
    have i1 : ∀ i x, bw = some (i, x) → i < n := fun i x h => by rw [← HLN.out]; exact is_best (e1.trans h)
    have i2 : ∀ i x, be = some (i, x) → i < n := fun i x h => by rw [← HLN.out]; exact is_erase i x (e2.trans h)
    have i3 : ∀ i x, bo = some (i, x) → i < n := fun i x h => by rw [← HLN.out]; exact is_best (e3.trans h)
    have i4 : ∀ i x, bl = some (i, x) → i < n := fun i x h => by rw [← HLN.out]; exact is_best (e4.trans h)
    have E1 := Lib.hid e1
    have E2 := Lib.hid e2
    have E3 := Lib.hid e3
    have E4 := Lib.hid e4
    have I1 := Lib.hid i1
    have I2 := Lib.hid i2
    have I3 := Lib.hid i3
    have I4 := Lib.hid i4
    clear e1 e2 e3 e4 i1 i2 i3 i4
    go_wp2_with fail
    refine (pick_is HP.out.write (HL.out.below HB1.out) HNC.out HC.out HN1.out HF.out E1.out).mono ?_
    rintro e w2 ⟨rfl, hb2⟩
    have HB2 := Lib.hid (keeps HB1.out hb2)
    clear hb2
    go_wp2_with fail
    refine (pick_is HP.out.erase (HL.out.below HB2.out) HNC.out HC.out HN1.out HF.out E2.out).mono ?_
    rintro e w3 ⟨rfl, hb3⟩
    have HB3 := Lib.hid (keeps HB2.out hb3)
    clear hb3
    go_wp2_with fail
    refine (pick_is HP.out.once (HL.out.below HB3.out) HNC.out HC.out HN1.out HF.out E3.out).mono ?_
    rintro e w4 ⟨rfl, hb4⟩
    have HB4 := Lib.hid (keeps HB3.out hb4)
    clear hb4
    go_wp2_with fail
    refine (pick_is HP.out.old (HL.out.below HB4.out) HNC.out HC.out HN1.out HF.out E4.out).mono ?_
    rintro e w5 ⟨rfl, hb5⟩
    have HB5 := Lib.hid (keeps HB4.out hb5)
    clear hb5
    go_wp2
    go_loopw [11, 12, 13, 41] (fun b lo hi i wr => ∃ (k B : Nat) (l h : Int), k ≤ n ∧ i = .int .i64 k ∧ b = .int .i64 B ∧ lo = .int .i64 l ∧ hi = .int .i64 h ∧ B ≤ k ∧ Hid (blankN (L.take k) = B) ∧ Hid (lowL (L.take k) = l) ∧ Hid (highL (L.take k) = h) ∧ Hid (Bd l ∧ Bd h) ∧ Below w.heap.size w wr) (fun _ _ _ i _ => n - (intOf i).toNat)
    case atStart => exact ⟨0, 0, 0, 0, Nat.zero_le _, rfl, rfl, rfl, rfl, Nat.le_refl _, Lib.hid rfl, Lib.hid rfl, Lib.hid rfl, Lib.hid ⟨⟨by omega, by omega⟩, ⟨by omega, by omega⟩⟩, HB5.out⟩
    case round =>
      obtain ⟨k, B, lo, hi, hk, rfl, rfl, rfl, rfl, hB, H1, H2, H3, H4, hbel⟩ := hrel
      by_cases hlt : k < n
      · obtain ⟨x, g, o, hx, rfl, hg, hcl⟩ := (HL.out.below hbel).get k hlt
        have hfx := HF.out x (List.mem_of_getElem? hx)
        have HFX := Lib.hid hfx
        have HCL : Hid (wr.rangeAt g (o + k * 6) [.int .i64 x.cls, .bool x.opn, .int .i64 x.wear, .int .u64 x.age, .int .i64 x.need, .bool x.held]) := Lib.hid hcl
        have hb1 : Below w.heap.size w (wr.alloc (.cells #[.int .i64 x.cls, .bool x.opn, .int .i64 x.wear, .int .u64 x.age, .int .i64 x.need, .bool x.held] 29)) := hbel.alloc hbel.size _
        have HB6 := Lib.hid hb1
        have N1 := Lib.hid (blank_next hx)
        have N2 := Lib.hid (low_next hx)
        have N3 := Lib.hid (high_next hx)
        rw [H1.out] at N1
        rw [H2.out] at N2
        rw [H3.out] at N3
        clear hcl hx hbel hb1 hfx
        have hcase : (x.cls = 0 ∧ x.held = false ∧ isBlank x = true) ∨ (x.cls = 0 ∧ x.held = true ∧ isBlank x = false) ∨ (x.cls ≠ 0 ∧ isBlank x = false) := by
          unfold isBlank
          by_cases h1 : x.cls = 0
          · cases h2 : x.held <;> simp [h1]
          · simp [h1]
        have hlow : (k = 0 ∧ lowL (L.take (k + 1)) = x.wear ∧ highL (L.take (k + 1)) = x.wear) ∨ (k ≠ 0 ∧ x.wear < lo ∧ hi < x.wear ∧ lowL (L.take (k + 1)) = x.wear ∧ highL (L.take (k + 1)) = x.wear) ∨ (k ≠ 0 ∧ x.wear < lo ∧ ¬ hi < x.wear ∧ lowL (L.take (k + 1)) = x.wear ∧ highL (L.take (k + 1)) = hi) ∨ (k ≠ 0 ∧ ¬ x.wear < lo ∧ hi < x.wear ∧ lowL (L.take (k + 1)) = lo ∧ highL (L.take (k + 1)) = x.wear) ∨ (k ≠ 0 ∧ ¬ x.wear < lo ∧ ¬ hi < x.wear ∧ lowL (L.take (k + 1)) = lo ∧ highL (L.take (k + 1)) = hi) := by
          rw [N2.out, N3.out]
          by_cases h0 : k = 0
          · left
            simp [h0]
          · by_cases h1 : x.wear < lo <;> by_cases h2 : hi < x.wear <;> simp [h0, h1, h2]
        clear N2 N3
        rcases hcase with ⟨q1, q2, q3⟩ | ⟨q1, q2, q3⟩ | ⟨q1, q3⟩
        all_goals
          rw [q3] at N1
          have NB := Lib.hid N1.out
          clear N1 q3
        · have z1 : ((x.cls : Int) == 0) = true := by rw [q1]; rfl
          obtain ⟨hx5, hh⟩ : ∃ b, x.held = b := ⟨_, rfl⟩
          rw [hh] at HCL HB6
          obtain rfl : hx5 = false := hh.symm.trans q2
          clear hh q1 q2
          rcases hlow with ⟨p1, p2, p3⟩ | ⟨p1, p4, p5, p2, p3⟩ | ⟨p1, p4, p5, p2, p3⟩ | ⟨p1, p4, p5, p2, p3⟩ | ⟨p1, p4, p5, p2, p3⟩
          · have P2 := Lib.hid p2
            have P3 := Lib.hid p3
            have k0 : ((k : Int) == 0) = true := by rw [p1]; rfl
            clear p1 p2 p3
            go_wp2_with ((with_reducible refine pick (some 45) ?_); refine wpList_load_mid rfl 29 _ rfl g (o + k * 6) rfl [.int .i64 x.cls, .bool x.opn, .int .i64 x.wear, .int .u64 x.age, .int .i64 x.need, .bool false] _ HCL.out Try.underlying29 rfl info_inf6 ?_)
            go_roundw
            case rel => exact ⟨k + 1, B + 1, x.wear, x.wear, by omega, by go_num, by go_num, rfl, rfl, by omega, Lib.hid (by rw [NB.out]; rfl), P2, P3, Lib.hid ⟨HFX.out, HFX.out⟩, HB6.out⟩
            case measure => simp [intOf]; omega
          · have P2 := Lib.hid p2
            have P3 := Lib.hid p3
            have k0 : ((k : Int) == 0) = false := by rw [beq_eq_false_iff_ne]; omega
            have u1 : decide (x.wear < lo) = true := decide_eq_true p4
            have u2 : decide (hi < x.wear) = true := decide_eq_true p5
            clear p1 p2 p3 p4 p5
            go_wp2_with ((with_reducible refine pick (some 45) ?_); refine wpList_load_mid rfl 29 _ rfl g (o + k * 6) rfl [.int .i64 x.cls, .bool x.opn, .int .i64 x.wear, .int .u64 x.age, .int .i64 x.need, .bool false] _ HCL.out Try.underlying29 rfl info_inf6 ?_)
            go_roundw
            case rel => exact ⟨k + 1, B + 1, x.wear, x.wear, by omega, by go_num, by go_num, rfl, rfl, by omega, Lib.hid (by rw [NB.out]; rfl), P2, P3, Lib.hid ⟨HFX.out, HFX.out⟩, HB6.out⟩
            case measure => simp [intOf]; omega
          · have P2 := Lib.hid p2
            have P3 := Lib.hid p3
            have k0 : ((k : Int) == 0) = false := by rw [beq_eq_false_iff_ne]; omega
            have u1 : decide (x.wear < lo) = true := decide_eq_true p4
            have u2 : decide (hi < x.wear) = false := decide_eq_false p5
            clear p1 p2 p3 p4 p5
            go_wp2_with ((with_reducible refine pick (some 45) ?_); refine wpList_load_mid rfl 29 _ rfl g (o + k * 6) rfl [.int .i64 x.cls, .bool x.opn, .int .i64 x.wear, .int .u64 x.age, .int .i64 x.need, .bool false] _ HCL.out Try.underlying29 rfl info_inf6 ?_)
            go_roundw
            case rel => exact ⟨k + 1, B + 1, x.wear, hi, by omega, by go_num, by go_num, rfl, rfl, by omega, Lib.hid (by rw [NB.out]; rfl), P2, P3, Lib.hid ⟨HFX.out, H4.out.2⟩, HB6.out⟩
            case measure => simp [intOf]; omega
          · have P2 := Lib.hid p2
            have P3 := Lib.hid p3
            have k0 : ((k : Int) == 0) = false := by rw [beq_eq_false_iff_ne]; omega
            have u1 : decide (x.wear < lo) = false := decide_eq_false p4
            have u2 : decide (hi < x.wear) = true := decide_eq_true p5
            clear p1 p2 p3 p4 p5
            go_wp2_with ((with_reducible refine pick (some 45) ?_); refine wpList_load_mid rfl 29 _ rfl g (o + k * 6) rfl [.int .i64 x.cls, .bool x.opn, .int .i64 x.wear, .int .u64 x.age, .int .i64 x.need, .bool false] _ HCL.out Try.underlying29 rfl info_inf6 ?_)
            go_roundw
            case rel => exact ⟨k + 1, B + 1, lo, x.wear, by omega, by go_num, by go_num, rfl, rfl, by omega, Lib.hid (by rw [NB.out]; rfl), P2, P3, Lib.hid ⟨H4.out.1, HFX.out⟩, HB6.out⟩
            case measure => simp [intOf]; omega
          · have P2 := Lib.hid p2
            have P3 := Lib.hid p3
            have k0 : ((k : Int) == 0) = false := by rw [beq_eq_false_iff_ne]; omega
            have u1 : decide (x.wear < lo) = false := decide_eq_false p4
            have u2 : decide (hi < x.wear) = false := decide_eq_false p5
            clear p1 p2 p3 p4 p5
            go_wp2_with ((with_reducible refine pick (some 45) ?_); refine wpList_load_mid rfl 29 _ rfl g (o + k * 6) rfl [.int .i64 x.cls, .bool x.opn, .int .i64 x.wear, .int .u64 x.age, .int .i64 x.need, .bool false] _ HCL.out Try.underlying29 rfl info_inf6 ?_)
            go_roundw
            case rel => exact ⟨k + 1, B + 1, lo, hi, by omega, by go_num, by go_num, rfl, rfl, by omega, Lib.hid (by rw [NB.out]; rfl), P2, P3, Lib.hid ⟨H4.out.1, H4.out.2⟩, HB6.out⟩
            case measure => simp [intOf]; omega
        · have z1 : ((x.cls : Int) == 0) = true := by rw [q1]; rfl
          obtain ⟨hx5, hh⟩ : ∃ b, x.held = b := ⟨_, rfl⟩
          rw [hh] at HCL HB6
          obtain rfl : hx5 = true := hh.symm.trans q2
          clear hh q1 q2
          rcases hlow with ⟨p1, p2, p3⟩ | ⟨p1, p4, p5, p2, p3⟩ | ⟨p1, p4, p5, p2, p3⟩ | ⟨p1, p4, p5, p2, p3⟩ | ⟨p1, p4, p5, p2, p3⟩
          · have P2 := Lib.hid p2
            have P3 := Lib.hid p3
            have k0 : ((k : Int) == 0) = true := by rw [p1]; rfl
            clear p1 p2 p3
            go_wp2_with ((with_reducible refine pick (some 45) ?_); refine wpList_load_mid rfl 29 _ rfl g (o + k * 6) rfl [.int .i64 x.cls, .bool x.opn, .int .i64 x.wear, .int .u64 x.age, .int .i64 x.need, .bool true] _ HCL.out Try.underlying29 rfl info_inf6 ?_)
            go_roundw
            case rel => exact ⟨k + 1, B, x.wear, x.wear, by omega, by go_num, by go_num, rfl, rfl, by omega, Lib.hid (by rw [NB.out]; rfl), P2, P3, Lib.hid ⟨HFX.out, HFX.out⟩, HB6.out⟩
            case measure => simp [intOf]; omega
          · have P2 := Lib.hid p2
            have P3 := Lib.hid p3
            have k0 : ((k : Int) == 0) = false := by rw [beq_eq_false_iff_ne]; omega
            have u1 : decide (x.wear < lo) = true := decide_eq_true p4
            have u2 : decide (hi < x.wear) = true := decide_eq_true p5
            clear p1 p2 p3 p4 p5
            go_wp2_with ((with_reducible refine pick (some 45) ?_); refine wpList_load_mid rfl 29 _ rfl g (o + k * 6) rfl [.int .i64 x.cls, .bool x.opn, .int .i64 x.wear, .int .u64 x.age, .int .i64 x.need, .bool true] _ HCL.out Try.underlying29 rfl info_inf6 ?_)
            go_roundw
            case rel => exact ⟨k + 1, B, x.wear, x.wear, by omega, by go_num, by go_num, rfl, rfl, by omega, Lib.hid (by rw [NB.out]; rfl), P2, P3, Lib.hid ⟨HFX.out, HFX.out⟩, HB6.out⟩
            case measure => simp [intOf]; omega
          · have P2 := Lib.hid p2
            have P3 := Lib.hid p3
            have k0 : ((k : Int) == 0) = false := by rw [beq_eq_false_iff_ne]; omega
            have u1 : decide (x.wear < lo) = true := decide_eq_true p4
            have u2 : decide (hi < x.wear) = false := decide_eq_false p5
            clear p1 p2 p3 p4 p5
            go_wp2_with ((with_reducible refine pick (some 45) ?_); refine wpList_load_mid rfl 29 _ rfl g (o + k * 6) rfl [.int .i64 x.cls, .bool x.opn, .int .i64 x.wear, .int .u64 x.age, .int .i64 x.need, .bool true] _ HCL.out Try.underlying29 rfl info_inf6 ?_)
            go_roundw
            case rel => exact ⟨k + 1, B, x.wear, hi, by omega, by go_num, by go_num, rfl, rfl, by omega, Lib.hid (by rw [NB.out]; rfl), P2, P3, Lib.hid ⟨HFX.out, H4.out.2⟩, HB6.out⟩
            case measure => simp [intOf]; omega
          · have P2 := Lib.hid p2
            have P3 := Lib.hid p3
            have k0 : ((k : Int) == 0) = false := by rw [beq_eq_false_iff_ne]; omega
            have u1 : decide (x.wear < lo) = false := decide_eq_false p4
            have u2 : decide (hi < x.wear) = true := decide_eq_true p5
            clear p1 p2 p3 p4 p5
            go_wp2_with ((with_reducible refine pick (some 45) ?_); refine wpList_load_mid rfl 29 _ rfl g (o + k * 6) rfl [.int .i64 x.cls, .bool x.opn, .int .i64 x.wear, .int .u64 x.age, .int .i64 x.need, .bool true] _ HCL.out Try.underlying29 rfl info_inf6 ?_)
            go_roundw
            case rel => exact ⟨k + 1, B, lo, x.wear, by omega, by go_num, by go_num, rfl, rfl, by omega, Lib.hid (by rw [NB.out]; rfl), P2, P3, Lib.hid ⟨H4.out.1, HFX.out⟩, HB6.out⟩
            case measure => simp [intOf]; omega
          · have P2 := Lib.hid p2
            have P3 := Lib.hid p3
            have k0 : ((k : Int) == 0) = false := by rw [beq_eq_false_iff_ne]; omega
            have u1 : decide (x.wear < lo) = false := decide_eq_false p4
            have u2 : decide (hi < x.wear) = false := decide_eq_false p5
            clear p1 p2 p3 p4 p5
            go_wp2_with ((with_reducible refine pick (some 45) ?_); refine wpList_load_mid rfl 29 _ rfl g (o + k * 6) rfl [.int .i64 x.cls, .bool x.opn, .int .i64 x.wear, .int .u64 x.age, .int .i64 x.need, .bool true] _ HCL.out Try.underlying29 rfl info_inf6 ?_)
            go_roundw
            case rel => exact ⟨k + 1, B, lo, hi, by omega, by go_num, by go_num, rfl, rfl, by omega, Lib.hid (by rw [NB.out]; rfl), P2, P3, Lib.hid ⟨H4.out.1, H4.out.2⟩, HB6.out⟩
            case measure => simp [intOf]; omega
        · have z1 : ((x.cls : Int) == 0) = false := by rw [beq_eq_false_iff_ne]; exact q1
          obtain ⟨hx5, hh⟩ : ∃ b, x.held = b := ⟨_, rfl⟩
          rw [hh] at HCL HB6
          clear hh q1
          rcases hlow with ⟨p1, p2, p3⟩ | ⟨p1, p4, p5, p2, p3⟩ | ⟨p1, p4, p5, p2, p3⟩ | ⟨p1, p4, p5, p2, p3⟩ | ⟨p1, p4, p5, p2, p3⟩
          · have P2 := Lib.hid p2
            have P3 := Lib.hid p3
            have k0 : ((k : Int) == 0) = true := by rw [p1]; rfl
            clear p1 p2 p3
            go_wp2_with ((with_reducible refine pick (some 45) ?_); refine wpList_load_mid rfl 29 _ rfl g (o + k * 6) rfl [.int .i64 x.cls, .bool x.opn, .int .i64 x.wear, .int .u64 x.age, .int .i64 x.need, .bool hx5] _ HCL.out Try.underlying29 rfl info_inf6 ?_)
            go_roundw
            case rel => exact ⟨k + 1, B, x.wear, x.wear, by omega, by go_num, by go_num, rfl, rfl, by omega, Lib.hid (by rw [NB.out]; rfl), P2, P3, Lib.hid ⟨HFX.out, HFX.out⟩, HB6.out⟩
            case measure => simp [intOf]; omega
          · have P2 := Lib.hid p2
            have P3 := Lib.hid p3
            have k0 : ((k : Int) == 0) = false := by rw [beq_eq_false_iff_ne]; omega
            have u1 : decide (x.wear < lo) = true := decide_eq_true p4
            have u2 : decide (hi < x.wear) = true := decide_eq_true p5
            clear p1 p2 p3 p4 p5
            go_wp2_with ((with_reducible refine pick (some 45) ?_); refine wpList_load_mid rfl 29 _ rfl g (o + k * 6) rfl [.int .i64 x.cls, .bool x.opn, .int .i64 x.wear, .int .u64 x.age, .int .i64 x.need, .bool hx5] _ HCL.out Try.underlying29 rfl info_inf6 ?_)
            go_roundw
            case rel => exact ⟨k + 1, B, x.wear, x.wear, by omega, by go_num, by go_num, rfl, rfl, by omega, Lib.hid (by rw [NB.out]; rfl), P2, P3, Lib.hid ⟨HFX.out, HFX.out⟩, HB6.out⟩
            case measure => simp [intOf]; omega
          · have P2 := Lib.hid p2
            have P3 := Lib.hid p3
            have k0 : ((k : Int) == 0) = false := by rw [beq_eq_false_iff_ne]; omega
            have u1 : decide (x.wear < lo) = true := decide_eq_true p4
            have u2 : decide (hi < x.wear) = false := decide_eq_false p5
            clear p1 p2 p3 p4 p5
            go_wp2_with ((with_reducible refine pick (some 45) ?_); refine wpList_load_mid rfl 29 _ rfl g (o + k * 6) rfl [.int .i64 x.cls, .bool x.opn, .int .i64 x.wear, .int .u64 x.age, .int .i64 x.need, .bool hx5] _ HCL.out Try.underlying29 rfl info_inf6 ?_)
            go_roundw
            case rel => exact ⟨k + 1, B, x.wear, hi, by omega, by go_num, by go_num, rfl, rfl, by omega, Lib.hid (by rw [NB.out]; rfl), P2, P3, Lib.hid ⟨HFX.out, H4.out.2⟩, HB6.out⟩
            case measure => simp [intOf]; omega
          · have P2 := Lib.hid p2
            have P3 := Lib.hid p3
            have k0 : ((k : Int) == 0) = false := by rw [beq_eq_false_iff_ne]; omega
            have u1 : decide (x.wear < lo) = false := decide_eq_false p4
            have u2 : decide (hi < x.wear) = true := decide_eq_true p5
            clear p1 p2 p3 p4 p5
            go_wp2_with ((with_reducible refine pick (some 45) ?_); refine wpList_load_mid rfl 29 _ rfl g (o + k * 6) rfl [.int .i64 x.cls, .bool x.opn, .int .i64 x.wear, .int .u64 x.age, .int .i64 x.need, .bool hx5] _ HCL.out Try.underlying29 rfl info_inf6 ?_)
            go_roundw
            case rel => exact ⟨k + 1, B, lo, x.wear, by omega, by go_num, by go_num, rfl, rfl, by omega, Lib.hid (by rw [NB.out]; rfl), P2, P3, Lib.hid ⟨H4.out.1, HFX.out⟩, HB6.out⟩
            case measure => simp [intOf]; omega
          · have P2 := Lib.hid p2
            have P3 := Lib.hid p3
            have k0 : ((k : Int) == 0) = false := by rw [beq_eq_false_iff_ne]; omega
            have u1 : decide (x.wear < lo) = false := decide_eq_false p4
            have u2 : decide (hi < x.wear) = false := decide_eq_false p5
            clear p1 p2 p3 p4 p5
            go_wp2_with ((with_reducible refine pick (some 45) ?_); refine wpList_load_mid rfl 29 _ rfl g (o + k * 6) rfl [.int .i64 x.cls, .bool x.opn, .int .i64 x.wear, .int .u64 x.age, .int .i64 x.need, .bool hx5] _ HCL.out Try.underlying29 rfl info_inf6 ?_)
            go_roundw
            case rel => exact ⟨k + 1, B, lo, hi, by omega, by go_num, by go_num, rfl, rfl, by omega, Lib.hid (by rw [NB.out]; rfl), P2, P3, Lib.hid ⟨H4.out.1, H4.out.2⟩, HB6.out⟩
            case measure => simp [intOf]; omega
      · obtain rfl : k = n := by omega
        have e : L.take k = L := List.take_of_length_le (by rw [HL.out.1]; exact Nat.le_refl _)
        have HBL := Lib.hid hbel
        rw [e] at H1 H2 H3
        obtain ⟨⟨l0, l1⟩, ⟨l2, l3⟩⟩ := H4.out
        clear hbel e
        go_wp2_with fail
        refine (fixed_calls HP.out _).mono ?_
        rintro e w6 ⟨rfl, hb6⟩
        have HB6 := Lib.hid (keeps HBL.out hb6)
        clear hb6
        go_wp2_with fail
        refine (calls_num E1.out (refwrite_calls A k c L _ (HL.out.below HB6.out) HN1.out)).mono ?_
        rintro e w7 ⟨rfl, hb7⟩
        have HB7 := Lib.hid (keeps HB6.out hb7)
        clear hb7
        go_wp2_with fail
        refine (is_calls bw k _ I1.out HN1.out).mono ?_
        rintro e w8 ⟨rfl, rfl⟩
        go_wp2_with fail
        refine (calls_num E2.out (referase_calls A k c L _ (HL.out.below HB7.out) HN1.out HF.out)).mono ?_
        rintro e w8 ⟨rfl, hb8⟩
        have HB8 := Lib.hid (keeps HB7.out hb8)
        clear hb8
        go_wp2_with fail
        refine (is_calls be k _ I2.out HN1.out).mono ?_
        rintro e w9 ⟨rfl, rfl⟩
        go_wp2_with fail
        refine (calls_num E3.out (PickRo.refonce_calls A k c L _ (HL.out.below HB8.out) HN1.out)).mono ?_
        rintro e w9 ⟨rfl, hb9⟩
        have HB9 := Lib.hid (keeps HB8.out hb9)
        clear hb9
        go_wp2_with fail
        refine (is_calls bo k _ I3.out HN1.out).mono ?_
        rintro e w10 ⟨rfl, rfl⟩
        go_wp2_with fail
        refine (calls_num E4.out (PickRp.refold_calls A k c L _ (HL.out.below HB9.out) HN1.out)).mono ?_
        rintro e w10 ⟨rfl, hb10⟩
        have HB10 := Lib.hid (keeps HB9.out hb10)
        clear hb10
        go_wp2_with fail
        refine (is_calls bl k _ I4.out HN1.out).mono ?_
        rintro e w11 ⟨rfl, rfl⟩
        go_wp2_with fail
        refine (blank_is HP.out (HL.out.below HB10.out) HNC.out HC.out HN1.out HF.out H1.out).mono ?_
        rintro e w11 ⟨rfl, hb11⟩
        have HB11 := Lib.hid (keeps HB10.out hb11)
        clear hb11
        go_wp2_with fail
        refine (lead_is HP.out (HL.out.below HB11.out) HNC.out HC.out HN1.out HF.out H2.out H3.out).mono ?_
        rintro e w12 ⟨rfl, hb12⟩
        have HB12 := Lib.hid (keeps HB11.out hb12)
        clear hb12
        go_wp2_with fail
        go_ret
        exact ⟨rfl, HB12.out⟩
end Go.Proofs.Ythpgpomkilnlgaa.PickA
