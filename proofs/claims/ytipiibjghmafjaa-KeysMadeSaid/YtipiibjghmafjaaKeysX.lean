/- The walk of layer 9's law KeysRanges, over what the project's functions are asked. -/
import Derived.Test.YtipiibjghmafjaaKeysL
import Derived.Test.YtipiibjghmafjaaKeysV
namespace Go.Proofs.Ytipiibjghmafjaa.KeysX
set_option linter.unusedVariables false
set_option linter.unusedSimpArgs false
open Go.RowKit
open Go.Proofs.Ytipiibjghmafjaa.Byte Go.Proofs.Ytipiibjghmafjaa.KeysM Go.Proofs.Ytipiibjghmafjaa.KeysR Go.Proofs.Ytipiibjghmafjaa.KeysS Go.Proofs.Ytipiibjghmafjaa.KeysN Go.Proofs.Ytipiibjghmafjaa.KeysL Go.Proofs.Ytipiibjghmafjaa.KeysV

def EntriesOk : Prop := ∀ (ino : Int) (w : World), 0 ≤ ino → ino ≤ 4294967295 → Calls Try.prog 17 #[.int .u32 ino] w fun e w' => ∃ a b, e = .returned (.tuple #[.string a, .string b]) ∧ Hid (Rng a b fun s => decide (s.letter = 69) && decide (s.ino = ino)) ∧ Below w.heap.size w w'
def BlocksOk : Prop := ∀ (ino n : Int) (w : World), 0 ≤ ino → ino ≤ 4294967295 → -9223372036854775808 ≤ n → n ≤ 9223372036854775807 → Calls Try.prog 18 #[.int .u32 ino, .int .i64 n] w fun e w' => ∃ a b, e = .returned (.tuple #[.string a, .string b]) ∧ Hid (Rng a b fun s => decide (s.letter = 68) && decide (s.ino = ino) && decide (n ≤ s.n)) ∧ Below w.heap.size w w'
theorem less_txt (s t : ByteArray) : Op.bytesLess s.toList t.toList = lt (txt s) (txt t) := by
  rw [toList_d, toList_d, less_lt]
  rfl
theorem part {x y r : Bool} (h : (!x && y) = r) : (r = true ∧ x = false ∧ y = true) ∨ (r = false ∧ x = true) ∨ (r = false ∧ x = false ∧ y = false) := by
  cases x <;> cases y <;> simp_all
set_option maxHeartbeats 1000000 in
theorem ranges_big (hF : FixOk) (ino n : Int) (key : ByteArray) (w : World) (hb : 3000 < key.size) (hk : key.size ≤ 9223372036854775807) : Calls Try.prog 5 #[.int .u32 ino, .int .i64 n, .string key] w fun e w' => e = .returned (.bool true) ∧ Below w.heap.size w w' := by
  have HF := Lib.hid hF
  have d : decide ((3000 : Int) < (key.size : Int)) = true := by simp; omega
  clear hF
  go_enter Try.func5, Try.ntmps5
  go_wp2_with fail
  refine (HF.out _).mono ?_
  rintro e w1 ⟨rfl, hb1⟩
  have HB1 := Lib.hid hb1
  clear hb1
  go_wp2_with fail
  go_ret
  exact ⟨rfl, HB1.out⟩
set_option maxRecDepth 100000 in
set_option maxHeartbeats 4000000 in
theorem ranges_none (hF : FixOk) (hE : EntriesOk) (hB : BlocksOk) (ino n : Int) (key : ByteArray) (w : World) (h0 : 0 ≤ ino) (h1 : ino ≤ 4294967295) (h2 : -9223372036854775808 ≤ n) (h3 : n ≤ 9223372036854775807) (hk : key.size ≤ 3000) (hsp : sp key = ⟨0, 0, E0, 0⟩) : Calls Try.prog 5 #[.int .u32 ino, .int .i64 n, .string key] w fun e w' => e = .returned (.bool true) ∧ Below w.heap.size w w' := by
  have HF := Lib.hid hF
  have d : decide ((3000 : Int) < (key.size : Int)) = false := by simp; omega
  have HE := Lib.hid (fun w => hE ino w h0 h1)
  have HB := Lib.hid (fun w => hB ino n w h0 h1 h2 h3)
  have HS := Lib.hid (fun w => refsplit_calls key w (by omega))
  rw [hsp] at HS
  unfold SpE at HS
  clear hF hE hB hsp
  go_enter Try.func5, Try.ntmps5
  go_wp2_with fail
  refine (HE.out _).mono ?_
  rintro e w1 ⟨a, b, rfl, _, hb1⟩
  have HB1 := Lib.hid hb1
  clear hb1
  go_wp2_with fail
  refine (HB.out _).mono ?_
  rintro e w2 ⟨a2, b2, rfl, _, hb2⟩
  have HB2 := Lib.hid (keeps HB1.out hb2)
  clear hb2
  go_wp2_with fail
  refine (HS.out _).mono ?_
  rintro e w3 ⟨rfl, hb3⟩
  have HB3 := Lib.hid (keeps HB2.out hb3)
  clear hb3
  go_wp2_with fail
  refine (HF.out _).mono ?_
  rintro e w4 ⟨rfl, hb4⟩
  have HB4 := Lib.hid (keeps HB3.out hb4)
  clear hb4
  go_wp2_with fail
  go_ret
  exact ⟨rfl, HB4.out⟩
set_option maxRecDepth 100000 in
set_option maxHeartbeats 8000000 in
theorem ranges_some (hF : FixOk) (hE : EntriesOk) (hB : BlocksOk) (ino n : Int) (key : ByteArray) (w : World) (h0 : 0 ≤ ino) (h1 : ino ≤ 4294967295) (h2 : -9223372036854775808 ≤ n) (h3 : n ≤ 9223372036854775807) (hk : key.size ≤ 3000) (L I N : Int) (nm : ByteArray) (hsp : sp key = ⟨L, I, nm, N⟩) (hL : L = 73 ∨ L = 69 ∨ L = 68) : Calls Try.prog 5 #[.int .u32 ino, .int .i64 n, .string key] w fun e w' => e = .returned (.bool true) ∧ Below w.heap.size w w' := by
  have HF := Lib.hid hF
  have d : decide ((3000 : Int) < (key.size : Int)) = false := by simp; omega
  have HE := Lib.hid (fun w => hE ino w h0 h1)
  have HB := Lib.hid (fun w => hB ino n w h0 h1 h2 h3)
  have HS := Lib.hid (fun w => refsplit_calls key w (by omega))
  rw [hsp] at HS
  unfold SpE at HS
  have HSP := Lib.hid hsp
  have hl0 : L ≠ 0 := by omega
  have HL := Lib.hid hL
  clear hF hE hB hsp hL
  go_enter Try.func5, Try.ntmps5
  go_wp2_with fail
  refine (HE.out _).mono ?_
  rintro e w1 ⟨a, b, rfl, HR1, hb1⟩
  have HB1 := Lib.hid hb1
  clear hb1
  go_wp2_with fail
  refine (HB.out _).mono ?_
  rintro e w2 ⟨a2, b2, rfl, HR2, hb2⟩
  have HB2 := Lib.hid (keeps HB1.out hb2)
  clear hb2
  go_wp2_with fail
  refine (HS.out _).mono ?_
  rintro e w3 ⟨rfl, hb3⟩
  have HB3 := Lib.hid (keeps HB2.out hb3)
  clear hb3
  have e1 := HR1.out key (by rw [HSP.out]; exact hl0)
  have e2 := HR2.out key (by rw [HSP.out]; exact hl0)
  rw [HSP.out, ← less_txt, ← less_txt] at e1 e2
  dsimp only at e1 e2
  have hl1 : (L == 0) = false := by rw [beq_eq_false_iff_ne]; exact hl0
  cases hI : decide (I = ino) with
  | true =>
    rw [decide_eq_true_eq] at hI
    subst hI
    have di : (I == I) = true := by simp
    cases hN : decide (n ≤ N) with
    | true =>
      rcases HL.out with hl | hl | hl
      all_goals
        subst hl
        rcases part e1 with ⟨r1, p1, q1⟩ | ⟨r1, p1⟩ | ⟨r1, p1, q1⟩
        all_goals
          rcases part e2 with ⟨r2, p2, q2⟩ | ⟨r2, p2⟩ | ⟨r2, p2, q2⟩
          all_goals first
            | (exfalso; simp at r1; done)
            | (exfalso; rw [hN] at r2; simp at r2; done)
            | (clear e1 e2 r1 r2 hl0
               go_wp2_with fail
               refine (HF.out _).mono ?_
               rintro e w4 ⟨rfl, hb4⟩
               have HB4 := Lib.hid (keeps HB3.out hb4)
               clear hb4
               go_wp2_with fail
               go_ret
               exact ⟨rfl, HB4.out⟩)
    | false =>
      rcases HL.out with hl | hl | hl
      all_goals
        subst hl
        rcases part e1 with ⟨r1, p1, q1⟩ | ⟨r1, p1⟩ | ⟨r1, p1, q1⟩
        all_goals
          rcases part e2 with ⟨r2, p2, q2⟩ | ⟨r2, p2⟩ | ⟨r2, p2, q2⟩
          all_goals first
            | (exfalso; simp at r1; done)
            | (exfalso; rw [hN] at r2; simp at r2; done)
            | (clear e1 e2 r1 r2 hl0
               go_wp2_with fail
               refine (HF.out _).mono ?_
               rintro e w4 ⟨rfl, hb4⟩
               have HB4 := Lib.hid (keeps HB3.out hb4)
               clear hb4
               go_wp2_with fail
               go_ret
               exact ⟨rfl, HB4.out⟩)
  | false =>
    have di : (I == ino) = false := by rw [beq_eq_false_iff_ne]; exact of_decide_eq_false hI
    rcases HL.out with hl | hl | hl
    all_goals
      subst hl
      rcases part e1 with ⟨r1, p1, q1⟩ | ⟨r1, p1⟩ | ⟨r1, p1, q1⟩
      all_goals
        rcases part e2 with ⟨r2, p2, q2⟩ | ⟨r2, p2⟩ | ⟨r2, p2, q2⟩
        all_goals first
          | (exfalso; rw [hI] at r1; simp at r1; done)
          | (exfalso; rw [hI] at r2; simp at r2; done)
          | (clear e1 e2 r1 r2 hl0 hI
             go_wp2_with fail
             refine (HF.out _).mono ?_
             rintro e w4 ⟨rfl, hb4⟩
             have HB4 := Lib.hid (keeps HB3.out hb4)
             clear hb4
             go_wp2_with fail
             go_ret
             exact ⟨rfl, HB4.out⟩)
theorem ranges_law (hF : FixOk) (hE : EntriesOk) (hB : BlocksOk) (ino n : Int) (key : ByteArray) (w : World) (h0 : 0 ≤ ino) (h1 : ino ≤ 4294967295) (h2 : -9223372036854775808 ≤ n) (h3 : n ≤ 9223372036854775807) (hk : key.size ≤ maxLen) : Calls Try.prog 5 #[.int .u32 ino, .int .i64 n, .string key] w fun e w' => e = .returned (.bool true) ∧ Below w.heap.size w w' := by
  unfold maxLen at hk
  by_cases hb : 3000 < key.size
  · exact ranges_big hF ino n key w hb hk
  rcases sp_ways key with h | ⟨h, h'⟩ | ⟨h, h', h''⟩ | ⟨h, h'⟩
  · exact ranges_none hF hE hB ino n key w h0 h1 h2 h3 (by omega) h
  · exact ranges_some hF hE hB ino n key w h0 h1 h2 h3 (by omega) _ _ _ _ (sp_73 h h') (.inl rfl)
  · exact ranges_some hF hE hB ino n key w h0 h1 h2 h3 (by omega) _ _ _ _ (sp_69 h h' h'') (.inr (.inl rfl))
  · exact ranges_some hF hE hB ino n key w h0 h1 h2 h3 (by omega) _ _ _ _ (sp_68 h h') (.inr (.inr rfl))
end Go.Proofs.Ytipiibjghmafjaa.KeysX
