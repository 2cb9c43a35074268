/- The walks of layer 15's laws NodeGets, NodeNew, NodeBlocks and NodeCuts, over what the project's functions are asked. -/
import Derived.Test.YtpkajgabanjglaaNodeL
namespace Go.Proofs.Ytpkajgabanjglaa.NodeLa
set_option linter.unusedVariables false
set_option linter.unusedSimpArgs false
open Go.RowKit
open Go.Proofs.Ytpkajgabanjglaa.Byte Go.Proofs.Ytpkajgabanjglaa.PackM Go.Proofs.Ytpkajgabanjglaa.KeysR Go.Proofs.Ytpkajgabanjglaa.NodeM Go.Proofs.Ytpkajgabanjglaa.NodeR Go.Proofs.Ytpkajgabanjglaa.NodeG Go.Proofs.Ytpkajgabanjglaa.Lst Go.Proofs.Ytpkajgabanjglaa.NodeL
open Go.Proofs.Ytpkajgabanjglaa.Own hiding keeps

theorem cells4 {W : World} {b : Nat} {x0 x1 x2 x3 : Value} {T : TypeId} (h : Blk W b #[x0, x1, x2, x3] T) : W.cell? ⟨b, 0, none⟩ = some x0 ∧ W.cell? ⟨b, 1, none⟩ = some x1 ∧ W.cell? ⟨b, 2, none⟩ = some x2 ∧ W.cell? ⟨b, 3, none⟩ = some x3 :=
  ⟨h.cell 0, h.cell 1, h.cell 2, h.cell 3⟩
set_option maxRecDepth 100000 in
set_option maxHeartbeats 4000000 in
theorem gets_law (hP : PutOk) (hG : GetOk) (hF : FixOk) (t : ByteArray) (w : World) (hn : t.size ≤ maxLen) :
    Calls Try.prog 4 #[.string t] w fun e w' => e = .returned (.bool true) ∧ Below w.heap.size w w' := by
  have HF := Lib.hid hF
  have HG := Lib.hid (fun w => hG t w hn)
  have HR := Lib.hid (fun w => refget_calls15 t w hn)
  unfold GetE at HG HR
  have EZ := eq4 0 0 0 0
  unfold maxLen at hn
  have hs : (t.size : Int) ≤ 9223372036854775807 := by omega
  cases hb : gok t with
  | true =>
    have b1 := g_bd t 1
    have b5 := g_bd t 5
    have b9 := g_bd t 9
    have b0 := gk_bd t
    have HP := Lib.hid (fun w => hP (gk t) (gl t) (gs t) (gp t) w b0.1 b0.2 b1.1 b1.2 b5.1 b5.2 b9.1 b9.2)
    rw [put_back hb] at HP
    rw [getv_yes hb] at HG HR
    generalize gl t = L at *
    generalize gs t = S at *
    generalize gp t = Q at *
    generalize gk t = K at *
    have EQ := eq4 K L S Q
    clear hb hP hG hF b1 b5 b9 b0
    go_enter Try.func4, Try.ntmps4
    go_wp2_with fail
    refine (HG.out _).mono ?_
    rintro e w1 ⟨rfl, hb1⟩
    have HX1 := Lib.hid (Blk.new_ w1 #[.int .u8 K, .int .u32 L, .int .u32 S, .int .u32 Q] 24)
    have HB1 := Lib.hid (hb1.alloc hb1.size (.cells #[.int .u8 K, .int .u32 L, .int .u32 S, .int .u32 Q] 24))
    clear hb1
    go_wp2_with fail
    refine (HR.out _).mono ?_
    rintro e w2 ⟨rfl, hb2⟩
    have HX2 := Lib.hid ((HX1.out.below hb2).alloc (.cells #[.int .u8 K, .int .u32 L, .int .u32 S, .int .u32 Q] 24))
    have HY2 := Lib.hid (Blk.new_ w2 #[.int .u8 K, .int .u32 L, .int .u32 S, .int .u32 Q] 24)
    have HB2 := Lib.hid ((keeps HB1.out hb2).alloc (keeps HB1.out hb2).size (.cells #[.int .u8 K, .int .u32 L, .int .u32 S, .int .u32 Q] 24))
    clear hb2
    go_wp2_with fail
    refine (HF.out _).mono ?_
    rintro e w3 ⟨rfl, hb3⟩
    have HB3 := Lib.hid (keeps HB2.out hb3)
    obtain ⟨c0, c1, c2, c3⟩ := cells4 (HX2.out.below hb3)
    obtain ⟨d0, d1, d2, d3⟩ := cells4 (HY2.out.below hb3)
    clear hb3
    go_wp2_with fail
    refine (HP.out _).mono ?_
    rintro e w4 ⟨rfl, hb4⟩
    have HB4 := Lib.hid (keeps HB3.out hb4)
    clear hb4
    go_wp2_with fail
    go_ret
    exact ⟨rfl, HB4.out⟩
  | false =>
    rw [getv_no hb] at HG HR
    clear hb hP hG hF
    go_enter Try.func4, Try.ntmps4
    go_wp2_with fail
    refine (HG.out _).mono ?_
    rintro e w1 ⟨rfl, hb1⟩
    have HX1 := Lib.hid (Blk.new_ w1 #[.int .u8 0, .int .u32 0, .int .u32 0, .int .u32 0] 24)
    have HB1 := Lib.hid (hb1.alloc hb1.size (.cells #[.int .u8 0, .int .u32 0, .int .u32 0, .int .u32 0] 24))
    clear hb1
    go_wp2_with fail
    refine (HR.out _).mono ?_
    rintro e w2 ⟨rfl, hb2⟩
    have HX2 := Lib.hid ((HX1.out.below hb2).alloc (.cells #[.int .u8 0, .int .u32 0, .int .u32 0, .int .u32 0] 24))
    have HY2 := Lib.hid (Blk.new_ w2 #[.int .u8 0, .int .u32 0, .int .u32 0, .int .u32 0] 24)
    have HB2 := Lib.hid ((keeps HB1.out hb2).alloc (keeps HB1.out hb2).size (.cells #[.int .u8 0, .int .u32 0, .int .u32 0, .int .u32 0] 24))
    clear hb2
    go_wp2_with fail
    refine (HF.out _).mono ?_
    rintro e w3 ⟨rfl, hb3⟩
    have HB3 := Lib.hid (keeps HB2.out hb3)
    obtain ⟨c0, c1, c2, c3⟩ := cells4 (HX2.out.below hb3)
    obtain ⟨d0, d1, d2, d3⟩ := cells4 (HY2.out.below hb3)
    clear hb3
    go_wp2_with fail
    go_ret
    exact ⟨rfl, HB3.out⟩
theorem three (w : World) (A B C : Array Value) (T : TypeId) : Blk (((w.alloc (.cells A T)).alloc (.cells B T)).alloc (.cells C T)) w.heap.size A T ∧ Blk (((w.alloc (.cells A T)).alloc (.cells B T)).alloc (.cells C T)) (w.heap.size + 1) B T ∧ Blk (((w.alloc (.cells A T)).alloc (.cells B T)).alloc (.cells C T)) (w.heap.size + 1 + 1) C T ∧ Below w.heap.size w (((w.alloc (.cells A T)).alloc (.cells B T)).alloc (.cells C T)) := by
  refine ⟨((Blk.new_ w A T).alloc _).alloc _, ?_, ?_, (((Below.refl _ _).alloc (Nat.le_refl _) _).alloc (by simp) _).alloc (by simp; omega) _⟩
  · have := (Blk.new_ (w.alloc (.cells A T)) B T).alloc (.cells C T)
    simpa using this
  · have := Blk.new_ ((w.alloc (.cells A T)).alloc (.cells B T)) C T
    simpa using this
set_option maxRecDepth 100000 in
set_option maxHeartbeats 4000000 in
theorem new_law (hM : MayOk) (hN : NewOk) (hR : RootOk) (hF : FixOk) (k p : Int) (w : World) (k0 : 0 ≤ k) (k1 : k ≤ 255) (p0 : 0 ≤ p) (p1 : p ≤ 4294967295) :
    Calls Try.prog 5 #[.int .u8 k, .int .u32 p] w fun e w' => e = .returned (.bool true) ∧ Below w.heap.size w w' := by
  have HF := Lib.hid hF
  have HN := Lib.hid (fun w => hN k p w k0 k1 p0 p1)
  have HR := Lib.hid hR
  have HMR := Lib.hid (fun w => hM 2 2 0 1 w (by omega) (by omega) (by omega) (by omega) (by omega) (by omega) (by omega) (by omega))
  rw [show may 2 2 0 1 = true by decide] at HMR
  have ER := eq4 2 2 0 1
  unfold newV at HN
  by_cases hk : k = 1
  · rw [if_pos hk] at HN
    have HM := Lib.hid (fun w => hM 1 1 0 0 w (by omega) (by omega) (by omega) (by omega) (by omega) (by omega) (by omega) (by omega))
    rw [show may 1 1 0 0 = true by decide] at HM
    have EQ := eq4 1 1 0 0
    have dk : (k == 1) = true := by simpa using hk
    clear hM hN hR hF hk
    go_enter Try.func5, Try.ntmps5
    go_wp2_with fail
    refine (HN.out _).mono ?_
    rintro e w1 ⟨rfl, hb1⟩
    have HB1 := Lib.hid hb1
    clear hb1
    go_wp2_with fail
    refine (HR.out _).mono ?_
    rintro e w2 ⟨rfl, hb2⟩
    have HB2 := Lib.hid (keeps HB1.out hb2)
    clear hb2
    go_wp2_with fail
    obtain ⟨t1, t2, t3, t4⟩ := three w2 #[.int .u8 1, .int .u32 1, .int .u32 0, .int .u32 0] #[.int .u8 2, .int .u32 2, .int .u32 0, .int .u32 1] #[.int .u8 1, .int .u32 1, .int .u32 0, .int .u32 0] 24
    have HB3 := Lib.hid (keeps HB2.out t4)
    refine (HF.out _).mono ?_
    rintro e w3 ⟨rfl, hb3⟩
    have HB4 := Lib.hid (keeps HB3.out hb3)
    obtain ⟨c0, c1, c2, c3⟩ := cells4 (t1.below hb3)
    have HR2 := Lib.hid (t2.below hb3)
    obtain ⟨e0, e1, e2, e3⟩ := cells4 (t3.below hb3)
    clear t1 t2 t3 t4 hb3
    go_wp2_with fail
    refine (HM.out _).mono ?_
    rintro e w4 ⟨rfl, hb4⟩
    have HB5 := Lib.hid (keeps HB4.out hb4)
    obtain ⟨d0, d1, d2, d3⟩ := cells4 (HR2.out.below hb4)
    clear hb4
    go_wp2_with fail
    refine (HMR.out _).mono ?_
    rintro e w5 ⟨rfl, hb5⟩
    have HB6 := Lib.hid (keeps HB5.out hb5)
    clear hb5
    go_wp2_with fail
    go_ret
    exact ⟨rfl, HB6.out⟩
  · rw [if_neg hk] at HN
    have HM := Lib.hid (fun w => hM 2 2 0 p w (by omega) (by omega) (by omega) (by omega) (by omega) (by omega) p0 p1)
    rw [show may 2 2 0 p = true by rw [may_else (by omega)]; decide] at HM
    have EQ := eq4 2 2 0 p
    have dk : (k == 1) = false := by simpa using hk
    clear hM hN hR hF hk
    go_enter Try.func5, Try.ntmps5
    go_wp2_with fail
    refine (HN.out _).mono ?_
    rintro e w1 ⟨rfl, hb1⟩
    have HB1 := Lib.hid hb1
    clear hb1
    go_wp2_with fail
    refine (HR.out _).mono ?_
    rintro e w2 ⟨rfl, hb2⟩
    have HB2 := Lib.hid (keeps HB1.out hb2)
    clear hb2
    go_wp2_with fail
    obtain ⟨t1, t2, t3, t4⟩ := three w2 #[.int .u8 2, .int .u32 2, .int .u32 0, .int .u32 p] #[.int .u8 2, .int .u32 2, .int .u32 0, .int .u32 1] #[.int .u8 2, .int .u32 2, .int .u32 0, .int .u32 p] 24
    have HB3 := Lib.hid (keeps HB2.out t4)
    refine (HF.out _).mono ?_
    rintro e w3 ⟨rfl, hb3⟩
    have HB4 := Lib.hid (keeps HB3.out hb3)
    obtain ⟨c0, c1, c2, c3⟩ := cells4 (t1.below hb3)
    have HR2 := Lib.hid (t2.below hb3)
    obtain ⟨e0, e1, e2, e3⟩ := cells4 (t3.below hb3)
    clear t1 t2 t3 t4 hb3
    go_wp2_with fail
    refine (HM.out _).mono ?_
    rintro e w4 ⟨rfl, hb4⟩
    have HB5 := Lib.hid (keeps HB4.out hb4)
    obtain ⟨d0, d1, d2, d3⟩ := cells4 (HR2.out.below hb4)
    clear hb4
    go_wp2_with fail
    refine (HMR.out _).mono ?_
    rintro e w5 ⟨rfl, hb5⟩
    have HB6 := Lib.hid (keeps HB5.out hb5)
    clear hb5
    go_wp2_with fail
    go_ret
    exact ⟨rfl, HB6.out⟩
theorem blk_pos {n : Int} (h : 0 < n) : blk n = (n - 1) / 64 + 1 := if_neg (by omega)
theorem blk_no {n : Int} (h : n ≤ 0) : blk n = 0 := if_pos h
set_option maxRecDepth 100000 in
set_option maxHeartbeats 4000000 in
theorem blocks_law (hB : BlocksOk) (hF : FixOk) (n : Int) (w : World) (h0 : -9223372036854775808 ≤ n) (h1 : n ≤ 9223372036854775807) :
    Calls Try.prog 7 #[.int .i64 n] w fun e w' => e = .returned (.bool true) ∧ Below w.heap.size w w' := by
  have HF := Lib.hid hF
  have HB := Lib.hid (fun w => hB n w h0 h1)
  by_cases hn : n ≤ 0
  · rw [blk_no hn] at HB
    have d := decide_eq_true hn
    clear hF hB
    go_enter Try.func7, Try.ntmps7
    go_wp2_with fail
    refine (HB.out _).mono ?_
    rintro e w1 ⟨rfl, hb1⟩
    have HB1 := Lib.hid hb1
    clear hb1
    go_wp2_with fail
    refine (HF.out _).mono ?_
    rintro e w2 ⟨rfl, hb2⟩
    have HB2 := Lib.hid (keeps HB1.out hb2)
    clear hb2
    go_wp2_with fail
    go_ret
    exact ⟨rfl, HB2.out⟩
  · rw [blk_pos (by omega)] at HB
    have d := decide_eq_false hn
    have q0 : 0 ≤ n - 1 := by omega
    obtain ⟨q, hq⟩ : ∃ q, (n - 1) / 64 = q := ⟨_, rfl⟩
    have q1 : 64 * q ≤ n - 1 := by omega
    have q2 : n - 1 < 64 * q + 64 := by omega
    have q3 : 0 ≤ q := by omega
    have q4 : q ≤ 144115188075855871 := by omega
    rw [hq] at HB
    have ht : Int.tdiv (n - 1) 64 = q := by rw [Int.tdiv_eq_ediv_of_nonneg q0]; exact hq
    clear hF hB hn
    go_enter Try.func7, Try.ntmps7
    go_wp2_with fail
    refine (HB.out _).mono ?_
    rintro e w1 ⟨rfl, hb1⟩
    have HB1 := Lib.hid hb1
    clear hb1
    go_wp2_with fail
    refine (HF.out _).mono ?_
    rintro e w2 ⟨rfl, hb2⟩
    have HB2 := Lib.hid (keeps HB1.out hb2)
    clear hb2
    have d1 : decide (0 < q + 1) = true := by simp; omega
    have d2 : decide (q ≤ q + 1) = true := by simp; omega
    have d3 : decide (q ≤ q) = true := by simp
    have d4 : decide (q * 64 < n) = true := by simp; omega
    go_wp2_with fail
    go_ret
    exact ⟨rfl, HB2.out⟩
theorem cutl_no {a n : Int} (h : a < 0 ∨ n ≤ 0 ∨ 4096 < a ∨ 4096 - a < n) : cutL a n = [] := if_pos h
theorem cutl_yes {a n : Int} (h : ¬ (a < 0 ∨ n ≤ 0 ∨ 4096 < a ∨ 4096 - a < n)) : cutL a n = cuts n.toNat a n := if_neg h
set_option maxRecDepth 100000 in
set_option maxHeartbeats 4000000 in
theorem cuts_no (hC : CutOk) (hF : FixOk) (a n : Int) (w : World) (h0 : -9223372036854775808 ≤ a) (h1 : a ≤ 9223372036854775807) (h2 : -9223372036854775808 ≤ n) (h3 : n ≤ 9223372036854775807) (h : a < 0 ∨ n ≤ 0 ∨ 4096 < a ∨ 4096 - a < n) :
    Calls Try.prog 6 #[.int .i64 a, .int .i64 n] w fun e w' => e = .returned (.bool true) ∧ Below w.heap.size w w' := by
  have HF := Lib.hid hF
  have HC := Lib.hid (fun w => hC a n w h0 h1 h2 h3)
  unfold CutE at HC
  rw [cutl_no h] at HC
  clear hF hC
  have ways : decide (a < 0) = true ∨ (decide (a < 0) = false ∧ decide (n ≤ 0) = true) ∨ (decide (a < 0) = false ∧ decide (n ≤ 0) = false ∧ decide (4096 < a) = true) ∨ (0 ≤ a ∧ a ≤ 4096 ∧ decide (a < 0) = false ∧ decide (n ≤ 0) = false ∧ decide (4096 < a) = false ∧ decide (4096 - a < n) = true) := by
    simp only [decide_eq_true_eq, decide_eq_false_iff_not]
    omega
  clear h
  rcases ways with d1 | ⟨d1, d2⟩ | ⟨d1, d2, d3⟩ | ⟨a0, a1, d1, d2, d3, d4⟩
  all_goals
    go_enter Try.func6, Try.ntmps6
    go_wp2_with fail
    refine (HC.out _).mono ?_
    rintro e w1 ⟨A, m, c, rfl, hso, hb1⟩
    obtain rfl : 0 = m := hso.1
    have HB1 := Lib.hid hb1
    clear hso hb1
    go_wp2_with fail
    refine (HF.out _).mono ?_
    rintro e w2 ⟨rfl, hb2⟩
    have HB2 := Lib.hid (keeps HB1.out hb2)
    clear hb2
    go_wp2_with fail
    go_ret
    exact ⟨rfl, HB2.out⟩
theorem whole_at {a z : Int} {first : Bool} {L : List (Int × Int × Int)} (h : Whole a first L z) {x : Int × Int × Int} {r : List (Int × Int × Int)} (e : L = x :: r) : x.1 * 64 + x.2.1 = a ∧ 0 ≤ x.2.1 ∧ 1 ≤ x.2.2 ∧ x.2.1 + x.2.2 ≤ 64 ∧ 0 ≤ x.1 ∧ x.1 ≤ 64 ∧ (first = false → x.2.1 = 0) ∧ Whole (a + x.2.2) false r z := by
  subst e
  exact h
theorem drop_at {α : Type} {L : List α} {k : Nat} {x : α} (h : L[k]? = some x) : L.drop k = x :: L.drop (k + 1) := by
  obtain ⟨hk, he⟩ := List.getElem?_eq_some_iff.1 h
  rw [List.drop_eq_getElem_cons hk, he]
set_option maxRecDepth 100000 in
set_option maxHeartbeats 8000000 in
theorem cuts_yes (hC : CutOk) (hF : FixOk) (a n : Int) (w : World) (h : ¬ (a < 0 ∨ n ≤ 0 ∨ 4096 < a ∨ 4096 - a < n)) :
    Calls Try.prog 6 #[.int .i64 a, .int .i64 n] w fun e w' => e = .returned (.bool true) ∧ Below w.heap.size w w' := by
  have HF := Lib.hid hF
  have HC := Lib.hid (fun w => hC a n w (by omega) (by omega) (by omega) (by omega))
  unfold CutE at HC
  rw [cutl_yes h] at HC
  have a0 : 0 ≤ a := by omega
  have a1 : a ≤ 4096 := by omega
  have n0 : 1 ≤ n := by omega
  have n1 : a + n ≤ 4096 := by omega
  have HW := Lib.hid (Whole.cuts (fuel := n.toNat) (a := a) (n := n) (first := true) a0 n1 (by omega) (by omega) (fun hx => by cases hx))
  generalize cuts n.toNat a n = L at HC HW
  have d1 : decide (a < 0) = false := by simp; omega
  have d2 : decide (n ≤ 0) = false := by simp; omega
  have d3 : decide (4096 < a) = false := by simp; omega
  have d4 : decide (4096 - a < n) = false := by simp; omega
  clear hF hC h
  go_enter Try.func6, Try.ntmps6
  go_wp2_with fail
  refine (HC.out _).mono ?_
  rintro e w1 ⟨A, m, c, rfl, hso, hb1⟩
  have HB1 := Lib.hid hb1
  have HS := Lib.hid hso.sl
  have hm : (m : Int) ≤ 9223372036854775807 := by
    rcases hso.form with ⟨_, e⟩ | ⟨g, cap, e, _, _, q1, q2⟩
    · omega
    · unfold maxLen at q2
      omega
  clear hso hb1
  go_wp2
  go_loopw [6, 37] (fun t i wr => ∃ (k : Nat) (b : Int), k ≤ m ∧ i = .int .i64 k ∧ t = .int .i64 b ∧ 0 ≤ b ∧ b ≤ 4160 ∧ Hid (Whole b (decide (k = 0)) (L.drop k) (a + n)) ∧ Below w1.heap.size w1 wr) (fun _ i _ => m - (intOf i).toNat)
  case atStart => exact ⟨0, a, Nat.zero_le _, rfl, rfl, a0, by omega, Lib.hid HW.out, Below.refl _ _⟩
  case round =>
    obtain ⟨k, b, hk, rfl, rfl, hb0, hb9, HK, hbel⟩ := hrel
    by_cases hlt : k < m
    · obtain ⟨⟨x, y, z⟩, g, o, hx, rfl, hg, hcl⟩ := (HS.out.below hbel).get k hlt
      obtain ⟨q1, q2, q3, q4, q5, q6, q7, q8⟩ := whole_at HK.out (drop_at hx)
      dsimp only at q1 q2 q3 q4 q5 q6 q7 q8
      have HC3 : Hid (wr.rangeAt g (o + k * 3) [.int .i64 x, .int .i64 y, .int .i64 z]) := Lib.hid hcl
      have hz : b + z ≤ 4160 := by omega
      have HN : Hid (Whole (b + z) (decide (k + 1 = 0)) (L.drop (k + 1)) (a + n)) := Lib.hid (by rw [decide_eq_false (by omega)]; exact q8)
      have HBL := Lib.hid hbel
      have e1 : (x * 64 + y == b) = true := by rw [q1]; simp
      have e1' : (x * 64 + y != b) = false := by rw [q1]; simp
      have e2 : decide (y < 0) = false := by simp; omega
      have e3 : decide (z < 1) = false := by simp; omega
      have e4 : decide (64 < y + z) = false := by simp; omega
      have Q7 := Lib.hid q7
      clear hcl hx q1 q7 q8 hbel
      rcases Nat.eq_zero_or_pos k with h0 | h0
      · have HK0 := Lib.hid h0
        have e5 : decide ((0 : Int) < (k : Int)) = false := by simp; omega
        have e5' : decide (0 < k) = false := by simp; omega
        clear h0
        go_wp2_with ((with_reducible refine pick (some 41) ?_); refine wpList_load_mid rfl 36 _ rfl g (o + k * 3) rfl _ _ HC3.out Try.underlying36 rfl info3 ?_)
        go_roundw
        case rel => exact ⟨k + 1, b + z, by omega, by go_num, rfl, by omega, hz, HN, HBL.out.alloc HBL.out.size _⟩
        case measure => simp [intOf]; omega
      · have e5 : decide ((0 : Int) < (k : Int)) = true := by simp; omega
        have e5' : decide (0 < k) = true := by simp; omega
        have hy : y = 0 := Q7.out (decide_eq_false (by omega))
        have e6 : (y != 0) = false := by rw [hy]; rfl
        have e7 : (y == 0) = true := by rw [hy]; rfl
        clear h0 hy
        go_wp2_with ((with_reducible refine pick (some 41) ?_); refine wpList_load_mid rfl 36 _ rfl g (o + k * 3) rfl _ _ HC3.out Try.underlying36 rfl info3 ?_)
        go_roundw
        case rel => exact ⟨k + 1, b + z, by omega, by go_num, rfl, by omega, hz, HN, HBL.out.alloc HBL.out.size _⟩
        case measure => simp [intOf]; omega
    · obtain rfl : k = m := by omega
      have hend : b = a + n := by
        have := HK.out
        rw [List.drop_of_length_le (by rw [HS.out.1]; exact Nat.le_refl _)] at this
        exact this
      subst hend
      have HBL := Lib.hid (keeps HB1.out hbel)
      clear hbel
      go_wp2_with fail
      refine (HF.out _).mono ?_
      rintro e w3 ⟨rfl, hb3⟩
      have HB3 := Lib.hid (keeps HBL.out hb3)
      clear hb3
      go_wp2_with fail
      go_ret
      exact ⟨rfl, HB3.out⟩
theorem cuts_law (hC : CutOk) (hF : FixOk) (a n : Int) (w : World) (h0 : -9223372036854775808 ≤ a) (h1 : a ≤ 9223372036854775807) (h2 : -9223372036854775808 ≤ n) (h3 : n ≤ 9223372036854775807) :
    Calls Try.prog 6 #[.int .i64 a, .int .i64 n] w fun e w' => e = .returned (.bool true) ∧ Below w.heap.size w w' := by
  by_cases h : a < 0 ∨ n ≤ 0 ∨ 4096 < a ∨ 4096 - a < n
  · exact cuts_no hC hF a n w h0 h1 h2 h3 h
  · exact cuts_yes hC hF a n w h
end Go.Proofs.Ytpkajgabanjglaa.NodeLa
