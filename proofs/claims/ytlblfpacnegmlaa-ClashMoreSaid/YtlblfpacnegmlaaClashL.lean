/- Layer 21's laws ClashIs and ClashMore, over what the project's Clash is asked. -/
import Derived.Test.YtlblfpacnegmlaaClashR
namespace Go.Proofs.Ytlblfpacnegmlaa.ClashL
set_option linter.unusedVariables false
set_option linter.unusedSimpArgs false
open Go.RowKit
open Go.Proofs.Ytlblfpacnegmlaa.Byte Go.Proofs.Ytlblfpacnegmlaa.KeysM Go.Proofs.Ytlblfpacnegmlaa.TreeM Go.Proofs.Ytlblfpacnegmlaa.ViewM Go.Proofs.Ytlblfpacnegmlaa.ClashM Go.Proofs.Ytlblfpacnegmlaa.Rw Go.Proofs.Ytlblfpacnegmlaa.Lst Go.Proofs.Ytlblfpacnegmlaa.TreeR Go.Proofs.Ytlblfpacnegmlaa.ViewR Go.Proofs.Ytlblfpacnegmlaa.ClashR
open Go.Proofs.Ytlblfpacnegmlaa.Tx hiding wpList_append_any
open Go.Proofs.Ytlblfpacnegmlaa.Own (keeps)

def ClashOk : Prop := ∀ (A B C : Option Addr) (n c m c2 q c3 : Nat) (R : List ByteArray) (G : List (ByteArray × ByteArray)) (W : List Pr) (w : World), Sl txE w A n R → Sl rgE w B m G → Sl prE w C q W → n ≤ 100000 → m ≤ 100000 → q ≤ 100000 → (∀ t ∈ R, t.size ≤ 140737488351232) →
  Calls Try.prog 7 #[.slice A n c, .slice B m c2, .slice C q c3] w fun e w' => e = .returned (.bool (clashM R G W)) ∧ Below w.heap.size w w'
def FixOk : Prop := ∀ w : World, Calls Try.prog 6 #[] w fun e w' => e = .returned (.bool true) ∧ Below w.heap.size w w'
theorem below_lit {w : World} (cs : Array Value) (T : TypeId) : Below w.heap.size w (w.alloc (.cells cs T)) := (Below.refl _ _).alloc (Nat.le_refl _) _
set_option maxRecDepth 100000 in
set_option maxHeartbeats 4000000 in
theorem fixed_calls (hC : ClashOk) : FixOk := by
  intro w
  have HC := Lib.hid hC
  have x1 : clashM [⟨#[97]⟩] [] [⟨⟨#[97]⟩, ⟨#[]⟩, false⟩] = true := by decide +kernel
  have x2 : clashM [] [(⟨#[97]⟩, ⟨#[99]⟩)] [⟨⟨#[98]⟩, ⟨#[]⟩, false⟩] = true := by decide +kernel
  have x3 : clashM [] [(⟨#[97]⟩, ⟨#[99]⟩)] [⟨⟨#[99]⟩, ⟨#[]⟩, false⟩] = false := by decide +kernel
  have X1 := Lib.hid x1
  have X2 := Lib.hid x2
  have X3 := Lib.hid x3
  clear hC x1 x2 x3
  obtain ⟨W1, hW1⟩ : ∃ W1, ((w.alloc (.cells #[.string ⟨#[97]⟩, .string ⟨#[99]⟩] 47)).alloc (.cells #[.string ⟨#[97]⟩] 9)).alloc (.cells #[.string ⟨#[97]⟩, .string ⟨#[]⟩, .bool false] 49) = W1 := ⟨_, rfl⟩
  have hB1 : Below w.heap.size w W1 := by rw [← hW1]; exact (((Below.refl _ _).alloc (Nat.le_refl _) _).alloc (by simp) _).alloc (by simp; omega) _
  have hG1 : Sl rgE W1 (some ⟨w.heap.size, 0, none⟩) 1 [(⟨#[97]⟩, ⟨#[99]⟩)] := by
    rw [← hW1]
    exact ((Sl.new_ rgE w _ (⟨#[97]⟩, ⟨#[99]⟩) _ rfl).below (below_lit _ _)).below (below_lit _ _)
  have hR1 : Sl txE W1 (some ⟨w.heap.size + 1, 0, none⟩) 1 [⟨#[97]⟩] := by
    rw [← hW1]
    have := (Sl.new_ txE (w.alloc (.cells #[.string ⟨#[97]⟩, .string ⟨#[99]⟩] 47)) 9 ⟨#[97]⟩ #[.string ⟨#[97]⟩] rfl).below (below_lit #[.string ⟨#[97]⟩, .string ⟨#[]⟩, .bool false] 49)
    simpa using this
  have hP1 : Sl prE W1 (some ⟨w.heap.size + 1 + 1, 0, none⟩) 1 [⟨⟨#[97]⟩, ⟨#[]⟩, false⟩] := by
    rw [← hW1]
    have := Sl.new_ prE ((w.alloc (.cells #[.string ⟨#[97]⟩, .string ⟨#[99]⟩] 47)).alloc (.cells #[.string ⟨#[97]⟩] 9)) 49 ⟨⟨#[97]⟩, ⟨#[]⟩, false⟩ #[.string ⟨#[97]⟩, .string ⟨#[]⟩, .bool false] rfl
    simpa using this
  have HW1 := Lib.hid hW1
  have HB1 := Lib.hid hB1
  have HG1 := Lib.hid hG1
  have HR1 := Lib.hid hR1
  have HP1 := Lib.hid hP1
  clear hW1 hB1 hG1 hR1 hP1
  go_enter Try.func6, Try.ntmps6
  go_wp2_with fail
  rw [HW1.out]
  refine (HC.out _ _ _ 1 1 0 0 1 1 _ _ _ W1 HR1.out (Sl.nil_ _ _ _) HP1.out (by omega) (by omega) (by omega) (fun t ht => by rw [List.mem_singleton] at ht; rw [ht]; decide)).mono ?_
  rw [X1.out]
  rintro e w2 ⟨rfl, hb2⟩
  have HB2 := Lib.hid ((keeps HB1.out hb2).alloc (keeps HB1.out hb2).size (.cells #[.string ⟨#[98]⟩, .string ⟨#[]⟩, .bool false] 49))
  have HG2 := Lib.hid ((HG1.out.below hb2).below (below_lit #[.string ⟨#[98]⟩, .string ⟨#[]⟩, .bool false] 49))
  have HP2 := Lib.hid (Sl.new_ prE w2 49 ⟨⟨#[98]⟩, ⟨#[]⟩, false⟩ #[.string ⟨#[98]⟩, .string ⟨#[]⟩, .bool false] rfl)
  clear hb2
  go_wp2_with fail
  refine (HC.out _ _ _ 0 0 1 1 1 1 _ _ _ _ (Sl.nil_ _ _ _) HG2.out HP2.out (by omega) (by omega) (by omega) (fun t ht => by cases ht)).mono ?_
  rw [X2.out]
  rintro e w3 ⟨rfl, hb3⟩
  have HB3 := Lib.hid ((keeps HB2.out hb3).alloc (keeps HB2.out hb3).size (.cells #[.string ⟨#[99]⟩, .string ⟨#[]⟩, .bool false] 49))
  have HG3 := Lib.hid ((HG2.out.below hb3).below (below_lit #[.string ⟨#[99]⟩, .string ⟨#[]⟩, .bool false] 49))
  have HP3 := Lib.hid (Sl.new_ prE w3 49 ⟨⟨#[99]⟩, ⟨#[]⟩, false⟩ #[.string ⟨#[99]⟩, .string ⟨#[]⟩, .bool false] rfl)
  clear hb3
  go_wp2_with fail
  refine (HC.out _ _ _ 0 0 1 1 1 1 _ _ _ _ (Sl.nil_ _ _ _) HG3.out HP3.out (by omega) (by omega) (by omega) (fun t ht => by cases ht)).mono ?_
  rw [X3.out]
  rintro e w4 ⟨rfl, hb4⟩
  have HB4 := Lib.hid (keeps HB3.out hb4)
  clear hb4
  go_wp2_with fail
  go_ret
  exact ⟨rfl, HB4.out⟩
theorem big3 {n m q : Nat} (h : 200 < n ∨ 200 < m ∨ 200 < q) : (decide (200 < n) = true) ∨ (decide (200 < n) = false ∧ decide (200 < m) = true) ∨ (decide (200 < n) = false ∧ decide (200 < m) = false ∧ decide (200 < q) = true) := by
  simp only [decide_eq_true_eq, decide_eq_false_iff_not]
  omega
theorem up {n : Nat} {b : Bool} (h : decide (200 < n) = b) : decide ((200 : Int) < (n : Int)) = b := by rw [← h]; exact decide_eq_decide.2 (by omega)
set_option maxRecDepth 100000 in
set_option maxHeartbeats 4000000 in
theorem is_law (hC : ClashOk) (hF : FixOk) (A B C : Option Addr) (n c m c2 q c3 : Nat) (R : List ByteArray) (G : List (ByteArray × ByteArray)) (W : List Pr) (w : World) (hr : Sl txE w A n R) (hg : Sl rgE w B m G) (hw : Sl prE w C q W) (hsz : ∀ t ∈ R, t.size ≤ 140737488351232) :
    Calls Try.prog 3 #[.slice A n c, .slice B m c2, .slice C q c3] w fun e w' => e = .returned (.bool true) ∧ Below w.heap.size w w' := by
  have HF := Lib.hid hF
  by_cases hbig : 200 < n ∨ 200 < m ∨ 200 < q
  · have ways := big3 hbig
    clear hbig hC hF hr hg hw
    rcases ways with d | ⟨d, d2⟩ | ⟨d, d2, d3⟩
    · have e1 := up d
      go_enter Try.func3, Try.ntmps3
      go_wp2_with fail
      refine (HF.out _).mono ?_
      rintro e w1 ⟨rfl, hb1⟩
      have HB1 := Lib.hid hb1
      clear hb1
      go_wp2_with fail
      go_ret
      exact ⟨rfl, HB1.out⟩
    · have e1 := up d
      have e2 := up d2
      go_enter Try.func3, Try.ntmps3
      go_wp2_with fail
      refine (HF.out _).mono ?_
      rintro e w1 ⟨rfl, hb1⟩
      have HB1 := Lib.hid hb1
      clear hb1
      go_wp2_with fail
      go_ret
      exact ⟨rfl, HB1.out⟩
    · have e1 := up d
      have e2 := up d2
      have e3 := up d3
      go_enter Try.func3, Try.ntmps3
      go_wp2_with fail
      refine (HF.out _).mono ?_
      rintro e w1 ⟨rfl, hb1⟩
      have HB1 := Lib.hid hb1
      clear hb1
      go_wp2_with fail
      go_ret
      exact ⟨rfl, HB1.out⟩
  · have d : decide (200 < n) = false := decide_eq_false (by omega)
    have d2 : decide (200 < m) = false := decide_eq_false (by omega)
    have d3 : decide (200 < q) = false := decide_eq_false (by omega)
    have e1 := up d
    have e2 := up d2
    have e3 := up d3
    have hn : n ≤ 100000 := by omega
    have hm : m ≤ 100000 := by omega
    have hq : q ≤ 100000 := by omega
    have HC := Lib.hid (fun w hr hg hw => hC A B C n c m c2 q c3 R G W w hr hg hw hn hm hq hsz)
    have HCR := Lib.hid (fun w hr hg hw => refclash_calls A B C n c m c2 q c3 R G W w hr hg hw hn hm hq)
    have HR := Lib.hid hr
    have HG := Lib.hid hg
    have HW := Lib.hid hw
    generalize clashM R G W = X at HC HCR
    clear hbig hC hF hr hg hw hsz
    go_enter Try.func3, Try.ntmps3
    go_wp2_with fail
    refine (HF.out _).mono ?_
    rintro e w1 ⟨rfl, hb1⟩
    have HB1 := Lib.hid hb1
    clear hb1
    go_wp2_with fail
    refine (HC.out _ (HR.out.below HB1.out) (HG.out.below HB1.out) (HW.out.below HB1.out)).mono ?_
    rintro e w2 ⟨rfl, hb2⟩
    have HB2 := Lib.hid (keeps HB1.out hb2)
    clear hb2
    go_wp2_with fail
    refine (HCR.out _ (HR.out.below HB2.out) (HG.out.below HB2.out) (HW.out.below HB2.out)).mono ?_
    rintro e w3 ⟨rfl, rfl⟩
    go_wp2_with fail
    go_ret
    exact ⟨ret_bool (by simp), HB2.out⟩
theorem big5 {n m q r t : Nat} (h : 200 < n ∨ 200 < m ∨ 200 < q ∨ 200 < r ∨ 200 < t) : (decide (200 < n) = true) ∨ (decide (200 < n) = false ∧ decide (200 < m) = true) ∨ (decide (200 < n) = false ∧ decide (200 < m) = false ∧ decide (200 < q) = true) ∨ (decide (200 < n) = false ∧ decide (200 < m) = false ∧ decide (200 < q) = false ∧ decide (200 < r) = true) ∨ (decide (200 < n) = false ∧ decide (200 < m) = false ∧ decide (200 < q) = false ∧ decide (200 < r) = false ∧ decide (200 < t) = true) := by
  simp only [decide_eq_true_eq, decide_eq_false_iff_not]
  omega
set_option maxRecDepth 100000 in
set_option maxHeartbeats 4000000 in
/-- Of lists that are too long. -/
theorem more_big (hF : FixOk) (A M B C E : Option Addr) (n c nm cm m c2 q c3 k c4 : Nat) (w : World) (ways : (decide (200 < n) = true) ∨ (decide (200 < n) = false ∧ decide (200 < m) = true) ∨ (decide (200 < n) = false ∧ decide (200 < m) = false ∧ decide (200 < q) = true) ∨ (decide (200 < n) = false ∧ decide (200 < m) = false ∧ decide (200 < q) = false ∧ decide (200 < nm) = true) ∨ (decide (200 < n) = false ∧ decide (200 < m) = false ∧ decide (200 < q) = false ∧ decide (200 < nm) = false ∧ decide (200 < k) = true)) :
    Calls Try.prog 4 #[.slice A n c, .slice M nm cm, .slice B m c2, .slice C q c3, .slice E k c4] w fun e w' => e = .returned (.bool true) ∧ Below w.heap.size w w' := by
  have HF := Lib.hid hF
  clear hF
  rcases ways with d | ⟨d, d2⟩ | ⟨d, d2, d3⟩ | ⟨d, d2, d3, d4⟩ | ⟨d, d2, d3, d4, d5⟩
  all_goals
    have e1 := up d
    try have e2 := up d2
    try have e3 := up d3
    try have e4 := up d4
    try have e5 := up d5
    go_enter Try.func4, Try.ntmps4
    go_wp2_with fail
    refine (HF.out _).mono ?_
    rintro e w1 ⟨rfl, hb1⟩
    have HB1 := Lib.hid hb1
    clear hb1
    go_wp2_with fail
    go_ret
    exact ⟨rfl, HB1.out⟩
set_option maxRecDepth 100000 in
set_option maxHeartbeats 8000000 in
theorem more_law (hC : ClashOk) (hF : FixOk) (A M B C E : Option Addr) (n c nm cm m c2 q c3 k c4 : Nat) (R more : List ByteArray) (G : List (ByteArray × ByteArray)) (W others : List Pr) (w : World) (hr : Sl txE w A n R) (hm : Sl txE w M nm more) (hg : Sl rgE w B m G) (hw : Sl prE w C q W) (ho : Sl prE w E k others)
    (hsz : ∀ t ∈ R, t.size ≤ 140737488351232) (hsm : ∀ t ∈ more, t.size ≤ 140737488351232) (na : A = none → c = 0) (nmo : M = none → cm = 0) (nc : C = none → c3 = 0) (ne : E = none → c4 = 0) :
    Calls Try.prog 4 #[.slice A n c, .slice M nm cm, .slice B m c2, .slice C q c3, .slice E k c4] w fun e w' => e = .returned (.bool true) ∧ Below w.heap.size w w' := by
  by_cases hbig : 200 < n ∨ 200 < m ∨ 200 < q ∨ 200 < nm ∨ 200 < k
  · exact more_big hF A M B C E n c nm cm m c2 q c3 k c4 w (big5 hbig)
  · have HF := Lib.hid hF
    have d : decide (200 < n) = false := decide_eq_false (by omega)
    have d2 : decide (200 < m) = false := decide_eq_false (by omega)
    have d3 : decide (200 < q) = false := decide_eq_false (by omega)
    have d4 : decide (200 < nm) = false := decide_eq_false (by omega)
    have d5 : decide (200 < k) = false := decide_eq_false (by omega)
    have e1 := up d
    have e2 := up d2
    have e3 := up d3
    have e4 := up d4
    have e5 := up d5
    have n1 : n ≤ 200 := by omega
    have n2 : m ≤ 200 := by omega
    have n3 : q ≤ 200 := by omega
    have n4 : nm ≤ 200 := by omega
    have n5 : k ≤ 200 := by omega
    have HC := Lib.hid hC
    have HR := Lib.hid hr
    have HM := Lib.hid hm
    have HG := Lib.hid hg
    have HW := Lib.hid hw
    have HO := Lib.hid ho
    have HSZ : Hid (∀ t ∈ more ++ R, t.size ≤ 140737488351232) := Lib.hid (fun t ht => (List.mem_append.1 ht).elim (hsm t) (hsz t))
    have NA := Lib.hid na
    have NM := Lib.hid nmo
    have NC := Lib.hid nc
    have NE := Lib.hid ne
    have HC1 := Lib.hid (hC A B C n c m c2 q c3 R G W w hr hg hw (by omega) (by omega) (by omega) hsz)
    obtain ⟨X, hX⟩ : ∃ X, clashM R G W = X := ⟨_, rfl⟩
    rw [hX] at HC1
    have HX := Lib.hid hX
    clear hbig hC hF hr hm hg hw ho na nmo nc ne hX hsz hsm
    cases X with
    | false =>
      go_enter Try.func4, Try.ntmps4
      go_wp2_with fail
      refine HC1.out.mono ?_
      rintro e w1 ⟨rfl, hb1⟩
      have HB1 := Lib.hid hb1
      clear hb1
      go_wp2_with fail
      refine (HF.out _).mono ?_
      rintro e w2 ⟨rfl, hb2⟩
      have HB2 := Lib.hid (keeps HB1.out hb2)
      clear hb2
      go_wp2_with fail
      go_ret
      exact ⟨rfl, HB2.out⟩
    | true =>
      have HMX := Lib.hid (clash_more (more := more) (others := others) HX.out)
      go_enter Try.func4, Try.ntmps4
      go_wp2_with fail
      refine HC1.out.mono ?_
      rintro e w1 ⟨rfl, hb1⟩
      have HB1 := Lib.hid hb1
      clear hb1
      go_wp2_with (first
        | ((with_reducible refine pick (some 45) ?_); refine Tx.wpList_append_any txE 9 rfl _ _ _ rfl Try.underlying22 info_tx rfl w1.heap.size _ 0 [] rfl (So.new_ txE _ w1 (Nat.le_refl _)) M nm cm more rfl ((HM.out.below HB1.out).below (below_lit _ _)) NM.out nm (by omega) more (by simp) (by unfold maxLen; omega) (by omega) (by simp) ?_; intro v2 w2 ho2 hg2 hat2; have HO2 := Lib.hid ho2; have HB2 : Hid (Below w1.heap.size w1 w2) := Lib.hid ((below_lit (w := w1) #[] 9).grown hg2 (by simp) (fun k hk => ((So.new_ txE 9 w1 (Nat.le_refl _)).lt hk).1)); clear ho2 hg2 hat2)
        | ((with_reducible refine pick (some 47) ?_); refine Tx.wpList_append_any txE 9 rfl _ _ _ rfl Try.underlying22 info_tx rfl w1.heap.size v2 nm more rfl HO2.out A n c R rfl ((HR.out.below HB1.out).below HB2.out) NA.out (nm + n) rfl (more ++ R) rfl (by unfold maxLen; omega) (by omega) HB2.out.size ?_; intro v3 w3 ho3 hg3 hat3; obtain ⟨A3, c3', rfl, _⟩ := So.head ho3; have HO3 := Lib.hid ho3; have HB3 : Hid (Below w1.heap.size w1 w3) := Lib.hid (HB2.out.grown hg3 HB2.out.size (fun k hk => (HO2.out.lt hk).1)); clear ho3 hg3 hat3)
        | ((with_reducible refine pick (some 50) ?_); refine Tx.wpList_append_any prE 49 rfl _ _ _ rfl Try.underlying24 info_pair rfl w3.heap.size _ 0 [] rfl (So.new_ prE _ w3 (Nat.le_refl _)) E k c4 others rfl (((HO.out.below HB1.out).below HB3.out).below (below_lit _ _)) NE.out k (by omega) others (by simp) (by unfold maxLen; omega) (by omega) (by simp) ?_; intro v4 w4 ho4 hg4 hat4; have HO4 := Lib.hid ho4; have HB4 : Hid (Below w3.heap.size w3 w4) := Lib.hid ((below_lit (w := w3) #[] 49).grown hg4 (by simp) (fun k hk => ((So.new_ prE 49 w3 (Nat.le_refl _)).lt hk).1)); clear ho4 hg4 hat4)
        | ((with_reducible refine pick (some 52) ?_); refine Tx.wpList_append_any prE 49 rfl _ _ _ rfl Try.underlying24 info_pair rfl w3.heap.size v4 k others rfl HO4.out C q c3 W rfl (((HW.out.below HB1.out).below HB3.out).below HB4.out) NC.out (k + q) rfl (others ++ W) rfl (by unfold maxLen; omega) (by omega) HB4.out.size ?_; intro v5 w5 ho5 hg5 hat5; obtain ⟨A5, c5', rfl, _⟩ := So.head ho5; have HO5 := Lib.hid ho5; have HB5 : Hid (Below w3.heap.size w3 w5) := Lib.hid (HB4.out.grown hg5 HB4.out.size (fun k hk => (HO4.out.lt hk).1)); clear ho5 hg5 hat5))
      refine (HF.out _).mono ?_
      rintro e w6 ⟨rfl, hb6⟩
      have HB6 := Lib.hid (keeps HB5.out hb6)
      have HB7 := Lib.hid (keeps (keeps (keeps HB1.out HB3.out) HB5.out) hb6)
      have HS5 := Lib.hid (HO5.out.sl.below hb6)
      have HS3 := Lib.hid (HO3.out.sl.below HB6.out)
      clear hb6
      go_wp2_with fail
      refine (HC.out _ _ _ _ _ _ _ _ _ _ _ _ _ HS3.out (HG.out.below HB7.out) HS5.out (by omega) (by omega) (by omega) HSZ.out).mono ?_
      rw [HMX.out]
      rintro e w8 ⟨rfl, hb8⟩
      have HB8 := Lib.hid (keeps HB7.out hb8)
      clear hb8
      go_wp2_with fail
      go_ret
      exact ⟨rfl, HB8.out⟩
end Go.Proofs.Ytlblfpacnegmlaa.ClashL
