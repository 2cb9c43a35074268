/- Layer 11's third law, over what the project's functions are asked. -/
import Derived.Test.YthpgpomkilnlgaaPickB
import Derived.Test.YthpgpomkilnlgaaOws
namespace Go.Proofs.Ythpgpomkilnlgaa.PickT
set_option linter.unusedVariables false
set_option linter.unusedSimpArgs false
open Go.RowKit
open Go.Proofs.Ythpgpomkilnlgaa.Byte Go.Proofs.Ythpgpomkilnlgaa.PickM Go.Proofs.Ythpgpomkilnlgaa.PickN Go.Proofs.Ythpgpomkilnlgaa.Own Go.Proofs.Ythpgpomkilnlgaa.Rw Go.Proofs.Ythpgpomkilnlgaa.Lst Go.Proofs.Ythpgpomkilnlgaa.PickR Go.Proofs.Ythpgpomkilnlgaa.PickRe Go.Proofs.Ythpgpomkilnlgaa.PickL Go.Proofs.Ythpgpomkilnlgaa.PickA Go.Proofs.Ythpgpomkilnlgaa.PickB Go.Proofs.Ythpgpomkilnlgaa.Ows

/-- The sectors' cells when so many turns were made. -/
def tf (N B q r : Nat) : Nat → List Value := fun j => infE.cells (st N B q r j)
theorem tf_len (N B q r : Nat) : ∀ j, j < N → (tf N B q r j).length = 6 := fun j _ => rfl
theorem st_wear (N B q r i : Nat) (hB : q = 0 → B = 0) : (q : Int) - 1 ≤ (st N B q r i).wear ∧ (st N B q r i).wear ≤ q := by
  unfold st
  split
  · exact ⟨by dsimp only; omega, by dsimp only; omega⟩
  · split
    · exact ⟨by dsimp only; omega, by dsimp only; omega⟩
    · exact ⟨by dsimp only; omega, by dsimp only; omega⟩
theorem fit_st {N B q r : Nat} (hB : q = 0 → B = 0) (hq : q ≤ 1000) : Fit (stL N B q r) := by
  intro x hx
  obtain ⟨i, hi⟩ := List.mem_iff_getElem?.1 hx
  obtain ⟨_, rfl⟩ := stL_at hi
  have := st_wear N B q r i hB
  omega
theorem low_in {l : List Inf} {a b : Int} (h : ∀ x ∈ l, a ≤ x.wear ∧ x.wear ≤ b) (hne : l ≠ []) : a ≤ lowL l ∧ highL l ≤ b := by
  have key : ∀ k, 0 < k → k ≤ l.length → a ≤ lowL (l.take k) ∧ highL (l.take k) ≤ b := by
    intro k
    induction k with
    | zero => intro h0; omega
    | succ k ih =>
      intro _ hk
      have hx : l[k]? = some l[k] := List.getElem?_eq_getElem (by omega)
      have hm := h _ (List.mem_of_getElem? hx)
      rw [low_next hx, high_next hx]
      rcases Nat.eq_zero_or_pos k with h0 | h0
      · subst h0
        simp only [true_or, if_true]
        exact hm
      · have := ih h0 (by omega)
        constructor
        · split
          · exact hm.1
          · exact this.1
        · split
          · exact hm.2
          · exact this.2
  have hl : 0 < l.length := by
    cases l with
    | nil => exact absurd rfl hne
    | cons x l => simp
  have := key l.length hl (Nat.le_refl _)
  rw [List.take_length] at this
  exact this
theorem lead_st {N B q r : Nat} (hN : 0 < N) (hB : q = 0 → B = 0) : highL (stL N B q r) - lowL (stL N B q r) ≤ 1 := by
  have := low_in (l := stL N B q r) (a := (q : Int) - 1) (b := q) (fun x hx => by
    obtain ⟨i, hi⟩ := List.mem_iff_getElem?.1 hx
    obtain ⟨_, rfl⟩ := stL_at hi
    exact st_wear N B q r i hB) (by
    intro h
    have := stL_len N B q r
    rw [h] at this
    simp only [List.length_nil] at this
    omega)
  omega
theorem sl_st {w : World} {base g N B q r : Nat} (h : Ow w base g N 6 (tf N B q r)) : Sl infE w (some ⟨g, 0, none⟩) N (stL N B q r) :=
  sl_of (e := infE) h (stL_len N B q r) (fun j x hx => by
    obtain ⟨_, rfl⟩ := stL_at hx
    rfl)
theorem ow_over {w : World} {base g N B q : Nat} (h : Ow w base g N 6 (tf N B q N)) : Ow w base g N 6 (tf N (B + N) (q + 1) 0) := h.congr fun j hj => by
  unfold tf
  rw [turn_over hj]
theorem turn0 {w : World} {base g N r : Nat} (h : Ow w base g N 6 (tf N 0 0 r)) (hr : r < N) : Ow ((w.setCell ⟨g, r * 6 + 0, none⟩ (.int .i64 1)).setCell ⟨g, r * 6 + 3, none⟩ (.int .u64 ((r : Int) + 1))) base g N 6 (tf N 0 0 (r + 1)) := by
  have h1 := set1 h r 0 hr (by decide) (.int .i64 1) (tf_len N 0 0 r)
  have h2 := set1 h1 r 3 hr (by decide) (.int .u64 ((r : Int) + 1)) (set_len r 0 _ (tf_len N 0 0 r))
  refine h2.congr fun j hj => ?_
  unfold tf
  rw [turn_next hr]
  by_cases e : j = r
  · subst e
    rw [if_pos rfl, if_pos rfl, if_pos rfl]
    unfold st
    rw [if_neg (Nat.lt_irrefl _), if_pos rfl]
    simp [infE]
  · rw [if_neg e, if_neg e, if_neg e]
theorem turnq {w : World} {base g N B q r : Nat} (h : Ow w base g N 6 (tf N B q r)) (hr : r < N) (hq : 0 < q) : Ow (((w.setCell ⟨g, r * 6 + 2, none⟩ (.int .i64 q)).setCell ⟨g, r * 6 + 0, none⟩ (.int .i64 1)).setCell ⟨g, r * 6 + 3, none⟩ (.int .u64 ((B : Int) + r + 1))) base g N 6 (tf N B q (r + 1)) := by
  have h0 := set1 h r 2 hr (by decide) (.int .i64 (q : Int)) (tf_len N B q r)
  have h1 := set1 h0 r 0 hr (by decide) (.int .i64 1) (set_len r 2 _ (tf_len N B q r))
  have h2 := set1 h1 r 3 hr (by decide) (.int .u64 ((B : Int) + r + 1)) (set_len r 0 _ (set_len r 2 _ (tf_len N B q r)))
  refine h2.congr fun j hj => ?_
  unfold tf
  rw [turn_next hr]
  by_cases e : j = r
  · subst e
    rw [if_pos rfl, if_pos rfl, if_pos rfl, if_pos rfl]
    unfold st
    rw [if_neg (Nat.lt_irrefl _), if_neg (by omega)]
    simp [infE]
  · rw [if_neg e, if_neg e, if_neg e, if_neg e]
theorem write_is (hP : Picks) {g N B q r n c : Nat} {w : World} {base : Nat} (h : Ow w base g N 6 (tf N B q r)) (hN : N ≤ 100) (hB : q = 0 → B = 0) (hq : q ≤ 1000) {x : Int} {y : Bool} (e : ansN (writeL (stL N B q r)) = x ∧ (writeL (stL N B q r)).isSome = y) :
    Calls Try.prog 8 #[.slice (some ⟨g, 0, none⟩) N N] w fun e w' => e = .returned (.tuple #[.int .i64 x, .bool y]) ∧ Below w.heap.size w w' := by
  obtain ⟨rfl, rfl⟩ := e
  exact hP.write _ N N _ w (sl_st h) (Nat.le_refl _) (by unfold maxLen; omega) (by omega) (fit_st hB hq)
theorem erase_is (hP : Picks) {g N B q r n c : Nat} {w : World} {base : Nat} (h : Ow w base g N 6 (tf N B q r)) (hN : N ≤ 100) (hr : r < N) (hBN : N ≤ B) (hq0 : 0 < q) (hq : q ≤ 1000) :
    Calls Try.prog 9 #[.slice (some ⟨g, 0, none⟩) N N] w fun e w' => e = .returned (.tuple #[.int .i64 (r : Nat), .bool true]) ∧ Below w.heap.size w w' := by
  have := hP.erase _ N N _ w (sl_st h) (Nat.le_refl _) (by unfold maxLen; omega) (by omega) (fit_st (fun h0 => by omega) hq)
  rw [turn_erase hr hq0 hBN] at this
  exact this
theorem lead_ok (hP : Picks) {g N B q r : Nat} {w : World} {base : Nat} (h : Ow w base g N 6 (tf N B q r)) (hN : N ≤ 100) (hN0 : 0 < N) (hB : q = 0 → B = 0) (hq : q ≤ 1000) : ∃ d : Int, d ≤ 4 ∧
    Calls Try.prog 18 #[.slice (some ⟨g, 0, none⟩) N N] w fun e w' => e = .returned (.int .i64 d) ∧ Below w.heap.size w w' :=
  ⟨_, by have := lead_st (r := r) hN0 hB; omega, hP.lead _ N N _ w (sl_st h) (Nat.le_refl _) (by unfold maxLen; omega) (by omega) (fit_st hB hq)⟩
/-- Behind a turn. -/
theorem nxt {w : World} {base g N q r k : Nat} (h : Ow w base g N 6 (tf N (q * N) q (r + 1))) (hr : r < N) (hk : k = q * N + r) (hkb : k ≤ 399) : ∃ q' r' : Nat, r' < N ∧ q' ≤ 400 ∧ Hid (k + 1 = q' * N + r') ∧ Hid (Ow w base g N 6 (tf N (q' * N) q' r')) := by
  have hle : ∀ x : Nat, x ≤ x * N := fun x => Nat.le_mul_of_pos_right x (by omega)
  rcases Nat.lt_or_ge (r + 1) N with h1 | h1
  · exact ⟨q, r + 1, h1, by have := hle q; omega, Lib.hid (by omega), Lib.hid h⟩
  · obtain rfl : r + 1 = N := by omega
    have e : (q + 1) * (r + 1) = q * (r + 1) + (r + 1) := by rw [Nat.add_mul, Nat.one_mul]
    have h2 := ow_over h
    rw [← e] at h2
    exact ⟨q + 1, 0, by omega, by have := hle (q + 1); omega, Lib.hid (by omega), Lib.hid h2⟩
/-- A sector's three cells that a turn writes. -/
theorem three {w : World} {base g N B q r : Nat} (h : Ow w base g N 6 (tf N B q r)) (hr : r < N) : w.cell? ⟨g, r * 6, none⟩ = some (.int .i64 (st N B q r r).cls) ∧ w.cell? ⟨g, r * 6 + 2, none⟩ = some (.int .i64 (st N B q r r).wear) ∧ w.cell? ⟨g, r * 6 + 3, none⟩ = some (.int .u64 (st N B q r r).age) ∧ w.frozen? ⟨g, r * 6, none⟩ = false ∧ w.frozen? ⟨g, r * 6 + 2, none⟩ = false ∧ w.frozen? ⟨g, r * 6 + 3, none⟩ = false :=
  ⟨at_cell h r 0 hr _ rfl, at_cell h r 2 hr _ rfl, at_cell h r 3 hr _ rfl, at_free h r 0 hr (by decide), at_free h r 2 hr (by decide), at_free h r 3 hr (by decide)⟩
set_option maxRecDepth 100000 in
set_option maxHeartbeats 4000000 in
theorem round_law (hP : Picks) (b t : Int) (w : World) (hb0 : 0 ≤ b) (hb1 : b ≤ 255) (ht0 : 0 ≤ t) (ht1 : t ≤ 65535) :
    Calls Try.prog 5 #[.int .u8 b, .int .u16 t] w fun e w' => e = .returned (.bool true) ∧ Below w.heap.size w w' := by
  have HP := Lib.hid hP
  clear hP
  obtain ⟨N, hN⟩ : ∃ N : Nat, 6 + b % 20 = N := ⟨(6 + b % 20).toNat, by omega⟩
  have hN1 : 6 ≤ N := by omega
  have hN2 : N ≤ 25 := by omega
  obtain ⟨M, hM⟩ : ∃ M : Nat, t % 400 = M := ⟨(t % 400).toNat, by omega⟩
  have hM1 : M < 400 := by omega
  go_enter Try.func5, Try.ntmps5
  go_wp2_with ((with_reducible refine pick (some 13) ?_); refine wpList_make_ow rfl _ _ _ rfl w.heap.size 29 6 48 _ Try.underlying22 info_inf rfl (by decide) _ _ _ _ N rfl rfl (by omega) (by omega) (by omega) (by unfold maxLen; omega) (Nat.le_refl _) ?_; intro w1 ho1 hg1; have HO1 : Hid (Ow w1 w.heap.size w.heap.size N 6 (tf N 0 0 0)) := Lib.hid (ho1.congr (fun j hj => by unfold tf st; rw [if_neg (by omega), if_pos rfl]; rfl)); have HB1 : Hid (Below w.heap.size w w1) := Lib.hid ((Below.refl _ _).grown hg1 (Nat.le_refl _) (by intro k hk; cases hk)); clear ho1 hg1)
  rw [hM]
  have HM := Lib.hid hM
  have HNN := Lib.hid hN
  clear hM hN
  go_loopw [6, 17] (fun age i wr => ∃ k q r : Nat, k ≤ M ∧ i = .int .i64 k ∧ age = .int .u64 k ∧ r < N ∧ q ≤ 400 ∧ Hid (k = q * N + r) ∧ Hid (Ow wr w.heap.size w.heap.size N 6 (tf N (q * N) q r)) ∧ Below w.heap.size w wr) (fun _ i _ => M - (intOf i).toNat)
  case atStart => exact ⟨0, 0, 0, Nat.zero_le _, rfl, rfl, by omega, Nat.zero_le _, Lib.hid (by omega), Lib.hid (by rw [Nat.zero_mul]; exact HO1.out), HB1.out⟩
  case round =>
    obtain ⟨k, q, r, hk, rfl, rfl, hr, hq, HK, HO, hbel⟩ := hrel
    have HBL := Lib.hid hbel
    have hgw : w.heap.size < wr.heap.size := HO.out.hi
    clear hbel
    by_cases hlt : k < M
    · rcases Nat.eq_zero_or_pos q with h0 | h0
      · subst h0
        have HO' : Hid (Ow wr w.heap.size w.heap.size N 6 (tf N 0 0 r)) := Lib.hid (by have := HO.out; rw [Nat.zero_mul] at this; exact this)
        have hkr : k = r := by have := HK.out; omega
        subst hkr
        go_wp2_with (go_at_call 8; refine (write_is (n := 0) (c := 0) HP.out HO'.out (by omega) (fun _ => rfl) (by omega) (x := (k : Int)) (y := true) (by rw [turn_write N k hr]; exact ⟨rfl, rfl⟩)).mono ?_; rintro e w2 ⟨rfl, hb2⟩; have HO2 := Lib.hid (HO'.out.below hb2); have HB2 := Lib.hid (keeps HBL.out hb2); have hg2 : w.heap.size < w2.heap.size := HO2.out.hi; obtain ⟨c0, c2, c3, f0, f2, f3⟩ := three HO2.out hr; clear hb2)
        have h1 := turn0 HO2.out hr
        have HBZ := Lib.hid ((HB2.out.setCell (p := ⟨w.heap.size, k * 6 + 0, none⟩) (Nat.le_refl _) (.int .i64 1)).setCell (p := ⟨w.heap.size, k * 6 + 3, none⟩) (Nat.le_refl _) (.int .u64 ((k : Int) + 1)))
        obtain ⟨q', r', hr', hq', e', ho'⟩ := nxt (q := 0) (by rw [Nat.zero_mul]; exact h1) hr HK.out (by omega)
        go_roundw
        case rel => exact ⟨k + 1, q', r', by omega, by go_num, by go_num, hr', hq', e', ho', HBZ.out⟩
        case measure => simp [intOf]; omega
      · obtain ⟨B, hB⟩ : ∃ B, q * N = B := ⟨_, rfl⟩
        have hBN : N ≤ B := by rw [← hB]; exact Nat.le_mul_of_pos_left N h0
        rw [hB] at HO HK
        have hkB : k = B + r := HK.out
        have HEB := Lib.hid hB
        have hfst : (st N B q r r).wear = (q : Int) - 1 := by unfold st; rw [if_neg (Nat.lt_irrefl _), if_neg (by omega)]
        have HW := Lib.hid hfst
        have HKB := Lib.hid hkB
        have hkb : k ≤ 399 := by omega
        have hq1 : (1 : Int) ≤ q := by omega
        clear hB hfst hkB
        go_wp2_with (first
          | (go_at_call 8; refine (write_is (n := 0) (c := 0) HP.out HO.out (by omega) (fun h => by omega) (by omega) (x := 0) (y := false) (by rw [turn_none h0]; exact ⟨rfl, rfl⟩)).mono ?_; rintro e w2 ⟨rfl, hb2⟩; have HO2 := Lib.hid (HO.out.below hb2); have HB2 := Lib.hid (keeps HBL.out hb2); clear hb2)
          | (go_at_call 9; refine (erase_is (n := 0) (c := 0) HP.out HO2.out (by omega) hr hBN h0 (by omega)).mono ?_; rintro e w3 ⟨rfl, hb3⟩; have HO3 := Lib.hid (HO2.out.below hb3); have HB3 := Lib.hid (keeps HB2.out hb3); have hg3 : w.heap.size < w3.heap.size := HO3.out.hi; obtain ⟨c0, c2, c3, f0, f2, f3⟩ := three HO3.out hr; rw [HW.out] at c2; clear hb3))
        have h1 := turnq HO3.out hr h0
        have HBZ := Lib.hid (((HB3.out.setCell (p := ⟨w.heap.size, r * 6 + 2, none⟩) (Nat.le_refl _) (.int .i64 (q : Int))).setCell (p := ⟨w.heap.size, r * 6 + 0, none⟩) (Nat.le_refl _) (.int .i64 1)).setCell (p := ⟨w.heap.size, r * 6 + 3, none⟩) (Nat.le_refl _) (.int .u64 ((B : Int) + r + 1)))
        have hage : (B : Int) + r + 1 = (k : Int) + 1 := by have := HKB.out; omega
        rw [hage] at h1 HBZ
        obtain ⟨q', r', hr', hq', e', ho'⟩ := nxt (q := q) (by rw [HEB.out]; exact h1) hr (by rw [HEB.out]; exact HKB.out) hkb
        clear hage
        go_roundw
        case rel => exact ⟨k + 1, q', r', by omega, by go_num, by go_num, hr', hq', e', ho', HBZ.out⟩
        case measure => simp [intOf]; omega
    · obtain rfl : k = M := by omega
      obtain ⟨d, hd, hle⟩ := lead_ok HP.out HO.out (by omega) (by omega) (fun h => by rw [h, Nat.zero_mul]) (by omega)
      clear hle
      go_wp2_with fail
      refine (fixed_calls HP.out _).mono ?_
      rintro e w2 ⟨rfl, hb2⟩
      have HO2 := Lib.hid (HO.out.below hb2)
      have HB2 := Lib.hid (keeps HBL.out hb2)
      clear hb2 hd
      obtain ⟨d2, hd2, hle2⟩ := lead_ok HP.out HO2.out (by omega) (by omega) (fun h => by rw [h, Nat.zero_mul]) (by omega)
      have dd : decide (d2 ≤ 4) = true := decide_eq_true hd2
      have HLE := Lib.hid hle2
      clear hle2 hd2
      go_wp2_with fail
      refine HLE.out.mono ?_
      rintro e w3 ⟨rfl, hb3⟩
      have HB3 := Lib.hid (keeps HB2.out hb3)
      clear hb3
      go_wp2_with fail
      go_ret
      exact ⟨rfl, HB3.out⟩
end Go.Proofs.Ythpgpomkilnlgaa.PickT
