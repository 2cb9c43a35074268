/- The landed view: what it calls of slices (Index, Contains, Clone), and the keys of a tree. -/
import Derived.Test.YtdnenikplajmaaaViewKn
import Derived.Test.YtdnenikplajmaaaViewKm
import Derived.Test.YtdnenikplajmaaaViewS
import Derived.Test.YtdnenikplajmaaaTx
import Derived.WalkSmall
namespace Go.Proofs.Ytdnenikplajmaaa.ViewKr
set_option linter.unusedVariables false
set_option linter.unusedSimpArgs false
open Go.RowKit
open Go.Proofs.Ytdnenikplajmaaa.Byte Go.Proofs.Ytdnenikplajmaaa.KeysM Go.Proofs.Ytdnenikplajmaaa.TreeM Go.Proofs.Ytdnenikplajmaaa.ViewM Go.Proofs.Ytdnenikplajmaaa.ViewKm Go.Proofs.Ytdnenikplajmaaa.ViewKn Go.Proofs.Ytdnenikplajmaaa.Own Go.Proofs.Ytdnenikplajmaaa.Rw Go.Proofs.Ytdnenikplajmaaa.Lst Go.Proofs.Ytdnenikplajmaaa.Chg Go.Proofs.Ytdnenikplajmaaa.TreeR Go.Proofs.Ytdnenikplajmaaa.TreeS Go.Proofs.Ytdnenikplajmaaa.TreeL Go.Proofs.Ytdnenikplajmaaa.TreeG Go.Proofs.Ytdnenikplajmaaa.TreeH Go.Proofs.Ytdnenikplajmaaa.Ho Go.Proofs.Ytdnenikplajmaaa.ViewR Go.Proofs.Ytdnenikplajmaaa.ViewG Go.Proofs.Ytdnenikplajmaaa.ViewS

theorem tl_ne {a b : ByteArray} (h : a ≠ b) : a.toList ≠ b.toList := by simpa using TreeQ.neq_false h
theorem eq2 (a b c d : ByteArray) (w : World) : (Op.equalIn 10000 58 (.agg #[.string a, .string b]) (.agg #[.string c, .string d])).run Try.prog w = .ok (decide (a = c) && decide (b = d)) w := by
  have u5 := Try.underlying9
  have a5 := Try.isAgg9
  have z5 := Try.sizeOf9
  rw [show (10000 : Nat) = 9999 + 1 from rfl, Op.equalIn]
  simp only [Sem.run_bind, run_underlying Try.underlying58, Result.andThen_ok]
  simp only [Std.Legacy.Range.forIn_eq_forIn_range', Std.Legacy.Range.size, Nat.sub_zero, Nat.add_sub_cancel, Nat.div_one, List.range'_succ, List.range'_zero, List.forIn_cons, List.forIn_nil]
  go_simp
  by_cases h1 : a = c
  · subst h1
    by_cases h2 : b = d
    · subst h2
      simp
    · simp [h2, tl_ne h2]
  · by_cases h2 : b = d
    · subst h2
      simp [h1, tl_ne h1]
    · simp [h1, h2, tl_ne h1]
theorem rg_cells {w : World} {b o k : Nat} {x : ByteArray × ByteArray} (h : w.rangeAt b (o + k * rgE.size) (rgE.cells x)) : w.cell? ⟨b, o + k * 2, none⟩ = some (.string x.1) ∧ w.cell? ⟨b, o + k * 2 + 1, none⟩ = some (.string x.2) := ⟨h 0 _ rfl, h 1 _ rfl⟩
/-- Does a range stand there? -/
def HasR (x y : ByteArray) (L : List (ByteArray × ByteArray)) (w : World) (e : Ending) (w' : World) : Prop := ∃ i : Int, e = .returned (.int .i64 i) ∧ decide (0 ≤ i) = hasR x y L ∧ Below w.heap.size w w'
set_option maxRecDepth 100000 in
set_option maxHeartbeats 2000000 in
theorem index_calls (A : Option Addr) (n c : Nat) (L : List (ByteArray × ByteArray)) (x y : ByteArray) (w : World) (hl : Sl rgE w A n L) (hn : n ≤ 100000) :
    Calls Try.prog 48 #[.slice A n c, .agg #[.string x, .string y]] w (HasR x y L w) := by
  have HL := Lib.hid hl
  clear hl
  have hb0 : Below w.heap.size w (w.alloc (.cells #[.string x, .string y] 58)) := (Below.refl _ _).alloc (Nat.le_refl _) _
  have HB0 := Lib.hid hb0
  have HX := Lib.hid (Blk.new_ w #[.string x, .string y] 58)
  clear hb0
  go_enter Try.func48, Try.ntmps48
  go_wp2
  go_loopw [8] (fun i wr => ∃ k : Nat, k ≤ n ∧ i = .int .i64 k ∧ Hid (∀ j p, j < k → L[j]? = some p → ¬ (p.1 = x ∧ p.2 = y)) ∧ Hid (Below (w.alloc (.cells #[.string x, .string y] 58)).heap.size (w.alloc (.cells #[.string x, .string y] 58)) wr)) (fun i _ => n - (intOf i).toNat)
  case atStart => exact ⟨0, Nat.zero_le _, rfl, Lib.hid (fun j p hj => by omega), Lib.hid (Below.refl _ _)⟩
  case round =>
    obtain ⟨k, hk, rfl, HNO, HB⟩ := hrel
    by_cases hlt : k < n
    · obtain ⟨p, g, o, hp, rfl, hg, hcl⟩ := (HL.out.below (keeps HB0.out HB.out)).get k hlt
      obtain ⟨c1, c2⟩ := rg_cells hcl
      have d1 : wr.cell? ⟨w.heap.size, 0, none⟩ = some (.string x) := (HX.out.below HB.out).cell 0
      have d2 : wr.cell? ⟨w.heap.size, 1, none⟩ = some (.string y) := (HX.out.below HB.out).cell 1
      have HP := Lib.hid hp
      have heq := eq2 x y p.1 p.2
      clear hp hcl
      by_cases hq : x = p.1 ∧ y = p.2
      · have he : ∀ v, (Op.equalIn 10000 58 (.agg #[.string x, .string y]) (.agg #[.string p.1, .string p.2])).run Try.prog v = .ok true v := fun v => by rw [heq v, decide_eq_true hq.1, decide_eq_true hq.2]; rfl
        have HQ := Lib.hid hq
        clear heq hq
        go_wp2
        go_quiet (fail)
        go_wp2_with fail
        go_ret
        exact ⟨_, rfl, by rw [has_yes HP.out HQ.out.1.symm HQ.out.2.symm]; exact decide_eq_true (by omega), below_drewN (keeps HB0.out HB.out) _⟩
      · have he : ∀ v, (Op.equalIn 10000 58 (.agg #[.string x, .string y]) (.agg #[.string p.1, .string p.2])).run Try.prog v = .ok false v := fun v => by
          rw [heq v]
          congr 1
          rw [← Bool.not_eq_true, Bool.and_eq_true, decide_eq_true_eq, decide_eq_true_eq]
          exact hq
        have HNO2 : Hid (∀ j q, j < k + 1 → L[j]? = some q → ¬ (q.1 = x ∧ q.2 = y)) := Lib.hid (fun j q hj hjq => by
          rcases Nat.lt_or_ge j k with h1 | h1
          · exact HNO.out j q h1 hjq
          · obtain rfl : j = k := by omega
            have := HP.out
            rw [hjq] at this
            injection this with this
            subst this
            exact fun h => hq ⟨h.1.symm, h.2.symm⟩)
        clear heq hq
        go_wp2
        go_quiet (fail)
        go_wp2_with fail
        go_roundw
        case rel => exact ⟨k + 1, by omega, by go_num, HNO2, Lib.hid (below_drewN HB.out _)⟩
        case measure => simp [intOf]; omega
    · obtain rfl : k = n := by omega
      go_wp2_with fail
      go_ret
      exact ⟨_, rfl, by rw [has_no (fun j p hj hp => HNO.out j p (by rw [← HL.out.1]; exact hj) hp)]; exact decide_eq_false (by omega), keeps HB0.out HB.out⟩
set_option maxRecDepth 100000 in
set_option maxHeartbeats 2000000 in
theorem contains_calls (A : Option Addr) (n c : Nat) (L : List (ByteArray × ByteArray)) (x y : ByteArray) (w : World) (hl : Sl rgE w A n L) (hn : n ≤ 100000) :
    Calls Try.prog 39 #[.slice A n c, .agg #[.string x, .string y]] w fun e w' => e = .returned (.bool (hasR x y L)) ∧ Below w.heap.size w w' := by
  have hb0 : Below w.heap.size w (w.alloc (.cells #[.string x, .string y] 58)) := (Below.refl _ _).alloc (Nat.le_refl _) _
  have HI := Lib.hid (index_calls A n c L x y _ (hl.below hb0) hn)
  have HB0 := Lib.hid hb0
  have HX := Lib.hid (Blk.new_ w #[.string x, .string y] 58)
  clear hb0 hl
  go_enter Try.func39, Try.ntmps39
  go_wp2_with (first
    | ((with_reducible refine pick (some 6) ?_); refine load_blk rfl 58 _ rfl w.heap.size rfl 58 #[.string x, .string y] _ HX.out Try.underlying58 rfl (by kernel_rfl) ?_)
    | (go_at_call 48; refine HI.out.mono ?_; rintro e w1 ⟨i, rfl, hi, hb1⟩; have HH := Lib.hid hi; have HB1 := Lib.hid hb1; clear hi hb1))
  go_ret
  exact ⟨congrArg Ending.returned (congrArg Value.bool HH.out), keeps HB0.out HB1.out⟩
/-- The call answers with a row of its own that reads so, or nil. -/
def CloneR (L : List (ByteArray × ByteArray)) (w : World) (e : Ending) (w' : World) : Prop := ∃ v, e = .returned v ∧ So rgE 58 w' w.heap.size v L.length L ∧ Below w.heap.size w w'
set_option maxRecDepth 100000 in
set_option maxHeartbeats 2000000 in
theorem clone_calls (A : Option Addr) (n c : Nat) (L : List (ByteArray × ByteArray)) (w : World) (hl : Sl rgE w A n L) (hn : n ≤ 100000) (h0 : A = none → c = 0) :
    Calls Try.prog 32 #[.slice A n c] w (CloneR L w) := by
  have HL := Lib.hid hl
  have HC := Lib.hid h0
  clear hl h0
  cases A with
  | none =>
    have hn0 : n = 0 := by
      rcases Nat.eq_zero_or_pos n with h | h
      · exact h
      · obtain ⟨_, _, _, _, e, _⟩ := HL.out.get 0 h
        cases e
    subst hn0
    have hL : L = [] := List.eq_nil_of_length_eq_zero HL.out.1
    subst hL
    have hc : c = 0 := HC.out rfl
    subst hc
    have hq : ∀ v, (binOp .eql 22 (.slice none 0 0) (.slice none 0 0)).run Try.prog v = .ok (.bool true) v := fun v => by kernel_rfl
    go_enter Try.func32, Try.ntmps32
    go_wp2_with fail
    go_ret
    exact ⟨_, rfl, So.nil_ _ _ _ _, Below.refl _ _⟩
  | some a =>
    have hq : ∀ v, (binOp .eql 22 (.slice (some a) n c) (.slice none 0 0)).run Try.prog v = .ok (.bool false) v := fun v => by kernel_rfl
    have hb0 : Below w.heap.size w (w.alloc (.cells #[] 58)) := (Below.refl _ _).alloc (Nat.le_refl _) _
    have HB0 := Lib.hid hb0
    have HL2 := Lib.hid (HL.out.below hb0)
    have HO := Lib.hid (So.new_ rgE 58 w (base := w.heap.size) (Nat.le_refl _))
    clear hb0
    go_enter Try.func32, Try.ntmps32
    go_wp2_with ((with_reducible refine pick (some 7) ?_); refine Tx.wpList_append_any rgE 58 rfl _ _ _ rfl Try.underlying22 info_rg rfl w.heap.size _ _ _ rfl HO.out (some a) n c L rfl HL2.out (fun h => by cases h) _ (Nat.zero_add n) _ (List.nil_append L) (by unfold maxLen; omega) (by omega) (by simp) ?_; intro v' w2 ho2 hg2 hat2)
    have HO2 := Lib.hid ho2
    have HB2 : Hid (Below w.heap.size w w2) := Lib.hid (HB0.out.grown hg2 (by simp) (fun g hg => (HO.out.lt hg).1))
    have HLN := Lib.hid HL.out.1
    clear ho2 hg2 hat2
    go_wp2_with fail
    go_ret
    refine ⟨_, rfl, ?_, HB2.out⟩
    rw [HLN.out]
    exact HO2.out
/-- The keys' texts in a row of the call's own. -/
def KeysR (L : List Pr) (w : World) (e : Ending) (w' : World) : Prop := ∃ v, e = .returned v ∧ So rdE 9 w' w.heap.size v L.length L ∧ Below w.heap.size w w'
theorem pair_new (w : World) (p : Pr) : (w.alloc (.cells #[.string p.key, .string p.value, .bool p.gone] 69)).cell? ⟨w.heap.size, 0, none⟩ = some (.string p.key) := (Blk.new_ w _ _).cell 0
theorem key_new (w : World) (p : Pr) : Sl rdE ((w.alloc (.cells #[.string p.key, .string p.value, .bool p.gone] 69)).alloc (.cells #[.string p.key] 9)) (some ⟨w.heap.size + 1, 0, none⟩) 1 [p] := by
  have h := Sl.new_ rdE (w.alloc (.cells #[.string p.key, .string p.value, .bool p.gone] 69)) 9 p #[.string p.key] rfl
  have e : (w.alloc (.cells #[.string p.key, .string p.value, .bool p.gone] 69)).heap.size = w.heap.size + 1 := by simp
  rw [e] at h
  exact h
theorem two_new {w : World} {a b : Obj} {B : Nat} (hb : Below B w w) : Below w.heap.size w ((w.alloc a).alloc b) := ((Below.refl _ _).alloc (Nat.le_refl _) _).alloc (by simp) _
set_option maxRecDepth 100000 in
set_option maxHeartbeats 4000000 in
theorem keysof_calls (t : Value) (L : List Pr) (w : World) (ht : TN w t L) (hn : L.length ≤ 2000) :
    Calls Try.prog 36 #[t] w (KeysR L w) := by
  have HT := Lib.hid ht
  obtain ⟨n, hln⟩ : ∃ n, L.length = n := ⟨_, rfl⟩
  have hlen := tnlen ht (by omega)
  rw [hln] at hn hlen
  have HLN := Lib.hid hln
  have HLEN := Lib.hid hlen
  clear ht hln hlen
  go_enter Try.func36, Try.ntmps36
  go_wp2_with (go_at_call 15; refine HLEN.out.mono ?_; rintro e w1 ⟨rfl, rfl⟩)
  go_loopw [3, 9] (fun v i wr => ∃ k : Nat, k ≤ n ∧ i = .int .i64 k ∧ Hid (So rdE 9 wr w.heap.size v k (L.take k)) ∧ Hid (Below w.heap.size w wr)) (fun _ i _ => n - (intOf i).toNat)
  case atStart => exact ⟨0, Nat.zero_le _, rfl, Lib.hid (So.nil_ _ _ _ _), Lib.hid (Below.refl _ _)⟩
  case round =>
    obtain ⟨k, hk, rfl, HO, HB⟩ := hrel
    by_cases hlt : k < n
    · obtain ⟨p, hp⟩ : ∃ p, L[k]? = some p := ⟨_, List.getElem?_eq_getElem (by rw [HLN.out]; exact hlt)⟩
      have HAT := Lib.hid (tnat (HT.out.below HB.out) (by rw [HLN.out]; omega) hp)
      have HP := Lib.hid hp
      have HTK := Lib.hid (TreeM.take_next hp)
      clear hp
      go_wp2_with (first
        | (go_at_call 46; refine HAT.out.mono ?_; rintro e w2 ⟨rfl, hb2⟩; have HB2 := Lib.hid (keeps HB.out hb2); have HO2 := Lib.hid (HO.out.below hb2); have HC := Lib.hid (pair_new w2 p); have c0 := pair_new w2 p; have HB3 := Lib.hid (keeps HB2.out (two_new (a := .cells #[.string p.key, .string p.value, .bool p.gone] 69) (b := .cells #[.string p.key] 9) (Below.refl w2.heap.size w2))); have HO3 := Lib.hid (HO2.out.below (two_new (a := .cells #[.string p.key, .string p.value, .bool p.gone] 69) (b := .cells #[.string p.key] 9) (Below.refl w2.heap.size w2))); clear hb2)
        | ((with_reducible refine pick (some 22) ?_); refine wpList_append_lst rdE 9 rfl _ _ _ rfl Try.underlying30 info_rd rfl w.heap.size _ _ _ rfl HO3.out (w2.heap.size + 1) 0 1 1 [p] rfl (key_new w2 p) _ rfl _ HTK.out.symm (by unfold maxLen; omega) (by omega) HB3.out.size ?_; intro v' w4 ho4 hg4 _ _; have HO4 := Lib.hid ho4; have HB4 := Lib.hid (HB3.out.grown hg4 HB3.out.size (fun g hg => (HO3.out.lt hg).1)); clear ho4 hg4))
      go_roundw
      case rel => exact ⟨k + 1, by omega, by go_num, HO4, HB4⟩
      case measure => simp [intOf]; omega
    · obtain rfl : k = n := by omega
      go_wp2_with fail
      go_ret
      refine ⟨_, rfl, ?_, HB.out⟩
      have h := HO.out
      rw [List.take_of_length_le (by rw [HLN.out]; exact Nat.le_refl _)] at h
      rw [HLN.out]
      exact h
end Go.Proofs.Ytdnenikplajmaaa.ViewKr
