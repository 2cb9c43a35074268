/- The contracts of the project's recordOf and Class of layer 6. Condition: the bytes read as numbers 0..255. -/
import Derived.Test.YthbafcihmcjchaaGreatDoorRecP
import Derived.IntWalk
import Derived.Deep.QuietTactic
import Derived.BigQuiet
namespace Go.Proofs.YthbafcihmcjchaaGreatDoor.RecX
set_option linter.unusedVariables false
set_option linter.unusedSimpArgs false
open Go.RowKit
open Go.Proofs.YthbafcihmcjchaaGreatDoor.Byte Go.Proofs.YthbafcihmcjchaaGreatDoor.PackM Go.Proofs.YthbafcihmcjchaaGreatDoor.PackV Go.Proofs.YthbafcihmcjchaaGreatDoor.PackG Go.Proofs.YthbafcihmcjchaaGreatDoor.SumV Go.Proofs.YthbafcihmcjchaaGreatDoor.RecM Go.Proofs.YthbafcihmcjchaaGreatDoor.RecW

/-- No frame. -/
def None3 (w : World) (e : Ending) (w' : World) : Prop := e = .returned (.tuple #[.slice none 0 0, .int .i64 0, .bool false]) ∧ Below w.heap.size w w'
/-- A frame: the record, in memory of its own, and the place behind it. -/
def Some3 (zs : List Int) (z : Int) (w : World) (e : Ending) (w' : World) : Prop :=
  ∃ g cap, e = .returned (.tuple #[.slice (some ⟨g, 0, none⟩) zs.length cap, .int .i64 z, .bool true]) ∧ Ob w' w.heap.size 5 g zs.length cap zs ∧ Below w.heap.size w w'
theorem get_ok (A : Option Addr) (n c : Nat) (xs : List Int) (a k : Nat) (w : World) (hb : Bs w A n xs) (hn : n ≤ 140737488355328) (hk : 1 ≤ k ∧ k ≤ 8) (h : a + k ≤ n) :
    Calls Tryz.prog 95 #[.slice A n c, .int .i64 (a : Int), .int .i64 (k : Int)] w fun e w' => e = .returned (.tuple #[.int .u64 (getn xs a k), .int .i64 ((a : Int) + k), .int .i64 0]) ∧ w = w' := by
  have H := get_calls A n c xs a k w hb hn (by omega) (by omega) (by omega) (by omega)
  obtain ⟨e1, e2, e3⟩ := g_ok xs a k (by rw [hb.len]; omega) (by rw [hb.len, width_of k hk.1 hk.2]; omega)
  rw [e1, e2, e3, width_of k hk.1 hk.2, Int.toNat_natCast] at H
  exact H
theorem get_short (A : Option Addr) (n c : Nat) (xs : List Int) (a k : Nat) (w : World) (hb : Bs w A n xs) (hn : n ≤ 140737488355328) (hk : 1 ≤ k ∧ k ≤ 8) (ha : a ≤ n) (h : n < a + k) :
    Calls Tryz.prog 95 #[.slice A n c, .int .i64 (a : Int), .int .i64 (k : Int)] w fun e w' => e = .returned (.tuple #[.int .u64 0, .int .i64 0, .int .i64 3]) ∧ w = w' := by
  have H := get_calls A n c xs a k w hb hn (by omega) (by omega) (by omega) (by omega)
  obtain ⟨e1, e2, e3⟩ := g_short xs a k (by rw [hb.len]; omega) (by rw [hb.len, width_of k hk.1 hk.2]; omega)
  rw [e1, e2, e3] at H
  exact H
set_option maxHeartbeats 1000000 in
theorem of_short1 (A : Option Addr) (n c : Nat) (xs : List Int) (a : Nat) (w : World) (hb : Bs w A n xs) (hn : n ≤ 140737488355328) (ha : a < n) (h : n < a + 3) :
    Calls Tryz.prog 84 #[.slice A n c, .int .i64 a] w (None3 w) := by
  have H1 := Lib.hid (get_short A n c xs (a + 1) 2 w hb hn (by omega) (by omega) (by omega))
  clear hb
  go_enter Tryz.func84, Tryz.ntmps84
  go_wp2_with fail
  refine (H1.out).mono ?_
  rintro e w' ⟨rfl, rfl⟩
  go_wp2_with fail
  go_ret3
  exact ⟨rfl, Below.refl _ _⟩
set_option maxHeartbeats 1000000 in
theorem of_short2 (A : Option Addr) (n c : Nat) (xs : List Int) (a : Nat) (w : World) (hb : Bs w A n xs) (hn : n ≤ 140737488355328) (ha : a + 3 ≤ n) (h : n < a + 7) :
    Calls Tryz.prog 84 #[.slice A n c, .int .i64 a] w (None3 w) := by
  have H1 := Lib.hid (get_ok A n c xs (a + 1) 2 w hb hn (by omega) (by omega))
  have H2 := Lib.hid (get_short A n c xs (a + 3) 4 w hb hn (by omega) (by omega) (by omega))
  clear hb
  go_enter Tryz.func84, Tryz.ntmps84
  go_wp2_with fail
  refine (H1.out).mono ?_
  rintro e w' ⟨rfl, rfl⟩
  go_wp2_with fail
  refine (H2.out).mono ?_
  rintro e w' ⟨rfl, rfl⟩
  go_wp2_with fail
  go_ret3
  exact ⟨rfl, Below.refl _ _⟩
theorem get_len (A : Option Addr) (n c : Nat) (xs : List Int) (a : Nat) (w : World) (hb : Bs w A n xs) (hn : n ≤ 140737488355328) (h : a + 3 ≤ n) :
    Calls Tryz.prog 95 #[.slice A n c, .int .i64 ((a + 1 : Nat) : Int), .int .i64 2] w fun e w' => e = .returned (.tuple #[.int .u64 (rlen xs a : Int), .int .i64 ((a : Int) + 3), .int .i64 0]) ∧ w = w' := by
  have H := get_ok A n c xs (a + 1) 2 w hb hn (by omega) (by omega)
  rw [getn_two hb.2.1 a (by rw [hb.len]; exact h)] at H
  refine H.mono ?_
  rintro e w' ⟨rfl, rfl⟩
  exact ⟨by congr 5, rfl⟩
theorem get_sum (A : Option Addr) (n c : Nat) (xs : List Int) (a : Nat) (w : World) (hb : Bs w A n xs) (hn : n ≤ 140737488355328) (h : a + 7 ≤ n) :
    Calls Tryz.prog 95 #[.slice A n c, .int .i64 ((a : Int) + 3), .int .i64 4] w fun e w' => e = .returned (.tuple #[.int .u64 (getn xs (a + 3) 4), .int .i64 ((a : Int) + 7), .int .i64 0]) ∧ w = w' := by
  have H := get_ok A n c xs (a + 3) 4 w hb hn (by omega) (by omega)
  refine H.mono ?_
  rintro e w' ⟨rfl, rfl⟩
  exact ⟨by congr 5, rfl⟩
set_option maxHeartbeats 1000000 in
theorem of_end (A : Option Addr) (n c : Nat) (xs : List Int) (a : Nat) (w : World) (hb : Bs w A n xs) (hn : n ≤ 140737488355328) (ha : a + 7 ≤ n) (h : n ≤ a + 7 + rlen xs a) :
    Calls Tryz.prog 84 #[.slice A n c, .int .i64 a] w (None3 w) := by
  have hr := (rlen_bd hb.2.1 a).1
  have H1 := Lib.hid (get_len A n c xs a w hb hn (by omega))
  have H2 := Lib.hid (get_sum A n c xs a w hb hn (by omega))
  clear hb
  generalize rlen xs a = r at *
  generalize getn xs (a + 3) 4 = s at *
  have d1 : decide ((n : Int) ≤ (a : Int) + 7 + r) = true := by simp; omega
  go_enter Tryz.func84, Tryz.ntmps84
  go_wp2_with fail
  refine (H1.out).mono ?_
  rintro e w' ⟨rfl, rfl⟩
  go_wp2_with fail
  refine (H2.out).mono ?_
  rintro e w' ⟨rfl, rfl⟩
  go_wp2_with fail
  go_ret3
  exact ⟨rfl, Below.refl _ _⟩
set_option maxHeartbeats 1000000 in
theorem of_zero (A : Option Addr) (n c : Nat) (xs : List Int) (a : Nat) (w : World) (hb : Bs w A n xs) (hn : n ≤ 140737488355328) (h : a + 7 + rlen xs a < n) (hz : xs.getD (a + 7 + rlen xs a) 0 ≠ 0) :
    Calls Tryz.prog 84 #[.slice A n c, .int .i64 a] w (None3 w) := by
  have hr := (rlen_bd hb.2.1 a).1
  have H1 := Lib.hid (get_len A n c xs a w hb hn (by omega))
  have H2 := Lib.hid (get_sum A n c xs a w hb hn (by omega))
  have hne : (xs.getD (a + 7 + rlen xs a) 0 != 0) = true := by rw [bne_iff_ne]; exact hz
  obtain ⟨b, o, rfl, _, hc⟩ := hb.2.2 (a + 7 + rlen xs a) h
  clear hb hz
  generalize xs.getD (a + 7 + rlen xs a) 0 = y at *
  generalize rlen xs a = r at *
  generalize getn xs (a + 3) 4 = s at *
  have d1 : decide ((n : Int) ≤ (a : Int) + 7 + r) = false := by simp; omega
  go_enter Tryz.func84, Tryz.ntmps84
  go_wp2_with fail
  refine (H1.out).mono ?_
  rintro e w' ⟨rfl, rfl⟩
  go_wp2_with fail
  refine (H2.out).mono ?_
  rintro e w' ⟨rfl, rfl⟩
  go_wp2_with fail
  go_ret3
  exact ⟨rfl, Below.refl _ _⟩
theorem slice_mid {w : World} {b o n c lo hi N : Nat} {l h : Int} (hl : l = (lo : Int)) (hh : h = (hi : Int)) (h1 : lo + N = hi) (h2 : hi ≤ c) (h3 : lo < c) :
    (Instr.sliceAt 38 (.slice (some ⟨b, o, none⟩) n c) (some (.int .i64 l)) (some (.int .i64 h)) none).run Tryz.prog w = .ok (.slice (some ⟨b, o + lo, none⟩) N (c - lo)) w := by
  subst hl hh h1
  have hs : (sizeOf (Tryz.prog.elem 38)).run Tryz.prog w = .ok 1 w := by kernel_rfl
  have hT : Tryz.prog.underlying 38 = some (.slice (Tryz.prog.elem 38)) := by kernel_rfl
  have r := run_slice_lh (P := Tryz.prog) (w := w) 38 (some ⟨b, o, none⟩) n c hT .i64 .i64 lo (lo + N : Nat) (by omega) (by omega) (by omega)
  rw [hs] at r
  rw [run_sliceAt_slice (h := hT), r]
  show Result.ok _ w = _
  unfold sliced
  have e : ¬ c = lo := by omega
  by_cases h0 : lo = 0
  · subst h0
    simp [Addr.add, e]
  · simp [Addr.add, e, h0]
    omega
theorem ret_rec {v : Value} {x y : Int} (h : x = y) : Ending.returned (.tuple #[v, .int .i64 x, .bool true]) = .returned (.tuple #[v, .int .i64 y, .bool true]) := by rw [h]
theorem front_of {w : World} {b o n : Nat} {xs : List Int} (hb : Bs w (some ⟨b, o, none⟩) n xs) (a : Nat) (ha : a + 3 ≤ n) : Bs w (some ⟨b, o + (a + 1), none⟩) 2 ((xs.drop (a + 1)).take 2) := hb.sub (a + 1) 2 (by omega)
theorem rec_of {w : World} {b o n : Nat} {xs : List Int} (hb : Bs w (some ⟨b, o, none⟩) n xs) (a : Nat) (ha : a + 7 + rlen xs a ≤ n) : Bs w (some ⟨b, o + (a + 7), none⟩) (rlen xs a) (rec_ xs a) := hb.sub (a + 7) (rlen xs a) ha
set_option maxHeartbeats 1000000 in
theorem of_sum (A : Option Addr) (n c : Nat) (xs : List Int) (a : Nat) (w : World) (hb : Bs w A n xs) (hn : n ≤ 140737488355328) (hc : n ≤ c) (h : a + 7 + rlen xs a < n) (hz : xs.getD (a + 7 + rlen xs a) 0 = 0) (hs : SumM.sum ((xs.drop (a + 1)).take 2 ++ rec_ xs a) ≠ getn xs (a + 3) 4) :
    Calls Tryz.prog 84 #[.slice A n c, .int .i64 a] w (None3 w) := by
  have hr := (rlen_bd hb.2.1 a).1
  have H1 := Lib.hid (get_len A n c xs a w hb hn (by omega))
  have H2 := Lib.hid (get_sum A n c xs a w hb hn (by omega))
  obtain ⟨b, o, rfl, _, hcell⟩ := hb.2.2 (a + 7 + rlen xs a) h
  rw [hz] at hcell
  have HF := Lib.hid (front_of hb a (by omega))
  have HR := Lib.hid (rec_of hb a (by omega))
  have hsb := SumM.sum_bd ((xs.drop (a + 1)).take 2 ++ rec_ xs a)
  have HS := Lib.hid (fun (v : World) (hf : Bs v (some ⟨b, o + (a + 1), none⟩) 2 ((xs.drop (a + 1)).take 2)) (hr' : Bs v (some ⟨b, o + (a + 7), none⟩) (rlen xs a) (rec_ xs a)) (c1 c2 : Nat) => sumof_calls _ _ 2 (rlen xs a) c1 c2 _ _ v hf hr' (by decide) (by unfold maxLen; omega))
  have hne : (SumM.sum ((xs.drop (a + 1)).take 2 ++ rec_ xs a) != getn xs (a + 3) 4) = true := by rw [bne_iff_ne]; exact hs
  clear hb hz hs
  generalize SumM.sum ((xs.drop (a + 1)).take 2 ++ rec_ xs a) = u at *
  generalize (xs.drop (a + 1)).take 2 = fs at *
  generalize rec_ xs a = rs at *
  generalize rlen xs a = r at *
  generalize getn xs (a + 3) 4 = s at *
  have d1 : decide ((n : Int) ≤ (a : Int) + 7 + r) = false := by simp; omega
  have s1 := fun w : World => slice_mid (w := w) (b := b) (o := o) (n := n) (c := c) (lo := a + 1) (hi := a + 3) (N := 2) (l := (a : Int) + 1) (h := (a : Int) + 3) (by omega) (by omega) (by omega) (by omega) (by omega)
  have s2 := fun w : World => slice_mid (w := w) (b := b) (o := o) (n := n) (c := c) (lo := a + 7) (hi := a + 7 + r) (N := r) (l := (a : Int) + 7) (h := (a : Int) + 7 + r) (by omega) (by omega) (by omega) (by omega) (by omega)
  have HQ := Lib.hid (fun k c1 c2 => (HS.out (w.drewN k) HF.out HR.out c1 c2).mono fun e w' h => (⟨h.1, h.2.symm⟩ : e = _ ∧ w' = _))
  go_enter Tryz.func84, Tryz.ntmps84
  go_wp2_with fail
  refine (H1.out).mono ?_
  rintro e w' ⟨rfl, rfl⟩
  go_wp2_with fail
  refine (H2.out).mono ?_
  rintro e w' ⟨rfl, rfl⟩
  go_wp2_with fail
  go_quiet ((go_at_call 96; exact Calls.quiet_of_same (HQ.out _ _ _)))
  go_wp2_with fail
  go_ret3
  exact ⟨rfl, below_drewN (Below.refl _ _) _⟩
set_option maxHeartbeats 1000000 in
theorem of_yes (A : Option Addr) (n c : Nat) (xs : List Int) (a : Nat) (w : World) (hb : Bs w A n xs) (hn : n ≤ 140737488355328) (hc : n ≤ c) (h : a + 7 + rlen xs a < n) (hz : xs.getD (a + 7 + rlen xs a) 0 = 0) (hs : SumM.sum ((xs.drop (a + 1)).take 2 ++ rec_ xs a) = getn xs (a + 3) 4) :
    Calls Tryz.prog 84 #[.slice A n c, .int .i64 a] w (Some3 (rec_ xs a) ((a + 8 + rlen xs a : Nat) : Int) w) := by
  have hr := (rlen_bd hb.2.1 a).1
  have H1 := Lib.hid (get_len A n c xs a w hb hn (by omega))
  have H2 := Lib.hid (get_sum A n c xs a w hb hn (by omega))
  obtain ⟨b, o, rfl, _, hcell⟩ := hb.2.2 (a + 7 + rlen xs a) h
  rw [hz] at hcell
  have HF := Lib.hid (front_of hb a (by omega))
  have HR := Lib.hid (rec_of hb a (by omega))
  have hsb := SumM.sum_bd ((xs.drop (a + 1)).take 2 ++ rec_ xs a)
  have HS := Lib.hid (fun (v : World) (hf : Bs v (some ⟨b, o + (a + 1), none⟩) 2 ((xs.drop (a + 1)).take 2)) (hr' : Bs v (some ⟨b, o + (a + 7), none⟩) (rlen xs a) (rec_ xs a)) (c1 c2 : Nat) => sumof_calls _ _ 2 (rlen xs a) c1 c2 _ _ v hf hr' (by decide) (by unfold maxLen; omega))
  have hne : (getn xs (a + 3) 4 != getn xs (a + 3) 4) = false := by simp
  rw [hs] at hsb HS
  have HRL := Lib.hid (rec_len (xs := xs) (a := a) (by rw [hb.len]; omega))
  clear hb hz hs
  generalize (xs.drop (a + 1)).take 2 = fs at *
  generalize rec_ xs a = rs at *
  generalize rlen xs a = r at *
  generalize getn xs (a + 3) 4 = s at *
  have d1 : decide ((n : Int) ≤ (a : Int) + 7 + r) = false := by simp; omega
  have s1 := fun w : World => slice_mid (w := w) (b := b) (o := o) (n := n) (c := c) (lo := a + 1) (hi := a + 3) (N := 2) (l := (a : Int) + 1) (h := (a : Int) + 3) (by omega) (by omega) (by omega) (by omega) (by omega)
  have s2 := fun w : World => slice_mid (w := w) (b := b) (o := o) (n := n) (c := c) (lo := a + 7) (hi := a + 7 + r) (N := r) (l := (a : Int) + 7) (h := (a : Int) + 7 + r) (by omega) (by omega) (by omega) (by omega) (by omega)
  have HQ := Lib.hid (fun k c1 c2 => (HS.out (w.drewN k) HF.out HR.out c1 c2).mono fun e w' h => (⟨h.1, h.2.symm⟩ : e = _ ∧ w' = _))
  go_enter Tryz.func84, Tryz.ntmps84
  go_wp2_with fail
  refine (H1.out).mono ?_
  rintro e w' ⟨rfl, rfl⟩
  go_wp2_with fail
  refine (H2.out).mono ?_
  rintro e w' ⟨rfl, rfl⟩
  go_wp2_with fail
  go_quiet ((go_at_call 96; exact Calls.quiet_of_same (HQ.out _ _ _)))
  go_wp2_with fail
  refine (clone_calls _ _ r _ rs (w.drewN nq) (show Bs (w.drewN nq) _ _ _ from HR.out) (by omega)).mono ?_
  intro e w4 hm
  obtain ⟨g, cap, rfl, ho, hb4⟩ := hm.at_ HRL.out
  clear hm
  go_wp2_with fail
  go_ret3
  have hbel : Below w.heap.size w w4 := (below_drewN (Below.refl _ _) nq).trans hb4
  have hz : (w.drewN nq).heap.size = w.heap.size := rfl
  obtain rfl := HRL.out
  exact ⟨g, cap, ret_rec (by omega), ho, hbel⟩
theorem of_no (A : Option Addr) (n c : Nat) (xs : List Int) (a : Nat) (w : World) (hb : Bs w A n xs) (hn : n ≤ 140737488355328) (hc : n ≤ c) (ha : a < n) (h : ¬ whole xs a) :
    Calls Tryz.prog 84 #[.slice A n c, .int .i64 a] w (None3 w) := by
  rcases Nat.lt_or_ge n (a + 3) with h3 | h3
  · exact of_short1 A n c xs a w hb hn ha h3
  rcases Nat.lt_or_ge n (a + 7) with h7 | h7
  · exact of_short2 A n c xs a w hb hn h3 h7
  rcases Nat.lt_or_ge (a + 7 + rlen xs a) n with hl | hl
  · by_cases hz : xs.getD (a + 7 + rlen xs a) 0 = 0
    · refine of_sum A n c xs a w hb hn hc hl hz fun hs => h ⟨?_, hz, hs⟩
      rw [hb.len]
      omega
    · exact of_zero A n c xs a w hb hn hl hz
  · exact of_end A n c xs a w hb hn h7 hl
theorem of_whole (A : Option Addr) (n c : Nat) (xs : List Int) (a : Nat) (w : World) (hb : Bs w A n xs) (hn : n ≤ 140737488355328) (hc : n ≤ c) (h : whole xs a) :
    Calls Tryz.prog 84 #[.slice A n c, .int .i64 a] w (Some3 (rec_ xs a) ((a + 8 + rlen xs a : Nat) : Int) w) := by
  obtain ⟨h1, h2, h3⟩ := h
  rw [hb.len] at h1
  exact of_yes A n c xs a w hb hn hc (by omega) h2 h3

/-- What stands at a place, as an answer: the state, a slice that reads as the record, the place behind it. -/
def Cls (s : Int) (r : List Int) (z : Int) (w : World) (e : Ending) (w' : World) : Prop :=
  ∃ A c, e = .returned (.tuple #[.int .i64 s, .slice A r.length c, .int .i64 z]) ∧ Bs w' A r.length r ∧ (A = none → c = 0) ∧ r.length ≤ c ∧ Below w.heap.size w w'
theorem Cls.of {s z : Int} {r : List Int} {w w' : World} {e : Ending} {A : Option Addr} {n c : Nat} (hn : r.length = n) (he : e = .returned (.tuple #[.int .i64 s, .slice A n c, .int .i64 z])) (hb : Bs w' A n r) (hA : A = none → c = 0) (hc : n ≤ c) (hw : Below w.heap.size w w') : Cls s r z w e w' := by
  subst hn
  exact ⟨A, c, he, hb, hA, hc, hw⟩
theorem Cls.at_ {s z : Int} {r : List Int} {w w' : World} {e : Ending} {n : Nat} (h : Cls s r z w e w') (hn : r.length = n) :
    ∃ A c, e = .returned (.tuple #[.int .i64 s, .slice A n c, .int .i64 z]) ∧ Bs w' A n r ∧ (A = none → c = 0) ∧ n ≤ c ∧ Below w.heap.size w w' := by
  subst hn
  exact h
theorem Cls.none_ {s z : Int} {w w' : World} {e : Ending} (he : e = .returned (.tuple #[.int .i64 s, .slice none 0 0, .int .i64 z])) (hw : Below w.heap.size w w') : Cls s [] z w e w' :=
  ⟨none, 0, he, Bs.nil_ _ _, fun _ => rfl, Nat.le_refl _, hw⟩
set_option maxHeartbeats 1000000 in
theorem class_arg (A : Option Addr) (n c : Nat) (xs : List Int) (a : Int) (w : World) (hb : Bs w A n xs) (h : a < 0 ∨ (n : Int) < a) :
    Calls Tryz.prog 76 #[.slice A n c, .int .i64 a] w (Cls (cs xs a) (cr xs a) (ce xs a) w) := by
  obtain ⟨e1, e2, e3⟩ := c_arg (xs := xs) (a := a) (by rw [hb.len]; exact h)
  rw [e1, e2, e3]
  clear e1 e2 e3 hb
  rcases h with h | h
  · go_enter Tryz.func76, Tryz.ntmps76
    go_wp2
    go_ret3
    exact Cls.none_ rfl (Below.refl _ _)
  · have d : decide (a < 0) = false := by simp; omega
    go_enter Tryz.func76, Tryz.ntmps76
    go_wp2
    go_ret3
    exact Cls.none_ rfl (Below.refl _ _)
set_option maxHeartbeats 1000000 in
theorem class_blank (A : Option Addr) (n c : Nat) (xs : List Int) (a : Nat) (w : World) (hb : Bs w A n xs) (hn : n ≤ maxLen) (ha : a ≤ n) (h : RecM.blank xs a = true) :
    Calls Tryz.prog 76 #[.slice A n c, .int .i64 a] w (Cls (cs xs a) (cr xs a) (ce xs a) w) := by
  obtain ⟨e1, e2, e3⟩ := c_blank (xs := xs) (a := a) (by rw [hb.len]; exact ha) h
  rw [e1, e2, e3]
  have HP := Lib.hid (prog_calls A n c xs a w hb hn ha)
  have HB := Lib.hid hb.len
  have H := Lib.hid h
  unfold maxLen at hn
  clear e1 e2 e3 hb h
  have d : decide ((a : Int) < 0) = false := by simp
  have d2 : decide (n < a) = false := by simp; omega
  go_enter Tryz.func76, Tryz.ntmps76
  go_wp2_with fail
  refine (HP.out).mono ?_
  rintro e w' ⟨p, rfl, hp, rfl⟩
  obtain rfl : p = n := prog_blank hp.out HB.out H.out
  clear hp
  go_wp2_with fail
  go_ret3
  exact Cls.none_ rfl (Below.refl _ _)
set_option maxHeartbeats 1000000 in
theorem class_torn (A : Option Addr) (n c : Nat) (xs : List Int) (a : Nat) (w : World) (hb : Bs w A n xs) (hn : n ≤ 140737488355328) (hc : n ≤ c) (ha : a < n) (h : RecM.blank xs a = false) (hno : stOf (xs.getD a 0) = 3 ∨ ¬ whole xs a) :
    Calls Tryz.prog 76 #[.slice A n c, .int .i64 a] w (Cls (cs xs a) (cr xs a) (ce xs a) w) := by
  obtain ⟨e1, e2, e3⟩ := c_torn (xs := xs) (a := a) (by rw [hb.len]; omega) h hno
  rw [e1, e2, e3]
  have HP := Lib.hid (prog_calls A n c xs a w hb (by unfold maxLen; omega) (by omega))
  have HL := Lib.hid hb.len
  have H := Lib.hid h
  obtain ⟨b, o, rfl, _, hcell⟩ := hb.2.2 a ha
  have HB := Lib.hid hb
  clear e1 e2 e3 hb h
  have d : decide ((a : Int) < 0) = false := by simp
  have d2 : decide (n < a) = false := by simp; omega
  generalize xs.getD a 0 = f at *
  have HS := Lib.hid (fun w => state_calls f w)
  by_cases hw : whole xs a
  · have hf : stOf f = 3 := by
      rcases hno with h | h
      · exact h
      · exact absurd hw h
    rw [hf] at HS
    have HO := Lib.hid (of_whole _ n c xs a w HB.out hn hc hw)
    have hrl := hw.1
    have HR := Lib.hid (rec_len (xs := xs) (a := a) (by omega))
    generalize rlen xs a = r at *
    generalize rec_ xs a = rs at *
    clear hno hw hf hrl
    go_enter Tryz.func76, Tryz.ntmps76
    go_wp2_with fail
    refine (HP.out).mono ?_
    rintro e w' ⟨p, rfl, hp, rfl⟩
    have hp2 : p < n := prog_some hp.out HL.out H.out
    clear hp
    go_wp2_with fail
    refine (HS.out _).mono ?_
    rintro e w' ⟨rfl, rfl⟩
    go_wp2_with fail
    refine (HO.out).mono ?_
    rintro e w2 ⟨g, cap, rfl, ho, hb2⟩
    have HB2 := Lib.hid hb2
    clear ho hb2
    go_wp2_with fail
    go_ret3
    exact Cls.none_ rfl HB2.out
  · have HO := Lib.hid (of_no _ n c xs a w HB.out hn hc ha hw)
    clear hno hw
    obtain ⟨s, hs⟩ : ∃ s, stOf f = s := ⟨_, rfl⟩
    rw [hs] at HS
    clear hs
    by_cases h3 : s = 3
    all_goals
      go_enter Tryz.func76, Tryz.ntmps76
      go_wp2_with fail
      refine (HP.out).mono ?_
      rintro e w' ⟨p, rfl, hp, rfl⟩
      have hp2 : p < n := prog_some hp.out HL.out H.out
      clear hp
      go_wp2_with fail
      refine (HS.out _).mono ?_
      rintro e w' ⟨rfl, rfl⟩
      go_wp2_with fail
      refine (HO.out).mono ?_
      rintro e w2 ⟨rfl, hb2⟩
      have HB2 := Lib.hid hb2
      clear hb2
      go_wp2_with fail
      go_ret3
      exact Cls.none_ rfl HB2.out
set_option maxHeartbeats 1000000 in
theorem class_rec (A : Option Addr) (n c : Nat) (xs : List Int) (a : Nat) (w : World) (hb : Bs w A n xs) (hn : n ≤ 140737488355328) (hc : n ≤ c) (ha : a < n) (h : RecM.blank xs a = false) (hst : stOf (xs.getD a 0) ≠ 3) (hw : whole xs a) :
    Calls Tryz.prog 76 #[.slice A n c, .int .i64 a] w (Cls (cs xs a) (cr xs a) (ce xs a) w) := by
  obtain ⟨e1, e2, e3⟩ := c_rec (xs := xs) (a := a) (by rw [hb.len]; omega) h hst hw
  rw [e1, e2, e3]
  have HP := Lib.hid (prog_calls A n c xs a w hb (by unfold maxLen; omega) (by omega))
  have HL := Lib.hid hb.len
  have H := Lib.hid h
  have HO := Lib.hid (of_whole _ n c xs a w hb hn hc hw)
  have hrl := hw.1
  rw [hb.len] at hrl
  have HR := Lib.hid (rec_len (xs := xs) (a := a) (by rw [hb.len]; omega))
  obtain ⟨b, o, rfl, _, hcell⟩ := hb.2.2 a ha
  clear e1 e2 e3 hb h hw
  have d : decide ((a : Int) < 0) = false := by simp
  have d2 : decide (n < a) = false := by simp; omega
  generalize xs.getD a 0 = f at *
  have HS := Lib.hid (fun w => state_calls f w)
  generalize stOf f = s at *
  generalize rlen xs a = r at *
  generalize rec_ xs a = rs at *
  obtain ⟨Z, hZ⟩ : ∃ Z : Int, ((a + 8 + r : Nat) : Int) = Z := ⟨_, rfl⟩
  rw [hZ] at HO ⊢
  clear hZ
  go_enter Tryz.func76, Tryz.ntmps76
  go_wp2_with fail
  refine (HP.out).mono ?_
  rintro e w' ⟨p, rfl, hp, rfl⟩
  have hp2 : p < n := prog_some hp.out HL.out H.out
  clear hp
  go_wp2_with fail
  refine (HS.out _).mono ?_
  rintro e w' ⟨rfl, rfl⟩
  go_wp2_with fail
  refine (HO.out).mono ?_
  rintro e w2 ⟨g, cap, rfl, ho, hb2⟩
  have HB2 := Lib.hid hb2
  have HO2 := Lib.hid ho
  clear ho hb2
  go_wp2_with fail
  go_ret3
  exact Cls.of rfl rfl HO2.out.bs (fun e => by cases e) HO2.out.capLe HB2.out
theorem class_calls (A : Option Addr) (n c : Nat) (xs : List Int) (a : Int) (w : World) (hb : Bs w A n xs) (hn : n ≤ 140737488355328) (hc : n ≤ c) :
    Calls Tryz.prog 76 #[.slice A n c, .int .i64 a] w (Cls (cs xs a) (cr xs a) (ce xs a) w) := by
  by_cases ha : a < 0 ∨ (n : Int) < a
  · exact class_arg A n c xs a w hb ha
  · obtain ⟨i, rfl⟩ := Int.eq_ofNat_of_zero_le (show 0 ≤ a by omega)
    cases hbl : RecM.blank xs i with
    | true => exact class_blank A n c xs i w hb (by unfold maxLen; omega) (by omega) hbl
    | false =>
      have hlt : i < n := by
        rcases Nat.lt_or_ge i n with h | h
        · exact h
        · have : RecM.blank xs i = true := by
            unfold RecM.blank
            rw [List.drop_eq_nil_of_le (by rw [hb.len]; exact h)]
            rfl
          rw [hbl] at this
          cases this
      by_cases hst : stOf (xs.getD i 0) = 3
      · exact class_torn A n c xs i w hb hn hc hlt hbl (.inl hst)
      · by_cases hw : whole xs i
        · exact class_rec A n c xs i w hb hn hc hlt hbl hst hw
        · exact class_torn A n c xs i w hb hn hc hlt hbl (.inr hw)
end Go.Proofs.YthbafcihmcjchaaGreatDoor.RecX
