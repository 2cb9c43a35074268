/- The contracts of an act's parts: the two closures, 'doFront'. -/
import Derived.Test.YthbafcihmcjchaaGreatDoorNorW
import Derived.Test.YthbafcihmcjchaaGreatDoorNorM
import Derived.Deep.RegionHeld3
import Derived.StillTailTactics
import Derived.Laws.BitsAllLaws
namespace Go.Proofs.YthbafcihmcjchaaGreatDoor.NorA
set_option linter.unusedVariables false
set_option linter.unusedSimpArgs false
open Go.RowKit
open Go.Proofs.YthbafcihmcjchaaGreatDoor.Byte Go.Proofs.YthbafcihmcjchaaGreatDoor.NorD Go.Proofs.YthbafcihmcjchaaGreatDoor.NorW Go.Proofs.YthbafcihmcjchaaGreatDoor.NorM

set_option maxHeartbeats 400000 in
theorem prog_calls (i : Nat) (old : Int) (bp : Nat) (A : Option Addr) (n c : Nat) (bs : List Int) (w : World) (hb : Bs w A n bs) (hc : w.cell? ⟨bp, 0, none⟩ = some (.slice A n c)) (hi : i < n) (hn : n ≤ 140737488355328) (h0 : 0 ≤ old) (h1 : old ≤ 255) :
    Calls Tryz.prog 24 #[.int .i64 i, .int .u8 old, .pointer (some ⟨bp, 0, none⟩)] w fun e w' => e = .returned (.int .u8 (whl true old (bs.getD i 0))) ∧ w = w' := by
  obtain ⟨b, o, rfl, hlt, hcell⟩ := hb.2.2 i hi
  have hbd := hb.bd i
  have hu := u8_and old (bs.getD i 0) h0 (by omega) hbd.1 (by omega)
  clear hb
  generalize bs.getD i 0 = y at *
  go_enter Tryz.func24, Tryz.ntmps24
  go_wp2
  go_ret
  exact ⟨rfl, rfl⟩
set_option maxHeartbeats 400000 in
theorem erase_calls (i old : Int) (w : World) :
    Calls Tryz.prog 59 #[.int .i64 i, .int .u8 old] w fun e w' => e = .returned (.int .u8 255) ∧ w = w' := by
  go_enter Tryz.func59, Tryz.ntmps59
  go_wp2
  go_ret
  exact ⟨rfl, rfl⟩

theorem mix_bits (down : Bool) (old other mask : Int) (h0 : 0 ≤ old) (h1 : old ≤ 255) (h2 : 0 ≤ mask) (h3 : mask ≤ 255) :
    bits .or .u8 ((old.toNat &&& (255 - mask.toNat) : Nat) : Int) (bits .and .u8 (whl down old other) mask) = mixI down old other mask := by
  have hv := whl_bd down old other h0 h1
  have a1 : old.toNat &&& (255 - mask.toNat) ≤ old.toNat := Nat.and_le_left
  have a2 : (whl down old other).toNat &&& mask.toNat ≤ mask.toNat := Nat.and_le_right
  rw [u8_and _ _ hv.1 (by omega) h2 (by omega), u8_or_nat _ _ (by omega) (by omega)]
  rfl
theorem mixI_bd (down : Bool) (old other mask : Int) (h0 : 0 ≤ old) (h1 : old ≤ 255) (h2 : 0 ≤ mask) (h3 : mask ≤ 255) : 0 ≤ mixI down old other mask ∧ mixI down old other mask ≤ 255 := by
  rw [mix_bt _ _ _ _ h0 h1 h2 h3]
  exact bt_bd _ _ _ _

-- PROG
set_option maxHeartbeats 1000000 in
theorem front_prog (lo g z cap off len c : Nat) (ys : List Int) (N : Int) (k : Nat) (m : Int) (bp : Nat) (A : Option Addr) (cb : Nat) (bs : List Int) (w : World)
    (ho : Ob w lo 5 g z cap ys) (hfit : off + len ≤ z) (hz : z ≤ 100000) (hc : len ≤ c) (hc2 : c ≤ 140737488355328) (hN : 0 ≤ N) (hk : min N (len : Int) = (k : Int)) (h2 : 0 ≤ m) (h3 : m ≤ 255)
    (hb : Bs w A len bs) (hA : ∀ b o, A = some ⟨b, o, none⟩ → b ≠ g) (hp : w.cell? ⟨bp, 0, none⟩ = some (.slice A len cb)) (hne : bp ≠ g) (hcase : k = len) :
    Calls Tryz.prog 53 #[.slice (some ⟨g, off, none⟩) len c, .int .i64 N, .int .u8 m, .func (.func 24) #[] #[.pointer (some ⟨bp, 0, none⟩)]] w
      fun e w' => e = .returned (.tuple #[]) ∧ Ob w' lo 5 g z cap (upTo true off len bs ys) ∧ Chg (fun q => q = g) w w' := by
  subst hcase
  have hkN : (k : Int) ≤ N := by omega
  have hmx : max (k : Int) 0 = (k : Int) := by omega
  have HO := Lib.hid ho
  have HB := Lib.hid hb
  have HA := Lib.hid hA
  have HP := Lib.hid hp
  clear ho hb hA hp
  go_enter Tryz.func53, Tryz.ntmps53
  go_wp2_with fail
  go_loopw [8, 9, 17] (fun _ _ i wr => ∃ j : Nat, j ≤ k ∧ i = .int .i64 j ∧ Ob wr lo 5 g z cap (upTo true off j bs ys) ∧ Chg (fun q => q = g) w wr) (fun _ _ i _ => k - (intOf i).toNat)
  case atStart => exact ⟨0, by omega, rfl, by rw [upTo_zero]; exact HO.out, Chg.refl _ _⟩
  case round =>
    obtain ⟨j, hj, rfl, hown, hchg⟩ := hrel
    by_cases hlt : j < k
    · have hcell := hown.cell (off + j) (by omega)
      have hfr := hown.frozen (off + j)
      rw [upTo_at _ _ _ _ _ _ (by rw [HO.out.len]; omega) (Nat.le_refl _)] at hcell
      have hbd := HO.out.bs.bd (off + j)
      have hbw : Bs wr A k bs := HB.out.chg hchg HA.out
      have hpw : wr.cell? ⟨bp, 0, none⟩ = some (.slice A k cb) := (hchg.cell (p := ⟨bp, 0, none⟩) HP.out hne)
      have HBW := Lib.hid hbw
      have HPW := Lib.hid hpw
      have hs := upTo_succ true off j bs ys
      have HS := Lib.hid hs
      clear hbw hpw hs
      generalize hy : ys.getD (off + j) 0 = y at *
      go_wp2_with (go_at_call 24; refine (prog_calls j y bp A k cb bs _ HBW.out HPW.out hlt (by omega) hbd.1 hbd.2).mono ?_; rintro e w' ⟨rfl, rfl⟩)
      go_roundw
      case rel =>
        refine ⟨j + 1, by omega, by go_num, ?_, hchg.own _ _⟩
        have hv := whl_bd true y (bs.getD j 0) hbd.1 hbd.2
        have h3 := hown.set_ (off + j) (whl true y (bs.getD j 0)) hv.1 hv.2
        rw [HS.out] at h3
        exact h3
      case measure => simp [intOf]; omega
    · obtain rfl : j = k := by omega
      have d1 : decide (N < (j : Int)) = false := by simp; omega
      go_wp2_with fail
      go_end0
      exact ⟨rfl, hown, hchg⟩

set_option maxRecDepth 100000 in
set_option maxHeartbeats 1000000 in
theorem front_prog_cut (lo g z cap off len c : Nat) (ys : List Int) (k : Nat) (m : Int) (bp : Nat) (A : Option Addr) (cb : Nat) (bs : List Int) (w : World)
    (ho : Ob w lo 5 g z cap ys) (hfit : off + len ≤ z) (hz : z ≤ 100000) (hc : len ≤ c) (hc2 : c ≤ 140737488355328) (h2 : 0 ≤ m) (h3 : m ≤ 255)
    (hb : Bs w A len bs) (hA : ∀ b o, A = some ⟨b, o, none⟩ → b ≠ g) (hp : w.cell? ⟨bp, 0, none⟩ = some (.slice A len cb)) (hne : bp ≠ g) (hcase : k < len) :
    Calls Tryz.prog 53 #[.slice (some ⟨g, off, none⟩) len c, .int .i64 k, .int .u8 m, .func (.func 24) #[] #[.pointer (some ⟨bp, 0, none⟩)]] w
      fun e w' => e = .returned (.tuple #[]) ∧ Ob w' lo 5 g z cap (seg true (some ((k : Int), m)) off bs ys) ∧ Chg (fun q => q = g) w w' := by
  have hmx : max (k : Int) 0 = (k : Int) := by omega
  have hmn : min (k : Int) (len : Int) = (k : Int) := by omega
  have hmn' : min k len = k := by omega
  have HO := Lib.hid ho
  have HB := Lib.hid hb
  have HA := Lib.hid hA
  have HP := Lib.hid hp
  clear ho hb hA hp
  go_enter Tryz.func53, Tryz.ntmps53
  go_wp2_with fail
  go_loopw [8, 9, 17] (fun _ _ i wr => ∃ j : Nat, j ≤ k ∧ i = .int .i64 j ∧ Ob wr lo 5 g z cap (upTo true off j bs ys) ∧ Chg (fun q => q = g) w wr) (fun _ _ i _ => k - (intOf i).toNat)
  case atStart => exact ⟨0, by omega, rfl, by rw [upTo_zero]; exact HO.out, Chg.refl _ _⟩
  case round =>
    obtain ⟨j, hj, rfl, hown, hchg⟩ := hrel
    have hcell := hown.cell (off + j) (by omega)
    have hfr := hown.frozen (off + j)
    rw [upTo_at _ _ _ _ _ _ (by rw [HO.out.len]; omega) (Nat.le_refl _)] at hcell
    have hbd := HO.out.bs.bd (off + j)
    have hbw : Bs wr A len bs := HB.out.chg hchg HA.out
    have hpw : wr.cell? ⟨bp, 0, none⟩ = some (.slice A len cb) := (hchg.cell (p := ⟨bp, 0, none⟩) HP.out hne)
    have HBW := Lib.hid hbw
    have HPW := Lib.hid hpw
    clear hbw hpw
    by_cases hlt : j < k
    · have hs := upTo_succ true off j bs ys
      have HS := Lib.hid hs
      clear hs
      generalize hy : ys.getD (off + j) 0 = y at *
      go_wp2_with (go_at_call 24; refine (prog_calls j y bp A len cb bs _ HBW.out HPW.out (by omega) (by omega) hbd.1 hbd.2).mono ?_; rintro e w' ⟨rfl, rfl⟩)
      go_roundw
      case rel =>
        refine ⟨j + 1, by omega, by go_num, ?_, hchg.own _ _⟩
        have hv := whl_bd true y (bs.getD j 0) hbd.1 hbd.2
        have h3 := hown.set_ (off + j) (whl true y (bs.getD j 0)) hv.1 hv.2
        rw [HS.out] at h3
        exact h3
      case measure => simp [intOf]; omega
    · obtain rfl : j = k := by omega
      have hs := upTo_cut true off j m bs ys HO.out.2.1 (by rw [HB.out.len]; exact hcase) h2 h3
      have HS := Lib.hid hs
      clear hs
      generalize hy : ys.getD (off + j) 0 = y at *
      have e1 := u8_andNot y m hbd.1 (by omega) h2 (by omega)
      have HBD : Hid (Bs wr.drew A len bs) := HBW
      have HPD : Hid (wr.drew.cell? ⟨bp, 0, none⟩ = some (.slice A len cb)) := HPW
      go_wp2_with fail
      go_still_tail 19, (by kernel_rfl)
      still_call ((prog_calls j y bp A len cb bs _ HBD.out HPD.out (by omega) (by omega) hbd.1 hbd.2).mono fun _ _ h => ⟨h.1, h.2.symm⟩)
      repeat still_step
      refine wpStill_nil ?_
      change wpList _ _ _ _ _ wr.drew
      go_wp2_with fail
      go_end0
      have hm := mix_bits true y (bs.getD j 0) m hbd.1 hbd.2 h2 h3
      have hv := mixI_bd true y (bs.getD j 0) m hbd.1 hbd.2 h2 h3
      have h4 := hown.set_ (off + j) (mixI true y (bs.getD j 0) m) hv.1 hv.2
      rw [HS.out, ← hm] at h4
      exact ⟨rfl, h4, (hchg.own _ _).drew⟩
-- ERASE
set_option maxHeartbeats 1000000 in
theorem front_erase (lo g z cap off len c : Nat) (ys : List Int) (N : Int) (k : Nat) (m : Int) (bs : List Int) (w : World)
    (ho : Ob w lo 5 g z cap ys) (hfit : off + len ≤ z) (hz : z ≤ 100000) (hc : len ≤ c) (hc2 : c ≤ 140737488355328) (hN : 0 ≤ N) (hk : min N (len : Int) = (k : Int)) (h2 : 0 ≤ m) (h3 : m ≤ 255)
    (hb : bs.length = len) (hcase : k = len) :
    Calls Tryz.prog 53 #[.slice (some ⟨g, off, none⟩) len c, .int .i64 N, .int .u8 m, .func (.func 59) #[] #[]] w
      fun e w' => e = .returned (.tuple #[]) ∧ Ob w' lo 5 g z cap (upTo false off len bs ys) ∧ Chg (fun q => q = g) w w' := by
  subst hcase
  have hkN : (k : Int) ≤ N := by omega
  have hmx : max (k : Int) 0 = (k : Int) := by omega
  have HO := Lib.hid ho
  have HB := Lib.hid hb
  clear ho hb
  go_enter Tryz.func53, Tryz.ntmps53
  go_wp2_with fail
  go_loopw [8, 9, 17] (fun _ _ i wr => ∃ j : Nat, j ≤ k ∧ i = .int .i64 j ∧ Ob wr lo 5 g z cap (upTo false off j bs ys) ∧ Chg (fun q => q = g) w wr) (fun _ _ i _ => k - (intOf i).toNat)
  case atStart => exact ⟨0, by omega, rfl, by rw [upTo_zero]; exact HO.out, Chg.refl _ _⟩
  case round =>
    obtain ⟨j, hj, rfl, hown, hchg⟩ := hrel
    by_cases hlt : j < k
    · have hcell := hown.cell (off + j) (by omega)
      have hfr := hown.frozen (off + j)
      rw [upTo_at _ _ _ _ _ _ (by rw [HO.out.len]; omega) (Nat.le_refl _)] at hcell
      have hbd := HO.out.bs.bd (off + j)
      have hs := upTo_succ false off j bs ys
      have HS := Lib.hid hs
      clear hs
      generalize hy : ys.getD (off + j) 0 = y at *
      go_wp2_with (go_at_call 59; refine (erase_calls _ _ _).mono ?_; rintro e w' ⟨rfl, rfl⟩)
      go_roundw
      case rel =>
        refine ⟨j + 1, by omega, by go_num, ?_, hchg.own _ _⟩
        have hv := whl_bd false y (bs.getD j 0) hbd.1 hbd.2
        have h3 := hown.set_ (off + j) (whl false y (bs.getD j 0)) hv.1 hv.2
        rw [HS.out] at h3
        exact h3
      case measure => simp [intOf]; omega
    · obtain rfl : j = k := by omega
      have d1 : decide (N < (j : Int)) = false := by simp; omega
      go_wp2_with fail
      go_end0
      exact ⟨rfl, hown, hchg⟩

set_option maxRecDepth 100000 in
set_option maxHeartbeats 1000000 in
theorem front_erase_cut (lo g z cap off len c : Nat) (ys : List Int) (k : Nat) (m : Int) (bs : List Int) (w : World)
    (ho : Ob w lo 5 g z cap ys) (hfit : off + len ≤ z) (hz : z ≤ 100000) (hc : len ≤ c) (hc2 : c ≤ 140737488355328) (h2 : 0 ≤ m) (h3 : m ≤ 255)
    (hb : bs.length = len) (hcase : k < len) :
    Calls Tryz.prog 53 #[.slice (some ⟨g, off, none⟩) len c, .int .i64 k, .int .u8 m, .func (.func 59) #[] #[]] w
      fun e w' => e = .returned (.tuple #[]) ∧ Ob w' lo 5 g z cap (seg false (some ((k : Int), m)) off bs ys) ∧ Chg (fun q => q = g) w w' := by
  have hmx : max (k : Int) 0 = (k : Int) := by omega
  have hmn : min (k : Int) (len : Int) = (k : Int) := by omega
  have hmn' : min k len = k := by omega
  have HO := Lib.hid ho
  have HB := Lib.hid hb
  clear ho hb
  go_enter Tryz.func53, Tryz.ntmps53
  go_wp2_with fail
  go_loopw [8, 9, 17] (fun _ _ i wr => ∃ j : Nat, j ≤ k ∧ i = .int .i64 j ∧ Ob wr lo 5 g z cap (upTo false off j bs ys) ∧ Chg (fun q => q = g) w wr) (fun _ _ i _ => k - (intOf i).toNat)
  case atStart => exact ⟨0, by omega, rfl, by rw [upTo_zero]; exact HO.out, Chg.refl _ _⟩
  case round =>
    obtain ⟨j, hj, rfl, hown, hchg⟩ := hrel
    have hcell := hown.cell (off + j) (by omega)
    have hfr := hown.frozen (off + j)
    rw [upTo_at _ _ _ _ _ _ (by rw [HO.out.len]; omega) (Nat.le_refl _)] at hcell
    have hbd := HO.out.bs.bd (off + j)
    by_cases hlt : j < k
    · have hs := upTo_succ false off j bs ys
      have HS := Lib.hid hs
      clear hs
      generalize hy : ys.getD (off + j) 0 = y at *
      go_wp2_with (go_at_call 59; refine (erase_calls _ _ _).mono ?_; rintro e w' ⟨rfl, rfl⟩)
      go_roundw
      case rel =>
        refine ⟨j + 1, by omega, by go_num, ?_, hchg.own _ _⟩
        have hv := whl_bd false y (bs.getD j 0) hbd.1 hbd.2
        have h3 := hown.set_ (off + j) (whl false y (bs.getD j 0)) hv.1 hv.2
        rw [HS.out] at h3
        exact h3
      case measure => simp [intOf]; omega
    · obtain rfl : j = k := by omega
      have hs := upTo_cut false off j m bs ys HO.out.2.1 (by rw [HB.out]; exact hcase) h2 h3
      have HS := Lib.hid hs
      clear hs
      generalize hy : ys.getD (off + j) 0 = y at *
      have e1 := u8_andNot y m hbd.1 (by omega) h2 (by omega)
      go_wp2_with fail
      go_still_tail 19, (by kernel_rfl)
      still_call ((erase_calls _ _ _).mono fun _ _ h => ⟨h.1, h.2.symm⟩)
      repeat still_step
      refine wpStill_nil ?_
      change wpList _ _ _ _ _ wr.drew
      go_wp2_with fail
      go_end0
      have hm := mix_bits false y (bs.getD j 0) m hbd.1 hbd.2 h2 h3
      have hv := mixI_bd false y (bs.getD j 0) m hbd.1 hbd.2 h2 h3
      have h4 := hown.set_ (off + j) (mixI false y (bs.getD j 0) m) hv.1 hv.2
      rw [HS.out, ← hm] at h4
      exact ⟨rfl, h4, (hchg.own _ _).drew⟩
end Go.Proofs.YthbafcihmcjchaaGreatDoor.NorA
