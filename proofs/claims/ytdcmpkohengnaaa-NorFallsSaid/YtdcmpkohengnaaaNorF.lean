/- The contracts of a device's methods over its whole state: the small ones. -/
import Derived.Test.YtdcmpkohengnaaaNorS
namespace Go.Proofs.Ytdcmpkohengnaaa.NorF
set_option linter.unusedVariables false
set_option linter.unusedSimpArgs false
open Go.RowKit Go.Maps
open Go.Proofs.Ytdcmpkohengnaaa.Byte Go.Proofs.Ytdcmpkohengnaaa.NorD Go.Proofs.Ytdcmpkohengnaaa.NorW Go.Proofs.Ytdcmpkohengnaaa.NorM Go.Proofs.Ytdcmpkohengnaaa.NorE Go.Proofs.Ytdcmpkohengnaaa.NorS Go.Proofs.Ytdcmpkohengnaaa.PlaceM Go.Proofs.Ytdcmpkohengnaaa.PlaceV

theorem law_int : Keyed Try.prog 3 := int_keyed Try.underlying3
theorem zero_unit (w : World) : (zeroValue 80).run Try.prog w = .ok (.agg #[]) w := by kernel_rfl
theorem info_u8 : (Try.prog.info? 5).map (fun i => (i.zero, i.size, i.bytes)) = some (some (.int .u8 0), 1, 1) := by kernel_rfl

section
variable {lo hi d n z K : Nat} {s : St} {sb scap mb : Nat} {there : Bool} {left whole mask : Int} {G C : Nat → Nat}

set_option maxHeartbeats 400000 in
theorem within_calls (x y : Nat) (m : Int) (w : World) (hx : rt x = true) (hy : rt y = true) (hn : n ≤ 64) (hz : z ≤ 4096) :
    Calls Try.prog 41 #[.agg #[.int .i64 n, .int .i64 z], .complex .f64 x y, .int .i64 m] w fun e w' => e = .returned (.bool (inside n z (nm x) (nm y) m)) ∧ w.alloc (.cells #[.int .i64 n, .int .i64 z] 23) = w' := by
  obtain ⟨_, x0, x1⟩ := rt_fv hx
  obtain ⟨_, y0, y1⟩ := rt_fv hy
  by_cases h : inside n z (nm x) (nm y) m = true
  · rw [h]
    unfold inside at h
    rw [decide_eq_true_eq] at h
    obtain ⟨h1, h2, h3, h4⟩ := h
    go_enter Try.func41, Try.ntmps41
    go_wp2_with (go_at_call 16; refine (parts_yes _ _ _ hx hy).mono ?_; rintro e w' ⟨rfl, rfl⟩)
    go_ret
    exact ⟨rfl, rfl⟩
  · rw [Bool.not_eq_true] at h
    rw [h]
    unfold inside at h
    rw [decide_eq_false_iff_not] at h
    have hh : (n : Int) ≤ nm x ∨ (nm x < n ∧ (z : Int) < nm y) ∨ (nm x < n ∧ nm y ≤ z ∧ m < 0) ∨ (nm x < n ∧ nm y ≤ z ∧ 0 ≤ m ∧ z - nm y < m) := by omega
    clear h
    rcases hh with h | ⟨h, h'⟩ | ⟨h, h', h''⟩ | ⟨h, h', h'', h'''⟩
    case inr.inr.inr =>
      have d1 : decide (m ≤ (z : Int) - nm y) = false := by simp; omega
      have d2 : decide ((z : Int) < nm y) = false := by simp; omega
      go_enter Try.func41, Try.ntmps41
      go_wp2_with (go_at_call 16; refine (parts_yes _ _ _ hx hy).mono ?_; rintro e w' ⟨rfl, rfl⟩)
      go_ret
      exact ⟨rfl, rfl⟩
    all_goals
      go_enter Try.func41, Try.ntmps41
      go_wp2_with (go_at_call 16; refine (parts_yes _ _ _ hx hy).mono ?_; rintro e w' ⟨rfl, rfl⟩)
      go_ret
      exact ⟨rfl, rfl⟩

set_option maxHeartbeats 400000 in
theorem has_yes (w : World) (h : DevP w lo hi d n z K s sb scap mb there left whole mask G C) (se : Int) (h0 : 0 ≤ se) (h1 : se < n) :
    Calls Try.prog 39 #[.pointer (some ⟨d, 0, none⟩), .int .i64 se] w fun e w' => e = .returned (.bool true) ∧ w = w' := by
  have c2 := h.core.c2
  clear h
  go_enter Try.func39, Try.ntmps39
  go_wp2
  go_ret
  exact ⟨rfl, rfl⟩
set_option maxHeartbeats 400000 in
theorem has_no (w : World) (h : DevP w lo hi d n z K s sb scap mb there left whole mask G C) (se : Int) (h0 : se < 0 ∨ (n : Int) ≤ se) :
    Calls Try.prog 39 #[.pointer (some ⟨d, 0, none⟩), .int .i64 se] w fun e w' => e = .returned (.bool false) ∧ w = w' := by
  have c2 := h.core.c2
  clear h
  have h' : se < 0 ∨ (0 ≤ se ∧ (n : Int) ≤ se) := by omega
  clear h0
  have d1 : 0 ≤ se → decide (se < (n : Int)) = false := fun _ => by simp; omega
  rcases h' with h' | ⟨h', h''⟩
  case inr => 
    have d2 := d1 h'
    clear d1
    go_enter Try.func39, Try.ntmps39
    go_wp2
    go_ret
    exact ⟨rfl, rfl⟩
  all_goals
    clear d1
    go_enter Try.func39, Try.ntmps39
    go_wp2
    go_ret
    exact ⟨rfl, rfl⟩
set_option maxHeartbeats 400000 in
theorem has_nil (w : World) (se : Int) : Calls Try.prog 39 #[.pointer none, .int .i64 se] w fun e w' => e = .returned (.bool false) ∧ w = w' := by
  go_enter Try.func39, Try.ntmps39
  go_wp2
  go_ret
  exact ⟨rfl, rfl⟩
set_option maxHeartbeats 400000 in
theorem isBad_calls (w : World) (h : DevP w lo hi d n z K s sb scap mb there left whole mask G C) (i : Nat) (hi' : i < n) :
    Calls Try.prog 43 #[.pointer (some ⟨d, 0, none⟩), .int .i64 i] w fun e w' => e = .returned (.bool (s.bad.getD i false)) ∧ Below w.heap.size w w' := by
  have c3 := h.core.c3
  have l := h.core.lt
  have hn := h.geo.2.1
  obtain ⟨D, hown, hD, hhas⟩ := h.map
  have hb := hhas i hi'
  clear h hhas
  have hkey : keyOf Try.prog 3 (.int .i64 i) = some (.int .i64 i) := keyOf_int_mk Try.underlying3 (WalkArith.wf_i64 (by omega))
  have HB := Lib.hid hb
  clear hb
  go_enter Try.func43, Try.ntmps43
  go_wp2_with (at_lookup; refine wpList_lookup_own_unit _ rfl _ _ 60 rfl 3 80 law_int Try.underlying60 (zero_unit _) mb K D rfl hown _ _ rfl hkey ?_)
  go_ret
  exact ⟨Byte.ret_bool HB.out, by first | exact Below.refl _ _ | exact (Below.refl _ _).alloc (Nat.le_refl _) _⟩
set_option maxHeartbeats 400000 in
theorem spoil_yes (w : World) (h : DevP w lo hi d n z K s sb scap mb there left whole mask G C) (hK : K + 1 ≤ 1000000) (i : Nat) (hi' : i < n) :
    Calls Try.prog 19 #[.pointer (some ⟨d, 0, none⟩), .int .i64 i] w fun e w' => e = .returned (.tuple #[]) ∧ Dev w' lo hi d n z (K + 1) (s.spoil n i) ∧ Chg (fun q => lo ≤ q ∧ q < hi) w w' := by
  have c3 := h.core.c3
  have hn := h.geo.2.1
  obtain ⟨D, hown, hD, hhas⟩ := h.map
  have hkey : keyOf Try.prog 3 (.int .i64 i) = some (.int .i64 i) := keyOf_int_mk Try.underlying3 (WalkArith.wf_i64 (by omega))
  have H := Lib.hid h
  have HH := Lib.hid hhas
  clear h hhas
  go_enter Try.func19, Try.ntmps19
  go_wp2_with (first
    | (go_at_call 39; refine (has_yes _ H.out _ (by omega) (by omega)).mono ?_; rintro e w' ⟨rfl, rfl⟩)
    | (at_mapUpdate; refine wpList_mapUpdate_own _ rfl _ _ _ 60 rfl 3 80 law_int Try.underlying60 _ mb K D rfl hown (by unfold maxLen; omega) _ _ _ rfl rfl hkey _ [] unitElem_mk ?_; intro w1 hown1 hg1))
  go_end0
  have h := H.out
  have hg2 : Chg (fun q => q = mb) w w1 := Chg.of_grown hg1 (fun k e => .inl (Option.some.inj e).symm)
  refine ⟨rfl, ⟨sb, scap, mb, there, left, whole, mask, G, C, ?_⟩, hg2.mono (fun k _ e => by rw [e]; exact h.pm)⟩
  have hf := h.fits.spoil (i : Int)
  have hs : s.spoil n (i : Int) = { s with bad := s.bad.set i true } := by
    unfold St.spoil
    rw [if_pos (by omega), Int.toNat_natCast]
  rw [hs] at hf ⊢
  refine ⟨Blk.chg h.core hg2 h.dm, h.cut, h.secs.of_eq (hg2.block sb h.secs.lt h.sm), ⟨_, hown1, hD.put _ _, fun j hj => ?_⟩, fun j hj => (h.rows j hj).chg hg2 (Ne.symm (h.mg hj)), h.apart, h.pd, h.ps, h.pm, h.pg, Nat.le_trans h.hs hg2.size, hf.more (by omega), h.geo, hK⟩
  rw [has_put D hD]
  show _ = (s.bad.set i true).getD j false
  rw [getD_setB _ _ _ _ (by rw [h.fits.bl]; exact hi'), HH.out j hj]
  by_cases e : j = i <;> simp [e]
set_option maxHeartbeats 400000 in
theorem spoil_no (w : World) (h : DevP w lo hi d n z K s sb scap mb there left whole mask G C) (se : Int) (h0 : se < 0 ∨ (n : Int) ≤ se) :
    Calls Try.prog 19 #[.pointer (some ⟨d, 0, none⟩), .int .i64 se] w fun e w' => e = .returned (.tuple #[]) ∧ w = w' := by
  have H := Lib.hid h
  have H0 := Lib.hid h0
  clear h h0
  go_enter Try.func19, Try.ntmps19
  go_wp2_with (go_at_call 39; refine (has_no _ H.out _ H0.out).mono ?_; rintro e w' ⟨rfl, rfl⟩)
  go_end0
  exact ⟨rfl, rfl⟩
set_option maxHeartbeats 400000 in
theorem wear_yes (w : World) (h : DevP w lo hi d n z K s sb scap mb there left whole mask G C) (i : Nat) (hi' : i < n) :
    Calls Try.prog 15 #[.pointer (some ⟨d, 0, none⟩), .int .i64 i] w fun e w' => e = .returned (.int .i64 (s.wear.getD i 0)) ∧ w = w' := by
  have c2 := h.core.c2
  have k1 := h.secs.c1 hi'
  have hn := h.geo.2.1
  have hsc := h.geo.2.2.2.2
  have H := Lib.hid h
  clear h
  generalize s.wear.getD i 0 = v at *
  go_enter Try.func15, Try.ntmps15
  go_wp2_with (go_at_call 39; refine (has_yes _ H.out _ (by omega) (by omega)).mono ?_; rintro e w' ⟨rfl, rfl⟩)
  go_ret
  exact ⟨rfl, rfl⟩
set_option maxHeartbeats 400000 in
theorem wear_no (w : World) (h : DevP w lo hi d n z K s sb scap mb there left whole mask G C) (se : Int) (h0 : se < 0 ∨ (n : Int) ≤ se) :
    Calls Try.prog 15 #[.pointer (some ⟨d, 0, none⟩), .int .i64 se] w fun e w' => e = .returned (.int .i64 0) ∧ w = w' := by
  have H := Lib.hid h
  have H0 := Lib.hid h0
  clear h h0
  go_enter Try.func15, Try.ntmps15
  go_wp2_with (go_at_call 39; refine (has_no _ H.out _ H0.out).mono ?_; rintro e w' ⟨rfl, rfl⟩)
  go_ret
  exact ⟨rfl, rfl⟩
set_option maxHeartbeats 400000 in
theorem cut_calls (w : World) (h : DevP w lo hi d n z K s sb scap mb there left whole mask G C) (a b m : Int) (ha : a ≤ 9223372036854775807) (hb : b ≤ 9223372036854775807) (h0 : 0 ≤ m) (h1 : m ≤ 255) :
    Calls Try.prog 20 #[.pointer (some ⟨d, 0, none⟩), .int .i64 a, .int .i64 b, .int .u8 m] w fun e w' => e = .returned (.tuple #[]) ∧ Dev w' lo hi d n z K (s.setCut a b m) ∧ Chg (fun q => lo ≤ q ∧ q < hi) w w' := by
  have c5 := h.core.c5
  have c6 := h.core.c6
  have c7 := h.core.c7
  have c8 := h.core.c8
  have f5 := h.core.fr 5
  have f6 := h.core.fr 6
  have f7 := h.core.fr 7
  have f8 := h.core.fr 8
  have H := Lib.hid h
  clear h
  go_enter Try.func20, Try.ntmps20
  go_wp2
  go_end0
  have h := H.out
  have hg : Chg (fun q => q = d) w ((((w.setCell ⟨d, 5, none⟩ (.bool true)).setCell ⟨d, 6, none⟩ (.int .i64 (max a 0))).setCell ⟨d, 7, none⟩ (.int .i64 (max b 0))).setCell ⟨d, 8, none⟩ (.int .u8 m)) :=
    ((((Chg.refl _ w).own 5 _).own 6 _).own 7 _).own 8 _
  exact ⟨rfl, (h.cored (s' := s.setCut a b m) ((((h.core.set5 true).set6 (max a 0)).set7 (max b 0)).set8 m) hg (.inr ⟨rfl, rfl⟩) rfl rfl rfl (h.fits.setCut a b m ha hb h0 h1) (Nat.le_refl _) h.big).dev, hg.mono (fun k _ e => by rw [e]; exact h.pd)⟩
theorem turnOn_calls (w : World) (h : DevP w lo hi d n z K s sb scap mb there left whole mask G C) :
    Calls Try.prog 18 #[.pointer (some ⟨d, 0, none⟩)] w fun e w' => e = .returned (.tuple #[]) ∧ Dev w' lo hi d n z K s.up ∧ Chg (fun q => lo ≤ q ∧ q < hi) w w' := by
  refine (on_calls d w h.core).mono fun e w' ⟨he, hw⟩ => ?_
  subst hw
  have hg : Chg (fun q => q = d) w (w.setCell ⟨d, 4, none⟩ (.bool true)) := (Chg.refl _ w).own 4 _
  exact ⟨he, (h.cored (s' := s.up) (h.core.set4 true) hg h.cut rfl rfl rfl h.fits.up (Nat.le_refl _) h.big).dev, hg.mono (fun k _ e => by rw [e]; exact h.pd)⟩
set_option maxHeartbeats 400000 in
theorem off_off (acts offs : Int) (w : World) (h : Core w d n z sb scap mb false there left whole mask acts offs) :
    Calls Try.prog 21 #[.pointer (some ⟨d, 0, none⟩)] w fun e w' => e = .returned (.tuple #[]) ∧ w = w' := by
  have H := Lib.hid h
  clear h
  go_enter Try.func21, Try.ntmps21
  go_wp2_with (go_at_call 26; refine (isOn_calls _ _ H.out).mono ?_; rintro e w' ⟨rfl, rfl⟩)
  go_end0
  exact ⟨rfl, rfl⟩
theorem turnOff_calls (w : World) (h : DevP w lo hi d n z K s sb scap mb there left whole mask G C) (hK : K + 1 ≤ 1000000) :
    Calls Try.prog 21 #[.pointer (some ⟨d, 0, none⟩)] w fun e w' => e = .returned (.tuple #[]) ∧ Dev w' lo hi d n z (K + 1) s.turn ∧ Chg (fun q => lo ≤ q ∧ q < hi) w w' := by
  have hf := h.fits.turn
  have ho := h.fits.ob
  cases hon : s.on with
  | true =>
    have hc := h.core
    rw [hon] at hc
    refine (off_calls d w hc ho.1 (by omega)).mono fun e w' ⟨he, hC, hg⟩ => ?_
    have e1 : s.turn = { s with on := false, cut := none, offs := s.offs + 1 } := by
      unfold St.turn
      rw [if_pos hon]
    rw [e1] at hf ⊢
    exact ⟨he, (h.cored (s' := { s with on := false, cut := none, offs := s.offs + 1 }) hC hg (.inl ⟨rfl, rfl⟩) rfl rfl rfl hf (by omega) hK).dev, hg.mono (fun k _ e => by rw [e]; exact h.pd)⟩
  | false =>
    have hc := h.core
    rw [hon] at hc
    refine (off_off _ _ w hc).mono fun e w' ⟨he, hw⟩ => ?_
    subst hw
    have e1 : s.turn = s := by
      unfold St.turn
      rw [if_neg (by rw [hon]; decide)]
    rw [e1] at hf ⊢
    exact ⟨he, (h.cored (s' := s) h.core (Chg.refl _ w) h.cut rfl rfl rfl hf (by omega) hK).dev, Chg.refl _ _⟩
end
end Go.Proofs.Ytdcmpkohengnaaa.NorF
