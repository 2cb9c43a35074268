/- The contracts of a device's methods over its whole state: Read, Program, Erase. -/
import Derived.Test.YtdcmpkohengnaaaNorF
import Derived.StillTailTactics
import Derived.Lib.SliceRun
namespace Go.Proofs.Ytdcmpkohengnaaa.NorG
set_option linter.unusedVariables false
set_option linter.unusedSimpArgs false
open Go.RowKit Go.Maps
open Go.Proofs.Ytdcmpkohengnaaa.Byte Go.Proofs.Ytdcmpkohengnaaa.NorD Go.Proofs.Ytdcmpkohengnaaa.NorW Go.Proofs.Ytdcmpkohengnaaa.NorM Go.Proofs.Ytdcmpkohengnaaa.NorE Go.Proofs.Ytdcmpkohengnaaa.NorS Go.Proofs.Ytdcmpkohengnaaa.NorF Go.Proofs.Ytdcmpkohengnaaa.PlaceM Go.Proofs.Ytdcmpkohengnaaa.PlaceV

section
variable {lo hi d n z K : Nat} {s : St} {sb scap mb : Nat} {there : Bool} {left whole mask : Int} {G C : Nat → Nat}

theorem Chg.in_ {w w' : World} (h : DevP w lo hi d n z K s sb scap mb there left whole mask G C) {i : Nat} (hi' : i < n) (hg : Chg (fun q => q = d ∨ q = G i) w w') : Chg (fun q => lo ≤ q ∧ q < hi) w w' :=
  hg.mono fun k _ e => by
    rcases e with rfl | rfl
    · exact h.pd
    · exact ⟨(h.rows i hi').place.1, h.pg i hi'⟩

-- PROG
theorem act_prog_dev (w : World) (h : DevP w lo hi d n z K s sb scap mb there left whole mask G C) (hon : s.on = true) (hK : K + 1 ≤ 1000000) (i : Nat) (hi' : i < n) (off len c : Nat) (bp : Nat) (A : Option Addr) (cb : Nat) (bs : List Int)
    (hfit : off + len ≤ z) (hc : len ≤ c) (hc2 : c ≤ 140737488355328) (hb : Bs w A len bs) (hA : ∀ b o, A = some ⟨b, o, none⟩ → b < lo ∨ hi ≤ b) (hp : w.cell? ⟨bp, 0, none⟩ = some (.slice A len cb)) (hbp : bp < lo ∨ hi ≤ bp) :
    Calls Try.prog 44 #[.pointer (some ⟨d, 0, none⟩), .slice (some ⟨G i, off, none⟩) len c, .func (.func 45) #[] #[.pointer (some ⟨bp, 0, none⟩)]] w
      fun e w' => e = .returned (.int .i64 (s.act i true off bs).1) ∧ Dev w' lo hi d n z (K + 1) (s.act i true off bs).2 ∧ Chg (fun q => lo ≤ q ∧ q < hi) w w' := by
  have hf := h.fits.act i hi' true off bs
  have ha := h.fits.ab
  have ho := h.fits.ob
  have hd := h.pd
  have hg1 := (h.rows i hi').place.1
  have hg2 := h.pg i hi'
  have hz := h.geo.2.2.2.1
  have hA' : ∀ b o, A = some ⟨b, o, none⟩ → b ≠ G i ∧ b ≠ d := fun b o e => by
    have := hA b o e
    omega
  have hne : bp ≠ G i := by omega
  have hned : bp ≠ d := by omega
  have hcore := h.core
  rcases h.cut with ⟨hc0, rfl⟩ | ⟨hc0, rfl⟩
  · have e1 : s.act i true off bs = (0, { s with data := s.data.set i (seg true none off bs (s.row i)), acts := s.acts + 1 }) := by unfold St.act; rw [hc0]
    rw [e1] at hf ⊢
    refine (act_prog_none lo (G i) z (C i) off len c (s.row i) bp A cb bs w d n sb scap mb s.on left whole mask s.acts s.offs hcore (h.dg hi') ha.1 (by omega) (h.rows i hi') hfit (by omega) hc hc2 hb hA' hp hne hned).mono fun e w' ⟨he, hC, hO, hg⟩ => ?_
    exact ⟨he, (h.acted (s' := { s with data := s.data.set i (seg true none off bs (s.row i)), acts := s.acts + 1 }) hi' _ hC hO hg (.inl ⟨hc0, rfl⟩) rfl rfl rfl hf (by omega) hK).dev, Chg.in_ h hi' hg⟩
  · have hb3 := h.fits.cb _ _ _ hc0
    by_cases hl : left = 0
    · subst hl
      have e1 : s.act i true off bs = (7, { s with data := s.data.set i (seg true (some (whole, mask)) off bs (s.row i)), on := false, cut := none, acts := s.acts + 1, offs := s.offs + 1 }) := by unfold St.act; rw [hc0]; exact if_pos rfl
      rw [e1] at hf ⊢
      rw [hon] at hcore
      refine (act_prog_cut lo (G i) z (C i) off len c (s.row i) bp A cb bs w d n sb scap mb whole mask s.acts s.offs hcore (h.dg hi') ha.1 (by omega) ho.1 (by omega) hb3.2.2.1 hb3.2.2.2.2.1 hb3.2.2.2.2.2 (h.rows i hi') hfit (by omega) hc hc2 hb hA' hp hne hned).mono fun e w' ⟨he, hC, hO, hg⟩ => ?_
      exact ⟨he, (h.acted (s' := { s with data := s.data.set i (seg true (some (whole, mask)) off bs (s.row i)), on := false, cut := none, acts := s.acts + 1, offs := s.offs + 1 }) hi' _ hC hO hg (.inl ⟨rfl, rfl⟩) rfl rfl rfl hf (by omega) hK).dev, Chg.in_ h hi' hg⟩
    · have e1 : s.act i true off bs = (0, { s with data := s.data.set i (seg true none off bs (s.row i)), cut := some (left - 1, whole, mask), acts := s.acts + 1 }) := by unfold St.act; rw [hc0]; exact if_neg hl
      rw [e1] at hf ⊢
      refine (act_prog_more lo (G i) z (C i) off len c (s.row i) bp A cb bs w d n sb scap mb s.on left whole mask s.acts s.offs hcore (h.dg hi') ha.1 (by omega) (by omega) hb3.2.1 (h.rows i hi') hfit (by omega) hc hc2 hb hA' hp hne hned).mono fun e w' ⟨he, hC, hO, hg⟩ => ?_
      exact ⟨he, (h.acted (s' := { s with data := s.data.set i (seg true none off bs (s.row i)), cut := some (left - 1, whole, mask), acts := s.acts + 1 }) hi' _ hC hO hg (.inr ⟨rfl, rfl⟩) rfl rfl rfl hf (by omega) hK).dev, Chg.in_ h hi' hg⟩
-- ERASE
theorem act_erase_dev (w : World) (h : DevP w lo hi d n z K s sb scap mb there left whole mask G C) (hon : s.on = true) (hK : K + 1 ≤ 1000000) (i : Nat) (hi' : i < n) (off len c : Nat) (bs : List Int)
    (hfit : off + len ≤ z) (hc : len ≤ c) (hc2 : c ≤ 140737488355328) (hb : bs.length = len) :
    Calls Try.prog 44 #[.pointer (some ⟨d, 0, none⟩), .slice (some ⟨G i, off, none⟩) len c, .func (.func 46) #[] #[]] w
      fun e w' => e = .returned (.int .i64 (s.act i false off bs).1) ∧ Dev w' lo hi d n z (K + 1) (s.act i false off bs).2 ∧ Chg (fun q => lo ≤ q ∧ q < hi) w w' := by
  have hf := h.fits.act i hi' false off bs
  have ha := h.fits.ab
  have ho := h.fits.ob
  have hd := h.pd
  have hg1 := (h.rows i hi').place.1
  have hg2 := h.pg i hi'
  have hz := h.geo.2.2.2.1
  have hcore := h.core
  rcases h.cut with ⟨hc0, rfl⟩ | ⟨hc0, rfl⟩
  · have e1 : s.act i false off bs = (0, { s with data := s.data.set i (seg false none off bs (s.row i)), acts := s.acts + 1 }) := by unfold St.act; rw [hc0]
    rw [e1] at hf ⊢
    refine (act_erase_none lo (G i) z (C i) off len c (s.row i) bs w d n sb scap mb s.on left whole mask s.acts s.offs hcore (h.dg hi') ha.1 (by omega) (h.rows i hi') hfit (by omega) hc hc2 hb).mono fun e w' ⟨he, hC, hO, hg⟩ => ?_
    exact ⟨he, (h.acted (s' := { s with data := s.data.set i (seg false none off bs (s.row i)), acts := s.acts + 1 }) hi' _ hC hO hg (.inl ⟨hc0, rfl⟩) rfl rfl rfl hf (by omega) hK).dev, Chg.in_ h hi' hg⟩
  · have hb3 := h.fits.cb _ _ _ hc0
    by_cases hl : left = 0
    · subst hl
      have e1 : s.act i false off bs = (7, { s with data := s.data.set i (seg false (some (whole, mask)) off bs (s.row i)), on := false, cut := none, acts := s.acts + 1, offs := s.offs + 1 }) := by unfold St.act; rw [hc0]; exact if_pos rfl
      rw [e1] at hf ⊢
      rw [hon] at hcore
      refine (act_erase_cut lo (G i) z (C i) off len c (s.row i) bs w d n sb scap mb whole mask s.acts s.offs hcore (h.dg hi') ha.1 (by omega) ho.1 (by omega) hb3.2.2.1 hb3.2.2.2.2.1 hb3.2.2.2.2.2 (h.rows i hi') hfit (by omega) hc hc2 hb).mono fun e w' ⟨he, hC, hO, hg⟩ => ?_
      exact ⟨he, (h.acted (s' := { s with data := s.data.set i (seg false (some (whole, mask)) off bs (s.row i)), on := false, cut := none, acts := s.acts + 1, offs := s.offs + 1 }) hi' _ hC hO hg (.inl ⟨rfl, rfl⟩) rfl rfl rfl hf (by omega) hK).dev, Chg.in_ h hi' hg⟩
    · have e1 : s.act i false off bs = (0, { s with data := s.data.set i (seg false none off bs (s.row i)), cut := some (left - 1, whole, mask), acts := s.acts + 1 }) := by unfold St.act; rw [hc0]; exact if_neg hl
      rw [e1] at hf ⊢
      refine (act_erase_more lo (G i) z (C i) off len c (s.row i) bs w d n sb scap mb s.on left whole mask s.acts s.offs hcore (h.dg hi') ha.1 (by omega) (by omega) hb3.2.1 (h.rows i hi') hfit (by omega) hc hc2 hb).mono fun e w' ⟨he, hC, hO, hg⟩ => ?_
      exact ⟨he, (h.acted (s' := { s with data := s.data.set i (seg false none off bs (s.row i)), cut := some (left - 1, whole, mask), acts := s.acts + 1 }) hi' _ hC hO hg (.inr ⟨rfl, rfl⟩) rfl rfl rfl hf (by omega) hK).dev, Chg.in_ h hi' hg⟩
-- REST
set_option maxRecDepth 100000 in
set_option maxHeartbeats 400000 in
theorem clone_calls (a : Addr) (m c : Nat) (xs : List Int) (w : World) (hb : Bs w (some a) m xs) (hm : m ≤ 140737488355328) :
    Calls Try.prog 42 #[.slice (some a) m c] w fun e w' => ∃ g cap, e = .returned (.slice (some ⟨g, 0, none⟩) m cap) ∧ Ob w' w.heap.size 5 g m cap xs ∧ Below w.heap.size w w' := by
  have HB : Hid (Bs (w.alloc (.cells #[] 5)) (some a) m xs) := Lib.hid (hb.below ((Below.refl _ _).alloc (Nat.le_refl _) _))
  have ho := Ob.new_ w 5 (Nat.le_refl w.heap.size)
  have hq := fun w : World => Lib.run_eql_slice_nil (P := Try.prog) w 38 5 (some a) m c 0 0 Try.underlying38
  clear hb
  go_enter Try.func42, Try.ntmps42
  go_wp2_with (at_builtin; refine wpList_append_bytes rfl _ _ _ rfl w.heap.size 5 Try.underlying38 info_u8 _ 0 0 [] rfl ho (some a) m c xs rfl HB.out (fun e => by cases e) m (by omega) xs rfl (by omega) (by simp) ?_; intro g1 cap1 w1 hown1 hg1 hat1)
  go_ret
  exact ⟨g1, cap1, rfl, hown1, ((Below.refl _ _).alloc (Nat.le_refl _) _).grown hg1 (by simp) (by intro k hk; injection hk with hk; omega)⟩

set_option maxHeartbeats 400000 in
theorem read_off (w : World) (h : DevP w lo hi d n z K s sb scap mb there left whole mask G C) (x y : Nat) (m : Int) (hon : s.on = false) :
    Calls Try.prog 22 #[.pointer (some ⟨d, 0, none⟩), .complex .f64 x y, .int .i64 m] w fun e w' => e = .returned (.tuple #[.slice none 0 0, .int .i64 7]) ∧ w = w' := by
  have hc := h.core
  rw [hon] at hc
  have H := Lib.hid hc
  clear h hc hon
  go_enter Try.func22, Try.ntmps22
  go_wp2_with (go_at_call 26; refine (isOn_calls _ _ H.out).mono ?_; rintro e w' ⟨rfl, rfl⟩)
  go_ret2
  exact ⟨rfl, rfl⟩
set_option maxHeartbeats 400000 in
theorem read_arg (w : World) (h : DevP w lo hi d n z K s sb scap mb there left whole mask G C) (x y : Nat) (m : Int) (hon : s.on = true) (hx : rt x = true) (hy : rt y = true) (hin : inside n z (nm x) (nm y) m = false) :
    Calls Try.prog 22 #[.pointer (some ⟨d, 0, none⟩), .complex .f64 x y, .int .i64 m] w fun e w' => e = .returned (.tuple #[.slice none 0 0, .int .i64 1]) ∧ Below w.heap.size w w' := by
  have hc := h.core
  rw [hon] at hc
  have c0 := hc.c0
  have c1 := hc.c1
  have hn := h.geo.2.1
  have hz := h.geo.2.2.2.1
  have H := Lib.hid hc
  have HW := Lib.hid (within_calls (n := n) (z := z) x y m w hx hy hn hz)
  rw [hin] at HW
  clear h hc hon hin
  go_enter Try.func22, Try.ntmps22
  go_wp2_with (first
    | (go_at_call 26; refine (isOn_calls _ _ H.out).mono ?_; rintro e w' ⟨rfl, rfl⟩)
    | (go_at_call 41; refine (HW.out).mono ?_; rintro e w' ⟨rfl, rfl⟩))
  go_ret2
  exact ⟨rfl, (Below.refl _ _).alloc (Nat.le_refl _) _⟩
set_option maxHeartbeats 1000000 in
theorem read_ok (w : World) (h : DevP w lo hi d n z K s sb scap mb there left whole mask G C) (x y : Nat) (m i off : Nat) (hon : s.on = true) (hx : rt x = true) (hy : rt y = true) (hi' : nm x = i) (ho : nm y = off) (hin : inside n z i off m = true) :
    Calls Try.prog 22 #[.pointer (some ⟨d, 0, none⟩), .complex .f64 x y, .int .i64 m] w
      fun e w' => ∃ g cap, e = .returned (.tuple #[.slice (some ⟨g, 0, none⟩) m cap, .int .i64 0]) ∧ Ob w' w.heap.size 5 g m cap (((s.row i).drop off).take m) ∧ Below w.heap.size w w' := by
  have hc := h.core
  rw [hon] at hc
  have hn := h.geo.2.1
  have hz := h.geo.2.2.2.1
  have HW := Lib.hid (within_calls (n := n) (z := z) x y m w hx hy hn hz)
  rw [hi', ho, hin] at HW
  have HP := Lib.hid (fun w => parts_yes x y w hx hy)
  rw [hi', ho] at HP
  have hin' := hin
  unfold inside at hin'
  rw [decide_eq_true_eq] at hin'
  have hin2 : i < n := by omega
  have hof : off ≤ z := by omega
  have hm : off + m ≤ z := by omega
  have hrow := h.rows i hin2
  have hcl := hrow.capLe
  have l := hc.lt
  have sl := h.secs.lt
  obtain ⟨W, hW⟩ : ∃ W, w.alloc (.cells #[.int .i64 n, .int .i64 z] 23) = W := ⟨_, rfl⟩
  have hbel : Below w.heap.size w W := by rw [← hW]; exact (Below.refl _ _).alloc (Nat.le_refl _) _
  have hsz : w.heap.size ≤ W.heap.size := hbel.size
  have hPW : DevP W lo hi d n z K s sb scap mb there left whole mask G C := by rw [← hW]; exact h.alloc _
  have c0 := hc.c0
  have c1 := hc.c1
  have q2 := hPW.core.c2
  have k0 := hPW.secs.c0 hin2
  have hbs : Bs W (some ⟨G i, off, none⟩) m (((s.row i).drop off).take m) := by
    have := (hPW.rows i hin2).bs.sub off m hm
    rwa [Nat.zero_add] at this
  have hbz : m = 0 → Bs W (some ⟨G i, 0, none⟩) m (((s.row i).drop off).take m) := fun e => by
    subst e
    rw [List.take_zero]
    exact Bs.nil_ _ _
  have hscap := h.geo.2.2.2.2
  have H := Lib.hid hc
  have HS := Lib.hid hbs
  have HZ := Lib.hid hbz
  have HWW := Lib.hid hW
  clear h hc hon hin hin' hrow hPW hbs hbz hW hi' ho hcl
  generalize ((s.row i).drop off).take m = rr at *
  by_cases hcz : z = off
  · obtain rfl : m = 0 := by omega
    subst hcz
    have HZ0 := Lib.hid (HZ.out rfl)
    go_enter Try.func22, Try.ntmps22
    go_wp2_with (first
      | (go_at_call 26; refine (isOn_calls _ _ H.out).mono ?_; rintro e w' ⟨rfl, rfl⟩)
      | (go_at_call 41; refine (HW.out).mono ?_; rintro e w' ⟨rfl, hw'⟩; rw [HWW.out] at hw'; subst hw')
      | (go_at_call 16; refine (HP.out _).mono ?_; rintro e w' ⟨rfl, rfl⟩)
      | (go_at_call 42; (go_loud (refine (clone_calls _ _ _ _ _ HZ0.out (by omega)).mono ?_)); rintro e w1 ⟨g1, cap1, rfl, ho1, hb1⟩))
    go_ret2
    exact ⟨g1, cap1, rfl, ho1.base hsz, hbel.trans (hb1.mono hsz)⟩
  · go_enter Try.func22, Try.ntmps22
    go_wp2_with (first
      | (go_at_call 26; refine (isOn_calls _ _ H.out).mono ?_; rintro e w' ⟨rfl, rfl⟩)
      | (go_at_call 41; refine (HW.out).mono ?_; rintro e w' ⟨rfl, hw'⟩; rw [HWW.out] at hw'; subst hw')
      | (go_at_call 16; refine (HP.out _).mono ?_; rintro e w' ⟨rfl, rfl⟩)
      | (go_at_call 42; (with_reducible refine (clone_calls _ _ _ _ _ HS.out (by omega)).mono ?_); rintro e w1 ⟨g1, cap1, rfl, ho1, hb1⟩))
    go_ret2
    exact ⟨g1, cap1, rfl, ho1.base hsz, hbel.trans (hb1.mono hsz)⟩
end
end Go.Proofs.Ytdcmpkohengnaaa.NorG
