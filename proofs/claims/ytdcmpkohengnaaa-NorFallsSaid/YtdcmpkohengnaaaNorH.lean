/- The contracts of a device's methods over its whole state: Program, Erase. -/
import Derived.Test.YtdcmpkohengnaaaNorG
import Derived.IntWalk
namespace Go.Proofs.Ytdcmpkohengnaaa.NorH
set_option linter.unusedVariables false
set_option linter.unusedSimpArgs false
open Go.RowKit Go.Maps
open Go.Proofs.Ytdcmpkohengnaaa.Byte Go.Proofs.Ytdcmpkohengnaaa.NorD Go.Proofs.Ytdcmpkohengnaaa.NorW Go.Proofs.Ytdcmpkohengnaaa.NorM Go.Proofs.Ytdcmpkohengnaaa.NorE Go.Proofs.Ytdcmpkohengnaaa.NorS Go.Proofs.Ytdcmpkohengnaaa.NorF Go.Proofs.Ytdcmpkohengnaaa.NorG Go.Proofs.Ytdcmpkohengnaaa.PlaceM Go.Proofs.Ytdcmpkohengnaaa.PlaceV

theorem below_drewN {B : Nat} {a w : World} (h : Below B a w) (n : Nat) : Below B a (w.drewN n) := ⟨h.os, h.tape, h.output, h.size, h.block⟩
theorem below_of_alloc {W w2 : World} {o : Obj} (h : W.drew.alloc o = w2) : Hid (Below W.heap.size W w2) := by
  subst h
  exact (Below.refl _ W).drew.alloc (Nat.le_refl _) _
section
variable {lo hi d n z K : Nat} {s : St} {sb scap mb : Nat} {there : Bool} {left whole mask : Int} {G C : Nat → Nat}

theorem DevP.chg {w w' : World} {S : Nat → Prop} (h : DevP w lo hi d n z K s sb scap mb there left whole mask G C) (hg : Chg S w w') (hS : ∀ k, lo ≤ k → k < hi → ¬ S k) : DevP w' lo hi d n z K s sb scap mb there left whole mask G C :=
  h.keep (fun k h1 h2 => hg.block k (Nat.lt_of_lt_of_le h2 h.hs) (hS k h1 h2)) hg.size
theorem DevP.below {w w' : World} (h : DevP w lo hi d n z K s sb scap mb there left whole mask G C) (hb : Below w.heap.size w w') : DevP w' lo hi d n z K s sb scap mb there left whole mask G C :=
  h.keep (fun k _ h2 => hb.block k (Nat.lt_of_lt_of_le h2 h.hs)) hb.size
theorem DevP.more {w : World} (h : DevP w lo hi d n z K s sb scap mb there left whole mask G C) {K' : Nat} (hK : K ≤ K') (hb : K' ≤ 1000000) : DevP w lo hi d n z K' s sb scap mb there left whole mask G C :=
  ⟨h.core, h.cut, h.secs, h.map.more hK, h.rows, h.apart, h.pd, h.ps, h.pm, h.pg, h.hs, h.fits.more hK, h.geo, hb⟩

set_option maxHeartbeats 400000 in
theorem program_off (w : World) (h : DevP w lo hi d n z K s sb scap mb there left whole mask G C) (x y : Nat) (A : Option Addr) (m cb : Nat) (hon : s.on = false) :
    Calls Try.prog 23 #[.pointer (some ⟨d, 0, none⟩), .complex .f64 x y, .slice A m cb] w fun e w' => e = .returned (.int .i64 7) ∧ Below w.heap.size w w' := by
  have h1 := h.alloc (.cells #[.slice A m cb] 38)
  have hc := h1.core
  rw [hon] at hc
  have H := Lib.hid hc
  clear h h1 hc hon
  go_enter Try.func23, Try.ntmps23
  go_wp2_with (go_at_call 26; refine (isOn_calls _ _ H.out).mono ?_; rintro e w' ⟨rfl, rfl⟩)
  go_ret
  exact ⟨rfl, (Below.refl _ _).alloc (Nat.le_refl _) _⟩
set_option maxHeartbeats 400000 in
theorem program_none (w : World) (h : DevP w lo hi d n z K s sb scap mb there left whole mask G C) (x y : Nat) (A : Option Addr) (cb : Nat) (hon : s.on = true) :
    Calls Try.prog 23 #[.pointer (some ⟨d, 0, none⟩), .complex .f64 x y, .slice A 0 cb] w fun e w' => e = .returned (.int .i64 1) ∧ Below w.heap.size w w' := by
  have h1 := h.alloc (.cells #[.slice A 0 cb] 38)
  have hc := h1.core
  rw [hon] at hc
  have H := Lib.hid hc
  clear h h1 hc hon
  go_enter Try.func23, Try.ntmps23
  go_wp2_with (go_at_call 26; refine (isOn_calls _ _ H.out).mono ?_; rintro e w' ⟨rfl, rfl⟩)
  go_quiet (fail)
  go_wp2
  go_ret
  exact ⟨rfl, Go.Proofs.Ytdcmpkohengnaaa.NorH.below_drewN ((Below.refl _ _).alloc (Nat.le_refl _) _) _⟩
set_option maxRecDepth 100000 in
set_option maxHeartbeats 1000000 in
theorem program_arg (w : World) (h : DevP w lo hi d n z K s sb scap mb there left whole mask G C) (x y : Nat) (A : Option Addr) (m cb : Nat) (hon : s.on = true) (hm0 : 0 < m) (hm1 : m ≤ 140737488355328) (hx : rt x = true) (hy : rt y = true) (hin : inside n z (nm x) (nm y) m = false) :
    Calls Try.prog 23 #[.pointer (some ⟨d, 0, none⟩), .complex .f64 x y, .slice A m cb] w fun e w' => e = .returned (.int .i64 1) ∧ Below w.heap.size w w' := by
  have h1 := h.alloc (.cells #[.slice A m cb] 38)
  have hb1 : Below w.heap.size w (w.alloc (.cells #[.slice A m cb] 38)) := (Below.refl _ _).alloc (Nat.le_refl _) _
  have hbx : (w.alloc (.cells #[.slice A m cb] 38)).cell? ⟨w.heap.size, 0, none⟩ = some (.slice A m cb) := (Blk.new w _ _).cell 0
  have hsz : w.heap.size ≤ (w.alloc (.cells #[.slice A m cb] 38)).heap.size := by simp
  have hn := h.geo.2.1
  have hz := h.geo.2.2.2.1
  have hc := h1.core
  rw [hon] at hc
  have H := Lib.hid hc
  have e0 : ((m : Int) == 0) = false := beq_eq_false_iff_ne.2 (by omega)
  have HB := Lib.hid hb1
  have HX := Lib.hid hbx
  have HS := Lib.hid hsz
  clear h h1 hc hon hb1 hbx hsz
  have HW := Lib.hid (fun w => within_calls (n := n) (z := z) x y m w hx hy hn hz)
  rw [hin] at HW
  clear hin
  go_enter Try.func23, Try.ntmps23
  go_wp2_with (go_at_call 26; refine (isOn_calls _ _ H.out).mono ?_; rintro e w' ⟨rfl, rfl⟩)
  generalize w.alloc (.cells #[.slice A m cb] 38) = W at *
  have hbx := HX.out
  have c0 := H.out.c0
  have c1 := H.out.c1
  go_still_tail 11, (by kernel_rfl)
  change wpList _ _ _ _ _ W.drew
  go_wp2_with (go_at_call 41; refine (HW.out _).mono ?_; rintro e w' ⟨rfl, rfl⟩)
  go_ret
  exact ⟨rfl, (HB.out.drew).alloc HS.out _⟩

/-- From the box on: what stands where the tests have been passed. -/
theorem program_start (w : World) (h : DevP w lo hi d n z K s sb scap mb there left whole mask G C) (A : Option Addr) (m cb : Nat) (bs : List Int) (hb : Bs w A m bs) (hA : ∀ b o, A = some ⟨b, o, none⟩ → b < lo ∨ hi ≤ b) (W3 : World)
    (hbel : Below (w.alloc (.cells #[.slice A m cb] 38)).heap.size (w.alloc (.cells #[.slice A m cb] 38)) W3) :
    DevP W3 lo hi d n z K s sb scap mb there left whole mask G C ∧ Bs W3 A m bs ∧ W3.cell? ⟨w.heap.size, 0, none⟩ = some (.slice A m cb) ∧ hi ≤ w.heap.size ∧ Below w.heap.size w W3 := by
  have h1 := h.alloc (.cells #[.slice A m cb] 38)
  have hb1 : Below w.heap.size w (w.alloc (.cells #[.slice A m cb] 38)) := (Below.refl _ _).alloc (Nat.le_refl _) _
  have hbx : (w.alloc (.cells #[.slice A m cb] 38)).cell? ⟨w.heap.size, 0, none⟩ = some (.slice A m cb) := (Blk.new w _ _).cell 0
  exact ⟨DevP.below h1 hbel, (hb.below hb1).below hbel, (hbel.cell (p := ⟨w.heap.size, 0, none⟩) (by simp)).trans hbx, h.hs, hb1.trans (hbel.mono (by simp))⟩

set_option maxRecDepth 100000 in
set_option maxHeartbeats 1000000 in
theorem program_bad (w : World) (h : DevP w lo hi d n z K s sb scap mb there left whole mask G C) (x y : Nat) (A : Option Addr) (m cb i off : Nat) (hon : s.on = true) (hm0 : 0 < m) (hm1 : m ≤ 140737488355328) (hx : rt x = true) (hy : rt y = true) (hi' : nm x = i) (ho : nm y = off) (hin : inside n z i off m = true) (hbad : s.bad.getD i false = true) :
    Calls Try.prog 23 #[.pointer (some ⟨d, 0, none⟩), .complex .f64 x y, .slice A m cb] w fun e w' => e = .returned (.int .i64 8) ∧ Below w.heap.size w w' := by
  have h1 := h.alloc (.cells #[.slice A m cb] 38)
  have hb1 : Below w.heap.size w (w.alloc (.cells #[.slice A m cb] 38)) := (Below.refl _ _).alloc (Nat.le_refl _) _
  have hbx : (w.alloc (.cells #[.slice A m cb] 38)).cell? ⟨w.heap.size, 0, none⟩ = some (.slice A m cb) := (Blk.new w _ _).cell 0
  have hsz : w.heap.size ≤ (w.alloc (.cells #[.slice A m cb] 38)).heap.size := by simp
  have hn := h.geo.2.1
  have hz := h.geo.2.2.2.1
  have hc := h1.core
  rw [hon] at hc
  have H := Lib.hid hc
  have H1 := Lib.hid h1
  have e0 : ((m : Int) == 0) = false := beq_eq_false_iff_ne.2 (by omega)
  have HB := Lib.hid hb1
  have HX := Lib.hid hbx
  have HS := Lib.hid hsz
  clear h h1 hc hon hb1 hbx hsz
  have HW := Lib.hid (fun w => within_calls (n := n) (z := z) x y m w hx hy hn hz)
  rw [hi', ho, hin] at HW
  have HP := Lib.hid (fun w => parts_yes x y w hx hy)
  rw [hi', ho] at HP
  have hin' := hin
  unfold inside at hin'
  rw [decide_eq_true_eq] at hin'
  have hin2 : i < n := by omega
  have HQ := Lib.hid (fun (w : World) (h : DevP w lo hi d n z K s sb scap mb there left whole mask G C) => isBad_calls w h i hin2)
  rw [hbad] at HQ
  clear hin hin' hi' ho hbad
  go_enter Try.func23, Try.ntmps23
  go_wp2_with (go_at_call 26; refine (isOn_calls _ _ H.out).mono ?_; rintro e w' ⟨rfl, rfl⟩)
  generalize w.alloc (.cells #[.slice A m cb] 38) = W at *
  have hbx := HX.out
  have c0 := H.out.c0
  have c1 := H.out.c1
  go_still_tail 11, (by kernel_rfl)
  change wpList _ _ _ _ _ W.drew
  clear hbx c0 c1
  go_wp2_with (first
    | (go_at_call 41; refine (HW.out _).mono ?_; rintro e w2 ⟨rfl, hw2⟩; have HB2 := below_of_alloc hw2; clear hw2)
    | (go_at_call 16; refine (HP.out _).mono ?_; rintro e w' ⟨rfl, rfl⟩)
    | (go_at_call 43; refine (HQ.out _ (DevP.below H1.out HB2.out)).mono ?_; rintro e w3 ⟨rfl, hb3⟩))
  go_ret
  exact ⟨rfl, HB.out.trans ((HB2.out.mono HS.out).trans (hb3.mono (Nat.le_trans HS.out HB2.out.size)))⟩

set_option maxRecDepth 100000 in
set_option maxHeartbeats 1000000 in
theorem program_ok (w : World) (h : DevP w lo hi d n z K s sb scap mb there left whole mask G C) (hK : K + 1 ≤ 1000000) (x y : Nat) (A : Option Addr) (m cb i off : Nat) (bs : List Int) (hb : Bs w A m bs) (hA : ∀ b o, A = some ⟨b, o, none⟩ → b < lo ∨ hi ≤ b)
    (hon : s.on = true) (hm0 : 0 < m) (hm1 : m ≤ 140737488355328) (hx : rt x = true) (hy : rt y = true) (hi' : nm x = i) (ho : nm y = off) (hin : inside n z i off m = true) (hbad : s.bad.getD i false = false) :
    Calls Try.prog 23 #[.pointer (some ⟨d, 0, none⟩), .complex .f64 x y, .slice A m cb] w
      fun e w' => e = .returned (.int .i64 (s.act i true off bs).1) ∧ Dev w' lo hi d n z (K + 1) (s.act i true off bs).2 ∧ Chg (fun q => lo ≤ q ∧ q < hi) w w' := by
  have h1 := h.alloc (.cells #[.slice A m cb] 38)
  have hb1 : Below w.heap.size w (w.alloc (.cells #[.slice A m cb] 38)) := (Below.refl _ _).alloc (Nat.le_refl _) _
  have hbx : (w.alloc (.cells #[.slice A m cb] 38)).cell? ⟨w.heap.size, 0, none⟩ = some (.slice A m cb) := (Blk.new w _ _).cell 0
  have hsz : w.heap.size ≤ (w.alloc (.cells #[.slice A m cb] 38)).heap.size := by simp
  have hST := Lib.hid (program_start w h A m cb bs hb hA)
  have hn := h.geo.2.1
  have hz := h.geo.2.2.2.1
  have hsc := h.geo.2.2.2.2
  have hc := h1.core
  rw [hon] at hc
  have H := Lib.hid hc
  have H1 := Lib.hid h1
  have e0 : ((m : Int) == 0) = false := beq_eq_false_iff_ne.2 (by omega)
  have HX := Lib.hid hbx
  have HON := Lib.hid hon
  clear h h1 hc hon hb1 hbx hsz
  have HW := Lib.hid (fun w => within_calls (n := n) (z := z) x y m w hx hy hn hz)
  rw [hi', ho, hin] at HW
  have HP := Lib.hid (fun w => parts_yes x y w hx hy)
  rw [hi', ho] at HP
  have hin' := hin
  unfold inside at hin'
  rw [decide_eq_true_eq] at hin'
  have hin2 : i < n := by omega
  have hof : off + m ≤ z := by omega
  have HQ := Lib.hid (fun (w : World) (h : DevP w lo hi d n z K s sb scap mb there left whole mask G C) => isBad_calls w h i hin2)
  rw [hbad] at HQ
  have HA := Lib.hid hA
  have hzo : ¬ z = off := by omega
  clear hin hin' hi' ho hbad hb hA
  have hmf : ∀ (fn : Fn) (first cap : Array Value) (w : World), (Instr.makeFunc fn first cap).run Try.prog w = .ok (.func fn first cap) w := fun _ _ _ _ => rfl
  go_enter Try.func23, Try.ntmps23
  go_wp2_with (go_at_call 26; refine (isOn_calls _ _ H.out).mono ?_; rintro e w' ⟨rfl, rfl⟩)
  generalize w.alloc (.cells #[.slice A m cb] 38) = W at *
  have hbx := HX.out
  have c0 := H.out.c0
  have c1 := H.out.c1
  go_still_tail 11, (by kernel_rfl)
  change wpList _ _ _ _ _ W.drew
  clear hbx c0 c1
  go_wp2_with (first
    | (go_at_call 41; refine (HW.out _).mono ?_; rintro e w2 ⟨rfl, hw2⟩; have HB2 := below_of_alloc hw2; clear hw2)
    | (go_at_call 16; refine (HP.out _).mono ?_; rintro e w' ⟨rfl, rfl⟩)
    | (go_at_call 43; refine (HQ.out _ (DevP.below H1.out HB2.out)).mono ?_; rintro e w3 ⟨rfl, hb3⟩))
  have HB3 : Hid (Below W.heap.size W w3) := HB2.out.trans (hb3.mono HB2.out.size)
  clear hb3
  have HT := Lib.hid (hST.out w3 HB3.out)
  have q2 := HT.out.1.core.c2
  have k0 := HT.out.1.secs.c0 hin2
  have bx := HT.out.2.2.1
  have v1 : IntKind.i64.wrap ((off : Int) + (m : Int)) = (off : Int) + (m : Int) := IntWalk.i64_in _ (by omega)
  have v2 : (0 : Int) ≤ (off : Int) := by omega
  have v3 : (off : Int) ≤ (off : Int) + (m : Int) := by omega
  have v4 : (off : Int) + (m : Int) ≤ (z : Int) := by omega
  go_still_tail 16, (by kernel_rfl)
  clear v1 v2 v3 v4
  change wpList _ _ _ _ _ w3.drew
  have HD : Hid (DevP w3.drew lo hi d n z K s sb scap mb there left whole mask G C) := DevP.keep (w := w3) HT.out.1 (fun _ _ _ => rfl) (Nat.le_refl _)
  go_wp2_with fail
  rw [Nat.add_sub_cancel_left]
  go_wp2_with (go_at_call 44; refine (act_prog_dev w3.drew HD.out HON.out hK i hin2 off m _ w.heap.size A cb bs hof (by omega) (by omega) HT.out.2.1 HA.out bx (.inr HT.out.2.2.2.1)).mono ?_; rintro e w4 ⟨rfl, hd4, hg4⟩)
  go_ret
  exact ⟨rfl, hd4, (Chg.of_below HT.out.2.2.2.2).drew.trans hg4⟩

/-- Program, whatever befalls. -/
theorem program_calls (w : World) (hD : Dev w lo hi d n z K s) (hK : K + 1 ≤ 1000000) (x y : Nat) (A : Option Addr) (m cb i off : Nat) (bs : List Int) (hb : Bs w A m bs) (hA : ∀ b o, A = some ⟨b, o, none⟩ → b < lo ∨ hi ≤ b)
    (hm1 : m ≤ 140737488355328) (hx : rt x = true) (hy : rt y = true) (hi' : nm x = i) (ho : nm y = off) :
    Calls Try.prog 23 #[.pointer (some ⟨d, 0, none⟩), .complex .f64 x y, .slice A m cb] w
      fun e w' => e = .returned (.int .i64 (s.program n z i off bs).1) ∧ Dev w' lo hi d n z (K + 1) (s.program n z i off bs).2 ∧ Chg (fun q => lo ≤ q ∧ q < hi) w w' := by
  obtain ⟨sb, scap, mb, there, left, whole, mask, G, C, h⟩ := hD
  have stay : ∀ w', Below w.heap.size w w' → Dev w' lo hi d n z (K + 1) s ∧ Chg (fun q => lo ≤ q ∧ q < hi) w w' := fun w' hb =>
    ⟨(DevP.more (DevP.below h hb) (by omega) hK).dev, Chg.of_below hb⟩
  have hl := hb.len
  by_cases hon : s.on = false
  · have e : s.program n z i off bs = (7, s) := by unfold St.program; rw [if_pos hon]
    rw [e]
    exact (program_off w h x y A m cb hon).mono fun e w' ⟨he, hw⟩ => ⟨he, stay w' hw⟩
  · have hon' : s.on = true := by simpa using hon
    by_cases hm0 : m = 0
    · subst hm0
      have e : s.program n z i off bs = (1, s) := by unfold St.program; rw [if_neg hon, if_pos (.inl hl)]
      rw [e]
      exact (program_none w h x y A cb hon').mono fun e w' ⟨he, hw⟩ => ⟨he, stay w' hw⟩
    · cases hin : inside n z i off m with
      | false =>
        have e : s.program n z i off bs = (1, s) := by unfold St.program; rw [if_neg hon, if_pos (.inr (by rw [hl]; exact hin))]
        rw [e]
        exact (program_arg w h x y A m cb hon' (by omega) hm1 hx hy (by rw [hi', ho]; exact hin)).mono fun e w' ⟨he, hw⟩ => ⟨he, stay w' hw⟩
      | true =>
        have hne : ¬ (bs.length = 0 ∨ inside n z i off bs.length = false) := by rw [hl, hin]; simp [hm0]
        cases hbad : s.bad.getD i false with
        | true =>
          have e : s.program n z i off bs = (8, s) := by unfold St.program; rw [if_neg hon, if_neg hne, if_pos hbad]
          rw [e]
          exact (program_bad w h x y A m cb i off hon' (by omega) hm1 hx hy hi' ho hin hbad).mono fun e w' ⟨he, hw⟩ => ⟨he, stay w' hw⟩
        | false =>
          have e : s.program n z i off bs = s.act i true off bs := by unfold St.program; rw [if_neg hon, if_neg hne, if_neg (by rw [hbad]; decide)]
          rw [e]
          exact program_ok w h hK x y A m cb i off bs hb hA hon' (by omega) hm1 hx hy hi' ho hin hbad

set_option maxHeartbeats 400000 in
theorem erase_off (w : World) (h : DevP w lo hi d n z K s sb scap mb there left whole mask G C) (se : Int) (hon : s.on = false) :
    Calls Try.prog 24 #[.pointer (some ⟨d, 0, none⟩), .int .i64 se] w fun e w' => e = .returned (.int .i64 7) ∧ w = w' := by
  have hc := h.core
  rw [hon] at hc
  have H := Lib.hid hc
  clear h hc hon
  go_enter Try.func24, Try.ntmps24
  go_wp2_with (go_at_call 26; refine (isOn_calls _ _ H.out).mono ?_; rintro e w' ⟨rfl, rfl⟩)
  go_ret
  exact ⟨rfl, rfl⟩
set_option maxHeartbeats 400000 in
theorem erase_arg (w : World) (h : DevP w lo hi d n z K s sb scap mb there left whole mask G C) (se : Int) (hon : s.on = true) (hse : se < 0 ∨ (n : Int) ≤ se) :
    Calls Try.prog 24 #[.pointer (some ⟨d, 0, none⟩), .int .i64 se] w fun e w' => e = .returned (.int .i64 1) ∧ w = w' := by
  have hc := h.core
  rw [hon] at hc
  have H := Lib.hid hc
  have H1 := Lib.hid h
  have HS := Lib.hid hse
  clear h hc hon hse
  go_enter Try.func24, Try.ntmps24
  go_wp2_with (first
    | (go_at_call 26; refine (isOn_calls _ _ H.out).mono ?_; rintro e w' ⟨rfl, rfl⟩)
    | (go_at_call 39; refine (has_no _ H1.out _ HS.out).mono ?_; rintro e w' ⟨rfl, rfl⟩))
  go_ret
  exact ⟨rfl, rfl⟩
set_option maxHeartbeats 400000 in
theorem erase_bad (w : World) (h : DevP w lo hi d n z K s sb scap mb there left whole mask G C) (i : Nat) (hi' : i < n) (hon : s.on = true) (hbad : s.bad.getD i false = true) :
    Calls Try.prog 24 #[.pointer (some ⟨d, 0, none⟩), .int .i64 i] w fun e w' => e = .returned (.int .i64 8) ∧ Below w.heap.size w w' := by
  have hc := h.core
  rw [hon] at hc
  have H := Lib.hid hc
  have H1 := Lib.hid h
  have HQ := Lib.hid (isBad_calls w h i hi')
  rw [hbad] at HQ
  clear h hc hon hbad
  go_enter Try.func24, Try.ntmps24
  go_wp2_with (first
    | (go_at_call 26; refine (isOn_calls _ _ H.out).mono ?_; rintro e w' ⟨rfl, rfl⟩)
    | (go_at_call 39; refine (has_yes _ H1.out _ (by omega) (by omega)).mono ?_; rintro e w' ⟨rfl, rfl⟩)
    | (go_at_call 43; refine (HQ.out).mono ?_; rintro e w2 ⟨rfl, hb2⟩))
  go_ret
  exact ⟨rfl, hb2⟩
set_option maxHeartbeats 1000000 in
theorem erase_ok (w : World) (h : DevP w lo hi d n z K s sb scap mb there left whole mask G C) (hK : K + 2 ≤ 1000000) (i : Nat) (hi' : i < n) (hon : s.on = true) (hbad : s.bad.getD i false = false) :
    Calls Try.prog 24 #[.pointer (some ⟨d, 0, none⟩), .int .i64 i] w
      fun e w' => e = .returned (.int .i64 ((s.worn i).act i false 0 (List.replicate z 0)).1) ∧ Dev w' lo hi d n z (K + 2) ((s.worn i).act i false 0 (List.replicate z 0)).2 ∧ Chg (fun q => lo ≤ q ∧ q < hi) w w' := by
  have hc := h.core
  rw [hon] at hc
  have hn := h.geo.2.1
  have hz := h.geo.2.2.2.1
  have hsc := h.geo.2.2.2.2
  have hwb := h.fits.wb i
  have H := Lib.hid hc
  have H1 := Lib.hid h
  have HQ := Lib.hid (isBad_calls w h i hi')
  rw [hbad] at HQ
  have HON := Lib.hid hon
  clear h hc hon hbad
  go_enter Try.func24, Try.ntmps24
  go_wp2_with (first
    | (go_at_call 26; refine (isOn_calls _ _ H.out).mono ?_; rintro e w' ⟨rfl, rfl⟩)
    | (go_at_call 39; refine (has_yes _ H1.out _ (by omega) (by omega)).mono ?_; rintro e w' ⟨rfl, rfl⟩)
    | (go_at_call 43; refine (HQ.out).mono ?_; rintro e w2 ⟨rfl, hb2⟩; have H2 := Lib.hid (DevP.below H1.out hb2); have HB2 := Lib.hid hb2; clear hb2; have q2 := H2.out.core.c2; have k0 := H2.out.secs.c0 hi'; have k1 := H2.out.secs.c1 hi'; have f1 := H2.out.secs.fr (i * 2 + 1); have l2 := H2.out.core.lt; have HW2 := Lib.hid (H2.out.wornAt (by omega) hi'); generalize hv : s.wear.getD i 0 = v at *; have HV := Lib.hid hv; clear hv)
    | (go_at_call 44; refine (act_erase_dev _ HW2.out HON.out (by omega) i hi' 0 z z (List.replicate z 0) (by omega) (Nat.le_refl _) (by omega) (List.length_replicate ..)).mono ?_; rintro e w3 ⟨rfl, hd3, hg3⟩))
  go_ret
  have h1 := H1.out
  have hg2 : Chg (fun q => lo ≤ q ∧ q < hi) w (w2.setCell ⟨sb, i * 2 + 1, none⟩ (.int .i64 (v + 1))) := (Chg.of_below HB2.out).setCell (.inl h1.ps) _
  exact ⟨rfl, hd3, hg2.trans hg3⟩

/-- Erase, whatever befalls. -/
theorem eraseAt_calls (w : World) (hD : Dev w lo hi d n z K s) (hK : K + 2 ≤ 1000000) (se : Int) :
    Calls Try.prog 24 #[.pointer (some ⟨d, 0, none⟩), .int .i64 se] w
      fun e w' => e = .returned (.int .i64 (s.erase n z se).1) ∧ Dev w' lo hi d n z (K + 2) (s.erase n z se).2 ∧ Chg (fun q => lo ≤ q ∧ q < hi) w w' := by
  obtain ⟨sb, scap, mb, there, left, whole, mask, G, C, h⟩ := hD
  have stay : ∀ w', Below w.heap.size w w' → Dev w' lo hi d n z (K + 2) s ∧ Chg (fun q => lo ≤ q ∧ q < hi) w w' := fun w' hb =>
    ⟨(DevP.more (DevP.below h hb) (by omega) hK).dev, Chg.of_below hb⟩
  by_cases hon : s.on = false
  · have e : s.erase n z se = (7, s) := by unfold St.erase; rw [if_pos hon]
    rw [e]
    exact (erase_off w h se hon).mono fun e w' ⟨he, hw⟩ => ⟨he, stay w' (by subst hw; exact Below.refl _ _)⟩
  · have hon' : s.on = true := by simpa using hon
    by_cases hse : se < 0 ∨ (n : Int) ≤ se
    · have e : s.erase n z se = (1, s) := by unfold St.erase; rw [if_neg hon, if_pos hse]
      rw [e]
      exact (erase_arg w h se hon' hse).mono fun e w' ⟨he, hw⟩ => ⟨he, stay w' (by subst hw; exact Below.refl _ _)⟩
    · obtain ⟨i, rfl⟩ := Int.eq_ofNat_of_zero_le (show 0 ≤ se by omega)
      have hi' : i < n := by omega
      cases hbad : s.bad.getD i false with
      | true =>
        have e : s.erase n z (i : Int) = (8, s) := by unfold St.erase; rw [if_neg hon, if_neg hse, Int.toNat_natCast, if_pos hbad]
        rw [e]
        exact (erase_bad w h i hi' hon' hbad).mono fun e w' ⟨he, hw⟩ => ⟨he, stay w' hw⟩
      | false =>
        have e : s.erase n z (i : Int) = (s.worn i).act i false 0 (List.replicate z 0) := by unfold St.erase; rw [if_neg hon, if_neg hse, Int.toNat_natCast, if_neg (by rw [hbad]; decide)]
        rw [e]
        exact erase_ok w h hK i hi' hon' hbad
end
end Go.Proofs.Ytdcmpkohengnaaa.NorH
