/- Merged: NorE NorS NorB NorP NorR NorU. -/
import Derived.Test.YthbafcihmcjchaaGreatDoorNorA
import Derived.Maps.OwnSet
import Derived.Test.YthbafcihmcjchaaGreatDoorNorW
import Derived.Test.YthbafcihmcjchaaGreatDoorNorM
import Derived.Deep.AppendLies
import Derived.StillTailTactics
import Derived.Deep.RegionHeld3
import Derived.IntWalk
import Derived.Deep.DeepFit
/- The contract of 'act': three cases of the cut, each for both closures. -/
namespace Go.Proofs.YthbafcihmcjchaaGreatDoor.NorE
set_option linter.unusedVariables false
set_option linter.unusedSimpArgs false
open Go.RowKit
open Go.Proofs.YthbafcihmcjchaaGreatDoor.Byte Go.Proofs.YthbafcihmcjchaaGreatDoor.NorD Go.Proofs.YthbafcihmcjchaaGreatDoor.NorW Go.Proofs.YthbafcihmcjchaaGreatDoor.NorM Go.Proofs.YthbafcihmcjchaaGreatDoor.NorA

-- PROG
theorem front_prog_any (lo g z cap off len c : Nat) (ys : List Int) (N m : Int) (bp : Nat) (A : Option Addr) (cb : Nat) (bs : List Int) (w : World)
    (ho : Ob w lo 5 g z cap ys) (hfit : off + len ≤ z) (hz : z ≤ 100000) (hc : len ≤ c) (hc2 : c ≤ 140737488355328) (hN : 0 ≤ N) (h2 : 0 ≤ m) (h3 : m ≤ 255)
    (hb : Bs w A len bs) (hA : ∀ b o, A = some ⟨b, o, none⟩ → b ≠ g) (hp : w.cell? ⟨bp, 0, none⟩ = some (.slice A len cb)) (hne : bp ≠ g) :
    Calls Tryz.prog 53 #[.slice (some ⟨g, off, none⟩) len c, .int .i64 N, .int .u8 m, .func (.func 24) #[] #[.pointer (some ⟨bp, 0, none⟩)]] w
      fun e w' => e = .returned (.tuple #[]) ∧ Ob w' lo 5 g z cap (seg true (some (N, m)) off bs ys) ∧ Chg (fun q => q = g) w w' := by
  by_cases h : (len : Int) ≤ N
  · have e := upTo_over true off N m bs ys ho.2.1 (by rw [hb.len]; exact h)
    rw [hb.len] at e
    rw [← e]
    exact front_prog lo g z cap off len c ys N len m bp A cb bs w ho hfit hz hc hc2 hN (by omega) h2 h3 hb hA hp hne rfl
  · obtain ⟨k, rfl⟩ := Int.eq_ofNat_of_zero_le hN
    exact front_prog_cut lo g z cap off len c ys k m bp A cb bs w ho hfit hz hc hc2 h2 h3 hb hA hp hne (by omega)
theorem front_prog_all (lo g z cap off len c : Nat) (ys : List Int) (bp : Nat) (A : Option Addr) (cb : Nat) (bs : List Int) (w : World)
    (ho : Ob w lo 5 g z cap ys) (hfit : off + len ≤ z) (hz : z ≤ 100000) (hc : len ≤ c) (hc2 : c ≤ 140737488355328)
    (hb : Bs w A len bs) (hA : ∀ b o, A = some ⟨b, o, none⟩ → b ≠ g) (hp : w.cell? ⟨bp, 0, none⟩ = some (.slice A len cb)) (hne : bp ≠ g) :
    Calls Tryz.prog 53 #[.slice (some ⟨g, off, none⟩) len c, .int .i64 len, .int .u8 0, .func (.func 24) #[] #[.pointer (some ⟨bp, 0, none⟩)]] w
      fun e w' => e = .returned (.tuple #[]) ∧ Ob w' lo 5 g z cap (seg true none off bs ys) ∧ Chg (fun q => q = g) w w' := by
  have e := upTo_all true off bs ys ho.2.1
  rw [hb.len] at e
  rw [← e]
  exact front_prog lo g z cap off len c ys len len 0 bp A cb bs w ho hfit hz hc hc2 (by omega) (by omega) (by omega) (by omega) hb hA hp hne rfl

set_option maxHeartbeats 1000000 in
theorem act_prog_none (lo g z cap off len c : Nat) (ys : List Int) (bp : Nat) (A : Option Addr) (cb : Nat) (bs : List Int) (w : World)
    (d n sb scap mb : Nat) (on : Bool) (left whole mask acts offs : Int) (hC : Core w d n z sb scap mb on false left whole mask acts offs) (hdg : d ≠ g) (ha0 : 0 ≤ acts) (ha1 : acts < 9223372036854775807)
    (ho : Ob w lo 5 g z cap ys) (hfit : off + len ≤ z) (hz : z ≤ 100000) (hc : len ≤ c) (hc2 : c ≤ 140737488355328)
    (hb : Bs w A len bs) (hA : ∀ b o, A = some ⟨b, o, none⟩ → b ≠ g ∧ b ≠ d) (hp : w.cell? ⟨bp, 0, none⟩ = some (.slice A len cb)) (hne : bp ≠ g) (hned : bp ≠ d) :
    Calls Tryz.prog 23 #[.pointer (some ⟨d, 0, none⟩), .slice (some ⟨g, off, none⟩) len c, .func (.func 24) #[] #[.pointer (some ⟨bp, 0, none⟩)]] w
      fun e w' => e = .returned (.int .i64 0) ∧ Core w' d n z sb scap mb on false left whole mask (acts + 1) offs ∧ Ob w' lo 5 g z cap (seg true none off bs ys) ∧ Chg (fun q => q = d ∨ q = g) w w' := by
  have c9 := hC.c9
  have c5 := hC.c5
  have f9 := hC.fr 9
  have hC1 := hC.set9 (acts + 1)
  have hg1 : Chg (fun q => q = d) w (w.setCell ⟨d, 9, none⟩ (.int .i64 (acts + 1))) := (Chg.refl _ w).own 9 _
  have ho1 := ho.chg hg1 (Ne.symm hdg)
  have hb1 := hb.chg hg1 (fun b o e => (hA b o e).2)
  have hp1 := hg1.cell (p := ⟨bp, 0, none⟩) hp hned
  have HF := Lib.hid (front_prog_all lo g z cap off len c ys bp A cb bs _ ho1 hfit hz hc hc2 hb1 (fun b o e => (hA b o e).1) hp1 hne)
  have HC := Lib.hid hC1
  have HG := Lib.hid hg1
  clear hC hC1 hg1 ho1 hb1 hp1 ho hb hA hp
  go_enter Tryz.func23, Tryz.ntmps23
  go_wp2_with (go_at_call 53; refine (HF.out).mono ?_; rintro e w1 ⟨rfl, ho2, hg2⟩)
  go_ret
  exact ⟨rfl, Blk.chg HC.out hg2 hdg, ho2, (HG.out.mono (fun k _ h => .inl h)).trans (hg2.mono (fun k _ h => .inr h))⟩

set_option maxHeartbeats 1000000 in
theorem act_prog_more (lo g z cap off len c : Nat) (ys : List Int) (bp : Nat) (A : Option Addr) (cb : Nat) (bs : List Int) (w : World)
    (d n sb scap mb : Nat) (on : Bool) (left whole mask acts offs : Int) (hC : Core w d n z sb scap mb on true left whole mask acts offs) (hdg : d ≠ g) (ha0 : 0 ≤ acts) (ha1 : acts < 9223372036854775807) (hl0 : 0 < left) (hl1 : left ≤ 9223372036854775807)
    (ho : Ob w lo 5 g z cap ys) (hfit : off + len ≤ z) (hz : z ≤ 100000) (hc : len ≤ c) (hc2 : c ≤ 140737488355328)
    (hb : Bs w A len bs) (hA : ∀ b o, A = some ⟨b, o, none⟩ → b ≠ g ∧ b ≠ d) (hp : w.cell? ⟨bp, 0, none⟩ = some (.slice A len cb)) (hne : bp ≠ g) (hned : bp ≠ d) :
    Calls Tryz.prog 23 #[.pointer (some ⟨d, 0, none⟩), .slice (some ⟨g, off, none⟩) len c, .func (.func 24) #[] #[.pointer (some ⟨bp, 0, none⟩)]] w
      fun e w' => e = .returned (.int .i64 0) ∧ Core w' d n z sb scap mb on true (left - 1) whole mask (acts + 1) offs ∧ Ob w' lo 5 g z cap (seg true none off bs ys) ∧ Chg (fun q => q = d ∨ q = g) w w' := by
  have c9 := hC.c9
  have c5 := hC.c5
  have c6 := hC.c6
  have f9 := hC.fr 9
  have f6 := hC.fr 6
  have hl : (left == 0) = false := beq_eq_false_iff_ne.2 (by omega)
  have hC1 := (hC.set9 (acts + 1)).set6 (left - 1)
  have hg1 : Chg (fun q => q = d) w ((w.setCell ⟨d, 9, none⟩ (.int .i64 (acts + 1))).setCell ⟨d, 6, none⟩ (.int .i64 (left - 1))) := ((Chg.refl _ w).own 9 _).own 6 _
  have ho1 := ho.chg hg1 (Ne.symm hdg)
  have hb1 := hb.chg hg1 (fun b o e => (hA b o e).2)
  have hp1 := hg1.cell (p := ⟨bp, 0, none⟩) hp hned
  have HF := Lib.hid (front_prog_all lo g z cap off len c ys bp A cb bs _ ho1 hfit hz hc hc2 hb1 (fun b o e => (hA b o e).1) hp1 hne)
  have HC := Lib.hid hC1
  have HG := Lib.hid hg1
  clear hC hC1 hg1 ho1 hb1 hp1 ho hb hA hp
  go_enter Tryz.func23, Tryz.ntmps23
  go_wp2_with (go_at_call 53; refine (HF.out).mono ?_; rintro e w1 ⟨rfl, ho2, hg2⟩)
  go_ret
  exact ⟨rfl, Blk.chg HC.out hg2 hdg, ho2, (HG.out.mono (fun k _ h => .inl h)).trans (hg2.mono (fun k _ h => .inr h))⟩

set_option maxRecDepth 100000 in
set_option maxHeartbeats 1000000 in
theorem act_prog_cut (lo g z cap off len c : Nat) (ys : List Int) (bp : Nat) (A : Option Addr) (cb : Nat) (bs : List Int) (w : World)
    (d n sb scap mb : Nat) (whole mask acts offs : Int) (hC : Core w d n z sb scap mb true true 0 whole mask acts offs) (hdg : d ≠ g) (ha0 : 0 ≤ acts) (ha1 : acts < 9223372036854775807) (hf0 : 0 ≤ offs) (hf1 : offs < 9223372036854775807) (hw0 : 0 ≤ whole) (hm0 : 0 ≤ mask) (hm1 : mask ≤ 255)
    (ho : Ob w lo 5 g z cap ys) (hfit : off + len ≤ z) (hz : z ≤ 100000) (hc : len ≤ c) (hc2 : c ≤ 140737488355328)
    (hb : Bs w A len bs) (hA : ∀ b o, A = some ⟨b, o, none⟩ → b ≠ g ∧ b ≠ d) (hp : w.cell? ⟨bp, 0, none⟩ = some (.slice A len cb)) (hne : bp ≠ g) (hned : bp ≠ d) :
    Calls Tryz.prog 23 #[.pointer (some ⟨d, 0, none⟩), .slice (some ⟨g, off, none⟩) len c, .func (.func 24) #[] #[.pointer (some ⟨bp, 0, none⟩)]] w
      fun e w' => e = .returned (.int .i64 7) ∧ Core w' d n z sb scap mb false false 0 0 0 (acts + 1) (offs + 1) ∧ Ob w' lo 5 g z cap (seg true (some (whole, mask)) off bs ys) ∧ Chg (fun q => q = d ∨ q = g) w w' := by
  have c9 := hC.c9
  have c5 := hC.c5
  have c6 := hC.c6
  have c7 := hC.c7
  have c8 := hC.c8
  have f9 := hC.fr 9
  have hC1 := hC.set9 (acts + 1)
  have hg1 : Chg (fun q => q = d) w (w.setCell ⟨d, 9, none⟩ (.int .i64 (acts + 1))) := (Chg.refl _ w).own 9 _
  have ho1 := ho.chg hg1 (Ne.symm hdg)
  have hb1 := hb.chg hg1 (fun b o e => (hA b o e).2)
  have hp1 := hg1.cell (p := ⟨bp, 0, none⟩) hp hned
  have HF := Lib.hid (front_prog_any lo g z cap off len c ys whole mask bp A cb bs (w.setCell ⟨d, 9, none⟩ (.int .i64 (acts + 1))).drew ho1 hfit hz hc hc2 hw0 hm0 hm1 hb1 (fun b o e => (hA b o e).1) hp1 hne)
  have HC := Lib.hid hC1
  have HG := Lib.hid hg1
  clear hC hC1 hg1 ho1 hb1 hp1 ho hb hA hp
  go_enter Tryz.func23, Tryz.ntmps23
  go_wp2_with fail
  generalize w.setCell ⟨d, 9, none⟩ (.int .i64 (acts + 1)) = wx at *
  have x7 := HC.out.c7
  have x8 := HC.out.c8
  go_still_tail 12, (by kernel_rfl)
  change wpList _ _ _ _ _ (World.drew _)
  go_wp2_with fail
  refine (HF.out).mono ?_
  rintro e w1 ⟨rfl, ho2, hg2⟩
  have HC2 : Hid (Core w1 d n z sb scap mb true true 0 whole mask (acts + 1) offs) := Blk.chg (w := wx.drew) HC.out hg2 hdg
  have HG2 := Lib.hid hg2
  clear hg2
  go_wp2_with (go_at_call 37; refine (off_calls _ _ HC2.out hf0 hf1).mono ?_; rintro e w2 ⟨rfl, hc3, hg3⟩)
  go_ret
  exact ⟨rfl, hc3, ho2.chg hg3 (Ne.symm hdg), ((HG.out.mono (fun k _ h => .inl h)).drew.trans (HG2.out.mono (fun k _ h => .inr h))).trans (hg3.mono (fun k _ h => .inl h))⟩
-- ERASE
theorem front_erase_any (lo g z cap off len c : Nat) (ys : List Int) (N m : Int) (bs : List Int) (w : World)
    (ho : Ob w lo 5 g z cap ys) (hfit : off + len ≤ z) (hz : z ≤ 100000) (hc : len ≤ c) (hc2 : c ≤ 140737488355328) (hN : 0 ≤ N) (h2 : 0 ≤ m) (h3 : m ≤ 255)
    (hb : bs.length = len) :
    Calls Tryz.prog 53 #[.slice (some ⟨g, off, none⟩) len c, .int .i64 N, .int .u8 m, .func (.func 59) #[] #[]] w
      fun e w' => e = .returned (.tuple #[]) ∧ Ob w' lo 5 g z cap (seg false (some (N, m)) off bs ys) ∧ Chg (fun q => q = g) w w' := by
  by_cases h : (len : Int) ≤ N
  · have e := upTo_over false off N m bs ys ho.2.1 (by rw [hb]; exact h)
    rw [hb] at e
    rw [← e]
    exact front_erase lo g z cap off len c ys N len m bs w ho hfit hz hc hc2 hN (by omega) h2 h3 hb rfl
  · obtain ⟨k, rfl⟩ := Int.eq_ofNat_of_zero_le hN
    exact front_erase_cut lo g z cap off len c ys k m bs w ho hfit hz hc hc2 h2 h3 hb (by omega)
theorem front_erase_all (lo g z cap off len c : Nat) (ys : List Int) (bs : List Int) (w : World)
    (ho : Ob w lo 5 g z cap ys) (hfit : off + len ≤ z) (hz : z ≤ 100000) (hc : len ≤ c) (hc2 : c ≤ 140737488355328)
    (hb : bs.length = len) :
    Calls Tryz.prog 53 #[.slice (some ⟨g, off, none⟩) len c, .int .i64 len, .int .u8 0, .func (.func 59) #[] #[]] w
      fun e w' => e = .returned (.tuple #[]) ∧ Ob w' lo 5 g z cap (seg false none off bs ys) ∧ Chg (fun q => q = g) w w' := by
  have e := upTo_all false off bs ys ho.2.1
  rw [hb] at e
  rw [← e]
  exact front_erase lo g z cap off len c ys len len 0 bs w ho hfit hz hc hc2 (by omega) (by omega) (by omega) (by omega) hb rfl

set_option maxHeartbeats 1000000 in
theorem act_erase_none (lo g z cap off len c : Nat) (ys : List Int) (bs : List Int) (w : World)
    (d n sb scap mb : Nat) (on : Bool) (left whole mask acts offs : Int) (hC : Core w d n z sb scap mb on false left whole mask acts offs) (hdg : d ≠ g) (ha0 : 0 ≤ acts) (ha1 : acts < 9223372036854775807)
    (ho : Ob w lo 5 g z cap ys) (hfit : off + len ≤ z) (hz : z ≤ 100000) (hc : len ≤ c) (hc2 : c ≤ 140737488355328)
    (hb : bs.length = len) :
    Calls Tryz.prog 23 #[.pointer (some ⟨d, 0, none⟩), .slice (some ⟨g, off, none⟩) len c, .func (.func 59) #[] #[]] w
      fun e w' => e = .returned (.int .i64 0) ∧ Core w' d n z sb scap mb on false left whole mask (acts + 1) offs ∧ Ob w' lo 5 g z cap (seg false none off bs ys) ∧ Chg (fun q => q = d ∨ q = g) w w' := by
  have c9 := hC.c9
  have c5 := hC.c5
  have f9 := hC.fr 9
  have hC1 := hC.set9 (acts + 1)
  have hg1 : Chg (fun q => q = d) w (w.setCell ⟨d, 9, none⟩ (.int .i64 (acts + 1))) := (Chg.refl _ w).own 9 _
  have ho1 := ho.chg hg1 (Ne.symm hdg)
  have HF := Lib.hid (front_erase_all lo g z cap off len c ys bs _ ho1 hfit hz hc hc2 hb)
  have HC := Lib.hid hC1
  have HG := Lib.hid hg1
  clear hC hC1 hg1 ho1 ho
  go_enter Tryz.func23, Tryz.ntmps23
  go_wp2_with (go_at_call 53; refine (HF.out).mono ?_; rintro e w1 ⟨rfl, ho2, hg2⟩)
  go_ret
  exact ⟨rfl, Blk.chg HC.out hg2 hdg, ho2, (HG.out.mono (fun k _ h => .inl h)).trans (hg2.mono (fun k _ h => .inr h))⟩

set_option maxHeartbeats 1000000 in
theorem act_erase_more (lo g z cap off len c : Nat) (ys : List Int) (bs : List Int) (w : World)
    (d n sb scap mb : Nat) (on : Bool) (left whole mask acts offs : Int) (hC : Core w d n z sb scap mb on true left whole mask acts offs) (hdg : d ≠ g) (ha0 : 0 ≤ acts) (ha1 : acts < 9223372036854775807) (hl0 : 0 < left) (hl1 : left ≤ 9223372036854775807)
    (ho : Ob w lo 5 g z cap ys) (hfit : off + len ≤ z) (hz : z ≤ 100000) (hc : len ≤ c) (hc2 : c ≤ 140737488355328)
    (hb : bs.length = len) :
    Calls Tryz.prog 23 #[.pointer (some ⟨d, 0, none⟩), .slice (some ⟨g, off, none⟩) len c, .func (.func 59) #[] #[]] w
      fun e w' => e = .returned (.int .i64 0) ∧ Core w' d n z sb scap mb on true (left - 1) whole mask (acts + 1) offs ∧ Ob w' lo 5 g z cap (seg false none off bs ys) ∧ Chg (fun q => q = d ∨ q = g) w w' := by
  have c9 := hC.c9
  have c5 := hC.c5
  have c6 := hC.c6
  have f9 := hC.fr 9
  have f6 := hC.fr 6
  have hl : (left == 0) = false := beq_eq_false_iff_ne.2 (by omega)
  have hC1 := (hC.set9 (acts + 1)).set6 (left - 1)
  have hg1 : Chg (fun q => q = d) w ((w.setCell ⟨d, 9, none⟩ (.int .i64 (acts + 1))).setCell ⟨d, 6, none⟩ (.int .i64 (left - 1))) := ((Chg.refl _ w).own 9 _).own 6 _
  have ho1 := ho.chg hg1 (Ne.symm hdg)
  have HF := Lib.hid (front_erase_all lo g z cap off len c ys bs _ ho1 hfit hz hc hc2 hb)
  have HC := Lib.hid hC1
  have HG := Lib.hid hg1
  clear hC hC1 hg1 ho1 ho
  go_enter Tryz.func23, Tryz.ntmps23
  go_wp2_with (go_at_call 53; refine (HF.out).mono ?_; rintro e w1 ⟨rfl, ho2, hg2⟩)
  go_ret
  exact ⟨rfl, Blk.chg HC.out hg2 hdg, ho2, (HG.out.mono (fun k _ h => .inl h)).trans (hg2.mono (fun k _ h => .inr h))⟩

set_option maxRecDepth 100000 in
set_option maxHeartbeats 1000000 in
theorem act_erase_cut (lo g z cap off len c : Nat) (ys : List Int) (bs : List Int) (w : World)
    (d n sb scap mb : Nat) (whole mask acts offs : Int) (hC : Core w d n z sb scap mb true true 0 whole mask acts offs) (hdg : d ≠ g) (ha0 : 0 ≤ acts) (ha1 : acts < 9223372036854775807) (hf0 : 0 ≤ offs) (hf1 : offs < 9223372036854775807) (hw0 : 0 ≤ whole) (hm0 : 0 ≤ mask) (hm1 : mask ≤ 255)
    (ho : Ob w lo 5 g z cap ys) (hfit : off + len ≤ z) (hz : z ≤ 100000) (hc : len ≤ c) (hc2 : c ≤ 140737488355328)
    (hb : bs.length = len) :
    Calls Tryz.prog 23 #[.pointer (some ⟨d, 0, none⟩), .slice (some ⟨g, off, none⟩) len c, .func (.func 59) #[] #[]] w
      fun e w' => e = .returned (.int .i64 7) ∧ Core w' d n z sb scap mb false false 0 0 0 (acts + 1) (offs + 1) ∧ Ob w' lo 5 g z cap (seg false (some (whole, mask)) off bs ys) ∧ Chg (fun q => q = d ∨ q = g) w w' := by
  have c9 := hC.c9
  have c5 := hC.c5
  have c6 := hC.c6
  have c7 := hC.c7
  have c8 := hC.c8
  have f9 := hC.fr 9
  have hC1 := hC.set9 (acts + 1)
  have hg1 : Chg (fun q => q = d) w (w.setCell ⟨d, 9, none⟩ (.int .i64 (acts + 1))) := (Chg.refl _ w).own 9 _
  have ho1 := ho.chg hg1 (Ne.symm hdg)
  have HF := Lib.hid (front_erase_any lo g z cap off len c ys whole mask bs (w.setCell ⟨d, 9, none⟩ (.int .i64 (acts + 1))).drew ho1 hfit hz hc hc2 hw0 hm0 hm1 hb)
  have HC := Lib.hid hC1
  have HG := Lib.hid hg1
  clear hC hC1 hg1 ho1 ho
  go_enter Tryz.func23, Tryz.ntmps23
  go_wp2_with fail
  generalize w.setCell ⟨d, 9, none⟩ (.int .i64 (acts + 1)) = wx at *
  have x7 := HC.out.c7
  have x8 := HC.out.c8
  go_still_tail 12, (by kernel_rfl)
  change wpList _ _ _ _ _ (World.drew _)
  go_wp2_with fail
  refine (HF.out).mono ?_
  rintro e w1 ⟨rfl, ho2, hg2⟩
  have HC2 : Hid (Core w1 d n z sb scap mb true true 0 whole mask (acts + 1) offs) := Blk.chg (w := wx.drew) HC.out hg2 hdg
  have HG2 := Lib.hid hg2
  clear hg2
  go_wp2_with (go_at_call 37; refine (off_calls _ _ HC2.out hf0 hf1).mono ?_; rintro e w2 ⟨rfl, hc3, hg3⟩)
  go_ret
  exact ⟨rfl, hc3, ho2.chg hg3 (Ne.symm hdg), ((HG.out.mono (fun k _ h => .inl h)).drew.trans (HG2.out.mono (fun k _ h => .inr h))).trans (hg3.mono (fun k _ h => .inl h))⟩
end Go.Proofs.YthbafcihmcjchaaGreatDoor.NorE

/- A device's state as plain data, what each operation makes of it; the words 'DevP' (its parts named) and 'Dev': a device in memory, in the blocks from lo on below hi, has that state. -/
namespace Go.Proofs.YthbafcihmcjchaaGreatDoor.NorS
set_option linter.unusedVariables false
set_option linter.unusedSimpArgs false
open Go.RowKit Go.Maps
open Go.Proofs.YthbafcihmcjchaaGreatDoor.Byte Go.Proofs.YthbafcihmcjchaaGreatDoor.NorD Go.Proofs.YthbafcihmcjchaaGreatDoor.NorM

structure St where
  data : List (List Int)
  wear : List Int
  bad : List Bool
  on : Bool
  cut : Option (Int × Int × Int)
  acts : Int
  offs : Int
def St.row (s : St) (i : Nat) : List Int := s.data.getD i []
/-- An act on sector i. -/
def St.act (s : St) (i : Nat) (down : Bool) (off : Nat) (b : List Int) : Int × St :=
  match s.cut with
  | none => (0, { s with data := s.data.set i (seg down none off b (s.row i)), acts := s.acts + 1 })
  | some (l, wh, m) =>
    if l = 0 then (7, { s with data := s.data.set i (seg down (some (wh, m)) off b (s.row i)), on := false, cut := none, acts := s.acts + 1, offs := s.offs + 1 })
    else (0, { s with data := s.data.set i (seg down none off b (s.row i)), cut := some (l - 1, wh, m), acts := s.acts + 1 })
def inside (n z : Nat) (se off m : Int) : Bool := decide (0 ≤ m ∧ se < n ∧ off ≤ z ∧ m ≤ z - off)
def St.program (s : St) (n z : Nat) (se off : Nat) (b : List Int) : Int × St :=
  if s.on = false then (7, s) else if b.length = 0 ∨ inside n z se off b.length = false then (1, s) else if s.bad.getD se false = true then (8, s) else s.act se true off b
def St.worn (s : St) (i : Nat) : St := { s with wear := s.wear.set i (s.wear.getD i 0 + 1) }
def St.erase (s : St) (n z : Nat) (se : Int) : Int × St :=
  if s.on = false then (7, s) else if se < 0 ∨ (n : Int) ≤ se then (1, s) else if s.bad.getD se.toNat false = true then (8, s) else (s.worn se.toNat).act se.toNat false 0 (List.replicate z 0)
def St.spoil (s : St) (n : Nat) (se : Int) : St := if 0 ≤ se ∧ se < (n : Int) then { s with bad := s.bad.set se.toNat true } else s
def St.setCut (s : St) (a b m : Int) : St := { s with cut := some (max a 0, max b 0, m) }
def St.turn (s : St) : St := if s.on = true then { s with on := false, cut := none, offs := s.offs + 1 } else s
def St.up (s : St) : St := { s with on := true }
def St.new (n z : Nat) : St := { data := List.replicate n (List.replicate z 255), wear := List.replicate n 0, bad := List.replicate n false, on := true, cut := none, acts := 0, offs := 0 }

structure Fits (n z K : Nat) (s : St) : Prop where
  dl : s.data.length = n
  row : ∀ i, i < n → (s.row i).length = z ∧ ∀ x ∈ s.row i, 0 ≤ x ∧ x ≤ 255
  wl : s.wear.length = n
  wb : ∀ i, 0 ≤ s.wear.getD i 0 ∧ s.wear.getD i 0 ≤ K
  bl : s.bad.length = n
  ab : 0 ≤ s.acts ∧ s.acts ≤ K
  ob : 0 ≤ s.offs ∧ s.offs ≤ K
  cb : ∀ l wh m, s.cut = some (l, wh, m) → 0 ≤ l ∧ l ≤ 9223372036854775807 ∧ 0 ≤ wh ∧ wh ≤ 9223372036854775807 ∧ 0 ≤ m ∧ m ≤ 255
section
variable {n z K : Nat} {s : St}
theorem Fits.more (h : Fits n z K s) {K' : Nat} (hK : K ≤ K') : Fits n z K' s :=
  ⟨h.dl, h.row, h.wl, fun i => ⟨(h.wb i).1, by have := (h.wb i).2; omega⟩, h.bl, ⟨h.ab.1, by have := h.ab.2; omega⟩, ⟨h.ob.1, by have := h.ob.2; omega⟩, h.cb⟩
theorem row_set (s : St) (i j : Nat) (r : List Int) (hi : i < s.data.length) : (s.data.set i r).getD j [] = if j = i then r else s.row j := by
  unfold St.row
  rw [List.getD_eq_getElem?_getD, List.getD_eq_getElem?_getD, List.getElem?_set]
  by_cases h : i = j
  · subst h
    simp [hi]
  · rw [if_neg h, if_neg (fun e => h e.symm)]
theorem getD_set (l : List Int) (i j : Nat) (v : Int) (hi : i < l.length) : (l.set i v).getD j 0 = if j = i then v else l.getD j 0 := by
  rw [List.getD_eq_getElem?_getD, List.getD_eq_getElem?_getD, List.getElem?_set]
  by_cases h : i = j
  · subst h
    simp [hi]
  · rw [if_neg h, if_neg (fun e => h e.symm)]
theorem getD_setB (l : List Bool) (i j : Nat) (v : Bool) (hi : i < l.length) : (l.set i v).getD j false = if j = i then v else l.getD j false := by
  rw [List.getD_eq_getElem?_getD, List.getD_eq_getElem?_getD, List.getElem?_set]
  by_cases h : i = j
  · subst h
    simp [hi]
  · rw [if_neg h, if_neg (fun e => h e.symm)]
/-- Whatever is done to a row. -/
theorem Fits.done (h : Fits n z K s) (i : Nat) (hi : i < n) (down : Bool) (c : Option (Int × Int)) (off : Nat) (b : List Int) (on : Bool) (cut : Option (Int × Int × Int)) (offs : Int)
    (hcut : ∀ l wh m, cut = some (l, wh, m) → 0 ≤ l ∧ l ≤ 9223372036854775807 ∧ 0 ≤ wh ∧ wh ≤ 9223372036854775807 ∧ 0 ≤ m ∧ m ≤ 255) (ho : 0 ≤ offs ∧ offs ≤ K + 1) :
    Fits n z (K + 1) { s with data := s.data.set i (seg down c off b (s.row i)), on := on, cut := cut, acts := s.acts + 1, offs := offs } := by
  refine ⟨by simpa using h.dl, fun j hj => ?_, h.wl, fun j => ⟨(h.wb j).1, by have := (h.wb j).2; show s.wear.getD j 0 ≤ _; omega⟩, h.bl, ⟨by have := h.ab; show 0 ≤ s.acts + 1; omega, by have := h.ab; show s.acts + 1 ≤ _; omega⟩, ⟨ho.1, by have := ho.2; show offs ≤ _; omega⟩, hcut⟩
  show ((s.data.set i _).getD j []).length = z ∧ ∀ x ∈ (s.data.set i _).getD j [], 0 ≤ x ∧ x ≤ 255
  rw [row_set _ _ _ _ (by rw [h.dl]; exact hi)]
  split
  · exact ⟨by rw [seg_len]; exact (h.row i hi).1, seg_bytes (h.row i hi).2⟩
  · exact h.row j hj
theorem Fits.act (h : Fits n z K s) (i : Nat) (hi : i < n) (down : Bool) (off : Nat) (b : List Int) : Fits n z (K + 1) (s.act i down off b).2 := by
  have ho := h.ob
  unfold St.act
  cases hc : s.cut with
  | none => exact h.done i hi down none off b s.on none s.offs (fun _ _ _ e => by cases e) ⟨ho.1, by omega⟩
  | some q =>
    obtain ⟨l, wh, m⟩ := q
    have hb := h.cb l wh m hc
    dsimp only
    split
    · exact h.done i hi down (some (wh, m)) off b false none (s.offs + 1) (fun _ _ _ e => by cases e) ⟨by omega, by omega⟩
    · exact h.done i hi down none off b s.on (some (l - 1, wh, m)) s.offs (fun _ _ _ e => by injection e with e; injection e with e1 e2; injection e2 with e2 e3; subst e1; subst e2; subst e3; omega) ⟨ho.1, by omega⟩
theorem Fits.worn (h : Fits n z K s) (i : Nat) (hi : i < n) : Fits n z (K + 1) (s.worn i) := by
  have := h.more (K' := K + 1) (by omega)
  refine ⟨this.dl, this.row, by unfold St.worn; simpa using h.wl, fun j => ?_, this.bl, this.ab, this.ob, this.cb⟩
  show 0 ≤ (s.wear.set i _).getD j 0 ∧ _
  have h1 := h.wb i
  have h2 := h.wb j
  unfold St.worn
  dsimp only
  rw [getD_set _ _ _ _ (by rw [h.wl]; exact hi)]
  split <;> omega
theorem Fits.spoil (h : Fits n z K s) (se : Int) : Fits n z K (s.spoil n se) := by
  unfold St.spoil
  split
  · exact ⟨h.dl, h.row, h.wl, h.wb, by simpa using h.bl, h.ab, h.ob, h.cb⟩
  · exact h
theorem Fits.setCut (h : Fits n z K s) (a b m : Int) (ha : a ≤ 9223372036854775807) (hb : b ≤ 9223372036854775807) (h0 : 0 ≤ m) (h1 : m ≤ 255) : Fits n z K (s.setCut a b m) :=
  ⟨h.dl, h.row, h.wl, h.wb, h.bl, h.ab, h.ob, fun _ _ _ e => by unfold St.setCut at e; injection e with e; injection e with e1 e2; injection e2 with e2 e3; subst e1; subst e2; subst e3; omega⟩
theorem Fits.turn (h : Fits n z K s) : Fits n z (K + 1) s.turn := by
  unfold St.turn
  have ho := h.ob
  split
  · have := h.more (K' := K + 1) (by omega)
    exact ⟨this.dl, this.row, this.wl, this.wb, this.bl, this.ab, ⟨by show 0 ≤ s.offs + 1; omega, by show s.offs + 1 ≤ _; omega⟩, fun _ _ _ e => by cases e⟩
  · exact h.more (by omega)
theorem Fits.up (h : Fits n z K s) : Fits n z K s.up := ⟨h.dl, h.row, h.wl, h.wb, h.bl, h.ab, h.ob, h.cb⟩
theorem replicate_getD {α : Type} (n : Nat) (v d : α) (i : Nat) : (List.replicate n v).getD i d = if i < n then v else d := by
  rw [List.getD_eq_getElem?_getD, List.getElem?_replicate]
  split <;> rfl
theorem Fits.new (n z K : Nat) : Fits n z K (St.new n z) := by
  refine ⟨by simp [St.new], fun i hi => ?_, by simp [St.new], fun i => ?_, by simp [St.new], by simp [St.new], by simp [St.new], fun _ _ _ e => by cases e⟩
  · unfold St.row St.new
    dsimp only
    rw [replicate_getD, if_pos hi]
    exact ⟨by simp, fun x hx => by rw [List.eq_of_mem_replicate hx]; omega⟩
  · unfold St.new
    dsimp only
    rw [replicate_getD]
    split <;> omega
end

/-- The sectors' blocks: where each one's bytes stand, and its wear. -/
def Secs (w : World) (sb n z : Nat) (G C : Nat → Nat) (wear : List Int) : Prop :=
  ∃ cs : Array Value, Blk w sb 67 cs ∧ ∀ i, i < n → cs[i * 2]? = some (.slice (some ⟨G i, 0, none⟩) z (C i)) ∧ cs[i * 2 + 1]? = some (.int .i64 (wear.getD i 0))
section
variable {w w' : World} {sb n z : Nat} {G C : Nat → Nat} {wear : List Int}
theorem Secs.c0 (h : Secs w sb n z G C wear) {i : Nat} (hi : i < n) : w.cell? ⟨sb, i * 2, none⟩ = some (.slice (some ⟨G i, 0, none⟩) z (C i)) := by
  obtain ⟨cs, hb, hc⟩ := h
  rw [hb.cell]
  exact (hc i hi).1
theorem Secs.c1 (h : Secs w sb n z G C wear) {i : Nat} (hi : i < n) : w.cell? ⟨sb, i * 2 + 1, none⟩ = some (.int .i64 (wear.getD i 0)) := by
  obtain ⟨cs, hb, hc⟩ := h
  rw [hb.cell]
  exact (hc i hi).2
theorem Secs.fr (h : Secs w sb n z G C wear) (i : Nat) : w.frozen? ⟨sb, i, none⟩ = false := by
  obtain ⟨cs, hb, hc⟩ := h
  exact hb.frozen i
theorem Secs.lt (h : Secs w sb n z G C wear) : sb < w.heap.size := by
  obtain ⟨cs, hb, hc⟩ := h
  exact hb.lt
theorem Secs.of_eq (h : Secs w sb n z G C wear) (e : w'.heap[sb]? = w.heap[sb]?) : Secs w' sb n z G C wear := by
  obtain ⟨cs, hb, hc⟩ := h
  exact ⟨cs, hb.of_eq e, hc⟩
theorem Secs.set_ (h : Secs w sb n z G C wear) (i : Nat) (hi : i < n) (hw : wear.length = n) (v : Int) : Secs (w.setCell ⟨sb, i * 2 + 1, none⟩ (.int .i64 v)) sb n z G C (wear.set i v) := by
  obtain ⟨cs, hb, hc⟩ := h
  have hlt : i * 2 + 1 < cs.size := (Array.getElem?_eq_some_iff.1 (hc i hi).2).1
  refine ⟨_, hb.set_ _ _, fun j hj => ?_⟩
  rw [getD_set _ _ _ _ (by omega)]
  constructor
  · rw [Array.getElem?_setIfInBounds_ne (by omega)]
    exact (hc j hj).1
  · by_cases e : j = i
    · subst e
      rw [if_pos rfl, Array.getElem?_setIfInBounds_self_of_lt hlt]
    · rw [if_neg e, Array.getElem?_setIfInBounds_ne (by omega)]
      exact (hc j hj).2
end

/-- Which sectors are bad, in a map. -/
def BadAt (w : World) (mb n K : Nat) (bad : List Bool) : Prop :=
  ∃ (D : DataW Unit), w.ownsMap Tryz.prog 3 unitElem mb K D ∧ IsMap D ∧ ∀ i : Nat, i < n → Maps.has D (.int .i64 i) = bad.getD i false
theorem BadAt.lt {w : World} {mb n K : Nat} {bad : List Bool} (h : BadAt w mb n K bad) : mb < w.heap.size := by
  obtain ⟨D, h1, _⟩ := h
  exact h1.lt
theorem BadAt.of_eq {w w' : World} {mb n K : Nat} {bad : List Bool} (h : BadAt w mb n K bad) (e : w'.heap[mb]? = w.heap[mb]?) : BadAt w' mb n K bad := by
  obtain ⟨D, ⟨es, cl, h1, h2⟩, h3⟩ := h
  exact ⟨D, ⟨es, cl, e.trans h1, h2⟩, h3⟩
theorem BadAt.more {w : World} {mb n K K' : Nat} {bad : List Bool} (h : BadAt w mb n K bad) (hK : K ≤ K') : BadAt w mb n K' bad := by
  obtain ⟨D, h1, h3⟩ := h
  exact ⟨D, h1.mono hK, h3⟩
theorem blk_ne_map {w : World} {g mb n K : Nat} {t : TypeId} {cs : Array Value} {bad : List Bool} (h : Blk w g t cs) (hm : BadAt w mb n K bad) : g ≠ mb := by
  rintro rfl
  obtain ⟨D, ⟨es, cl, h1, h2⟩, h3⟩ := hm
  unfold Blk at h
  rw [h] at h1
  cases h1

/-- A device, its parts named. -/
structure DevP (w : World) (lo hi d n z K : Nat) (s : St) (sb scap mb : Nat) (there : Bool) (left whole mask : Int) (G C : Nat → Nat) : Prop where
  core : Core w d n z sb scap mb s.on there left whole mask s.acts s.offs
  cut : (s.cut = none ∧ there = false) ∨ (s.cut = some (left, whole, mask) ∧ there = true)
  secs : Secs w sb n z G (fun _ => z) s.wear
  map : BadAt w mb n K s.bad
  rows : ∀ i, i < n → Ob w lo 5 (G i) z (C i) (s.row i)
  apart : ∀ i j, i < n → j < n → i ≠ j → G i ≠ G j
  pd : lo ≤ d ∧ d < hi
  ps : lo ≤ sb ∧ sb < hi
  pm : lo ≤ mb ∧ mb < hi
  pg : ∀ i, i < n → G i < hi
  hs : hi ≤ w.heap.size
  fits : Fits n z K s
  geo : 0 < n ∧ n ≤ 64 ∧ 0 < z ∧ z ≤ 4096 ∧ n ≤ scap ∧ scap ≤ 9223372036854775807
  big : K ≤ 1000000
/-- A device of that state. -/
def Dev (w : World) (lo hi d n z K : Nat) (s : St) : Prop := ∃ sb scap mb there left whole mask G C, DevP w lo hi d n z K s sb scap mb there left whole mask G C
section
variable {w w' : World} {lo hi d n z K : Nat} {s : St} {sb scap mb : Nat} {there : Bool} {left whole mask : Int} {G C : Nat → Nat}
/-- It stands as long as its blocks do. -/
theorem DevP.keep (h : DevP w lo hi d n z K s sb scap mb there left whole mask G C) (hb : ∀ k, lo ≤ k → k < hi → w'.heap[k]? = w.heap[k]?) (hs : w.heap.size ≤ w'.heap.size) : DevP w' lo hi d n z K s sb scap mb there left whole mask G C :=
  ⟨Blk.of_eq h.core (hb d h.pd.1 h.pd.2), h.cut, h.secs.of_eq (hb sb h.ps.1 h.ps.2), h.map.of_eq (hb mb h.pm.1 h.pm.2), fun i hi' => by
    have := h.rows i hi'
    refine ⟨this.1, this.2.1, this.2.2.1, ?_⟩
    rcases this.2.2.2 with h' | ⟨g', cap', cur, h1, h2, h3, r⟩
    · exact .inl h'
    · refine .inr ⟨g', cap', cur, h1, h2, ?_, r⟩
      injection h1 with h1 _ _
      injection h1 with h1
      injection h1 with h1
      subst h1
      exact (hb (G i) this.place.1 (h.pg i hi')).trans h3, h.apart, h.pd, h.ps, h.pm, h.pg, Nat.le_trans h.hs hs, h.fits, h.geo, h.big⟩
theorem DevP.alloc (h : DevP w lo hi d n z K s sb scap mb there left whole mask G C) (o : Obj) : DevP (w.alloc o) lo hi d n z K s sb scap mb there left whole mask G C :=
  h.keep (fun k _ hk => Below.heap_alloc _ _ _ (Nat.lt_of_lt_of_le hk h.hs)) (by simp)
theorem DevP.dev (h : DevP w lo hi d n z K s sb scap mb there left whole mask G C) : Dev w lo hi d n z K s := ⟨_, _, _, _, _, _, _, _, _, h⟩
theorem DevP.dg (h : DevP w lo hi d n z K s sb scap mb there left whole mask G C) {i : Nat} (hi' : i < n) : d ≠ G i := by
  obtain ⟨cur, hh, _⟩ := (h.rows i hi').row
  exact Blk.ne_ h.core hh (by decide)
theorem DevP.sg (h : DevP w lo hi d n z K s sb scap mb there left whole mask G C) {i : Nat} (hi' : i < n) : sb ≠ G i := by
  obtain ⟨cur, hh, _⟩ := (h.rows i hi').row
  obtain ⟨cs, hb, _⟩ := h.secs
  exact Blk.ne_ hb hh (by decide)
theorem DevP.mg (h : DevP w lo hi d n z K s sb scap mb there left whole mask G C) {i : Nat} (hi' : i < n) : mb ≠ G i := by
  obtain ⟨cur, hh, _⟩ := (h.rows i hi').row
  exact (blk_ne_map (g := G i) hh h.map).symm
theorem DevP.ds (h : DevP w lo hi d n z K s sb scap mb there left whole mask G C) : d ≠ sb := by
  obtain ⟨cs, hb, _⟩ := h.secs
  exact Blk.ne_ h.core hb (by decide)
theorem DevP.dm (h : DevP w lo hi d n z K s sb scap mb there left whole mask G C) : d ≠ mb := blk_ne_map h.core h.map
theorem DevP.sm (h : DevP w lo hi d n z K s sb scap mb there left whole mask G C) : sb ≠ mb := by
  obtain ⟨cs, hb, _⟩ := h.secs
  exact blk_ne_map hb h.map
/-- The struct alone was written. -/
theorem DevP.cored (h : DevP w lo hi d n z K s sb scap mb there left whole mask G C) {K' : Nat} {s' : St} {there' : Bool} {left' whole' mask' : Int} (hC : Core w' d n z sb scap mb s'.on there' left' whole' mask' s'.acts s'.offs)
    (hg : Chg (fun q => q = d) w w') (hcut : (s'.cut = none ∧ there' = false) ∨ (s'.cut = some (left', whole', mask') ∧ there' = true)) (e1 : s'.data = s.data) (e2 : s'.wear = s.wear) (e3 : s'.bad = s.bad) (hf : Fits n z K' s') (hK : K ≤ K') (hb : K' ≤ 1000000) :
    DevP w' lo hi d n z K' s' sb scap mb there' left' whole' mask' G C :=
  ⟨hC, hcut, by rw [e2]; exact h.secs.of_eq (hg.block sb h.secs.lt (Ne.symm h.ds)), by rw [e3]; exact (h.map.of_eq (hg.block mb h.map.lt (Ne.symm h.dm))).more hK,
    fun i hi' => by unfold St.row; rw [e1]; exact (h.rows i hi').chg hg (Ne.symm (h.dg hi')), h.apart, h.pd, h.ps, h.pm, h.pg, Nat.le_trans h.hs hg.size, hf, h.geo, hb⟩
/-- The struct and one row were written. -/
theorem DevP.acted (h : DevP w lo hi d n z K s sb scap mb there left whole mask G C) {K' : Nat} {s' : St} {there' : Bool} {left' whole' mask' : Int} {i : Nat} (hi' : i < n) (new : List Int) (hC : Core w' d n z sb scap mb s'.on there' left' whole' mask' s'.acts s'.offs)
    (ho : Ob w' lo 5 (G i) z (C i) new) (hg : Chg (fun q => q = d ∨ q = G i) w w') (hcut : (s'.cut = none ∧ there' = false) ∨ (s'.cut = some (left', whole', mask') ∧ there' = true))
    (e1 : s'.data = s.data.set i new) (e2 : s'.wear = s.wear) (e3 : s'.bad = s.bad) (hf : Fits n z K' s') (hK : K ≤ K') (hb : K' ≤ 1000000) :
    DevP w' lo hi d n z K' s' sb scap mb there' left' whole' mask' G C :=
  ⟨hC, hcut, by rw [e2]; exact h.secs.of_eq (hg.block sb h.secs.lt (fun e => e.elim (Ne.symm h.ds) (h.sg hi'))), by rw [e3]; exact (h.map.of_eq (hg.block mb h.map.lt (fun e => e.elim (Ne.symm h.dm) (h.mg hi')))).more hK,
    fun j hj => by
      unfold St.row
      rw [e1, row_set _ _ _ _ (by rw [h.fits.dl]; exact hi')]
      split
      · rename_i e
        subst e
        exact ho
      · rename_i e
        exact (h.rows j hj).chg hg (fun e' => e'.elim (Ne.symm (h.dg hj)) (h.apart j i hj hi' e)), h.apart, h.pd, h.ps, h.pm, h.pg, Nat.le_trans h.hs hg.size, hf, h.geo, hb⟩
/-- A sector's wear was written. -/
theorem DevP.wornAt (h : DevP w lo hi d n z K s sb scap mb there left whole mask G C) (hb : K + 1 ≤ 1000000) {i : Nat} (hi' : i < n) : DevP (w.setCell ⟨sb, i * 2 + 1, none⟩ (.int .i64 (s.wear.getD i 0 + 1))) lo hi d n z (K + 1) (s.worn i) sb scap mb there left whole mask G C := by
  have hg : Chg (fun q => q = sb) w (w.setCell ⟨sb, i * 2 + 1, none⟩ (.int .i64 (s.wear.getD i 0 + 1))) := (Chg.refl _ w).own _ _
  exact ⟨Blk.chg h.core hg h.ds, h.cut, h.secs.set_ i hi' h.fits.wl _, (h.map.of_eq (hg.block mb h.map.lt (Ne.symm h.sm))).more (by omega),
    fun j hj => (h.rows j hj).chg hg (Ne.symm (h.sg hj)), h.apart, h.pd, h.ps, h.pm, h.pg, Nat.le_trans h.hs hg.size, h.fits.worn i hi', h.geo, hb⟩
end
theorem has_put (D : DataW Unit) (hD : IsMap D) (k i : Nat) : Maps.has (D.put (.int .i64 k) (.agg [])) (.int .i64 i) = (decide (i = k) || Maps.has D (.int .i64 i)) := by
  by_cases h : i = k
  · subst h
    rw [has_put_same hD (by simp [WideAt.IsKeyLit])]
    simp
  · rw [has_put_other (fun e => h (by injection e with _ e; omega))]
    simp [h]
end Go.Proofs.YthbafcihmcjchaaGreatDoor.NorS

/- The contract of the document's 'bits'. -/
namespace Go.Proofs.YthbafcihmcjchaaGreatDoor.NorB
set_option linter.unusedVariables false
set_option linter.unusedSimpArgs false
open Go.RowKit
open Go.Proofs.YthbafcihmcjchaaGreatDoor.NorM

theorem quo_nat (x j : Nat) : (x : Int) / ((2 ^ j : Nat) : Int) % 2 = ((x / 2 ^ j % 2 : Nat) : Int) := by
  norm_cast
theorem quo_bit (x j : Nat) : (((x : Int) / ((2 ^ j : Nat) : Int) % 2) == 1) = bit x j := by
  rw [quo_nat]
  unfold bit
  generalize x / 2 ^ j % 2 = q
  rw [Bool.eq_iff_iff, beq_iff_eq, beq_iff_eq]
  omega
theorem pow_le7 {j : Nat} (h : j < 8) : 2 ^ j ≤ 128 := Nat.le_trans (Nat.pow_le_pow_right (by omega) (show j ≤ 7 by omega)) (by decide)
theorem bsum_le (B : Nat → Bool) {j : Nat} (h : j < 8) : bsum B j + 2 ^ j ≤ 255 := by
  have h1 := bsum_lt B j
  have h2 : 2 ^ j + 2 ^ j ≤ 256 := by
    have e : 2 ^ (j + 1) = 2 ^ j + 2 ^ j := by rw [Nat.pow_succ]; omega
    rw [← e]
    exact Nat.le_trans (Nat.pow_le_pow_right (by omega) (show j + 1 ≤ 8 by omega)) (by decide)
  omega

set_option maxHeartbeats 1000000 in
theorem bits_nat (old other mask : Nat) (down : Bool) (w : World) (h0 : old < 256) (h1 : other < 256) (h2 : mask < 256) :
    Calls Tryz.prog 57 #[.int .u8 old, .int .u8 other, .int .u8 mask, .bool down] w fun e w' => e = .returned (.int .u8 (btN old other mask down : Nat)) ∧ w = w' := by
  go_enter Tryz.func57, Tryz.ntmps57
  go_wp2_with fail
  go_loop [9, 10, 11] (fun out p i => ∃ j : Nat, j ≤ 8 ∧ i = .int .i64 j ∧ out = .int .u8 (bsum (bB old other mask down) j : Nat) ∧ (j < 8 → p = .int .u8 (2 ^ j : Nat))) (fun _ _ i => 8 - (intOf i).toNat)
  case atStart => exact ⟨0, by omega, rfl, rfl, fun _ => rfl⟩
  case round =>
    obtain ⟨j, hj, rfl, rfl, hp⟩ := hrel
    by_cases hlt : j < 8
    · obtain rfl := hp hlt
      clear hp
      have q1 := quo_bit old j
      have q2 := quo_bit other j
      have q3 := quo_bit mask j
      have hP := pow_le7 hlt
      have hP1 : 1 ≤ 2 ^ j := Nat.two_pow_pos j
      have hB := bsum_le (bB old other mask down) hlt
      have hs : bsum (bB old other mask down) (j + 1) = bsum (bB old other mask down) j + (if bB old other mask down j then 2 ^ j else 0) := rfl
      have hb : bB old other mask down j = if bit mask j then (if down then bit old j && bit other j else true) else bit old j := rfl
      rw [hb] at hs
      have hn : 2 ^ (j + 1) = 2 ^ j * 2 := Nat.pow_succ ..
      have HS := Lib.hid hs
      have HN := Lib.hid hn
      clear hs hb hn
      generalize bsum (bB old other mask down) j = S at *
      generalize 2 ^ j = P at *
      generalize bit old j = b1 at *
      generalize bit other j = b2 at *
      generalize bit mask j = b3 at *
      have hw : j < 7 ∨ j = 7 := by omega
      cases b1 <;> cases b2 <;> cases b3 <;> cases down
      all_goals
        go_wp2
        go_round
        case rel =>
          refine ⟨j + 1, by omega, by go_num, by rw [HS.out]; simp, fun h => ?_⟩
          have h7 := pow_le7 h
          have e := HN.out
          rw [e] at h7 ⊢
          congr 1
          omega
        case measure => simp [intOf]; omega
    · obtain rfl : j = 8 := by omega
      go_wp2
      go_ret
      exact ⟨rfl, rfl⟩
theorem bits_calls (old other mask : Int) (down : Bool) (w : World) (h0 : 0 ≤ old) (h1 : old ≤ 255) (h2 : 0 ≤ other) (h3 : other ≤ 255) (h4 : 0 ≤ mask) (h5 : mask ≤ 255) :
    Calls Tryz.prog 57 #[.int .u8 old, .int .u8 other, .int .u8 mask, .bool down] w fun e w' => e = .returned (.int .u8 (bt old other mask down)) ∧ w = w' := by
  obtain ⟨a, rfl⟩ := Int.eq_ofNat_of_zero_le h0
  obtain ⟨b, rfl⟩ := Int.eq_ofNat_of_zero_le h2
  obtain ⟨c, rfl⟩ := Int.eq_ofNat_of_zero_le h4
  exact bits_nat a b c down w (by omega) (by omega) (by omega)
end Go.Proofs.YthbafcihmcjchaaGreatDoor.NorB

/- The document's own device in memory ('Ref'), and the contracts of its small methods. -/
namespace Go.Proofs.YthbafcihmcjchaaGreatDoor.NorP
set_option linter.unusedVariables false
set_option linter.unusedSimpArgs false
open Go.RowKit
open Go.Proofs.YthbafcihmcjchaaGreatDoor.Byte Go.Proofs.YthbafcihmcjchaaGreatDoor.NorD Go.Proofs.YthbafcihmcjchaaGreatDoor.NorM Go.Proofs.YthbafcihmcjchaaGreatDoor.NorS Go.Proofs.YthbafcihmcjchaaGreatDoor.PlaceM Go.Proofs.YthbafcihmcjchaaGreatDoor.PlaceV

/-- Block g has at least these cells. -/
def Row (w : World) (lo g : Nat) (t : TypeId) (n : Nat) (f : Nat → Value) : Prop := lo ≤ g ∧ ∃ cs : Array Value, Blk w g t cs ∧ ∀ i, i < n → cs[i]? = some (f i)
section
variable {w w' : World} {lo g n : Nat} {t : TypeId} {f : Nat → Value}
theorem Row.cell (h : Row w lo g t n f) {i : Nat} (hi : i < n) : w.cell? ⟨g, i, none⟩ = some (f i) := by
  obtain ⟨_, cs, hb, hc⟩ := h
  rw [hb.cell]
  exact hc i hi
theorem Row.fr (h : Row w lo g t n f) (i : Nat) : w.frozen? ⟨g, i, none⟩ = false := by
  obtain ⟨_, cs, hb, hc⟩ := h
  exact hb.frozen i
theorem Row.lt (h : Row w lo g t n f) : g < w.heap.size := by
  obtain ⟨_, cs, hb, hc⟩ := h
  exact hb.lt
theorem Row.of_eq (h : Row w lo g t n f) (e : w'.heap[g]? = w.heap[g]?) : Row w' lo g t n f := by
  obtain ⟨hl, cs, hb, hc⟩ := h
  exact ⟨hl, cs, hb.of_eq e, hc⟩
theorem Row.congr {f' : Nat → Value} (h : Row w lo g t n f) (e : ∀ i, i < n → f i = f' i) : Row w lo g t n f' := by
  obtain ⟨hl, cs, hb, hc⟩ := h
  exact ⟨hl, cs, hb, fun i hi => by rw [hc i hi, e i hi]⟩
theorem Row.base {lo' : Nat} (h : Row w lo g t n f) (hl : lo' ≤ lo) : Row w lo' g t n f := ⟨Nat.le_trans hl h.1, h.2⟩
theorem Row.set_ (h : Row w lo g t n f) (j : Nat) (v : Value) (hj : j < n) : Row (w.setCell ⟨g, j, none⟩ v) lo g t n (fun i => if i = j then v else f i) := by
  obtain ⟨hl, cs, hb, hc⟩ := h
  have hlt : j < cs.size := (Array.getElem?_eq_some_iff.1 (hc j hj)).1
  refine ⟨hl, _, hb.set_ _ _, fun i hi => ?_⟩
  by_cases e : i = j
  · subst e
    rw [Array.getElem?_setIfInBounds_self_of_lt hlt]
    simp
  · rw [Array.getElem?_setIfInBounds_ne (by omega), hc i hi]
    simp [e]
theorem Row.news (h : Row w lo g t n f) : ∀ j u, ((List.range n).map f)[j]? = some u → w.cell? ((⟨g, 0, none⟩ : Addr).add j) = some u := by
  intro j u hu
  have hj : j < n := by
    have := (List.getElem?_eq_some_iff.1 hu).1
    simpa using this
  have e2 : (⟨g, 0, none⟩ : Addr).add j = ⟨g, j, none⟩ := by
    unfold Addr.add
    by_cases h0 : j = 0 <;> simp [h0]
  rw [e2, h.cell hj, ← hu]
  simp [hj]
/-- Out of a row of the call's own. -/
theorem Row.of_own {cap : Nat} {xs : List Value} (h : w.ownsRow lo t 1 (.slice (some ⟨g, 0, none⟩) n cap) n xs) (hf : ∀ i, i < n → xs[i]? = some (f i)) : Row w lo g t n f := by
  rcases h.2 with ⟨h', _⟩ | ⟨g', cap', cur, h', hl, h3, _, _, _, ht⟩
  · cases h'
  · injection h' with h1 _ h2
    injection h1 with h1
    injection h1 with h1
    subst h1
    refine ⟨hl, cur, h3, fun i hi => ?_⟩
    have := hf i hi
    rw [← ht, List.getElem?_take, if_pos (by omega), Array.getElem?_toList] at this
    exact this
end

theorem own_cap {w : World} {base : Nat} {e : TypeId} {g cap n : Nat} {xs : List Value} (h : w.ownsRow base e 1 (.slice (some ⟨g, 0, none⟩) n cap) n xs) : n ≤ cap ∧ cap ≤ 9223372036854775807 := by
  rcases h.2 with ⟨h', _⟩ | ⟨g2, cap2, cur, h', _, _, h3, h4, _⟩
  · cases h'
  · injection h' with _ _ h5
    subst h5
    unfold maxLen at h4
    omega
/-- The document's device, its parts named. -/
structure RefP (w : World) (lo n z K : Nat) (s : St) (db wb bb : Nat) (cuts : Bool) (left whole mask : Int) (L LC : Nat → Nat) : Prop where
  data : Row w lo db 38 n (fun i => .slice (some ⟨L i, 0, none⟩) z (LC i))
  wear : Row w lo wb 3 n (fun i => .int .i64 (s.wear.getD i 0))
  bad : Row w lo bb 4 n (fun i => .bool (s.bad.getD i false))
  rows : ∀ i, i < n → Bs w (some ⟨L i, 0, none⟩) z (s.row i) ∧ (lo ≤ L i ∧ z ≤ LC i ∧ LC i ≤ 9223372036854775807) ∧ L i < w.heap.size
  cut : (s.cut = none ∧ cuts = false) ∨ (s.cut = some (left, whole, mask) ∧ cuts = true)
  fits : Fits n z K s
  geo : 0 < n ∧ n ≤ 64 ∧ 0 < z ∧ z ≤ 4096
  lw : 0 ≤ mask ∧ mask ≤ 255 ∧ -9223372036854775808 ≤ left ∧ left ≤ 9223372036854775807 ∧ -9223372036854775808 ≤ whole ∧ whole ≤ 9223372036854775807
  big : K ≤ 1000000
def refVal (n z : Nat) (s : St) (db dc wb wc bb bc : Nat) (cuts : Bool) (left whole mask : Int) : Value :=
  .agg #[.int .i64 n, .int .i64 z, .slice (some ⟨db, 0, none⟩) n dc, .slice (some ⟨wb, 0, none⟩) n wc, .slice (some ⟨bb, 0, none⟩) n bc, .bool (!s.on), .int .i64 s.offs, .int .i64 s.acts, .bool cuts, .int .i64 left, .int .i64 whole, .int .u8 mask]
/-- The value v is the document's device of that state. -/
def Ref (w : World) (lo n z K : Nat) (s : St) (v : Value) : Prop :=
  ∃ db dc wb wc bb bc cuts left whole mask L LC, v = refVal n z s db dc wb wc bb bc cuts left whole mask ∧ RefP w lo n z K s db wb bb cuts left whole mask L LC ∧ n ≤ dc ∧ n ≤ wc ∧ n ≤ bc ∧ dc ≤ 9223372036854775807 ∧ wc ≤ 9223372036854775807 ∧ bc ≤ 9223372036854775807
section
variable {w w' : World} {lo n z K : Nat} {s : St} {db wb bb : Nat} {cuts : Bool} {left whole mask : Int} {L LC : Nat → Nat}
/-- It stands as long as the blocks from lo on that were there do. -/
theorem RefP.keep (h : RefP w lo n z K s db wb bb cuts left whole mask L LC) (hb : ∀ k, lo ≤ k → k < w.heap.size → w'.heap[k]? = w.heap[k]?) (hs : w.heap.size ≤ w'.heap.size) : RefP w' lo n z K s db wb bb cuts left whole mask L LC :=
  ⟨h.data.of_eq (hb _ h.data.1 h.data.lt), h.wear.of_eq (hb _ h.wear.1 h.wear.lt), h.bad.of_eq (hb _ h.bad.1 h.bad.lt), fun i hi => by
    obtain ⟨h1, h2, h3⟩ := h.rows i hi
    refine ⟨⟨h1.1, h1.2.1, fun k hk => ?_⟩, h2, Nat.lt_of_lt_of_le h3 hs⟩
    obtain ⟨b, o, e, hlt, hc⟩ := h1.2.2 k hk
    have e' : L i = b := by injection e with e; injection e
    exact ⟨b, o, e, Nat.lt_of_lt_of_le hlt hs, (World.cell?_of_block (w := w) (a := ⟨b, o + k, none⟩) (hb b (by omega) hlt)).trans hc⟩, h.cut, h.fits, h.geo, h.lw, h.big⟩
theorem RefP.more (h : RefP w lo n z K s db wb bb cuts left whole mask L LC) {K' : Nat} (hK : K ≤ K') (hb : K' ≤ 1000000) : RefP w lo n z K' s db wb bb cuts left whole mask L LC :=
  ⟨h.data, h.wear, h.bad, h.rows, h.cut, h.fits.more hK, h.geo, h.lw, hb⟩
theorem Ref.keep {v : Value} (h : Ref w lo n z K s v) (hb : ∀ k, lo ≤ k → k < w.heap.size → w'.heap[k]? = w.heap[k]?) (hs : w.heap.size ≤ w'.heap.size) : Ref w' lo n z K s v := by
  obtain ⟨db, dc, wb, wc, bb, bc, cuts, left, whole, mask, L, LC, hv, hP, hr⟩ := h
  exact ⟨db, dc, wb, wc, bb, bc, cuts, left, whole, mask, L, LC, hv, hP.keep hb hs, hr⟩
theorem Ref.more {v : Value} (h : Ref w lo n z K s v) {K' : Nat} (hK : K ≤ K') (hb : K' ≤ 1000000) : Ref w lo n z K' s v := by
  obtain ⟨db, dc, wb, wc, bb, bc, cuts, left, whole, mask, L, LC, hv, hP, hr⟩ := h
  exact ⟨db, dc, wb, wc, bb, bc, cuts, left, whole, mask, L, LC, hv, hP.more hK hb, hr⟩
/-- The same blocks, other numbers. -/
theorem RefP.turned (h : RefP w lo n z K s db wb bb cuts left whole mask L LC) {K' : Nat} {s' : St} {cuts' : Bool} {left' whole' mask' : Int} (e1 : s'.data = s.data) (e2 : s'.wear = s.wear) (e3 : s'.bad = s.bad)
    (hc : (s'.cut = none ∧ cuts' = false) ∨ (s'.cut = some (left', whole', mask') ∧ cuts' = true)) (hf : Fits n z K' s') (hl : 0 ≤ mask' ∧ mask' ≤ 255 ∧ -9223372036854775808 ≤ left' ∧ left' ≤ 9223372036854775807 ∧ -9223372036854775808 ≤ whole' ∧ whole' ≤ 9223372036854775807) (hb : K' ≤ 1000000) :
    RefP w lo n z K' s' db wb bb cuts' left' whole' mask' L LC :=
  ⟨h.data, by rw [e2]; exact h.wear, by rw [e3]; exact h.bad, fun i hi => by unfold St.row; rw [e1]; exact h.rows i hi, hc, hf, h.geo, hl, hb⟩
end

theorem Ref.of {w : World} {lo n z K : Nat} {s : St} {v : Value} {db dc wb wc bb bc : Nat} {cuts : Bool} {left whole mask : Int} {L LC : Nat → Nat} (hv : v = refVal n z s db dc wb wc bb bc cuts left whole mask) (h : RefP w lo n z K s db wb bb cuts left whole mask L LC)
    (hr : n ≤ dc ∧ n ≤ wc ∧ n ≤ bc ∧ dc ≤ 9223372036854775807 ∧ wc ≤ 9223372036854775807 ∧ bc ≤ 9223372036854775807) : Ref w lo n z K s v := ⟨db, dc, wb, wc, bb, bc, cuts, left, whole, mask, L, LC, hv, h, hr⟩
theorem RefP.below {w w' : World} {lo n z K : Nat} {s : St} {db wb bb : Nat} {cuts : Bool} {left whole mask : Int} {L LC : Nat → Nat} (h : RefP w lo n z K s db wb bb cuts left whole mask L LC) (hb : Below w.heap.size w w') : RefP w' lo n z K s db wb bb cuts left whole mask L LC :=
  h.keep (fun k _ hk => hb.block k hk) hb.size
theorem two_allocs (w : World) (o o' : Obj) : Below w.heap.size w ((w.alloc o).alloc o') := ((Below.refl _ _).alloc (Nat.le_refl _) _).alloc (by simp) _

section
variable {lo n z K : Nat} {s : St} {db wb bb : Nat} {cuts : Bool} {left whole mask : Int} {L LC : Nat → Nat}
theorem refTurn_calls (w : World) (v : Value) (h : Ref w lo n z K s v) (hK : K + 1 ≤ 1000000) :
    Calls Tryz.prog 38 #[v] w fun e w' => ∃ v', e = .returned v' ∧ Ref w' lo n z (K + 1) s.turn v' ∧ Below w.heap.size w w' := by
  obtain ⟨db, dc, wb, wc, bb, bc, cuts, left, whole, mask, L, LC, rfl, hP, hr⟩ := h
  have hf := hP.fits.turn
  have ho := hP.fits.ob
  have HP := Lib.hid hP
  have HR := Lib.hid hr
  unfold refVal
  cases hon : s.on
  · have e1 : s.turn = s := by
      unfold St.turn
      rw [if_neg (by rw [hon]; decide)]
    rw [e1] at hf ⊢
    have HF := Lib.hid hf
    have HON := Lib.hid hon
    clear hon hP hr hf e1
    go_enter Tryz.func38, Tryz.ntmps38
    go_wp2
    exact bodyPost_ret (v := refVal n z s db dc wb wc bb bc cuts left whole mask) (by simp [results, Tryz.results38, go_sem, refVal, HON.out]) rfl
      ⟨_, rfl, Ref.of rfl ((HP.out.more (by omega) hK).below (two_allocs _ _ _)) HR.out, two_allocs _ _ _⟩
  · have e1 : s.turn = { s with on := false, cut := none, offs := s.offs + 1 } := by
      unfold St.turn
      rw [if_pos hon]
    rw [e1] at hf ⊢
    have HF := Lib.hid hf
    clear hon hP hr hf e1
    go_enter Tryz.func38, Tryz.ntmps38
    go_wp2
    exact bodyPost_ret (v := refVal n z { s with on := false, cut := none, offs := s.offs + 1 } db dc wb wc bb bc false left whole mask) (by simp [results, Tryz.results38, go_sem, refVal]) rfl
      ⟨_, rfl, Ref.of rfl ((HP.out.below (two_allocs _ _ _)).turned rfl rfl rfl (.inl ⟨rfl, rfl⟩) HF.out HP.out.lw hK) HR.out, two_allocs _ _ _⟩
theorem refCut_calls (w : World) (v : Value) (h : Ref w lo n z K s v) (a b m : Int) (ha : a ≤ 9223372036854775807) (hb : b ≤ 9223372036854775807) (h0 : 0 ≤ m) (h1 : m ≤ 255) :
    Calls Tryz.prog 36 #[v, .int .i64 a, .int .i64 b, .int .u8 m] w fun e w' => ∃ v', e = .returned v' ∧ Ref w' lo n z K (s.setCut a b m) v' ∧ Below w.heap.size w w' := by
  obtain ⟨db, dc, wb, wc, bb, bc, cuts, left, whole, mask, L, LC, rfl, hP, hr⟩ := h
  have hf := hP.fits.setCut a b m ha hb h0 h1
  have HP := Lib.hid hP
  have HR := Lib.hid hr
  have HF := Lib.hid hf
  clear hP hr hf
  unfold refVal
  go_enter Tryz.func36, Tryz.ntmps36
  go_wp2
  exact bodyPost_ret (v := refVal n z (s.setCut a b m) db dc wb wc bb bc true (max a 0) (max b 0) m) (by simp [results, Tryz.results36, go_sem, refVal, St.setCut]) rfl
      ⟨_, rfl, Ref.of rfl ((HP.out.below (two_allocs _ _ _)).turned rfl rfl rfl (.inr ⟨rfl, rfl⟩) HF.out ⟨h0, h1, by omega, by omega, by omega, by omega⟩ HP.out.big) HR.out, two_allocs _ _ _⟩
end

/-- append([]T{}, row...): a new row of the same. -/
theorem wpList_append_row {P : Program} {w : World} {ops : Array Oper} {rest : List Oper} {o : Oper} {a : Act} {Q : Exit → Act → World → Prop} (hgd : o.guard = none) (s x : Operand) (t : TypeId)
    (ho : o.op = .call { callee := .builtin .append, args := #[s, x], argTypes := #[t, t] }) (base : Nat) (e : TypeId) (ht : P.underlying t = some (.slice e)) (zv : Value) (bytes : Nat) (hinfo : (P.info? e).map (fun i => (i.zero, i.size, i.bytes)) = some (some zv, 1, bytes)) (hzs : zv.cells.size = 1) (hby : bytes ≤ 24)
    (g0 : Nat) (hs : a.eval s = .slice (some ⟨g0, 0, none⟩) 0 0) (hown : w.ownsRow base e 1 (.slice (some ⟨g0, 0, none⟩) 0 0) 0 []) (lo g n c : Nat) (f : Nat → Value) (hx : a.eval x = .slice (some ⟨g, 0, none⟩) n c) (hr : Row w lo g e n f) (h1 : ∀ i, (f i).oneCell' = true)
    (hn0 : 0 < n) (hn : n ≤ 100000) (hbase : base ≤ w.heap.size)
    (h : ∀ g' cap' w', Row w' base g' e n f → n ≤ cap' → cap' ≤ 9223372036854775807 → w.grownBy w' (some g0) → (g' = g0 ∨ w.heap.size ≤ g') → wpList P ops Q rest (a.put o.dst (.slice (some ⟨g', 0, none⟩) n cap')) w') : wpList P ops Q (o :: rest) a w := by
  obtain ⟨i, hi, hz0, hz1, hz2⟩ := info_parts hinfo
  refine wpList_append_lies w hgd s x t ho base e i zv 1 bytes ht hi hz0 hz1 hz2 hzs (by omega) _ 0 [] hs hown ⟨g, 0, none⟩ n c ((List.range n).map f) hx (by simp) hr.news (fun u hu => by
    obtain ⟨j, _, rfl⟩ := List.mem_map.1 hu
    exact h1 j) hn0 (by unfold maxLen; omega) (by
      rw [Nat.zero_add]
      exact Nat.le_trans (Nat.mul_le_mul hn hby) (by decide)) hbase w.heap.size rfl ?_
  intro g' cap' w' hown' hg hat hlt
  rw [Nat.zero_add, List.nil_append] at hown'
  rw [Nat.zero_add]
  have hcap : n ≤ cap' ∧ cap' ≤ 9223372036854775807 := by
    rcases hown'.2 with ⟨h', _⟩ | ⟨g2, cap2, cur, h', _, _, h3, h4, _⟩
    · cases h'
    · injection h' with _ _ h5
      subst h5
      unfold maxLen at h4
      omega
  refine h g' cap' w' (Row.of_own hown' fun j hj => by simp [hj]) hcap.1 hcap.2 hg ?_
  rcases hat with e | e
  · exact .inl (by injection e with e; exact e.symm)
  · exact .inr (by omega)
end Go.Proofs.YthbafcihmcjchaaGreatDoor.NorP

/- The contracts of the document's device: Spoil, the act. -/
namespace Go.Proofs.YthbafcihmcjchaaGreatDoor.NorR
set_option linter.unusedVariables false
set_option linter.unusedSimpArgs false
open Go.RowKit
open Go.Proofs.YthbafcihmcjchaaGreatDoor.Byte Go.Proofs.YthbafcihmcjchaaGreatDoor.NorD Go.Proofs.YthbafcihmcjchaaGreatDoor.NorM Go.Proofs.YthbafcihmcjchaaGreatDoor.NorS Go.Proofs.YthbafcihmcjchaaGreatDoor.NorB Go.Proofs.YthbafcihmcjchaaGreatDoor.NorP Go.Proofs.YthbafcihmcjchaaGreatDoor.PlaceM Go.Proofs.YthbafcihmcjchaaGreatDoor.PlaceV

theorem info_bool : (Tryz.prog.info? 4).map (fun i => (i.zero, i.size, i.bytes)) = some (some (.bool false), 1, 1) := by kernel_rfl
theorem info_int : (Tryz.prog.info? 3).map (fun i => (i.zero, i.size, i.bytes)) = some (some (.int .i64 0), 1, 8) := by kernel_rfl
theorem info_bytes : (Tryz.prog.info? 38).map (fun i => (i.zero, i.size, i.bytes)) = some (some (.slice none 0 0), 1, 24) := by kernel_rfl
theorem info_u8 : (Tryz.prog.info? 5).map (fun i => (i.zero, i.size, i.bytes)) = some (some (.int .u8 0), 1, 1) := by kernel_rfl

/-- The document's device's struct in memory. -/
def rc (n z db dc wb wc bb bc : Nat) (off : Bool) (offs acts : Int) (cuts : Bool) (left whole mask : Int) : Array Value :=
  #[.int .i64 n, .int .i64 z, .slice (some ⟨db, 0, none⟩) n dc, .slice (some ⟨wb, 0, none⟩) n wc, .slice (some ⟨bb, 0, none⟩) n bc, .bool off, .int .i64 offs, .int .i64 acts, .bool cuts, .int .i64 left, .int .i64 whole, .int .u8 mask]
theorem rc_one (n z db dc wb wc bb bc : Nat) (off : Bool) (offs acts : Int) (cuts : Bool) (left whole mask : Int) : (rc n z db dc wb wc bb bc off offs acts cuts left whole mask).all (·.oneCell') = true := by simp [rc, Value.oneCell']
theorem info_ref : (Tryz.prog.info? 33).map (·.size) = some 12 := by kernel_rfl
def zeroRef : Array Value := #[.int .i64 0, .int .i64 0, .slice none 0 0, .slice none 0 0, .slice none 0 0, .bool false, .int .i64 0, .int .i64 0, .bool false, .int .i64 0, .int .i64 0, .int .u8 0]
section
variable {P : Program}
/-- A whole block is written. -/
theorem wpList_store_blk {ops : Array Oper} {rest : List Oper} {o : Oper} {a : Act} {w : World} {Q : Exit → Act → World → Prop} (hgd : o.guard = none) (ty : TypeId) (x y : Operand) (ho : o.op = .store ty x y)
    (g : Nat) (cells : Array Value) (hx : a.eval x = .pointer (some ⟨g, 0, none⟩)) (hy : a.eval y = .agg cells)
    (t : TypeId) (old : Array Value) (hg : Blk w g t old) (hi : (P.info? ty).map (·.size) = some cells.size) (hold : old.size = cells.size) (h1 : cells.all (·.oneCell') = true)
    (h : ∀ w', Blk w' g t cells → Chg (fun q => q = g) w w' → wpList P ops Q rest (a.put o.dst undef) w') : wpList P ops Q (o :: rest) a w := by
  refine wpList_store_row hgd ty x y ho g cells hx hy t old hg hi hold h1 (h _ (setRow_heap w g old cells t (0, 0) hg) ⟨rfl, rfl, rfl, by simp [World.setRow], fun k _ hn => setRow_other w g k cells hn⟩)
end

/-- The world behind the box of the receiver, the result's variable, and an empty slice. -/
theorem boxed (w : World) (c zz : Array Value) (t e : TypeId) : Below w.heap.size w (((w.alloc (.cells c t)).alloc (.cells zz t)).alloc (.cells #[] e)) ∧ Blk (((w.alloc (.cells c t)).alloc (.cells zz t)).alloc (.cells #[] e)) w.heap.size t c ∧ Blk (((w.alloc (.cells c t)).alloc (.cells zz t)).alloc (.cells #[] e)) (w.heap.size + 1) t zz ∧
    (((w.alloc (.cells c t)).alloc (.cells zz t)).alloc (.cells #[] e)).ownsRow (w.heap.size + 1 + 1) e 1 (.slice (some ⟨w.heap.size + 1 + 1, 0, none⟩) 0 0) 0 [] := by
  refine ⟨(two_allocs w _ _).alloc (by simp; omega) _, ((Blk.new w _ _).alloc _).alloc _, ?_, ?_⟩
  · have := (Blk.new (w.alloc (.cells c t)) t zz).alloc (.cells #[] e)
    simpa using this
  · have := World.ownsRow_lit (base := w.heap.size + 1 + 1) (e := e) (size := 1) ((w.alloc (.cells c t)).alloc (.cells zz t)) #[] 0 (by simp) (by decide) rfl
    simpa using this
theorem boxed_grown {w w1 : World} {c zz : Array Value} {t e : TypeId} (hg : (((w.alloc (.cells c t)).alloc (.cells zz t)).alloc (.cells #[] e)).grownBy w1 (some (w.heap.size + 1 + 1))) :
    Below w.heap.size w w1 ∧ Blk w1 w.heap.size t c ∧ Blk w1 (w.heap.size + 1) t zz := by
  obtain ⟨h1, h2, h3, h4⟩ := boxed w c zz t e
  exact ⟨h1.grown hg h1.size (fun k e => by injection e with e; omega), h2.of_eq (hg.block _ h2.lt (by simp; omega)), h3.of_eq (hg.block _ h3.lt (by simp))⟩

section
variable {lo n z K : Nat} {s : St} {db wb bb : Nat} {cuts : Bool} {left whole mask : Int} {L LC : Nat → Nat}

set_option maxRecDepth 100000 in
set_option maxHeartbeats 1000000 in
theorem refSpoil_yes (w : World) (v : Value) (h : Ref w lo n z K s v) (i : Nat) (hi : i < n) (hlo : lo ≤ w.heap.size) :
    Calls Tryz.prog 41 #[v, .int .i64 i] w fun e w' => ∃ v', e = .returned v' ∧ Ref w' lo n z K { s with bad := s.bad.set i true } v' ∧ Below w.heap.size w w' := by
  obtain ⟨db, dc, wb, wc, bb, bc, cuts, left, whole, mask, L, LC, rfl, hP, hr⟩ := h
  have hf : Fits n z K { s with bad := s.bad.set i true } := by
    have := hP.fits.spoil (i : Int)
    unfold St.spoil at this
    rwa [if_pos (by omega), Int.toNat_natCast] at this
  have hg := hP.geo
  have HP := Lib.hid hP
  have HR := Lib.hid hr
  have HF := Lib.hid hf
  clear hP hr hf
  unfold refVal
  go_enter Tryz.func41, Tryz.ntmps41
  go_wp2_with (first
    | ((with_reducible refine pick (some 10) ?_); refine wpList_append_row rfl _ _ _ rfl (w.heap.size + 1 + 1) 4 Tryz.underlying31 _ 1 info_bool rfl (by omega) (w.heap.size + 1 + 1) rfl (boxed _ _ _ _ _).2.2.2 lo bb n bc _ rfl (HP.out.below (boxed _ _ _ _ _).1).bad (fun _ => rfl) hg.1 (by omega) (by simp) ?_; intro g1 cap1 w1 hrow1 hc1 hc2 hg1 hat1; have hst := boxed_grown hg1; have HB1 := Lib.hid hst.1; have S0 := Lib.hid hst.2.1; have S1 := Lib.hid hst.2.2; have kc := hrow1.cell hi; have kf := hrow1.fr i; have k4 : w1.cell? ⟨w.heap.size, 4, none⟩ = some (.slice (some ⟨bb, 0, none⟩) n bc) := S0.out.cell 4; have f4 := S0.out.frozen 4; have HROW := Lib.hid hrow1; have hge : w.heap.size + 2 ≤ g1 := (by have := hrow1.1; omega); have n1 : ¬ g1 = w.heap.size := (by omega); have n2 : ¬ w.heap.size = g1 := (by omega); clear hst hrow1 hg1 hat1)
    | ((with_reducible refine pick (some 24) ?_); refine wpList_load_row rfl _ _ rfl w.heap.size rfl 33 (rc n z db dc wb wc g1 cap1 (!s.on) s.offs s.acts cuts left whole mask) (0, 0) _ ((S0.out.far (p := ⟨g1, i, none⟩) n2 _).set_ 4 _) Tryz.underlying33 rfl info_ref ?_)
    | ((with_reducible refine pick none ?_); refine wpList_store_blk rfl 33 _ _ rfl (w.heap.size + 1) (rc n z db dc wb wc g1 cap1 (!s.on) s.offs s.acts cuts left whole mask) rfl rfl 33 _ ((S1.out.far (p := ⟨g1, i, none⟩) (by show w.heap.size + 1 ≠ g1; omega) _).far (p := ⟨w.heap.size, 4, none⟩) (by show w.heap.size + 1 ≠ w.heap.size; omega) _) info_ref rfl (rc_one _ _ _ _ _ _ _ _ _ _ _ _ _ _ _) ?_; intro w2 hb2 hg2))
  have hw2 : Chg (fun q => w.heap.size ≤ q) w1 w2 := (((Chg.refl _ w1).setCell (.inl (show w.heap.size ≤ g1 by omega)) _).setCell (.inl (Nat.le_refl w.heap.size)) _).trans (hg2.mono (fun k _ e => by rw [e]; omega))
  have hb3 : Below w.heap.size w w2 := HB1.out.trans (hw2.below HB1.out.size (fun k hk => by omega))
  have hr2 : Row w2 lo g1 4 n (fun j => .bool ((s.bad.set i true).getD j false)) := by
    have h1 := (HROW.out.set_ i (.bool true) hi).of_eq (w' := w2) ?_
    · exact (h1.congr (fun j hj => by
        rw [getD_setB _ _ _ _ (by rw [HP.out.fits.bl]; exact hi)]
        by_cases e : j = i <;> simp [e])).base (by omega)
    · rw [hg2.block g1 (by have := HROW.out.lt; simpa [World.setCell] using this) (by omega)]
      exact Below.heap_setCell _ _ _ _ n1
  exact bodyPost_ret (v := .agg (rc n z db dc wb wc g1 cap1 (!s.on) s.offs s.acts cuts left whole mask)) (results_cell_row rfl _ _ (w.heap.size + 1) 33 _ (0, 0) _ rfl hb2 Tryz.underlying33 rfl info_ref) rfl
    ⟨_, rfl, Ref.of (s := { s with bad := s.bad.set i true }) (db := db) (wb := wb) (bb := g1) (left := left) (whole := whole) (mask := mask) (cuts := cuts) (L := L) (LC := LC) rfl ⟨(HP.out.below hb3).data, (HP.out.below hb3).wear, hr2, (HP.out.below hb3).rows, HP.out.cut, HF.out, HP.out.geo, HP.out.lw, HP.out.big⟩ ⟨HR.out.1, HR.out.2.1, hc1, HR.out.2.2.2.1, HR.out.2.2.2.2.1, hc2⟩, hb3⟩
set_option maxRecDepth 100000 in
set_option maxHeartbeats 1000000 in
theorem refSpoil_no (w : World) (v : Value) (h : Ref w lo n z K s v) (se : Int) (hse : se < 0 ∨ (0 ≤ se ∧ (n : Int) ≤ se)) (hlo : lo ≤ w.heap.size) :
    Calls Tryz.prog 41 #[v, .int .i64 se] w fun e w' => ∃ v', e = .returned v' ∧ Ref w' lo n z K s v' ∧ Below w.heap.size w w' := by
  obtain ⟨db, dc, wb, wc, bb, bc, cuts, left, whole, mask, L, LC, rfl, hP, hr⟩ := h
  have hg := hP.geo
  have HP := Lib.hid hP
  have HR := Lib.hid hr
  clear hP hr
  unfold refVal
  have hlen : 0 ≤ se → decide (se < (n : Int)) = false := fun _ => by simp; omega
  rcases hse with hse | ⟨hse, hse'⟩
  case' inr => have hd := hlen hse
  all_goals clear hlen
  all_goals
   go_enter Tryz.func41, Tryz.ntmps41
   go_wp2_with (first
     | ((with_reducible refine pick (some 10) ?_); refine wpList_append_row rfl _ _ _ rfl (w.heap.size + 1 + 1) 4 Tryz.underlying31 _ 1 info_bool rfl (by omega) (w.heap.size + 1 + 1) rfl (boxed _ _ _ _ _).2.2.2 lo bb n bc _ rfl (HP.out.below (boxed _ _ _ _ _).1).bad (fun _ => rfl) hg.1 (by omega) (by simp) ?_; intro g1 cap1 w1 hrow1 hc1 hc2 hg1 hat1; have hst := boxed_grown hg1; have HB1 := Lib.hid hst.1; have S0 := Lib.hid hst.2.1; have S1 := Lib.hid hst.2.2; have k4 : w1.cell? ⟨w.heap.size, 4, none⟩ = some (.slice (some ⟨bb, 0, none⟩) n bc) := S0.out.cell 4; have f4 := S0.out.frozen 4; have HROW := Lib.hid hrow1; have hge : w.heap.size + 2 ≤ g1 := (by have := hrow1.1; omega); have n1 : ¬ g1 = w.heap.size := (by omega); have n2 : ¬ w.heap.size = g1 := (by omega); clear hst hrow1 hg1 hat1)
     | ((with_reducible refine pick (some 24) ?_); refine wpList_load_row rfl _ _ rfl w.heap.size rfl 33 (rc n z db dc wb wc g1 cap1 (!s.on) s.offs s.acts cuts left whole mask) (0, 0) _ (S0.out.set_ 4 _) Tryz.underlying33 rfl info_ref ?_)
     | ((with_reducible refine pick none ?_); refine wpList_store_blk rfl 33 _ _ rfl (w.heap.size + 1) (rc n z db dc wb wc g1 cap1 (!s.on) s.offs s.acts cuts left whole mask) rfl rfl 33 _ (S1.out.far (p := ⟨w.heap.size, 4, none⟩) (by show w.heap.size + 1 ≠ w.heap.size; omega) _) info_ref rfl (rc_one _ _ _ _ _ _ _ _ _ _ _ _ _ _ _) ?_; intro w2 hb2 hg2))
   have hw2 : Chg (fun q => w.heap.size ≤ q) w1 w2 := ((Chg.refl _ w1).setCell (.inl (Nat.le_refl w.heap.size)) _).trans (hg2.mono (fun k _ e => by rw [e]; omega))
   have hb3 : Below w.heap.size w w2 := HB1.out.trans (hw2.below HB1.out.size (fun k hk => by omega))
   have hr2 : Row w2 lo g1 4 n (fun j => .bool (s.bad.getD j false)) := by
     refine (HROW.out.of_eq (w' := w2) ?_).base (by omega)
     rw [hg2.block g1 (by have := HROW.out.lt; simpa [World.setCell] using this) (by omega)]
     exact Below.heap_setCell _ _ _ _ n1
   exact bodyPost_ret (v := .agg (rc n z db dc wb wc g1 cap1 (!s.on) s.offs s.acts cuts left whole mask)) (results_cell_row rfl _ _ (w.heap.size + 1) 33 _ (0, 0) _ rfl hb2 Tryz.underlying33 rfl info_ref) rfl
     ⟨_, rfl, Ref.of (db := db) (wb := wb) (bb := g1) (left := left) (whole := whole) (mask := mask) (cuts := cuts) (L := L) (LC := LC) rfl ⟨(HP.out.below hb3).data, (HP.out.below hb3).wear, hr2, (HP.out.below hb3).rows, HP.out.cut, HP.out.fits, HP.out.geo, HP.out.lw, HP.out.big⟩ ⟨HR.out.1, HR.out.2.1, hc1, HR.out.2.2.2.1, HR.out.2.2.2.2.1, hc2⟩, hb3⟩
theorem refSpoil_calls (w : World) (v : Value) (h : Ref w lo n z K s v) (se : Int) (hlo : lo ≤ w.heap.size) :
    Calls Tryz.prog 41 #[v, .int .i64 se] w fun e w' => ∃ v', e = .returned v' ∧ Ref w' lo n z K (s.spoil n se) v' ∧ Below w.heap.size w w' := by
  by_cases hin : 0 ≤ se ∧ se < (n : Int)
  · obtain ⟨i, rfl⟩ := Int.eq_ofNat_of_zero_le hin.1
    have e1 : s.spoil n (i : Int) = { s with bad := s.bad.set i true } := by
      unfold St.spoil
      rw [if_pos hin, Int.toNat_natCast]
    rw [e1]
    exact refSpoil_yes w v h i (by omega) hlo
  · have e1 : s.spoil n se = s := by
      unfold St.spoil
      rw [if_neg hin]
    rw [e1]
    exact refSpoil_no w v h se (by omega) hlo
end
end Go.Proofs.YthbafcihmcjchaaGreatDoor.NorR

/- The contract of the document's act. -/
namespace Go.Proofs.YthbafcihmcjchaaGreatDoor.NorU
set_option linter.unusedVariables false
set_option linter.unusedSimpArgs false
open Go.RowKit
open Go.Proofs.YthbafcihmcjchaaGreatDoor.Byte Go.Proofs.YthbafcihmcjchaaGreatDoor.NorD Go.Proofs.YthbafcihmcjchaaGreatDoor.NorM Go.Proofs.YthbafcihmcjchaaGreatDoor.NorS Go.Proofs.YthbafcihmcjchaaGreatDoor.NorB Go.Proofs.YthbafcihmcjchaaGreatDoor.NorP Go.Proofs.YthbafcihmcjchaaGreatDoor.NorR Go.Proofs.YthbafcihmcjchaaGreatDoor.PlaceM Go.Proofs.YthbafcihmcjchaaGreatDoor.PlaceV

/-- The bytes behind j rounds. -/
def segTo (down : Bool) (c : Option (Int × Int)) (off j : Nat) (b xs : List Int) : List Int :=
  xs.mapIdx fun k x => if off ≤ k ∧ k < off + j then bt x (b.getD (k - off) 0) (mk c (k - off)) down else x
theorem segTo_zero (down : Bool) (c : Option (Int × Int)) (off : Nat) (b xs : List Int) : segTo down c off 0 b xs = xs := mapIdx_same _ _ fun i h => by
  rw [if_neg (by omega)]
theorem segTo_all (down : Bool) (c : Option (Int × Int)) (off : Nat) (b xs : List Int) : segTo down c off b.length b xs = seg down c off b xs := rfl
theorem segTo_at (down : Bool) (c : Option (Int × Int)) (off j : Nat) (b xs : List Int) (h : off + j < xs.length) : (segTo down c off j b xs).getD (off + j) 0 = xs.getD (off + j) 0 := by
  unfold segTo
  rw [getD_mapIdx _ _ _ h, if_neg (by omega)]
theorem segTo_succ (down : Bool) (c : Option (Int × Int)) (off j : Nat) (b xs : List Int) : (segTo down c off j b xs).set (off + j) (bt (xs.getD (off + j) 0) (b.getD j 0) (mk c j) down) = segTo down c off (j + 1) b xs := by
  unfold segTo
  refine set_mapIdx _ _ _ _ _ (fun h => ?_) (fun i h hne => ?_)
  · rw [if_pos (by omega), List.getD_eq_getElem?_getD, List.getElem?_eq_getElem h, Option.getD_some, Nat.add_sub_cancel_left]
  · by_cases h1 : off ≤ i ∧ i < off + j
    · rw [if_pos h1, if_pos (by omega)]
    · rw [if_neg h1, if_neg (by omega)]

theorem mk_lt {whole mask : Int} {j : Nat} (h : (j : Int) < whole) : mk (some (whole, mask)) j = 255 := by
  unfold mk
  exact if_pos h
theorem mk_eq {whole mask : Int} {j : Nat} (h : (j : Int) = whole) : mk (some (whole, mask)) j = mask := by
  unfold mk
  exact (if_neg (by omega)).trans (if_pos h)
theorem mk_gt {whole mask : Int} {j : Nat} (h : whole < (j : Int)) : mk (some (whole, mask)) j = 0 := by
  unfold mk
  exact (if_neg (by omega)).trans (if_neg (by omega))
/-- The world inside the act: the box, the result's variable, the sector's new bytes. -/
def AR (w wr : World) (g1 z cap1 : Nat) (c : Array Value) (row : List Int) : Prop :=
  Blk wr w.heap.size 33 c ∧ Blk wr (w.heap.size + 1) 33 zeroRef ∧ Ob wr (w.heap.size + 1 + 1) 5 g1 z cap1 row ∧ Below w.heap.size w wr
theorem AR.set_ {w wr : World} {g1 z cap1 : Nat} {c : Array Value} {row : List Int} (h : AR w wr g1 z cap1 c row) (k : Nat) (v : Int) (h0 : 0 ≤ v) (h1 : v ≤ 255) : AR w (wr.setCell ⟨g1, k, none⟩ (.int .u8 v)) g1 z cap1 c (row.set k v) := by
  have hp := h.2.2.1.place
  exact ⟨h.1.far (p := ⟨g1, k, none⟩) (by show w.heap.size ≠ g1; omega) _, h.2.1.far (p := ⟨g1, k, none⟩) (by show w.heap.size + 1 ≠ g1; omega) _, h.2.2.1.set_ k v h0 h1, h.2.2.2.setCell (p := ⟨g1, k, none⟩) (by show w.heap.size ≤ g1; omega) _⟩
theorem AR.drew {w wr : World} {g1 z cap1 : Nat} {c : Array Value} {row : List Int} (h : AR w wr g1 z cap1 c row) : AR w wr.drew g1 z cap1 c row := ⟨h.1, h.2.1, h.2.2.1, h.2.2.2.drew⟩
theorem AR.core {w wr : World} {g1 z cap1 : Nat} {c : Array Value} {row : List Int} (h : AR w wr g1 z cap1 c row) (k : Nat) (v : Value) : AR w (wr.setCell ⟨w.heap.size, k, none⟩ v) g1 z cap1 (c.setIfInBounds k v) row := by
  have hp := h.2.2.1.place
  exact ⟨h.1.set_ k v, h.2.1.far (p := ⟨w.heap.size, k, none⟩) (by show w.heap.size + 1 ≠ w.heap.size; omega) _, h.2.2.1.chg ((Chg.refl _ wr).own k v) (by show ¬ g1 = w.heap.size; omega), h.2.2.2.setCell (p := ⟨w.heap.size, k, none⟩) (Nat.le_refl _) _⟩
/-- Behind an append to a fresh row. -/
theorem AR.grown {w wr w2 : World} {g1 z cap1 : Nat} {c : Array Value} {row : List Int} {o : Obj} (h : AR w wr g1 z cap1 c row) (hg : (wr.alloc o).grownBy w2 (some wr.heap.size)) : AR w w2 g1 z cap1 c row := by
  have hp := h.2.2.1.place
  have hc : Chg (fun _ => False) wr w2 := ((Chg.refl _ wr).alloc o).then_ (Chg.of_grown (S := fun q => q = wr.heap.size) hg (fun k e => .inl (Option.some.inj e).symm)) (fun k hk e => by omega)
  exact ⟨h.1.chg hc (fun h => h), h.2.1.chg hc (fun h => h), h.2.2.1.chg hc (fun h => h), h.2.2.2.trans (hc.below h.2.2.2.size (fun _ _ h => h))⟩
theorem AR.far {w wr : World} {g1 z cap1 : Nat} {c : Array Value} {row : List Int} (h : AR w wr g1 z cap1 c row) {g : Nat} (hg : w.heap.size + 1 < g) (hg1 : g ≠ g1) (k : Nat) (v : Value) : AR w (wr.setCell ⟨g, k, none⟩ v) g1 z cap1 c row :=
  ⟨h.1.far (p := ⟨g, k, none⟩) (by show w.heap.size ≠ g; omega) _, h.2.1.far (p := ⟨g, k, none⟩) (by show w.heap.size + 1 ≠ g; omega) _, h.2.2.1.chg ((Chg.refl _ wr).own k v) (by show ¬ g1 = g; omega), h.2.2.2.setCell (p := ⟨g, k, none⟩) (by show w.heap.size ≤ g; omega) _⟩
theorem results_tmp_row {P : Program} {fn : Func} {u p : Tmp} {ty : TypeId} (h : fn.results = #[.tmp u, .cell p ty]) (tmps : Array Value) (w : World) (g : Nat) (t : TypeId) (cs : Array Value) (fr : Nat × Nat) (d : TypeDesc)
    (hp : tmps.getD p undef = .pointer (some ⟨g, 0, none⟩)) (hg : w.heap[g]? = some (.cells cs t fr)) (hu : P.underlying ty = some d) (hd : (match d with | .struct _ | .array _ _ => true | _ => false) = true) (hi : (P.info? ty).map (·.size) = some cs.size) :
    (results fn tmps).run P w = .ok (.tuple #[tmps.getD u undef, .agg cs]) w := by
  have hp' : tmps[p]?.getD undef = .pointer (some ⟨g, 0, none⟩) := by simpa using hp
  simp [results, h, hp', asAddr, run_loadVar_row w g t ty cs fr d hg hu hd hi]
theorem RefP.other {w w' : World} {lo n z K : Nat} {s : St} {db wb bb : Nat} {cuts : Bool} {left whole mask : Int} {L LC : Nat → Nat} {g : Nat} (h : RefP w lo n z K s db wb bb cuts left whole mask L LC) (hS : Blk w g 33 zeroRef) (hg : Chg (fun q => q = g) w w') : RefP w' lo n z K s db wb bb cuts left whole mask L LC := by
  have hd : db ≠ g := by
    obtain ⟨_, cs, hb, _⟩ := h.data
    exact Blk.ne_ hb hS (by decide)
  have hw : wb ≠ g := by
    obtain ⟨_, cs, hb, _⟩ := h.wear
    exact Blk.ne_ hb hS (by decide)
  have hb : bb ≠ g := by
    obtain ⟨_, cs, hb, _⟩ := h.bad
    exact Blk.ne_ hb hS (by decide)
  refine ⟨h.data.of_eq (hg.block db h.data.lt hd), h.wear.of_eq (hg.block wb h.wear.lt hw), h.bad.of_eq (hg.block bb h.bad.lt hb), fun i hi => ?_, h.cut, h.fits, h.geo, h.lw, h.big⟩
  obtain ⟨h1, h2, h3⟩ := h.rows i hi
  refine ⟨h1.chg hg (fun b o e => ?_), h2, Nat.lt_of_lt_of_le h3 hg.size⟩
  rintro rfl
  have hc := h1.2.2 0 h.geo.2.2.1
  obtain ⟨b', o', e', _, hc⟩ := hc
  rw [e] at e'
  injection e' with e'
  injection e' with e1 e2
  injection e with e
  injection e with e3 e4
  subst e1 e2 e4
  have := hS.cell 0
  rw [hc] at this
  cases this
theorem twelve {w : World} {g n z db dc wb wc bb bc : Nat} {off : Bool} {offs acts : Int} {cuts : Bool} {left whole mask : Int} (h : Blk w g 33 (rc n z db dc wb wc bb bc off offs acts cuts left whole mask)) :
    w.cell? ⟨g, 0, none⟩ = some (.int .i64 n) ∧ w.cell? ⟨g, 1, none⟩ = some (.int .i64 z) ∧ w.cell? ⟨g, 2, none⟩ = some (.slice (some ⟨db, 0, none⟩) n dc) ∧ w.cell? ⟨g, 3, none⟩ = some (.slice (some ⟨wb, 0, none⟩) n wc) ∧ w.cell? ⟨g, 4, none⟩ = some (.slice (some ⟨bb, 0, none⟩) n bc) ∧ w.cell? ⟨g, 5, none⟩ = some (.bool off) ∧
    w.cell? ⟨g, 6, none⟩ = some (.int .i64 offs) ∧ w.cell? ⟨g, 7, none⟩ = some (.int .i64 acts) ∧ w.cell? ⟨g, 8, none⟩ = some (.bool cuts) ∧ w.cell? ⟨g, 9, none⟩ = some (.int .i64 left) ∧ w.cell? ⟨g, 10, none⟩ = some (.int .i64 whole) ∧ w.cell? ⟨g, 11, none⟩ = some (.int .u8 mask) :=
  ⟨h.cell 0, h.cell 1, h.cell 2, h.cell 3, h.cell 4, h.cell 5, h.cell 6, h.cell 7, h.cell 8, h.cell 9, h.cell 10, h.cell 11⟩
theorem RefP.refit {w : World} {lo n z K : Nat} {s : St} {db wb bb : Nat} {cuts : Bool} {left whole mask : Int} {L LC : Nat → Nat} (h : RefP w lo n z K s db wb bb cuts left whole mask L LC) {K' : Nat} (hf : Fits n z K' s) (hb : K' ≤ 1000000) : RefP w lo n z K' s db wb bb cuts left whole mask L LC :=
  ⟨h.data, h.wear, h.bad, h.rows, h.cut, hf, h.geo, h.lw, hb⟩
/-- The device behind the act, in memory. -/
theorem acted {w w3 : World} {lo n z K K' : Nat} {s s' : St} {db wb bb : Nat} {cuts cuts' : Bool} {left left' whole mask : Int} {L LC : Nat → Nat} {i g1 cap1 g2 : Nat} {new : List Int} (hP : RefP w lo n z K s db wb bb cuts left whole mask L LC) (hi : i < n) (hlo : lo ≤ w.heap.size)
    (hb : Below w.heap.size w w3) (ho : Ob w3 (w.heap.size + 1 + 1) 5 g1 z cap1 new) (hr : Row w3 lo g2 38 n (fun j => if j = i then .slice (some ⟨g1, 0, none⟩) z cap1 else .slice (some ⟨L j, 0, none⟩) z (LC j)))
    (e1 : s'.data = s.data.set i new) (e2 : s'.wear = s.wear) (e3 : s'.bad = s.bad) (hc : (s'.cut = none ∧ cuts' = false) ∨ (s'.cut = some (left', whole, mask) ∧ cuts' = true)) (hl : -9223372036854775808 ≤ left' ∧ left' ≤ 9223372036854775807) (hf : Fits n z K' s') (hK : K' ≤ 1000000) :
    RefP w3 lo n z K' s' g2 wb bb cuts' left' whole mask (fun j => if j = i then g1 else L j) (fun j => if j = i then cap1 else LC j) := by
  have h3 := hP.below hb
  refine ⟨hr.congr (fun j hj => ?_), by rw [e2]; exact h3.wear, by rw [e3]; exact h3.bad, fun j hj => ?_, hc, hf, hP.geo, ⟨hP.lw.1, hP.lw.2.1, hl.1, hl.2, hP.lw.2.2.2.2⟩, hK⟩
  · by_cases e : j = i <;> simp [e]
  · unfold St.row
    rw [e1, row_set _ _ _ _ (by rw [hP.fits.dl]; exact hi)]
    by_cases e : j = i
    · simp only [e, if_true]
      have := ho.place
      exact ⟨ho.bs, ⟨by omega, (own_cap ho.2.2).1, (own_cap ho.2.2).2⟩, this.2⟩
    · simp only [e, if_false]
      exact h3.rows j hj

section
variable {lo n z K : Nat} {s : St} {db wb bb : Nat} {cuts : Bool} {left whole mask : Int} {L LC : Nat → Nat}

set_option maxRecDepth 100000 in
set_option maxHeartbeats 2000000 in
theorem refAct_none (w : World) (db dc wb wc bb bc : Nat) (left whole mask : Int) (L LC : Nat → Nat) (hP : RefP w lo n z K s db wb bb false left whole mask L LC) (hr : n ≤ dc ∧ n ≤ wc ∧ n ≤ bc ∧ dc ≤ 9223372036854775807 ∧ wc ≤ 9223372036854775807 ∧ bc ≤ 9223372036854775807) (i : Nat) (hi : i < n) (off len cb : Nat) (A : Option Addr) (bs : List Int) (down : Bool) (hb : Bs w A len bs) (hlen : len ≤ 100000) (hfit : off + len ≤ z) (hlo : lo ≤ w.heap.size) (hK : K + 1 ≤ 1000000) :
    Calls Tryz.prog 30 #[refVal n z s db dc wb wc bb bc false left whole mask, .int .i64 i, .int .i64 off, .slice A len cb, .bool down] w
      fun e w' => ∃ v', e = .returned (.tuple #[.int .i64 0, v']) ∧ Ref w' lo n z (K + 1) { s with data := s.data.set i (seg down none off bs (s.row i)), cut := none, acts := s.acts + 1 } v' ∧ Below w.heap.size w w' := by
  have hg := hP.geo
  have hab := hP.fits.ab
  have hrow := hP.rows i hi
  have hdata := hP.data.cell hi
  have hmb := hP.lw
  have HP := Lib.hid hP
  have HR := Lib.hid hr
  have HB := Lib.hid hb
  have HROW0 := Lib.hid hrow.1
  have hdc : n ≤ dc := hr.1
  have hlz : 0 < z := hg.2.2.1
  clear hP hr hb hrow
  unfold refVal
  have hdl : db < w.heap.size := HP.out.data.lt
  have hdl1 : db < w.heap.size + 1 := by omega
  have hdl2 : db < w.heap.size + 1 + 1 := by omega
  go_enter Tryz.func30, Tryz.ntmps30
  go_wp2_with ((with_reducible refine pick (some 24) ?_); refine wpList_append_bytes rfl _ _ _ rfl (w.heap.size + 1 + 1) 5 Tryz.underlying38 info_u8 (w.heap.size + 1 + 1) 0 0 [] rfl ⟨rfl, (by simp), (boxed _ _ _ _ _).2.2.2⟩ (some ⟨L i, 0, none⟩) z (LC i) (s.row i) rfl (HROW0.out.below (boxed _ _ _ _ _).1) (fun e => by cases e) z (by omega) (s.row i) rfl (by omega) (by simp) ?_; intro g1 cap1 w1 ho1 hg1 hat1; have hst := boxed_grown hg1; have HB1 := Lib.hid hst.1; have S0 := Lib.hid hst.2.1; have S1 := Lib.hid hst.2.2; have HO := Lib.hid ho1; have hge : w.heap.size + 2 ≤ g1 := (by have := ho1.place; omega); have k7 : w1.cell? ⟨w.heap.size, 7, none⟩ = some (.int .i64 s.acts) := S0.out.cell 7; have k8 : w1.cell? ⟨w.heap.size, 8, none⟩ = some (.bool false) := S0.out.cell 8; have k9 : w1.cell? ⟨w.heap.size, 9, none⟩ = some (.int .i64 left) := S0.out.cell 9; have f7 := S0.out.frozen 7; have f9 := S0.out.frozen 9; clear hst ho1 hg1 hat1)
  have HA0 : Hid (AR w _ g1 z cap1 (rc n z db dc wb wc bb bc (!s.on) s.offs (s.acts + 1) false left whole mask) (s.row i)) := (AR.core ⟨S0.out, S1.out, HO.out, HB1.out⟩ 7 _)
  clear k7 k8 k9 f7 f9 S0 S1 HO HB1
  go_loopw [14, 15, 49] (fun _ _ q wr => ∃ j : Nat, j ≤ len ∧ q = .int .i64 j ∧ AR w wr g1 z cap1 (rc n z db dc wb wc bb bc (!s.on) s.offs (s.acts + 1) false left whole mask) (segTo down none off j bs (s.row i))) (fun _ _ q _ => len - (intOf q).toNat)
  case atStart => exact ⟨0, by omega, rfl, by rw [segTo_zero]; exact HA0.out⟩
  case round =>
    clear HA0
    obtain ⟨j, hj, rfl, hA⟩ := hrel
    by_cases hlt : j < len
    · have hrl := (HP.out.fits.row i hi).1
      have kc := hA.2.2.1.cell (off + j) (by omega)
      have kf := hA.2.2.1.frozen (off + j)
      rw [segTo_at _ _ _ _ _ _ (by omega)] at kc
      have hbd := HROW0.out.bd (off + j)
      have hbw : Bs wr A len bs := HB.out.below hA.2.2.2
      obtain ⟨b, o, rfl, hbl, hbc⟩ := hbw.2.2 j hlt
      have hbb := HB.out.bd j
      have HS := Lib.hid (segTo_succ down none off j bs (s.row i))
      have HAR := Lib.hid hA
      generalize hy : (s.row i).getD (off + j) 0 = y at *
      generalize hx : bs.getD j 0 = x at *
      clear hA hbw hy hx
      have v1 : IntKind.i64.wrap ((off : Int) + (j : Int)) = (off : Int) + (j : Int) := IntWalk.i64_in _ (by omega)
      have v2 : (0 : Int) ≤ (off : Int) + (j : Int) := by omega
      have v3 : (off : Int) + (j : Int) < (z : Int) := by omega
      have v4 : (0 : Int) ≤ (j : Int) := by omega
      have v5 : (j : Int) < (len : Int) := by omega
      have v6 : ((off : Int) + (j : Int)).toNat = off + j := by omega
      go_wp2_with fail
      go_still_tail 18, (by kernel_rfl)
      still_call ((bits_calls y x 255 down wr.drew hbd.1 hbd.2 hbb.1 hbb.2 (by omega) (by omega)).mono fun _ _ h => ⟨h.1, h.2.symm⟩)
      repeat still_step
      refine wpStill_nil ?_
      change wpList _ _ _ _ _ wr.drew
      clear v1 v2 v3 v4 v5 v6
      go_wp2_with fail
      go_roundw
      case rel =>
        refine ⟨j + 1, by omega, by go_num, ?_⟩
        have hv := bt_bd y x 255 down
        have h3 := AR.drew (HAR.out.set_ (off + j) (bt y x 255 down) hv.1 hv.2)
        have hs := HS.out
        rw [show mk none j = 255 from rfl] at hs
        rw [hs] at h3
        exact h3
      case measure => simp [intOf]; omega
    · obtain rfl : j = len := by omega
      have HAR := Lib.hid hA
      have k2 : wr.cell? ⟨w.heap.size, 2, none⟩ = some (.slice (some ⟨db, 0, none⟩) n dc) := hA.1.cell 2
      have l2 : w.heap.size < wr.heap.size := hA.1.lt
      have hsz := hA.2.2.2.size
      clear hA
      have HPW : Hid (RefP (wr.alloc (.cells #[] 38)) lo n z K s db wb bb false left whole mask L LC) := HP.out.below (HAR.out.2.2.2.alloc hsz _)
      have HOW := Lib.hid (World.ownsRow_lit (base := wr.heap.size) (e := 38) (size := 1) wr #[] 0 (Nat.le_refl _) (by decide) rfl)
      go_wp2_with (first
        | ((with_reducible refine pick (some 91) ?_); refine wpList_append_row rfl _ _ _ rfl wr.heap.size 38 Tryz.underlying29 _ 24 info_bytes rfl (by omega) wr.heap.size rfl HOW.out lo db n dc _ rfl HPW.out.data (fun _ => rfl) hg.1 (by omega) (by simp) ?_; intro g2 cap2 w2 hrow2 hc1 hc2 hg2 hat2; have HA2 := Lib.hid (AR.grown HAR.out hg2); have HR2 := Lib.hid hrow2; have q2 : w2.cell? ⟨w.heap.size, 2, none⟩ = some (.slice (some ⟨db, 0, none⟩) n dc) := HA2.out.1.cell 2; have f2 := HA2.out.1.frozen 2; have kg := hrow2.cell hi; have kgf := hrow2.fr i; have hge2 : wr.heap.size ≤ g2 := hrow2.1; have n1 : ¬ g2 = w.heap.size := (by omega); have n2 : ¬ w.heap.size = g2 := (by omega); clear hrow2 hg2 hat2)
        | fail)
      have hgp := HAR.out.2.2.1.place
      have hA3 : AR w ((w2.setCell ⟨g2, i, none⟩ (.slice (some ⟨g1, 0, none⟩) z cap1)).setCell ⟨w.heap.size, 2, none⟩ (.slice (some ⟨g2, 0, none⟩) n cap2)) g1 z cap1 (rc n z g2 cap2 wb wc bb bc (!s.on) s.offs (s.acts + 1) false left whole mask) (segTo down none off j bs (s.row i)) :=
        (HA2.out.far (g := g2) (by omega) (by omega) i _).core 2 _
      have hR3 : Row ((w2.setCell ⟨g2, i, none⟩ (.slice (some ⟨g1, 0, none⟩) z cap1)).setCell ⟨w.heap.size, 2, none⟩ (.slice (some ⟨g2, 0, none⟩) n cap2)) wr.heap.size g2 38 n (fun j => if j = i then .slice (some ⟨g1, 0, none⟩) z cap1 else .slice (some ⟨L j, 0, none⟩) z (LC j)) :=
        (HR2.out.set_ i _ hi).of_eq (Below.heap_setCell _ _ _ _ n1)
      have hbl := HB.out.len
      have eseg : segTo down none off j bs (s.row i) = seg down none off bs (s.row i) := by
        have := segTo_all down none off bs (s.row i)
        rwa [hbl] at this
      rw [eseg] at hA3
      clear eseg hbl
      have HA3 := Lib.hid hA3
      have HR3 := Lib.hid hR3
      clear hA3 hR3 q2 f2 kg kgf
      have hlx : lo ≤ wr.heap.size := by omega
      generalize (w2.setCell ⟨g2, i, none⟩ (.slice (some ⟨g1, 0, none⟩) z cap1)).setCell ⟨w.heap.size, 2, none⟩ (.slice (some ⟨g2, 0, none⟩) n cap2) = W3 at *
      obtain ⟨t0, t1, t2, t3, t4, t5, t6, t7, t8, t9, t10, t11⟩ := twelve HA3.out.1
      go_still_tail 2, (by kernel_rfl)
      change wpList _ _ _ _ _ W3.drew
      clear t0 t1 t2 t3 t4 t5 t6 t7 t8 t9 t10 t11
      go_wp2_with ((with_reducible refine pick none ?_); refine wpList_store_blk rfl 33 _ _ rfl (w.heap.size + 1) (rc n z g2 cap2 wb wc bb bc (!s.on) s.offs (s.acts + 1) false left whole mask) rfl rfl 33 zeroRef (show Blk W3.drew _ _ _ from HA3.out.2.1) info_ref rfl (rc_one _ _ _ _ _ _ _ _ _ _ _ _ _ _ _) ?_; intro w4 hb4 hg4)
      have hbw4 : Below w.heap.size w w4 := HA3.out.2.2.2.drew.trans (hg4.below HA3.out.2.2.2.size (fun k hk => by omega))
      have hf4 : Fits n z (K + 1) { s with data := s.data.set i (seg down none off bs (s.row i)), cut := none, acts := s.acts + 1 } := HP.out.fits.done i hi down none off bs s.on (none) s.offs (fun _ _ _ e => by cases e) ⟨HP.out.fits.ob.1, by have := HP.out.fits.ob.2; omega⟩
      have hP4 := acted (s' := { s with data := s.data.set i (seg down none off bs (s.row i)), cut := none, acts := s.acts + 1 }) (cuts' := false) (left' := left) (K' := K + 1) HP.out hi hlo hbw4 ((show Ob W3.drew _ _ _ _ _ _ from HA3.out.2.2.1).chg hg4 (by omega)) ((HR3.out.of_eq (w' := w4) (hg4.block g2 HR3.out.lt (by omega))).base hlx) rfl rfl rfl (.inl ⟨rfl, rfl⟩) (by omega) hf4 (by omega)
      refine bodyPost_ret (v := .tuple #[.int .i64 0, .agg (rc n z g2 cap2 wb wc bb bc (!s.on) s.offs (s.acts + 1) false left whole mask)]) ?_ rfl ⟨_, rfl, Ref.of rfl hP4 ⟨hc1, HR.out.2.1, HR.out.2.2.1, hc2, HR.out.2.2.2.2⟩, hbw4⟩
      exact results_tmp_row (fn := Tryz.f30) rfl _ _ (w.heap.size + 1) 33 _ (0, 0) _ rfl hb4 Tryz.underlying33 rfl info_ref

set_option maxRecDepth 100000 in
set_option maxHeartbeats 2000000 in
theorem refAct_more (w : World) (db dc wb wc bb bc : Nat) (left whole mask : Int) (L LC : Nat → Nat) (hP : RefP w lo n z K s db wb bb true left whole mask L LC) (hr : n ≤ dc ∧ n ≤ wc ∧ n ≤ bc ∧ dc ≤ 9223372036854775807 ∧ wc ≤ 9223372036854775807 ∧ bc ≤ 9223372036854775807) (i : Nat) (hi : i < n) (off len cb : Nat) (A : Option Addr) (bs : List Int) (down : Bool) (hb : Bs w A len bs) (hlen : len ≤ 100000) (hfit : off + len ≤ z) (hlo : lo ≤ w.heap.size) (hK : K + 1 ≤ 1000000) (hl0 : 0 < left) :
    Calls Tryz.prog 30 #[refVal n z s db dc wb wc bb bc true left whole mask, .int .i64 i, .int .i64 off, .slice A len cb, .bool down] w
      fun e w' => ∃ v', e = .returned (.tuple #[.int .i64 0, v']) ∧ Ref w' lo n z (K + 1) { s with data := s.data.set i (seg down none off bs (s.row i)), cut := some (left - 1, whole, mask), acts := s.acts + 1 } v' ∧ Below w.heap.size w w' := by
  have hg := hP.geo
  have hab := hP.fits.ab
  have hrow := hP.rows i hi
  have hdata := hP.data.cell hi
  have hmb := hP.lw
  have HP := Lib.hid hP
  have HR := Lib.hid hr
  have HB := Lib.hid hb
  have HROW0 := Lib.hid hrow.1
  have hl1 : (left == 0) = false := beq_eq_false_iff_ne.2 (by omega)
  have hl2 : decide (0 < left) = true := by simpa using hl0
  have hdc : n ≤ dc := hr.1
  have HWB : Hid (0 ≤ whole ∧ True) := ⟨by rcases HP.out.cut with ⟨_, h⟩ | ⟨h, _⟩; (cases h); exact (HP.out.fits.cb _ _ _ h).2.2.1, trivial⟩
  have hlz : 0 < z := hg.2.2.1
  clear hP hr hb hrow
  unfold refVal
  have hdl : db < w.heap.size := HP.out.data.lt
  have hdl1 : db < w.heap.size + 1 := by omega
  have hdl2 : db < w.heap.size + 1 + 1 := by omega
  go_enter Tryz.func30, Tryz.ntmps30
  go_wp2_with ((with_reducible refine pick (some 24) ?_); refine wpList_append_bytes rfl _ _ _ rfl (w.heap.size + 1 + 1) 5 Tryz.underlying38 info_u8 (w.heap.size + 1 + 1) 0 0 [] rfl ⟨rfl, (by simp), (boxed _ _ _ _ _).2.2.2⟩ (some ⟨L i, 0, none⟩) z (LC i) (s.row i) rfl (HROW0.out.below (boxed _ _ _ _ _).1) (fun e => by cases e) z (by omega) (s.row i) rfl (by omega) (by simp) ?_; intro g1 cap1 w1 ho1 hg1 hat1; have hst := boxed_grown hg1; have HB1 := Lib.hid hst.1; have S0 := Lib.hid hst.2.1; have S1 := Lib.hid hst.2.2; have HO := Lib.hid ho1; have hge : w.heap.size + 2 ≤ g1 := (by have := ho1.place; omega); have k7 : w1.cell? ⟨w.heap.size, 7, none⟩ = some (.int .i64 s.acts) := S0.out.cell 7; have k8 : w1.cell? ⟨w.heap.size, 8, none⟩ = some (.bool true) := S0.out.cell 8; have k9 : w1.cell? ⟨w.heap.size, 9, none⟩ = some (.int .i64 left) := S0.out.cell 9; have f7 := S0.out.frozen 7; have f9 := S0.out.frozen 9; clear hst ho1 hg1 hat1)
  have HA0 : Hid (AR w _ g1 z cap1 (rc n z db dc wb wc bb bc (!s.on) s.offs (s.acts + 1) true (left - 1) whole mask) (s.row i)) := (AR.core (AR.core ⟨S0.out, S1.out, HO.out, HB1.out⟩ 7 _) 9 _)
  clear k7 k8 k9 f7 f9 S0 S1 HO HB1
  go_loopw [14, 15, 49] (fun _ _ q wr => ∃ j : Nat, j ≤ len ∧ q = .int .i64 j ∧ AR w wr g1 z cap1 (rc n z db dc wb wc bb bc (!s.on) s.offs (s.acts + 1) true (left - 1) whole mask) (segTo down none off j bs (s.row i))) (fun _ _ q _ => len - (intOf q).toNat)
  case atStart => exact ⟨0, by omega, rfl, by rw [segTo_zero]; exact HA0.out⟩
  case round =>
    clear HA0
    obtain ⟨j, hj, rfl, hA⟩ := hrel
    by_cases hlt : j < len
    · have hrl := (HP.out.fits.row i hi).1
      have kc := hA.2.2.1.cell (off + j) (by omega)
      have kf := hA.2.2.1.frozen (off + j)
      rw [segTo_at _ _ _ _ _ _ (by omega)] at kc
      have hbd := HROW0.out.bd (off + j)
      have hbw : Bs wr A len bs := HB.out.below hA.2.2.2
      obtain ⟨b, o, rfl, hbl, hbc⟩ := hbw.2.2 j hlt
      have hbb := HB.out.bd j
      have HS := Lib.hid (segTo_succ down none off j bs (s.row i))
      have HAR := Lib.hid hA
      generalize hy : (s.row i).getD (off + j) 0 = y at *
      generalize hx : bs.getD j 0 = x at *
      clear hA hbw hy hx
      have v1 : IntKind.i64.wrap ((off : Int) + (j : Int)) = (off : Int) + (j : Int) := IntWalk.i64_in _ (by omega)
      have v2 : (0 : Int) ≤ (off : Int) + (j : Int) := by omega
      have v3 : (off : Int) + (j : Int) < (z : Int) := by omega
      have v4 : (0 : Int) ≤ (j : Int) := by omega
      have v5 : (j : Int) < (len : Int) := by omega
      have v6 : ((off : Int) + (j : Int)).toNat = off + j := by omega
      go_wp2_with fail
      go_still_tail 18, (by kernel_rfl)
      still_call ((bits_calls y x 255 down wr.drew hbd.1 hbd.2 hbb.1 hbb.2 (by omega) (by omega)).mono fun _ _ h => ⟨h.1, h.2.symm⟩)
      repeat still_step
      refine wpStill_nil ?_
      change wpList _ _ _ _ _ wr.drew
      clear v1 v2 v3 v4 v5 v6
      go_wp2_with fail
      go_roundw
      case rel =>
        refine ⟨j + 1, by omega, by go_num, ?_⟩
        have hv := bt_bd y x 255 down
        have h3 := AR.drew (HAR.out.set_ (off + j) (bt y x 255 down) hv.1 hv.2)
        have hs := HS.out
        rw [show mk none j = 255 from rfl] at hs
        rw [hs] at h3
        exact h3
      case measure => simp [intOf]; omega
    · obtain rfl : j = len := by omega
      have HAR := Lib.hid hA
      have k2 : wr.cell? ⟨w.heap.size, 2, none⟩ = some (.slice (some ⟨db, 0, none⟩) n dc) := hA.1.cell 2
      have l2 : w.heap.size < wr.heap.size := hA.1.lt
      have hsz := hA.2.2.2.size
      clear hA
      have HPW : Hid (RefP (wr.alloc (.cells #[] 38)) lo n z K s db wb bb true left whole mask L LC) := HP.out.below (HAR.out.2.2.2.alloc hsz _)
      have HOW := Lib.hid (World.ownsRow_lit (base := wr.heap.size) (e := 38) (size := 1) wr #[] 0 (Nat.le_refl _) (by decide) rfl)
      go_wp2_with (first
        | ((with_reducible refine pick (some 91) ?_); refine wpList_append_row rfl _ _ _ rfl wr.heap.size 38 Tryz.underlying29 _ 24 info_bytes rfl (by omega) wr.heap.size rfl HOW.out lo db n dc _ rfl HPW.out.data (fun _ => rfl) hg.1 (by omega) (by simp) ?_; intro g2 cap2 w2 hrow2 hc1 hc2 hg2 hat2; have HA2 := Lib.hid (AR.grown HAR.out hg2); have HR2 := Lib.hid hrow2; have q2 : w2.cell? ⟨w.heap.size, 2, none⟩ = some (.slice (some ⟨db, 0, none⟩) n dc) := HA2.out.1.cell 2; have f2 := HA2.out.1.frozen 2; have kg := hrow2.cell hi; have kgf := hrow2.fr i; have hge2 : wr.heap.size ≤ g2 := hrow2.1; have n1 : ¬ g2 = w.heap.size := (by omega); have n2 : ¬ w.heap.size = g2 := (by omega); clear hrow2 hg2 hat2)
        | fail)
      have hgp := HAR.out.2.2.1.place
      have hA3 : AR w ((w2.setCell ⟨g2, i, none⟩ (.slice (some ⟨g1, 0, none⟩) z cap1)).setCell ⟨w.heap.size, 2, none⟩ (.slice (some ⟨g2, 0, none⟩) n cap2)) g1 z cap1 (rc n z g2 cap2 wb wc bb bc (!s.on) s.offs (s.acts + 1) true (left - 1) whole mask) (segTo down none off j bs (s.row i)) :=
        (HA2.out.far (g := g2) (by omega) (by omega) i _).core 2 _
      have hR3 : Row ((w2.setCell ⟨g2, i, none⟩ (.slice (some ⟨g1, 0, none⟩) z cap1)).setCell ⟨w.heap.size, 2, none⟩ (.slice (some ⟨g2, 0, none⟩) n cap2)) wr.heap.size g2 38 n (fun j => if j = i then .slice (some ⟨g1, 0, none⟩) z cap1 else .slice (some ⟨L j, 0, none⟩) z (LC j)) :=
        (HR2.out.set_ i _ hi).of_eq (Below.heap_setCell _ _ _ _ n1)
      have hbl := HB.out.len
      have eseg : segTo down none off j bs (s.row i) = seg down none off bs (s.row i) := by
        have := segTo_all down none off bs (s.row i)
        rwa [hbl] at this
      rw [eseg] at hA3
      clear eseg hbl
      have HA3 := Lib.hid hA3
      have HR3 := Lib.hid hR3
      clear hA3 hR3 q2 f2 kg kgf
      have hlx : lo ≤ wr.heap.size := by omega
      generalize (w2.setCell ⟨g2, i, none⟩ (.slice (some ⟨g1, 0, none⟩) z cap1)).setCell ⟨w.heap.size, 2, none⟩ (.slice (some ⟨g2, 0, none⟩) n cap2) = W3 at *
      obtain ⟨t0, t1, t2, t3, t4, t5, t6, t7, t8, t9, t10, t11⟩ := twelve HA3.out.1
      go_still_tail 2, (by kernel_rfl)
      change wpList _ _ _ _ _ W3.drew
      clear t0 t1 t2 t3 t4 t5 t6 t7 t8 t9 t10 t11
      go_wp2_with ((with_reducible refine pick none ?_); refine wpList_store_blk rfl 33 _ _ rfl (w.heap.size + 1) (rc n z g2 cap2 wb wc bb bc (!s.on) s.offs (s.acts + 1) true (left - 1) whole mask) rfl rfl 33 zeroRef (show Blk W3.drew _ _ _ from HA3.out.2.1) info_ref rfl (rc_one _ _ _ _ _ _ _ _ _ _ _ _ _ _ _) ?_; intro w4 hb4 hg4)
      have hbw4 : Below w.heap.size w w4 := HA3.out.2.2.2.drew.trans (hg4.below HA3.out.2.2.2.size (fun k hk => by omega))
      have hf4 : Fits n z (K + 1) { s with data := s.data.set i (seg down none off bs (s.row i)), cut := some (left - 1, whole, mask), acts := s.acts + 1 } := HP.out.fits.done i hi down none off bs s.on (some (left - 1, whole, mask)) s.offs (fun _ _ _ e => by injection e with e; injection e with e1 e2; injection e2 with e2 e3; subst e1; subst e2; subst e3; exact ⟨by omega, by omega, HWB.out.1, by omega, by omega, by omega⟩) ⟨HP.out.fits.ob.1, by have := HP.out.fits.ob.2; omega⟩
      have hP4 := acted (s' := { s with data := s.data.set i (seg down none off bs (s.row i)), cut := some (left - 1, whole, mask), acts := s.acts + 1 }) (cuts' := true) (left' := (left - 1)) (K' := K + 1) HP.out hi hlo hbw4 ((show Ob W3.drew _ _ _ _ _ _ from HA3.out.2.2.1).chg hg4 (by omega)) ((HR3.out.of_eq (w' := w4) (hg4.block g2 HR3.out.lt (by omega))).base hlx) rfl rfl rfl (.inr ⟨rfl, rfl⟩) (by omega) hf4 (by omega)
      refine bodyPost_ret (v := .tuple #[.int .i64 0, .agg (rc n z g2 cap2 wb wc bb bc (!s.on) s.offs (s.acts + 1) true (left - 1) whole mask)]) ?_ rfl ⟨_, rfl, Ref.of rfl hP4 ⟨hc1, HR.out.2.1, HR.out.2.2.1, hc2, HR.out.2.2.2.2⟩, hbw4⟩
      exact results_tmp_row (fn := Tryz.f30) rfl _ _ (w.heap.size + 1) 33 _ (0, 0) _ rfl hb4 Tryz.underlying33 rfl info_ref

set_option maxRecDepth 100000 in
set_option maxHeartbeats 2000000 in
theorem refAct_cut (w : World) (db dc wb wc bb bc : Nat) (left whole mask : Int) (L LC : Nat → Nat) (hP : RefP w lo n z K s db wb bb true 0 whole mask L LC) (hr : n ≤ dc ∧ n ≤ wc ∧ n ≤ bc ∧ dc ≤ 9223372036854775807 ∧ wc ≤ 9223372036854775807 ∧ bc ≤ 9223372036854775807) (i : Nat) (hi : i < n) (off len cb : Nat) (A : Option Addr) (bs : List Int) (down : Bool) (hb : Bs w A len bs) (hlen : len ≤ 100000) (hfit : off + len ≤ z) (hlo : lo ≤ w.heap.size) (hK : K + 2 ≤ 1000000) (hon : s.on = true) :
    Calls Tryz.prog 30 #[refVal n z s db dc wb wc bb bc true 0 whole mask, .int .i64 i, .int .i64 off, .slice A len cb, .bool down] w
      fun e w' => ∃ v', e = .returned (.tuple #[.int .i64 7, v']) ∧ Ref w' lo n z (K + 1) { s with data := s.data.set i (seg down (some (whole, mask)) off bs (s.row i)), on := false, cut := none, acts := s.acts + 1, offs := s.offs + 1 } v' ∧ Below w.heap.size w w' := by
  have hg := hP.geo
  have hab := hP.fits.ab
  have hrow := hP.rows i hi
  have hdata := hP.data.cell hi
  have hmb := hP.lw
  have HP := Lib.hid hP
  have HR := Lib.hid hr
  have HB := Lib.hid hb
  have HROW0 := Lib.hid hrow.1
  have HON := Lib.hid hon
  clear hon
  have hdc : n ≤ dc := hr.1
  have HWB : Hid (0 ≤ whole ∧ True) := ⟨by rcases HP.out.cut with ⟨_, h⟩ | ⟨h, _⟩; (cases h); exact (HP.out.fits.cb _ _ _ h).2.2.1, trivial⟩
  have hlz : 0 < z := hg.2.2.1
  clear hP hr hb hrow
  unfold refVal
  have hdl : db < w.heap.size := HP.out.data.lt
  have hdl1 : db < w.heap.size + 1 := by omega
  have hdl2 : db < w.heap.size + 1 + 1 := by omega
  go_enter Tryz.func30, Tryz.ntmps30
  go_wp2_with ((with_reducible refine pick (some 24) ?_); refine wpList_append_bytes rfl _ _ _ rfl (w.heap.size + 1 + 1) 5 Tryz.underlying38 info_u8 (w.heap.size + 1 + 1) 0 0 [] rfl ⟨rfl, (by simp), (boxed _ _ _ _ _).2.2.2⟩ (some ⟨L i, 0, none⟩) z (LC i) (s.row i) rfl (HROW0.out.below (boxed _ _ _ _ _).1) (fun e => by cases e) z (by omega) (s.row i) rfl (by omega) (by simp) ?_; intro g1 cap1 w1 ho1 hg1 hat1; have hst := boxed_grown hg1; have HB1 := Lib.hid hst.1; have S0 := Lib.hid hst.2.1; have S1 := Lib.hid hst.2.2; have HO := Lib.hid ho1; have hge : w.heap.size + 2 ≤ g1 := (by have := ho1.place; omega); have k7 : w1.cell? ⟨w.heap.size, 7, none⟩ = some (.int .i64 s.acts) := S0.out.cell 7; have k8 : w1.cell? ⟨w.heap.size, 8, none⟩ = some (.bool true) := S0.out.cell 8; have k9 : w1.cell? ⟨w.heap.size, 9, none⟩ = some (.int .i64 0) := S0.out.cell 9; have f7 := S0.out.frozen 7; have f9 := S0.out.frozen 9; clear hst ho1 hg1 hat1)
  have HA0 : Hid (AR w _ g1 z cap1 (rc n z db dc wb wc bb bc (!s.on) s.offs (s.acts + 1) true 0 whole mask) (s.row i)) := (AR.core ⟨S0.out, S1.out, HO.out, HB1.out⟩ 7 _)
  clear k7 k8 k9 f7 f9 S0 S1 HO HB1
  go_loopw [14, 15, 49] (fun _ _ q wr => ∃ j : Nat, j ≤ len ∧ q = .int .i64 j ∧ AR w wr g1 z cap1 (rc n z db dc wb wc bb bc (!s.on) s.offs (s.acts + 1) true 0 whole mask) (segTo down (some (whole, mask)) off j bs (s.row i))) (fun _ _ q _ => len - (intOf q).toNat)
  case atStart => exact ⟨0, by omega, rfl, by rw [segTo_zero]; exact HA0.out⟩
  case round =>
    clear HA0
    obtain ⟨j, hj, rfl, hA⟩ := hrel
    by_cases hlt : j < len
    · have hrl := (HP.out.fits.row i hi).1
      have kc := hA.2.2.1.cell (off + j) (by omega)
      have kf := hA.2.2.1.frozen (off + j)
      rw [segTo_at _ _ _ _ _ _ (by omega)] at kc
      have hbd := HROW0.out.bd (off + j)
      have hbw : Bs wr A len bs := HB.out.below hA.2.2.2
      obtain ⟨b, o, rfl, hbl, hbc⟩ := hbw.2.2 j hlt
      have hbb := HB.out.bd j
      have HS := Lib.hid (segTo_succ down (some (whole, mask)) off j bs (s.row i))
      have HAR := Lib.hid hA
      generalize hy : (s.row i).getD (off + j) 0 = y at *
      generalize hx : bs.getD j 0 = x at *
      clear hA hbw hy hx
      have v1 : IntKind.i64.wrap ((off : Int) + (j : Int)) = (off : Int) + (j : Int) := IntWalk.i64_in _ (by omega)
      have v2 : (0 : Int) ≤ (off : Int) + (j : Int) := by omega
      have v3 : (off : Int) + (j : Int) < (z : Int) := by omega
      have v4 : (0 : Int) ≤ (j : Int) := by omega
      have v5 : (j : Int) < (len : Int) := by omega
      have v6 : ((off : Int) + (j : Int)).toNat = off + j := by omega
      have k10 : wr.cell? ⟨w.heap.size, 10, none⟩ = some (.int .i64 whole) := HAR.out.1.cell 10
      have k11 : wr.cell? ⟨w.heap.size, 11, none⟩ = some (.int .u8 mask) := HAR.out.1.cell 11
      have hw3 : (j : Int) < whole ∨ (j : Int) = whole ∨ whole < (j : Int) := by omega
      rcases hw3 with hw3 | hw3 | hw3
      · have b1 : ((j : Int) == whole) = false := beq_eq_false_iff_ne.2 (by omega)
        have b2 : decide (whole < (j : Int)) = false := by simp; omega
        have HW3 := Lib.hid hw3
        clear hw3
        go_wp2_with fail
        go_still_tail 18, (by kernel_rfl)
        still_call ((bits_calls y x 255 down wr.drew hbd.1 hbd.2 hbb.1 hbb.2 (by omega) (by omega)).mono fun _ _ h => ⟨h.1, h.2.symm⟩)
        repeat still_step
        refine wpStill_nil ?_
        change wpList _ _ _ _ _ wr.drew
        clear v1 v2 v3 v4 v5 v6
        go_wp2_with fail
        go_roundw
        case rel =>
          refine ⟨j + 1, by omega, by go_num, ?_⟩
          have hv := bt_bd y x 255 down
          have h3 := AR.drew (HAR.out.set_ (off + j) (bt y x 255 down) hv.1 hv.2)
          have hs := HS.out
          rw [mk_lt HW3.out] at hs
          rw [hs] at h3
          exact h3
        case measure => simp [intOf]; omega
      · have b1 : ((j : Int) == whole) = true := beq_iff_eq.2 hw3
        have b2 : decide (whole < (j : Int)) = false := by simp; omega
        have HW3 := Lib.hid hw3
        clear hw3
        go_wp2_with fail
        go_still_tail 18, (by kernel_rfl)
        still_call ((bits_calls y x mask down wr.drew hbd.1 hbd.2 hbb.1 hbb.2 (by omega) (by omega)).mono fun _ _ h => ⟨h.1, h.2.symm⟩)
        repeat still_step
        refine wpStill_nil ?_
        change wpList _ _ _ _ _ wr.drew
        clear v1 v2 v3 v4 v5 v6
        go_wp2_with fail
        go_roundw
        case rel =>
          refine ⟨j + 1, by omega, by go_num, ?_⟩
          have hv := bt_bd y x mask down
          have h3 := AR.drew (HAR.out.set_ (off + j) (bt y x mask down) hv.1 hv.2)
          have hs := HS.out
          rw [mk_eq HW3.out] at hs
          rw [hs] at h3
          exact h3
        case measure => simp [intOf]; omega
      · have b1 : ((j : Int) == whole) = false := beq_eq_false_iff_ne.2 (by omega)
        have b2 : decide (whole < (j : Int)) = true := by simpa using hw3
        have HW3 := Lib.hid hw3
        clear hw3
        go_wp2_with fail
        go_still_tail 18, (by kernel_rfl)
        still_call ((bits_calls y x 0 down wr.drew hbd.1 hbd.2 hbb.1 hbb.2 (by omega) (by omega)).mono fun _ _ h => ⟨h.1, h.2.symm⟩)
        repeat still_step
        refine wpStill_nil ?_
        change wpList _ _ _ _ _ wr.drew
        clear v1 v2 v3 v4 v5 v6
        go_wp2_with fail
        go_roundw
        case rel =>
          refine ⟨j + 1, by omega, by go_num, ?_⟩
          have hv := bt_bd y x 0 down
          have h3 := AR.drew (HAR.out.set_ (off + j) (bt y x 0 down) hv.1 hv.2)
          have hs := HS.out
          rw [mk_gt HW3.out] at hs
          rw [hs] at h3
          exact h3
        case measure => simp [intOf]; omega
    · obtain rfl : j = len := by omega
      have HAR := Lib.hid hA
      have k2 : wr.cell? ⟨w.heap.size, 2, none⟩ = some (.slice (some ⟨db, 0, none⟩) n dc) := hA.1.cell 2
      have l2 : w.heap.size < wr.heap.size := hA.1.lt
      have hsz := hA.2.2.2.size
      clear hA
      have HPW : Hid (RefP (wr.alloc (.cells #[] 38)) lo n z K s db wb bb true 0 whole mask L LC) := HP.out.below (HAR.out.2.2.2.alloc hsz _)
      have HOW := Lib.hid (World.ownsRow_lit (base := wr.heap.size) (e := 38) (size := 1) wr #[] 0 (Nat.le_refl _) (by decide) rfl)
      go_wp2_with (first
        | ((with_reducible refine pick (some 91) ?_); refine wpList_append_row rfl _ _ _ rfl wr.heap.size 38 Tryz.underlying29 _ 24 info_bytes rfl (by omega) wr.heap.size rfl HOW.out lo db n dc _ rfl HPW.out.data (fun _ => rfl) hg.1 (by omega) (by simp) ?_; intro g2 cap2 w2 hrow2 hc1 hc2 hg2 hat2; have HA2 := Lib.hid (AR.grown HAR.out hg2); have HR2 := Lib.hid hrow2; have q2 : w2.cell? ⟨w.heap.size, 2, none⟩ = some (.slice (some ⟨db, 0, none⟩) n dc) := HA2.out.1.cell 2; have f2 := HA2.out.1.frozen 2; have kg := hrow2.cell hi; have kgf := hrow2.fr i; have hge2 : wr.heap.size ≤ g2 := hrow2.1; have n1 : ¬ g2 = w.heap.size := (by omega); have n2 : ¬ w.heap.size = g2 := (by omega); obtain ⟨t0, t1, t2, t3, t4, t5, t6, t7, t8, t9, t10, t11⟩ := twelve HA2.out.1; clear hrow2 hg2 hat2)
        | fail)
      have hgp := HAR.out.2.2.1.place
      have hA3 : AR w ((w2.setCell ⟨g2, i, none⟩ (.slice (some ⟨g1, 0, none⟩) z cap1)).setCell ⟨w.heap.size, 2, none⟩ (.slice (some ⟨g2, 0, none⟩) n cap2)) g1 z cap1 (rc n z g2 cap2 wb wc bb bc (!s.on) s.offs (s.acts + 1) true 0 whole mask) (segTo down (some (whole, mask)) off j bs (s.row i)) :=
        (HA2.out.far (g := g2) (by omega) (by omega) i _).core 2 _
      have hR3 : Row ((w2.setCell ⟨g2, i, none⟩ (.slice (some ⟨g1, 0, none⟩) z cap1)).setCell ⟨w.heap.size, 2, none⟩ (.slice (some ⟨g2, 0, none⟩) n cap2)) wr.heap.size g2 38 n (fun j => if j = i then .slice (some ⟨g1, 0, none⟩) z cap1 else .slice (some ⟨L j, 0, none⟩) z (LC j)) :=
        (HR2.out.set_ i _ hi).of_eq (Below.heap_setCell _ _ _ _ n1)
      have hbl := HB.out.len
      have eseg : segTo down (some (whole, mask)) off j bs (s.row i) = seg down (some (whole, mask)) off bs (s.row i) := by
        have := segTo_all down (some (whole, mask)) off bs (s.row i)
        rwa [hbl] at this
      rw [eseg] at hA3
      clear eseg hbl
      have HA3 := Lib.hid hA3
      have HR3 := Lib.hid hR3
      clear hA3 hR3 q2 f2 kg kgf
      have hlx : lo ≤ wr.heap.size := by omega
      generalize (w2.setCell ⟨g2, i, none⟩ (.slice (some ⟨g1, 0, none⟩) z cap1)).setCell ⟨w.heap.size, 2, none⟩ (.slice (some ⟨g2, 0, none⟩) n cap2) = W3 at *
      have hf3 : Fits n z (K + 1) { s with data := s.data.set i (seg down (some (whole, mask)) off bs (s.row i)), cut := some (0, whole, mask), acts := s.acts + 1 } := HP.out.fits.done i hi down (some (whole, mask)) off bs s.on (some (0, whole, mask)) s.offs (fun _ _ _ e => by injection e with e; injection e with e1 e2; injection e2 with e2 e3; subst e1; subst e2; subst e3; exact ⟨by omega, by omega, HWB.out.1, by omega, by omega, by omega⟩) ⟨HP.out.fits.ob.1, by have := HP.out.fits.ob.2; omega⟩
      have hP3 := acted (s' := { s with data := s.data.set i (seg down (some (whole, mask)) off bs (s.row i)), cut := some (0, whole, mask), acts := s.acts + 1 }) (cuts' := true) (left' := 0) (K' := K + 1) HP.out hi hlo HA3.out.2.2.2 HA3.out.2.2.1 (HR3.out.base hlx) rfl rfl rfl (.inr ⟨rfl, rfl⟩) (by omega) hf3 (by omega)
      have hT : Calls Tryz.prog 38 #[.agg (rc n z g2 cap2 wb wc bb bc (!s.on) s.offs (s.acts + 1) true 0 whole mask)] W3 (fun e w' => ∃ v', e = .returned v' ∧ Ref w' lo n z (K + 1 + 1) (St.turn { s with data := s.data.set i (seg down (some (whole, mask)) off bs (s.row i)), cut := some (0, whole, mask), acts := s.acts + 1 }) v' ∧ Below W3.heap.size W3 w') :=
        refTurn_calls W3 (refVal n z { s with data := s.data.set i (seg down (some (whole, mask)) off bs (s.row i)), cut := some (0, whole, mask), acts := s.acts + 1 } g2 cap2 wb wc bb bc true 0 whole mask) (Ref.of rfl hP3 ⟨hc1, HR.out.2.1, HR.out.2.2.1, hc2, HR.out.2.2.2.2⟩) (by omega)
      have e1 : St.turn { s with data := s.data.set i (seg down (some (whole, mask)) off bs (s.row i)), cut := some (0, whole, mask), acts := s.acts + 1 } = { s with data := s.data.set i (seg down (some (whole, mask)) off bs (s.row i)), on := false, cut := none, acts := s.acts + 1, offs := s.offs + 1 } := by
        unfold St.turn
        exact if_pos HON.out
      rw [e1] at hT
      have hf4 : Fits n z (K + 1) { s with data := s.data.set i (seg down (some (whole, mask)) off bs (s.row i)), on := false, cut := none, acts := s.acts + 1, offs := s.offs + 1 } := HP.out.fits.done i hi down (some (whole, mask)) off bs false none (s.offs + 1) (fun _ _ _ e => by cases e) ⟨by have := HP.out.fits.ob.1; omega, by have := HP.out.fits.ob.2; omega⟩
      have HT := Lib.hid hT
      have HF4 := Lib.hid hf4
      have S1 := Lib.hid HA3.out.2.1
      clear hT hf4 hf3 hP3 e1 t0 t1 t2 t3 t4 t5 t6 t7 t8 t9 t10 t11
      go_wp2_with (first
        | (go_at_call 38; refine (HT.out).mono ?_; rintro e w5 ⟨v', rfl, ⟨db', dc', wb', wc', bb', bc', cuts', left', whole', mask', L', LC', rfl, hP5, hr5⟩, hb5⟩; have S5 := Lib.hid (S1.out.of_eq (hb5.block _ S1.out.lt)); have HP5 := Lib.hid hP5; have HR5 := Lib.hid hr5; have HB5 := Lib.hid hb5; clear hP5 hr5 hb5)
        | ((with_reducible refine pick none ?_); refine wpList_store_blk rfl 33 _ _ rfl (w.heap.size + 1) (rc n z db' dc' wb' wc' bb' bc' (!false) (s.offs + 1) (s.acts + 1) cuts' left' whole' mask') rfl rfl 33 zeroRef S5.out info_ref rfl (rc_one _ _ _ _ _ _ _ _ _ _ _ _ _ _ _) ?_; intro w6 hb6 hg6))
      have hbw5 : Below w.heap.size w w5 := HA3.out.2.2.2.trans (HB5.out.mono HA3.out.2.2.2.size)
      have hbw6 : Below w.heap.size w w6 := hbw5.trans (hg6.below hbw5.size (fun k hk => by omega))
      have hP6 := RefP.refit (RefP.other HP5.out S5.out hg6) HF4.out (by omega)
      refine bodyPost_ret (v := .tuple #[.int .i64 7, .agg (rc n z db' dc' wb' wc' bb' bc' (!false) (s.offs + 1) (s.acts + 1) cuts' left' whole' mask')]) ?_ rfl ⟨_, rfl, Ref.of rfl hP6 HR5.out, hbw6⟩
      exact results_tmp_row (fn := Tryz.f30) rfl _ _ (w.heap.size + 1) 33 _ (0, 0) _ rfl hb6 Tryz.underlying33 rfl info_ref
end
end Go.Proofs.YthbafcihmcjchaaGreatDoor.NorU
