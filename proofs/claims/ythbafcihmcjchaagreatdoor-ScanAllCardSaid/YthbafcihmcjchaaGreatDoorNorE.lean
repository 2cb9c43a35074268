/- The contract of 'act': three cases of the cut, each for both closures. -/
import Derived.Test.YthbafcihmcjchaaGreatDoorNorA
namespace Go.Proofs.YthbafcihmcjchaaGreatDoor.NorE
set_option linter.unusedVariables false
set_option linter.unusedSimpArgs false
open Go.RowKit
open Go.Proofs.YthbafcihmcjchaaGreatDoor.Byte Go.Proofs.YthbafcihmcjchaaGreatDoor.NorD Go.Proofs.YthbafcihmcjchaaGreatDoor.NorW Go.Proofs.YthbafcihmcjchaaGreatDoor.NorM Go.Proofs.YthbafcihmcjchaaGreatDoor.NorA

-- PROG
theorem front_prog_any (lo g z cap off len c : Nat) (ys : List Int) (N m : Int) (bp : Nat) (A : Option Addr) (cb : Nat) (bs : List Int) (w : World)
    (ho : Ob w lo 5 g z cap ys) (hfit : off + len ≤ z) (hz : z ≤ 100000) (hc : len ≤ c) (hc2 : c ≤ 140737488355328) (hN : 0 ≤ N) (h2 : 0 ≤ m) (h3 : m ≤ 255)
    (hb : Bs w A len bs) (hA : ∀ b o, A = some ⟨b, o, none⟩ → b ≠ g) (hp : w.cell? ⟨bp, 0, none⟩ = some (.slice A len cb)) (hne : bp ≠ g) :
    Calls Tryz.prog 53 #[.slice (some ⟨g, off, none⟩) len c, .int .i64 N, .int .u8 m, .func (.func 24) #[] #[.pointer (some ⟨bp, 0, none⟩)]] w
      fun e w' => e = .returned (.tuple #[]) ∧ Ob w' lo 5 g z cap (seg true (some (N, m)) off bs ys) ∧ Chg (fun q => q = g) w w' := by
  by_cases h : (len : Int) ≤ N
  · have e := upTo_over true off N m bs ys ho.2.1 (by rw [hb.len]; exact h)
    rw [hb.len] at e
    rw [← e]
    exact front_prog lo g z cap off len c ys N len m bp A cb bs w ho hfit hz hc hc2 hN (by omega) h2 h3 hb hA hp hne rfl
  · obtain ⟨k, rfl⟩ := Int.eq_ofNat_of_zero_le hN
    exact front_prog_cut lo g z cap off len c ys k m bp A cb bs w ho hfit hz hc hc2 h2 h3 hb hA hp hne (by omega)
theorem front_prog_all (lo g z cap off len c : Nat) (ys : List Int) (bp : Nat) (A : Option Addr) (cb : Nat) (bs : List Int) (w : World)
    (ho : Ob w lo 5 g z cap ys) (hfit : off + len ≤ z) (hz : z ≤ 100000) (hc : len ≤ c) (hc2 : c ≤ 140737488355328)
    (hb : Bs w A len bs) (hA : ∀ b o, A = some ⟨b, o, none⟩ → b ≠ g) (hp : w.cell? ⟨bp, 0, none⟩ = some (.slice A len cb)) (hne : bp ≠ g) :
    Calls Tryz.prog 53 #[.slice (some ⟨g, off, none⟩) len c, .int .i64 len, .int .u8 0, .func (.func 24) #[] #[.pointer (some ⟨bp, 0, none⟩)]] w
      fun e w' => e = .returned (.tuple #[]) ∧ Ob w' lo 5 g z cap (seg true none off bs ys) ∧ Chg (fun q => q = g) w w' := by
  have e := upTo_all true off bs ys ho.2.1
  rw [hb.len] at e
  rw [← e]
  exact front_prog lo g z cap off len c ys len len 0 bp A cb bs w ho hfit hz hc hc2 (by omega) (by omega) (by omega) (by omega) hb hA hp hne rfl

set_option maxHeartbeats 1000000 in
theorem act_prog_none (lo g z cap off len c : Nat) (ys : List Int) (bp : Nat) (A : Option Addr) (cb : Nat) (bs : List Int) (w : World)
    (d n sb scap mb : Nat) (on : Bool) (left whole mask acts offs : Int) (hC : Core w d n z sb scap mb on false left whole mask acts offs) (hdg : d ≠ g) (ha0 : 0 ≤ acts) (ha1 : acts < 9223372036854775807)
    (ho : Ob w lo 5 g z cap ys) (hfit : off + len ≤ z) (hz : z ≤ 100000) (hc : len ≤ c) (hc2 : c ≤ 140737488355328)
    (hb : Bs w A len bs) (hA : ∀ b o, A = some ⟨b, o, none⟩ → b ≠ g ∧ b ≠ d) (hp : w.cell? ⟨bp, 0, none⟩ = some (.slice A len cb)) (hne : bp ≠ g) (hned : bp ≠ d) :
    Calls Tryz.prog 23 #[.pointer (some ⟨d, 0, none⟩), .slice (some ⟨g, off, none⟩) len c, .func (.func 24) #[] #[.pointer (some ⟨bp, 0, none⟩)]] w
      fun e w' => e = .returned (.int .i64 0) ∧ Core w' d n z sb scap mb on false left whole mask (acts + 1) offs ∧ Ob w' lo 5 g z cap (seg true none off bs ys) ∧ Chg (fun q => q = d ∨ q = g) w w' := by
  have c9 := hC.c9
  have c5 := hC.c5
  have f9 := hC.fr 9
  have hC1 := hC.set9 (acts + 1)
  have hg1 : Chg (fun q => q = d) w (w.setCell ⟨d, 9, none⟩ (.int .i64 (acts + 1))) := (Chg.refl _ w).own 9 _
  have ho1 := ho.chg hg1 (Ne.symm hdg)
  have hb1 := hb.chg hg1 (fun b o e => (hA b o e).2)
  have hp1 := hg1.cell (p := ⟨bp, 0, none⟩) hp hned
  have HF := Lib.hid (front_prog_all lo g z cap off len c ys bp A cb bs _ ho1 hfit hz hc hc2 hb1 (fun b o e => (hA b o e).1) hp1 hne)
  have HC := Lib.hid hC1
  have HG := Lib.hid hg1
  clear hC hC1 hg1 ho1 hb1 hp1 ho hb hA hp
  go_enter Tryz.func23, Tryz.ntmps23
  go_wp2_with (go_at_call 53; refine (HF.out).mono ?_; rintro e w1 ⟨rfl, ho2, hg2⟩)
  go_ret
  exact ⟨rfl, Blk.chg HC.out hg2 hdg, ho2, (HG.out.mono (fun k _ h => .inl h)).trans (hg2.mono (fun k _ h => .inr h))⟩

set_option maxHeartbeats 1000000 in
theorem act_prog_more (lo g z cap off len c : Nat) (ys : List Int) (bp : Nat) (A : Option Addr) (cb : Nat) (bs : List Int) (w : World)
    (d n sb scap mb : Nat) (on : Bool) (left whole mask acts offs : Int) (hC : Core w d n z sb scap mb on true left whole mask acts offs) (hdg : d ≠ g) (ha0 : 0 ≤ acts) (ha1 : acts < 9223372036854775807) (hl0 : 0 < left) (hl1 : left ≤ 9223372036854775807)
    (ho : Ob w lo 5 g z cap ys) (hfit : off + len ≤ z) (hz : z ≤ 100000) (hc : len ≤ c) (hc2 : c ≤ 140737488355328)
    (hb : Bs w A len bs) (hA : ∀ b o, A = some ⟨b, o, none⟩ → b ≠ g ∧ b ≠ d) (hp : w.cell? ⟨bp, 0, none⟩ = some (.slice A len cb)) (hne : bp ≠ g) (hned : bp ≠ d) :
    Calls Tryz.prog 23 #[.pointer (some ⟨d, 0, none⟩), .slice (some ⟨g, off, none⟩) len c, .func (.func 24) #[] #[.pointer (some ⟨bp, 0, none⟩)]] w
      fun e w' => e = .returned (.int .i64 0) ∧ Core w' d n z sb scap mb on true (left - 1) whole mask (acts + 1) offs ∧ Ob w' lo 5 g z cap (seg true none off bs ys) ∧ Chg (fun q => q = d ∨ q = g) w w' := by
  have c9 := hC.c9
  have c5 := hC.c5
  have c6 := hC.c6
  have f9 := hC.fr 9
  have f6 := hC.fr 6
  have hl : (left == 0) = false := beq_eq_false_iff_ne.2 (by omega)
  have hC1 := (hC.set9 (acts + 1)).set6 (left - 1)
  have hg1 : Chg (fun q => q = d) w ((w.setCell ⟨d, 9, none⟩ (.int .i64 (acts + 1))).setCell ⟨d, 6, none⟩ (.int .i64 (left - 1))) := ((Chg.refl _ w).own 9 _).own 6 _
  have ho1 := ho.chg hg1 (Ne.symm hdg)
  have hb1 := hb.chg hg1 (fun b o e => (hA b o e).2)
  have hp1 := hg1.cell (p := ⟨bp, 0, none⟩) hp hned
  have HF := Lib.hid (front_prog_all lo g z cap off len c ys bp A cb bs _ ho1 hfit hz hc hc2 hb1 (fun b o e => (hA b o e).1) hp1 hne)
  have HC := Lib.hid hC1
  have HG := Lib.hid hg1
  clear hC hC1 hg1 ho1 hb1 hp1 ho hb hA hp
  go_enter Tryz.func23, Tryz.ntmps23
  go_wp2_with (go_at_call 53; refine (HF.out).mono ?_; rintro e w1 ⟨rfl, ho2, hg2⟩)
  go_ret
  exact ⟨rfl, Blk.chg HC.out hg2 hdg, ho2, (HG.out.mono (fun k _ h => .inl h)).trans (hg2.mono (fun k _ h => .inr h))⟩

set_option maxRecDepth 100000 in
set_option maxHeartbeats 1000000 in
theorem act_prog_cut (lo g z cap off len c : Nat) (ys : List Int) (bp : Nat) (A : Option Addr) (cb : Nat) (bs : List Int) (w : World)
    (d n sb scap mb : Nat) (whole mask acts offs : Int) (hC : Core w d n z sb scap mb true true 0 whole mask acts offs) (hdg : d ≠ g) (ha0 : 0 ≤ acts) (ha1 : acts < 9223372036854775807) (hf0 : 0 ≤ offs) (hf1 : offs < 9223372036854775807) (hw0 : 0 ≤ whole) (hm0 : 0 ≤ mask) (hm1 : mask ≤ 255)
    (ho : Ob w lo 5 g z cap ys) (hfit : off + len ≤ z) (hz : z ≤ 100000) (hc : len ≤ c) (hc2 : c ≤ 140737488355328)
    (hb : Bs w A len bs) (hA : ∀ b o, A = some ⟨b, o, none⟩ → b ≠ g ∧ b ≠ d) (hp : w.cell? ⟨bp, 0, none⟩ = some (.slice A len cb)) (hne : bp ≠ g) (hned : bp ≠ d) :
    Calls Tryz.prog 23 #[.pointer (some ⟨d, 0, none⟩), .slice (some ⟨g, off, none⟩) len c, .func (.func 24) #[] #[.pointer (some ⟨bp, 0, none⟩)]] w
      fun e w' => e = .returned (.int .i64 7) ∧ Core w' d n z sb scap mb false false 0 0 0 (acts + 1) (offs + 1) ∧ Ob w' lo 5 g z cap (seg true (some (whole, mask)) off bs ys) ∧ Chg (fun q => q = d ∨ q = g) w w' := by
  have c9 := hC.c9
  have c5 := hC.c5
  have c6 := hC.c6
  have c7 := hC.c7
  have c8 := hC.c8
  have f9 := hC.fr 9
  have hC1 := hC.set9 (acts + 1)
  have hg1 : Chg (fun q => q = d) w (w.setCell ⟨d, 9, none⟩ (.int .i64 (acts + 1))) := (Chg.refl _ w).own 9 _
  have ho1 := ho.chg hg1 (Ne.symm hdg)
  have hb1 := hb.chg hg1 (fun b o e => (hA b o e).2)
  have hp1 := hg1.cell (p := ⟨bp, 0, none⟩) hp hned
  have HF := Lib.hid (front_prog_any lo g z cap off len c ys whole mask bp A cb bs (w.setCell ⟨d, 9, none⟩ (.int .i64 (acts + 1))).drew ho1 hfit hz hc hc2 hw0 hm0 hm1 hb1 (fun b o e => (hA b o e).1) hp1 hne)
  have HC := Lib.hid hC1
  have HG := Lib.hid hg1
  clear hC hC1 hg1 ho1 hb1 hp1 ho hb hA hp
  go_enter Tryz.func23, Tryz.ntmps23
  go_wp2_with fail
  generalize w.setCell ⟨d, 9, none⟩ (.int .i64 (acts + 1)) = wx at *
  have x7 := HC.out.c7
  have x8 := HC.out.c8
  go_still_tail 12, (by kernel_rfl)
  change wpList _ _ _ _ _ (World.drew _)
  go_wp2_with fail
  refine (HF.out).mono ?_
  rintro e w1 ⟨rfl, ho2, hg2⟩
  have HC2 : Hid (Core w1 d n z sb scap mb true true 0 whole mask (acts + 1) offs) := Blk.chg (w := wx.drew) HC.out hg2 hdg
  have HG2 := Lib.hid hg2
  clear hg2
  go_wp2_with (go_at_call 37; refine (off_calls _ _ HC2.out hf0 hf1).mono ?_; rintro e w2 ⟨rfl, hc3, hg3⟩)
  go_ret
  exact ⟨rfl, hc3, ho2.chg hg3 (Ne.symm hdg), ((HG.out.mono (fun k _ h => .inl h)).drew.trans (HG2.out.mono (fun k _ h => .inr h))).trans (hg3.mono (fun k _ h => .inl h))⟩
-- ERASE
theorem front_erase_any (lo g z cap off len c : Nat) (ys : List Int) (N m : Int) (bs : List Int) (w : World)
    (ho : Ob w lo 5 g z cap ys) (hfit : off + len ≤ z) (hz : z ≤ 100000) (hc : len ≤ c) (hc2 : c ≤ 140737488355328) (hN : 0 ≤ N) (h2 : 0 ≤ m) (h3 : m ≤ 255)
    (hb : bs.length = len) :
    Calls Tryz.prog 53 #[.slice (some ⟨g, off, none⟩) len c, .int .i64 N, .int .u8 m, .func (.func 59) #[] #[]] w
      fun e w' => e = .returned (.tuple #[]) ∧ Ob w' lo 5 g z cap (seg false (some (N, m)) off bs ys) ∧ Chg (fun q => q = g) w w' := by
  by_cases h : (len : Int) ≤ N
  · have e := upTo_over false off N m bs ys ho.2.1 (by rw [hb]; exact h)
    rw [hb] at e
    rw [← e]
    exact front_erase lo g z cap off len c ys N len m bs w ho hfit hz hc hc2 hN (by omega) h2 h3 hb rfl
  · obtain ⟨k, rfl⟩ := Int.eq_ofNat_of_zero_le hN
    exact front_erase_cut lo g z cap off len c ys k m bs w ho hfit hz hc hc2 h2 h3 hb (by omega)
theorem front_erase_all (lo g z cap off len c : Nat) (ys : List Int) (bs : List Int) (w : World)
    (ho : Ob w lo 5 g z cap ys) (hfit : off + len ≤ z) (hz : z ≤ 100000) (hc : len ≤ c) (hc2 : c ≤ 140737488355328)
    (hb : bs.length = len) :
    Calls Tryz.prog 53 #[.slice (some ⟨g, off, none⟩) len c, .int .i64 len, .int .u8 0, .func (.func 59) #[] #[]] w
      fun e w' => e = .returned (.tuple #[]) ∧ Ob w' lo 5 g z cap (seg false none off bs ys) ∧ Chg (fun q => q = g) w w' := by
  have e := upTo_all false off bs ys ho.2.1
  rw [hb] at e
  rw [← e]
  exact front_erase lo g z cap off len c ys len len 0 bs w ho hfit hz hc hc2 (by omega) (by omega) (by omega) (by omega) hb rfl

set_option maxHeartbeats 1000000 in
theorem act_erase_none (lo g z cap off len c : Nat) (ys : List Int) (bs : List Int) (w : World)
    (d n sb scap mb : Nat) (on : Bool) (left whole mask acts offs : Int) (hC : Core w d n z sb scap mb on false left whole mask acts offs) (hdg : d ≠ g) (ha0 : 0 ≤ acts) (ha1 : acts < 9223372036854775807)
    (ho : Ob w lo 5 g z cap ys) (hfit : off + len ≤ z) (hz : z ≤ 100000) (hc : len ≤ c) (hc2 : c ≤ 140737488355328)
    (hb : bs.length = len) :
    Calls Tryz.prog 23 #[.pointer (some ⟨d, 0, none⟩), .slice (some ⟨g, off, none⟩) len c, .func (.func 59) #[] #[]] w
      fun e w' => e = .returned (.int .i64 0) ∧ Core w' d n z sb scap mb on false left whole mask (acts + 1) offs ∧ Ob w' lo 5 g z cap (seg false none off bs ys) ∧ Chg (fun q => q = d ∨ q = g) w w' := by
  have c9 := hC.c9
  have c5 := hC.c5
  have f9 := hC.fr 9
  have hC1 := hC.set9 (acts + 1)
  have hg1 : Chg (fun q => q = d) w (w.setCell ⟨d, 9, none⟩ (.int .i64 (acts + 1))) := (Chg.refl _ w).own 9 _
  have ho1 := ho.chg hg1 (Ne.symm hdg)
  have HF := Lib.hid (front_erase_all lo g z cap off len c ys bs _ ho1 hfit hz hc hc2 hb)
  have HC := Lib.hid hC1
  have HG := Lib.hid hg1
  clear hC hC1 hg1 ho1 ho
  go_enter Tryz.func23, Tryz.ntmps23
  go_wp2_with (go_at_call 53; refine (HF.out).mono ?_; rintro e w1 ⟨rfl, ho2, hg2⟩)
  go_ret
  exact ⟨rfl, Blk.chg HC.out hg2 hdg, ho2, (HG.out.mono (fun k _ h => .inl h)).trans (hg2.mono (fun k _ h => .inr h))⟩

set_option maxHeartbeats 1000000 in
theorem act_erase_more (lo g z cap off len c : Nat) (ys : List Int) (bs : List Int) (w : World)
    (d n sb scap mb : Nat) (on : Bool) (left whole mask acts offs : Int) (hC : Core w d n z sb scap mb on true left whole mask acts offs) (hdg : d ≠ g) (ha0 : 0 ≤ acts) (ha1 : acts < 9223372036854775807) (hl0 : 0 < left) (hl1 : left ≤ 9223372036854775807)
    (ho : Ob w lo 5 g z cap ys) (hfit : off + len ≤ z) (hz : z ≤ 100000) (hc : len ≤ c) (hc2 : c ≤ 140737488355328)
    (hb : bs.length = len) :
    Calls Tryz.prog 23 #[.pointer (some ⟨d, 0, none⟩), .slice (some ⟨g, off, none⟩) len c, .func (.func 59) #[] #[]] w
      fun e w' => e = .returned (.int .i64 0) ∧ Core w' d n z sb scap mb on true (left - 1) whole mask (acts + 1) offs ∧ Ob w' lo 5 g z cap (seg false none off bs ys) ∧ Chg (fun q => q = d ∨ q = g) w w' := by
  have c9 := hC.c9
  have c5 := hC.c5
  have c6 := hC.c6
  have f9 := hC.fr 9
  have f6 := hC.fr 6
  have hl : (left == 0) = false := beq_eq_false_iff_ne.2 (by omega)
  have hC1 := (hC.set9 (acts + 1)).set6 (left - 1)
  have hg1 : Chg (fun q => q = d) w ((w.setCell ⟨d, 9, none⟩ (.int .i64 (acts + 1))).setCell ⟨d, 6, none⟩ (.int .i64 (left - 1))) := ((Chg.refl _ w).own 9 _).own 6 _
  have ho1 := ho.chg hg1 (Ne.symm hdg)
  have HF := Lib.hid (front_erase_all lo g z cap off len c ys bs _ ho1 hfit hz hc hc2 hb)
  have HC := Lib.hid hC1
  have HG := Lib.hid hg1
  clear hC hC1 hg1 ho1 ho
  go_enter Tryz.func23, Tryz.ntmps23
  go_wp2_with (go_at_call 53; refine (HF.out).mono ?_; rintro e w1 ⟨rfl, ho2, hg2⟩)
  go_ret
  exact ⟨rfl, Blk.chg HC.out hg2 hdg, ho2, (HG.out.mono (fun k _ h => .inl h)).trans (hg2.mono (fun k _ h => .inr h))⟩

set_option maxRecDepth 100000 in
set_option maxHeartbeats 1000000 in
theorem act_erase_cut (lo g z cap off len c : Nat) (ys : List Int) (bs : List Int) (w : World)
    (d n sb scap mb : Nat) (whole mask acts offs : Int) (hC : Core w d n z sb scap mb true true 0 whole mask acts offs) (hdg : d ≠ g) (ha0 : 0 ≤ acts) (ha1 : acts < 9223372036854775807) (hf0 : 0 ≤ offs) (hf1 : offs < 9223372036854775807) (hw0 : 0 ≤ whole) (hm0 : 0 ≤ mask) (hm1 : mask ≤ 255)
    (ho : Ob w lo 5 g z cap ys) (hfit : off + len ≤ z) (hz : z ≤ 100000) (hc : len ≤ c) (hc2 : c ≤ 140737488355328)
    (hb : bs.length = len) :
    Calls Tryz.prog 23 #[.pointer (some ⟨d, 0, none⟩), .slice (some ⟨g, off, none⟩) len c, .func (.func 59) #[] #[]] w
      fun e w' => e = .returned (.int .i64 7) ∧ Core w' d n z sb scap mb false false 0 0 0 (acts + 1) (offs + 1) ∧ Ob w' lo 5 g z cap (seg false (some (whole, mask)) off bs ys) ∧ Chg (fun q => q = d ∨ q = g) w w' := by
  have c9 := hC.c9
  have c5 := hC.c5
  have c6 := hC.c6
  have c7 := hC.c7
  have c8 := hC.c8
  have f9 := hC.fr 9
  have hC1 := hC.set9 (acts + 1)
  have hg1 : Chg (fun q => q = d) w (w.setCell ⟨d, 9, none⟩ (.int .i64 (acts + 1))) := (Chg.refl _ w).own 9 _
  have ho1 := ho.chg hg1 (Ne.symm hdg)
  have HF := Lib.hid (front_erase_any lo g z cap off len c ys whole mask bs (w.setCell ⟨d, 9, none⟩ (.int .i64 (acts + 1))).drew ho1 hfit hz hc hc2 hw0 hm0 hm1 hb)
  have HC := Lib.hid hC1
  have HG := Lib.hid hg1
  clear hC hC1 hg1 ho1 ho
  go_enter Tryz.func23, Tryz.ntmps23
  go_wp2_with fail
  generalize w.setCell ⟨d, 9, none⟩ (.int .i64 (acts + 1)) = wx at *
  have x7 := HC.out.c7
  have x8 := HC.out.c8
  go_still_tail 12, (by kernel_rfl)
  change wpList _ _ _ _ _ (World.drew _)
  go_wp2_with fail
  refine (HF.out).mono ?_
  rintro e w1 ⟨rfl, ho2, hg2⟩
  have HC2 : Hid (Core w1 d n z sb scap mb true true 0 whole mask (acts + 1) offs) := Blk.chg (w := wx.drew) HC.out hg2 hdg
  have HG2 := Lib.hid hg2
  clear hg2
  go_wp2_with (go_at_call 37; refine (off_calls _ _ HC2.out hf0 hf1).mono ?_; rintro e w2 ⟨rfl, hc3, hg3⟩)
  go_ret
  exact ⟨rfl, hc3, ho2.chg hg3 (Ne.symm hdg), ((HG.out.mono (fun k _ h => .inl h)).drew.trans (HG2.out.mono (fun k _ h => .inr h))).trans (hg3.mono (fun k _ h => .inl h))⟩
end Go.Proofs.YthbafcihmcjchaaGreatDoor.NorE
