/- Merged: RingBp RingGp RingGq ScanZ RingQ ScanP ScanB HeadS MayV HeadV HeadP ScanZo. -/
import Derived.WalkMore
import Derived.Test.YthbafcihmcjchaaGreatDoorRingB
import Derived.Test.YthbafcihmcjchaaGreatDoorRingE
import Derived.Test.YthbafcihmcjchaaGreatDoorPlaceH
import Derived.Test.YthbafcihmcjchaaGreatDoorRingX
import Derived.Deep.RegionLaw
import Derived.Deep.AppendLies
import Derived.Deep.RegionWith
import Derived.BigRegion
import Derived.IntWalk
import Derived.Test.YthbafcihmcjchaaGreatDoorRingN
import Derived.Test.YthbafcihmcjchaaGreatDoorRingG
import Derived.StillTailTactics
import Derived.Deep.Cut
import Derived.ScopeJumps
import Derived.Test.YthbafcihmcjchaaGreatDoorScanO
import Derived.Test.YthbafcihmcjchaaGreatDoorRecX
import Derived.Laws.StructEq
import Derived.Test.YthbafcihmcjchaaGreatDoorRingC
import Derived.Deep.QuietTactic
import Derived.BigQuiet
import Derived.Test.YthbafcihmcjchaaGreatDoorScanM
import Derived.Test.YthbafcihmcjchaaGreatDoorRingS
import Derived.Deep.RegionHeld3
import Derived.Deep.RegionHeld
import Derived.LoopTactic
import Derived.Test.YthbafcihmcjchaaGreatDoorHeadR
import Derived.Test.YthbafcihmcjchaaGreatDoorProg
import Derived.WalkSpells
import Derived.BigGuardPart
import Derived.Test.YthbafcihmcjchaaGreatDoorByte
import Derived.Test.YthbafcihmcjchaaGreatDoorMayM
import Derived.Laws.Tables
/- The contract of the project's Put of layer 7. -/
namespace Go.Proofs.YthbafcihmcjchaaGreatDoor.RingBp
set_option linter.unusedVariables false
set_option linter.unusedSimpArgs false
open Go.RowKit
open Go.Proofs.YthbafcihmcjchaaGreatDoor.Byte Go.Proofs.YthbafcihmcjchaaGreatDoor.PackM Go.Proofs.YthbafcihmcjchaaGreatDoor.PackW Go.Proofs.YthbafcihmcjchaaGreatDoor.PlaceM Go.Proofs.YthbafcihmcjchaaGreatDoor.PlaceV Go.Proofs.YthbafcihmcjchaaGreatDoor.PlaceH Go.Proofs.YthbafcihmcjchaaGreatDoor.RingM Go.Proofs.YthbafcihmcjchaaGreatDoor.RingC Go.Proofs.YthbafcihmcjchaaGreatDoor.RingE Go.Proofs.YthbafcihmcjchaaGreatDoor.RingX Go.Proofs.YthbafcihmcjchaaGreatDoor.Own

theorem bs_three (W : World) (g : Nat) (t : TypeId) (a b c : Int) (h : Blk W g #[.int .u8 a, .int .u8 b, .int .u8 c] t) (ha : 0 ≤ a ∧ a ≤ 255) (hb : 0 ≤ b ∧ b ≤ 255) (hc : 0 ≤ c ∧ c ≤ 255) : Bs W (some ⟨g, 0, none⟩) 3 [a, b, c] := by
  refine ⟨rfl, fun x hx => ?_, fun k hk => ⟨g, 0, rfl, h.lt, ?_⟩⟩
  · simp only [List.mem_cons, List.mem_nil_iff, or_false] at hx
    rcases hx with rfl | rfl | rfl <;> assumption
  · rw [Nat.zero_add, h.cell k]
    rcases (show k = 0 ∨ k = 1 ∨ k = 2 by omega) with rfl | rfl | rfl <;> rfl
end Go.Proofs.YthbafcihmcjchaaGreatDoor.RingBp

/- The project's reader of an item's writing: number, place, isGone, text. -/
namespace Go.Proofs.YthbafcihmcjchaaGreatDoor.RingGp
set_option linter.unusedVariables false
set_option linter.unusedSimpArgs false
open Go.RowKit
open Go.Proofs.YthbafcihmcjchaaGreatDoor.Byte Go.Proofs.YthbafcihmcjchaaGreatDoor.PackM Go.Proofs.YthbafcihmcjchaaGreatDoor.PackW Go.Proofs.YthbafcihmcjchaaGreatDoor.PlaceM Go.Proofs.YthbafcihmcjchaaGreatDoor.PlaceV Go.Proofs.YthbafcihmcjchaaGreatDoor.PlaceH Go.Proofs.YthbafcihmcjchaaGreatDoor.RingM Go.Proofs.YthbafcihmcjchaaGreatDoor.RingN Go.Proofs.YthbafcihmcjchaaGreatDoor.RingC Go.Proofs.YthbafcihmcjchaaGreatDoor.Own

/-- The reader's block. -/
def Rd (w : World) (r : Nat) (A : Option Addr) (n c : Nat) (a e : Int) : Prop := Blk w r #[.slice A n c, .int .i64 a, .int .i64 e] 150
theorem grown_two (w : World) (r i j : Nat) (u v : Value) : w.grownBy (((w.setCell ⟨r, i, none⟩ u).setCell ⟨r, j, none⟩ v).drew) (some r) :=
  ⟨rfl, rfl, rfl, by simp [World.size_setCell], fun k _ hne => (Below.heap_setCell _ _ v k (fun e => hne (by rw [e]))).trans (Below.heap_setCell w _ u k (fun e => hne (by rw [e])))⟩
theorem Rd.two {w : World} {r : Nat} {A : Option Addr} {n c : Nat} {a e : Int} (h : Rd w r A n c a e) (i k : Int) : Rd (((w.setCell ⟨r, 1, none⟩ (.int .i64 i)).setCell ⟨r, 2, none⟩ (.int .i64 k)).drew) r A n c i k := by
  have := Blk.set_ (Blk.set_ h 1 (.int .i64 i)) 2 (.int .i64 k)
  refine Blk.drew ?_
  simpa using this
theorem Rd.two' {w : World} {r : Nat} {A : Option Addr} {n c : Nat} {a e : Int} (h : Rd w r A n c a e) (i k : Int) : Rd (((w.setCell ⟨r, 2, none⟩ (.int .i64 k)).setCell ⟨r, 1, none⟩ (.int .i64 i)).drew) r A n c i k := by
  have := Blk.set_ (Blk.set_ h 2 (.int .i64 k)) 1 (.int .i64 i)
  refine Blk.drew ?_
  simpa using this
set_option maxHeartbeats 400000 in
theorem number_bad (A : Option Addr) (n c r : Nat) (a e m : Int) (w : World) (hR : Rd w r A n c a e) (he : e ≠ 0) :
    Calls Tryz.prog 85 #[.pointer (some ⟨r, 0, none⟩), .int .i64 m] w fun x w' => x = .returned (.int .u64 0) ∧ w = w' := by
  have c2 : w.cell? ⟨r, 2, none⟩ = some (.int .i64 e) := Blk.cell hR 2
  have hz : (e != 0) = true := by rw [bne_iff_ne]; exact he
  go_enter Tryz.func85, Tryz.ntmps85
  go_wp2
  go_ret
  exact ⟨rfl, rfl⟩
set_option maxHeartbeats 400000 in
theorem text_bad (A : Option Addr) (n c r : Nat) (a e m : Int) (w : World) (hR : Rd w r A n c a e) (he : e ≠ 0) :
    Calls Tryz.prog 88 #[.pointer (some ⟨r, 0, none⟩), .int .i64 m] w fun x w' => x = .returned (.string ⟨#[]⟩) ∧ w = w' := by
  have c2 : w.cell? ⟨r, 2, none⟩ = some (.int .i64 e) := Blk.cell hR 2
  have hz : (e != 0) = true := by rw [bne_iff_ne]; exact he
  go_enter Tryz.func88, Tryz.ntmps88
  go_wp2
  go_ret
  exact ⟨rfl, rfl⟩
set_option maxRecDepth 100000 in
set_option maxHeartbeats 2000000 in
theorem number_good (A : Option Addr) (n c r : Nat) (xs : List Int) (a m : Int) (w : World) (hb : Bs w A n xs) (hn : n ≤ 100000) (hR : Rd w r A n c a 0) (h0 : -9223372036854775808 ≤ a) (h1 : a ≤ 9223372036854775807) (h2 : -9223372036854775808 ≤ m) (h3 : m ≤ 9223372036854775807) :
    Calls Tryz.prog 85 #[.pointer (some ⟨r, 0, none⟩), .int .i64 m] w fun x w' => x = .returned (.int .u64 (gx xs a m)) ∧ Rd w' r A n c (gi xs a m) (ge xs a m) ∧ w.grownBy w' (some r) := by
  have G := Lib.hid (fun W (hW : Bs W A n xs) => get_calls A n c xs a m W hW (by omega) h0 h1 h2 h3)
  have HB := Lib.hid (hb.below (below_drewN (Below.refl w.heap.size w) 1))
  have HR := Lib.hid hR
  have c0 : w.cell? ⟨r, 0, none⟩ = some (.slice A n c) := Blk.cell hR 0
  have c1 : w.cell? ⟨r, 1, none⟩ = some (.int .i64 a) := Blk.cell hR 1
  have c2 : w.cell? ⟨r, 2, none⟩ = some (.int .i64 0) := Blk.cell hR 2
  have f1 := Blk.frozen hR 1
  have f2 := Blk.frozen hR 2
  clear hb hR
  obtain ⟨x, hx⟩ : ∃ x, gx xs a m = x := ⟨_, rfl⟩
  obtain ⟨i, hi⟩ : ∃ i, gi xs a m = i := ⟨_, rfl⟩
  obtain ⟨e, he⟩ : ∃ e, ge xs a m = e := ⟨_, rfl⟩
  rw [hx, hi, he] at G
  rw [hx, hi, he]
  clear hx hi he
  go_enter Tryz.func85, Tryz.ntmps85
  go_wp2_with fail
  go_region_law (first | (go_simp; go_at_call 95; refine (G.out _ HB.out).mono ?_; rintro e w' ⟨rfl, rfl⟩))
  all_goals go_wp2_with fail
  all_goals go_ret
  all_goals first | exact ⟨rfl, HR.out.two i e, grown_two w r 1 2 _ _⟩ | exact ⟨rfl, HR.out.two' i e, grown_two w r 2 1 _ _⟩
set_option maxRecDepth 100000 in
set_option maxHeartbeats 2000000 in
theorem text_good (A : Option Addr) (n c r : Nat) (xs : List Int) (a m : Int) (w : World) (hb : Bs w A n xs) (hn : n ≤ 100000) (hc : n ≤ c) (hR : Rd w r A n c a 0) (h0 : -9223372036854775808 ≤ a) (h1 : a ≤ 9223372036854775807) :
    Calls Tryz.prog 88 #[.pointer (some ⟨r, 0, none⟩), .int .i64 m] w fun x w' => x = .returned (.string (tx xs a m)) ∧ Rd w' r A n c (ti xs a m) (te xs a m) ∧ w.grownBy w' (some r) := by
  have G := Lib.hid (fun W (hW : Bs W A n xs) => gettext_calls A n c xs a m W hW (by omega) hc h0 h1)
  have HB := Lib.hid (hb.below (below_drewN (Below.refl w.heap.size w) 1))
  have HR := Lib.hid hR
  have c0 : w.cell? ⟨r, 0, none⟩ = some (.slice A n c) := Blk.cell hR 0
  have c1 : w.cell? ⟨r, 1, none⟩ = some (.int .i64 a) := Blk.cell hR 1
  have c2 : w.cell? ⟨r, 2, none⟩ = some (.int .i64 0) := Blk.cell hR 2
  have f1 := Blk.frozen hR 1
  have f2 := Blk.frozen hR 2
  clear hb hR
  obtain ⟨x, hx⟩ : ∃ x, tx xs a m = x := ⟨_, rfl⟩
  obtain ⟨i, hi⟩ : ∃ i, ti xs a m = i := ⟨_, rfl⟩
  obtain ⟨e, he⟩ : ∃ e, te xs a m = e := ⟨_, rfl⟩
  rw [hx, hi, he] at G
  rw [hx, hi, he]
  clear hx hi he
  go_enter Tryz.func88, Tryz.ntmps88
  go_wp2_with fail
  go_region_law (first | (go_simp; go_at_call 98; refine (G.out _ HB.out).mono ?_; rintro e w' ⟨rfl, rfl⟩))
  all_goals go_wp2_with fail
  all_goals go_ret
  all_goals first | exact ⟨rfl, HR.out.two i e, grown_two w r 1 2 _ _⟩ | exact ⟨rfl, HR.out.two' i e, grown_two w r 2 1 _ _⟩
/-- What was read at p, m bytes, or 0. -/
def ex (xs : List Int) (p m : Nat) : Int := if xs.length < p + m then 0 else getn xs p m
/-- The reader, behind p bytes. -/
def At (w : World) (r : Nat) (A : Option Addr) (n c : Nat) (p : Nat) : Prop := ∃ a : Int, Rd w r A n c a (if n < p then 3 else 0) ∧ (p ≤ n → a = p)
theorem number_any (A : Option Addr) (n c r p m : Nat) (xs : List Int) (w : World) (hb : Bs w A n xs) (hn : n ≤ 100000) (hR : At w r A n c p) (hm : width m = m) (hm2 : m ≤ 8) (h0 : 0 < m) :
    Calls Tryz.prog 85 #[.pointer (some ⟨r, 0, none⟩), .int .i64 m] w fun x w' => x = .returned (.int .u64 (ex xs p m)) ∧ At w' r A n c (p + m) ∧ w.grownBy w' (some r) := by
  obtain ⟨a, h1, h2⟩ := hR
  have hl := hb.len
  by_cases hp : n < p
  · rw [if_pos hp] at h1
    refine (number_bad A n c r a 3 m w h1 (by decide)).mono ?_
    rintro x w' ⟨rfl, rfl⟩
    refine ⟨?_, ⟨a, ?_, fun h => by omega⟩, ⟨rfl, rfl, rfl, Nat.le_refl _, fun _ _ _ => rfl⟩⟩
    · unfold ex
      rw [if_pos (by omega)]
    · rw [if_pos (by omega)]
      exact h1
  · rw [if_neg hp] at h1
    obtain rfl := h2 (by omega)
    refine (number_good A n c r xs p m w hb hn h1 (by omega) (by omega) (by omega) (by omega)).mono ?_
    rintro x w' ⟨rfl, h3, h4⟩
    have hw : (width (m : Int) : Int) = m := by rw [hm]
    by_cases hs : n < p + m
    · obtain ⟨e1, e2, e3⟩ := g_short xs p m (by omega) (by omega)
      rw [e2, e3] at h3
      rw [e1]
      refine ⟨?_, ⟨0, ?_, fun h => by omega⟩, h4⟩
      · unfold ex
        rw [if_pos (by omega)]
      · rw [if_pos hs]
        exact h3
    · obtain ⟨e1, e2, e3⟩ := g_ok xs p m (by omega) (by omega)
      rw [e2, e3] at h3
      rw [e1]
      refine ⟨?_, ⟨(p : Int) + (width (m : Int) : Int), ?_, fun h => by omega⟩, h4⟩
      · unfold ex
        rw [if_neg (by omega), hm]
        rfl
      · rw [if_neg hs]
        exact h3
theorem Bs.far {w w' : World} {A : Option Addr} {n r : Nat} {xs : List Int} (h : Bs w A n xs) (hg : w.grownBy w' (some r)) (hne : ∀ b o, A = some ⟨b, o, none⟩ → 0 < n → b ≠ r) : Bs w' A n xs := by
  refine ⟨h.1, h.2.1, fun k hk => ?_⟩
  obtain ⟨b, o, e, h1, h2⟩ := h.2.2 k hk
  exact ⟨b, o, e, Nat.lt_of_lt_of_le h1 hg.size, (hg.cell_far ⟨b, o + k, none⟩ h1 (fun e2 => hne b o e (by omega) (by injection e2))).trans h2⟩
theorem Nowhere.far {w w' : World} {r : Nat} (h : Nowhere w) (hg : w.grownBy w' (some r)) (hne : r ≠ 3) : Nowhere w' := by
  obtain ⟨h0, h1, h2, h3⟩ := h
  have hf : ∀ i, w'.cell? ⟨3, i, none⟩ = w.cell? ⟨3, i, none⟩ := fun i => hg.cell_far ⟨3, i, none⟩ h0 (fun e => hne (by injection e with e; exact e.symm))
  exact ⟨Nat.lt_of_lt_of_le h0 hg.size, by rw [hf]; exact h1, by rw [hf]; exact h2, by rw [hf]; exact h3⟩
theorem get3 (a b c : Int) (w : World) (a0 : 0 ≤ a) (a1 : a ≤ 255) (b0 : 0 ≤ b) (b1 : b ≤ 255) (c0 : 0 ≤ c) (c1 : c ≤ 255) (hg : Nowhere w) :
    Calls Tryz.prog 97 #[.agg #[.int .u8 a, .int .u8 b, .int .u8 c]] w fun e w' => e = .returned (.complex .f64 (gre a b c) (gim a b c)) ∧ Below w.heap.size w w' := by
  by_cases h : a = 255 ∧ b = 255 ∧ c = 255
  · obtain ⟨rfl, rfl, rfl⟩ := h
    exact get_none w hg
  · unfold gre gim
    rw [if_neg h, if_neg h]
    exact get_yes a b c w a0 a1 b0 b1 c0 c1 h hg
theorem ex_bd (xs : List Int) (p : Nat) (h : ∀ x ∈ xs, 0 ≤ x ∧ x ≤ 255) : 0 ≤ ex xs p 1 ∧ ex xs p 1 ≤ 255 := by
  unfold ex
  split
  · omega
  · have := get_bd xs p 1 h
    omega
theorem below_grown {w w' : World} (hb : Below w.heap.size w w') (row : Option Nat) : w.grownBy w' row := ⟨hb.os, hb.tape, hb.output, hb.size, fun k hk _ => hb.block k hk⟩
theorem grown_new1 {a v v' : World} {g r : Nat} (h : a.grownBy v (some g)) (h2 : v.grownBy v' (some r)) (hr : a.heap.size ≤ r) : a.grownBy v' (some g) :=
  ⟨h2.os.trans h.os, h2.tape.trans h.tape, h2.output.trans h.output, Nat.le_trans h.size h2.size, fun k hk hne => (h2.block k (Nat.lt_of_lt_of_le hk h.size) (fun e => by injection e with e; omega)).trans (h.block k hk hne)⟩
theorem grown_set1 (w : World) (g i : Nat) (v : Value) : w.grownBy (w.setCell ⟨g, i, none⟩ v) (some g) :=
  ⟨rfl, rfl, rfl, by rw [World.size_setCell]; exact Nat.le_refl _, fun k _ hne => Below.heap_setCell w _ v k (fun e => hne (by rw [e]))⟩
/-- Three bytes of the call's own, of which the first k are read. -/
structure Yw (xs : List Int) (p k : Nat) (w : World) (g : Nat) (B : Nat → Int) : Prop where
  hi : g < w.heap.size
  cell : ∀ j, j < 3 → w.cell? ⟨g, j, none⟩ = some (.int .u8 (B j)) ∧ w.frozen? ⟨g, j, none⟩ = false
  is : ∀ j, j < k → B j = ex xs (p + j) 1
theorem Yw.set_ {xs : List Int} {p k : Nat} {w : World} {g : Nat} {B : Nat → Int} (h : Yw xs p k w g B) (hk : k < 3) : Yw xs p (k + 1) (w.setCell ⟨g, k, none⟩ (.int .u8 (ex xs (p + k) 1))) g (fun j => if j = k then ex xs (p + k) 1 else B j) := by
  refine ⟨by rw [World.size_setCell]; exact h.hi, fun j hj => ⟨?_, by rw [World.frozen?_setCell]; exact (h.cell j hj).2⟩, fun j hj => ?_⟩
  · by_cases e : j = k
    · subst e
      rw [if_pos rfl]
      exact World.cell?_setCell_same' _ _ _ (by rw [(h.cell j hj).1]; rfl)
    · rw [if_neg e, World.cell?_setCell_other _ _ _ _ (by intro e2; injection e2 with _ e2; exact e e2.symm)]
      exact (h.cell j hj).1
  · by_cases e : j = k
    · rw [if_pos e, e]
    · rw [if_neg e]
      exact h.is j (by omega)
theorem Yw.far {xs : List Int} {p k : Nat} {w w' : World} {g r : Nat} {B : Nat → Int} (h : Yw xs p k w g B) (hg : w.grownBy w' (some r)) (hne : g ≠ r) : Yw xs p k w' g B :=
  ⟨Nat.lt_of_lt_of_le h.hi hg.size, fun j hj => ⟨(hg.cell_far ⟨g, j, none⟩ h.hi (fun e => hne (by injection e))).trans (h.cell j hj).1, (hg.frozen_far ⟨g, j, none⟩ h.hi (fun e => hne (by injection e))).trans (h.cell j hj).2⟩, h.is⟩
theorem At.far {w w' : World} {r g n c p : Nat} {A : Option Addr} (h : At w r A n c p) (hg : w.grownBy w' (some g)) (hne : r ≠ g) : At w' r A n c p := by
  obtain ⟨a, h1, h2⟩ := h
  exact ⟨a, Blk.grown h1 hg hne, h2⟩
set_option maxRecDepth 100000 in
set_option maxHeartbeats 2000000 in
theorem place_any (A : Option Addr) (n c r p : Nat) (xs : List Int) (w : World) (hb : Bs w A n xs) (hn : n ≤ 100000) (hR : At w r A n c p) (hne : ∀ b o, A = some ⟨b, o, none⟩ → 0 < n → b ≠ r) (hr0 : r ≠ 3) (hrs : r < w.heap.size) (hN : Nowhere w) :
    Calls Tryz.prog 86 #[.pointer (some ⟨r, 0, none⟩)] w fun x w' => x = .returned (.complex .f64 (gre (ex xs p 1) (ex xs (p + 1) 1) (ex xs (p + 2) 1)) (gim (ex xs p 1) (ex xs (p + 1) 1) (ex xs (p + 2) 1))) ∧ At w' r A n c (p + 3) ∧ w.grownBy w' (some r) := by
  have HB := Lib.hid hb
  have HN := Lib.hid hN
  have HNE := Lib.hid hne
  have HR := Lib.hid hR
  have hxs := hb.2.1
  have HXS := Lib.hid hxs
  obtain ⟨x0, hx0⟩ : ∃ x0, ex xs p 1 = x0 := ⟨_, rfl⟩
  obtain ⟨x1, hx1⟩ : ∃ x1, ex xs (p + 1) 1 = x1 := ⟨_, rfl⟩
  obtain ⟨x2, hx2⟩ : ∃ x2, ex xs (p + 2) 1 = x2 := ⟨_, rfl⟩
  rw [hx0, hx1, hx2]
  have HX0 := Lib.hid hx0
  have HX1 := Lib.hid hx1
  have HX2 := Lib.hid hx2
  clear hb hN hne hR hxs hx0 hx1 hx2
  go_enter Tryz.func86, Tryz.ntmps86
  go_wp2_with fail
  go_loopw [5] (fun i wr => ∃ (k : Nat) (B : Nat → Int), k ≤ 3 ∧ i = .int .i64 k ∧ Yw xs p k wr w.heap.size B ∧ At wr r A n c (p + k) ∧ w.grownBy wr (some r)) (fun i _ => 3 - (intOf i).toNat)
  case atStart =>
    have hA := Blk.new_ w #[.int .u8 0, .int .u8 0, .int .u8 0] 158
    refine ⟨0, fun _ => 0, by omega, rfl, ⟨hA.lt, fun j hj => ⟨?_, hA.frozen j⟩, fun j hj => by omega⟩, HR.out.far (World.grownBy_alloc w _ (some w.heap.size)) (by omega), World.grownBy_alloc w _ _⟩
    rw [hA.cell j]
    rcases (show j = 0 ∨ j = 1 ∨ j = 2 by omega) with rfl | rfl | rfl <;> rfl
  case round =>
    obtain ⟨k, B, hk, rfl, hY, hAt, hg⟩ := hrel
    have HY := Lib.hid hY
    have HAT := Lib.hid hAt
    have HG := Lib.hid hg
    have hsz := hg.size
    have hyl := hY.hi
    clear hY hAt hg
    by_cases hlt : k < 3
    · have hbd := ex_bd xs (p + k) HXS.out
      have NUM := Lib.hid (number_any A n c r (p + k) 1 xs wr (Bs.far HB.out HG.out HNE.out) hn HAT.out rfl (by omega) (by omega))
      obtain ⟨z, hz⟩ : ∃ z, ex xs (p + k) 1 = z := ⟨_, rfl⟩
      rw [hz] at NUM hbd
      have HZ := Lib.hid hz
      clear hz
      go_wp2_with fail
      refine NUM.out.mono ?_
      rintro x w2 ⟨rfl, hA2, hg2⟩
      have hY2 := HY.out.far hg2 (by omega)
      obtain ⟨cc, ff⟩ := hY2.cell k hlt
      have HY3 := Lib.hid (hY2.set_ hlt)
      rw [HZ.out] at HY3
      have HG2 := Lib.hid (grown_new1 (HG.out.trans hg2) (grown_set1 w2 w.heap.size k (.int .u8 z)) (Nat.le_refl _))
      have HAT2 := Lib.hid (hA2.far (grown_set1 w2 w.heap.size k (.int .u8 z)) (by omega))
      clear hA2 hg2 hY2
      go_wp2_with fail
      go_roundw
      case rel => exact ⟨k + 1, _, by omega, by go_num, HY3.out, HAT2.out, HG2.out⟩
      case measure => simp [intOf]; omega
    · obtain rfl : k = 3 := by omega
      obtain ⟨c0, _⟩ := HY.out.cell 0 (by omega)
      obtain ⟨c1, _⟩ := HY.out.cell 1 (by omega)
      obtain ⟨c2, _⟩ := HY.out.cell 2 (by omega)
      rw [HY.out.is 0 (by omega)] at c0
      rw [HY.out.is 1 (by omega)] at c1
      rw [HY.out.is 2 (by omega)] at c2
      rw [Nat.add_zero, HX0.out] at c0
      rw [HX1.out] at c1
      rw [HX2.out] at c2
      have b0 := ex_bd xs p HXS.out
      have b1 := ex_bd xs (p + 1) HXS.out
      have b2 := ex_bd xs (p + 2) HXS.out
      have HN3 := Lib.hid (Nowhere.far HN.out HG.out hr0)
      rw [HX0.out] at b0
      rw [HX1.out] at b1
      rw [HX2.out] at b2
      go_wp2_with fail
      refine (get3 x0 x1 x2 wr b0.1 b0.2 b1.1 b1.2 b2.1 b2.2 HN3.out).mono ?_
      rintro x w3 ⟨rfl, hb3⟩
      have HG3 := Lib.hid (HG.out.trans (below_grown hb3 (some r)))
      have HA3 : Hid (At w3 r A n c (p + 3)) := Lib.hid (by
        obtain ⟨a, h1, h2⟩ := HAT.out
        exact ⟨a, Blk.below h1 hb3, h2⟩)
      clear hb3 c0 c1 c2
      go_wp2_with fail
      go_ret
      exact ⟨rfl, HA3.out, HG3.out⟩
/-- The reader behind the byte for Gone. -/
def Ag (w : World) (r : Nat) (A : Option Addr) (n c : Nat) (x : Int) : Prop := ∃ a : Int, Rd w r A n c a (if n < 22 then 3 else if 1 < x then 2 else 0) ∧ (22 ≤ n → a = 22)
theorem Rd.err {w : World} {r : Nat} {A : Option Addr} {n c : Nat} {a e : Int} (h : Rd w r A n c a e) (k : Int) : Rd (w.setCell ⟨r, 2, none⟩ (.int .i64 k)) r A n c a k := by
  have := Blk.set_ h 2 (.int .i64 k)
  simpa [Rd] using this
set_option maxRecDepth 100000 in
set_option maxHeartbeats 2000000 in
theorem gone_any (A : Option Addr) (n c r : Nat) (xs : List Int) (w : World) (hb : Bs w A n xs) (hn : n ≤ 100000) (hR : At w r A n c 21) :
    Calls Tryz.prog 87 #[.pointer (some ⟨r, 0, none⟩)] w fun x w' => x = .returned (.bool (ex xs 21 1 == 1)) ∧ Ag w' r A n c (ex xs 21 1) ∧ w.grownBy w' (some r) := by
  have hbd := ex_bd xs 21 hb.2.1
  have hsm : n < 22 → ex xs 21 1 = 0 := fun h => by unfold ex; rw [if_pos (by rw [hb.len]; omega)]
  have NUM := Lib.hid (number_any A n c r 21 1 xs w hb hn hR rfl (by omega) (by omega))
  clear hb hR
  generalize ex xs 21 1 = x at *
  by_cases hx : 1 < x
  · have hn2 : ¬ n < 22 := fun h => by have := hsm h; omega
    have he : (x == 1) = false := by rw [beq_eq_false_iff_ne]; omega
    rw [he]
    clear hsm
    go_enter Tryz.func87, Tryz.ntmps87
    go_wp2_with fail
    refine NUM.out.mono ?_
    rintro e w1 ⟨rfl, ⟨a, hr, ha⟩, hg⟩
    have c2 := Blk.cell hr 2
    have f2 := Blk.frozen hr 2
    have HE : Hid (Ag (w1.setCell ⟨r, 2, none⟩ (.int .i64 2)) r A n c x) := Lib.hid ⟨a, by rw [if_neg hn2, if_pos hx]; exact hr.err 2, fun h => ha h⟩
    have HG := Lib.hid (hg.trans (grown_set1 w1 r 2 (.int .i64 2)))
    simp only [List.getElem?_toArray, List.getElem?_cons_succ, List.getElem?_cons_zero] at c2
    clear hr ha hg
    go_wp2_with fail
    go_ret
    exact ⟨rfl, HE.out, HG.out⟩
  · go_enter Tryz.func87, Tryz.ntmps87
    go_wp2_with fail
    refine NUM.out.mono ?_
    rintro e w1 ⟨rfl, ⟨a, hr, ha⟩, hg⟩
    have HE : Hid (Ag w1 r A n c x) := Lib.hid ⟨a, by rw [if_neg (show ¬ 1 < x by omega)]; exact hr, fun h => ha h⟩
    have HG := Lib.hid hg
    clear hr ha hg hsm
    go_wp2_with fail
    go_ret
    exact ⟨rfl, HE.out, HG.out⟩
end Go.Proofs.YthbafcihmcjchaaGreatDoor.RingGp

/- The contract of the project's Get of layer 7. -/
namespace Go.Proofs.YthbafcihmcjchaaGreatDoor.RingGq
set_option linter.unusedVariables false
set_option linter.unusedSimpArgs false
open Go.RowKit
open Go.Proofs.YthbafcihmcjchaaGreatDoor.Byte Go.Proofs.YthbafcihmcjchaaGreatDoor.PackM Go.Proofs.YthbafcihmcjchaaGreatDoor.PackW Go.Proofs.YthbafcihmcjchaaGreatDoor.PlaceM Go.Proofs.YthbafcihmcjchaaGreatDoor.PlaceV Go.Proofs.YthbafcihmcjchaaGreatDoor.PlaceH Go.Proofs.YthbafcihmcjchaaGreatDoor.RingM Go.Proofs.YthbafcihmcjchaaGreatDoor.RingN Go.Proofs.YthbafcihmcjchaaGreatDoor.RingC Go.Proofs.YthbafcihmcjchaaGreatDoor.RingE Go.Proofs.YthbafcihmcjchaaGreatDoor.RingGp Go.Proofs.YthbafcihmcjchaaGreatDoor.Own

attribute [local go_sem] Own.run_store_complex
/-- The error behind the byte for Gone, the key, the value. -/
def e0 (xs : List Int) : Int := if xs.length < 22 then 3 else if 1 < ex xs 21 1 then 2 else 0
def e1 (xs : List Int) : Int := if e0 xs ≠ 0 then e0 xs else te xs 22 48
def e2 (xs : List Int) : Int := if e1 xs ≠ 0 then e1 xs else te xs (ti xs 22 48) 64
/-- The reader behind the key; the key. -/
def Ak (w : World) (r : Nat) (A : Option Addr) (n c : Nat) (xs : List Int) (s : ByteArray) : Prop := ∃ a : Int, Rd w r A n c a (e1 xs) ∧ (e1 xs = 0 → a = ti xs 22 48 ∧ s = tx xs 22 48)
def Av (w : World) (r : Nat) (A : Option Addr) (n c : Nat) (xs : List Int) (s : ByteArray) : Prop := ∃ a : Int, Rd w r A n c a (e2 xs) ∧ (e2 xs = 0 → a = ti xs (ti xs 22 48) 64 ∧ s = tx xs (ti xs 22 48) 64)
theorem same_grown (w : World) (r : Option Nat) : w.grownBy w r := ⟨rfl, rfl, rfl, Nat.le_refl _, fun _ _ _ => rfl⟩
theorem key_any (A : Option Addr) (n c r : Nat) (xs : List Int) (w : World) (hb : Bs w A n xs) (hn : n ≤ 100000) (hc : n ≤ c) (hR : Ag w r A n c (ex xs 21 1)) :
    Calls Tryz.prog 88 #[.pointer (some ⟨r, 0, none⟩), .int .i64 48] w fun x w' => ∃ s, x = .returned (.string s) ∧ Ak w' r A n c xs s ∧ w.grownBy w' (some r) := by
  obtain ⟨a, h1, h2⟩ := hR
  have hl := hb.len
  rw [show (if n < 22 then (3 : Int) else if 1 < ex xs 21 1 then 2 else 0) = e0 xs by unfold e0; rw [hl]] at h1
  by_cases h : e0 xs = 0
  · rw [h] at h1
    have hn22 : 22 ≤ n := by
      unfold e0 at h
      split at h
      · cases h
      · omega
    obtain rfl := h2 hn22
    refine (text_good A n c r xs 22 48 w hb hn hc h1 (by omega) (by omega)).mono ?_
    rintro x w' ⟨rfl, h3, h4⟩
    have e : e1 xs = te xs 22 48 := by unfold e1; rw [h]; rfl
    exact ⟨_, rfl, ⟨_, by rw [e]; exact h3, fun _ => ⟨rfl, rfl⟩⟩, h4⟩
  · refine (text_bad A n c r a (e0 xs) 48 w h1 h).mono ?_
    rintro x w' ⟨rfl, rfl⟩
    have e : e1 xs = e0 xs := by unfold e1; rw [if_pos h]
    exact ⟨_, rfl, ⟨a, by rw [e]; exact h1, fun h3 => absurd (e ▸ h3) h⟩, same_grown _ _⟩
theorem e1_zero {xs : List Int} (h : e1 xs = 0) : ¬ xs.length < 22 ∧ ¬ 1 < ex xs 21 1 ∧ te xs 22 48 = 0 := by
  unfold e1 at h
  split at h
  · rename_i h1
    exact absurd h h1
  · rename_i h1
    have h1 : e0 xs = 0 := by
      rcases Int.lt_trichotomy (e0 xs) 0 with h2 | h2 | h2
      · exact absurd (show e0 xs ≠ 0 by omega) h1
      · exact h2
      · exact absurd (show e0 xs ≠ 0 by omega) h1
    unfold e0 at h1
    split at h1
    · cases h1
    · split at h1
      · cases h1
      · exact ⟨by assumption, by assumption, h⟩
theorem value_any (A : Option Addr) (n c r : Nat) (xs : List Int) (s : ByteArray) (w : World) (hb : Bs w A n xs) (hn : n ≤ 100000) (hc : n ≤ c) (hR : Ak w r A n c xs s) :
    Calls Tryz.prog 88 #[.pointer (some ⟨r, 0, none⟩), .int .i64 64] w fun x w' => ∃ s, x = .returned (.string s) ∧ Av w' r A n c xs s ∧ w.grownBy w' (some r) := by
  obtain ⟨a, h1, h2⟩ := hR
  by_cases h : e1 xs = 0
  · rw [h] at h1
    obtain ⟨rfl, _⟩ := h2 h
    have hbd := ti_bd (m := 48) hb.2.1 (e1_zero h).2.2
    have hl := hb.len
    refine (text_good A n c r xs (ti xs 22 48) 64 w hb hn hc h1 (by omega) (by omega)).mono ?_
    rintro x w' ⟨rfl, h3, h4⟩
    have e : e2 xs = te xs (ti xs 22 48) 64 := by unfold e2; rw [h]; rfl
    exact ⟨_, rfl, ⟨_, by rw [e]; exact h3, fun _ => ⟨rfl, rfl⟩⟩, h4⟩
  · refine (text_bad A n c r a (e1 xs) 64 w h1 h).mono ?_
    rintro x w' ⟨rfl, rfl⟩
    have e : e2 xs = e1 xs := by unfold e2; rw [if_pos h]
    exact ⟨_, rfl, ⟨a, by rw [e]; exact h1, fun h3 => absurd (e ▸ h3) h⟩, same_grown _ _⟩
/-- The item as it was read. -/
def rit (xs : List Int) (s t : ByteArray) : It := ⟨ex xs 0 8, ex xs 8 8, ex xs 16 1, ex xs 17 1, gre (ex xs 18 1) (ex xs 19 1) (ex xs 20 1), gim (ex xs 18 1) (ex xs 19 1) (ex xs 20 1), ex xs 21 1 == 1, s, t⟩
theorem ex_is (xs : List Int) (p : Nat) (h : p + 1 ≤ xs.length) : ex xs p 1 = xs.getD p 0 := by
  unfold ex
  rw [if_neg (by omega), getn_one xs p (by omega)]
theorem bad_is {xs : List Int} (h : e2 xs ≠ 0) : gerr xs = e2 xs ∧ gans xs = none_ := by
  by_cases h0 : xs.length < 22
  · have a : e0 xs = 3 := if_pos h0
    have b : e1 xs = 3 := by unfold e1; rw [a]; rfl
    have c : e2 xs = 3 := by unfold e2; rw [b]; rfl
    rw [c]
    exact ge_short h0
  · have hx := ex_is xs 21 (by omega)
    by_cases h1 : 1 < xs.getD 21 0
    · have a : e0 xs = 2 := by unfold e0; rw [if_neg h0, hx, if_pos h1]
      have b : e1 xs = 2 := by unfold e1; rw [a]; rfl
      have c : e2 xs = 2 := by unfold e2; rw [b]; rfl
      rw [c]
      exact ge_form h0 h1
    · have a : e0 xs = 0 := by unfold e0; rw [if_neg h0, hx, if_neg h1]
      have b : e1 xs = te xs 22 48 := by unfold e1; rw [a]; rfl
      by_cases h2 : te xs 22 48 ≠ 0
      · have c : e2 xs = te xs 22 48 := by unfold e2; rw [b, if_pos h2]
        rw [c]
        exact ge_key h0 h1 h2
      · have c : e2 xs = te xs (ti xs 22 48) 64 := by unfold e2; rw [b, if_neg h2]
        rw [c] at h ⊢
        exact ge_value h0 h1 h2 h
theorem good_is {xs : List Int} (h : e2 xs = 0) : ¬ xs.length < 22 ∧ ¬ 1 < xs.getD 21 0 ∧ te xs 22 48 = 0 ∧ te xs (ti xs 22 48) 64 = 0 ∧ rit xs (tx xs 22 48) (tx xs (ti xs 22 48) 64) = gitem xs := by
  unfold e2 at h
  split at h
  · rename_i h1
    exact absurd h h1
  · rename_i h1
    have h1 : e1 xs = 0 := by
      rcases Int.lt_trichotomy (e1 xs) 0 with h2 | h2 | h2
      · exact absurd (show e1 xs ≠ 0 by omega) h1
      · exact h2
      · exact absurd (show e1 xs ≠ 0 by omega) h1
    obtain ⟨a, b, c⟩ := e1_zero h1
    rw [ex_is xs 21 (by omega)] at b
    refine ⟨a, b, c, h, ?_⟩
    unfold rit gitem
    rw [ex_is xs 16 (by omega), ex_is xs 17 (by omega), ex_is xs 18 (by omega), ex_is xs 19 (by omega), ex_is xs 20 (by omega), ex_is xs 21 (by omega)]
    have p0 : ex xs 0 8 = getn xs 0 8 := by unfold ex; rw [if_neg (by omega)]
    have p8 : ex xs 8 8 = getn xs 8 8 := by unfold ex; rw [if_neg (by omega)]
    rw [p0, p8]
theorem e2_one {xs : List Int} (h : e2 xs = 0) : e1 xs = 0 := by
  unfold e2 at h
  split at h
  · rename_i h1
    exact absurd h h1
  · rename_i h1
    rcases Int.lt_trichotomy (e1 xs) 0 with h2 | h2 | h2
    · exact absurd (show e1 xs ≠ 0 by omega) h1
    · exact h2
    · exact absurd (show e1 xs ≠ 0 by omega) h1
/-- What Get keeps: nothing that was there has changed, the bytes, the answer's box, where is nowhere. -/
def Kp (w : World) (A : Option Addr) (n : Nat) (xs : List Int) (v : World) : Prop := Below w.heap.size w v ∧ Bs v A n xs ∧ Blk v w.heap.size zer 99 ∧ Nowhere v ∧ w.heap.size + 1 < v.heap.size
theorem Kp.step {w v v' : World} {A : Option Addr} {n : Nat} {xs : List Int} (hb : Bs w A n xs) (hN : Nowhere w) (h : Kp w A n xs v) (hg : v.grownBy v' (some (w.heap.size + 1))) : Kp w A n xs v' := by
  obtain ⟨h1, _, h3, _, h5⟩ := h
  have hw : Below w.heap.size w v' := h1.grown hg h1.size (by intro k hk; injection hk with hk; omega)
  exact ⟨hw, hb.below hw, h3.grown hg (by omega), hN.below hw, Nat.lt_of_lt_of_le h5 hg.size⟩
theorem zer8 (V : World) (g : Nat) (x0 x1 : Int) (x2 x3 : Int) (x4 x5 : Nat) (x6 : Bool) (x7 x8 : ByteArray) (h : Blk V g zer 99) :
    Blk (((((((((V.setCell ⟨g, 0, none⟩ (.int .u64 x0)).setCell ⟨g, 1, none⟩ (.int .u64 x1)).setCell ⟨g, 2, none⟩ (.int .i64 x2)).setCell ⟨g, 3, none⟩ (.int .i64 x3)).setCell ⟨g, 4, none⟩ (.complex .f64 x4 x5)).setCell ⟨g, 5, none⟩ (.bool x6)).setCell ⟨g, 6, none⟩ (.string x7)).setCell ⟨g, 7, none⟩ (.string x8))) g #[.int .u64 x0, .int .u64 x1, .int .i64 x2, .int .i64 x3, .complex .f64 x4 x5, .bool x6, .string x7, .string x8] 99 ∧
    V.grownBy (((((((((V.setCell ⟨g, 0, none⟩ (.int .u64 x0)).setCell ⟨g, 1, none⟩ (.int .u64 x1)).setCell ⟨g, 2, none⟩ (.int .i64 x2)).setCell ⟨g, 3, none⟩ (.int .i64 x3)).setCell ⟨g, 4, none⟩ (.complex .f64 x4 x5)).setCell ⟨g, 5, none⟩ (.bool x6)).setCell ⟨g, 6, none⟩ (.string x7)).setCell ⟨g, 7, none⟩ (.string x8))) (some g) := by
  refine ⟨?_, ((((((((grown_set1 _ _ _ _).trans (grown_set1 _ _ _ _)).trans (grown_set1 _ _ _ _)).trans (grown_set1 _ _ _ _)).trans (grown_set1 _ _ _ _)).trans (grown_set1 _ _ _ _)).trans (grown_set1 _ _ _ _)).trans (grown_set1 _ _ _ _))⟩
  have := (((((((h.set_ 0 (.int .u64 x0)).set_ 1 (.int .u64 x1)).set_ 2 (.int .i64 x2)).set_ 3 (.int .i64 x3)).set_ 4 (.complex .f64 x4 x5)).set_ 5 (.bool x6)).set_ 6 (.string x7)).set_ 7 (.string x8)
  simpa [zer, cells, none_] using this
theorem blk2 (w : World) (x y : Array Value) (t u : TypeId) : Blk ((w.alloc (.cells x t)).alloc (.cells y u)) w.heap.size x t ∧ Blk ((w.alloc (.cells x t)).alloc (.cells y u)) (w.heap.size + 1) y u ∧ Below w.heap.size w ((w.alloc (.cells x t)).alloc (.cells y u)) := by
  refine ⟨(Blk.new_ w x t).alloc _, ?_, ((Below.refl _ _).alloc (Nat.le_refl _) _).alloc (by simp) _⟩
  have := Blk.new_ (w.alloc (.cells x t)) y u
  simpa using this
set_option maxRecDepth 100000 in
set_option maxHeartbeats 4000000 in
theorem get_item (A : Option Addr) (n c : Nat) (xs : List Int) (w : World) (hb : Bs w A n xs) (hn : n ≤ 100000) (hc : n ≤ c) (hN : Nowhere w) :
    Calls Tryz.prog 77 #[.slice A n c] w (ItE (gans xs) (gerr xs) w) := by
  have hl := hb.len
  have hN1 := hN.1
  have b16 := ex_bd xs 16 hb.2.1
  have b17 := ex_bd xs 17 hb.2.1
  have KS := Lib.hid (fun (v v' : World) (h : Kp w A n xs v) (hg : v.grownBy v' (some (w.heap.size + 1))) => Kp.step hb hN h hg)
  have HNE : Hid (∀ b o, A = some ⟨b, o, none⟩ → 0 < n → b ≠ w.heap.size + 1) := Lib.hid (fun b o e h => by
    obtain ⟨b', o', e', h1, _⟩ := hb.2.2 0 h
    rw [e] at e'
    injection e' with e'
    injection e' with e' _
    omega)
  obtain ⟨W, hW⟩ : ∃ W, (w.alloc (.cells zer 99)).alloc (.cells #[.slice A n c, .int .i64 0, .int .i64 0] 150) = W := ⟨_, rfl⟩
  obtain ⟨k1, k2, k3⟩ := blk2 w zer #[.slice A n c, .int .i64 0, .int .i64 0] 99 150
  rw [hW] at k1 k2 k3
  have HS0 : Hid (Kp w A n xs W) := Lib.hid ⟨k3, hb.below k3, k1, hN.below k3, k2.lt⟩
  have HA0 : Hid (At W (w.heap.size + 1) A n c 0) := Lib.hid ⟨0, by rw [if_neg (by omega)]; exact k2, fun _ => rfl⟩
  clear k1 k2 k3 hb hN
  go_enter Tryz.func77, Tryz.ntmps77
  go_wp2_with fail
  change Calls _ _ _ ((w.alloc (.cells zer 99)).alloc (.cells #[.slice A n c, .int .i64 0, .int .i64 0] 150)) _
  rw [hW]
  clear hW
  refine (number_any A n c (w.heap.size + 1) 0 8 xs W HS0.out.2.1 hn HA0.out rfl (by omega) (by omega)).mono ?_
  rintro e w1 ⟨rfl, hA, hg⟩
  have HS1 := Lib.hid (KS.out _ _ HS0.out hg)
  have HA1 := Lib.hid hA
  clear hA hg
  go_wp2_with fail
  refine (number_any A n c (w.heap.size + 1) 8 8 xs w1 HS1.out.2.1 hn HA1.out rfl (by omega) (by omega)).mono ?_
  rintro e w2 ⟨rfl, hA, hg⟩
  have HS2 := Lib.hid (KS.out _ _ HS1.out hg)
  have HA2 := Lib.hid hA
  clear hA hg
  go_wp2_with fail
  refine (number_any A n c (w.heap.size + 1) 16 1 xs w2 HS2.out.2.1 hn HA2.out rfl (by omega) (by omega)).mono ?_
  rintro e w3 ⟨rfl, hA, hg⟩
  have HS3 := Lib.hid (KS.out _ _ HS2.out hg)
  have HA3 := Lib.hid hA
  clear hA hg
  go_wp2_with fail
  refine (number_any A n c (w.heap.size + 1) 17 1 xs w3 HS3.out.2.1 hn HA3.out rfl (by omega) (by omega)).mono ?_
  rintro e w4 ⟨rfl, hA, hg⟩
  have HS4 := Lib.hid (KS.out _ _ HS3.out hg)
  have HA4 := Lib.hid hA
  clear hA hg
  go_wp2_with fail
  refine (place_any A n c (w.heap.size + 1) 18 xs w4 HS4.out.2.1 hn HA4.out HNE.out (by omega) HS4.out.2.2.2.2 HS4.out.2.2.2.1).mono ?_
  rintro e w5 ⟨rfl, hA, hg⟩
  have HS5 := Lib.hid (KS.out _ _ HS4.out hg)
  have HA5 := Lib.hid hA
  clear hA hg
  go_wp2_with fail
  refine (gone_any A n c (w.heap.size + 1) xs w5 HS5.out.2.1 hn HA5.out).mono ?_
  rintro e w6 ⟨rfl, hA, hg⟩
  have HS6 := Lib.hid (KS.out _ _ HS5.out hg)
  have HA6 := Lib.hid hA
  clear hA hg
  go_wp2_with fail
  refine (key_any A n c (w.heap.size + 1) xs w6 HS6.out.2.1 hn hc HA6.out).mono ?_
  rintro e w7 ⟨s, rfl, hA, hg⟩
  have HS7 := Lib.hid (KS.out _ _ HS6.out hg)
  have HK7 := Lib.hid hA
  clear hg
  go_wp2_with fail
  refine (value_any A n c (w.heap.size + 1) xs s w7 HS7.out.2.1 hn hc hA).mono ?_
  rintro e w8 ⟨t, rfl, hA8, hg⟩
  have HS8 := Lib.hid (KS.out _ _ HS7.out hg)
  obtain ⟨a, hr, ha⟩ := hA8
  clear hg hA
  obtain ⟨V, hV⟩ : ∃ V, w8.alloc (.cells (cells (rit xs s t)) 99) = V := ⟨_, rfl⟩
  have hWB : Below w8.heap.size w8 V := by rw [← hV]; exact (Below.refl _ _).alloc (Nat.le_refl _) _
  have hX : Blk V w8.heap.size (cells (rit xs s t)) 99 := by rw [← hV]; exact Blk.new_ _ _ _
  have hR : Rd V (w.heap.size + 1) A n c a (e2 xs) := Blk.below hr hWB
  have HV : Hid (Below w.heap.size w V ∧ Blk V w.heap.size zer 99) := Lib.hid ⟨keeps HS8.out.1 hWB, HS8.out.2.2.1.below hWB⟩
  have HX := Lib.hid hX
  have HAA := Lib.hid ha
  have c1 : V.cell? ⟨w.heap.size + 1, 1, none⟩ = some (.int .i64 a) := Blk.cell hR 1
  have c2 : V.cell? ⟨w.heap.size + 1, 2, none⟩ = some (.int .i64 (e2 xs)) := Blk.cell hR 2
  have HVE := Lib.hid hV
  clear hr ha hWB hX hR hV
  go_upto_region 3 with (fail)
  change Code.wp _ _ _ _ (w8.alloc (.cells (cells (rit xs s t)) 99))
  rw [HVE.out]
  clear HVE
  have z0 := HV.out.2.cell 0
  have f0 := HV.out.2.frozen 0
  have z1 := HV.out.2.cell 1
  have f1 := HV.out.2.frozen 1
  have z2 := HV.out.2.cell 2
  have f2 := HV.out.2.frozen 2
  have z3 := HV.out.2.cell 3
  have f3 := HV.out.2.frozen 3
  have z4 := HV.out.2.cell 4
  have f4 := HV.out.2.frozen 4
  have z5 := HV.out.2.cell 5
  have f5 := HV.out.2.frozen 5
  have z6 := HV.out.2.cell 6
  have f6 := HV.out.2.frozen 6
  have z7 := HV.out.2.cell 7
  have f7 := HV.out.2.frozen 7
  by_cases he : e2 xs = 0
  · obtain ⟨n22, nx, t1, t2, hrit⟩ := good_is he
    have h1 := e2_one he
    obtain ⟨ha, ht⟩ := HAA.out he
    obtain ⟨a7, _, hs7⟩ := HK7.out
    have hs := (hs7 h1).2
    rw [← hs, ← ht] at hrit
    have hks : s.size ≤ maxLen := by rw [hs]; have := tx_size xs 22 48; unfold maxLen; omega
    have hkt : t.size ≤ maxLen := by rw [ht]; have := tx_size xs (ti xs 22 48) 64; unfold maxLen; omega
    have HRIT := Lib.hid hrit
    rw [he] at c2
    have HT1 := Lib.hid t1
    have HT2 := Lib.hid t2
    have HNX := Lib.hid nx
    have HHA := Lib.hid ha
    have hz : ((0 : Int) != 0) = false := rfl
    clear hrit h1 hs7 hs ht ha t1 t2 nx he HAA HK7
    by_cases hq : a = n
    · have hq2 : (a != (n : Int)) = false := by simp [hq]
      have M := Lib.hid (fun w => may_calls (rit xs s t) w hks hkt)
      have HQ : Hid (¬ ti xs (ti xs 22 48) 64 ≠ xs.length) := Lib.hid (by rw [← HHA.out, hl]; exact fun h => h hq)
      clear hq hks hkt
      clear z0 f0 z1 f1 z2 f2 z3 f3 z4 f4 z5 f5 z6 f6 z7 f7
      have y0 : V.cell? ⟨w8.heap.size, 0, none⟩ = some (.int .u64 (ex xs 0 8)) := HX.out.cell 0
      have y1 : V.cell? ⟨w8.heap.size, 1, none⟩ = some (.int .u64 (ex xs 8 8)) := HX.out.cell 1
      have y2 : V.cell? ⟨w8.heap.size, 2, none⟩ = some (.int .i64 (ex xs 16 1)) := HX.out.cell 2
      have y3 : V.cell? ⟨w8.heap.size, 3, none⟩ = some (.int .i64 (ex xs 17 1)) := HX.out.cell 3
      have y4 : V.cell? ⟨w8.heap.size, 4, none⟩ = some (.complex .f64 (gre (ex xs 18 1) (ex xs 19 1) (ex xs 20 1)) (gim (ex xs 18 1) (ex xs 19 1) (ex xs 20 1))) := HX.out.cell 4
      have y5 : V.cell? ⟨w8.heap.size, 5, none⟩ = some (.bool (ex xs 21 1 == 1)) := HX.out.cell 5
      have y6 : V.cell? ⟨w8.heap.size, 6, none⟩ = some (.string s) := HX.out.cell 6
      have y7 : V.cell? ⟨w8.heap.size, 7, none⟩ = some (.string t) := HX.out.cell 7
      go_wp2_with fail
      refine (M.out _).mono ?_
      rw [HRIT.out]
      rintro e w9 ⟨rfl, hb9⟩
      have HV9 : Hid (Below w.heap.size w w9 ∧ Blk w9 w.heap.size zer 99) := Lib.hid ⟨keeps HV.out.1 hb9, HV.out.2.below hb9⟩
      have HX9 := Lib.hid (HX.out.below hb9)
      clear hb9 y0 y1 y2 y3 y4 y5 y6 y7
      have z0 := HV9.out.2.cell 0
      have f0 := HV9.out.2.frozen 0
      have z1 := HV9.out.2.cell 1
      have f1 := HV9.out.2.frozen 1
      have z2 := HV9.out.2.cell 2
      have f2 := HV9.out.2.frozen 2
      have z3 := HV9.out.2.cell 3
      have f3 := HV9.out.2.frozen 3
      have z4 := HV9.out.2.cell 4
      have f4 := HV9.out.2.frozen 4
      have z5 := HV9.out.2.cell 5
      have f5 := HV9.out.2.frozen 5
      have z6 := HV9.out.2.cell 6
      have f6 := HV9.out.2.frozen 6
      have z7 := HV9.out.2.cell 7
      have f7 := HV9.out.2.frozen 7
      cases hm : may (gitem xs) with
      | false =>
        obtain ⟨g1, g2⟩ := ge_arg n22 (by have := HNX.out; omega) (by rw [HT1.out]; simp) (by rw [HT2.out]; simp) HQ.out hm
        have HG1 := Lib.hid g1
        have HG2 := Lib.hid g2
        clear g1 g2 hm
        go_wp2_with fail
        obtain ⟨hB, hG⟩ := zer8 w9 w.heap.size 0 0 0 0 0 0 false ⟨#[]⟩ ⟨#[]⟩ HV9.out.2
        refine bodyPost_ret (v := .tuple #[.agg zer, .int .i64 1]) (results_cell_tmp_row (fn := Tryz.f77) rfl _ _ w.heap.size 99 zer (0, 0) _ rfl hB Tryz.underlying99 rfl info_item) rfl ⟨by rw [HG1.out, HG2.out], ?_⟩
        exact HV9.out.1.grown hG HV9.out.1.size (by intro k hk; injection hk with hk; omega)
      | true =>
        obtain ⟨g1, g2⟩ := ge_ok n22 (by have := HNX.out; omega) (by rw [HT1.out]; simp) (by rw [HT2.out]; simp) HQ.out hm
        have HG1 := Lib.hid g1
        have HG2 := Lib.hid g2
        clear g1 g2 hm
        have y0 : w9.cell? ⟨w8.heap.size, 0, none⟩ = some (.int .u64 (ex xs 0 8)) := HX9.out.cell 0
        have y1 : w9.cell? ⟨w8.heap.size, 1, none⟩ = some (.int .u64 (ex xs 8 8)) := HX9.out.cell 1
        have y2 : w9.cell? ⟨w8.heap.size, 2, none⟩ = some (.int .i64 (ex xs 16 1)) := HX9.out.cell 2
        have y3 : w9.cell? ⟨w8.heap.size, 3, none⟩ = some (.int .i64 (ex xs 17 1)) := HX9.out.cell 3
        have y4 : w9.cell? ⟨w8.heap.size, 4, none⟩ = some (.complex .f64 (gre (ex xs 18 1) (ex xs 19 1) (ex xs 20 1)) (gim (ex xs 18 1) (ex xs 19 1) (ex xs 20 1))) := HX9.out.cell 4
        have y5 : w9.cell? ⟨w8.heap.size, 5, none⟩ = some (.bool (ex xs 21 1 == 1)) := HX9.out.cell 5
        have y6 : w9.cell? ⟨w8.heap.size, 6, none⟩ = some (.string s) := HX9.out.cell 6
        have y7 : w9.cell? ⟨w8.heap.size, 7, none⟩ = some (.string t) := HX9.out.cell 7
        go_wp2_with fail
        obtain ⟨hB, hG⟩ := zer8 w9 w.heap.size (ex xs 0 8) (ex xs 8 8) (ex xs 16 1) (ex xs 17 1) (gre (ex xs 18 1) (ex xs 19 1) (ex xs 20 1)) (gim (ex xs 18 1) (ex xs 19 1) (ex xs 20 1)) (ex xs 21 1 == 1) s t HV9.out.2
        refine bodyPost_ret (v := .tuple #[.agg (cells (rit xs s t)), .int .i64 0]) (results_cell_tmp_row (fn := Tryz.f77) rfl _ _ w.heap.size 99 (cells (rit xs s t)) (0, 0) _ rfl hB Tryz.underlying99 rfl info_item) rfl ⟨by rw [HG1.out, HG2.out, ← HRIT.out], ?_⟩
        exact HV9.out.1.grown hG HV9.out.1.size (by intro k hk; injection hk with hk; omega)
    · have hq2 : (a != (n : Int)) = true := by rw [bne_iff_ne]; exact hq
      obtain ⟨g1, g2⟩ := ge_left n22 (by have := HNX.out; omega) (by rw [HT1.out]; simp) (by rw [HT2.out]; simp) (by rw [← HHA.out, hl]; exact hq)
      have HG1 := Lib.hid g1
      have HG2 := Lib.hid g2
      clear g1 g2 hq
      go_wp2_with fail
      obtain ⟨hB, hG⟩ := zer8 V w.heap.size 0 0 0 0 0 0 false ⟨#[]⟩ ⟨#[]⟩ HV.out.2
      refine bodyPost_ret (v := .tuple #[.agg zer, .int .i64 2]) (results_cell_tmp_row (fn := Tryz.f77) rfl _ _ w.heap.size 99 zer (0, 0) _ rfl hB Tryz.underlying99 rfl info_item) rfl ⟨by rw [HG1.out, HG2.out], ?_⟩
      exact HV.out.1.grown hG HV.out.1.size (by intro k hk; injection hk with hk; omega)
  · have hz : (e2 xs != 0) = true := by rw [bne_iff_ne]; exact he
    obtain ⟨g1, g2⟩ := bad_is he
    have HG1 := Lib.hid g1
    have HG2 := Lib.hid g2
    clear g1 g2 he
    generalize e2 xs = er at *
    go_wp2_with fail
    go_region_law (fail)
    all_goals go_wp2_with fail
    all_goals
      obtain ⟨hB, hG⟩ := zer8 V w.heap.size 0 0 0 0 0 0 false ⟨#[]⟩ ⟨#[]⟩ HV.out.2
      refine bodyPost_ret (v := .tuple #[.agg zer, .int .i64 er]) (results_cell_tmp_row (fn := Tryz.f77) rfl _ _ w.heap.size 99 zer (0, 0) _ rfl hB.drew Tryz.underlying99 rfl info_item) rfl ⟨by rw [HG1.out, HG2.out], ?_⟩
      exact (HV.out.1.grown hG HV.out.1.size (by intro k hk; injection hk with hk; omega)).drew
end Go.Proofs.YthbafcihmcjchaaGreatDoor.RingGq

/- The project's take of layer 8: what is found behind a live sector's head, by goto. -/
namespace Go.Proofs.YthbafcihmcjchaaGreatDoor.ScanZ
set_option linter.unusedVariables false
set_option linter.unusedSimpArgs false
open Go.RowKit
open Go.Proofs.YthbafcihmcjchaaGreatDoor.Byte Go.Proofs.YthbafcihmcjchaaGreatDoor.PlaceM Go.Proofs.YthbafcihmcjchaaGreatDoor.PlaceV Go.Proofs.YthbafcihmcjchaaGreatDoor.RecM Go.Proofs.YthbafcihmcjchaaGreatDoor.RecX Go.Proofs.YthbafcihmcjchaaGreatDoor.RingM Go.Proofs.YthbafcihmcjchaaGreatDoor.RingN Go.Proofs.YthbafcihmcjchaaGreatDoor.RingC Go.Proofs.YthbafcihmcjchaaGreatDoor.RingK Go.Proofs.YthbafcihmcjchaaGreatDoor.RingF Go.Proofs.YthbafcihmcjchaaGreatDoor.RingS Go.Proofs.YthbafcihmcjchaaGreatDoor.ScanM Go.Proofs.YthbafcihmcjchaaGreatDoor.ScanO Go.Proofs.YthbafcihmcjchaaGreatDoor.Own

attribute [local go_sem] Own.run_store_complex
/-- A scope in which the run jumps back to one label: what stands behind the label is walked once. -/
theorem scope_label {P : Program} {a : Act} {w : World} {Q : Exit → Act → World → Prop} {c rest : Code} (l : Nat) (J : Act → World → Prop) (μ : Act → World → Nat) (hf : findLabel c l = some (.seq .skip rest))
    (pass : ∀ a w, J a w → rest.wp P (Exit.jump l (fun a' w' => J a' w' ∧ μ a' w' < μ a w) Q) a w)
    (first : (∀ a w, J a w → rest.wp P (Exit.jump l J Q) a w) → c.wp P (Exit.jump l J Q) a w) : (Code.scope c).wp P Q a w := by
  refine wp_scope_jumps l J μ hf (first ?_) (fun a w h => wp_seq (wp_skip (pass a w h)))
  intro a w hJ b k cs
  obtain ⟨e, a1, w1, hq, harr⟩ := pass a w hJ b k cs
  refine ⟨e, a1, w1, ?_, harr⟩
  cases e with
  | goto l' => exact ⟨hq.1, hq.2.1⟩
  | normal => exact hq
  | exit _ => exact hq
  | ret => exact hq
  | panic _ => exact hq
  | outgrown => exact hq
/-- What is found, and the end, as answered. -/
def TakeE (L : List Fnd) (E : Nat) (w : World) (en : Ending) (w' : World) : Prop :=
  ∃ v, en = .returned (.tuple #[v, .int .i64 E]) ∧ w'.ownsRow w.heap.size 103 11 v L.length (flat L) ∧ Below w.heap.size w w'
set_option maxRecDepth 100000 in
set_option maxHeartbeats 4000000 in
theorem take_calls (A : Option Addr) (m c k : Nat) (xs : List Int) (w : World) (hb : Bs w A m xs) (hc : m ≤ c) (hm : m ≤ 100000) (hk : k ≤ 1000000) (h8 : 8 ≤ m) (hN : PlaceH.Nowhere w) :
    Calls Tryz.prog 62 #[.int .i64 k, .slice A m c] w (TakeE (sc xs k 8).1 (sc xs k 8).2.1 w) := by
  have HB := Lib.hid hb
  have HN := Lib.hid hN
  clear hb hN
  have CL := Lib.hid (fun (a : Nat) w hb => RecX.class_calls A m c xs a w hb (by omega) hc)
  obtain ⟨L0, hL0⟩ : ∃ x, (sc xs k 8).1 = x := ⟨_, rfl⟩
  obtain ⟨E0, hE0⟩ : ∃ x, (sc xs k 8).2.1 = x := ⟨_, rfl⟩
  have HE0 := Lib.hid hE0
  have HL0 := Lib.hid hL0
  rw [hL0, hE0]
  clear hE0 hL0
  obtain ⟨j0, hjx, hy0, hy1, hy2⟩ := info_parts info_found
  go_enter Tryz.func62, Tryz.ntmps62
  go_wp2_with fail
  refine scope_label 0 (fun a' wr => ∃ (a : Nat) (L1 : List Fnd) (v : Value) (u8 u9 u10 u11 u12 u13 u14 u15 u16 u17 u18 u19 u20 u21 u22 u23 u24 u25 u26 u27 u28 u29 u30 u31 u32 u33 u34 u35 u36 u37 u38 u39 u40 u41 u42 u43 u44 u45 u46 u47 u48 u49 u50 : Value), a' = { tmps := #[.int .i64 k, .slice A m c, undef, undef, .slice none 0 0, .int .i64 0, v, .int .i64 a, u8, u9, u10, u11, u12, u13, u14, u15, u16, u17, u18, u19, u20, u21, u22, u23, u24, u25, u26, u27, u28, u29, u30, u31, u32, u33, u34, u35, u36, u37, u38, u39, u40, u41, u42, u43, u44, u45, u46, u47, u48, u49, u50], defers := [] } ∧ a ≤ m ∧ wr.ownsRow w.heap.size 103 11 v L1.length (flat L1) ∧ Hid (L1 ++ (sc xs k a).1 = L0 ∧ (sc xs k a).2.1 = E0) ∧ Below w.heap.size w wr) (fun a' _ => m - (intOf (a'.tmps.getD 7 undef)).toNat) (by rfl) ?pass ?first
  case first =>
    intro HP
    have HP2 := Lib.hid HP
    clear HP
    go_wp2_with fail
    go_step3
    rename_i q' kk hK
    refine hK _ _ (HP2.out _ _ ⟨8, [], _, _, _, _, _, _, _, _, _, _, _, _, _, _, _, _, _, _, _, _, _, _, _, _, _, _, _, _, _, _, _, _, _, _, _, _, _, _, _, _, _, _, _, _, rfl, h8, World.ownsRow_nil _ _ _ _, Lib.hid ⟨HL0.out, HE0.out⟩, Below.refl _ _⟩)
  case pass =>
    rintro a' wr ⟨a, L1, v, u8, u9, u10, u11, u12, u13, u14, u15, u16, u17, u18, u19, u20, u21, u22, u23, u24, u25, u26, u27, u28, u29, u30, u31, u32, u33, u34, u35, u36, u37, u38, u39, u40, u41, u42, u43, u44, u45, u46, u47, u48, u49, u50, rfl, ha, hrow, HSC, hbel⟩
    have HRW := Lib.hid hrow
    have HBL := Lib.hid hbel
    have hvs : ∃ D N p, v = .slice D N p := own_slice hrow
    have hL1 : L1.length ≤ m := by
      have := congrArg List.length HSC.out.1
      rw [List.length_append, ← HL0.out] at this
      have h2 := sc_few xs k 8
      rw [HB.out.len] at h2
      omega
    have hbs := hbel.size
    clear hrow hbel
    obtain ⟨D, N, p, rfl⟩ := hvs
    obtain ⟨s, hs⟩ : ∃ s, cs xs a = s := ⟨_, rfl⟩
    obtain ⟨r, hr⟩ : ∃ r, cr xs a = r := ⟨_, rfl⟩
    obtain ⟨q, hq⟩ : ∃ q, ce xs a = q := ⟨_, rfl⟩
    obtain ⟨x, hx⟩ : ∃ x, gans r = x := ⟨_, rfl⟩
    obtain ⟨g, hg⟩ : ∃ g, gerr r = g := ⟨_, rfl⟩
    have hs5 : s = 0 ∨ s = 3 ∨ s = 6 ∨ s = 4 ∨ s = 5 := by rw [← hs]; exact cs_five xs a
    have hrl : r.length ≤ 100000 := by rw [← hr]; exact Nat.le_trans (cr_len xs a) (by rw [HB.out.len]; omega)
    have CA := Lib.hid (CL.out a wr (HB.out.below HBL.out))
    rw [hs, hr, hq] at CA
    rcases hs5 with h5 | h5 | h5 | h5 | h5
    · subst h5
      have ho : on xs a = false := by unfold on; rw [hs, hr]; rfl
      have HSO := Lib.hid (sc_off (k := k) ho)
      go_wp2_with fail
      refine CA.out.mono ?_
      rintro e w2 ⟨A2, c2, rfl, hbs2, _, hc2, hb2⟩
      have HBS := Lib.hid hbs2
      have HB2 := Lib.hid hb2
      have hz2 := hb2.size
      clear hbs2 hb2
      go_wp2_with fail
      try simp only [Exit.jump]
      go_ret2
      obtain ⟨z1, z2⟩ := HSC.out
      rw [HSO.out] at z1 z2
      dsimp only at z1 z2
      rw [List.append_nil] at z1
      subst z1
      subst z2
      exact ⟨_, rfl, RingF.own_below HRW.out (HB2.out), keeps HBL.out (HB2.out)⟩
    · subst h5
      have ho : on xs a = false := by unfold on; rw [hs, hr]; rfl
      have HSO := Lib.hid (sc_off (k := k) ho)
      go_wp2_with fail
      refine CA.out.mono ?_
      rintro e w2 ⟨A2, c2, rfl, hbs2, _, hc2, hb2⟩
      have HBS := Lib.hid hbs2
      have HB2 := Lib.hid hb2
      have hz2 := hb2.size
      clear hbs2 hb2
      go_wp2_with fail
      try simp only [Exit.jump]
      go_ret2
      obtain ⟨z1, z2⟩ := HSC.out
      rw [HSO.out] at z1 z2
      dsimp only at z1 z2
      rw [List.append_nil] at z1
      subst z1
      subst z2
      exact ⟨_, rfl, RingF.own_below HRW.out (HB2.out), keeps HBL.out (HB2.out)⟩
    · subst h5
      obtain ⟨rl, he, hel, _⟩ := on_end (xs := xs) (a := a) (by unfold on; rw [hs]; rfl)
      rw [HB.out.len] at hel
      have HSK := Lib.hid (sc_skip (k := k) hs he)
      rw [he] at hq
      subst hq
      go_wp2_with fail
      refine CA.out.mono ?_
      rintro e w2 ⟨A2, c2, rfl, hbs2, _, hc2, hb2⟩
      have HBS := Lib.hid hbs2
      have HB2 := Lib.hid hb2
      have hz2 := hb2.size
      clear hbs2 hb2
      go_wp2_with fail
      go_step3
      refine ⟨rfl, ⟨a + 8 + rl, L1, _, _, _, _, _, _, _, _, _, _, _, _, _, _, _, _, _, _, _, _, _, _, _, _, _, _, _, _, _, _, _, _, _, _, _, _, _, _, _, _, _, _, _, _, rfl, hel, RingF.own_below HRW.out HB2.out, Lib.hid (by rw [← HSK.out]; exact HSC.out), keeps HBL.out HB2.out⟩, ?_⟩
      simp [intOf]; omega
    · subst h5
      have GA : Hid (∀ (A2 : Option Addr) (c2 : Nat) (w2 : World), Bs w2 A2 r.length r → r.length ≤ c2 → PlaceH.Nowhere w2 → Calls Tryz.prog 77 #[.slice A2 r.length c2] w2 (ItE x g w2)) := Lib.hid (by intro A2 c2 w2 hb hc hn; have := RingGq.get_item A2 r.length c2 r w2 hb hrl hc hn; rw [hx, hg] at this; exact this)
      obtain ⟨seq, ver, index, count, re, im, gone, key, value⟩ := x
      go_wp2_with fail
      refine CA.out.mono ?_
      rintro e w2 ⟨A2, c2, rfl, hbs2, _, hc2, hb2⟩
      have HBS := Lib.hid hbs2
      have HB2 := Lib.hid hb2
      have hz2 := hb2.size
      clear hbs2 hb2
      have HN2 := Lib.hid (HN.out.below (keeps HBL.out HB2.out))
      by_cases hg0 : g = 0
      rotate_left
      · have dg : (g != 0) = true := by rw [bne_iff_ne]; exact hg0
        have ho : on xs a = false := by unfold on; rw [hs, hr, hg]; simp; exact hg0
        have HSO := Lib.hid (sc_off (k := k) ho)
        clear hg hx hr hs hq hg0 ho
        go_wp2_with fail
        refine (GA.out _ _ _ HBS.out hc2 HN2.out).mono ?_
        rintro e w3 ⟨rfl, hb3⟩
        have HB3 := Lib.hid (keeps HB2.out hb3)
        clear hb3
        go_wp2_with fail
        try simp only [Exit.jump]
        go_ret2
        obtain ⟨z1, z2⟩ := HSC.out
        rw [HSO.out] at z1 z2
        dsimp only at z1 z2
        rw [List.append_nil] at z1
        subst z1
        subst z2
        exact ⟨_, rfl, RingF.own_below HRW.out (HB3.out.alloc HB3.out.size _), keeps HBL.out (HB3.out.alloc HB3.out.size _)⟩
      · subst hg0
        have dg : ((0 : Int) != 0) = false := rfl
        obtain ⟨rl, he, hel, _⟩ := on_end (xs := xs) (a := a) (by unfold on; rw [hs, hr, hg]; rfl)
        rw [HB.out.len] at hel
        have hon := sc_one (k := k) (.inl hs) (by rw [hr]; exact hg) he
        have hfd : fnd xs k a = ⟨floatOfInt .f64 k, floatOfInt .f64 a, ((a + 8 + rl : Nat) : Int) - a, false, ⟨seq, ver, index, count, re, im, gone, key, value⟩⟩ := by unfold fnd; rw [hs, hr, hx, he]; rfl
        have HQ : Hid (q = ((a + 8 + rl : Nat) : Int)) := Lib.hid (by rw [← hq, he])
        have hq1 : (a : Int) ≤ q := by rw [HQ.out]; omega
        have hq2 : q ≤ 1000000 := by rw [HQ.out]; omega
        obtain ⟨zr, hzr⟩ : ∃ z, floatOfInt .f64 (k : Int) = z := ⟨_, rfl⟩
        obtain ⟨zi, hzi⟩ : ∃ z, floatOfInt .f64 (a : Int) = z := ⟨_, rfl⟩
        have PL := Lib.hid (fun w => PlaceV.of_yes (k : Int) (a : Int) w (by omega) (by omega) (by omega) (by omega))
        rw [hzr, hzi] at PL hfd
        rw [← HQ.out] at hfd
        have HFD := Lib.hid hfd
        have HON := Lib.hid hon
        have e1 : IntKind.i64.wrap (q - (a : Int)) = q - (a : Int) := IntWalk.i64_in _ (by omega)
        clear hg hx hr hs hq hzr hzi hfd hon he
        go_wp2_with fail
        refine (GA.out _ _ _ HBS.out hc2 HN2.out).mono ?_
        rintro e w3 ⟨rfl, hb3⟩
        have HB3 := Lib.hid (keeps HB2.out hb3)
        clear hb3
        have hA4 := Blk.new_ w3 #[.int .u64 seq, .int .u64 ver, .int .i64 index, .int .i64 count, .complex .f64 re im, .bool gone, .string key, .string value] 99
        obtain ⟨V, hV⟩ : ∃ V, w3.alloc (.cells #[.int .u64 seq, .int .u64 ver, .int .i64 index, .int .i64 count, .complex .f64 re im, .bool gone, .string key, .string value] 99) = V := ⟨_, rfl⟩
        have hb4 : Below wr.heap.size wr V := by rw [← hV]; exact HB3.out.alloc HB3.out.size _
        rw [hV] at hA4
        have HW4 := Lib.hid (keeps HBL.out hb4)
        have HRW4 := Lib.hid (RingF.own_below HRW.out hb4)
        have hVl := hA4.lt
        have hVz := HW4.out.size
        have HV := Lib.hid hV
        have s0 : V.cell? ⟨w3.heap.size, 0, none⟩ = some (.int .u64 seq) := hA4.cell 0
        have s1 : V.cell? ⟨w3.heap.size, 1, none⟩ = some (.int .u64 ver) := hA4.cell 1
        have s2 : V.cell? ⟨w3.heap.size, 2, none⟩ = some (.int .i64 index) := hA4.cell 2
        have s3 : V.cell? ⟨w3.heap.size, 3, none⟩ = some (.int .i64 count) := hA4.cell 3
        have s4 : V.cell? ⟨w3.heap.size, 4, none⟩ = some (.complex .f64 re im) := hA4.cell 4
        have s5 : V.cell? ⟨w3.heap.size, 5, none⟩ = some (.bool gone) := hA4.cell 5
        have s6 : V.cell? ⟨w3.heap.size, 6, none⟩ = some (.string key) := hA4.cell 6
        have s7 : V.cell? ⟨w3.heap.size, 7, none⟩ = some (.string value) := hA4.cell 7
        have hgb : ∀ g, (Value.slice D N p).ownBlock = some g → w.heap.size ≤ g := fun g hg => (HRW4.out.lt g hg).1
        have HNX : Hid (∀ (wz : World) (gg cap : Nat), wz.ownsRow w.heap.size 103 11 (.slice (some ⟨gg, 0, none⟩) (L1.length + 1) cap) (L1.length + 1) (flat L1 ++ [.complex .f64 zr zi, .int .i64 (q - a), .bool false, .int .u64 seq, .int .u64 ver, .int .i64 index, .int .i64 count, .complex .f64 re im, .bool gone, .string key, .string value]) → (V.alloc (.cells #[.complex .f64 zr zi, .int .i64 (q - a), .bool false, .int .u64 seq, .int .u64 ver, .int .i64 index, .int .i64 count, .complex .f64 re im, .bool gone, .string key, .string value] 103)).drew.grownBy wz (Value.slice D N p).ownBlock → wz.ownsRow w.heap.size 103 11 (.slice (some ⟨gg, 0, none⟩) (L1.length + 1) cap) (L1.length + 1) (flat L1 ++ [.complex .f64 zr zi, .int .i64 (q - a), .bool false, .int .u64 seq, .int .u64 ver, .int .i64 index, .int .i64 count, .complex .f64 re im, .bool gone, .string key, .string value]) ∧ Below w.heap.size w wz) := Lib.hid (by
          intro wz gg cap ho hg
          exact ⟨ho, (((HW4.out.alloc HW4.out.size (.cells #[.complex .f64 zr zi, .int .i64 (q - a), .bool false, .int .u64 seq, .int .u64 ver, .int .i64 index, .int .i64 count, .complex .f64 re im, .bool gone, .string key, .string value] 103)).drew).grown hg (by have := HW4.out.size; simp; omega) (fun g e => by have := hgb _ e; omega))⟩)
        clear hA4 hgb hb4
        go_wp2_with fail
        clear hV HV
        go_region_law (first
          | (go_simp; go_at_call 7; refine (PL.out _).mono ?_; rintro e w' ⟨rfl, rfl⟩)
          | (refine step_append_lies _ (by rfl) _ _ _ (by rfl) w.heap.size 103 j0 _ 11 120 Tryz.underlying50 hjx hy0 hy1 hy2 rfl (by omega) (.slice D N p) L1.length _ (by rfl) ((HRW4.out.alloc _).drew) ⟨V.heap.size, 0, none⟩ 1 1 [.complex .f64 zr zi, .int .i64 (q - a), .bool false, .int .u64 seq, .int .u64 ver, .int .i64 index, .int .i64 count, .complex .f64 re im, .bool gone, .string key, .string value] (by rfl) (by rfl) (World.news_of_block (cs := #[.complex .f64 zr zi, .int .i64 (q - a), .bool false, .int .u64 seq, .int .u64 ver, .int .i64 index, .int .i64 count, .complex .f64 re im, .bool gone, .string key, .string value]) (t := 103) (fr := (0, 0)) (heap_alloc_new V _)) (by simp [Value.oneCell']) (by omega) (by unfold maxLen; omega) (by omega) (by simp; omega) (V.heap.size + 1) (by simp) ?_; intro gg cap wz hown3 hgrow hat3 hlt3; have hn4 := HNX.out wz gg cap hown3 hgrow; have HN4 := Lib.hid hn4; clear hn4))
        all_goals
          clear hown3 hgrow hat3 hlt3 s0 s1 s2 s3 s4 s5 s6 s7
          go_wp2_with fail
          go_step3
          refine ⟨rfl, ⟨a + 8 + rl, L1 ++ [fnd xs k a], _, _, _, _, _, _, _, _, _, _, _, _, _, _, _, _, _, _, _, _, _, _, _, _, _, _, _, _, _, _, _, _, _, _, _, _, _, _, _, _, _, _, _, _, by rw [HQ.out], hel, ?_, Lib.hid ?_, HN4.out.2⟩, ?_⟩
          · have := HN4.out.1
            rw [List.length_append, List.length_singleton]
            unfold flat at this ⊢
            rw [List.flatMap_append, List.flatMap_singleton, HFD.out]
            exact this
          · have := HSC.out
            rw [HON.out] at this
            rw [List.append_assoc]
            exact this
          · simp [intOf]; have := HQ.out; omega
    · subst h5
      have GA : Hid (∀ (A2 : Option Addr) (c2 : Nat) (w2 : World), Bs w2 A2 r.length r → r.length ≤ c2 → PlaceH.Nowhere w2 → Calls Tryz.prog 77 #[.slice A2 r.length c2] w2 (ItE x g w2)) := Lib.hid (by intro A2 c2 w2 hb hc hn; have := RingGq.get_item A2 r.length c2 r w2 hb hrl hc hn; rw [hx, hg] at this; exact this)
      obtain ⟨seq, ver, index, count, re, im, gone, key, value⟩ := x
      go_wp2_with fail
      refine CA.out.mono ?_
      rintro e w2 ⟨A2, c2, rfl, hbs2, _, hc2, hb2⟩
      have HBS := Lib.hid hbs2
      have HB2 := Lib.hid hb2
      have hz2 := hb2.size
      clear hbs2 hb2
      have HN2 := Lib.hid (HN.out.below (keeps HBL.out HB2.out))
      by_cases hg0 : g = 0
      rotate_left
      · have dg : (g != 0) = true := by rw [bne_iff_ne]; exact hg0
        have ho : on xs a = false := by unfold on; rw [hs, hr, hg]; simp; exact hg0
        have HSO := Lib.hid (sc_off (k := k) ho)
        clear hg hx hr hs hq hg0 ho
        go_wp2_with fail
        refine (GA.out _ _ _ HBS.out hc2 HN2.out).mono ?_
        rintro e w3 ⟨rfl, hb3⟩
        have HB3 := Lib.hid (keeps HB2.out hb3)
        clear hb3
        go_wp2_with fail
        try simp only [Exit.jump]
        go_ret2
        obtain ⟨z1, z2⟩ := HSC.out
        rw [HSO.out] at z1 z2
        dsimp only at z1 z2
        rw [List.append_nil] at z1
        subst z1
        subst z2
        exact ⟨_, rfl, RingF.own_below HRW.out (HB3.out.alloc HB3.out.size _), keeps HBL.out (HB3.out.alloc HB3.out.size _)⟩
      · subst hg0
        have dg : ((0 : Int) != 0) = false := rfl
        obtain ⟨rl, he, hel, _⟩ := on_end (xs := xs) (a := a) (by unfold on; rw [hs, hr, hg]; rfl)
        rw [HB.out.len] at hel
        have hon := sc_one (k := k) (.inr hs) (by rw [hr]; exact hg) he
        have hfd : fnd xs k a = ⟨floatOfInt .f64 k, floatOfInt .f64 a, ((a + 8 + rl : Nat) : Int) - a, true, ⟨seq, ver, index, count, re, im, gone, key, value⟩⟩ := by unfold fnd; rw [hs, hr, hx, he]; rfl
        have HQ : Hid (q = ((a + 8 + rl : Nat) : Int)) := Lib.hid (by rw [← hq, he])
        have hq1 : (a : Int) ≤ q := by rw [HQ.out]; omega
        have hq2 : q ≤ 1000000 := by rw [HQ.out]; omega
        obtain ⟨zr, hzr⟩ : ∃ z, floatOfInt .f64 (k : Int) = z := ⟨_, rfl⟩
        obtain ⟨zi, hzi⟩ : ∃ z, floatOfInt .f64 (a : Int) = z := ⟨_, rfl⟩
        have PL := Lib.hid (fun w => PlaceV.of_yes (k : Int) (a : Int) w (by omega) (by omega) (by omega) (by omega))
        rw [hzr, hzi] at PL hfd
        rw [← HQ.out] at hfd
        have HFD := Lib.hid hfd
        have HON := Lib.hid hon
        have e1 : IntKind.i64.wrap (q - (a : Int)) = q - (a : Int) := IntWalk.i64_in _ (by omega)
        clear hg hx hr hs hq hzr hzi hfd hon he
        go_wp2_with fail
        refine (GA.out _ _ _ HBS.out hc2 HN2.out).mono ?_
        rintro e w3 ⟨rfl, hb3⟩
        have HB3 := Lib.hid (keeps HB2.out hb3)
        clear hb3
        have hA4 := Blk.new_ w3 #[.int .u64 seq, .int .u64 ver, .int .i64 index, .int .i64 count, .complex .f64 re im, .bool gone, .string key, .string value] 99
        obtain ⟨V, hV⟩ : ∃ V, w3.alloc (.cells #[.int .u64 seq, .int .u64 ver, .int .i64 index, .int .i64 count, .complex .f64 re im, .bool gone, .string key, .string value] 99) = V := ⟨_, rfl⟩
        have hb4 : Below wr.heap.size wr V := by rw [← hV]; exact HB3.out.alloc HB3.out.size _
        rw [hV] at hA4
        have HW4 := Lib.hid (keeps HBL.out hb4)
        have HRW4 := Lib.hid (RingF.own_below HRW.out hb4)
        have hVl := hA4.lt
        have hVz := HW4.out.size
        have HV := Lib.hid hV
        have s0 : V.cell? ⟨w3.heap.size, 0, none⟩ = some (.int .u64 seq) := hA4.cell 0
        have s1 : V.cell? ⟨w3.heap.size, 1, none⟩ = some (.int .u64 ver) := hA4.cell 1
        have s2 : V.cell? ⟨w3.heap.size, 2, none⟩ = some (.int .i64 index) := hA4.cell 2
        have s3 : V.cell? ⟨w3.heap.size, 3, none⟩ = some (.int .i64 count) := hA4.cell 3
        have s4 : V.cell? ⟨w3.heap.size, 4, none⟩ = some (.complex .f64 re im) := hA4.cell 4
        have s5 : V.cell? ⟨w3.heap.size, 5, none⟩ = some (.bool gone) := hA4.cell 5
        have s6 : V.cell? ⟨w3.heap.size, 6, none⟩ = some (.string key) := hA4.cell 6
        have s7 : V.cell? ⟨w3.heap.size, 7, none⟩ = some (.string value) := hA4.cell 7
        have hgb : ∀ g, (Value.slice D N p).ownBlock = some g → w.heap.size ≤ g := fun g hg => (HRW4.out.lt g hg).1
        have HNX : Hid (∀ (wz : World) (gg cap : Nat), wz.ownsRow w.heap.size 103 11 (.slice (some ⟨gg, 0, none⟩) (L1.length + 1) cap) (L1.length + 1) (flat L1 ++ [.complex .f64 zr zi, .int .i64 (q - a), .bool true, .int .u64 seq, .int .u64 ver, .int .i64 index, .int .i64 count, .complex .f64 re im, .bool gone, .string key, .string value]) → (V.alloc (.cells #[.complex .f64 zr zi, .int .i64 (q - a), .bool true, .int .u64 seq, .int .u64 ver, .int .i64 index, .int .i64 count, .complex .f64 re im, .bool gone, .string key, .string value] 103)).drew.grownBy wz (Value.slice D N p).ownBlock → wz.ownsRow w.heap.size 103 11 (.slice (some ⟨gg, 0, none⟩) (L1.length + 1) cap) (L1.length + 1) (flat L1 ++ [.complex .f64 zr zi, .int .i64 (q - a), .bool true, .int .u64 seq, .int .u64 ver, .int .i64 index, .int .i64 count, .complex .f64 re im, .bool gone, .string key, .string value]) ∧ Below w.heap.size w wz) := Lib.hid (by
          intro wz gg cap ho hg
          exact ⟨ho, (((HW4.out.alloc HW4.out.size (.cells #[.complex .f64 zr zi, .int .i64 (q - a), .bool true, .int .u64 seq, .int .u64 ver, .int .i64 index, .int .i64 count, .complex .f64 re im, .bool gone, .string key, .string value] 103)).drew).grown hg (by have := HW4.out.size; simp; omega) (fun g e => by have := hgb _ e; omega))⟩)
        clear hA4 hgb hb4
        go_wp2_with fail
        clear hV HV
        go_region_law (first
          | (go_simp; go_at_call 7; refine (PL.out _).mono ?_; rintro e w' ⟨rfl, rfl⟩)
          | (refine step_append_lies _ (by rfl) _ _ _ (by rfl) w.heap.size 103 j0 _ 11 120 Tryz.underlying50 hjx hy0 hy1 hy2 rfl (by omega) (.slice D N p) L1.length _ (by rfl) ((HRW4.out.alloc _).drew) ⟨V.heap.size, 0, none⟩ 1 1 [.complex .f64 zr zi, .int .i64 (q - a), .bool true, .int .u64 seq, .int .u64 ver, .int .i64 index, .int .i64 count, .complex .f64 re im, .bool gone, .string key, .string value] (by rfl) (by rfl) (World.news_of_block (cs := #[.complex .f64 zr zi, .int .i64 (q - a), .bool true, .int .u64 seq, .int .u64 ver, .int .i64 index, .int .i64 count, .complex .f64 re im, .bool gone, .string key, .string value]) (t := 103) (fr := (0, 0)) (heap_alloc_new V _)) (by simp [Value.oneCell']) (by omega) (by unfold maxLen; omega) (by omega) (by simp; omega) (V.heap.size + 1) (by simp) ?_; intro gg cap wz hown3 hgrow hat3 hlt3; have hn4 := HNX.out wz gg cap hown3 hgrow; have HN4 := Lib.hid hn4; clear hn4))
        all_goals
          clear hown3 hgrow hat3 hlt3 s0 s1 s2 s3 s4 s5 s6 s7
          go_wp2_with fail
          go_step3
          refine ⟨rfl, ⟨a + 8 + rl, L1 ++ [fnd xs k a], _, _, _, _, _, _, _, _, _, _, _, _, _, _, _, _, _, _, _, _, _, _, _, _, _, _, _, _, _, _, _, _, _, _, _, _, _, _, _, _, _, _, _, _, by rw [HQ.out], hel, ?_, Lib.hid ?_, HN4.out.2⟩, ?_⟩
          · have := HN4.out.1
            rw [List.length_append, List.length_singleton]
            unfold flat at this ⊢
            rw [List.flatMap_append, List.flatMap_singleton, HFD.out]
            exact this
          · have := HSC.out
            rw [HON.out] at this
            rw [List.append_assoc]
            exact this
          · simp [intOf]; have := HQ.out; omega
end Go.Proofs.YthbafcihmcjchaaGreatDoor.ScanZ

/- Items compared. -/
namespace Go.Proofs.YthbafcihmcjchaaGreatDoor.RingQ
set_option linter.unusedVariables false
set_option maxRecDepth 100000
set_option linter.unusedSimpArgs false
open Go.RowKit
open Go.Proofs.YthbafcihmcjchaaGreatDoor.RingM Go.Proofs.YthbafcihmcjchaaGreatDoor.RingC

theorem eq_complex (d : Nat) (a b c e : Nat) (w : World) (h1 : FloatKind.f64.format.order a c = some .eq) (h2 : FloatKind.f64.format.order b e = some .eq) : (Op.equalIn (d + 1) 36 (.complex .f64 a b) (.complex .f64 c e)).run Tryz.prog w = .ok true w := by
  simp [Op.equalIn, run_underlying Tryz.underlying36, Op.floatEq, h1, h2]
theorem eq_item (seq ver index count : Int) (re im re' im' : Nat) (gone : Bool) (key value : ByteArray) (w : World) (h1 : FloatKind.f64.format.order re re' = some .eq) (h2 : FloatKind.f64.format.order im im' = some .eq) :
    (Op.equalIn 10000 99 (.agg #[.int .u64 seq, .int .u64 ver, .int .i64 index, .int .i64 count, .complex .f64 re im, .bool gone, .string key, .string value]) (.agg #[.int .u64 seq, .int .u64 ver, .int .i64 index, .int .i64 count, .complex .f64 re' im', .bool gone, .string key, .string value])).run Tryz.prog w = .ok true w := by
  have hc := fun w => eq_complex 9998 re im re' im' w h1 h2
  rw [show (10000 : Nat) = 9999 + 1 from rfl, run_equalIn_struct w 9999 99 _ _ (by kernel_rfl) (by kernel_rfl)]
  have u1 := Tryz.underlying76
  have u2 := Tryz.underlying3
  have u3 := Tryz.underlying4
  have u4 := Tryz.underlying9
  have hfs : Tryz.prog.fieldsOf 99 = (match Tryz.prog.underlying 99 with | some (.struct fs) => fs | _ => #[]) := rfl
  rw [hfs, Tryz.underlying99]
  go_simp
end Go.Proofs.YthbafcihmcjchaaGreatDoor.RingQ

/- Sectors compared: the document's Same and SameSector of layer 8. -/
namespace Go.Proofs.YthbafcihmcjchaaGreatDoor.ScanP
set_option linter.unusedVariables false
set_option linter.unusedSimpArgs false
open Go.RowKit
open Go.Proofs.YthbafcihmcjchaaGreatDoor.Byte Go.Proofs.YthbafcihmcjchaaGreatDoor.RingM Go.Proofs.YthbafcihmcjchaaGreatDoor.RingN Go.Proofs.YthbafcihmcjchaaGreatDoor.RingC Go.Proofs.YthbafcihmcjchaaGreatDoor.RingK Go.Proofs.YthbafcihmcjchaaGreatDoor.RingF Go.Proofs.YthbafcihmcjchaaGreatDoor.RingS Go.Proofs.YthbafcihmcjchaaGreatDoor.RingQ Go.Proofs.YthbafcihmcjchaaGreatDoor.ScanM Go.Proofs.YthbafcihmcjchaaGreatDoor.Own

/-- No number of its places is NaN. -/
def Rf (x : Fnd) : Prop := FloatKind.f64.format.order x.re x.re = some .eq ∧ FloatKind.f64.format.order x.im x.im = some .eq ∧ FloatKind.f64.format.order x.item.re x.item.re = some .eq ∧ FloatKind.f64.format.order x.item.im x.item.im = some .eq
set_option maxRecDepth 100000 in
theorem eq_found (re im : Nat) (sz : Int) (st : Bool) (seq ver index count : Int) (r i : Nat) (gone : Bool) (key value : ByteArray) (w : World) (h1 : FloatKind.f64.format.order re re = some .eq) (h2 : FloatKind.f64.format.order im im = some .eq) (h3 : FloatKind.f64.format.order r r = some .eq) (h4 : FloatKind.f64.format.order i i = some .eq) :
    (Op.equalIn 10000 103 (.agg #[.complex .f64 re im, .int .i64 sz, .bool st, .int .u64 seq, .int .u64 ver, .int .i64 index, .int .i64 count, .complex .f64 r i, .bool gone, .string key, .string value]) (.agg #[.complex .f64 re im, .int .i64 sz, .bool st, .int .u64 seq, .int .u64 ver, .int .i64 index, .int .i64 count, .complex .f64 r i, .bool gone, .string key, .string value])).run Tryz.prog w = .ok true w := by
  have hc := fun w => eq_complex 9998 re im re im w h1 h2
  have hc2 := fun w => eq_complex 9997 r i r i w h3 h4
  have hi : ∀ w : World, (Op.equalIn 9999 99 (.agg #[.int .u64 seq, .int .u64 ver, .int .i64 index, .int .i64 count, .complex .f64 r i, .bool gone, .string key, .string value]) (.agg #[.int .u64 seq, .int .u64 ver, .int .i64 index, .int .i64 count, .complex .f64 r i, .bool gone, .string key, .string value])).run Tryz.prog w = .ok true w := by
    intro w
    rw [show (9999 : Nat) = 9998 + 1 from rfl, run_equalIn_struct w 9998 99 _ _ (by kernel_rfl) (by kernel_rfl)]
    have u1 := Tryz.underlying76
    have u2 := Tryz.underlying3
    have u3 := Tryz.underlying4
    have u4 := Tryz.underlying9
    have hfs : Tryz.prog.fieldsOf 99 = (match Tryz.prog.underlying 99 with | some (.struct fs) => fs | _ => #[]) := rfl
    rw [hfs, Tryz.underlying99]
    go_simp
  rw [show (10000 : Nat) = 9999 + 1 from rfl, run_equalIn_struct w 9999 103 _ _ (by kernel_rfl) (by kernel_rfl)]
  have u2 := Tryz.underlying3
  have u3 := Tryz.underlying4
  have hfs : Tryz.prog.fieldsOf 103 = (match Tryz.prog.underlying 103 with | some (.struct fs) => fs | _ => #[]) := rfl
  rw [hfs, Tryz.underlying103]
  go_simp
set_option maxRecDepth 100000 in
set_option maxHeartbeats 4000000 in
theorem same_calls (A B : Option Addr) (n c c' : Nat) (L : List Fnd) (w : World) (hn : n ≤ 1000000) (hA : FsAt w A n L) (hB : FsAt w B n L) (hr : ∀ x ∈ L, Rf x) :
    Calls Tryz.prog 46 #[.slice A n c, .slice B n c'] w fun e w' => e = .returned (.bool true) ∧ Below w.heap.size w w' := by
  have HA := Lib.hid hA
  have HB := Lib.hid hB
  have HR := Lib.hid hr
  clear hA hB hr
  have d : ((n : Int) != n) = false := by simp
  go_enter Tryz.func46, Tryz.ntmps46
  go_wp2_with fail
  go_loopw [13] (fun i wr => ∃ j : Nat, j ≤ n ∧ i = .int .i64 j ∧ Below w.heap.size w wr) (fun i _ => n - (intOf i).toNat)
  case atStart => exact ⟨0, Nat.zero_le _, rfl, Below.refl _ _⟩
  case round =>
    obtain ⟨j, hj, rfl, hbel⟩ := hrel
    have HBL := Lib.hid hbel
    by_cases hlt : j < n
    · have hl : j < L.length := by rw [HA.out.1]; exact hlt
      obtain ⟨x, hx⟩ : ∃ x, L[j]? = some x := ⟨_, List.getElem?_eq_getElem hl⟩
      obtain ⟨bA, oA, rfl, _, ca⟩ := (HA.out.below hbel).2 j x hx
      obtain ⟨bB, oB, rfl, _, cb⟩ := (HB.out.below hbel).2 j x hx
      obtain ⟨r1, r2, r3, r4⟩ := HR.out x (List.mem_of_getElem? hx)
      obtain ⟨re, im, sz, st, ⟨seq, ver, index, count, ir, ii, gone, key, value⟩⟩ := x
      dsimp only at r1 r2 r3 r4
      have heq := fun w => eq_found re im sz st seq ver index count ir ii gone key value w r1 r2 r3 r4
      have a0 : wr.cell? ⟨bA, oA + j * 11, none⟩ = some (.complex .f64 re im) := ca 0 _ rfl
      have a1 : wr.cell? ⟨bA, oA + j * 11 + 1, none⟩ = some (.int .i64 sz) := ca 1 _ rfl
      have a2 : wr.cell? ⟨bA, oA + j * 11 + 2, none⟩ = some (.bool st) := ca 2 _ rfl
      have a3 : wr.cell? ⟨bA, oA + j * 11 + 3, none⟩ = some (.int .u64 seq) := ca 3 _ rfl
      have a4 : wr.cell? ⟨bA, oA + j * 11 + 4, none⟩ = some (.int .u64 ver) := ca 4 _ rfl
      have a5 : wr.cell? ⟨bA, oA + j * 11 + 5, none⟩ = some (.int .i64 index) := ca 5 _ rfl
      have a6 : wr.cell? ⟨bA, oA + j * 11 + 6, none⟩ = some (.int .i64 count) := ca 6 _ rfl
      have a7 : wr.cell? ⟨bA, oA + j * 11 + 7, none⟩ = some (.complex .f64 ir ii) := ca 7 _ rfl
      have a8 : wr.cell? ⟨bA, oA + j * 11 + 8, none⟩ = some (.bool gone) := ca 8 _ rfl
      have a9 : wr.cell? ⟨bA, oA + j * 11 + 9, none⟩ = some (.string key) := ca 9 _ rfl
      have a10 : wr.cell? ⟨bA, oA + j * 11 + 10, none⟩ = some (.string value) := ca 10 _ rfl
      have b0 : wr.cell? ⟨bB, oB + j * 11, none⟩ = some (.complex .f64 re im) := cb 0 _ rfl
      have b1 : wr.cell? ⟨bB, oB + j * 11 + 1, none⟩ = some (.int .i64 sz) := cb 1 _ rfl
      have b2 : wr.cell? ⟨bB, oB + j * 11 + 2, none⟩ = some (.bool st) := cb 2 _ rfl
      have b3 : wr.cell? ⟨bB, oB + j * 11 + 3, none⟩ = some (.int .u64 seq) := cb 3 _ rfl
      have b4 : wr.cell? ⟨bB, oB + j * 11 + 4, none⟩ = some (.int .u64 ver) := cb 4 _ rfl
      have b5 : wr.cell? ⟨bB, oB + j * 11 + 5, none⟩ = some (.int .i64 index) := cb 5 _ rfl
      have b6 : wr.cell? ⟨bB, oB + j * 11 + 6, none⟩ = some (.int .i64 count) := cb 6 _ rfl
      have b7 : wr.cell? ⟨bB, oB + j * 11 + 7, none⟩ = some (.complex .f64 ir ii) := cb 7 _ rfl
      have b8 : wr.cell? ⟨bB, oB + j * 11 + 8, none⟩ = some (.bool gone) := cb 8 _ rfl
      have b9 : wr.cell? ⟨bB, oB + j * 11 + 9, none⟩ = some (.string key) := cb 9 _ rfl
      have b10 : wr.cell? ⟨bB, oB + j * 11 + 10, none⟩ = some (.string value) := cb 10 _ rfl
      have hji : (j : Int) < n := by omega
      clear ca cb hbel
      go_wp2_with fail
      go_quiet (fail)
      go_wp2_with fail
      go_roundw
      case rel => exact ⟨j + 1, by omega, by go_num, HBL.out.trans (below_drewN (Below.refl _ _) _)⟩
      case measure => simp [intOf]; omega
    · obtain rfl : j = n := by omega
      clear hbel
      go_wp2_with fail
      go_ret
      exact ⟨rfl, HBL.out⟩
set_option maxRecDepth 100000 in
set_option maxHeartbeats 4000000 in
theorem samesector_calls (c e : Int) (f : Bool) (A B : Option Addr) (n p p' : Nat) (L : List Fnd) (w : World) (hn : n ≤ 1000000) (hA : FsAt w A n L) (hB : FsAt w B n L) (hr : ∀ x ∈ L, Rf x) :
    Calls Tryz.prog 14 #[.agg #[.int .i64 c, .int .i64 e, .bool f, .slice A n p], .agg #[.int .i64 c, .int .i64 e, .bool f, .slice B n p']] w fun en w' => en = .returned (.bool true) ∧ Below w.heap.size w w' := by
  have HS := Lib.hid (fun w hA hB => same_calls A B n p p' L w hn hA hB hr)
  have HA := Lib.hid hA
  have HB := Lib.hid hB
  clear hA hB hr
  have d1 : (c == c) = true := by simp
  have d2 : (e == e) = true := by simp
  have d3 : (f == f) = true := by simp
  go_enter Tryz.func14, Tryz.ntmps14
  go_wp2_with fail
  obtain ⟨W, hW⟩ : ∃ W, (w.alloc (.cells #[.int .i64 c, .int .i64 e, .bool f, .slice A n p] 54)).alloc (.cells #[.int .i64 c, .int .i64 e, .bool f, .slice B n p'] 54) = W := ⟨_, rfl⟩
  have hb : Below w.heap.size w W := by rw [← hW]; exact ((Below.refl _ _).alloc (Nat.le_refl _) _).alloc (by simp) _
  rw [hW]
  refine (HS.out _ (HA.out.below hb) (HB.out.below hb)).mono ?_
  rintro en w' ⟨rfl, hb2⟩
  have HB2 := Lib.hid (keeps hb hb2)
  clear hb hb2 hW
  go_wp2_with fail
  go_ret
  exact ⟨rfl, HB2.out⟩
end Go.Proofs.YthbafcihmcjchaaGreatDoor.ScanP

/- The walk of layer 8's law ScanBytes, over what the project's functions are asked. -/
namespace Go.Proofs.YthbafcihmcjchaaGreatDoor.ScanB
set_option linter.unusedVariables false
set_option linter.unusedSimpArgs false
open Go.RowKit
open Go.Proofs.YthbafcihmcjchaaGreatDoor.Byte Go.Proofs.YthbafcihmcjchaaGreatDoor.PlaceM Go.Proofs.YthbafcihmcjchaaGreatDoor.PlaceV Go.Proofs.YthbafcihmcjchaaGreatDoor.RecM Go.Proofs.YthbafcihmcjchaaGreatDoor.RingM Go.Proofs.YthbafcihmcjchaaGreatDoor.RingN Go.Proofs.YthbafcihmcjchaaGreatDoor.RingX Go.Proofs.YthbafcihmcjchaaGreatDoor.RingK Go.Proofs.YthbafcihmcjchaaGreatDoor.RingF Go.Proofs.YthbafcihmcjchaaGreatDoor.RingS Go.Proofs.YthbafcihmcjchaaGreatDoor.ScanM Go.Proofs.YthbafcihmcjchaaGreatDoor.ScanO Go.Proofs.YthbafcihmcjchaaGreatDoor.ScanP Go.Proofs.YthbafcihmcjchaaGreatDoor.Own

/-- What the laws ask of the project's Of and Next. -/
def OfOk : Prop := ∀ (n z : Int) (A : Option Addr) (m c k : Nat) (xs : List Int) (w : World), Bs w A m xs → m ≤ c → m ≤ 5000 → k ≤ 255 → PlaceH.Nowhere w →
  Calls Tryz.prog 43 #[.agg #[.int .i64 n, .int .i64 z], .int .i64 k, .slice A m c] w (SecE (cl n z xs) (en n z xs k) (fu n z xs k) (fo n z xs k) w)
def NextOk : Prop := ∀ w : World, Calls Tryz.prog 45 #[.slice none 0 0] w fun e w' => e = .returned (.int .u64 1) ∧ Below w.heap.size w w'
theorem SecE.at_ {c e : Int} {f : Bool} {L : List Fnd} {w w' : World} {en : Ending} (h : SecE c e f L w en w') : ∃ A p, en = .returned (.agg #[.int .i64 c, .int .i64 e, .bool f, .slice A L.length p]) ∧ FsAt w' A L.length L ∧ Below w.heap.size w w' := by
  obtain ⟨v, h1, h2, h3⟩ := h
  rcases h2.2 with ⟨h4, h5⟩ | ⟨g, cap, cur, h4, _⟩
  · obtain rfl : L = [] := List.eq_nil_of_length_eq_zero h5
    exact ⟨none, 0, by rw [h1, h4]; rfl, FsAt.nil_ _ _, h3⟩
  · subst h4
    have hfo : Fo w' w.heap.size g L.length cap L := ⟨rfl, h2⟩
    exact ⟨_, cap, h1, hfo.fs, h3⟩
theorem order_self {x : Nat} (h : rt x = true) : FloatKind.f64.format.order x x = some .eq := by
  cases e : fv x with
  | none =>
    unfold rt at h
    rw [e] at h
    cases h
  | some a => exact PlaceG.same_order e
/-- No place of what is found is NaN. -/
theorem rf_fnd {xs : List Int} (hb : ∀ x ∈ xs, 0 ≤ x ∧ x ≤ 255) (k a : Nat) (hk : k ≤ 1000000) (ha : a ≤ 1000000) (hg : gerr (cr xs a) = 0) : Rf (fnd xs k a) := by
  obtain ⟨hm, _⟩ := stood (cr_bd hb a) hg
  obtain ⟨h1, h2, _⟩ := hm
  refine ⟨PlaceG.order_fi _ (by omega) (by omega), PlaceG.order_fi _ (by omega) (by omega), ?_, ?_⟩
  · exact order_self h1
  · exact order_self h2
theorem rf_sc {xs : List Int} (hb : ∀ x ∈ xs, 0 ≤ x ∧ x ≤ 255) (hl : xs.length ≤ 1000000) (k : Nat) (hk : k ≤ 1000000) (a : Nat) : ∀ x ∈ (sc xs k a).1, Rf x := by
  generalize hn : xs.length - a = n
  induction n using Nat.strongRecOn generalizing a with
  | ind n ih =>
    cases ho : on xs a with
    | false =>
      rw [sc_off ho]
      simp
    | true =>
      obtain ⟨r, he, hle, hr⟩ := on_end ho
      have h1 := ih (xs.length - (a + 8 + r)) (by omega) (a + 8 + r) rfl
      rcases on_cases ho with h | ⟨h, hg⟩
      · rw [sc_skip h he]
        exact h1
      · rw [sc_one h hg he]
        intro x hx
        rcases List.mem_cons.1 hx with rfl | hx
        · exact rf_fnd hb k a hk (by omega) hg
        · exact h1 x hx
theorem rf_fo {n z : Int} {xs : List Int} (hb : ∀ x ∈ xs, 0 ≤ x ∧ x ≤ 255) (hl : xs.length ≤ 1000000) (k : Nat) (hk : k ≤ 1000000) : ∀ x ∈ fo n z xs k, Rf x := by
  unfold fo
  split
  · exact rf_sc hb hl k hk 8
  · simp
theorem info_lsec : (Tryz.prog.info? 54).map (·.size) = some 4 := by kernel_rfl
set_option maxHeartbeats 1000000 in
theorem of_calls (c e : Int) (f : Bool) (A : Option Addr) (n p : Nat) (w : World) : Calls Tryz.prog 15 #[.agg #[.int .i64 c, .int .i64 e, .bool f, .slice A n p]] w fun en w' => en = .returned (.agg #[.int .i64 c, .int .i64 e, .bool f, .slice A n p]) ∧ Below w.heap.size w w' := by
  go_enter Tryz.func15, Tryz.ntmps15
  go_wp2_with fail
  exact bodyPost_ret (v := .agg #[.int .i64 c, .int .i64 e, .bool f, .slice A n p]) (by simp [results, Tryz.results15, go_sem]) rfl ⟨rfl, ((Below.refl _ _).alloc (Nat.le_refl _) _).alloc (by simp) _⟩
/-- The law's package variable 'example' reads as six sectors of 512 bytes. -/
def Example (w : World) : Prop := 0 < w.heap.size ∧ w.cell? ⟨0, 0, none⟩ = some (.int .i64 6) ∧ w.cell? ⟨0, 1, none⟩ = some (.int .i64 512)
theorem Example.below {w w' : World} (h : Example w) (hb : Below w.heap.size w w') : Example w' :=
  ⟨Nat.lt_of_lt_of_le h.1 hb.size, (hb.cell (p := ⟨0, 0, none⟩) h.1).trans h.2.1, (hb.cell (p := ⟨0, 1, none⟩) h.1).trans h.2.2⟩
def FixedOk : Prop := ∀ w : World, Example w → PlaceH.Nowhere w → Calls Tryz.prog 13 #[] w fun e w' => e = .returned (.bool true) ∧ Below w.heap.size w w'
theorem SecE.named {c e : Int} {f : Bool} {L : List Fnd} {N : Nat} {w w' : World} {en : Ending} (h : SecE c e f L w en w') (hN : L.length = N) : ∃ A p, en = .returned (.agg #[.int .i64 c, .int .i64 e, .bool f, .slice A N p]) ∧ FsAt w' A N L ∧ Below w.heap.size w w' := by
  subst hN
  exact SecE.at_ h
end Go.Proofs.YthbafcihmcjchaaGreatDoor.ScanB

/- Layer 5's law file: sector; copy of as many bytes as there is room for; the variable 'example'. -/
namespace Go.Proofs.YthbafcihmcjchaaGreatDoor.HeadS
set_option linter.unusedVariables false
set_option linter.unusedSimpArgs false
open Go.RowKit
open Go.Proofs.YthbafcihmcjchaaGreatDoor.Byte Go.Proofs.YthbafcihmcjchaaGreatDoor.PackM Go.Proofs.YthbafcihmcjchaaGreatDoor.PackV Go.Proofs.YthbafcihmcjchaaGreatDoor.MayM Go.Proofs.YthbafcihmcjchaaGreatDoor.HeadM Go.Proofs.YthbafcihmcjchaaGreatDoor.HeadR

section
variable {P : Program} {w : World}
/-- copy into an own row, of as many of some bytes as there is room for. -/
theorem wpList_copy_any {ops : Array Oper} {rest : List Oper} {o : Oper} {a : Act} {Q : Exit → Act → World → Prop} (hgd : o.guard = none) (d s : Operand) (dT sT : TypeId)
    (ho : o.op = .call { callee := .builtin .copy, args := #[d, s], argTypes := #[dT, sT] }) (e : TypeId) (hu : P.underlying dT = some (.slice e)) (hsz : (P.info? e).map (·.size) = some 1)
    (base g n cap : Nat) (xs : List Int) (hd : a.eval d = .slice (some ⟨g, 0, none⟩) n cap) (hown : Ob w base e g n cap xs)
    (A : Option Addr) (m c : Nat) (ys : List Int) (hs : a.eval s = .slice A m c) (hr : Bs w A m ys)
    (zs : List Int) (hz : over xs 0 (ys.take (min m n)) = zs)
    (h : ∀ w', Ob w' base e g n cap zs → w.grownBy w' (some g) → wpList P ops Q rest (a.put o.dst (goInt (min m n : Nat))) w') : wpList P ops Q (o :: rest) a w := by
  subst hz
  obtain ⟨cur, hg, hb, hnc, hcm, hcs, ht⟩ := hown.row
  rcases Nat.eq_zero_or_pos (min m n) with h0 | h0
  · refine wpList_copy_nothing hgd d s dT sT ho e hu hsz (some ⟨g, 0, none⟩) A n cap m c hd hs h0 ?_
    have := h w (by rw [h0, List.take_zero]; simpa [over] using hown) (World.grownBy.refl w _)
    rw [h0] at this
    exact this
  · obtain ⟨b, o', rfl, _, _⟩ := hr.2.2 0 (by omega)
    have hq : (ys.take (min m n)).length = min m n := by rw [List.length_take, hr.1]; omega
    have hlen : ((ys.take (min m n)).map (Value.int .u8)).length = min m n := by rw [List.length_map, hq]
    refine wpList_copy_own hgd d s dT sT ho e hu hsz g 0 n cap ⟨b, o', none⟩ m c hd hs cur e hg ((ys.take (min m n)).map (Value.int .u8)) hlen (fun j v hj => ?_) (by rw [hlen]; omega) (fun v hv => by obtain ⟨_, _, rfl⟩ := List.mem_map.1 hv; rfl) ?_
    · have hj' : j < min m n := by
        have := (List.getElem?_eq_some_iff.1 hj).1
        rwa [hlen] at this
      have e2 : (⟨b, o', none⟩ : Addr).add j = ⟨b, o' + j, none⟩ := by
        unfold Addr.add
        by_cases h0 : j = 0 <;> simp [h0]
      rw [e2, hr.at_ j (by omega), ← hj, List.getElem?_map, List.getElem?_take, if_pos hj', List.getElem?_eq_getElem (by rw [hr.1]; omega), List.getD_eq_getElem?_getD, List.getElem?_eq_getElem (by rw [hr.1]; omega)]
      rfl
    · rw [hlen]
      have e3 := hown.setRow cur hg ht hcs 0 (ys.take (min m n)) (by rw [hq]; omega) (fun y hy => hr.2.1 y (List.mem_of_mem_take hy))
      rw [hq] at e3
      exact h _ e3 (grown_setRow w g _)
end
theorem ob_base {w : World} {b0 b1 : Nat} {e : TypeId} {g n cap : Nat} {xs : List Int} (h : Ob w b1 e g n cap xs) (hb : b0 ≤ b1) : Ob w b0 e g n cap xs := by
  refine ⟨h.1, h.2.1, h.2.2.1, ?_⟩
  rcases h.2.2.2 with h' | ⟨g', cap', cur, h1, h2, r⟩
  · exact .inl h'
  · exact .inr ⟨g', cap', cur, h1, Nat.le_trans hb h2, r⟩
theorem over_sec (z : Nat) (xs : List Int) (m : Nat) (hm : xs.length = m) : over (List.replicate z 255) 0 (xs.take (min m z)) = sec z xs := by
  unfold over sec
  rw [List.take_zero, List.nil_append, List.length_take, List.drop_replicate, Nat.zero_add]
  have e1 : xs.take (min m z) = xs.take z := by
    rcases Nat.le_total m z with h | h
    · rw [Nat.min_eq_left h, List.take_of_length_le (by omega), List.take_of_length_le (by omega)]
    · rw [Nat.min_eq_right h]
  have e2 : z - min (min m z) xs.length = z - xs.length := by omega
  rw [e1, e2]
theorem fill_set (k z : Nat) (h : k < z) : (List.replicate k (255 : Int) ++ List.replicate (z - k) 0).set k 255 = List.replicate (k + 1) 255 ++ List.replicate (z - (k + 1)) 0 := by
  have e : z - k = (z - (k + 1)) + 1 := by omega
  rw [e, List.replicate_succ, List.set_append_right _ _ (by simp), List.length_replicate, Nat.sub_self, List.set_cons_zero, List.replicate_succ', List.append_assoc]
  rfl
/-- The variable 'example'. -/
def Example (w : World) : Prop := 0 < w.heap.size ∧ w.cell? ⟨0, 0, none⟩ = some (.int .i64 6) ∧ w.cell? ⟨0, 1, none⟩ = some (.int .i64 512)
theorem Example.below {w w' : World} (h : Example w) (hb : Below w.heap.size w w') : Example w' :=
  ⟨Nat.lt_of_lt_of_le h.1 hb.size, (hb.cell (p := ⟨0, 0, none⟩) h.1).trans h.2.1, (hb.cell (p := ⟨0, 1, none⟩) h.1).trans h.2.2⟩
/-- Behind A stand n integers. -/
def Is (w : World) (A : Option Addr) (n : Nat) (xs : List Int) : Prop :=
  xs.length = n ∧ (∀ x ∈ xs, -9223372036854775808 ≤ x ∧ x ≤ 9223372036854775807) ∧ ∀ k, k < n → ∃ b o, A = some ⟨b, o, none⟩ ∧ b < w.heap.size ∧ w.cell? ⟨b, o + k, none⟩ = some (.int .i64 (xs.getD k 0))
theorem Is.at_ {w : World} {b o n : Nat} {xs : List Int} (h : Is w (some ⟨b, o, none⟩) n xs) (k : Nat) (hk : k < n) : w.cell? ⟨b, o + k, none⟩ = some (.int .i64 (xs.getD k 0)) := by
  obtain ⟨b', o', e, _, hc⟩ := h.2.2 k hk
  injection e with e
  injection e with e1 e2
  subst e1 e2
  exact hc
theorem Is.below {w w' : World} {A : Option Addr} {n : Nat} {xs : List Int} (h : Is w A n xs) (hb : Below w.heap.size w w') : Is w' A n xs :=
  ⟨h.1, h.2.1, fun k hk => by
    obtain ⟨b, o, e, hlt, hc⟩ := h.2.2 k hk
    exact ⟨b, o, e, Nat.lt_of_lt_of_le hlt hb.size, (hb.cell (p := ⟨b, o + k, none⟩) hlt).trans hc⟩⟩
end Go.Proofs.YthbafcihmcjchaaGreatDoor.HeadS

/- Whether a geometry may be: the project's answer. -/
namespace Go.Proofs.YthbafcihmcjchaaGreatDoor.MayV
set_option linter.unusedVariables false
set_option linter.unusedSimpArgs false
open Go.RowKit
open Go.Proofs.YthbafcihmcjchaaGreatDoor.Byte Go.Proofs.YthbafcihmcjchaaGreatDoor.MayM

set_option maxHeartbeats 400000 in
theorem may_calls (n z : Int) (w : World) : Calls Tryz.prog 17 #[.agg #[.int .i64 n, .int .i64 z]] w fun e w' => e = .returned (.bool (may n z)) ∧ w.alloc (.cells #[.int .i64 n, .int .i64 z] 28) = w' := by
  cases h : may n z
  · rcases may_ways h with h1 | ⟨h1, h2⟩ | ⟨h1, h2, h3⟩ | ⟨h1, h2, h3, h4⟩
    all_goals
      clear h
      go_enter Tryz.func17, Tryz.ntmps17
      go_wp2
      go_ret
      first | exact ⟨rfl, rfl⟩ | exact ⟨Byte.ret_bool (by rw [decide_eq_false_iff_not]; omega), rfl⟩
  · obtain ⟨h1, h2, h3, h4⟩ := may_yes h
    clear h
    go_enter Tryz.func17, Tryz.ntmps17
    go_wp2
    go_ret
    first | exact ⟨rfl, rfl⟩ | exact ⟨Byte.ret_bool (by rw [decide_eq_true_eq]; omega), rfl⟩
theorem may_any (n z : Int) (w : World) : Calls Tryz.prog 17 #[.agg #[.int .i64 n, .int .i64 z]] w fun e w' => e = .returned (.bool (may n z)) ∧ Below w.heap.size w w' :=
  (may_calls n z w).mono fun e w' ⟨h1, h2⟩ => ⟨h1, by subst h2; exact (Below.refl _ _).alloc (Nat.le_refl _) _⟩
end Go.Proofs.YthbafcihmcjchaaGreatDoor.MayV

/- The contracts of the project's layer 5: isBlank, Death, Of. -/
namespace Go.Proofs.YthbafcihmcjchaaGreatDoor.HeadV
set_option linter.unusedVariables false
set_option linter.unusedSimpArgs false
open Go.RowKit
open Go.Proofs.YthbafcihmcjchaaGreatDoor.Byte Go.Proofs.YthbafcihmcjchaaGreatDoor.SumV Go.Proofs.YthbafcihmcjchaaGreatDoor.PackM Go.Proofs.YthbafcihmcjchaaGreatDoor.PackV Go.Proofs.YthbafcihmcjchaaGreatDoor.MayM Go.Proofs.YthbafcihmcjchaaGreatDoor.MayV Go.Proofs.YthbafcihmcjchaaGreatDoor.HeadM Go.Proofs.YthbafcihmcjchaaGreatDoor.HeadR Go.Proofs.YthbafcihmcjchaaGreatDoor.HeadS

set_option maxHeartbeats 1000000 in
theorem blank_calls (A : Option Addr) (n c : Nat) (xs : List Int) (w : World) (hb : Bs w A n xs) (hn : n ≤ maxLen) : Calls Tryz.prog 74 #[.slice A n c] w fun e w' => e = .returned (.bool (xs.all (· == 255))) ∧ w = w' := by
  unfold maxLen at hn
  have HB := Lib.hid hb
  clear hb
  obtain ⟨B, hB⟩ : ∃ B, xs.all (· == 255) = B := ⟨_, rfl⟩
  have HQ := Lib.hid hB
  rw [hB]
  clear hB
  go_enter Tryz.func74, Tryz.ntmps74
  go_wp2
  go_loop [7] (fun i => ∃ k : Nat, k ≤ n ∧ i = .int .i64 k ∧ Hid (∀ j, j < k → xs.getD j 0 = 255)) (fun i => n - (intOf i).toNat)
  case atStart => exact ⟨0, Nat.zero_le _, rfl, Lib.hid fun j hj => absurd hj (by omega)⟩
  case round =>
    obtain ⟨k, hk, rfl, HK⟩ := hrel
    by_cases hlt : k < n
    · obtain ⟨b, o, rfl, _, hcell⟩ := HB.out.2.2 k hlt
      have hl : xs.length = n := HB.out.len
      by_cases hx : xs.getD k 0 = 255
      · have HK1 : Hid (∀ j, j < k + 1 → xs.getD j 0 = 255) := Lib.hid fun j hj => by
          rcases Nat.lt_or_eq_of_le (Nat.le_of_lt_succ hj) with h1 | h1
          · exact HK.out j h1
          · rw [h1]; exact hx
        rw [hx] at hcell
        clear hx HK hl
        go_wp2
        go_round
        case rel => exact ⟨k + 1, by omega, by go_num, HK1⟩
        case measure => simp [intOf]; omega
      · have HQ2 : Hid (B = false) := Lib.hid (HQ.out.symm.trans (all_not (by omega) hx))
        have hne : (xs.getD k 0 != 255) = true := by rw [bne_iff_ne]; exact hx
        generalize xs.getD k 0 = y at hcell hne
        clear hx hl
        go_wp2
        go_ret
        exact ⟨ret_bool HQ2.out.symm, rfl⟩
    · have HQ2 : Hid (B = true) := Lib.hid (HQ.out.symm.trans (all_yes (fun j hj => HK.out j (by have := HB.out.len; omega))))
      go_wp2
      go_ret
      exact ⟨ret_bool HQ2.out.symm, rfl⟩

set_option maxRecDepth 100000 in
set_option maxHeartbeats 1000000 in
theorem of_no (n z : Int) (w : World) (h : may n z = false) : Calls Tryz.prog 75 #[.agg #[.int .i64 n, .int .i64 z]] w fun e w' => e = .returned (.agg ((hd n z).map (Value.int .u8)).toArray) ∧ Below w.heap.size w w' := by
  have hm : Hid (∀ w, Calls Tryz.prog 17 #[.agg #[.int .i64 n, .int .i64 z]] w fun e w' => e = .returned (.bool false) ∧ w.alloc (.cells #[.int .i64 n, .int .i64 z] 28) = w') := Lib.hid fun w => by
    have := may_calls n z w
    rw [h] at this
    exact this
  rw [hd_no h]
  clear h
  go_enter Tryz.func75, Tryz.ntmps75
  go_wp2_with fail
  refine (hm.out _).mono ?_
  rintro e w1 ⟨rfl, rfl⟩
  go_wp2_with fail
  exact bodyPost_ret (v := .agg ((List.replicate 8 (0 : Int)).map (Value.int .u8)).toArray) (by simp [results, Tryz.results75, go_sem]) rfl ⟨rfl, (((Below.refl _ _).alloc (Nat.le_refl _) _).alloc (by simp) _).alloc (by simp; omega) _⟩
theorem arr_at (w : World) (g cap : Nat) : (Instr.arrayAt 139 (.slice (some ⟨g, 0, none⟩) 8 cap)).run Tryz.prog w = .ok (.pointer (some ⟨g, 0, none⟩)) w := by
  kernel_rfl
theorem range_of {w : World} {b o n : Nat} {xs : List Int} (h : Bs w (some ⟨b, o, none⟩) n xs) : w.rangeAt b o (xs.map (Value.int .u8)) := fun j v hv => by
  have hj : j < xs.length := by simpa using (List.getElem?_eq_some_iff.1 hv).1
  rw [h.at_ j (by rw [← h.len]; exact hj), ← hv]
  simp [List.getElem?_eq_getElem hj]
theorem info24 : (Tryz.prog.info? 139).map (·.size) = some 8 := by kernel_rfl
/-- The box of a geometry, and the result's array behind it. -/
structure OX (w W : World) (n z : Int) (cs : Array Value) : Prop where
  bx : GX w W n z
  blk : W.heap[w.heap.size + 1]? = some (.cells cs 139 (0, 0))
theorem OX.below {w W W' : World} {n z : Int} {cs : Array Value} (h : OX w W n z cs) (hb : Below W.heap.size W W') : OX w W' n z cs :=
  ⟨h.bx.below hb, (hb.block _ (by
    rcases Nat.lt_or_ge (w.heap.size + 1) W.heap.size with h' | h'
    · exact h'
    · have := h.blk; rw [Array.getElem?_eq_none h'] at this; cases this)).trans h.blk⟩
set_option maxRecDepth 100000 in
set_option maxHeartbeats 2000000 in
theorem of_yes (n z : Int) (w : World) (h : may n z = true) : Calls Tryz.prog 75 #[.agg #[.int .i64 n, .int .i64 z]] w fun e w' => e = .returned (.agg ((hd n z).map (Value.int .u8)).toArray) ∧ Below w.heap.size w w' := by
  have hz := may_yes h
  have hm : Hid (∀ w, Calls Tryz.prog 17 #[.agg #[.int .i64 n, .int .i64 z]] w fun e w' => e = .returned (.bool true) ∧ Below w.heap.size w w') := Lib.hid fun w => by
    have := may_any n z w
    rw [h] at this
    exact this
  have hp1 : ([84, 120, 78, 82] ++ low 2 n).length = 6 := by rw [List.length_append, low_len]; rfl
  have hp2 : (body n z).length = 8 := by unfold body; rw [List.length_append, hp1, low_len]
  have hsb := SumM.sum_bd (body n z)
  have HE := Lib.hid (hd_yes h)
  have HL := Lib.hid (hd_len n z)
  have HP1 := Lib.hid hp1
  have HP2 := Lib.hid hp2
  clear h hp1 hp2
  have kc := fun (w : World) (C : Array Value) (n c : Nat) => Lib.run_convert_bytes_const (P := Tryz.prog) w 38 5 C n c Tryz.underlying38 Tryz.underlying5
  go_enter Tryz.func75, Tryz.ntmps75
  go_wp2_with fail
  refine (hm.out _).mono ?_
  rintro e w1 ⟨rfl, hb⟩
  have HX1 : Hid (OX w w1 n z (List.replicate 8 (Value.int .u8 0)).toArray) := Lib.hid (by
    refine OX.below ?_ hb
    refine ⟨(GX.of w n z).below ((Below.refl _ _).alloc (Nat.le_refl _) _), ?_⟩
    have := heap_alloc_new (w.alloc (.cells #[.int .i64 n, .int .i64 z] 28)) (.cells (List.replicate 8 (Value.int .u8 0)).toArray 139)
    simpa using this)
  have b0 := HX1.out.bx.c0
  have b1 := HX1.out.bx.c1
  clear hb
  have hl : w.heap.size < w1.heap.size := World.block_lt_of_cell? w1 ⟨w.heap.size, 0, none⟩ b0
  go_wp2_with fail
  refine (put_calls (some ⟨w1.heap.size, 0, none⟩) 4 4 [84, 120, 78, 82] 2 n _ (letters_bs w1 _) (by omega) (by omega) (by omega)).mono ?_
  intro e w2 hm2
  obtain ⟨g2, cap2, rfl, ho2, hb2⟩ := hm2.at_ HP1.out
  have HB2 : Hid (Bs w2 (some ⟨w1.heap.size, 0, none⟩) 4 [84, 120, 78, 82]) := Lib.hid ((letters_bs w1 _).below hb2)
  have hb2' : Below w1.heap.size w1 w2 := ((Below.refl _ _).alloc (Nat.le_refl _) _).trans (hb2.mono (by simp))
  have HX2 := Lib.hid (HX1.out.below hb2')
  have hl2 := hb2'.size
  clear b0 b1 hm2 hb2 hb2'
  have b1 := HX2.out.bx.c1
  go_wp2_with fail
  refine (put_calls (some ⟨g2, 0, none⟩) 6 cap2 ([84, 120, 78, 82] ++ low 2 n) 2 z _ ho2.bs (by omega) (by omega) (by omega)).mono ?_
  intro e w3 hm3
  obtain ⟨g3, cap3, rfl, ho3, hb3⟩ := hm3.at_ HP2.out
  have HX3 := Lib.hid (HX2.out.below hb3)
  have HB3 := Lib.hid (HB2.out.below hb3)
  have HO3 : Hid (Ob w3 w2.heap.size 5 g3 8 cap3 (body n z)) := Lib.hid ho3
  clear b1 hm3 hb3 ho3 ho2
  go_wp2_with fail
  refine (sum_calls (some ⟨g3, 0, none⟩) 8 cap3 (body n z) _ HO3.out.bs (by decide)).mono ?_
  rintro e w' ⟨rfl, rfl⟩
  go_wp2_with fail
  refine (put_calls (some ⟨w1.heap.size, 0, none⟩) 4 4 [84, 120, 78, 82] 4 (SumM.sum (body n z)) _ HB3.out (by omega) (by omega) (by omega)).mono ?_
  intro e w4 hm4
  have he4 : ([84, 120, 78, 82] ++ low (width 4) (SumM.sum (body n z)) : List Int) = hd n z := HE.out.symm
  rw [he4] at hm4
  obtain ⟨g4, cap4, rfl, ho4, hb4⟩ := hm4.at_ HL.out
  have HX4 := Lib.hid (HX3.out.below hb4)
  have HR4 := Lib.hid (range_of ho4.bs)
  have HA := Lib.hid (fun w => arr_at w g4 cap4)
  clear hm4 he4 hb4 ho4
  have ha := HA.out
  go_wp2_with (first
    | ((with_reducible refine pick (some 27) ?_); refine wpList_load_mid rfl _ _ rfl g4 0 rfl ((hd n z).map (Value.int .u8)) _ HR4.out Tryz.underlying139 rfl (by rw [List.length_map, HL.out]; exact info24) ?_)
    | ((with_reducible refine pick none ?_); refine wpList_store_row rfl _ _ _ rfl (w.heap.size + 1) ((hd n z).map (Value.int .u8)).toArray rfl rfl 139 _ HX4.out.blk (by rw [List.size_toArray, List.length_map, HL.out]; exact info24) (by simp [HL.out]) (by simp [Value.oneCell']) ?_))
  have hX := HX4.out
  refine bodyPost_ret (v := .agg ((hd n z).map (Value.int .u8)).toArray) (results_cell_row rfl _ _ (w.heap.size + 1) 139 ((hd n z).map (Value.int .u8)).toArray (0, 0) _ rfl (setRow_heap _ _ _ _ _ _ hX.blk) Tryz.underlying139 rfl (by rw [List.size_toArray, List.length_map, HL.out]; exact info24)) rfl ⟨rfl, ?_⟩
  exact hX.bx.bel.grown (grown_setRow _ _ _) hX.bx.bel.size (by intro k hk; injection hk with hk; omega)
theorem of_calls (n z : Int) (w : World) : Calls Tryz.prog 75 #[.agg #[.int .i64 n, .int .i64 z]] w fun e w' => e = .returned (.agg ((hd n z).map (Value.int .u8)).toArray) ∧ Below w.heap.size w w' := by
  cases h : may n z with
  | false => exact of_no n z w h
  | true => exact of_yes n z w h
end Go.Proofs.YthbafcihmcjchaaGreatDoor.HeadV

/- The contract of the project's layer 5: Class. -/
namespace Go.Proofs.YthbafcihmcjchaaGreatDoor.HeadP
set_option linter.unusedVariables false
set_option linter.unusedSimpArgs false
open Go.RowKit
open Go.Proofs.YthbafcihmcjchaaGreatDoor.Byte Go.Proofs.YthbafcihmcjchaaGreatDoor.SumV Go.Proofs.YthbafcihmcjchaaGreatDoor.PackM Go.Proofs.YthbafcihmcjchaaGreatDoor.PackV Go.Proofs.YthbafcihmcjchaaGreatDoor.MayM Go.Proofs.YthbafcihmcjchaaGreatDoor.MayV Go.Proofs.YthbafcihmcjchaaGreatDoor.HeadM Go.Proofs.YthbafcihmcjchaaGreatDoor.HeadR Go.Proofs.YthbafcihmcjchaaGreatDoor.HeadS Go.Proofs.YthbafcihmcjchaaGreatDoor.HeadV

theorem eights {xs : List Int} (h : xs.length = 8) : ∃ a b c d e f g i, xs = [a, b, c, d, e, f, g, i] := by
  match xs, h with
  | [a, b, c, d, e, f, g, i], _ => exact ⟨a, b, c, d, e, f, g, i, rfl⟩
set_option maxHeartbeats 1000000 in
theorem eq8 (xs ys : List Int) (hx : xs.length = 8) (hy : ys.length = 8) (w : World) : (Op.equalIn 10000 139 (.agg (xs.map (Value.int .u8)).toArray) (.agg (ys.map (Value.int .u8)).toArray)).run Tryz.prog w = .ok (decide (xs = ys)) w := by
  obtain ⟨a, b, c, d, e, f, g, i, rfl⟩ := eights hx
  obtain ⟨a', b', c', d', e', f', g', i', rfl⟩ := eights hy
  have u5 := Tryz.underlying5
  have a5 := Tryz.isAgg5
  have z5 := Tryz.sizeOf5
  rw [show (10000 : Nat) = 9999 + 1 from rfl, Op.equalIn]
  simp only [Sem.run_bind, run_underlying Tryz.underlying139, Result.andThen_ok]
  simp only [Std.Legacy.Range.forIn_eq_forIn_range', Std.Legacy.Range.size, Nat.sub_zero, Nat.add_sub_cancel, Nat.div_one, List.range'_succ, List.range'_zero, List.forIn_cons, List.forIn_nil]
  go_simp
  by_cases h1 : a = a' <;> try (simp [h1]; done)
  by_cases h2 : b = b' <;> try (simp [h1, h2]; done)
  by_cases h3 : c = c' <;> try (simp [h1, h2, h3]; done)
  by_cases h4 : d = d' <;> try (simp [h1, h2, h3, h4]; done)
  by_cases h5 : e = e' <;> try (simp [h1, h2, h3, h4, h5]; done)
  by_cases h6 : f = f' <;> try (simp [h1, h2, h3, h4, h5, h6]; done)
  by_cases h7 : g = g' <;> try (simp [h1, h2, h3, h4, h5, h6, h7]; done)
  by_cases h8 : i = i' <;> simp [h1, h2, h3, h4, h5, h6, h7, h8]
theorem arr_in (w : World) (A : Option Addr) (m c : Nat) (h : 8 ≤ m) : (Instr.arrayAt 139 (.slice A m c)).run Tryz.prog w = .ok (.pointer A) w := by
  unfold Instr.arrayAt
  simp only [Sem.run_bind, run_underlying Tryz.underlying139, Result.andThen_ok]
  rw [if_neg (by omega)]
  rfl
theorem load8 {w : World} {b o n : Nat} {xs : List Int} (h : Bs w (some ⟨b, o, none⟩) n xs) (h8 : 8 ≤ n) : (Instr.loadAt 139 (.pointer (some ⟨b, o, none⟩))).run Tryz.prog w = .ok (.agg ((xs.take 8).map (Value.int .u8)).toArray) w := by
  have hb8 : Bs w (some ⟨b, o, none⟩) 8 (xs.take 8) := by
    have := h.sub 0 8 (by omega)
    rwa [List.drop_zero, Nat.add_zero] at this
  exact run_loadAt_mid w b o 139 _ _ (range_of hb8) Tryz.underlying139 rfl (by rw [List.length_map, hb8.len]; exact info24)
set_option maxHeartbeats 1000000 in
theorem class_may (n z : Int) (A : Option Addr) (m c : Nat) (xs : List Int) (w : World) (h : may n z = false) : Calls Tryz.prog 61 #[.agg #[.int .i64 n, .int .i64 z], .slice A m c] w fun e w' => e = .returned (.int .i64 (cls n z xs)) ∧ Below w.heap.size w w' := by
  have hm : Hid (∀ w, Calls Tryz.prog 17 #[.agg #[.int .i64 n, .int .i64 z]] w fun e w' => e = .returned (.bool false) ∧ Below w.heap.size w w') := Lib.hid fun w => by
    have := may_any n z w
    rw [h] at this
    exact this
  rw [cls_may h]
  have HX := Lib.hid (GX.of w n z)
  clear h
  go_enter Tryz.func61, Tryz.ntmps61
  go_wp2_with fail
  refine (hm.out _).mono ?_
  rintro e w1 ⟨rfl, hb⟩
  have HX1 := Lib.hid (HX.out.below hb)
  clear hb
  go_wp2_with fail
  go_ret
  exact ⟨rfl, HX1.out.bel⟩
set_option maxHeartbeats 1000000 in
theorem class_len (n z : Int) (A : Option Addr) (m c : Nat) (xs : List Int) (w : World) (h : may n z = true) (hl : xs.length = m) (hne : (m : Int) ≠ z) : Calls Tryz.prog 61 #[.agg #[.int .i64 n, .int .i64 z], .slice A m c] w fun e w' => e = .returned (.int .i64 (cls n z xs)) ∧ Below w.heap.size w w' := by
  have hm : Hid (∀ w, Calls Tryz.prog 17 #[.agg #[.int .i64 n, .int .i64 z]] w fun e w' => e = .returned (.bool true) ∧ Below w.heap.size w w') := Lib.hid fun w => by
    have := may_any n z w
    rw [h] at this
    exact this
  rw [cls_len (by rw [hl]; exact hne)]
  have HX := Lib.hid (GX.of w n z)
  have e1 : ((m : Int) != z) = true := by rw [bne_iff_ne]; exact hne
  clear h hl hne
  go_enter Tryz.func61, Tryz.ntmps61
  go_wp2_with fail
  refine (hm.out _).mono ?_
  rintro e w1 ⟨rfl, hb⟩
  have HX1 := Lib.hid (HX.out.below hb)
  have b1 := HX1.out.c1
  clear hb
  go_wp2_with fail
  go_ret
  exact ⟨rfl, HX1.out.bel⟩
set_option maxRecDepth 100000 in
set_option maxHeartbeats 2000000 in
theorem class_blank (n : Int) (m : Nat) (b o c : Nat) (xs : List Int) (w : World) (h : may n m = true) (hb : Bs w (some ⟨b, o, none⟩) m xs) (hc : m ≤ c) (hall : xs.all (· == 255) = true) : Calls Tryz.prog 61 #[.agg #[.int .i64 n, .int .i64 m], .slice (some ⟨b, o, none⟩) m c] w fun e w' => e = .returned (.int .i64 (cls n m xs)) ∧ Below w.heap.size w w' := by
  have hz := may_yes h
  have hm : Hid (∀ w, Calls Tryz.prog 17 #[.agg #[.int .i64 n, .int .i64 (m : Int)]] w fun e w' => e = .returned (.bool true) ∧ Below w.heap.size w w') := Lib.hid fun w => by
    have := may_any n m w
    rw [h] at this
    exact this
  have HBl : Hid (∀ w, Bs w (some ⟨b, o, none⟩) m xs → Calls Tryz.prog 74 #[.slice (some ⟨b, o, none⟩) m c] w fun e w' => e = .returned (.bool true) ∧ w = w') := Lib.hid fun w hb => by
    have := blank_calls (some ⟨b, o, none⟩) m c xs w hb (by unfold maxLen; omega)
    rw [hall] at this
    exact this
  have HCL : Hid (cls n m xs = 0) := Lib.hid (by
    rw [cls_in h (by rw [hb.len]), if_neg (fun e => ?_), hall]
    · rfl
    · have h1 : (xs.take 8).getD 0 0 = 84 := by rw [e]; exact head0 h
      have h0 : xs.getD 0 0 = 255 := by
        have hlt : 0 < xs.length := by rw [hb.len]; omega
        have := List.all_eq_true.1 hall xs[0] (List.getElem_mem hlt)
        rw [List.getD_eq_getElem?_getD, List.getElem?_eq_getElem hlt, Option.getD_some]
        simpa using this
      rw [List.getD_eq_getElem?_getD, List.getElem?_take, if_pos (by omega), ← List.getD_eq_getElem?_getD, h0] at h1
      omega)
  rw [HCL.out]
  have HX := Lib.hid (GX.of w n m)
  have HB := Lib.hid hb
  clear h hall hb HCL
  have e1 : ((m : Int) != (m : Int)) = false := by simp
  go_enter Tryz.func61, Tryz.ntmps61
  go_wp2_with fail
  refine (hm.out _).mono ?_
  rintro e w1 ⟨rfl, hb⟩
  have HX1 := Lib.hid (HX.out.below hb)
  have b1 := HX1.out.c1
  have HB1 := Lib.hid (HB.out.below HX1.out.bel)
  clear hb
  go_wp2_with fail
  refine (HBl.out _ HB1.out).mono ?_
  rintro e w' ⟨rfl, rfl⟩
  go_wp2_with fail
  go_ret
  exact ⟨rfl, HX1.out.bel⟩
set_option maxRecDepth 100000 in
set_option maxHeartbeats 2000000 in
theorem class_full (n : Int) (m : Nat) (b o c : Nat) (xs : List Int) (w : World) (h : may n m = true) (hb : Bs w (some ⟨b, o, none⟩) m xs) (hc : m ≤ c) (hall : xs.all (· == 255) = false) : Calls Tryz.prog 61 #[.agg #[.int .i64 n, .int .i64 m], .slice (some ⟨b, o, none⟩) m c] w fun e w' => e = .returned (.int .i64 (cls n m xs)) ∧ Below w.heap.size w w' := by
  have hz := may_yes h
  have hm : Hid (∀ w, Calls Tryz.prog 17 #[.agg #[.int .i64 n, .int .i64 (m : Int)]] w fun e w' => e = .returned (.bool true) ∧ Below w.heap.size w w') := Lib.hid fun w => by
    have := may_any n m w
    rw [h] at this
    exact this
  have HBl : Hid (∀ w, Bs w (some ⟨b, o, none⟩) m xs → Calls Tryz.prog 74 #[.slice (some ⟨b, o, none⟩) m c] w fun e w' => e = .returned (.bool false) ∧ w = w') := Lib.hid fun w hb => by
    have := blank_calls (some ⟨b, o, none⟩) m c xs w hb (by unfold maxLen; omega)
    rw [hall] at this
    exact this
  have HCL : Hid (cls n m xs = if decide (xs.take 8 = hd n m) = true then 1 else 2) := Lib.hid (by
    rw [cls_in h (by rw [hb.len]), hall]
    simp)
  have HX := Lib.hid (GX.of w n m)
  have HB := Lib.hid hb
  have e1 : ((m : Int) != (m : Int)) = false := by simp
  have HA := Lib.hid (fun v => arr_in v (some ⟨b, o, none⟩) m c (by omega))
  have HU := Lib.hid (fun v => of_calls n m v)
  have h8 : (xs.take 8).length = 8 := by rw [List.length_take, hb.len]; omega
  have HE := Lib.hid (fun v => eq8 (xs.take 8) (hd n m) h8 (hd_len n m) v)
  have HK : Hid (∀ v, Below w.heap.size w v → ∀ k, k < 8 → v.cell? ⟨b, o + k, none⟩ = some (.int .u8 ((xs.take 8).getD k 0))) := Lib.hid fun v hv k hk => by
    rw [(hb.below hv).at_ k (by omega), List.getD_eq_getElem?_getD, List.getD_eq_getElem?_getD, List.getElem?_take, if_pos hk]
  obtain ⟨B, hB⟩ : ∃ B, decide (xs.take 8 = hd n m) = B := ⟨_, rfl⟩
  rw [hB] at HE HCL
  generalize ((hd n m).map (Value.int .u8)).toArray = U at HU HE
  generalize xs.take 8 = ts at HE HK h8 hB
  obtain ⟨t0, t1, t2, t3, t4, t5, t6, t7, rfl⟩ := eights h8
  have he : ∀ v, (Op.equalIn 10000 139 (.agg #[.int .u8 t0, .int .u8 t1, .int .u8 t2, .int .u8 t3, .int .u8 t4, .int .u8 t5, .int .u8 t6, .int .u8 t7]) (.agg U)).run Tryz.prog v = .ok B v := HE.out
  have HE2 := Lib.hid he
  clear h hall hb hB HE h8 he
  go_enter Tryz.func61, Tryz.ntmps61
  go_wp2_with fail
  refine (hm.out _).mono ?_
  rintro e w1 ⟨rfl, hb⟩
  have HX1 := Lib.hid (HX.out.below hb)
  have b1 := HX1.out.c1
  have HB1 := Lib.hid (HB.out.below HX1.out.bel)
  clear hb
  go_wp2_with fail
  refine (HBl.out _ HB1.out).mono ?_
  rintro e w' ⟨rfl, rfl⟩
  have RD : Hid (∀ v, Below w1.heap.size w1 v → Below w1.heap.size w1 v ∧ v.cell? ⟨w.heap.size, 0, none⟩ = some (.int .i64 n) ∧ v.cell? ⟨w.heap.size, 1, none⟩ = some (.int .i64 m) ∧ v.cell? ⟨b, o, none⟩ = some (.int .u8 t0) ∧ v.cell? ⟨b, o + 1, none⟩ = some (.int .u8 t1) ∧ v.cell? ⟨b, o + 2, none⟩ = some (.int .u8 t2) ∧ v.cell? ⟨b, o + 3, none⟩ = some (.int .u8 t3) ∧ v.cell? ⟨b, o + 4, none⟩ = some (.int .u8 t4) ∧ v.cell? ⟨b, o + 5, none⟩ = some (.int .u8 t5) ∧ v.cell? ⟨b, o + 6, none⟩ = some (.int .u8 t6) ∧ v.cell? ⟨b, o + 7, none⟩ = some (.int .u8 t7)) := Lib.hid fun v hv => by
    have hk := HK.out v (HX1.out.below hv).bel
    exact ⟨hv, (HX1.out.below hv).c0, (HX1.out.below hv).c1, hk 0 (by omega), hk 1 (by omega), hk 2 (by omega), hk 3 (by omega), hk 4 (by omega), hk 5 (by omega), hk 6 (by omega), hk 7 (by omega)⟩
  have ha := HA.out
  have he := HE2.out
  clear HK HB1 HBl hm HE2
  go_wp2_with fail
  refine wp_region_noPanic ?_
  go_region_held3 (fun v => Below w1.heap.size w1 v ∧ v.cell? ⟨w.heap.size, 0, none⟩ = some (.int .i64 n) ∧ v.cell? ⟨w.heap.size, 1, none⟩ = some (.int .i64 m) ∧ v.cell? ⟨b, o, none⟩ = some (.int .u8 t0) ∧ v.cell? ⟨b, o + 1, none⟩ = some (.int .u8 t1) ∧ v.cell? ⟨b, o + 2, none⟩ = some (.int .u8 t2) ∧ v.cell? ⟨b, o + 3, none⟩ = some (.int .u8 t3) ∧ v.cell? ⟨b, o + 4, none⟩ = some (.int .u8 t4) ∧ v.cell? ⟨b, o + 5, none⟩ = some (.int .u8 t5) ∧ v.cell? ⟨b, o + 6, none⟩ = some (.int .u8 t6) ∧ v.cell? ⟨b, o + 7, none⟩ = some (.int .u8 t7))
    (first
      | exact RD.out _ (Below.refl _ _)
      | exact RD.out _ (by assumption)
      | exact RD.out _ (Below.drew (by assumption))
      | exact RD.out _ (Below.drew (Below.refl _ _))
      | exact RD.out _ (And.left (by assumption)))
    (first
      | (go_at_call 75; refine (HU.out _).mono ?_; rintro e w4 ⟨rfl, hb4⟩; have hn4 : Below w1.heap.size w1 w4 := (And.left (by assumption) : Below w1.heap.size w1 _).trans (hb4.mono (Below.size (And.left (by assumption)))); clear hb4))
  all_goals
    refine NoPanic.normal ?_
    have HW4 := Lib.hid (HX1.out.bel.trans (hn4.mono HX1.out.bel.size))
    clear RD HU b1 ha he hn4
    cases B with
    | true =>
      go_wp2_with fail
      go_ret
      exact ⟨Byte.ret_int HCL.out.symm, HW4.out⟩
    | false =>
      go_wp2_with fail
      go_ret
      exact ⟨Byte.ret_int HCL.out.symm, HW4.out⟩
theorem class_calls (n z : Int) (A : Option Addr) (m c : Nat) (xs : List Int) (w : World) (hb : Bs w A m xs) (hc : m ≤ c) : Calls Tryz.prog 61 #[.agg #[.int .i64 n, .int .i64 z], .slice A m c] w fun e w' => e = .returned (.int .i64 (cls n z xs)) ∧ Below w.heap.size w w' := by
  cases h : may n z with
  | false => exact class_may n z A m c xs w h
  | true =>
    by_cases e : (m : Int) = z
    · subst e
      have hz := may_yes h
      obtain ⟨b, o, rfl, _, _⟩ := hb.2.2 0 (by omega)
      cases hall : xs.all (· == 255) with
      | true => exact class_blank n m b o c xs w h hb hc hall
      | false => exact class_full n m b o c xs w h hb hc hall
    · exact class_len n z A m c xs w h hb.len e
end Go.Proofs.YthbafcihmcjchaaGreatDoor.HeadP

/- The project's isFull, Of and Next (of nothing) of layer 8. -/
namespace Go.Proofs.YthbafcihmcjchaaGreatDoor.ScanZo
set_option linter.unusedVariables false
set_option linter.unusedSimpArgs false
open Go.RowKit
open Go.Proofs.YthbafcihmcjchaaGreatDoor.Byte Go.Proofs.YthbafcihmcjchaaGreatDoor.PlaceM Go.Proofs.YthbafcihmcjchaaGreatDoor.PlaceV Go.Proofs.YthbafcihmcjchaaGreatDoor.RecM Go.Proofs.YthbafcihmcjchaaGreatDoor.RecX Go.Proofs.YthbafcihmcjchaaGreatDoor.RingM Go.Proofs.YthbafcihmcjchaaGreatDoor.RingK Go.Proofs.YthbafcihmcjchaaGreatDoor.RingS Go.Proofs.YthbafcihmcjchaaGreatDoor.ScanM Go.Proofs.YthbafcihmcjchaaGreatDoor.ScanO Go.Proofs.YthbafcihmcjchaaGreatDoor.ScanZ Go.Proofs.YthbafcihmcjchaaGreatDoor.Own

theorem sc_full (xs : List Int) (k : Int) (a : Nat) : (sc xs k a).2.2 = (decide ((sc xs k a).2.1 = xs.length) || !decide (cs xs ((sc xs k a).2.1 : Nat) = 0)) := by
  generalize hn : xs.length - a = n
  induction n using Nat.strongRecOn generalizing a with
  | ind n ih =>
    cases ho : on xs a with
    | false => rw [sc_off ho]
    | true =>
      obtain ⟨r, he, hl, hr⟩ := on_end ho
      have h1 := ih (xs.length - (a + 8 + r)) (by omega) (a + 8 + r) rfl
      rcases on_cases ho with h | ⟨h, hg⟩
      · rw [sc_skip h he]
        exact h1
      · rw [sc_one h hg he]
        exact h1
set_option maxHeartbeats 1000000 in
theorem full_calls (A : Option Addr) (m c : Nat) (xs : List Int) (a : Nat) (w : World) (hb : Bs w A m xs) (hc : m ≤ c) (hm : m ≤ 100000) :
    Calls Tryz.prog 63 #[.slice A m c, .int .i64 a] w fun e w' => e = .returned (.bool (decide (a = xs.length) || !decide (cs xs a = 0))) ∧ Below w.heap.size w w' := by
  have HL : Hid (xs.length = m) := Lib.hid hb.len
  have CA := Lib.hid (RecX.class_calls A m c xs a w hb (by omega) hc)
  clear hb
  obtain ⟨s, hs⟩ : ∃ s, cs xs a = s := ⟨_, rfl⟩
  obtain ⟨r, hr⟩ : ∃ r, cr xs a = r := ⟨_, rfl⟩
  obtain ⟨q, hq⟩ : ∃ q, ce xs a = q := ⟨_, rfl⟩
  rw [hs, hr, hq] at CA
  rw [hs, HL.out]
  clear hs hr hq
  by_cases h0 : s = 0
  · subst h0
    by_cases ha : a = m
    · subst ha
      have d : ((a : Int) == (a : Int)) = true := by simp
      go_enter Tryz.func63, Tryz.ntmps63
      go_wp2_with fail
      refine CA.out.mono ?_
      rintro e w2 ⟨A2, c2, rfl, _, _, _, hb2⟩
      have HB2 := Lib.hid hb2
      clear hb2
      go_wp2_with fail
      go_ret
      exact ⟨by simp, HB2.out⟩
    · have d : ((a : Int) == (m : Int)) = false := by rw [beq_eq_false_iff_ne]; omega
      have HA := Lib.hid ha
      clear ha
      go_enter Tryz.func63, Tryz.ntmps63
      go_wp2_with fail
      refine CA.out.mono ?_
      rintro e w2 ⟨A2, c2, rfl, _, _, _, hb2⟩
      have HB2 := Lib.hid hb2
      clear hb2
      go_wp2_with fail
      go_ret
      exact ⟨by simp [HA.out], HB2.out⟩
  · have d : (s != 0) = true := by rw [bne_iff_ne]; exact h0
    have HZ := Lib.hid h0
    clear h0
    go_enter Tryz.func63, Tryz.ntmps63
    go_wp2_with fail
    refine CA.out.mono ?_
    rintro e w2 ⟨A2, c2, rfl, _, _, _, hb2⟩
    have HB2 := Lib.hid hb2
    clear hb2
    go_wp2_with fail
    go_ret
    exact ⟨by simp [HZ.out], HB2.out⟩
theorem next_ok : ScanB.NextOk := by
  intro w
  go_enter Tryz.func45, Tryz.ntmps45
  go_wp2_with fail
  go_loopw [3, 10] (fun u i wr => u = .int .u64 0 ∧ i = .int .i64 0 ∧ w = wr) (fun _ _ _ => 0)
  case atStart => exact ⟨rfl, rfl, rfl⟩
  case round =>
    obtain ⟨rfl, rfl, rfl⟩ := hrel
    go_wp2_with fail
    go_ret
    exact ⟨rfl, Below.refl _ _⟩
theorem info_ssec : (Tryz.prog.info? 52).map (·.size) = some 4 := by kernel_rfl
set_option maxRecDepth 100000 in
set_option maxHeartbeats 4000000 in
theorem of_calls (n z : Int) (A : Option Addr) (m c k : Nat) (xs : List Int) (w : World) (hb : Bs w A m xs) (hc : m ≤ c) (hm : m ≤ 100000) (hk : k ≤ 1000000) (hN : PlaceH.Nowhere w) :
    Calls Tryz.prog 43 #[.agg #[.int .i64 n, .int .i64 z], .int .i64 k, .slice A m c] w (SecE (cl n z xs) (en n z xs k) (fu n z xs k) (fo n z xs k) w) := by
  have HB := Lib.hid hb
  have HN := Lib.hid hN
  clear hb hN
  have RC := Lib.hid (fun w hb => HeadP.class_calls n z A m c xs w hb hc)
  obtain ⟨cc, hcc⟩ : ∃ cc, HeadM.cls n z xs = cc := ⟨_, rfl⟩
  rw [hcc] at RC
  have hcl : cl n z xs = cc := hcc
  obtain ⟨en0, hen⟩ : ∃ x, en n z xs k = x := ⟨_, rfl⟩
  obtain ⟨fu0, hfu⟩ : ∃ x, fu n z xs k = x := ⟨_, rfl⟩
  obtain ⟨fo0, hfo⟩ : ∃ x, fo n z xs k = x := ⟨_, rfl⟩
  rw [hcl, hen, hfu, hfo]
  go_enter Tryz.func43, Tryz.ntmps43
  go_wp2_with fail
  obtain ⟨hR, hW0, hz0⟩ := blk2 w #[.int .i64 n, .int .i64 z] #[.int .i64 0, .int .i64 0, .bool false, .slice none 0 0] 28 52
  obtain ⟨W0, hW⟩ : ∃ W0, (w.alloc (.cells #[.int .i64 n, .int .i64 z] 28)).alloc (.cells #[.int .i64 0, .int .i64 0, .bool false, .slice none 0 0] 52) = W0 := ⟨_, rfl⟩
  rw [hW] at hR hW0 hz0 ⊢
  clear hW
  refine (RC.out _ (HB.out.below hW0)).mono ?_
  rintro e w1 ⟨rfl, hb1⟩
  have HR1 := Lib.hid (hR.below hb1)
  have HW1 := Lib.hid (keeps hW0 hb1)
  have hz1 := hb1.size
  rw [hz0] at hz1
  clear hR hW0 hz0 hb1
  have hrl : w.heap.size + 1 < w1.heap.size := by omega
  rcases (show cc = 0 ∨ cc = 2 ∨ cc = 1 by rw [← hcc]; rcases cls_three n z xs with h | h | h <;> simp [h]) with h | h | h
  · subst h
    obtain rfl : en0 = 0 := by rw [← hen]; unfold en; rw [hcl]; rfl
    obtain rfl : fu0 = false := by rw [← hfu]; unfold fu; rw [hcl]; rfl
    obtain rfl : fo0 = [] := by rw [← hfo]; unfold fo; rw [hcl]; rfl
    clear hen hfu hfo hcl hcc
    go_wp2_with ((with_reducible refine pick none ?_); refine store_blk rfl 52 (.tmp 6) _ rfl (w.heap.size + 1) #[.int .i64 0, .int .i64 0, .bool false, .slice none 0 0] rfl rfl 52 _ HR1.out info_ssec rfl (by simp [Value.oneCell']) ?_; intro w2 hB2 hg2; have hW2 := HW1.out.grown hg2 HW1.out.size (by intro k hk; injection hk with hk; omega))
    refine bodyPost_ret (v := .agg #[.int .i64 0, .int .i64 0, .bool false, .slice none 0 0]) (results_cell_row rfl _ _ (w.heap.size + 1) 52 _ (0, 0) _ rfl hB2 Tryz.underlying52 rfl info_ssec) rfl ?_
    exact ⟨.slice none 0 0, rfl, World.ownsRow_nil _ _ _ _, hW2⟩
  · subst h
    obtain rfl : en0 = 0 := by rw [← hen]; unfold en; rw [hcl]; rfl
    obtain rfl : fu0 = true := by rw [← hfu]; unfold fu; rw [hcl]; rfl
    obtain rfl : fo0 = [] := by rw [← hfo]; unfold fo; rw [hcl]; rfl
    clear hen hfu hfo hcl hcc
    go_wp2_with ((with_reducible refine pick none ?_); refine store_blk rfl 52 (.tmp 6) _ rfl (w.heap.size + 1) #[.int .i64 2, .int .i64 0, .bool true, .slice none 0 0] rfl rfl 52 _ HR1.out info_ssec rfl (by simp [Value.oneCell']) ?_; intro w2 hB2 hg2; have hW2 := HW1.out.grown hg2 HW1.out.size (by intro k hk; injection hk with hk; omega))
    refine bodyPost_ret (v := .agg #[.int .i64 2, .int .i64 0, .bool true, .slice none 0 0]) (results_cell_row rfl _ _ (w.heap.size + 1) 52 _ (0, 0) _ rfl hB2 Tryz.underlying52 rfl info_ssec) rfl ?_
    exact ⟨.slice none 0 0, rfl, World.ownsRow_nil _ _ _ _, hW2⟩
  · subst h
    have h8 : 8 ≤ m := by rw [← HB.out.len]; exact live_len hcc
    have HEN : Hid (en0 = (sc xs k 8).2.1 ∧ fu0 = (sc xs k 8).2.2 ∧ fo0 = (sc xs k 8).1) := Lib.hid ⟨by rw [← hen]; unfold en; rw [hcl]; rfl, by rw [← hfu]; unfold fu; rw [hcl]; rfl, by rw [← hfo]; unfold fo; rw [hcl]; rfl⟩
    clear hen hfu hfo hcl hcc
    have TK := Lib.hid (take_calls A m c k xs w1 (HB.out.below HW1.out) hc hm hk h8 (HN.out.below HW1.out))
    obtain ⟨z1, z2, z3⟩ := HEN.out
    have z4 := sc_full xs k 8
    rw [← z2, ← z1] at z4
    rw [← z1, ← z3] at TK
    have HZ4 := Lib.hid z4
    clear z1 z2 z3 z4
    go_wp2_with fail
    refine TK.out.mono ?_
    rintro e w2 ⟨v, rfl, ho2, hb2⟩
    have HR2 := Lib.hid (HR1.out.below hb2)
    have HW2 := Lib.hid (keeps HW1.out hb2)
    have HO2 := Lib.hid ho2
    obtain ⟨D, N, p, rfl⟩ := own_slice ho2
    have hz2 := hb2.size
    have FU := Lib.hid (full_calls A m c xs en0 w2 (HB.out.below HW2.out) hc hm)
    rw [← HZ4.out] at FU
    clear ho2 hb2
    go_wp2_with (first
      | (go_at_call 63; refine FU.out.mono ?_; rintro e w3 ⟨rfl, hb3⟩; have HR3 := Lib.hid (HR2.out.below hb3); have HW3 := Lib.hid (keeps HW2.out hb3); have HO3 := Lib.hid (RingF.own_below HO2.out hb3); clear hb3)
      | ((with_reducible refine pick none ?_); refine store_blk rfl 52 (.tmp 6) _ rfl (w.heap.size + 1) #[.int .i64 1, .int .i64 en0, .bool fu0, .slice D N p] rfl rfl 52 _ HR3.out info_ssec rfl (by simp [Value.oneCell']) ?_; intro w4 hB4 hg4; have hW4 := HW3.out.grown hg4 HW3.out.size (by intro k hk; injection hk with hk; omega); have hO4 := HO3.out.kept hg4 (own_not HO3.out (by omega))))
    refine bodyPost_ret (v := .agg #[.int .i64 1, .int .i64 en0, .bool fu0, .slice D N p]) (results_cell_row rfl _ _ (w.heap.size + 1) 52 _ (0, 0) _ rfl hB4 Tryz.underlying52 rfl info_ssec) rfl ?_
    exact ⟨.slice D N p, rfl, hO4.mono (by omega), hW4⟩
theorem of_ok : ScanB.OfOk := fun n z A m c k xs w hb hc hm hk hN => of_calls n z A m c k xs w hb hc (by omega) (by omega) hN
end Go.Proofs.YthbafcihmcjchaaGreatDoor.ScanZo
