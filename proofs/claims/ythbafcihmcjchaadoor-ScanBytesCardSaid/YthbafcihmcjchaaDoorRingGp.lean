/- The project's reader of an item's writing: number, place, isGone, text. -/
import Derived.Test.YthbafcihmcjchaaDoorRingBp
import Derived.Test.YthbafcihmcjchaaDoorRingN
import Derived.Deep.RegionLaw
import Derived.Deep.AppendLies
import Derived.Deep.RegionWith
import Derived.BigRegion
import Derived.IntWalk
import Derived.Test.YthbafcihmcjchaaDoorRingG
namespace Go.Proofs.YthbafcihmcjchaaDoor.RingGp
set_option linter.unusedVariables false
set_option linter.unusedSimpArgs false
open Go.RowKit
open Go.Proofs.YthbafcihmcjchaaDoor.Byte Go.Proofs.YthbafcihmcjchaaDoor.PackM Go.Proofs.YthbafcihmcjchaaDoor.PackW Go.Proofs.YthbafcihmcjchaaDoor.PlaceM Go.Proofs.YthbafcihmcjchaaDoor.PlaceV Go.Proofs.YthbafcihmcjchaaDoor.PlaceH Go.Proofs.YthbafcihmcjchaaDoor.RingM Go.Proofs.YthbafcihmcjchaaDoor.RingN Go.Proofs.YthbafcihmcjchaaDoor.RingC Go.Proofs.YthbafcihmcjchaaDoor.Own

/-- The reader's block. -/
def Rd (w : World) (r : Nat) (A : Option Addr) (n c : Nat) (a e : Int) : Prop := Blk w r #[.slice A n c, .int .i64 a, .int .i64 e] 85
theorem grown_two (w : World) (r i j : Nat) (u v : Value) : w.grownBy (((w.setCell ⟨r, i, none⟩ u).setCell ⟨r, j, none⟩ v).drew) (some r) :=
  ⟨rfl, rfl, rfl, by simp [World.size_setCell], fun k _ hne => (Below.heap_setCell _ _ v k (fun e => hne (by rw [e]))).trans (Below.heap_setCell w _ u k (fun e => hne (by rw [e])))⟩
theorem Rd.two {w : World} {r : Nat} {A : Option Addr} {n c : Nat} {a e : Int} (h : Rd w r A n c a e) (i k : Int) : Rd (((w.setCell ⟨r, 1, none⟩ (.int .i64 i)).setCell ⟨r, 2, none⟩ (.int .i64 k)).drew) r A n c i k := by
  have := Blk.set_ (Blk.set_ h 1 (.int .i64 i)) 2 (.int .i64 k)
  refine Blk.drew ?_
  simpa using this
theorem Rd.two' {w : World} {r : Nat} {A : Option Addr} {n c : Nat} {a e : Int} (h : Rd w r A n c a e) (i k : Int) : Rd (((w.setCell ⟨r, 2, none⟩ (.int .i64 k)).setCell ⟨r, 1, none⟩ (.int .i64 i)).drew) r A n c i k := by
  have := Blk.set_ (Blk.set_ h 2 (.int .i64 k)) 1 (.int .i64 i)
  refine Blk.drew ?_
  simpa using this
set_option maxHeartbeats 400000 in
theorem number_bad (A : Option Addr) (n c r : Nat) (a e m : Int) (w : World) (hR : Rd w r A n c a e) (he : e ≠ 0) :
    Calls Tryd.prog 43 #[.pointer (some ⟨r, 0, none⟩), .int .i64 m] w fun x w' => x = .returned (.int .u64 0) ∧ w = w' := by
  have c2 : w.cell? ⟨r, 2, none⟩ = some (.int .i64 e) := Blk.cell hR 2
  have hz : (e != 0) = true := by rw [bne_iff_ne]; exact he
  go_enter Tryd.func43, Tryd.ntmps43
  go_wp2
  go_ret
  exact ⟨rfl, rfl⟩
set_option maxHeartbeats 400000 in
theorem text_bad (A : Option Addr) (n c r : Nat) (a e m : Int) (w : World) (hR : Rd w r A n c a e) (he : e ≠ 0) :
    Calls Tryd.prog 46 #[.pointer (some ⟨r, 0, none⟩), .int .i64 m] w fun x w' => x = .returned (.string ⟨#[]⟩) ∧ w = w' := by
  have c2 : w.cell? ⟨r, 2, none⟩ = some (.int .i64 e) := Blk.cell hR 2
  have hz : (e != 0) = true := by rw [bne_iff_ne]; exact he
  go_enter Tryd.func46, Tryd.ntmps46
  go_wp2
  go_ret
  exact ⟨rfl, rfl⟩
set_option maxRecDepth 100000 in
set_option maxHeartbeats 2000000 in
theorem number_good (A : Option Addr) (n c r : Nat) (xs : List Int) (a m : Int) (w : World) (hb : Bs w A n xs) (hn : n ≤ 100000) (hR : Rd w r A n c a 0) (h0 : -9223372036854775808 ≤ a) (h1 : a ≤ 9223372036854775807) (h2 : -9223372036854775808 ≤ m) (h3 : m ≤ 9223372036854775807) :
    Calls Tryd.prog 43 #[.pointer (some ⟨r, 0, none⟩), .int .i64 m] w fun x w' => x = .returned (.int .u64 (gx xs a m)) ∧ Rd w' r A n c (gi xs a m) (ge xs a m) ∧ w.grownBy w' (some r) := by
  have G := Lib.hid (fun W (hW : Bs W A n xs) => get_calls A n c xs a m W hW (by omega) h0 h1 h2 h3)
  have HB := Lib.hid (hb.below (below_drewN (Below.refl w.heap.size w) 1))
  have HR := Lib.hid hR
  have c0 : w.cell? ⟨r, 0, none⟩ = some (.slice A n c) := Blk.cell hR 0
  have c1 : w.cell? ⟨r, 1, none⟩ = some (.int .i64 a) := Blk.cell hR 1
  have c2 : w.cell? ⟨r, 2, none⟩ = some (.int .i64 0) := Blk.cell hR 2
  have f1 := Blk.frozen hR 1
  have f2 := Blk.frozen hR 2
  clear hb hR
  obtain ⟨x, hx⟩ : ∃ x, gx xs a m = x := ⟨_, rfl⟩
  obtain ⟨i, hi⟩ : ∃ i, gi xs a m = i := ⟨_, rfl⟩
  obtain ⟨e, he⟩ : ∃ e, ge xs a m = e := ⟨_, rfl⟩
  rw [hx, hi, he] at G
  rw [hx, hi, he]
  clear hx hi he
  go_enter Tryd.func43, Tryd.ntmps43
  go_wp2_with fail
  go_region_law (first | (go_simp; go_at_call 54; refine (G.out _ HB.out).mono ?_; rintro e w' ⟨rfl, rfl⟩))
  all_goals go_wp2_with fail
  all_goals go_ret
  all_goals first | exact ⟨rfl, HR.out.two i e, grown_two w r 1 2 _ _⟩ | exact ⟨rfl, HR.out.two' i e, grown_two w r 2 1 _ _⟩
set_option maxRecDepth 100000 in
set_option maxHeartbeats 2000000 in
theorem text_good (A : Option Addr) (n c r : Nat) (xs : List Int) (a m : Int) (w : World) (hb : Bs w A n xs) (hn : n ≤ 100000) (hc : n ≤ c) (hR : Rd w r A n c a 0) (h0 : -9223372036854775808 ≤ a) (h1 : a ≤ 9223372036854775807) :
    Calls Tryd.prog 46 #[.pointer (some ⟨r, 0, none⟩), .int .i64 m] w fun x w' => x = .returned (.string (tx xs a m)) ∧ Rd w' r A n c (ti xs a m) (te xs a m) ∧ w.grownBy w' (some r) := by
  have G := Lib.hid (fun W (hW : Bs W A n xs) => gettext_calls A n c xs a m W hW (by omega) hc h0 h1)
  have HB := Lib.hid (hb.below (below_drewN (Below.refl w.heap.size w) 1))
  have HR := Lib.hid hR
  have c0 : w.cell? ⟨r, 0, none⟩ = some (.slice A n c) := Blk.cell hR 0
  have c1 : w.cell? ⟨r, 1, none⟩ = some (.int .i64 a) := Blk.cell hR 1
  have c2 : w.cell? ⟨r, 2, none⟩ = some (.int .i64 0) := Blk.cell hR 2
  have f1 := Blk.frozen hR 1
  have f2 := Blk.frozen hR 2
  clear hb hR
  obtain ⟨x, hx⟩ : ∃ x, tx xs a m = x := ⟨_, rfl⟩
  obtain ⟨i, hi⟩ : ∃ i, ti xs a m = i := ⟨_, rfl⟩
  obtain ⟨e, he⟩ : ∃ e, te xs a m = e := ⟨_, rfl⟩
  rw [hx, hi, he] at G
  rw [hx, hi, he]
  clear hx hi he
  go_enter Tryd.func46, Tryd.ntmps46
  go_wp2_with fail
  go_region_law (first | (go_simp; go_at_call 58; refine (G.out _ HB.out).mono ?_; rintro e w' ⟨rfl, rfl⟩))
  all_goals go_wp2_with fail
  all_goals go_ret
  all_goals first | exact ⟨rfl, HR.out.two i e, grown_two w r 1 2 _ _⟩ | exact ⟨rfl, HR.out.two' i e, grown_two w r 2 1 _ _⟩
/-- What was read at p, m bytes, or 0. -/
def ex (xs : List Int) (p m : Nat) : Int := if xs.length < p + m then 0 else getn xs p m
/-- The reader, behind p bytes. -/
def At (w : World) (r : Nat) (A : Option Addr) (n c : Nat) (p : Nat) : Prop := ∃ a : Int, Rd w r A n c a (if n < p then 3 else 0) ∧ (p ≤ n → a = p)
theorem number_any (A : Option Addr) (n c r p m : Nat) (xs : List Int) (w : World) (hb : Bs w A n xs) (hn : n ≤ 100000) (hR : At w r A n c p) (hm : width m = m) (hm2 : m ≤ 8) (h0 : 0 < m) :
    Calls Tryd.prog 43 #[.pointer (some ⟨r, 0, none⟩), .int .i64 m] w fun x w' => x = .returned (.int .u64 (ex xs p m)) ∧ At w' r A n c (p + m) ∧ w.grownBy w' (some r) := by
  obtain ⟨a, h1, h2⟩ := hR
  have hl := hb.len
  by_cases hp : n < p
  · rw [if_pos hp] at h1
    refine (number_bad A n c r a 3 m w h1 (by decide)).mono ?_
    rintro x w' ⟨rfl, rfl⟩
    refine ⟨?_, ⟨a, ?_, fun h => by omega⟩, ⟨rfl, rfl, rfl, Nat.le_refl _, fun _ _ _ => rfl⟩⟩
    · unfold ex
      rw [if_pos (by omega)]
    · rw [if_pos (by omega)]
      exact h1
  · rw [if_neg hp] at h1
    obtain rfl := h2 (by omega)
    refine (number_good A n c r xs p m w hb hn h1 (by omega) (by omega) (by omega) (by omega)).mono ?_
    rintro x w' ⟨rfl, h3, h4⟩
    have hw : (width (m : Int) : Int) = m := by rw [hm]
    by_cases hs : n < p + m
    · obtain ⟨e1, e2, e3⟩ := g_short xs p m (by omega) (by omega)
      rw [e2, e3] at h3
      rw [e1]
      refine ⟨?_, ⟨0, ?_, fun h => by omega⟩, h4⟩
      · unfold ex
        rw [if_pos (by omega)]
      · rw [if_pos hs]
        exact h3
    · obtain ⟨e1, e2, e3⟩ := g_ok xs p m (by omega) (by omega)
      rw [e2, e3] at h3
      rw [e1]
      refine ⟨?_, ⟨(p : Int) + (width (m : Int) : Int), ?_, fun h => by omega⟩, h4⟩
      · unfold ex
        rw [if_neg (by omega), hm]
        rfl
      · rw [if_neg hs]
        exact h3
theorem Bs.far {w w' : World} {A : Option Addr} {n r : Nat} {xs : List Int} (h : Bs w A n xs) (hg : w.grownBy w' (some r)) (hne : ∀ b o, A = some ⟨b, o, none⟩ → 0 < n → b ≠ r) : Bs w' A n xs := by
  refine ⟨h.1, h.2.1, fun k hk => ?_⟩
  obtain ⟨b, o, e, h1, h2⟩ := h.2.2 k hk
  exact ⟨b, o, e, Nat.lt_of_lt_of_le h1 hg.size, (hg.cell_far ⟨b, o + k, none⟩ h1 (fun e2 => hne b o e (by omega) (by injection e2))).trans h2⟩
theorem Nowhere.far {w w' : World} {r : Nat} (h : Nowhere w) (hg : w.grownBy w' (some r)) (hne : r ≠ 1) : Nowhere w' := by
  obtain ⟨h0, h1, h2, h3⟩ := h
  have hf : ∀ i, w'.cell? ⟨1, i, none⟩ = w.cell? ⟨1, i, none⟩ := fun i => hg.cell_far ⟨1, i, none⟩ h0 (fun e => hne (by injection e with e; exact e.symm))
  exact ⟨Nat.lt_of_lt_of_le h0 hg.size, by rw [hf]; exact h1, by rw [hf]; exact h2, by rw [hf]; exact h3⟩
theorem get3 (a b c : Int) (w : World) (a0 : 0 ≤ a) (a1 : a ≤ 255) (b0 : 0 ≤ b) (b1 : b ≤ 255) (c0 : 0 ≤ c) (c1 : c ≤ 255) (hg : Nowhere w) :
    Calls Tryd.prog 57 #[.agg #[.int .u8 a, .int .u8 b, .int .u8 c]] w fun e w' => e = .returned (.complex .f64 (gre a b c) (gim a b c)) ∧ Below w.heap.size w w' := by
  by_cases h : a = 255 ∧ b = 255 ∧ c = 255
  · obtain ⟨rfl, rfl, rfl⟩ := h
    exact get_none w hg
  · unfold gre gim
    rw [if_neg h, if_neg h]
    exact get_yes a b c w a0 a1 b0 b1 c0 c1 h hg
theorem ex_bd (xs : List Int) (p : Nat) (h : ∀ x ∈ xs, 0 ≤ x ∧ x ≤ 255) : 0 ≤ ex xs p 1 ∧ ex xs p 1 ≤ 255 := by
  unfold ex
  split
  · omega
  · have := get_bd xs p 1 h
    omega
theorem below_grown {w w' : World} (hb : Below w.heap.size w w') (row : Option Nat) : w.grownBy w' row := ⟨hb.os, hb.tape, hb.output, hb.size, fun k hk _ => hb.block k hk⟩
theorem grown_new1 {a v v' : World} {g r : Nat} (h : a.grownBy v (some g)) (h2 : v.grownBy v' (some r)) (hr : a.heap.size ≤ r) : a.grownBy v' (some g) :=
  ⟨h2.os.trans h.os, h2.tape.trans h.tape, h2.output.trans h.output, Nat.le_trans h.size h2.size, fun k hk hne => (h2.block k (Nat.lt_of_lt_of_le hk h.size) (fun e => by injection e with e; omega)).trans (h.block k hk hne)⟩
theorem grown_set1 (w : World) (g i : Nat) (v : Value) : w.grownBy (w.setCell ⟨g, i, none⟩ v) (some g) :=
  ⟨rfl, rfl, rfl, by rw [World.size_setCell]; exact Nat.le_refl _, fun k _ hne => Below.heap_setCell w _ v k (fun e => hne (by rw [e]))⟩
/-- Three bytes of the call's own, of which the first k are read. -/
structure Yw (xs : List Int) (p k : Nat) (w : World) (g : Nat) (B : Nat → Int) : Prop where
  hi : g < w.heap.size
  cell : ∀ j, j < 3 → w.cell? ⟨g, j, none⟩ = some (.int .u8 (B j)) ∧ w.frozen? ⟨g, j, none⟩ = false
  is : ∀ j, j < k → B j = ex xs (p + j) 1
theorem Yw.set_ {xs : List Int} {p k : Nat} {w : World} {g : Nat} {B : Nat → Int} (h : Yw xs p k w g B) (hk : k < 3) : Yw xs p (k + 1) (w.setCell ⟨g, k, none⟩ (.int .u8 (ex xs (p + k) 1))) g (fun j => if j = k then ex xs (p + k) 1 else B j) := by
  refine ⟨by rw [World.size_setCell]; exact h.hi, fun j hj => ⟨?_, by rw [World.frozen?_setCell]; exact (h.cell j hj).2⟩, fun j hj => ?_⟩
  · by_cases e : j = k
    · subst e
      rw [if_pos rfl]
      exact World.cell?_setCell_same' _ _ _ (by rw [(h.cell j hj).1]; rfl)
    · rw [if_neg e, World.cell?_setCell_other _ _ _ _ (by intro e2; injection e2 with _ e2; exact e e2.symm)]
      exact (h.cell j hj).1
  · by_cases e : j = k
    · rw [if_pos e, e]
    · rw [if_neg e]
      exact h.is j (by omega)
theorem Yw.far {xs : List Int} {p k : Nat} {w w' : World} {g r : Nat} {B : Nat → Int} (h : Yw xs p k w g B) (hg : w.grownBy w' (some r)) (hne : g ≠ r) : Yw xs p k w' g B :=
  ⟨Nat.lt_of_lt_of_le h.hi hg.size, fun j hj => ⟨(hg.cell_far ⟨g, j, none⟩ h.hi (fun e => hne (by injection e))).trans (h.cell j hj).1, (hg.frozen_far ⟨g, j, none⟩ h.hi (fun e => hne (by injection e))).trans (h.cell j hj).2⟩, h.is⟩
theorem At.far {w w' : World} {r g n c p : Nat} {A : Option Addr} (h : At w r A n c p) (hg : w.grownBy w' (some g)) (hne : r ≠ g) : At w' r A n c p := by
  obtain ⟨a, h1, h2⟩ := h
  exact ⟨a, Blk.grown h1 hg hne, h2⟩
set_option maxRecDepth 100000 in
set_option maxHeartbeats 2000000 in
theorem place_any (A : Option Addr) (n c r p : Nat) (xs : List Int) (w : World) (hb : Bs w A n xs) (hn : n ≤ 100000) (hR : At w r A n c p) (hne : ∀ b o, A = some ⟨b, o, none⟩ → 0 < n → b ≠ r) (hr0 : r ≠ 1) (hrs : r < w.heap.size) (hN : Nowhere w) :
    Calls Tryd.prog 44 #[.pointer (some ⟨r, 0, none⟩)] w fun x w' => x = .returned (.complex .f64 (gre (ex xs p 1) (ex xs (p + 1) 1) (ex xs (p + 2) 1)) (gim (ex xs p 1) (ex xs (p + 1) 1) (ex xs (p + 2) 1))) ∧ At w' r A n c (p + 3) ∧ w.grownBy w' (some r) := by
  have HB := Lib.hid hb
  have HN := Lib.hid hN
  have HNE := Lib.hid hne
  have HR := Lib.hid hR
  have hxs := hb.2.1
  have HXS := Lib.hid hxs
  obtain ⟨x0, hx0⟩ : ∃ x0, ex xs p 1 = x0 := ⟨_, rfl⟩
  obtain ⟨x1, hx1⟩ : ∃ x1, ex xs (p + 1) 1 = x1 := ⟨_, rfl⟩
  obtain ⟨x2, hx2⟩ : ∃ x2, ex xs (p + 2) 1 = x2 := ⟨_, rfl⟩
  rw [hx0, hx1, hx2]
  have HX0 := Lib.hid hx0
  have HX1 := Lib.hid hx1
  have HX2 := Lib.hid hx2
  clear hb hN hne hR hxs hx0 hx1 hx2
  go_enter Tryd.func44, Tryd.ntmps44
  go_wp2_with fail
  go_loopw [5] (fun i wr => ∃ (k : Nat) (B : Nat → Int), k ≤ 3 ∧ i = .int .i64 k ∧ Yw xs p k wr w.heap.size B ∧ At wr r A n c (p + k) ∧ w.grownBy wr (some r)) (fun i _ => 3 - (intOf i).toNat)
  case atStart =>
    have hA := Blk.new_ w #[.int .u8 0, .int .u8 0, .int .u8 0] 98
    refine ⟨0, fun _ => 0, by omega, rfl, ⟨hA.lt, fun j hj => ⟨?_, hA.frozen j⟩, fun j hj => by omega⟩, HR.out.far (World.grownBy_alloc w _ (some w.heap.size)) (by omega), World.grownBy_alloc w _ _⟩
    rw [hA.cell j]
    rcases (show j = 0 ∨ j = 1 ∨ j = 2 by omega) with rfl | rfl | rfl <;> rfl
  case round =>
    obtain ⟨k, B, hk, rfl, hY, hAt, hg⟩ := hrel
    have HY := Lib.hid hY
    have HAT := Lib.hid hAt
    have HG := Lib.hid hg
    have hsz := hg.size
    have hyl := hY.hi
    clear hY hAt hg
    by_cases hlt : k < 3
    · have hbd := ex_bd xs (p + k) HXS.out
      have NUM := Lib.hid (number_any A n c r (p + k) 1 xs wr (Bs.far HB.out HG.out HNE.out) hn HAT.out rfl (by omega) (by omega))
      obtain ⟨z, hz⟩ : ∃ z, ex xs (p + k) 1 = z := ⟨_, rfl⟩
      rw [hz] at NUM hbd
      have HZ := Lib.hid hz
      clear hz
      go_wp2_with fail
      refine NUM.out.mono ?_
      rintro x w2 ⟨rfl, hA2, hg2⟩
      have hY2 := HY.out.far hg2 (by omega)
      obtain ⟨cc, ff⟩ := hY2.cell k hlt
      have HY3 := Lib.hid (hY2.set_ hlt)
      rw [HZ.out] at HY3
      have HG2 := Lib.hid (grown_new1 (HG.out.trans hg2) (grown_set1 w2 w.heap.size k (.int .u8 z)) (Nat.le_refl _))
      have HAT2 := Lib.hid (hA2.far (grown_set1 w2 w.heap.size k (.int .u8 z)) (by omega))
      clear hA2 hg2 hY2
      go_wp2_with fail
      go_roundw
      case rel => exact ⟨k + 1, _, by omega, by go_num, HY3.out, HAT2.out, HG2.out⟩
      case measure => simp [intOf]; omega
    · obtain rfl : k = 3 := by omega
      obtain ⟨c0, _⟩ := HY.out.cell 0 (by omega)
      obtain ⟨c1, _⟩ := HY.out.cell 1 (by omega)
      obtain ⟨c2, _⟩ := HY.out.cell 2 (by omega)
      rw [HY.out.is 0 (by omega)] at c0
      rw [HY.out.is 1 (by omega)] at c1
      rw [HY.out.is 2 (by omega)] at c2
      rw [Nat.add_zero, HX0.out] at c0
      rw [HX1.out] at c1
      rw [HX2.out] at c2
      have b0 := ex_bd xs p HXS.out
      have b1 := ex_bd xs (p + 1) HXS.out
      have b2 := ex_bd xs (p + 2) HXS.out
      have HN3 := Lib.hid (Nowhere.far HN.out HG.out hr0)
      rw [HX0.out] at b0
      rw [HX1.out] at b1
      rw [HX2.out] at b2
      go_wp2_with fail
      refine (get3 x0 x1 x2 wr b0.1 b0.2 b1.1 b1.2 b2.1 b2.2 HN3.out).mono ?_
      rintro x w3 ⟨rfl, hb3⟩
      have HG3 := Lib.hid (HG.out.trans (below_grown hb3 (some r)))
      have HA3 : Hid (At w3 r A n c (p + 3)) := Lib.hid (by
        obtain ⟨a, h1, h2⟩ := HAT.out
        exact ⟨a, Blk.below h1 hb3, h2⟩)
      clear hb3 c0 c1 c2
      go_wp2_with fail
      go_ret
      exact ⟨rfl, HA3.out, HG3.out⟩
/-- The reader behind the byte for Gone. -/
def Ag (w : World) (r : Nat) (A : Option Addr) (n c : Nat) (x : Int) : Prop := ∃ a : Int, Rd w r A n c a (if n < 22 then 3 else if 1 < x then 2 else 0) ∧ (22 ≤ n → a = 22)
theorem Rd.err {w : World} {r : Nat} {A : Option Addr} {n c : Nat} {a e : Int} (h : Rd w r A n c a e) (k : Int) : Rd (w.setCell ⟨r, 2, none⟩ (.int .i64 k)) r A n c a k := by
  have := Blk.set_ h 2 (.int .i64 k)
  simpa [Rd] using this
set_option maxRecDepth 100000 in
set_option maxHeartbeats 2000000 in
theorem gone_any (A : Option Addr) (n c r : Nat) (xs : List Int) (w : World) (hb : Bs w A n xs) (hn : n ≤ 100000) (hR : At w r A n c 21) :
    Calls Tryd.prog 45 #[.pointer (some ⟨r, 0, none⟩)] w fun x w' => x = .returned (.bool (ex xs 21 1 == 1)) ∧ Ag w' r A n c (ex xs 21 1) ∧ w.grownBy w' (some r) := by
  have hbd := ex_bd xs 21 hb.2.1
  have hsm : n < 22 → ex xs 21 1 = 0 := fun h => by unfold ex; rw [if_pos (by rw [hb.len]; omega)]
  have NUM := Lib.hid (number_any A n c r 21 1 xs w hb hn hR rfl (by omega) (by omega))
  clear hb hR
  generalize ex xs 21 1 = x at *
  by_cases hx : 1 < x
  · have hn2 : ¬ n < 22 := fun h => by have := hsm h; omega
    have he : (x == 1) = false := by rw [beq_eq_false_iff_ne]; omega
    rw [he]
    clear hsm
    go_enter Tryd.func45, Tryd.ntmps45
    go_wp2_with fail
    refine NUM.out.mono ?_
    rintro e w1 ⟨rfl, ⟨a, hr, ha⟩, hg⟩
    have c2 := Blk.cell hr 2
    have f2 := Blk.frozen hr 2
    have HE : Hid (Ag (w1.setCell ⟨r, 2, none⟩ (.int .i64 2)) r A n c x) := Lib.hid ⟨a, by rw [if_neg hn2, if_pos hx]; exact hr.err 2, fun h => ha h⟩
    have HG := Lib.hid (hg.trans (grown_set1 w1 r 2 (.int .i64 2)))
    simp only [List.getElem?_toArray, List.getElem?_cons_succ, List.getElem?_cons_zero] at c2
    clear hr ha hg
    go_wp2_with fail
    go_ret
    exact ⟨rfl, HE.out, HG.out⟩
  · go_enter Tryd.func45, Tryd.ntmps45
    go_wp2_with fail
    refine NUM.out.mono ?_
    rintro e w1 ⟨rfl, ⟨a, hr, ha⟩, hg⟩
    have HE : Hid (Ag w1 r A n c x) := Lib.hid ⟨a, by rw [if_neg (show ¬ 1 < x by omega)]; exact hr, fun h => ha h⟩
    have HG := Lib.hid hg
    clear hr ha hg hsm
    go_wp2_with fail
    go_ret
    exact ⟨rfl, HE.out, HG.out⟩
end Go.Proofs.YthbafcihmcjchaaDoor.RingGp
