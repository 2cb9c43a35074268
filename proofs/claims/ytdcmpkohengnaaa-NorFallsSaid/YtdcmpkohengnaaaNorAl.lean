/- all: all bytes of a device, as a new table of new rows. -/
import Derived.Test.YtdcmpkohengnaaaNorSm
import Derived.Test.YtdcmpkohengnaaaNorFm
import Derived.Deep.RegionHeld3
import Derived.Deep.DrawnRows
namespace Go.Proofs.Ytdcmpkohengnaaa.NorAl
set_option linter.unusedVariables false
set_option linter.unusedSimpArgs false
open Go.RowKit
open Go.Proofs.Ytdcmpkohengnaaa.Byte Go.Proofs.Ytdcmpkohengnaaa.NorD Go.Proofs.Ytdcmpkohengnaaa.NorM Go.Proofs.Ytdcmpkohengnaaa.NorS Go.Proofs.Ytdcmpkohengnaaa.NorF Go.Proofs.Ytdcmpkohengnaaa.NorG Go.Proofs.Ytdcmpkohengnaaa.NorH Go.Proofs.Ytdcmpkohengnaaa.NorP Go.Proofs.Ytdcmpkohengnaaa.NorR Go.Proofs.Ytdcmpkohengnaaa.NorI Go.Proofs.Ytdcmpkohengnaaa.NorJ Go.Proofs.Ytdcmpkohengnaaa.NorDo Go.Proofs.Ytdcmpkohengnaaa.NorDr Go.Proofs.Ytdcmpkohengnaaa.NorDs Go.Proofs.Ytdcmpkohengnaaa.NorSm Go.Proofs.Ytdcmpkohengnaaa.PlaceM Go.Proofs.Ytdcmpkohengnaaa.PlaceV
attribute [local go_sem ↓] Go.wp_at_zero Go.wp_at_succ

/-- A slice of k rows of z bytes each, of blocks from base on: row i reads as R i. -/
structure Tab (w : World) (base z k : Nat) (v : Value) (gs : List (Nat × Nat)) (R : Nat → List Int) : Prop where
  len : gs.length = k
  own : w.ownsRow base 38 1 v k (gs.map (slc z))
  rows : ∀ i p, gs[i]? = some p → Ob w base 5 p.1 z p.2 (R i)
section
variable {w w' : World} {base z k : Nat} {v : Value} {gs : List (Nat × Nat)} {R : Nat → List Int}
theorem Tab.chg {S : Nat → Prop} (h : Tab w base z k v gs R) (hc : Chg S w w') (hS : ∀ q, base ≤ q → ¬ S q) : Tab w' base z k v gs R :=
  ⟨h.len, own_chg h.own hc (fun q hq => hS q (h.own.lt q hq).1), fun i p hp => (h.rows i p hp).chg hc (hS _ (h.rows i p hp).place.1)⟩
theorem Tab.below (h : Tab w base z k v gs R) (hb : Below w.heap.size w w') : Tab w' base z k v gs R := h.chg (Chg.of_below (S := fun _ => False) hb) (fun _ _ e => e)
theorem Tab.rows_eq {R' : Nat → List Int} (h : Tab w base z k v gs R) (e : ∀ i, i < k → R i = R' i) : Tab w base z k v gs R' :=
  ⟨h.len, h.own, fun i p hp => by
    have hi : i < gs.length := (List.getElem?_eq_some_iff.1 hp).1
    rw [← e i (by rw [← h.len]; exact hi)]
    exact h.rows i p hp⟩
theorem grown_chg {o : Obj} {row : Option Nat} (hg : (w.alloc o).grownBy w' row) : Chg (fun q => row = some q) w w' :=
  ((Chg.refl (fun q => row = some q) w).alloc o).trans (Chg.of_grown hg (fun k e => .inl e))
theorem Tab.snoc (h : Tab w base z k v gs R) {g cap : Nat} {o : Obj} {w4 : World} {v4 : Value} (hr : Ob w base 5 g z cap (R k))
    (h4 : w4.ownsRow base 38 1 v4 (k + 1) (gs.map (slc z) ++ [slc z (g, cap)])) (hg : (w.alloc o).grownBy w4 v.ownBlock) : Tab w4 base z (k + 1) v4 (gs ++ [(g, cap)]) R := by
  have hc := grown_chg hg
  refine ⟨by rw [List.length_append, h.len]; rfl, by rw [List.map_append]; exact h4, fun i p hp => ?_⟩
  have hO : Ob w base 5 p.1 z p.2 (R i) := by
    rcases Nat.lt_or_ge i gs.length with hi | hi
    · rw [List.getElem?_append_left hi] at hp
      exact h.rows i p hp
    · rw [List.getElem?_append_right hi] at hp
      have hi0 : i - gs.length = 0 := by
        have := (List.getElem?_eq_some_iff.1 hp).1
        simp at this
        omega
      rw [hi0] at hp
      injection hp with hp
      subst hp
      have : i = k := by rw [← h.len]; omega
      subst this
      exact hr
  exact hO.chg hc (fun e => own_two h.own hO.2.2 (by decide) e rfl)
theorem Tab.at_ {b cap : Nat} (h : Tab w base z k (.slice (some ⟨b, 0, none⟩) k cap) gs R) {i : Nat} (hi : i < k) : ∃ g c, w.cell? ⟨b, i, none⟩ = some (.slice (some ⟨g, 0, none⟩) z c) ∧ Ob w base 5 g z c (R i) := by
  have hp : gs[i]? = some (gs[i]'(by rw [h.len]; exact hi)) := List.getElem?_eq_getElem _
  refine ⟨(gs[i]'(by rw [h.len]; exact hi)).1, (gs[i]'(by rw [h.len]; exact hi)).2, ?_, h.rows i _ hp⟩
  have := h.own.cellAt i (by simpa [h.len] using hi)
  rw [this, List.getElem?_map, hp]
  rfl
end
section
variable {lo hi d n z K : Nat} {s : St}
set_option maxRecDepth 100000 in
set_option maxHeartbeats 2000000 in
theorem all_calls (w : World) (hD : Dev w lo hi d n z K s) (hon : s.on = true) :
    Calls Try.prog 14 #[.pointer (some ⟨d, 0, none⟩), .agg #[.int .i64 n, .int .i64 z]] w fun e w' => ∃ b cap gs, e = .returned (.slice (some ⟨b, 0, none⟩) n cap) ∧ Tab w' w.heap.size z n (.slice (some ⟨b, 0, none⟩) n cap) gs s.row ∧ Below w.heap.size w w' := by
  have hg : 0 < n ∧ n ≤ 64 ∧ 0 < z ∧ z ≤ 4096 := by
    obtain ⟨_, _, _, _, _, _, _, _, _, h⟩ := hD
    exact ⟨h.geo.1, h.geo.2.1, h.geo.2.2.1, h.geo.2.2.2.1⟩
  have hbw : Below w.heap.size w (w.alloc (.cells #[.int .i64 n, .int .i64 z] 23)) := (Below.refl _ _).alloc (Nat.le_refl _) _
  have HBW := Lib.hid hbw
  have HBX := Lib.hid (Blk.new w 23 #[.int .i64 n, .int .i64 z])
  have HD := Lib.hid hD
  have HON := Lib.hid hon
  clear hbw hD hon
  go_enter Try.func14, Try.ntmps14
  go_upto_region 2 with (fail)
  change Code.wp _ _ _ _ (w.alloc (.cells #[.int .i64 n, .int .i64 z] 23))
  generalize w.alloc (.cells #[.int .i64 n, .int .i64 z] 23) = W at *
  have b0 : W.cell? ⟨w.heap.size, 0, none⟩ = some (.int .i64 n) := HBX.out.cell 0
  have hT0 : Tab W w.heap.size z 0 (.slice none 0 0) [] s.row := ⟨rfl, ⟨rfl, .inl ⟨rfl, rfl⟩⟩, fun i p hp => by cases hp⟩
  have HT0 := Lib.hid hT0
  clear hT0
  go_wp2_with fail
  go_loopw [5, 11] (fun out i wr => ∃ (k : Nat) (gs : List (Nat × Nat)), k ≤ n ∧ i = .int .i64 k ∧ Tab wr w.heap.size z k out gs s.row ∧ Blk wr w.heap.size 23 #[.int .i64 n, .int .i64 z] ∧ Below w.heap.size w wr) (fun _ i _ => n - (intOf i).toNat)
  case atStart => exact ⟨0, [], Nat.zero_le _, rfl, HT0.out, HBX.out, HBW.out⟩
  case round =>
    obtain ⟨k, gs, hkn, rfl, hT, hB, hbel⟩ := hrel
    have HT := Lib.hid hT
    have HB := Lib.hid hB
    have HL := Lib.hid hbel
    clear hT hB hbel b0 HBX HBW HT0
    by_cases hlt : k < n
    · have hxy : ∀ w, Calls Try.prog 17 #[.int .i64 (k : Int), .int .i64 0] w fun e w' => ∃ x y, e = .returned (.complex .f64 x y) ∧ (rt x = true ∧ rt y = true ∧ nm x = (k : Int) ∧ nm y = ((0 : Nat) : Int)) ∧ w = w' := fun w => by
        have := of_num (k : Int) 0 w
        rw [pl_nat k (by omega)] at this
        exact this
      have HOF := Lib.hid hxy
      have HDr := Lib.hid (dev_below HD.out HL.out)
      have RD : Hid (∀ v, Below wr.heap.size wr v → Below wr.heap.size wr v ∧ v.cell? ⟨w.heap.size, 1, none⟩ = some (.int .i64 z)) := Lib.hid fun v hv => ⟨hv, (HB.out.of_eq (hv.block _ HB.out.lt)).cell 1⟩
      clear hxy
      go_wp2_with fail
      refine wp_region_noPanic ?_
      go_region_held3 (fun v => Below wr.heap.size wr v ∧ v.cell? ⟨w.heap.size, 1, none⟩ = some (.int .i64 z))
        (first
          | exact RD.out _ (Below.refl _ _)
          | exact RD.out _ (by assumption)
          | exact RD.out _ (below_drewN (Below.refl _ _) _)
          | exact RD.out _ (Below.drew (by assumption))
          | exact RD.out _ (Below.drew (Below.refl _ _))
          | exact RD.out _ (And.left (by assumption)))
        (first
          | (go_at_call 17; refine (HOF.out _).mono ?_; rintro e w' ⟨x, y, rfl, hxy, rfl⟩; have HXY := Lib.hid hxy; clear hxy)
          | (go_at_call 22; refine (dread_all _ (dev_below HDr.out (And.left (by assumption))) x y k hlt HXY.out.1 HXY.out.2.1 HXY.out.2.2.1 HXY.out.2.2.2 HON.out).mono ?_; rintro e w4 ⟨g1, cap1, rfl, ho1, hb4⟩; have hn4 : Below wr.heap.size wr w4 := keeps (And.left (by assumption)) hb4; have HO4 := Lib.hid ho1; have HP4 := Lib.hid (And.left (by assumption) : Below wr.heap.size wr _).size; clear ho1 hb4))
      refine NoPanic.normal ?_
      rename_i hH
      have HH : Hid (Below wr.heap.size wr _) := Lib.hid hH.1
      clear hH hn4 RD HOF
      have hwr : w.heap.size ≤ wr.heap.size := HL.out.size
      have hw4 : wr.heap.size ≤ w4.heap.size := HH.out.size
      have HT4 := Lib.hid (HT.out.below HH.out)
      have HB4 := Lib.hid (HB.out.of_eq (HH.out.block _ HB.out.lt))
      obtain ⟨i1, a1, a2, a3, a4⟩ := info_parts info_bytes
      go_wp2_with ((with_reducible refine pick (some 26) ?_); refine wpList_append_lies _ rfl _ _ _ rfl w.heap.size 38 i1 _ 1 24 Try.underlying31 a1 a2 a3 a4 rfl (by omega) u5 k (gs.map (slc z)) rfl (HT4.out.own.alloc _) ⟨w4.heap.size, 0, none⟩ 1 1 [slc z (g1, cap1)] rfl rfl (World.news_of_block (heap_alloc_new w4 _)) (by simp [slc, Value.oneCell']) (by omega) (by unfold maxLen; omega) (by omega) (by simp; omega) _ rfl ?_; intro g4 cap4 w5 hown5 hg5 hat5 hlt5; have HG5 := Lib.hid hg5; have HW5 := Lib.hid hown5; clear hown5 hg5 hat5 hlt5)
      have HO5 : Hid (Ob w4 w.heap.size 5 g1 z cap1 (s.row k)) := Lib.hid (HO4.out.base (by have := HP4.out; omega))
      have HC5 := Lib.hid (grown_chg HG5.out)
      go_roundw
      case rel => exact ⟨k + 1, gs ++ [(g1, cap1)], by omega, by go_num, HT4.out.snoc HO5.out HW5.out HG5.out, HB4.out.chg HC5.out (fun e => own_off HT4.out.own HB4.out (by decide) e), (HL.out.trans (HH.out.mono hwr)).trans (HC5.out.below (by omega) (fun q hq e => by have := (HT4.out.own.lt q e).1; omega))⟩
      case measure => simp [intOf]; omega
    · obtain rfl : k = n := by omega
      obtain ⟨b, cap, rfl, _, _⟩ := HT.out.own.form hg.1
      go_wp2
      go_ret
      exact ⟨b, cap, gs, rfl, HT.out, HL.out⟩
end
end Go.Proofs.Ytdcmpkohengnaaa.NorAl
