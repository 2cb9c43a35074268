/- Merged: ViewKw ViewK WalkK NamesW WalkX Shap Open. -/
import Derived.StillTailTactics
import Derived.Deep.AppendLies
import Derived.Deep.RegionLaw
import Derived.Test.YtbdokofdbeccdaaDoorWalkReadsMBY
import Derived.WalkSpells
import Derived.Test.YtbdokofdbeccdaaDoorWalkReadsMBA
import Derived.Test.YtbdokofdbeccdaaDoorWalkReadsMBR
import Derived.Test.YtbdokofdbeccdaaDoorWalkReadsMBX
import Derived.Test.YtbdokofdbeccdaaDoorArgs
import Derived.Handed
import Derived.SizedLaws
import Derived.ChangeShapes
import Derived.WideShapes
import Derived.OpenShut
import Derived.Below
/- The landed view: New, Copy, Range, Writes. -/
namespace Go.Proofs.YtbdokofdbeccdaaDoor.ViewKw
set_option linter.unusedVariables false
set_option linter.unusedSimpArgs false
open Go.RowKit
open Go.Proofs.YtbdokofdbeccdaaDoor.Byte Go.Proofs.YtbdokofdbeccdaaDoor.KeysM Go.Proofs.YtbdokofdbeccdaaDoor.TreeM Go.Proofs.YtbdokofdbeccdaaDoor.ViewM Go.Proofs.YtbdokofdbeccdaaDoor.ViewKm Go.Proofs.YtbdokofdbeccdaaDoor.ViewKn Go.Proofs.YtbdokofdbeccdaaDoor.ViewKr Go.Proofs.YtbdokofdbeccdaaDoor.ViewKs Go.Proofs.YtbdokofdbeccdaaDoor.Own Go.Proofs.YtbdokofdbeccdaaDoor.Rw Go.Proofs.YtbdokofdbeccdaaDoor.Lst Go.Proofs.YtbdokofdbeccdaaDoor.Chg Go.Proofs.YtbdokofdbeccdaaDoor.TreeR Go.Proofs.YtbdokofdbeccdaaDoor.TreeS Go.Proofs.YtbdokofdbeccdaaDoor.TreeL Go.Proofs.YtbdokofdbeccdaaDoor.TreeG Go.Proofs.YtbdokofdbeccdaaDoor.TreeH Go.Proofs.YtbdokofdbeccdaaDoor.Ho Go.Proofs.YtbdokofdbeccdaaDoor.ViewR Go.Proofs.YtbdokofdbeccdaaDoor.ViewG
variable {w : World} {g : Nat} {b sh wt rd rg : Value} {B S W R : List Pr} {G : List (ByteArray × ByteArray)}

theorem new_view (w : World) (b : Value) (h : TN w b B) : VC (w.alloc (.cells #[b, b, .pointer none, .pointer none, .slice none 0 0] 57)) w.heap.size b b (.pointer none) (.pointer none) (.slice none 0 0) B B [] [] [] := by
  have hb : Below w.heap.size w (w.alloc (.cells #[b, b, .pointer none, .pointer none, .slice none 0 0] 57)) := (Below.refl _ _).alloc (Nat.le_refl _) _
  exact ⟨Blk.new_ _ _ _, h.below hb, h.below hb, .inl ⟨rfl, rfl⟩, .inl ⟨rfl, rfl⟩, So.nil_ _ _ _ _⟩
set_option maxRecDepth 100000 in
theorem new_calls (b : Value) (w : World) (h : TN w b B) : Calls Tryd.prog 6 #[b] w fun e w' => e = .returned (.pointer (some ⟨w.heap.size, 0, none⟩)) ∧ VC w' w.heap.size b b (.pointer none) (.pointer none) (.slice none 0 0) B B [] [] [] ∧ Below w.heap.size w w' := by
  obtain ⟨A, rfl⟩ := h.form
  have HV := Lib.hid (new_view w _ h)
  have hb : Below w.heap.size w (w.alloc (.cells #[.pointer A, .pointer A, .pointer none, .pointer none, .slice none 0 0] 57)) := (Below.refl _ _).alloc (Nat.le_refl _) _
  have HB := Lib.hid hb
  clear h hb
  go_enter Tryd.func6, Tryd.ntmps6
  go_wp2_with fail
  go_ret
  exact ⟨rfl, HV.out, HB.out⟩
/-- A copy's cells, behind the list's copy. -/
theorem VC.copy {w1 w2 : World} {v : Value} (h : VC w1 g b sh wt rd rg B S W R G) {c : Nat} (hb : Below w1.heap.size w1 w2) (hc : Blk w2 c #[b, sh, wt, rd, rg] 57) (ho : So rgE 95 w2 w1.heap.size v G.length G) : VC (w2.setCell ⟨c, 4, none⟩ v) c b sh wt rd v B S W R G := by
  have k : Kept w2 (w2.setCell ⟨c, 4, none⟩ v) := ViewD.kept_set hc (by decide) 4 v
  have h2 := h.below hb
  have ap := So.apart ho hc (by decide)
  exact ⟨hc.set_ 4 v, h2.base.keep k, h2.shown.keep k, h2.wr.keep k, h2.read.keep k, So.chg (S := fun q => q = c) (So.lower ho (Nat.zero_le _)) ((Chg.refl (fun q => q = c) w2).own 4 v) (fun q hq e => ap q hq e)⟩
/-- How the ranges' row may have gone. -/
def RgTo (w : World) (rg rg' : Value) : Prop := rg'.ownBlock = rg.ownBlock ∨ ∃ k, rg'.ownBlock = some k ∧ w.heap.size ≤ k
def RangeR (g : Nat) (b sh wt rd rg : Value) (B S W R : List Pr) (G : List (ByteArray × ByteArray)) (L : List Pr) (w : World) (e : Ending) (w' : World) : Prop := ∃ v rg', e = .returned v ∧ So prE 79 w' w.heap.size v L.length L ∧ VC w' g b sh wt rd rg' B S W R G ∧ Did g rg w w' ∧ RgTo w rg rg'
set_option maxRecDepth 100000 in
set_option maxHeartbeats 1000000 in
theorem range_none (x y : ByteArray) (h : VC w g b sh wt rd rg B S W R G) (hk : kl x y = false) :
    Calls Tryd.prog 31 #[.pointer (some ⟨g, 0, none⟩), .string x, .string y] w (RangeR g b sh wt rd rg B S W R G [] w) := by
  have f1 : Op.bytesLess x.toList y.toList = false := hk
  have HV := Lib.hid h
  clear h hk
  go_enter Tryd.func31, Tryd.ntmps31
  go_wp2_with fail
  go_ret
  exact ⟨_, rg, rfl, So.nil_ _ _ _ _, HV.out, Did.refl _ _ _, .inl rfl⟩
set_option maxRecDepth 100000 in
set_option maxHeartbeats 2000000 in
theorem range_old (x y : ByteArray) (h : VC w g b sh wt rd rg B S W R G) (hs : S.length ≤ 50000) (hg : G.length ≤ 50000) (hk : kl x y = true) (hR : hasR x y G = true) :
    Calls Tryd.prog 31 #[.pointer (some ⟨g, 0, none⟩), .string x, .string y] w (RangeR g b sh wt rd rg B S W R G (rangeL x y S) w) := by
  have f1 : Op.bytesLess x.toList y.toList = true := hk
  have HV := Lib.hid h
  have HRR := Lib.hid hR
  have hb1 : Below w.heap.size w (w.alloc (.cells #[.string x, .string y] 95)) := (Below.refl _ _).alloc (Nat.le_refl _) _
  have HB1 := Lib.hid hb1
  obtain ⟨W1, hW1⟩ : ∃ W1, w.alloc (.cells #[.string x, .string y] 95) = W1 := ⟨_, rfl⟩
  have HBX := Blk.new_ w #[.string x, .string y] 95
  rw [hW1] at HB1 HBX
  have HV1 := Lib.hid (HV.out.below HB1.out)
  obtain ⟨k0, k1, k2, k3, k4, _⟩ := HV1.out.cells
  have x0 : W1.cell? ⟨w.heap.size, 0, none⟩ = some (.string x) := HBX.cell 0
  have x1 : W1.cell? ⟨w.heap.size, 1, none⟩ = some (.string y) := HBX.cell 1
  have HX := Lib.hid HBX
  have E1 := Lib.hid hW1
  clear h hk hR hb1 hW1 HBX
  obtain ⟨A, c, e, _, _, h0⟩ := Tx.So.head HV.out.rgs
  subst e
  go_enter Tryd.func31, Tryd.ntmps31
  go_upto_region 4 with (fail)
  change Code.wp _ _ _ _ (w.alloc (.cells #[.string x, .string y] 95))
  rw [E1.out]
  have HCT := Lib.hid (contains_calls A G.length c G x y W1.drew (So.sl (So.below HV1.out.rgs ((Below.refl _ _).drew))) (by omega))
  rw [HRR.out] at HCT
  have y4 : W1.drew.cell? ⟨g, 4, none⟩ = some (.slice A G.length c) := k4
  have y0 : W1.drew.cell? ⟨w.heap.size, 0, none⟩ = some (.string x) := x0
  have y1 : W1.drew.cell? ⟨w.heap.size, 1, none⟩ = some (.string y) := x1
  go_still_tail 5, (by kernel_rfl)
  change wpList _ _ _ _ _ W1.drew
  go_wp2_with (first
    | (go_at_call 52; refine HCT.out.mono ?_; rintro e w2 ⟨rfl, hb2⟩; have HB2 := Lib.hid hb2; have HV2 := Lib.hid ((HV1.out.below ((Below.refl _ _).drew)).below hb2); obtain ⟨m0, m1, m2, m3, m4, _⟩ := HV2.out.cells; have HTR := Lib.hid (tnrange x y HV2.out.shown hs); clear hb2)
    | (go_at_call 53; refine HTR.out.mono ?_; rintro e w3 ⟨v, rfl, ho, hb3⟩; have HO := Lib.hid ho; have HB3 := Lib.hid hb3; clear ho hb3))
  go_ret
  have hd : Did g (.slice A G.length c) w w2 := ((((Did.refl g _ w).below HB1.out).below ((Below.refl _ _).drew)).below HB2.out)
  have hz : w.heap.size ≤ w2.heap.size := hd.chg.size
  exact ⟨_, _, rfl, So.lower HO.out hz, HV2.out.below HB3.out, hd.below HB3.out, .inl rfl⟩
/-- The list of ranges has one more. -/
theorem VC.app {x y : ByteArray} {w3 : World} {o : Obj} {rg' : Value} (h : VC w g b sh wt rd rg B S W R G) (hg' : (w.alloc o).drew.grownBy w3 rg.ownBlock) (ho : So rgE 95 w3 0 rg' (G.length + 1) (G ++ [(x, y)])) : Blk w3 g #[b, sh, wt, rd, rg] 57 ∧ VC (w3.setCell ⟨g, 4, none⟩ rg') g b sh wt rd rg' B S W R (G ++ [(x, y)]) ∧ Did g rg w (w3.setCell ⟨g, 4, none⟩ rg') := by
  have hg : (w.alloc o).grownBy w3 rg.ownBlock := ⟨hg'.os, hg'.tape, hg'.output, hg'.size, hg'.block⟩
  have hb : Below w.heap.size w (w.alloc o) := (Below.refl _ _).alloc (Nat.le_refl _) _
  have h1 := h.below hb
  have k1 : Kept (w.alloc o) w3 := Kept.of_grown h1.rgs hg (by decide)
  have hblk : Blk w3 g #[b, sh, wt, rd, rg] 57 := h1.rgs.stays hg h1.blk (by decide)
  have k2 : Kept w3 (w3.setCell ⟨g, 4, none⟩ rg') := ViewD.kept_set hblk (by decide) 4 rg'
  have k := ViewD.Kept.trans k1 k2
  have ap := So.apart ho hblk (by decide)
  have ho' : So rgE 95 (w3.setCell ⟨g, 4, none⟩ rg') 0 rg' (G.length + 1) (G ++ [(x, y)]) := So.chg (S := fun q => q = g) ho ((Chg.refl (fun q => q = g) w3).own 4 rg') (fun q hq e => ap q hq e)
  exact ⟨hblk, ⟨hblk.set_ 4 rg', h1.base.keep k, h1.shown.keep k, h1.wr.keep k, h1.read.keep k, by rw [List.length_append]; exact ho'⟩, ⟨((Chg.of_below hb).trans (Chg.of_grown (S := own g rg) hg (fun k hk => .inl (.inr hk)))).setCell (.inl (.inl rfl)) _, ViewD.Kept.trans (Kept.of_below hb) k⟩⟩
theorem rg_next {w3 : World} {x y : ByteArray} {gg cap n : Nat} (hn : G.length = n) (h : w3.ownsRow 0 95 2 (.slice (some ⟨gg, 0, none⟩) (n + 1) cap) (n + 1) (flat rgE G ++ [.string x, .string y])) : So rgE 95 w3 0 (.slice (some ⟨gg, 0, none⟩) (n + 1) cap) (G.length + 1) (G ++ [(x, y)]) := by
  subst hn
  refine ⟨by simp, ?_⟩
  rw [flat_append]
  exact h
set_option maxRecDepth 100000 in
set_option maxHeartbeats 4000000 in
theorem range_new (x y : ByteArray) (h : VC w g b sh wt rd rg B S W R G) (hs : S.length ≤ 50000) (hg : G.length ≤ 50000) (hk : kl x y = true) (hR : hasR x y G = false) :
    Calls Tryd.prog 31 #[.pointer (some ⟨g, 0, none⟩), .string x, .string y] w (RangeR g b sh wt rd rg B S W R (G ++ [(x, y)]) (rangeL x y S) w) := by
  have f1 : Op.bytesLess x.toList y.toList = true := hk
  have HV := Lib.hid h
  have HRR := Lib.hid hR
  have hb1 : Below w.heap.size w (w.alloc (.cells #[.string x, .string y] 95)) := (Below.refl _ _).alloc (Nat.le_refl _) _
  have HB1 := Lib.hid hb1
  obtain ⟨W1, hW1⟩ : ∃ W1, w.alloc (.cells #[.string x, .string y] 95) = W1 := ⟨_, rfl⟩
  have HBX := Blk.new_ w #[.string x, .string y] 95
  rw [hW1] at HB1 HBX
  have HV1 := Lib.hid (HV.out.below HB1.out)
  obtain ⟨k0, k1, k2, k3, k4, _⟩ := HV1.out.cells
  have x0 : W1.cell? ⟨w.heap.size, 0, none⟩ = some (.string x) := HBX.cell 0
  have x1 : W1.cell? ⟨w.heap.size, 1, none⟩ = some (.string y) := HBX.cell 1
  have HX := Lib.hid HBX
  have E1 := Lib.hid hW1
  clear h hk hR hb1 hW1 HBX
  obtain ⟨A, c, e, _, _, h0⟩ := Tx.So.head HV.out.rgs
  obtain ⟨n, hn⟩ : ∃ n, G.length = n := ⟨_, rfl⟩
  have HN := Lib.hid hn
  have E := Lib.hid e
  rw [hn] at hg
  rw [e, hn] at k4
  have HCT := Lib.hid (contains_calls A n c G x y W1.drew (So.sl (by have := So.below HV1.out.rgs ((Below.refl _ _).drew : Below W1.heap.size W1 W1.drew); rw [e, hn] at this; exact this)) (by omega))
  rw [HRR.out] at HCT
  clear hn e
  go_enter Tryd.func31, Tryd.ntmps31
  go_upto_region 4 with (fail)
  change Code.wp _ _ _ _ (w.alloc (.cells #[.string x, .string y] 95))
  rw [E1.out]
  have y4 : W1.drew.cell? ⟨g, 4, none⟩ = some (.slice A n c) := k4
  have y0 : W1.drew.cell? ⟨w.heap.size, 0, none⟩ = some (.string x) := x0
  have y1 : W1.drew.cell? ⟨w.heap.size, 1, none⟩ = some (.string y) := x1
  go_still_tail 5, (by kernel_rfl)
  change wpList _ _ _ _ _ W1.drew
  go_upto_region 5 with (go_at_call 52; refine HCT.out.mono ?_; rintro e w2 ⟨rfl, hb2⟩; have HB2 := Lib.hid hb2; have HV2 := Lib.hid ((HV1.out.below ((Below.refl _ _).drew)).below hb2); have HX2 := Lib.hid (((HX.out.below ((Below.refl _ _).drew)).below hb2)); clear hb2)
  have m4 : w2.cell? ⟨g, 4, none⟩ = some (.slice A n c) := by have h := HV2.out.cells.2.2.2.2.1; rw [E.out, HN.out] at h; exact h
  have m4a : (w2.alloc (.cells #[.string x, .string y] 95)).cell? ⟨g, 4, none⟩ = some (.slice A n c) := by rw [World.cell?_alloc_lt _ _ ⟨g, 4, none⟩ HV2.out.lt, m4]
  have z0 : w2.cell? ⟨w.heap.size, 0, none⟩ = some (.string x) := HX2.out.cell 0
  have z1 : w2.cell? ⟨w.heap.size, 1, none⟩ = some (.string y) := HX2.out.cell 1
  have HOWN : Hid (w2.ownsRow 0 95 2 (.slice A n c) n (flat rgE G)) := Lib.hid (by have h := HV2.out.rgs.2; rw [E.out, HN.out] at h; exact h)
  obtain ⟨i0, hi0, hz0, hz1, hz2⟩ := info_parts info_rg
  go_region_law (first
    | (refine step_append_lies _ (by rfl) _ _ _ (by rfl) 0 95 i0 _ 2 32 Tryd.underlying55 hi0 hz0 hz1 hz2 rfl (by omega) (.slice A n c) n _ (by rfl) ((HOWN.out.alloc _).drew)
          ⟨w2.heap.size, 0, none⟩ 1 1 [.string x, .string y] (by rfl) (by rfl) (World.news_of_block (cs := #[.string x, .string y]) (t := 95) (fr := (0, 0)) (heap_alloc_new w2 _)) (by simp [Value.oneCell'])
          (by omega) (by unfold maxLen; omega) (by omega) (by simp) (w2.heap.size + 1) (by simp) ?_; intro gg cap w3 hown3 hgrow hat hlt'; have HAP := Lib.hid (VC.app HV2.out (by rw [E.out, HN.out]; exact hgrow) (rg_next HN.out hown3)); have HAT := Lib.hid hat; have n4 : w3.cell? ⟨g, 4, none⟩ = some (.slice A n c) := (by have h := HAP.out.1.cell 4; rw [E.out, HN.out] at h; exact h); have q4 := HAP.out.1.frozen 4; clear hown3 hgrow hat hlt'))
  all_goals
    have HV4 := Lib.hid HAP.out.2.1
    obtain ⟨l0, l1, l2, l3, l4, _⟩ := HV4.out.cells
    have HTR := Lib.hid (tnrange x y HV4.out.shown hs)
    go_wp2_with (go_at_call 53; refine HTR.out.mono ?_; rintro e w5 ⟨v, rfl, ho, hb5⟩; have HO := Lib.hid ho; have HB5 := Lib.hid hb5; clear ho hb5)
    go_ret
    have hd : Did g rg w w2 := ((((Did.refl g _ w).below HB1.out).below ((Below.refl _ _).drew)).below HB2.out)
    have hd2 := HAP.out.2.2
    have hd3 : Did g rg w _ := ⟨hd.chg.trans hd2.chg, ViewD.Kept.trans hd.kept hd2.kept⟩
    refine ⟨_, _, rfl, So.lower HO.out hd3.chg.size, HV4.out.below HB5.out, hd3.below HB5.out, ?_⟩
    rcases HAT.out with h | h
    · left
      rw [E.out, HN.out]
      exact h.symm
    · right
      exact ⟨gg, rfl, by have := hd.chg.size; omega⟩
end Go.Proofs.YtbdokofdbeccdaaDoor.ViewKw

/- The landed view is all that the laws ask of it. -/
namespace Go.Proofs.YtbdokofdbeccdaaDoor.ViewK
set_option linter.unusedVariables false
set_option linter.unusedSimpArgs false
open Go.RowKit
open Go.Proofs.YtbdokofdbeccdaaDoor.Byte Go.Proofs.YtbdokofdbeccdaaDoor.KeysM Go.Proofs.YtbdokofdbeccdaaDoor.TreeM Go.Proofs.YtbdokofdbeccdaaDoor.ViewM Go.Proofs.YtbdokofdbeccdaaDoor.ViewKm Go.Proofs.YtbdokofdbeccdaaDoor.ViewKn Go.Proofs.YtbdokofdbeccdaaDoor.ViewKr Go.Proofs.YtbdokofdbeccdaaDoor.ViewKs Go.Proofs.YtbdokofdbeccdaaDoor.ViewKw Go.Proofs.YtbdokofdbeccdaaDoor.Own Go.Proofs.YtbdokofdbeccdaaDoor.Rw Go.Proofs.YtbdokofdbeccdaaDoor.Lst Go.Proofs.YtbdokofdbeccdaaDoor.Chg Go.Proofs.YtbdokofdbeccdaaDoor.TreeR Go.Proofs.YtbdokofdbeccdaaDoor.TreeS Go.Proofs.YtbdokofdbeccdaaDoor.TreeL Go.Proofs.YtbdokofdbeccdaaDoor.TreeG Go.Proofs.YtbdokofdbeccdaaDoor.TreeH Go.Proofs.YtbdokofdbeccdaaDoor.Ho Go.Proofs.YtbdokofdbeccdaaDoor.ViewR Go.Proofs.YtbdokofdbeccdaaDoor.ViewG Go.Proofs.YtbdokofdbeccdaaDoor.ViewL Go.Proofs.YtbdokofdbeccdaaDoor.ViewP

/-- The landed view stands so. -/
def VRep (w : World) (v : Value) (s : Vs) (S D : Nat → Prop) : Prop := ∃ (g : Nat) (b sh wt rd rg : Value), v = .pointer (some ⟨g, 0, none⟩) ∧ VC w g b sh wt rd rg s.base s.shown (kys s.wr) s.rd s.rg ∧ s.Ok ∧ Bare s.wr ∧ S = own g rg ∧ D = own g rg
theorem stays : Stays VRep where
  stay := by
    rintro w w' v s S D T ⟨g, b, sh, wt, rd, rg, rfl, hv, h1, h2, rfl, rfl⟩ hc hT hk
    exact ⟨g, b, sh, wt, rd, rg, rfl, hv.stay hc hk (fun h => hT g h (.inl rfl)) (fun k hk' h => hT k h (.inr hk')), h1, h2, rfl, rfl⟩
  ok := by
    rintro w v s S D ⟨g, b, sh, wt, rd, rg, rfl, hv, h1, h2, rfl, rfl⟩
    exact h1
  lt := by
    rintro w v s S D ⟨g, b, sh, wt, rd, rg, rfl, hv, h1, h2, rfl, rfl⟩ q hq
    rcases hq with rfl | hq
    · exact hv.lt
    · exact (hv.rgs.lt hq).2
  sub := by
    rintro w v s S D ⟨g, b, sh, wt, rd, rg, rfl, hv, h1, h2, rfl, rfl⟩ q hq
    exact hq
theorem lens {s : Vs} (h : Lim s) (ho : s.Ok) : s.base.length ≤ 2000 ∧ s.shown.length ≤ 50000 ∧ s.wr.length ≤ 2000 ∧ (kys s.wr).length ≤ 50000 ∧ s.rd.length ≤ 2000 ∧ s.rg.length ≤ 2000 := by
  have h1 := h.base
  have h2 := h.rd
  have h3 := h.rg
  have h4 := ho.lw
  have h5 : s.shown.length ≤ s.base.length + s.wr.length := shown_len s.base s.wr
  refine ⟨by omega, by omega, by omega, by rw [kys_len]; omega, by omega, by omega⟩
theorem room_full (s : Vs) (k x : ByteArray) (gn : Bool) : roomB k (kys s.wr) = !fullW s.wr ⟨k, x, gn⟩ := by
  unfold roomB fullW
  rw [kys_in, kys_len]
  dsimp only
  cases inW k s.wr with
  | true => rfl
  | false =>
    by_cases h : s.wr.length < 48
    · rw [decide_eq_true h, decide_eq_false (by omega)]
      rfl
    · rw [decide_eq_false h, decide_eq_true (by omega)]
      rfl
theorem stp {g : Nat} {rg : Value} {w w' : World} (d : Did g rg w w') : Stp (own g rg) (own g rg) (own g rg) (own g rg) w w' := ⟨d.chg, d.kept, Grow.refl _ _, Grow.refl _ _⟩
theorem own_new {w : World} {g : Nat} {rg rg' : Value} (h : RgTo w rg rg') : Grow w (own g rg) (own g rg') := fun b hb => by
  rcases hb with rfl | hb
  · exact .inl (.inl rfl)
  · rcases h with h | ⟨k, h1, h2⟩
    · exact .inl (.inr (by rw [← h]; exact hb))
    · rw [h1] at hb
      injection hb with hb
      exact .inr (by omega)
theorem sh_of {α : Type} {e : Enc α} {T : TypeId} {w : World} {base : Nat} {v : Value} {L : List α} (h : So e T w base v L.length L) : ∃ r : Sh, v = .slice r.a r.n r.c ∧ Sl e w r.a r.n L ∧ ∀ b o, r.a = some ⟨b, o, none⟩ → base ≤ b := by
  rcases h.form with ⟨rfl, h0⟩ | ⟨g, cap, rfl, h1, _⟩
  · refine ⟨⟨none, 0, 0⟩, rfl, ?_, fun b o e => by cases e⟩
    have := List.eq_nil_of_length_eq_zero h0
    subst this
    exact Sl.nil_ _ _ _
  · exact ⟨⟨some ⟨g, 0, none⟩, L.length, cap⟩, rfl, So.sl h, fun b o e => by injection e with e; injection e with e; omega⟩
theorem new_ok : NewOk VRep := by
  intro w t L h hr hl
  refine (new_calls t w (TN.of hr)).mono ?_
  rintro e w' ⟨rfl, hv, hb⟩
  have hw : ∀ q, own w.heap.size (.slice none 0 0) q → w.heap.size ≤ q := fun q hq => by
    rcases hq with rfl | hq
    · exact Nat.le_refl _
    · cases hq
  exact ⟨_, _, _, rfl, ⟨_, _, _, _, _, _, rfl, hv, ⟨trise hr, List.Pairwise.nil, List.Pairwise.nil, Nat.zero_le _⟩, Bare.nil, rfl, rfl⟩, hw, hw, hb⟩
theorem get_ok : GetOk VRep := by
  rintro w v s S D k ⟨g, b, sh, wt, rd, rg, rfl, hv, h1, h2, rfl, rfl⟩ hl hk
  obtain ⟨l1, l2, l3, l4, l5, l6⟩ := lens hl h1
  refine (get_calls k hv l2 (by omega)).mono ?_
  rintro e w' ⟨rd', rfl, hv', hd⟩
  exact ⟨_, _, rfl, ⟨g, b, sh, wt, rd', rg, rfl, by rw [put_putP] at hv'; exact hv', ok_read h1 k, h2, rfl, rfl⟩, stp hd⟩
theorem range_ok : RangeOk VRep := by
  rintro w v s S D x y ⟨g, b, sh, wt, rd, rg, rfl, hv, h1, h2, rfl, rfl⟩ hl hx hy
  obtain ⟨l1, l2, l3, l4, l5, l6⟩ := lens hl h1
  have key : ∀ (G : List (ByteArray × ByteArray)) (L : List Pr), (s.ranged x y).rg = G → s.rangeOf x y = L → Calls Tryd.prog 31 #[.pointer (some ⟨g, 0, none⟩), .string x, .string y] w (RangeR g b sh wt rd rg s.base s.shown (kys s.wr) s.rd G L w) → Calls Tryd.prog 31 #[.pointer (some ⟨g, 0, none⟩), .string x, .string y] w fun e w' => ∃ (r : Sh) (S' D' : Nat → Prop), e = .returned (.slice r.a r.n r.c) ∧ Sl prE w' r.a r.n (s.rangeOf x y) ∧ (0 < r.n → NewA w r) ∧ VRep w' (.pointer (some ⟨g, 0, none⟩)) (s.ranged x y) S' D' ∧ Stp (own g rg) (own g rg) S' D' w w' := by
    intro G L hG hL hc
    refine hc.mono ?_
    rintro e w' ⟨u, rg', rfl, ho, hv', hd, hto⟩
    obtain ⟨r, rfl, hsl, hnew⟩ := sh_of ho
    refine ⟨r, _, _, rfl, by rw [hL]; exact hsl, fun _ => fun b o e => hnew b o e, ⟨g, b, sh, wt, rd, rg', rfl, ?_, ok_ranged h1 x y, ?_, rfl, rfl⟩, hd.chg, hd.kept, own_new hto, own_new hto⟩
    · rw [hG]
      have e1 : (s.ranged x y).base = s.base ∧ (s.ranged x y).shown = s.shown ∧ (s.ranged x y).wr = s.wr ∧ (s.ranged x y).rd = s.rd := by
        unfold Vs.ranged
        split <;> exact ⟨rfl, rfl, rfl, rfl⟩
      rw [e1.1, e1.2.1, e1.2.2.1, e1.2.2.2]
      exact hv'
    · have e1 : (s.ranged x y).wr = s.wr := by
        unfold Vs.ranged
        split <;> rfl
      rw [e1]
      exact h2
  cases hk : kl x y with
  | false =>
    refine key s.rg [] ?_ ?_ (range_none x y hv hk)
    · unfold Vs.ranged
      rw [hk]
      rfl
    · unfold Vs.rangeOf
      rw [hk]
      rfl
  | true =>
    cases hh : hasR x y s.rg with
    | true =>
      refine key s.rg (rangeL x y s.shown) ?_ ?_ (range_old x y hv l2 (by omega) hk hh)
      · unfold Vs.ranged addR
        rw [hk, hh]
        rfl
      · unfold Vs.rangeOf
        rw [hk]
        rfl
    | false =>
      refine key (s.rg ++ [(x, y)]) (rangeL x y s.shown) ?_ ?_ (range_new x y hv l2 (by omega) hk hh)
      · unfold Vs.ranged addR
        rw [hk, hh]
        rfl
      · unfold Vs.rangeOf
        rw [hk]
        rfl
theorem set_ok : SetOk VRep := by
  rintro w v s S D k x ⟨g, b, sh, wt, rd, rg, rfl, hv, h1, h2, rfl, rfl⟩ hl hk hx
  obtain ⟨l1, l2, l3, l4, l5, l6⟩ := lens hl h1
  have hrf := room_full s k x false
  cases hf : fullW s.wr ⟨k, x, false⟩ with
  | true =>
    rw [hf] at hrf
    refine (set_no k x hv l4 hrf).mono ?_
    rintro e w' ⟨rfl, rfl⟩
    have e1 : s.write ⟨k, x, false⟩ = s := by
      unfold Vs.write
      rw [hf]
      rfl
    rw [e1]
    exact ⟨_, _, rfl, ⟨g, b, sh, wt, rd, rg, rfl, hv, h1, h2, rfl, rfl⟩, stp (Did.refl _ _ _)⟩
  | false =>
    rw [hf] at hrf
    refine (set_yes k x hv l2 l4 hrf).mono ?_
    rintro e w' ⟨sh', wt', rfl, hv', hd⟩
    have e1 : s.write ⟨k, x, false⟩ = { s with wr := writeW s.base s.wr ⟨k, x, false⟩ } := by
      unfold Vs.write
      rw [hf]
      rfl
    have hok := ok_write h1 ⟨k, x, false⟩
    rw [e1] at hok ⊢
    refine ⟨_, _, rfl, ⟨g, b, sh', wt', rd, rg, rfl, ?_, hok, h2.write (B := s.base) (p := ⟨k, x, false⟩) (fun h => by cases h), rfl, rfl⟩, stp hd⟩
    have e2 : shownL s.base (writeW s.base s.wr ⟨k, x, false⟩) = putL k x s.shown := shown_write h1.base h1.wr ⟨k, x, false⟩
    have e3 : kys (writeW s.base s.wr ⟨k, x, false⟩) = putL k ⟨#[]⟩ (kys s.wr) := by rw [put_is, kys_put]
    show VC w' g b sh' wt' rd rg s.base (shownL s.base (writeW s.base s.wr ⟨k, x, false⟩)) (kys (writeW s.base s.wr ⟨k, x, false⟩)) s.rd s.rg
    rw [e2, e3]
    exact hv'
theorem cut_ok : CutOk VRep := by
  rintro w v s S D k ⟨g, b, sh, wt, rd, rg, rfl, hv, h1, h2, rfl, rfl⟩ hl hk
  obtain ⟨l1, l2, l3, l4, l5, l6⟩ := lens hl h1
  have hrf := room_full s k ⟨#[]⟩ true
  cases hf : fullW s.wr ⟨k, ⟨#[]⟩, true⟩ with
  | true =>
    rw [hf] at hrf
    refine (cut_no k hv l4 hrf).mono ?_
    rintro e w' ⟨rfl, rfl⟩
    have e1 : s.write ⟨k, ⟨#[]⟩, true⟩ = s := by
      unfold Vs.write
      rw [hf]
      rfl
    rw [e1]
    exact ⟨_, _, rfl, ⟨g, b, sh, wt, rd, rg, rfl, hv, h1, h2, rfl, rfl⟩, stp (Did.refl _ _ _)⟩
  | false =>
    rw [hf] at hrf
    have e1 : s.write ⟨k, ⟨#[]⟩, true⟩ = { s with wr := writeW s.base s.wr ⟨k, ⟨#[]⟩, true⟩ } := by
      unfold Vs.write
      rw [hf]
      rfl
    have hok := ok_write h1 ⟨k, ⟨#[]⟩, true⟩
    have e2 : shownL s.base (writeW s.base s.wr ⟨k, ⟨#[]⟩, true⟩) = cutL k s.shown := shown_write h1.base h1.wr ⟨k, ⟨#[]⟩, true⟩
    rw [e1] at hok ⊢
    cases hB : getL k s.base with
    | some p =>
      refine (cut_yes k p hB hv (by omega) l2 l4 hrf).mono ?_
      rintro e w' ⟨sh', wt', rfl, hv', hd⟩
      refine ⟨_, _, rfl, ⟨g, b, sh', wt', rd, rg, rfl, ?_, hok, h2.write (B := s.base) (p := ⟨k, ⟨#[]⟩, true⟩) (fun _ => rfl), rfl, rfl⟩, stp hd⟩
      have e3 : kys (writeW s.base s.wr ⟨k, ⟨#[]⟩, true⟩) = putL k ⟨#[]⟩ (kys s.wr) := by rw [ViewKm.cut_is, hB]; exact kys_put ⟨k, ⟨#[]⟩, true⟩ s.wr
      show VC w' g b sh' wt' rd rg s.base (shownL s.base (writeW s.base s.wr ⟨k, ⟨#[]⟩, true⟩)) (kys (writeW s.base s.wr ⟨k, ⟨#[]⟩, true⟩)) s.rd s.rg
      rw [e2, e3]
      exact hv'
    | none =>
      refine (cut_new k hB hv (by omega) l2 l4 hrf).mono ?_
      rintro e w' ⟨sh', wt', rfl, hv', hd⟩
      refine ⟨_, _, rfl, ⟨g, b, sh', wt', rd, rg, rfl, ?_, hok, h2.write (B := s.base) (p := ⟨k, ⟨#[]⟩, true⟩) (fun _ => rfl), rfl, rfl⟩, stp hd⟩
      have e3 : kys (writeW s.base s.wr ⟨k, ⟨#[]⟩, true⟩) = cutL k (kys s.wr) := by rw [ViewKm.cut_is, hB]; exact kys_cut k s.wr
      show VC w' g b sh' wt' rd rg s.base (shownL s.base (writeW s.base s.wr ⟨k, ⟨#[]⟩, true⟩)) (kys (writeW s.base s.wr ⟨k, ⟨#[]⟩, true⟩)) s.rd s.rg
      rw [e2, e3]
      exact hv'
theorem reads_ok : ReadsOk VRep := by
  rintro w v s S D ⟨g, b, sh, wt, rd, rg, rfl, hv, h1, h2, rfl, rfl⟩ hl
  obtain ⟨l1, l2, l3, l4, l5, l6⟩ := lens hl h1
  refine (reads_calls hv l5).mono ?_
  rintro e w' ⟨u, rfl, ho, hb⟩
  obtain ⟨r, rfl, hsl, _⟩ := sh_of ho
  exact ⟨r, rfl, hsl, hb⟩
/-! ### nil -/
set_option maxRecDepth 100000 in
theorem look_nil (w : World) (k : ByteArray) : Calls Tryd.prog 49 #[.pointer none, .string k] w fun e w' => e = .returned (.tuple #[.string ⟨#[]⟩, .bool false]) ∧ w = w' := by
  go_enter Tryd.func49, Tryd.ntmps49
  go_wp2_with fail
  go_ret2
  exact ⟨rfl, rfl⟩
set_option maxRecDepth 100000 in
theorem get_nil (w : World) (k : ByteArray) : Calls Tryd.prog 28 #[.pointer none, .string k] w fun e w' => e = .returned (.tuple #[.string ⟨#[]⟩, .bool false]) ∧ w = w' := by
  go_enter Tryd.func28, Tryd.ntmps28
  go_wp2_with (go_at_call 49; refine (look_nil _ _).mono ?_; rintro e w1 ⟨rfl, rfl⟩)
  go_ret2
  exact ⟨rfl, rfl⟩
set_option maxRecDepth 100000 in
theorem room_nil (w : World) (k : ByteArray) : Calls Tryd.prog 44 #[.pointer none, .string k] w fun e w' => e = .returned (.bool false) ∧ w = w' := by
  go_enter Tryd.func44, Tryd.ntmps44
  go_wp2_with fail
  go_ret
  exact ⟨rfl, rfl⟩
set_option maxRecDepth 100000 in
theorem set_nil (w : World) (k x : ByteArray) : Calls Tryd.prog 24 #[.pointer none, .string k, .string x] w fun e w' => e = .returned (.bool false) ∧ w = w' := by
  go_enter Tryd.func24, Tryd.ntmps24
  go_wp2_with (go_at_call 44; refine (room_nil _ _).mono ?_; rintro e w1 ⟨rfl, rfl⟩)
  go_ret
  exact ⟨rfl, rfl⟩
set_option maxRecDepth 100000 in
theorem cut_nil (w : World) (k : ByteArray) : Calls Tryd.prog 30 #[.pointer none, .string k] w fun e w' => e = .returned (.bool false) ∧ w = w' := by
  go_enter Tryd.func30, Tryd.ntmps30
  go_wp2_with (go_at_call 44; refine (room_nil _ _).mono ?_; rintro e w1 ⟨rfl, rfl⟩)
  go_ret
  exact ⟨rfl, rfl⟩
set_option maxRecDepth 100000 in
theorem range_nil (w : World) (x y : ByteArray) : Calls Tryd.prog 31 #[.pointer none, .string x, .string y] w fun e w' => e = .returned (.slice none 0 0) ∧ w = w' := by
  go_enter Tryd.func31, Tryd.ntmps31
  go_wp2_with fail
  go_ret
  exact ⟨rfl, rfl⟩
end Go.Proofs.YtbdokofdbeccdaaDoor.ViewK

/- What the laws ask of the project's view and walk, over the landed code. -/
namespace Go.Proofs.YtbdokofdbeccdaaDoor.WalkK
open Go.Proofs.YtbdokofdbeccdaaDoor.ViewM Go.Proofs.YtbdokofdbeccdaaDoor.ViewL Go.Proofs.YtbdokofdbeccdaaDoor.WalkL Go.Proofs.YtbdokofdbeccdaaDoor.WalkD Go.Proofs.YtbdokofdbeccdaaDoor.WalkE Go.Proofs.YtbdokofdbeccdaaDoor.WalkV Go.Proofs.YtbdokofdbeccdaaDoor.WalkKa Go.Proofs.YtbdokofdbeccdaaDoor.WalkKb
/-- The landed view, of which all values are no longer than memory holds. -/
def VRep : RepT := VB ViewK.VRep
theorem small : Small VRep := fun _ _ _ _ _ r => r.2
theorem stays : Stays VRep := stays_b ViewK.stays
theorem vwk : Vwk VRep := ⟨stays, fun _ _ _ r => new_b ViewK.new_ok r (Nat.zero_le _) (fun _ h => by cases h), set_b ViewK.set_ok, reads_b ViewK.reads_ok⟩
theorem shown_len ⦃w : World⦄ ⦃v : Value⦄ ⦃s : Vs⦄ ⦃S D : Nat → Prop⦄ (r : VRep w v s S D) (h : Lim s) : s.shown.length ≤ 100000 := by
  have := (ViewK.lens h (stays.ok r)).2.1
  omega
theorem wks : Wks VRep := ⟨save_ok stays (set_b ViewK.set_ok), drop_ok stays (cut_b ViewK.cut_ok), hang_ok stays (set_b ViewK.set_ok), unhang_ok stays (cut_b ViewK.cut_ok), child_ok stays (get_b ViewK.get_ok) small, list_ok stays (range_b ViewK.range_ok) shown_len⟩
theorem find_ok : FindOk VRep := by
  intro w v s S D path hr hl h2 hn hx
  by_cases hs : (NamesM.spl path).2 = 0
  · refine (find_yes_calls stays (get_b ViewK.get_ok) small path hr hl h2 hn hx hs (WalkF.findM s.shown path).1 (WalkF.findM s.shown path).2 rfl).mono ?_
    rintro e w' ⟨s', S', D', he, h3, h4, h5⟩
    exact ⟨s', S', D', he, h3, h4, h5⟩
  · have hf := WalkKm.find_no (L := s.shown) hs
    refine (find_no_calls stays path hr hn hx hs).mono ?_
    rintro e w' ⟨s', S', D', he, h3, h4, h5⟩
    rw [hf]
    exact ⟨s', S', D', he, h3, h4, h5⟩
end Go.Proofs.YtbdokofdbeccdaaDoor.WalkK

/- Layer 16's laws over the landed code. -/
namespace Go.Proofs.YtbdokofdbeccdaaDoor.NamesW
open Go.RowKit
open Go.Proofs.YtbdokofdbeccdaaDoor.Byte Go.Proofs.YtbdokofdbeccdaaDoor.Lst Go.Proofs.YtbdokofdbeccdaaDoor.Tx Go.Proofs.YtbdokofdbeccdaaDoor.NamesL Go.Proofs.YtbdokofdbeccdaaDoor.NamesK

theorem mx_of {w : World} (h : w.ShapedOpen Tryd.prog) : Mx w := NamesY.splitLay.s1_3 w h
end Go.Proofs.YtbdokofdbeccdaaDoor.NamesW

/- What layer 17's laws are handed, as the walks want it; the laws over the landed code. -/
namespace Go.Proofs.YtbdokofdbeccdaaDoor.WalkX
set_option linter.unusedVariables false
set_option maxRecDepth 100000
open Go.RowKit Go.ChangeShapes Go.WideShapes Go.Deep Go.Maps
open Go.Proofs.YtbdokofdbeccdaaDoor.Form Go.Proofs.YtbdokofdbeccdaaDoor.Lst Go.Proofs.YtbdokofdbeccdaaDoor.Args Go.Proofs.YtbdokofdbeccdaaDoor.WalkL Go.Proofs.YtbdokofdbeccdaaDoor.WalkD Go.Proofs.YtbdokofdbeccdaaDoor.WalkE Go.Proofs.YtbdokofdbeccdaaDoor.WalkH Go.Proofs.YtbdokofdbeccdaaDoor.WalkI Go.Proofs.YtbdokofdbeccdaaDoor.WalkK

instance : Inhabited Op17 := ⟨⟨0, 0, 0, ⟨#[]⟩, 0, 0, 0, 0⟩⟩
set_option maxRecDepth 100000 in
theorem op_form {es : List Value} (hl : es.length = opE.size) (h : Shp Tryd.prog 5 34 es) : ∃ p : Op17, es = opE.cells p ∧ OpB p := by
  match es, hl with
  | [c0, c1, c2, c3, c4, c5, c6, c7], _ =>
    obtain ⟨kind, e0, w0⟩ := (h.field Tryd.underlying34 0 _ rfl 1 (by kernel_rfl)).int Tryd.underlying3
    obtain ⟨dir, e1, w1⟩ := (h.field Tryd.underlying34 1 _ rfl 1 (by kernel_rfl)).int Tryd.underlying23
    obtain ⟨ino, e2, w2⟩ := (h.field Tryd.underlying34 2 _ rfl 1 (by kernel_rfl)).int Tryd.underlying23
    obtain ⟨name, e3, w3⟩ := (h.field Tryd.underlying34 3 _ rfl 1 (by kernel_rfl)).string Tryd.underlying9
    have hn := h.field Tryd.underlying34 4 _ rfl 4 (by kernel_rfl)
    obtain ⟨k, e4, w4⟩ := (hn.field Tryd.underlying32 0 _ rfl 1 (by kernel_rfl)).int Tryd.underlying5
    obtain ⟨l, e5, w5⟩ := (hn.field Tryd.underlying32 1 _ rfl 1 (by kernel_rfl)).int Tryd.underlying23
    obtain ⟨s, e6, w6⟩ := (hn.field Tryd.underlying32 2 _ rfl 1 (by kernel_rfl)).int Tryd.underlying23
    obtain ⟨p, e7, w7⟩ := (hn.field Tryd.underlying32 3 _ rfl 1 (by kernel_rfl)).int Tryd.underlying23
    simp at e0 e1 e2 e3 e4 e5 e6 e7
    subst e0 e1 e2 e3 e4 e5 e6 e7
    have b0 := bounds_i64 w0
    have b1 := bounds_u32 w1
    have b2 := bounds_u32 w2
    have b4 := bounds_u8 w4
    have b5 := bounds_u32 w5
    have b6 := bounds_u32 w6
    have b7 := bounds_u32 w7
    unfold maxLen at w3
    exact ⟨⟨kind, dir, ino, name, k, l, s, p⟩, rfl, b0.1, b0.2, b1.1, b1.2, b2.1, b2.2, by show name.size ≤ _; omega, b4.1, b4.2, b5.1, b5.2, b6.1, b6.2, b7.1, b7.2⟩
theorem ops_of {H : Type} {enc : TypeId × Value → H} {w : World} {base fuel : Nat} {cs : List Value} {x : DataW H × List MemPlace} (h : DataW.trod enc Tryd.prog w base (fun _ => true) true fuel 22 cs = some x) :
    ∃ A m c, ∃ L : List Op17, cs = [.slice A m c] ∧ m ≤ c ∧ c ≤ maxLen ∧ Sl opE w A m L ∧ ∀ p ∈ L, OpB p :=
  sl_of opE OpB 5 Tryd.underlying22 (by kernel_rfl) (fun es hl hs => op_form hl hs) h
theorem fixed_ok : FixOk := fixed_calls vwk find_ok
theorem hangs_all (A : Option Addr) (n c : Nat) (ops : List Op17) (dir ino : Int) (name : ByteArray) (w : World) (h : n ≤ c ∧ c ≤ maxLen ∧ Sl opE w A n ops ∧ ∀ p ∈ ops, OpB p) (wd : (Lit.int .u32 dir).wf = true) (wi : (Lit.int .u32 ino).wf = true) (hn : name.size ≤ maxLen) (hmx : NamesL.Mx w) :
    Calls Tryd.prog 3 #[.slice A n c, .int .u32 dir, .int .u32 ino, .string name] w fun e w' => e = .returned (.bool true) ∧ Below w.heap.size w w' := by
  have b1 := bounds_u32 wd
  have b2 := bounds_u32 wi
  exact hangs_law vwk wks fixed_ok A n c ops dir ino name w h.2.2.1 h.1 h.2.1 h.2.2.2 b1.1 b1.2 b2.1 b2.2 (by unfold maxLen at hn; omega) hmx
theorem reads_all (A : Option Addr) (n c : Nat) (ops : List Op17) (path : ByteArray) (w : World) (h : n ≤ c ∧ c ≤ maxLen ∧ Sl opE w A n ops ∧ ∀ p ∈ ops, OpB p) (hn : path.size ≤ maxLen) (hmx : NamesL.Mx w) :
    Calls Tryd.prog 4 #[.slice A n c, .string path] w fun e w' => e = .returned (.bool true) ∧ Below w.heap.size w w' :=
  reads_law vwk wks find_ok fixed_ok A n c ops path w h.2.2.1 h.1 h.2.1 h.2.2.2 (by unfold maxLen at hn; omega) hmx
end Go.Proofs.YtbdokofdbeccdaaDoor.WalkX

/- The wrap of a tied statement that hands on the world's shape, too. -/
namespace Go.Proofs.YtbdokofdbeccdaaDoor.Shap
open Go

theorem returns_shaped {H : Type} {enc : TypeId × Value → H} {a : Assume} {C : Checked} {os : Os} {f : FuncId} {fn : Func} {s : ChangeSpec} {conds : List PathCond} {apart fresh handsOn again : Bool} {X : World → Array Value → Prop}
    (keepX : ∀ (v v' : World) (xs : Array Value), v.heap = v'.heap → X v xs → X v' xs) (own : ownKnob C.prog.godebug = none) (started : os.Started) (noInit : C.prog.inits.idxOf? f = none) (hfn : C.prog.funcs[f]? = some fn)
    (wit : ∃ (v : World) (tape : Tape) (i : Input), v.os = os ∧ (v.forCall tape i).Shaped C.prog ∧ i.vars = [] ∧ Input.okWide C.prog (v.forCall tape i) .any v.heap.size f i ∧ ((s.pre enc C.prog fn conds apart (v.forCall tape i).memory i.args ∧ X (v.forCall tape i).memory i.args) ∧ sizedMet enc C.prog fn (OpenSpec.ofChange s) apart (v.forCall tape i).memory i.args) ∧ a.holds C.prog (lone (Frame.enter C.prog f i.args .normal) [] (v.forCall tape i)))
    (walked : ∀ (W : World) (base : Nat) (xs : Array Value) (ds gs : List (DataW H)) (before : List MemPlace), (∀ (j : Nat) t v, fn.params[j]? = some t → xs[j]? = some v → Value.okWide C.prog W .any base t v) → DataW.Whole enc C.prog fn.params.toList s.vars apart W xs.toList ds gs before → conds.all (PathCond.test C.prog ⟨fn.params.toList, ds, s.plain.varTypes C.prog, gs⟩) = true →
      (DataW.weightsEach C.prog (fn.params.toList ++ s.plain.varTypes C.prog) (ds ++ gs)).all (· ≤ reachBytes) = true → X W xs → W.ShapedOpen C.prog → Calls C.prog f xs W fun e W' => ∃ v, e = .returned v ∧ s.post enc C.prog fn apart fresh handsOn again W xs v W') :
    ReturnsInHanded a C os f .any (fun v xs => (s.pre enc C.prog fn conds apart v xs ∧ X v xs) ∧ sizedMet enc C.prog fn (OpenSpec.ofChange s) apart v xs) (s.post enc C.prog fn apart fresh handsOn again) := by
  refine returnsInHanded_of_calls own started noInit wit ?_
  intro v tape i _ shape _ ok pre _
  obtain ⟨_, _, _, fn', hfn', _, _, _, _, hval⟩ := ok
  obtain rfl : fn' = fn := Option.some.inj (hfn'.symm.trans hfn)
  obtain ⟨⟨⟨ds, gs, before, hw, hc⟩, hx⟩, hz⟩ := pre
  have whole := DataW.Whole.of_heap (w' := v.forCall tape i) (by rfl) hw
  refine (walked (v.forCall tape i) v.heap.size i.args ds gs before hval whole hc (hz.weights hw) (keepX _ _ _ (by rfl) hx) shape).mono fun e W' h => ?_
  obtain ⟨x, rfl, hp⟩ := h
  exact ChangeSpec.post_blind hp
end Go.Proofs.YtbdokofdbeccdaaDoor.Shap

/- How an argument that is an array or a struct of plain cells is opened: its cells in their order, each with its form and bounds, out of the outer form alone. -/
namespace Go.Proofs.YtbdokofdbeccdaaDoor.Open
open Go.RowKit Go.WideShapes Go.ChangeShapes

def CellsOk (P : Program) (w : World) (r : Reach) (b : Nat) : List TypeId → List Value → Prop
  | [], [] => True
  | t :: ts, v :: vs => Cell.okWide P w r b t v ∧ CellsOk P w r b ts vs
  | _, _ => False
section
variable {P : Program} {w : World} {r : Reach} {b : Nat}
theorem CellsOk.nil_ {cs : List Value} (h : CellsOk P w r b [] cs) : cs = [] := by
  cases cs with
  | nil => rfl
  | cons _ _ => exact h.elim
theorem CellsOk.of {ts : List TypeId} : ∀ {cs : List Value}, cs.length = ts.length → (∀ (i : Nat) v u, cs[i]? = some v → ts[i]? = some u → Cell.okWide P w r b u v) → CellsOk P w r b ts cs := by
  induction ts with
  | nil =>
    intro cs hl _
    cases cs with
    | nil => trivial
    | cons _ _ => simp at hl
  | cons t ts ih =>
    intro cs hl h
    cases cs with
    | nil => simp at hl
    | cons v vs => exact ⟨h 0 v t rfl rfl, ih (by simpa using hl) fun i v' u h1 h2 => h (i + 1) v' u (by simpa using h1) (by simpa using h2)⟩
theorem cell_int {t : TypeId} {k : IntKind} {v : Value} (ht : P.underlying t = some (.int k)) (h : Cell.okWide P w r b t v) : ∃ n, v = .int k n ∧ (Lit.int k n).wf = true := by
  unfold Cell.okWide at h
  rw [ht] at h
  cases v <;> simp [Cell.ok, ht] at h
  rename_i k' n
  obtain ⟨rfl, h1⟩ := h
  refine ⟨n, rfl, ?_⟩
  simpa [Lit.wf, IntKind.has] using h1
end
end Go.Proofs.YtbdokofdbeccdaaDoor.Open
