/- The landed view: New, Copy, Range, Writes. -/
import Derived.Test.YtdnenikplajmaaaViewKs
import Derived.StillTailTactics
import Derived.Deep.AppendLies
import Derived.Deep.RegionLaw
namespace Go.Proofs.Ytdnenikplajmaaa.ViewKw
set_option linter.unusedVariables false
set_option linter.unusedSimpArgs false
open Go.RowKit
open Go.Proofs.Ytdnenikplajmaaa.Byte Go.Proofs.Ytdnenikplajmaaa.KeysM Go.Proofs.Ytdnenikplajmaaa.TreeM Go.Proofs.Ytdnenikplajmaaa.ViewM Go.Proofs.Ytdnenikplajmaaa.ViewKm Go.Proofs.Ytdnenikplajmaaa.ViewKn Go.Proofs.Ytdnenikplajmaaa.ViewKr Go.Proofs.Ytdnenikplajmaaa.ViewKs Go.Proofs.Ytdnenikplajmaaa.Own Go.Proofs.Ytdnenikplajmaaa.Rw Go.Proofs.Ytdnenikplajmaaa.Lst Go.Proofs.Ytdnenikplajmaaa.Chg Go.Proofs.Ytdnenikplajmaaa.TreeR Go.Proofs.Ytdnenikplajmaaa.TreeS Go.Proofs.Ytdnenikplajmaaa.TreeL Go.Proofs.Ytdnenikplajmaaa.TreeG Go.Proofs.Ytdnenikplajmaaa.TreeH Go.Proofs.Ytdnenikplajmaaa.Ho Go.Proofs.Ytdnenikplajmaaa.ViewR Go.Proofs.Ytdnenikplajmaaa.ViewG
variable {w : World} {g : Nat} {b sh wt rd rg : Value} {B S W R : List Pr} {G : List (ByteArray × ByteArray)}

theorem new_view (w : World) (b : Value) (h : TN w b B) : VC (w.alloc (.cells #[b, b, .pointer none, .pointer none, .slice none 0 0] 62)) w.heap.size b b (.pointer none) (.pointer none) (.slice none 0 0) B B [] [] [] := by
  have hb : Below w.heap.size w (w.alloc (.cells #[b, b, .pointer none, .pointer none, .slice none 0 0] 62)) := (Below.refl _ _).alloc (Nat.le_refl _) _
  exact ⟨Blk.new_ _ _ _, h.below hb, h.below hb, .inl ⟨rfl, rfl⟩, .inl ⟨rfl, rfl⟩, So.nil_ _ _ _ _⟩
set_option maxRecDepth 100000 in
theorem new_calls (b : Value) (w : World) (h : TN w b B) : Calls Try.prog 9 #[b] w fun e w' => e = .returned (.pointer (some ⟨w.heap.size, 0, none⟩)) ∧ VC w' w.heap.size b b (.pointer none) (.pointer none) (.slice none 0 0) B B [] [] [] ∧ Below w.heap.size w w' := by
  obtain ⟨A, rfl⟩ := h.form
  have HV := Lib.hid (new_view w _ h)
  have hb : Below w.heap.size w (w.alloc (.cells #[.pointer A, .pointer A, .pointer none, .pointer none, .slice none 0 0] 62)) := (Below.refl _ _).alloc (Nat.le_refl _) _
  have HB := Lib.hid hb
  clear h hb
  go_enter Try.func9, Try.ntmps9
  go_wp2_with fail
  go_ret
  exact ⟨rfl, HV.out, HB.out⟩
theorem info_view5 : (Try.prog.info? 62).map (·.size) = some 5 := by kernel_rfl
/-- A copy's cells, behind the list's copy. -/
theorem VC.copy {w1 w2 : World} {v : Value} (h : VC w1 g b sh wt rd rg B S W R G) {c : Nat} (hb : Below w1.heap.size w1 w2) (hc : Blk w2 c #[b, sh, wt, rd, rg] 62) (ho : So rgE 58 w2 w1.heap.size v G.length G) : VC (w2.setCell ⟨c, 4, none⟩ v) c b sh wt rd v B S W R G := by
  have k : Kept w2 (w2.setCell ⟨c, 4, none⟩ v) := ViewD.kept_set hc (by decide) 4 v
  have h2 := h.below hb
  have ap := So.apart ho hc (by decide)
  exact ⟨hc.set_ 4 v, h2.base.keep k, h2.shown.keep k, h2.wr.keep k, h2.read.keep k, So.chg (S := fun q => q = c) (So.lower ho (Nat.zero_le _)) ((Chg.refl (fun q => q = c) w2).own 4 v) (fun q hq e => ap q hq e)⟩
set_option maxRecDepth 100000 in
set_option maxHeartbeats 1000000 in
theorem copy_calls (h : VC w g b sh wt rd rg B S W R G) (hr : G.length ≤ 2000) :
    Calls Try.prog 14 #[.pointer (some ⟨g, 0, none⟩)] w fun e w' => ∃ c rg', e = .returned (.pointer (some ⟨c, 0, none⟩)) ∧ w.heap.size ≤ c ∧ (∀ k, rg'.ownBlock = some k → w.heap.size ≤ k) ∧ VC w' c b sh wt rd rg' B S W R G ∧ Below w.heap.size w w' := by
  obtain ⟨A, c, e, _, _, h0⟩ := Tx.So.head h.rgs
  subst e
  obtain ⟨Ab, rfl⟩ := h.base.form
  obtain ⟨As, rfl⟩ := h.shown.form
  obtain ⟨Aw, rfl⟩ := h.wr.form
  obtain ⟨Ar, rfl⟩ := h.read.form
  obtain ⟨n, hn⟩ : ∃ n, G.length = n := ⟨_, rfl⟩
  have HN := Lib.hid hn
  have hb1 : Below w.heap.size w (w.alloc (.cells #[.pointer Ab, .pointer As, .pointer Aw, .pointer Ar, .slice A G.length c] 62)) := (Below.refl _ _).alloc (Nat.le_refl _) _
  have hs : Sl rgE w A G.length G := So.sl h.rgs
  have HK := Lib.hid (clone_calls A G.length c G _ (hs.below hb1) (by omega) h0)
  have HB1 := Lib.hid hb1
  have HBL := Lib.hid h.blk
  have HV := Lib.hid h
  have HV1 := Lib.hid (h.below hb1)
  have HC := Lib.hid (Blk.new_ w #[.pointer Ab, .pointer As, .pointer Aw, .pointer Ar, .slice A G.length c] 62)
  obtain ⟨_, _, _, _, c4, _⟩ := HV1.out.cells
  rw [hn] at c4 HBL HC HB1 HK HV1
  clear h hs hb1 hn
  have HF := Lib.hid HC
  go_enter Try.func14, Try.ntmps14
  go_wp2_with (first
    | ((with_reducible refine pick (some 8) ?_); refine load_blk rfl 62 _ rfl g rfl 62 #[.pointer Ab, .pointer As, .pointer Aw, .pointer Ar, .slice A n c] _ HBL.out Try.underlying62 rfl info_view5 ?_)
    | (go_at_call 32; refine HK.out.mono ?_; rintro e w2 ⟨v, rfl, ho, hb2⟩; obtain ⟨A3, c3, rfl, _, _, _⟩ := Tx.So.head ho; have HO := Lib.hid ho; have HB2 := Lib.hid hb2; have HC2 := Lib.hid (HC.out.below hb2); have k4 := HC2.out.cell 4; have f4 := HC2.out.frozen 4; clear ho hb2))
  go_ret
  refine ⟨w.heap.size, _, rfl, Nat.le_refl _, fun k hk => ?_, VC.copy HV1.out HB2.out HC2.out HO.out, (keeps HB1.out HB2.out).setCell (Nat.le_refl _) _⟩
  have := (So.lt HO.out hk).1
  have := HB1.out.size
  omega
/-- How the ranges' row may have gone. -/
def RgTo (w : World) (rg rg' : Value) : Prop := rg'.ownBlock = rg.ownBlock ∨ ∃ k, rg'.ownBlock = some k ∧ w.heap.size ≤ k
def RangeR (g : Nat) (b sh wt rd rg : Value) (B S W R : List Pr) (G : List (ByteArray × ByteArray)) (L : List Pr) (w : World) (e : Ending) (w' : World) : Prop := ∃ v rg', e = .returned v ∧ So prE 69 w' w.heap.size v L.length L ∧ VC w' g b sh wt rd rg' B S W R G ∧ Did g rg w w' ∧ RgTo w rg rg'
set_option maxRecDepth 100000 in
set_option maxHeartbeats 1000000 in
theorem range_none (x y : ByteArray) (h : VC w g b sh wt rd rg B S W R G) (hk : kl x y = false) :
    Calls Try.prog 22 #[.pointer (some ⟨g, 0, none⟩), .string x, .string y] w (RangeR g b sh wt rd rg B S W R G [] w) := by
  have f1 : Op.bytesLess x.toList y.toList = false := hk
  have HV := Lib.hid h
  clear h hk
  go_enter Try.func22, Try.ntmps22
  go_wp2_with fail
  go_ret
  exact ⟨_, rg, rfl, So.nil_ _ _ _ _, HV.out, Did.refl _ _ _, .inl rfl⟩
set_option maxRecDepth 100000 in
set_option maxHeartbeats 2000000 in
theorem range_old (x y : ByteArray) (h : VC w g b sh wt rd rg B S W R G) (hs : S.length ≤ 50000) (hg : G.length ≤ 50000) (hk : kl x y = true) (hR : hasR x y G = true) :
    Calls Try.prog 22 #[.pointer (some ⟨g, 0, none⟩), .string x, .string y] w (RangeR g b sh wt rd rg B S W R G (rangeL x y S) w) := by
  have f1 : Op.bytesLess x.toList y.toList = true := hk
  have HV := Lib.hid h
  have HRR := Lib.hid hR
  have hb1 : Below w.heap.size w (w.alloc (.cells #[.string x, .string y] 58)) := (Below.refl _ _).alloc (Nat.le_refl _) _
  have HB1 := Lib.hid hb1
  obtain ⟨W1, hW1⟩ : ∃ W1, w.alloc (.cells #[.string x, .string y] 58) = W1 := ⟨_, rfl⟩
  have HBX := Blk.new_ w #[.string x, .string y] 58
  rw [hW1] at HB1 HBX
  have HV1 := Lib.hid (HV.out.below HB1.out)
  obtain ⟨k0, k1, k2, k3, k4, _⟩ := HV1.out.cells
  have x0 : W1.cell? ⟨w.heap.size, 0, none⟩ = some (.string x) := HBX.cell 0
  have x1 : W1.cell? ⟨w.heap.size, 1, none⟩ = some (.string y) := HBX.cell 1
  have HX := Lib.hid HBX
  have E1 := Lib.hid hW1
  clear h hk hR hb1 hW1 HBX
  obtain ⟨A, c, e, _, _, h0⟩ := Tx.So.head HV.out.rgs
  subst e
  go_enter Try.func22, Try.ntmps22
  go_upto_region 4 with (fail)
  change Code.wp _ _ _ _ (w.alloc (.cells #[.string x, .string y] 58))
  rw [E1.out]
  have HCT := Lib.hid (contains_calls A G.length c G x y W1.drew (So.sl (So.below HV1.out.rgs ((Below.refl _ _).drew))) (by omega))
  rw [HRR.out] at HCT
  have y4 : W1.drew.cell? ⟨g, 4, none⟩ = some (.slice A G.length c) := k4
  have y0 : W1.drew.cell? ⟨w.heap.size, 0, none⟩ = some (.string x) := x0
  have y1 : W1.drew.cell? ⟨w.heap.size, 1, none⟩ = some (.string y) := x1
  go_still_tail 5, (by kernel_rfl)
  change wpList _ _ _ _ _ W1.drew
  go_wp2_with (first
    | (go_at_call 39; refine HCT.out.mono ?_; rintro e w2 ⟨rfl, hb2⟩; have HB2 := Lib.hid hb2; have HV2 := Lib.hid ((HV1.out.below ((Below.refl _ _).drew)).below hb2); obtain ⟨m0, m1, m2, m3, m4, _⟩ := HV2.out.cells; have HTR := Lib.hid (tnrange x y HV2.out.shown hs); clear hb2)
    | (go_at_call 40; refine HTR.out.mono ?_; rintro e w3 ⟨v, rfl, ho, hb3⟩; have HO := Lib.hid ho; have HB3 := Lib.hid hb3; clear ho hb3))
  go_ret
  have hd : Did g (.slice A G.length c) w w2 := ((((Did.refl g _ w).below HB1.out).below ((Below.refl _ _).drew)).below HB2.out)
  have hz : w.heap.size ≤ w2.heap.size := hd.chg.size
  exact ⟨_, _, rfl, So.lower HO.out hz, HV2.out.below HB3.out, hd.below HB3.out, .inl rfl⟩
/-- The list of ranges has one more. -/
theorem VC.app {x y : ByteArray} {w3 : World} {o : Obj} {rg' : Value} (h : VC w g b sh wt rd rg B S W R G) (hg' : (w.alloc o).drew.grownBy w3 rg.ownBlock) (ho : So rgE 58 w3 0 rg' (G.length + 1) (G ++ [(x, y)])) : Blk w3 g #[b, sh, wt, rd, rg] 62 ∧ VC (w3.setCell ⟨g, 4, none⟩ rg') g b sh wt rd rg' B S W R (G ++ [(x, y)]) ∧ Did g rg w (w3.setCell ⟨g, 4, none⟩ rg') := by
  have hg : (w.alloc o).grownBy w3 rg.ownBlock := ⟨hg'.os, hg'.tape, hg'.output, hg'.size, hg'.block⟩
  have hb : Below w.heap.size w (w.alloc o) := (Below.refl _ _).alloc (Nat.le_refl _) _
  have h1 := h.below hb
  have k1 : Kept (w.alloc o) w3 := Kept.of_grown h1.rgs hg (by decide)
  have hblk : Blk w3 g #[b, sh, wt, rd, rg] 62 := h1.rgs.stays hg h1.blk (by decide)
  have k2 : Kept w3 (w3.setCell ⟨g, 4, none⟩ rg') := ViewD.kept_set hblk (by decide) 4 rg'
  have k := ViewD.Kept.trans k1 k2
  have ap := So.apart ho hblk (by decide)
  have ho' : So rgE 58 (w3.setCell ⟨g, 4, none⟩ rg') 0 rg' (G.length + 1) (G ++ [(x, y)]) := So.chg (S := fun q => q = g) ho ((Chg.refl (fun q => q = g) w3).own 4 rg') (fun q hq e => ap q hq e)
  exact ⟨hblk, ⟨hblk.set_ 4 rg', h1.base.keep k, h1.shown.keep k, h1.wr.keep k, h1.read.keep k, by rw [List.length_append]; exact ho'⟩, ⟨((Chg.of_below hb).trans (Chg.of_grown (S := own g rg) hg (fun k hk => .inl (.inr hk)))).setCell (.inl (.inl rfl)) _, ViewD.Kept.trans (Kept.of_below hb) k⟩⟩
theorem rg_next {w3 : World} {x y : ByteArray} {gg cap n : Nat} (hn : G.length = n) (h : w3.ownsRow 0 58 2 (.slice (some ⟨gg, 0, none⟩) (n + 1) cap) (n + 1) (flat rgE G ++ [.string x, .string y])) : So rgE 58 w3 0 (.slice (some ⟨gg, 0, none⟩) (n + 1) cap) (G.length + 1) (G ++ [(x, y)]) := by
  subst hn
  refine ⟨by simp, ?_⟩
  rw [flat_append]
  exact h
set_option maxRecDepth 100000 in
set_option maxHeartbeats 4000000 in
theorem range_new (x y : ByteArray) (h : VC w g b sh wt rd rg B S W R G) (hs : S.length ≤ 50000) (hg : G.length ≤ 50000) (hk : kl x y = true) (hR : hasR x y G = false) :
    Calls Try.prog 22 #[.pointer (some ⟨g, 0, none⟩), .string x, .string y] w (RangeR g b sh wt rd rg B S W R (G ++ [(x, y)]) (rangeL x y S) w) := by
  have f1 : Op.bytesLess x.toList y.toList = true := hk
  have HV := Lib.hid h
  have HRR := Lib.hid hR
  have hb1 : Below w.heap.size w (w.alloc (.cells #[.string x, .string y] 58)) := (Below.refl _ _).alloc (Nat.le_refl _) _
  have HB1 := Lib.hid hb1
  obtain ⟨W1, hW1⟩ : ∃ W1, w.alloc (.cells #[.string x, .string y] 58) = W1 := ⟨_, rfl⟩
  have HBX := Blk.new_ w #[.string x, .string y] 58
  rw [hW1] at HB1 HBX
  have HV1 := Lib.hid (HV.out.below HB1.out)
  obtain ⟨k0, k1, k2, k3, k4, _⟩ := HV1.out.cells
  have x0 : W1.cell? ⟨w.heap.size, 0, none⟩ = some (.string x) := HBX.cell 0
  have x1 : W1.cell? ⟨w.heap.size, 1, none⟩ = some (.string y) := HBX.cell 1
  have HX := Lib.hid HBX
  have E1 := Lib.hid hW1
  clear h hk hR hb1 hW1 HBX
  obtain ⟨A, c, e, _, _, h0⟩ := Tx.So.head HV.out.rgs
  obtain ⟨n, hn⟩ : ∃ n, G.length = n := ⟨_, rfl⟩
  have HN := Lib.hid hn
  have E := Lib.hid e
  rw [hn] at hg
  rw [e, hn] at k4
  have HCT := Lib.hid (contains_calls A n c G x y W1.drew (So.sl (by have := So.below HV1.out.rgs ((Below.refl _ _).drew : Below W1.heap.size W1 W1.drew); rw [e, hn] at this; exact this)) (by omega))
  rw [HRR.out] at HCT
  clear hn e
  go_enter Try.func22, Try.ntmps22
  go_upto_region 4 with (fail)
  change Code.wp _ _ _ _ (w.alloc (.cells #[.string x, .string y] 58))
  rw [E1.out]
  have y4 : W1.drew.cell? ⟨g, 4, none⟩ = some (.slice A n c) := k4
  have y0 : W1.drew.cell? ⟨w.heap.size, 0, none⟩ = some (.string x) := x0
  have y1 : W1.drew.cell? ⟨w.heap.size, 1, none⟩ = some (.string y) := x1
  go_still_tail 5, (by kernel_rfl)
  change wpList _ _ _ _ _ W1.drew
  go_upto_region 5 with (go_at_call 39; refine HCT.out.mono ?_; rintro e w2 ⟨rfl, hb2⟩; have HB2 := Lib.hid hb2; have HV2 := Lib.hid ((HV1.out.below ((Below.refl _ _).drew)).below hb2); have HX2 := Lib.hid (((HX.out.below ((Below.refl _ _).drew)).below hb2)); clear hb2)
  have m4 : w2.cell? ⟨g, 4, none⟩ = some (.slice A n c) := by have h := HV2.out.cells.2.2.2.2.1; rw [E.out, HN.out] at h; exact h
  have m4a : (w2.alloc (.cells #[.string x, .string y] 58)).cell? ⟨g, 4, none⟩ = some (.slice A n c) := by rw [World.cell?_alloc_lt _ _ ⟨g, 4, none⟩ HV2.out.lt, m4]
  have z0 : w2.cell? ⟨w.heap.size, 0, none⟩ = some (.string x) := HX2.out.cell 0
  have z1 : w2.cell? ⟨w.heap.size, 1, none⟩ = some (.string y) := HX2.out.cell 1
  have HOWN : Hid (w2.ownsRow 0 58 2 (.slice A n c) n (flat rgE G)) := Lib.hid (by have h := HV2.out.rgs.2; rw [E.out, HN.out] at h; exact h)
  obtain ⟨i0, hi0, hz0, hz1, hz2⟩ := info_parts info_rg
  go_region_law (first
    | (refine step_append_lies _ (by rfl) _ _ _ (by rfl) 0 58 i0 _ 2 32 Try.underlying22 hi0 hz0 hz1 hz2 rfl (by omega) (.slice A n c) n _ (by rfl) ((HOWN.out.alloc _).drew)
          ⟨w2.heap.size, 0, none⟩ 1 1 [.string x, .string y] (by rfl) (by rfl) (World.news_of_block (cs := #[.string x, .string y]) (t := 58) (fr := (0, 0)) (heap_alloc_new w2 _)) (by simp [Value.oneCell'])
          (by omega) (by unfold maxLen; omega) (by omega) (by simp) (w2.heap.size + 1) (by simp) ?_; intro gg cap w3 hown3 hgrow hat hlt'; have HAP := Lib.hid (VC.app HV2.out (by rw [E.out, HN.out]; exact hgrow) (rg_next HN.out hown3)); have HAT := Lib.hid hat; have n4 : w3.cell? ⟨g, 4, none⟩ = some (.slice A n c) := (by have h := HAP.out.1.cell 4; rw [E.out, HN.out] at h; exact h); have q4 := HAP.out.1.frozen 4; clear hown3 hgrow hat hlt'))
  all_goals
    have HV4 := Lib.hid HAP.out.2.1
    obtain ⟨l0, l1, l2, l3, l4, _⟩ := HV4.out.cells
    have HTR := Lib.hid (tnrange x y HV4.out.shown hs)
    go_wp2_with (go_at_call 40; refine HTR.out.mono ?_; rintro e w5 ⟨v, rfl, ho, hb5⟩; have HO := Lib.hid ho; have HB5 := Lib.hid hb5; clear ho hb5)
    go_ret
    have hd : Did g rg w w2 := ((((Did.refl g _ w).below HB1.out).below ((Below.refl _ _).drew)).below HB2.out)
    have hd2 := HAP.out.2.2
    have hd3 : Did g rg w _ := ⟨hd.chg.trans hd2.chg, ViewD.Kept.trans hd.kept hd2.kept⟩
    refine ⟨_, _, rfl, So.lower HO.out hd3.chg.size, HV4.out.below HB5.out, hd3.below HB5.out, ?_⟩
    rcases HAT.out with h | h
    · left
      rw [E.out, HN.out]
      exact h.symm
    · right
      exact ⟨gg, rfl, by have := hd.chg.size; omega⟩
/-- Behind the call: all writes. -/
theorem pair_src (w : World) (p : Pr) : Sl prE (w.alloc (.cells #[.string p.key, .string p.value, .bool p.gone] 69)) (some ⟨w.heap.size, 0, none⟩) 1 [p] := Sl.new_ prE w _ p _ rfl
theorem sl_le {α : Type} {e : Enc α} {A : Option Addr} {n : Nat} {L : List α} (h : Sl e w A n L) {k : Nat} (hk : k < n) : ∃ x, L[k]? = some x := ⟨_, List.getElem?_eq_getElem (by rw [h.1]; exact hk)⟩
set_option maxRecDepth 100000 in
set_option maxHeartbeats 4000000 in
theorem writes_calls {K : List Pr} (h : VC w g b sh wt rd rg K (shownL K W) (kys W) R G) (hK : Rise K) (hW : Rise W) (hB : Bare W) (hk : K.length ≤ 2000) (hw : W.length ≤ 2000) :
    Calls Try.prog 17 #[.pointer (some ⟨g, 0, none⟩)] w (Made W w) := by
  have HKO := Lib.hid (keysof_calls wt (kys W) w h.wr (by rw [kys_len]; exact hw))
  have HV := Lib.hid h
  have HWK := Lib.hid (And.intro hK hW)
  have HBR := Lib.hid hB
  have hsl : (shownL K W).length ≤ 50000 := by have := shown_len K W; omega
  obtain ⟨n, hn⟩ : ∃ n, W.length = n := ⟨_, rfl⟩
  have HN := Lib.hid hn
  rw [hn] at hw
  obtain ⟨k0, k1, k2, k3, k4, _⟩ := HV.out.cells
  clear h hK hW hB hn
  go_enter Try.func17, Try.ntmps17
  go_wp2_with (go_at_call 36; refine HKO.out.mono ?_; rintro e w1 ⟨v, rfl, ho, hb1⟩; obtain ⟨A1, c1, rfl, _, _, _⟩ := Tx.So.head ho; have HO := Lib.hid ho; have HB1 := Lib.hid hb1; clear ho hb1; rw [kys_len, HN.out] at HO ⊢)
  go_loopw [3, 16] (fun v i wr => ∃ k : Nat, k ≤ n ∧ i = .int .i64 k ∧ Hid (So prE 69 wr w.heap.size v k (W.take k)) ∧ Hid (Below w.heap.size w wr) ∧ Hid (So rdE 9 wr w.heap.size (.slice A1 n c1) n (kys W))) (fun _ i _ => n - (intOf i).toNat)
  case atStart => exact ⟨0, Nat.zero_le _, rfl, Lib.hid (So.nil_ _ _ _ _), HB1, HO⟩
  case round =>
    obtain ⟨k, hk', rfl, HP, HB, HKS⟩ := hrel
    by_cases hlt : k < n
    · obtain ⟨p, hp⟩ : ∃ p, W[k]? = some p := ⟨_, List.getElem?_eq_getElem (by rw [HN.out]; exact hlt)⟩
      obtain ⟨q, gq, oq, hq, hA1, hgq, hcl⟩ := HKS.out.sl.get k hlt
      subst hA1
      have hqk := kys_at hp
      rw [hq] at hqk
      injection hqk with hqk
      subst hqk
      have c0 : wr.cell? ⟨gq, oq + k, none⟩ = some (.string p.key) := by have h := hcl 0 _ rfl; rw [show rdE.size = 1 from rfl, Nat.mul_one] at h; exact h
      have HVW := Lib.hid (HV.out.below HB.out)
      obtain ⟨m0, m1, m2, m3, m4, _⟩ := HVW.out.cells
      have hget := tnget p.key HVW.out.shown hsl
      have HTK := Lib.hid (TreeM.take_next hp)
      have hba : ∀ z : Pr, Below wr.heap.size wr (wr.alloc (.cells #[.string z.key, .string z.value, .bool z.gone] 69)) := fun z => (Below.refl _ _).alloc (Nat.le_refl _) _
      have HBA' := Lib.hid hba
      clear hcl hq hba
      rcases HBR.out.is HWK.out.1 HWK.out.2 (List.mem_of_getElem? hp) with ⟨hg, hn, hpe⟩ | ⟨hg, y, hn, hpe⟩
      · rw [hn] at hget
        have HBA := Lib.hid (HBA'.out ⟨p.key, ⟨#[]⟩, true⟩)
        have HG := Lib.hid hget
        have HPE := Lib.hid hpe
        clear hp hget hn hg hpe
        go_wp2_with (first
          | (go_at_call 18; refine HG.out.mono ?_; rintro e w2 ⟨rfl, rfl⟩; dsimp only [GotV])
          | ((with_reducible refine pick (some 36) ?_); refine wpList_append_lst prE 69 rfl _ _ _ rfl Try.underlying25 info_pair rfl w.heap.size _ _ _ rfl (HP.out.below ((Below.refl _ _).alloc (Nat.le_refl _) _)) wr.heap.size 0 1 1 [p] rfl (by rw [HPE.out]; exact pair_src wr ⟨p.key, ⟨#[]⟩, true⟩) _ rfl _ HTK.out.symm (by unfold maxLen; omega) (by omega) (by have := HB.out.size; simp; omega) ?_; intro v' w4 ho4 hg4 _ _; have HO4 := Lib.hid ho4; have HB4 := Lib.hid ((keeps HB.out HBA.out).grown hg4 (by have := HB.out.size; simp; omega) (fun g hg => (HP.out.lt hg).1)); have HKS4 := Lib.hid (So.grown (HKS.out.below HBA.out) hg4 (So.ne HKS.out HP.out (by decide))); clear ho4 hg4))
        go_roundw
        case rel => exact ⟨k + 1, by omega, by go_num, HO4, HB4, HKS4⟩
        case measure => simp [intOf]; omega
      · rw [hn] at hget
        have HBA := Lib.hid (HBA'.out ⟨p.key, y.value, false⟩)
        have HG := Lib.hid hget
        have HPE := Lib.hid hpe
        clear hp hget hn hg hpe
        go_wp2_with (first
          | (go_at_call 18; refine HG.out.mono ?_; rintro e w2 ⟨rfl, rfl⟩; dsimp only [GotV])
          | ((with_reducible refine pick (some 36) ?_); refine wpList_append_lst prE 69 rfl _ _ _ rfl Try.underlying25 info_pair rfl w.heap.size _ _ _ rfl (HP.out.below ((Below.refl _ _).alloc (Nat.le_refl _) _)) wr.heap.size 0 1 1 [p] rfl (by rw [HPE.out]; exact pair_src wr ⟨p.key, y.value, false⟩) _ rfl _ HTK.out.symm (by unfold maxLen; omega) (by omega) (by have := HB.out.size; simp; omega) ?_; intro v' w4 ho4 hg4 _ _; have HO4 := Lib.hid ho4; have HB4 := Lib.hid ((keeps HB.out HBA.out).grown hg4 (by have := HB.out.size; simp; omega) (fun g hg => (HP.out.lt hg).1)); have HKS4 := Lib.hid (So.grown (HKS.out.below HBA.out) hg4 (So.ne HKS.out HP.out (by decide))); clear ho4 hg4))
        go_roundw
        case rel => exact ⟨k + 1, by omega, by go_num, HO4, HB4, HKS4⟩
        case measure => simp [intOf]; omega
    · obtain rfl : k = n := by omega
      go_wp2_with fail
      go_ret
      refine ⟨_, rfl, ?_, HB.out⟩
      have h := HP.out
      rw [List.take_of_length_le (by rw [HN.out]; exact Nat.le_refl _)] at h
      rw [HN.out]
      exact h
end Go.Proofs.Ytdnenikplajmaaa.ViewKw
