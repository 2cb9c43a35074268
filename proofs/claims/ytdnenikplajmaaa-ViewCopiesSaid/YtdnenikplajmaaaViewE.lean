/- Layer 14's laws: 'same': the project's view shows what the document's does. -/
import Derived.Test.YtdnenikplajmaaaViewDw
import Derived.Deep.MidRow
namespace Go.Proofs.Ytdnenikplajmaaa.ViewE
set_option linter.unusedVariables false
set_option linter.unusedSimpArgs false
open Go.RowKit
open Go.Proofs.Ytdnenikplajmaaa.Byte Go.Proofs.Ytdnenikplajmaaa.KeysM Go.Proofs.Ytdnenikplajmaaa.TreeM Go.Proofs.Ytdnenikplajmaaa.ViewM Go.Proofs.Ytdnenikplajmaaa.Own Go.Proofs.Ytdnenikplajmaaa.Rw Go.Proofs.Ytdnenikplajmaaa.Lst Go.Proofs.Ytdnenikplajmaaa.Chg Go.Proofs.Ytdnenikplajmaaa.TreeR Go.Proofs.Ytdnenikplajmaaa.TreeS Go.Proofs.Ytdnenikplajmaaa.TreeL Go.Proofs.Ytdnenikplajmaaa.TreeG Go.Proofs.Ytdnenikplajmaaa.TreeH Go.Proofs.Ytdnenikplajmaaa.Ho Go.Proofs.Ytdnenikplajmaaa.ViewR Go.Proofs.Ytdnenikplajmaaa.ViewG Go.Proofs.Ytdnenikplajmaaa.ViewW Go.Proofs.Ytdnenikplajmaaa.ViewWa Go.Proofs.Ytdnenikplajmaaa.ViewS Go.Proofs.Ytdnenikplajmaaa.ViewL Go.Proofs.Ytdnenikplajmaaa.ViewF Go.Proofs.Ytdnenikplajmaaa.ViewB Go.Proofs.Ytdnenikplajmaaa.ViewD Go.Proofs.Ytdnenikplajmaaa.ViewDw
variable {Rep : World → Value → Vs → (Nat → Prop) → (Nat → Prop) → Prop}

set_option maxRecDepth 100000 in
set_option maxHeartbeats 1000000 in
theorem eq2s (a b : ByteArray) (w : World) : (Op.equalIn 10000 58 (.agg #[.string a, .string b]) (.agg #[.string a, .string b])).run Try.prog w = .ok true w := by
  have u5 := Try.underlying9
  have a5 := Try.isAgg9
  have z5 := Try.sizeOf9
  rw [show (10000 : Nat) = 9999 + 1 from rfl, Op.equalIn]
  simp only [Sem.run_bind, run_underlying Try.underlying58, Result.andThen_ok]
  simp only [Std.Legacy.Range.forIn_eq_forIn_range', Std.Legacy.Range.size, Nat.sub_zero, Nat.add_sub_cancel, Nat.div_one, List.range'_succ, List.range'_zero, List.forIn_cons, List.forIn_nil]
  go_simp
theorem below_drewN {B : Nat} {a w : World} (h : Below B a w) (n : Nat) : Below B a (w.drewN n) := ⟨h.os, h.tape, h.output, h.size, h.block⟩
set_option maxRecDepth 100000 in
set_option maxHeartbeats 8000000 in
theorem same_calls (hS : Stays Rep) (hW : WritesOk Rep) (hR : ReadsOk Rep) (hG : RangesOk Rep) (v : Value) (s : Vs) (S D : Nat → Prop) (b wt rd rg : Sh) (w : World) (hr : Rep w v s S D) (hd : Dv w s b wt rd rg) (hlim : Lim s) :
    Calls Try.prog 13 #[v, .agg #[.slice b.a b.n b.c, .slice wt.a wt.n wt.c, .slice rd.a rd.n rd.c, .slice rg.a rg.n rg.c]] w fun e w' => e = .returned (.bool true) ∧ Below w.heap.size w w' := by
  have hok := hS.ok hr
  obtain ⟨da, dn, dc⟩ := rd
  obtain ⟨ga, gn, gc⟩ := rg
  have hdn : dn = s.rd.length := hd.rd.1.1.symm
  have hgn : gn = s.rg.length := hd.rg.1.1.symm
  have hdc : dn ≤ dc := hd.rd.2.1
  have hdm : dc ≤ maxLen := hd.rd.2.2.1
  have hgc : gn ≤ gc := hd.rg.2.1
  have hgm : gc ≤ maxLen := hd.rg.2.2.1
  have hd1 : dn ≤ 1000 := by rw [hdn]; exact hlim.rd
  have hg1 : gn ≤ 1000 := by rw [hgn]; exact hlim.rg
  unfold maxLen at hdm hgm
  have hb1 : Below w.heap.size w (w.alloc (.cells #[.slice b.a b.n b.c, .slice wt.a wt.n wt.c, .slice da dn dc, .slice ga gn gc] 32)) := (Below.refl _ _).alloc (Nat.le_refl _) _
  have HB1 := Lib.hid hb1
  have HK1 := Lib.hid (Blk.new_ w #[.slice b.a b.n b.c, .slice wt.a wt.n wt.c, .slice da dn dc, .slice ga gn gc] 32)
  have HRP := Lib.hid (hS.below hr hb1)
  have HDV := Lib.hid (hd.below hb1)
  have HS := Lib.hid hS
  have HW := Lib.hid hW
  have HR := Lib.hid hR
  have HG := Lib.hid hG
  have HLM := Lib.hid hlim
  have HOK := Lib.hid hok
  have HDN := Lib.hid hdn
  have HGN := Lib.hid hgn
  clear hS hW hR hG hr hd hlim hok hb1 hdn hgn
  go_enter Try.func13, Try.ntmps13
  go_upto_region 2 with (first
    | (go_at_call 23; refine (HR.out HRP.out HLM.out).mono ?_; rintro e w2 ⟨q1, rfl, hs2, hb2⟩; have HQ1 := Lib.hid hs2; have HB2 := Lib.hid (keeps HB1.out hb2); have HK2 := Lib.hid (HK1.out.below hb2); have HR2 := Lib.hid (HS.out.below HRP.out hb2); have HD2 := Lib.hid (HDV.out.below hb2); clear hs2 hb2)
    | (go_at_call 24; refine (HG.out HR2.out HLM.out).mono ?_; rintro e w3 ⟨q2, rfl, hs3, hb3⟩; have HQ2 := Lib.hid hs3; have HQ1b := Lib.hid (HQ1.out.below hb3); have HB3 := Lib.hid (keeps HB2.out hb3); have HK3 := Lib.hid (HK2.out.below hb3); have HR3 := Lib.hid (HS.out.below HR2.out hb3); have HD3 := Lib.hid (HD2.out.below hb3); clear hs3 hb3))
  obtain ⟨pa, pn, pc⟩ := q1
  obtain ⟨ua, un, uc⟩ := q2
  obtain rfl : pn = dn := by rw [HDN.out]; exact HQ1.out.1.symm
  obtain rfl : un = gn := by rw [HGN.out]; exact HQ2.out.1.symm
  have n1 : ((pn : Int) != (pn : Int)) = false := by simp
  have n2 : ((un : Int) != (un : Int)) = false := by simp
  dsimp only
  have RD : Hid (∀ v, Below w3.heap.size w3 v → Below w3.heap.size w3 v ∧ v.cell? ⟨w.heap.size, 1, none⟩ = some (.slice wt.a wt.n wt.c) ∧ v.cell? ⟨w.heap.size, 2, none⟩ = some (.slice da pn dc) ∧ v.cell? ⟨w.heap.size, 3, none⟩ = some (.slice ga un gc)) := Lib.hid fun v hv => ⟨hv, (HK3.out.below hv).cell 1, (HK3.out.below hv).cell 2, (HK3.out.below hv).cell 3⟩
  refine wp_region_held_drew (S := fun v => Below w3.heap.size w3 v ∧ v.cell? ⟨w.heap.size, 1, none⟩ = some (.slice wt.a wt.n wt.c) ∧ v.cell? ⟨w.heap.size, 2, none⟩ = some (.slice da pn dc) ∧ v.cell? ⟨w.heap.size, 3, none⟩ = some (.slice ga un gc)) (by kernel_rfl) (RD.out _ (Below.drew (Below.refl _ _))) (fun hHeld => ?_)
  refine ho_val (v := ?_) 0 (some 13) rfl rfl (by kernel_rfl) (by kernel_rfl) (by kernel_rfl) (fun _ _ _ h => h) (by kernel_rfl) (fun w hSw => ?_) (by assumption) ?_
  rotate_left
  · ((try dsimp only at hSw); go_simp; try with_reducible rfl)
  simp only [Act.put, List.setIfInBounds_toArray, List.set_cons_zero, List.set_cons_succ]
  refine ho_val (v := ?_) 2 (some 15) rfl rfl (by kernel_rfl) (by kernel_rfl) (by kernel_rfl) (fun _ _ _ h => h) (by kernel_rfl) (fun w hSw => ?_) (by assumption) ?_
  rotate_left
  · ((try dsimp only at hSw); go_simp; try with_reducible rfl)
  simp only [Act.put, List.setIfInBounds_toArray, List.set_cons_zero, List.set_cons_succ]
  refine ho_val (v := ?_) 3 (some 16) rfl rfl (by kernel_rfl) (by kernel_rfl) (by kernel_rfl) (fun _ _ _ h => h) (by kernel_rfl) (fun w hSw => ?_) (by assumption) ?_
  rotate_left
  · ((try dsimp only at hSw); go_simp; try with_reducible rfl)
  simp only [Act.put, List.setIfInBounds_toArray, List.set_cons_zero, List.set_cons_succ]
  refine ho_step 1 (some 14) rfl rfl (by kernel_rfl) (by kernel_rfl) (fun K hK => ?_)
  go_simp
  (refine (HW.out (HS.out.below HR3.out (And.left hHeld)) HLM.out).mono ?_; rintro e w5 ⟨q, rfl, hsl, hb5⟩; have hx5 : Below w3.heap.size w3 w5 := keeps (And.left hHeld) hb5; have HSL := Lib.hid hsl)
  try go_wp2_with fail
  refine hK.out _ _ (RD.out _ hx5) (fun hHeld2 => ?_)
  clear hHeld
  have hHeld := hHeld2
  clear hHeld2
  clear hK K
  try simp only [Act.put, List.setIfInBounds_toArray, List.set_cons_zero, List.set_cons_succ]
  refine ho_step 4 (some 17) rfl rfl (by kernel_rfl) (by kernel_rfl) (fun K hK => ?_)
  go_simp
  (refine (refsame_calls _ _ _ _ _ _ _ _ _ HSL.out (HD3.out.wr.below hx5).1 (by rw [← HSL.out.1]; have := HOK.out.lw; omega) (by rw [← HD3.out.wr.1.1]; have := HOK.out.lw; omega) rfl).mono ?_; rintro e w6 ⟨rfl, hb6⟩; have hx6 : Below w3.heap.size w3 w6 := keeps hx5 hb6)
  try go_wp2_with fail
  refine hK.out _ _ (RD.out _ hx6) (fun hHeld2 => ?_)
  clear hHeld
  have hHeld := hHeld2
  clear hHeld2
  clear hK K
  try simp only [Act.put, List.setIfInBounds_toArray, List.set_cons_zero, List.set_cons_succ]
  refine ho_val (v := ?_) 5 (some 18) rfl rfl (by kernel_rfl) (by kernel_rfl) (by kernel_rfl) (fun _ _ _ h => h) (by kernel_rfl) (fun w hSw => ?_) (by assumption) ?_
  rotate_left
  · ((try dsimp only at hSw); go_simp; try with_reducible rfl)
  simp only [Act.put, List.setIfInBounds_toArray, List.set_cons_zero, List.set_cons_succ]
  refine ho_val (v := ?_) 6 (some 19) rfl rfl (by kernel_rfl) (by kernel_rfl) (by kernel_rfl) (fun _ _ _ h => h) (by kernel_rfl) (fun w hSw => ?_) (by assumption) ?_
  rotate_left
  · ((try dsimp only at hSw); go_simp; try with_reducible rfl)
  simp only [Act.put, List.setIfInBounds_toArray, List.set_cons_zero, List.set_cons_succ]
  refine ho_val (v := ?_) 7 (some 20) rfl rfl (by kernel_rfl) (by kernel_rfl) (by kernel_rfl) (fun _ _ _ h => h) (by kernel_rfl) (fun w hSw => ?_) (by assumption) ?_
  rotate_left
  · ((try dsimp only at hSw); go_simp; try with_reducible rfl)
  simp only [Act.put, List.setIfInBounds_toArray, List.set_cons_zero, List.set_cons_succ]
  refine ho_val (v := ?_) 9 (some 22) rfl rfl (by kernel_rfl) (by kernel_rfl) (by kernel_rfl) (fun _ _ _ h => h) (by kernel_rfl) (fun w hSw => ?_) (by assumption) ?_
  rotate_left
  · ((try dsimp only at hSw); go_simp; try with_reducible rfl)
  simp only [Act.put, List.setIfInBounds_toArray, List.set_cons_zero, List.set_cons_succ]
  refine ho_val (v := ?_) 10 (some 23) rfl rfl (by kernel_rfl) (by kernel_rfl) (by kernel_rfl) (fun _ _ _ h => h) (by kernel_rfl) (fun w hSw => ?_) (by assumption) ?_
  rotate_left
  · ((try dsimp only at hSw); go_simp; try with_reducible rfl)
  simp only [Act.put, List.setIfInBounds_toArray, List.set_cons_zero, List.set_cons_succ]
  refine ho_val (v := ?_) 8 (some 21) rfl rfl (by kernel_rfl) (by kernel_rfl) (by kernel_rfl) (fun _ _ _ h => h) (by kernel_rfl) (fun w hSw => ?_) (by assumption) ?_
  rotate_left
  · ((try dsimp only at hSw); go_simp; try with_reducible rfl)
  simp only [Act.put, List.setIfInBounds_toArray, List.set_cons_zero, List.set_cons_succ]
  refine ho_val (v := ?_) 11 (some 24) rfl rfl (by kernel_rfl) (by kernel_rfl) (by kernel_rfl) (fun _ _ _ h => h) (by kernel_rfl) (fun w hSw => ?_) (by assumption) ?_
  rotate_left
  · ((try dsimp only at hSw); go_simp; try with_reducible rfl)
  simp only [Act.put, List.setIfInBounds_toArray, List.set_cons_zero, List.set_cons_succ]
  refine ho_val (v := ?_) 12 (some 25) rfl rfl (by kernel_rfl) (by kernel_rfl) (by kernel_rfl) (fun _ _ _ h => h) (by kernel_rfl) (fun w hSw => ?_) (by assumption) ?_
  rotate_left
  · ((try dsimp only at hSw); go_simp; try with_reducible rfl)
  simp only [Act.put, List.setIfInBounds_toArray, List.set_cons_zero, List.set_cons_succ]
  refine ho_val (v := ?_) 13 (some 26) rfl rfl (by kernel_rfl) (by kernel_rfl) (by kernel_rfl) (fun _ _ _ h => h) (by kernel_rfl) (fun w hSw => ?_) (by assumption) ?_
  rotate_left
  · ((try dsimp only at hSw); go_simp; try with_reducible rfl)
  simp only [Act.put, List.setIfInBounds_toArray, List.set_cons_zero, List.set_cons_succ]
  refine ho_val (v := ?_) 14 (some 27) rfl rfl (by kernel_rfl) (by kernel_rfl) (by kernel_rfl) (fun _ _ _ h => h) (by kernel_rfl) (fun w hSw => ?_) (by assumption) ?_
  rotate_left
  · ((try dsimp only at hSw); go_simp; try with_reducible rfl)
  simp only [Act.put, List.setIfInBounds_toArray, List.set_cons_zero, List.set_cons_succ]
  refine ho_val (v := ?_) 15 (some 28) rfl rfl (by kernel_rfl) (by kernel_rfl) (by kernel_rfl) (fun _ _ _ h => h) (by kernel_rfl) (fun w hSw => ?_) (by assumption) ?_
  rotate_left
  · ((try dsimp only at hSw); go_simp; try with_reducible rfl)
  simp only [Act.put, List.setIfInBounds_toArray, List.set_cons_zero, List.set_cons_succ]
  refine ho_val (v := ?_) 17 (some 30) rfl rfl (by kernel_rfl) (by kernel_rfl) (by kernel_rfl) (fun _ _ _ h => h) (by kernel_rfl) (fun w hSw => ?_) (by assumption) ?_
  rotate_left
  · ((try dsimp only at hSw); go_simp; try with_reducible rfl)
  simp only [Act.put, List.setIfInBounds_toArray, List.set_cons_zero, List.set_cons_succ]
  refine ho_val (v := ?_) 18 (some 31) rfl rfl (by kernel_rfl) (by kernel_rfl) (by kernel_rfl) (fun _ _ _ h => h) (by kernel_rfl) (fun w hSw => ?_) (by assumption) ?_
  rotate_left
  · ((try dsimp only at hSw); go_simp; try with_reducible rfl)
  simp only [Act.put, List.setIfInBounds_toArray, List.set_cons_zero, List.set_cons_succ]
  refine ho_val (v := ?_) 16 (some 29) rfl rfl (by kernel_rfl) (by kernel_rfl) (by kernel_rfl) (fun _ _ _ h => h) (by kernel_rfl) (fun w hSw => ?_) (by assumption) ?_
  rotate_left
  · ((try dsimp only at hSw); go_simp; try with_reducible rfl)
  simp only [Act.put, List.setIfInBounds_toArray, List.set_cons_zero, List.set_cons_succ]
  refine ho_val (v := ?_) 19 (some 32) rfl rfl (by kernel_rfl) (by kernel_rfl) (by kernel_rfl) (fun _ _ _ h => h) (by kernel_rfl) (fun w hSw => ?_) (by assumption) ?_
  rotate_left
  · ((try dsimp only at hSw); go_simp; try with_reducible rfl)
  simp only [Act.put, List.setIfInBounds_toArray, List.set_cons_zero, List.set_cons_succ]
  refine ho_val (v := ?_) 20 (some 33) rfl rfl (by kernel_rfl) (by kernel_rfl) (by kernel_rfl) (fun _ _ _ h => h) (by kernel_rfl) (fun w hSw => ?_) (by assumption) ?_
  rotate_left
  · ((try dsimp only at hSw); go_simp; try with_reducible rfl)
  simp only [Act.put, List.setIfInBounds_toArray, List.set_cons_zero, List.set_cons_succ]
  refine ho_val (v := ?_) 21 (some 34) rfl rfl (by kernel_rfl) (by kernel_rfl) (by kernel_rfl) (fun _ _ _ h => h) (by kernel_rfl) (fun w hSw => ?_) (by assumption) ?_
  rotate_left
  · ((try dsimp only at hSw); go_simp; try with_reducible rfl)
  simp only [Act.put, List.setIfInBounds_toArray, List.set_cons_zero, List.set_cons_succ]
  refine wpAnyH_done (by kernel_rfl) ?_ _
  have HB4 := Lib.hid hHeld.1
  clear hHeld RD
  go_wp2_with fail
  go_loopw [37] (fun i wr => ∃ j : Nat, j ≤ pn ∧ i = .int .i64 j ∧ Below w3.heap.size w3 wr) (fun i _ => pn - (intOf i).toNat)
  case atStart => exact ⟨0, Nat.zero_le _, rfl, HB4.out⟩
  case round =>
    obtain ⟨j, hj, rfl, hbel⟩ := hrel
    by_cases hlt : j < pn
    · obtain ⟨x, g, o, hx, hA, hg, hcl⟩ := (HQ1b.out.below hbel).get j hlt
      obtain ⟨g2, o2, hA2, hg2, hcl2⟩ := (HD3.out.rd.1.below hbel).2 j x hx
      dsimp only at hA hA2
      subst hA
      subst hA2
      have c0 : wr.cell? ⟨g, o + j, none⟩ = some (.string x.key) := by have := hcl 0 _ rfl; rwa [show rdE.size = 1 from rfl, Nat.mul_one, Nat.add_zero] at this
      have c1 : wr.cell? ⟨g2, o2 + j, none⟩ = some (.string x.key) := by have := hcl2 0 _ rfl; rwa [show rdE.size = 1 from rfl, Nat.mul_one, Nat.add_zero] at this
      have c2 : wr.cell? ⟨w.heap.size, 2, none⟩ = some (.slice (some ⟨g2, o2, none⟩) pn dc) := (HK3.out.below hbel).cell 2
      have z1 : (x.key.toList != x.key.toList) = false := by simp
      have hji : (j : Int) < (pn : Int) := by omega
      have HBL := Lib.hid hbel
      clear hx hcl hcl2 hbel hg hg2
      go_wp2_with fail
      go_quiet (fail)
      go_wp2_with fail
      go_roundw
      case rel => exact ⟨j + 1, by omega, by go_num, below_drewN HBL.out _⟩
      case measure => simp [intOf]; omega
    · obtain rfl : j = pn := by omega
      have HBL := Lib.hid hbel
      clear hbel
      go_wp2_with fail
      go_loopw [53] (fun i wr => ∃ j : Nat, j ≤ un ∧ i = .int .i64 j ∧ Below w3.heap.size w3 wr) (fun i _ => un - (intOf i).toNat)
      case atStart => exact ⟨0, Nat.zero_le _, rfl, HBL.out⟩
      case round =>
        obtain ⟨k, hk, rfl, hbel⟩ := hrel
        by_cases hlt2 : k < un
        · obtain ⟨x, g, o, hx, hA, hg, hcl⟩ := (HQ2.out.below hbel).get k hlt2
          obtain ⟨g2, o2, hA2, hg2, hcl2⟩ := (HD3.out.rg.1.below hbel).2 k x hx
          dsimp only at hA hA2
          subst hA
          subst hA2
          have c0 : wr.cell? ⟨g, o + k * 2, none⟩ = some (.string x.1) := hcl 0 _ rfl
          have c3 : wr.cell? ⟨g, o + k * 2 + 1, none⟩ = some (.string x.2) := hcl 1 _ rfl
          have c1 : wr.cell? ⟨g2, o2 + k * 2, none⟩ = some (.string x.1) := hcl2 0 _ rfl
          have c4 : wr.cell? ⟨g2, o2 + k * 2 + 1, none⟩ = some (.string x.2) := hcl2 1 _ rfl
          have c2 : wr.cell? ⟨w.heap.size, 3, none⟩ = some (.slice (some ⟨g2, o2, none⟩) un gc) := (HK3.out.below hbel).cell 3
          have z1 := eq2s x.1 x.2
          have hji : (k : Int) < (un : Int) := by omega
          have HBL2 := Lib.hid hbel
          clear hx hcl hcl2 hbel hg hg2
          go_wp2_with fail
          go_quiet (fail)
          go_wp2_with fail
          go_roundw
          case rel => exact ⟨k + 1, by omega, by go_num, below_drewN HBL2.out _⟩
          case measure => simp [intOf]; omega
        · obtain rfl : k = un := by omega
          have HBL3 := Lib.hid (keeps HB3.out hbel)
          clear hbel
          go_wp2_with fail
          go_ret
          exact ⟨rfl, HBL3.out⟩
end Go.Proofs.Ytdnenikplajmaaa.ViewE
