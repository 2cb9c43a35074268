/- The contract of the document's Write of layer 14: the rest. -/
import Derived.Test.YtdnenikplajmaaaViewW
namespace Go.Proofs.Ytdnenikplajmaaa.ViewW
set_option linter.unusedVariables false
set_option linter.unusedSimpArgs false
open Go.RowKit
open Go.Proofs.Ytdnenikplajmaaa.Byte Go.Proofs.Ytdnenikplajmaaa.KeysM Go.Proofs.Ytdnenikplajmaaa.TreeM Go.Proofs.Ytdnenikplajmaaa.ViewM Go.Proofs.Ytdnenikplajmaaa.Own Go.Proofs.Ytdnenikplajmaaa.Rw Go.Proofs.Ytdnenikplajmaaa.Lst Go.Proofs.Ytdnenikplajmaaa.TreeR Go.Proofs.Ytdnenikplajmaaa.TreeS Go.Proofs.Ytdnenikplajmaaa.Ho Go.Proofs.Ytdnenikplajmaaa.ViewR Go.Proofs.Ytdnenikplajmaaa.ViewG

set_option maxRecDepth 100000 in
set_option maxHeartbeats 8000000 in
theorem write_p4 (s : Vs) (b wt rd rg : Sh) (p : Pr) (w : World) (hd : Dv w s b wt rd rg) (hb : s.base.length ≤ 1000) (hok : s.Ok) (hf : fullW s.wr p = false) (hwx : inW p.key s.wr = false) (hpg : p.gone = true) (hy : (getL p.key s.base).isSome = true) :
    Calls Try.prog 31 #[.agg #[.slice b.a b.n b.c, .slice wt.a wt.n wt.c, .slice rd.a rd.n rd.c, .slice rg.a rg.n rg.c], .agg #[.string p.key, .string p.value, .bool p.gone]] w (WrR s p b wt rd rg w) := by
  have HPG := Lib.hid hpg
  clear hpg
  have HD := Lib.hid hd
  have HOK := Lib.hid hok
  have HLB := Lib.hid hb
  obtain ⟨wa, wn, wc⟩ := wt
  have hwc := hd.wr.2.1
  have hwc2 := hd.wr.2.2.1
  have hln := hd.wr.len
  have hw48 := hok.lw
  dsimp only at hwc hwc2 hln
  rw [hln] at hw48
  have HLN := Lib.hid hln
  have hW0 : ∃ W0, ((w.alloc (.cells #[.slice b.a b.n b.c, .slice wa wn wc, .slice rd.a rd.n rd.c, .slice rg.a rg.n rg.c] 32)).alloc (.cells #[.string p.key, .string p.value, .bool p.gone] 69)).alloc (.cells zeroV 32) = W0 ∧ Blk W0 w.heap.size #[.slice b.a b.n b.c, .slice wa wn wc, .slice rd.a rd.n rd.c, .slice rg.a rg.n rg.c] 32 ∧ Blk W0 (w.heap.size + 1) #[.string p.key, .string p.value, .bool p.gone] 69 ∧ Blk W0 (w.heap.size + 2) zeroV 32 ∧ Below w.heap.size w W0 ∧ W0.heap.size = w.heap.size + 3 :=
    ⟨_, rfl, ((Blk.new_ _ _ _).alloc _).alloc _, by have h := (Blk.new_ (w.alloc (.cells #[.slice b.a b.n b.c, .slice wa wn wc, .slice rd.a rd.n rd.c, .slice rg.a rg.n rg.c] 32)) #[.string p.key, .string p.value, .bool p.gone] 69).alloc (.cells zeroV 32); simpa using h, by have h := Blk.new_ ((w.alloc (.cells #[.slice b.a b.n b.c, .slice wa wn wc, .slice rd.a rd.n rd.c, .slice rg.a rg.n rg.c] 32)).alloc (.cells #[.string p.key, .string p.value, .bool p.gone] 69)) zeroV 32; simpa using h, (((Below.refl _ _).alloc (Nat.le_refl _) _).alloc (by simp <;> omega) _).alloc (by simp <;> omega) _, by simp⟩
  obtain ⟨W0, e0, q1, q2, q3, q4, q5⟩ := hW0
  have E0 := Lib.hid e0
  have Q1 := Lib.hid q1
  have Q2 := Lib.hid q2
  have Q3 := Lib.hid q3
  have Q4 := Lib.hid q4
  have Q5 := Lib.hid q5
  have HF := Lib.hid hf
  clear hd hb hok hln e0 q1 q2 q3 q4 q5 hf
  go_enter Try.func31, Try.ntmps31
  go_upto_region 1 with (fail)
  change Code.wp _ _ _ _ (((w.alloc (.cells #[.slice b.a b.n b.c, .slice wa wn wc, .slice rd.a rd.n rd.c, .slice rg.a rg.n rg.c] 32)).alloc (.cells #[.string p.key, .string p.value, .bool p.gone] 69)).alloc (.cells zeroV 32))
  rw [E0.out]
  have a0 : W0.cell? ⟨w.heap.size + 1, 0, none⟩ = some (.string p.key) := Q2.out.cell 0
  have hsz : w.heap.size < W0.heap.size := Q1.out.lt
  have HWX := Lib.hid hwx
  clear hwx
  have hlen : ¬ 48 ≤ wn := (by
    have h := HF.out
    unfold fullW at h
    rw [HLN.out, HWX.out] at h
    simpa using h)
  have d1 : decide ((48 : Int) ≤ (wn : Int)) = false := decide_eq_false (by omega)
  have d2 : decide (48 ≤ wn) = false := decide_eq_false hlen
  obtain ⟨x0, y0, hxy⟩ := got_form (getL p.key s.base)
  have hy0 : y0 = (getL p.key s.base).isSome := (by
    cases hg : getL p.key s.base with
    | none => rw [hg] at hxy; simp [GotV] at hxy; simp [hxy]
    | some q => rw [hg] at hxy; simp [GotV] at hxy; simp [hxy])
  rw [hy] at hy0
  subst hy0
  have HYS := Lib.hid hy
  clear hy
  have HXY := Lib.hid hxy
  clear hxy
  have HPUT0 : Hid (writeW s.base s.wr p = putP p s.wr) := Lib.hid (by unfold writeW; rw [if_neg (by rw [HPG.out]; cases hg : getL p.key s.base <;> simp [hg] <;> (have := HYS.out; rw [hg] at this; simp at this))])
  have hpg := HPG.out
  go_upto_region 6 with (first
    | ((with_reducible refine pick (some 11) ?_); refine load_blk rfl 32 _ rfl w.heap.size rfl 32 #[.slice b.a b.n b.c, .slice wa wn wc, .slice rd.a rd.n rd.c, .slice rg.a rg.n rg.c] _ Q1.out Try.underlying32 rfl info_view ?_)
    | (go_at_call 45; refine (written_is  (HD.out.below Q4.out) HWX.out).mono ?_; rintro e w1 ⟨rfl, hb1⟩; have Q1b := Lib.hid (Q1.out.below hb1); have Q2b := Lib.hid (Q2.out.below hb1); have Q3b := Lib.hid (Q3.out.below hb1); have Q4b := Lib.hid (keeps Q4.out hb1); have hs1 := hb1.size; have b1 : w1.cell? ⟨w.heap.size, 1, none⟩ = some (.slice wa wn wc) := Q1b.out.cell 1; have b2 : w1.cell? ⟨w.heap.size + 1, 0, none⟩ = some (.string p.key) := Q2b.out.cell 0; clear hb1 a0; have b0 : w1.cell? ⟨w.heap.size, 0, none⟩ = some (.slice b.a b.n b.c) := Q1b.out.cell 0; have b4 : w1.cell? ⟨w.heap.size + 1, 2, none⟩ = some (.bool p.gone) := Q2b.out.cell 2; have l1 : w.heap.size < w1.heap.size := Q1b.out.lt; have l2 : w.heap.size + 1 < w1.heap.size := Q2b.out.lt; have hsi : w.heap.size + 3 ≤ w1.heap.size := (by have := Q5.out; omega); have HBG := Lib.hid (HD.out.base.below (Q4b.out.alloc Q4b.out.size (.cells #[] 69))))
    | (go_at_call 42; refine (get_is p.key HBG.out (by have := HLB.out; omega) HXY.out).mono ?_; rintro e w2 ⟨rfl, rfl⟩))
  have hW2 : Wd w (w1.alloc (.cells #[] 69)) #[.slice b.a b.n b.c, .slice wa wn wc, .slice rd.a rd.n rd.c, .slice rg.a rg.n rg.c] p (.slice (some ⟨w1.heap.size, 0, none⟩) 0 0) [] := ⟨So.new_ _ _ _ hsi, Q1b.out.alloc _, Q2b.out.alloc _, Q3b.out.alloc _, Q4b.out.alloc Q4b.out.size _, by simp; omega⟩
  have HW2 := Lib.hid hW2
  have HRI := Lib.hid HOK.out.wr
  have c1 : (w1.alloc (.cells #[] 69)).cell? ⟨w.heap.size, 1, none⟩ = some (.slice wa wn wc) := HW2.out.box.cell 1
  clear hW2 b0 b1 b2 b4 hpg
  go_wp2_with fail
  go_loopw [6, 9, 41] (fun v d i wr => ∃ k : Nat, k ≤ wn ∧ i = .int .i64 k ∧ d = .bool (metL p.key (s.wr.take k)) ∧ Hid (Wd w wr #[.slice b.a b.n b.c, .slice wa wn wc, .slice rd.a rd.n rd.c, .slice rg.a rg.n rg.c] p v (soP p (s.wr.take k)))) (fun _ _ i _ => wn - (intOf i).toNat)
  case atStart => exact ⟨0, Nat.zero_le _, rfl, rfl, HW2⟩
  case round =>
    obtain ⟨k, hk, rfl, rfl, HR⟩ := hrel
    have hml : (soP p (s.wr.take k)).length ≤ 1000 := by
      have h2 : (s.wr.take k).length ≤ k := List.length_take_le _ _
      unfold soP
      split
      · have := putP_len p (s.wr.take k); omega
      · omega
    clear c1 l1 l2
    by_cases hlt : k < wn
    · obtain ⟨x, g, o, hx, rfl, hg, hcl⟩ := HD.out.wr.1.get k hlt
      have HX := Lib.hid hx
      clear hx hcl
      obtain ⟨M, hMM⟩ : ∃ M, soP p (s.wr.take k) = M := ⟨_, rfl⟩
      rw [hMM] at HR hml
      cases hm : metL p.key (s.wr.take k) with
      | false =>
        cases h1 : kl x.key p.key with
        | true =>
          have f1 : Op.bytesLess p.key.toList x.key.toList = false := kl_asym h1
          have z1 : (p.key.toList == x.key.toList) = false := neq_false (kl_ne h1).symm
          have z2 : (x.key.toList == p.key.toList) = false := neq_false (kl_ne h1)
          obtain ⟨s1, s2⟩ := soP_1 HX.out p hm h1
          rw [hMM] at s2
          have HS := Lib.hid s2
          have HM2 := Lib.hid s1
          clear s1 s2 h1 hMM hm
          have RD : Hid (∀ v, Below wr.heap.size wr v → Below wr.heap.size wr v ∧ v.cell? ⟨w.heap.size + 1, 0, none⟩ = some (.string p.key) ∧ v.cell? ⟨w.heap.size, 1, none⟩ = some (.slice (some ⟨g, o, none⟩) wn wc) ∧ v.cell? ⟨g, o + k * 3, none⟩ = some (.string x.key)) := Lib.hid fun v hv => ⟨hv, (HR.out.pbx.below hv).cell 0, (HR.out.box.below hv).cell 1, ((HD.out.wr.1.below (keeps HR.out.bel hv)).at_ k x HX.out).2 0 _ rfl⟩
          go_wp2_with fail
          refine wp_region_held_drew (S := fun v => Below wr.heap.size wr v ∧ v.cell? ⟨w.heap.size + 1, 0, none⟩ = some (.string p.key) ∧ v.cell? ⟨w.heap.size, 1, none⟩ = some (.slice (some ⟨g, o, none⟩) wn wc) ∧ v.cell? ⟨g, o + k * 3, none⟩ = some (.string x.key)) (by kernel_rfl) (RD.out _ (Below.drew (Below.refl _ _))) (fun hHeld => ?_)
          refine ho_val (v := ?_) 0 (some 44) rfl rfl (by kernel_rfl) (by kernel_rfl) (by kernel_rfl) (fun _ _ _ h => h) (by kernel_rfl) (fun w hSw => ?_) (by assumption) ?_
          rotate_left
          · ((try dsimp only at hSw); go_simp; try with_reducible rfl)
          simp only [Act.put, List.setIfInBounds_toArray, List.set_cons_zero, List.set_cons_succ]
          refine ho_val (v := ?_) 1 (some 45) rfl rfl (by kernel_rfl) (by kernel_rfl) (by kernel_rfl) (fun _ _ _ h => h) (by kernel_rfl) (fun w hSw => ?_) (by assumption) ?_
          rotate_left
          · ((try dsimp only at hSw); go_simp; try with_reducible rfl)
          simp only [Act.put, List.setIfInBounds_toArray, List.set_cons_zero, List.set_cons_succ]
          refine ho_val (v := ?_) 2 (some 46) rfl rfl (by kernel_rfl) (by kernel_rfl) (by kernel_rfl) (fun _ _ _ h => h) (by kernel_rfl) (fun w hSw => ?_) (by assumption) ?_
          rotate_left
          · ((try dsimp only at hSw); go_simp; try with_reducible rfl)
          simp only [Act.put, List.setIfInBounds_toArray, List.set_cons_zero, List.set_cons_succ]
          refine ho_val (v := ?_) 3 (some 47) rfl rfl (by kernel_rfl) (by kernel_rfl) (by kernel_rfl) (fun _ _ _ h => h) (by kernel_rfl) (fun w hSw => ?_) (by assumption) ?_
          rotate_left
          · ((try dsimp only at hSw); go_simp; try with_reducible rfl)
          simp only [Act.put, List.setIfInBounds_toArray, List.set_cons_zero, List.set_cons_succ]
          refine ho_val (v := ?_) 4 (some 48) rfl rfl (by kernel_rfl) (by kernel_rfl) (by kernel_rfl) (fun _ _ _ h => h) (by kernel_rfl) (fun w hSw => ?_) (by assumption) ?_
          rotate_left
          · ((try dsimp only at hSw); go_simp; try with_reducible rfl)
          simp only [Act.put, List.setIfInBounds_toArray, List.set_cons_zero, List.set_cons_succ]
          refine ho_val (v := ?_) 5 (some 49) rfl rfl (by kernel_rfl) (by kernel_rfl) (by kernel_rfl) (fun _ _ _ h => h) (by kernel_rfl) (fun w hSw => ?_) (by assumption) ?_
          rotate_left
          · ((try dsimp only at hSw); go_simp; try with_reducible rfl)
          simp only [Act.put, List.setIfInBounds_toArray, List.set_cons_zero, List.set_cons_succ]
          refine ho_val (v := ?_) 6 (some 50) rfl rfl (by kernel_rfl) (by kernel_rfl) (by kernel_rfl) (fun _ _ _ h => h) (by kernel_rfl) (fun w hSw => ?_) (by assumption) ?_
          rotate_left
          · ((try dsimp only at hSw); go_simp; try with_reducible rfl)
          simp only [Act.put, List.setIfInBounds_toArray, List.set_cons_zero, List.set_cons_succ]
          refine ho_val (v := ?_) 7 (some 51) rfl rfl (by kernel_rfl) (by kernel_rfl) (by kernel_rfl) (fun _ _ _ h => h) (by kernel_rfl) (fun w hSw => ?_) (by assumption) ?_
          rotate_left
          · ((try dsimp only at hSw); go_simp; try with_reducible rfl)
          simp only [Act.put, List.setIfInBounds_toArray, List.set_cons_zero, List.set_cons_succ]
          refine ho_val (v := ?_) 8 (some 52) rfl rfl (by kernel_rfl) (by kernel_rfl) (by kernel_rfl) (fun _ _ _ h => h) (by kernel_rfl) (fun w hSw => ?_) (by assumption) ?_
          rotate_left
          · ((try dsimp only at hSw); go_simp; try with_reducible rfl)
          simp only [Act.put, List.setIfInBounds_toArray, List.set_cons_zero, List.set_cons_succ]
          refine ho_val (v := ?_) 9 (some 53) rfl rfl (by kernel_rfl) (by kernel_rfl) (by kernel_rfl) (fun _ _ _ h => h) (by kernel_rfl) (fun w hSw => ?_) (by assumption) ?_
          rotate_left
          · ((try dsimp only at hSw); go_simp; try with_reducible rfl)
          simp only [Act.put, List.setIfInBounds_toArray, List.set_cons_zero, List.set_cons_succ]
          refine ho_val (v := ?_) 10 (some 54) rfl rfl (by kernel_rfl) (by kernel_rfl) (by kernel_rfl) (fun _ _ _ h => h) (by kernel_rfl) (fun w hSw => ?_) (by assumption) ?_
          rotate_left
          · ((try dsimp only at hSw); go_simp; try with_reducible rfl)
          simp only [Act.put, List.setIfInBounds_toArray, List.set_cons_zero, List.set_cons_succ]
          refine ho_val (v := ?_) 11 (some 55) rfl rfl (by kernel_rfl) (by kernel_rfl) (by kernel_rfl) (fun _ _ _ h => h) (by kernel_rfl) (fun w hSw => ?_) (by assumption) ?_
          rotate_left
          · ((try dsimp only at hSw); go_simp; try with_reducible rfl)
          simp only [Act.put, List.setIfInBounds_toArray, List.set_cons_zero, List.set_cons_succ]
          refine ho_val (v := ?_) 12 (some 56) rfl rfl (by kernel_rfl) (by kernel_rfl) (by kernel_rfl) (fun _ _ _ h => h) (by kernel_rfl) (fun w hSw => ?_) (by assumption) ?_
          rotate_left
          · ((try dsimp only at hSw); go_simp; try with_reducible rfl)
          simp only [Act.put, List.setIfInBounds_toArray, List.set_cons_zero, List.set_cons_succ]
          refine wpAnyH_done (by kernel_rfl) ?_ _
          clear hHeld RD
          obtain ⟨W1, hW1⟩ : ∃ V, World.drew wr = V := ⟨_, rfl⟩
          have hr1 := HR.out.drew
          rw [hW1] at hr1 ⊢
          have HR1 := Lib.hid hr1
          clear hW1 hr1
          have RD2 : Hid (∀ v, Below W1.heap.size W1 v → Below W1.heap.size W1 v ∧ v.cell? ⟨w.heap.size + 1, 0, none⟩ = some (.string p.key) ∧ v.cell? ⟨w.heap.size, 1, none⟩ = some (.slice (some ⟨g, o, none⟩) wn wc) ∧ v.cell? ⟨g, o + k * 3, none⟩ = some (.string x.key)) := Lib.hid fun v hv => ⟨hv, (HR1.out.pbx.below hv).cell 0, (HR1.out.box.below hv).cell 1, ((HD.out.wr.1.below (keeps HR1.out.bel hv)).at_ k x HX.out).2 0 _ rfl⟩
          go_wp2_with fail
          refine wp_region_held_drew (S := fun v => Below W1.heap.size W1 v ∧ v.cell? ⟨w.heap.size + 1, 0, none⟩ = some (.string p.key) ∧ v.cell? ⟨w.heap.size, 1, none⟩ = some (.slice (some ⟨g, o, none⟩) wn wc) ∧ v.cell? ⟨g, o + k * 3, none⟩ = some (.string x.key)) (by kernel_rfl) (RD2.out _ (Below.drew (Below.refl _ _))) (fun hHeld => ?_)
          refine ho_val (v := ?_) 0 (some 61) rfl rfl (by kernel_rfl) (by kernel_rfl) (by kernel_rfl) (fun _ _ _ h => h) (by kernel_rfl) (fun w hSw => ?_) (by assumption) ?_
          rotate_left
          · ((try dsimp only at hSw); go_simp; try with_reducible rfl)
          simp only [Act.put, List.setIfInBounds_toArray, List.set_cons_zero, List.set_cons_succ]
          refine ho_val (v := ?_) 1 (some 62) rfl rfl (by kernel_rfl) (by kernel_rfl) (by kernel_rfl) (fun _ _ _ h => h) (by kernel_rfl) (fun w hSw => ?_) (by assumption) ?_
          rotate_left
          · ((try dsimp only at hSw); go_simp; try with_reducible rfl)
          simp only [Act.put, List.setIfInBounds_toArray, List.set_cons_zero, List.set_cons_succ]
          refine ho_val (v := ?_) 2 (some 63) rfl rfl (by kernel_rfl) (by kernel_rfl) (by kernel_rfl) (fun _ _ _ h => h) (by kernel_rfl) (fun w hSw => ?_) (by assumption) ?_
          rotate_left
          · ((try dsimp only at hSw); go_simp; try with_reducible rfl)
          simp only [Act.put, List.setIfInBounds_toArray, List.set_cons_zero, List.set_cons_succ]
          refine ho_val (v := ?_) 3 (some 64) rfl rfl (by kernel_rfl) (by kernel_rfl) (by kernel_rfl) (fun _ _ _ h => h) (by kernel_rfl) (fun w hSw => ?_) (by assumption) ?_
          rotate_left
          · ((try dsimp only at hSw); go_simp; try with_reducible rfl)
          simp only [Act.put, List.setIfInBounds_toArray, List.set_cons_zero, List.set_cons_succ]
          refine ho_val (v := ?_) 4 (some 65) rfl rfl (by kernel_rfl) (by kernel_rfl) (by kernel_rfl) (fun _ _ _ h => h) (by kernel_rfl) (fun w hSw => ?_) (by assumption) ?_
          rotate_left
          · ((try dsimp only at hSw); go_simp; try with_reducible rfl)
          simp only [Act.put, List.setIfInBounds_toArray, List.set_cons_zero, List.set_cons_succ]
          refine ho_val (v := ?_) 5 (some 66) rfl rfl (by kernel_rfl) (by kernel_rfl) (by kernel_rfl) (fun _ _ _ h => h) (by kernel_rfl) (fun w hSw => ?_) (by assumption) ?_
          rotate_left
          · ((try dsimp only at hSw); go_simp; try with_reducible rfl)
          simp only [Act.put, List.setIfInBounds_toArray, List.set_cons_zero, List.set_cons_succ]
          refine ho_val (v := ?_) 6 (some 67) rfl rfl (by kernel_rfl) (by kernel_rfl) (by kernel_rfl) (fun _ _ _ h => h) (by kernel_rfl) (fun w hSw => ?_) (by assumption) ?_
          rotate_left
          · ((try dsimp only at hSw); go_simp; try with_reducible rfl)
          simp only [Act.put, List.setIfInBounds_toArray, List.set_cons_zero, List.set_cons_succ]
          refine ho_val (v := ?_) 7 (some 68) rfl rfl (by kernel_rfl) (by kernel_rfl) (by kernel_rfl) (fun _ _ _ h => h) (by kernel_rfl) (fun w hSw => ?_) (by assumption) ?_
          rotate_left
          · ((try dsimp only at hSw); go_simp; try with_reducible rfl)
          simp only [Act.put, List.setIfInBounds_toArray, List.set_cons_zero, List.set_cons_succ]
          refine ho_val (v := ?_) 8 (some 69) rfl rfl (by kernel_rfl) (by kernel_rfl) (by kernel_rfl) (fun _ _ _ h => h) (by kernel_rfl) (fun w hSw => ?_) (by assumption) ?_
          rotate_left
          · ((try dsimp only at hSw); go_simp; try with_reducible rfl)
          simp only [Act.put, List.setIfInBounds_toArray, List.set_cons_zero, List.set_cons_succ]
          refine wpAnyH_done (by kernel_rfl) ?_ _
          clear hHeld RD2
          obtain ⟨W4, hW4⟩ : ∃ V, World.drew W1 = V := ⟨_, rfl⟩
          have hr4 := HR1.out.drew
          rw [hW4] at hr4 ⊢
          have HR4 := Lib.hid hr4
          clear hW4 hr4
          have y0 : W4.cell? ⟨g, o + k * 3, none⟩ = some (.string x.key) := ((HD.out.wr.1.below HR4.out.bel).at_ k x HX.out).2 0 _ rfl
          have y1 : W4.cell? ⟨g, o + k * 3 + 1, none⟩ = some (.string x.value) := ((HD.out.wr.1.below HR4.out.bel).at_ k x HX.out).2 1 _ rfl
          have y2 : W4.cell? ⟨g, o + k * 3 + 2, none⟩ = some (.bool x.gone) := ((HD.out.wr.1.below HR4.out.bel).at_ k x HX.out).2 2 _ rfl
          have a1 : W4.cell? ⟨w.heap.size, 1, none⟩ = some (.slice (some ⟨g, o, none⟩) wn wc) := HR4.out.box.cell 1
          go_wp2_with ((with_reducible refine pick (some 77) ?_); refine wpList_append_lst prE 69 rfl _ _ _ rfl Try.underlying25 info_pair rfl (w.heap.size + 3) _ _ M rfl (HR4.out.own.below ((Below.refl _ _).alloc (Nat.le_refl _) _)) W4.heap.size 0 1 1 [x] rfl (Sl.new_ prE W4 _ (x) _ rfl) _ rfl (M ++ [x]) rfl (by unfold maxLen; (try simp only [List.length_append, List.length_cons, List.length_nil]); omega) (by (try simp only [List.length_append, List.length_cons, List.length_nil]); omega) (by have := HR4.out.siz; simp; omega) ?_; intro v5 w5 ho5 hg5 _ _; have HR5 := Lib.hid (Wd.app (x := x) HR4.out hg5 ho5 rfl); clear ho5 hg5)
          go_roundw
          case rel => exact ⟨k + 1, by omega, by go_num, by rw [HM2.out], by rw [HS.out]; exact HR5⟩
          case measure => simp [intOf]; omega
        | false =>
          by_cases he : x.key = p.key
          · have f1 : Op.bytesLess p.key.toList x.key.toList = false := by rw [he]; exact kl_irr _
            have z1 : (p.key.toList == x.key.toList) = true := neq_true he.symm
            have z2 : (x.key.toList == p.key.toList) = true := neq_true he
            obtain ⟨s1, s2⟩ := soP_2 HX.out p hm h1
            rw [hMM, if_neg (by simp [he]), List.append_nil] at s2
            have HS := Lib.hid s2
            have HM2 := Lib.hid s1
            clear s1 s2 h1 hMM hm he
            have RD : Hid (∀ v, Below wr.heap.size wr v → Below wr.heap.size wr v ∧ v.cell? ⟨w.heap.size + 1, 0, none⟩ = some (.string p.key) ∧ v.cell? ⟨w.heap.size, 1, none⟩ = some (.slice (some ⟨g, o, none⟩) wn wc) ∧ v.cell? ⟨g, o + k * 3, none⟩ = some (.string x.key)) := Lib.hid fun v hv => ⟨hv, (HR.out.pbx.below hv).cell 0, (HR.out.box.below hv).cell 1, ((HD.out.wr.1.below (keeps HR.out.bel hv)).at_ k x HX.out).2 0 _ rfl⟩
            go_wp2_with fail
            refine wp_region_held_drew (S := fun v => Below wr.heap.size wr v ∧ v.cell? ⟨w.heap.size + 1, 0, none⟩ = some (.string p.key) ∧ v.cell? ⟨w.heap.size, 1, none⟩ = some (.slice (some ⟨g, o, none⟩) wn wc) ∧ v.cell? ⟨g, o + k * 3, none⟩ = some (.string x.key)) (by kernel_rfl) (RD.out _ (Below.drew (Below.refl _ _))) (fun hHeld => ?_)
            refine ho_val (v := ?_) 0 (some 44) rfl rfl (by kernel_rfl) (by kernel_rfl) (by kernel_rfl) (fun _ _ _ h => h) (by kernel_rfl) (fun w hSw => ?_) (by assumption) ?_
            rotate_left
            · ((try dsimp only at hSw); go_simp; try with_reducible rfl)
            simp only [Act.put, List.setIfInBounds_toArray, List.set_cons_zero, List.set_cons_succ]
            refine ho_val (v := ?_) 1 (some 45) rfl rfl (by kernel_rfl) (by kernel_rfl) (by kernel_rfl) (fun _ _ _ h => h) (by kernel_rfl) (fun w hSw => ?_) (by assumption) ?_
            rotate_left
            · ((try dsimp only at hSw); go_simp; try with_reducible rfl)
            simp only [Act.put, List.setIfInBounds_toArray, List.set_cons_zero, List.set_cons_succ]
            refine ho_val (v := ?_) 2 (some 46) rfl rfl (by kernel_rfl) (by kernel_rfl) (by kernel_rfl) (fun _ _ _ h => h) (by kernel_rfl) (fun w hSw => ?_) (by assumption) ?_
            rotate_left
            · ((try dsimp only at hSw); go_simp; try with_reducible rfl)
            simp only [Act.put, List.setIfInBounds_toArray, List.set_cons_zero, List.set_cons_succ]
            refine ho_val (v := ?_) 3 (some 47) rfl rfl (by kernel_rfl) (by kernel_rfl) (by kernel_rfl) (fun _ _ _ h => h) (by kernel_rfl) (fun w hSw => ?_) (by assumption) ?_
            rotate_left
            · ((try dsimp only at hSw); go_simp; try with_reducible rfl)
            simp only [Act.put, List.setIfInBounds_toArray, List.set_cons_zero, List.set_cons_succ]
            refine ho_val (v := ?_) 4 (some 48) rfl rfl (by kernel_rfl) (by kernel_rfl) (by kernel_rfl) (fun _ _ _ h => h) (by kernel_rfl) (fun w hSw => ?_) (by assumption) ?_
            rotate_left
            · ((try dsimp only at hSw); go_simp; try with_reducible rfl)
            simp only [Act.put, List.setIfInBounds_toArray, List.set_cons_zero, List.set_cons_succ]
            refine ho_val (v := ?_) 5 (some 49) rfl rfl (by kernel_rfl) (by kernel_rfl) (by kernel_rfl) (fun _ _ _ h => h) (by kernel_rfl) (fun w hSw => ?_) (by assumption) ?_
            rotate_left
            · ((try dsimp only at hSw); go_simp; try with_reducible rfl)
            simp only [Act.put, List.setIfInBounds_toArray, List.set_cons_zero, List.set_cons_succ]
            refine ho_val (v := ?_) 6 (some 50) rfl rfl (by kernel_rfl) (by kernel_rfl) (by kernel_rfl) (fun _ _ _ h => h) (by kernel_rfl) (fun w hSw => ?_) (by assumption) ?_
            rotate_left
            · ((try dsimp only at hSw); go_simp; try with_reducible rfl)
            simp only [Act.put, List.setIfInBounds_toArray, List.set_cons_zero, List.set_cons_succ]
            refine ho_val (v := ?_) 7 (some 51) rfl rfl (by kernel_rfl) (by kernel_rfl) (by kernel_rfl) (fun _ _ _ h => h) (by kernel_rfl) (fun w hSw => ?_) (by assumption) ?_
            rotate_left
            · ((try dsimp only at hSw); go_simp; try with_reducible rfl)
            simp only [Act.put, List.setIfInBounds_toArray, List.set_cons_zero, List.set_cons_succ]
            refine ho_val (v := ?_) 8 (some 52) rfl rfl (by kernel_rfl) (by kernel_rfl) (by kernel_rfl) (fun _ _ _ h => h) (by kernel_rfl) (fun w hSw => ?_) (by assumption) ?_
            rotate_left
            · ((try dsimp only at hSw); go_simp; try with_reducible rfl)
            simp only [Act.put, List.setIfInBounds_toArray, List.set_cons_zero, List.set_cons_succ]
            refine ho_val (v := ?_) 9 (some 53) rfl rfl (by kernel_rfl) (by kernel_rfl) (by kernel_rfl) (fun _ _ _ h => h) (by kernel_rfl) (fun w hSw => ?_) (by assumption) ?_
            rotate_left
            · ((try dsimp only at hSw); go_simp; try with_reducible rfl)
            simp only [Act.put, List.setIfInBounds_toArray, List.set_cons_zero, List.set_cons_succ]
            refine ho_val (v := ?_) 10 (some 54) rfl rfl (by kernel_rfl) (by kernel_rfl) (by kernel_rfl) (fun _ _ _ h => h) (by kernel_rfl) (fun w hSw => ?_) (by assumption) ?_
            rotate_left
            · ((try dsimp only at hSw); go_simp; try with_reducible rfl)
            simp only [Act.put, List.setIfInBounds_toArray, List.set_cons_zero, List.set_cons_succ]
            refine ho_val (v := ?_) 11 (some 55) rfl rfl (by kernel_rfl) (by kernel_rfl) (by kernel_rfl) (fun _ _ _ h => h) (by kernel_rfl) (fun w hSw => ?_) (by assumption) ?_
            rotate_left
            · ((try dsimp only at hSw); go_simp; try with_reducible rfl)
            simp only [Act.put, List.setIfInBounds_toArray, List.set_cons_zero, List.set_cons_succ]
            refine ho_val (v := ?_) 12 (some 56) rfl rfl (by kernel_rfl) (by kernel_rfl) (by kernel_rfl) (fun _ _ _ h => h) (by kernel_rfl) (fun w hSw => ?_) (by assumption) ?_
            rotate_left
            · ((try dsimp only at hSw); go_simp; try with_reducible rfl)
            simp only [Act.put, List.setIfInBounds_toArray, List.set_cons_zero, List.set_cons_succ]
            refine wpAnyH_done (by kernel_rfl) ?_ _
            clear hHeld RD
            obtain ⟨W1, hW1⟩ : ∃ V, World.drew wr = V := ⟨_, rfl⟩
            have hr1 := HR.out.drew
            rw [hW1] at hr1 ⊢
            have HR1 := Lib.hid hr1
            clear hW1 hr1
            have a3 : W1.cell? ⟨w.heap.size + 1, 0, none⟩ = some (.string p.key) := HR1.out.pbx.cell 0
            have a4 : W1.cell? ⟨w.heap.size + 1, 1, none⟩ = some (.string p.value) := HR1.out.pbx.cell 1
            have a5 : W1.cell? ⟨w.heap.size + 1, 2, none⟩ = some (.bool p.gone) := HR1.out.pbx.cell 2
            go_upto_region 12 with ((with_reducible refine pick (some 60) ?_); refine wpList_append_lst prE 69 rfl _ _ _ rfl Try.underlying25 info_pair rfl (w.heap.size + 3) _ _ M rfl (HR1.out.own.below ((Below.refl _ _).alloc (Nat.le_refl _) _)) W1.heap.size 0 1 1 [p] rfl (Sl.new_ prE W1 _ (p) _ rfl) _ rfl (M ++ [p]) rfl (by unfold maxLen; (try simp only [List.length_append, List.length_cons, List.length_nil]); omega) (by (try simp only [List.length_append, List.length_cons, List.length_nil]); omega) (by have := HR1.out.siz; simp; omega) ?_; intro v2 w2 ho2 hg2 _ _; have HR2 := Lib.hid (Wd.app (x := p) HR1.out hg2 ho2 rfl); clear ho2 hg2)
            try change Code.wp _ _ _ _ w2
            clear a3 a4 a5
            have RD2 : Hid (∀ v, Below w2.heap.size w2 v → Below w2.heap.size w2 v ∧ v.cell? ⟨w.heap.size + 1, 0, none⟩ = some (.string p.key) ∧ v.cell? ⟨w.heap.size, 1, none⟩ = some (.slice (some ⟨g, o, none⟩) wn wc) ∧ v.cell? ⟨g, o + k * 3, none⟩ = some (.string x.key)) := Lib.hid fun v hv => ⟨hv, (HR2.out.pbx.below hv).cell 0, (HR2.out.box.below hv).cell 1, ((HD.out.wr.1.below (keeps HR2.out.bel hv)).at_ k x HX.out).2 0 _ rfl⟩
            refine wp_region_held_drew (S := fun v => Below w2.heap.size w2 v ∧ v.cell? ⟨w.heap.size + 1, 0, none⟩ = some (.string p.key) ∧ v.cell? ⟨w.heap.size, 1, none⟩ = some (.slice (some ⟨g, o, none⟩) wn wc) ∧ v.cell? ⟨g, o + k * 3, none⟩ = some (.string x.key)) (by kernel_rfl) (RD2.out _ (Below.drew (Below.refl _ _))) (fun hHeld => ?_)
            refine ho_val (v := ?_) 0 (some 61) rfl rfl (by kernel_rfl) (by kernel_rfl) (by kernel_rfl) (fun _ _ _ h => h) (by kernel_rfl) (fun w hSw => ?_) (by assumption) ?_
            rotate_left
            · ((try dsimp only at hSw); go_simp; try with_reducible rfl)
            simp only [Act.put, List.setIfInBounds_toArray, List.set_cons_zero, List.set_cons_succ]
            refine ho_val (v := ?_) 1 (some 62) rfl rfl (by kernel_rfl) (by kernel_rfl) (by kernel_rfl) (fun _ _ _ h => h) (by kernel_rfl) (fun w hSw => ?_) (by assumption) ?_
            rotate_left
            · ((try dsimp only at hSw); go_simp; try with_reducible rfl)
            simp only [Act.put, List.setIfInBounds_toArray, List.set_cons_zero, List.set_cons_succ]
            refine ho_val (v := ?_) 2 (some 63) rfl rfl (by kernel_rfl) (by kernel_rfl) (by kernel_rfl) (fun _ _ _ h => h) (by kernel_rfl) (fun w hSw => ?_) (by assumption) ?_
            rotate_left
            · ((try dsimp only at hSw); go_simp; try with_reducible rfl)
            simp only [Act.put, List.setIfInBounds_toArray, List.set_cons_zero, List.set_cons_succ]
            refine ho_val (v := ?_) 3 (some 64) rfl rfl (by kernel_rfl) (by kernel_rfl) (by kernel_rfl) (fun _ _ _ h => h) (by kernel_rfl) (fun w hSw => ?_) (by assumption) ?_
            rotate_left
            · ((try dsimp only at hSw); go_simp; try with_reducible rfl)
            simp only [Act.put, List.setIfInBounds_toArray, List.set_cons_zero, List.set_cons_succ]
            refine ho_val (v := ?_) 4 (some 65) rfl rfl (by kernel_rfl) (by kernel_rfl) (by kernel_rfl) (fun _ _ _ h => h) (by kernel_rfl) (fun w hSw => ?_) (by assumption) ?_
            rotate_left
            · ((try dsimp only at hSw); go_simp; try with_reducible rfl)
            simp only [Act.put, List.setIfInBounds_toArray, List.set_cons_zero, List.set_cons_succ]
            refine ho_val (v := ?_) 5 (some 66) rfl rfl (by kernel_rfl) (by kernel_rfl) (by kernel_rfl) (fun _ _ _ h => h) (by kernel_rfl) (fun w hSw => ?_) (by assumption) ?_
            rotate_left
            · ((try dsimp only at hSw); go_simp; try with_reducible rfl)
            simp only [Act.put, List.setIfInBounds_toArray, List.set_cons_zero, List.set_cons_succ]
            refine ho_val (v := ?_) 6 (some 67) rfl rfl (by kernel_rfl) (by kernel_rfl) (by kernel_rfl) (fun _ _ _ h => h) (by kernel_rfl) (fun w hSw => ?_) (by assumption) ?_
            rotate_left
            · ((try dsimp only at hSw); go_simp; try with_reducible rfl)
            simp only [Act.put, List.setIfInBounds_toArray, List.set_cons_zero, List.set_cons_succ]
            refine ho_val (v := ?_) 7 (some 68) rfl rfl (by kernel_rfl) (by kernel_rfl) (by kernel_rfl) (fun _ _ _ h => h) (by kernel_rfl) (fun w hSw => ?_) (by assumption) ?_
            rotate_left
            · ((try dsimp only at hSw); go_simp; try with_reducible rfl)
            simp only [Act.put, List.setIfInBounds_toArray, List.set_cons_zero, List.set_cons_succ]
            refine ho_val (v := ?_) 8 (some 69) rfl rfl (by kernel_rfl) (by kernel_rfl) (by kernel_rfl) (fun _ _ _ h => h) (by kernel_rfl) (fun w hSw => ?_) (by assumption) ?_
            rotate_left
            · ((try dsimp only at hSw); go_simp; try with_reducible rfl)
            simp only [Act.put, List.setIfInBounds_toArray, List.set_cons_zero, List.set_cons_succ]
            refine wpAnyH_done (by kernel_rfl) ?_ _
            clear hHeld RD2
            obtain ⟨W4, hW4⟩ : ∃ V, World.drew w2 = V := ⟨_, rfl⟩
            have hr4 := HR2.out.drew
            rw [hW4] at hr4 ⊢
            have HR4 := Lib.hid hr4
            clear hW4 hr4
            go_wp2_with fail
            go_roundw
            case rel => exact ⟨k + 1, by omega, by go_num, by rw [HM2.out], by rw [HS.out]; exact HR4⟩
            case measure => simp [intOf]; omega
          · have h3 : kl p.key x.key = true := by
              cases h4 : kl p.key x.key with
              | true => rfl
              | false => exact absurd (kl_tri h1 h4) he
            have f1 : Op.bytesLess p.key.toList x.key.toList = true := h3
            have z2 : (x.key.toList == p.key.toList) = false := neq_false he
            obtain ⟨s1, s2⟩ := soP_2 HX.out p hm h1
            rw [hMM, if_pos (by simp [he])] at s2
            have HS := Lib.hid s2
            have HM2 := Lib.hid s1
            clear s1 s2 h1 hMM hm he h3
            have RD : Hid (∀ v, Below wr.heap.size wr v → Below wr.heap.size wr v ∧ v.cell? ⟨w.heap.size + 1, 0, none⟩ = some (.string p.key) ∧ v.cell? ⟨w.heap.size, 1, none⟩ = some (.slice (some ⟨g, o, none⟩) wn wc) ∧ v.cell? ⟨g, o + k * 3, none⟩ = some (.string x.key)) := Lib.hid fun v hv => ⟨hv, (HR.out.pbx.below hv).cell 0, (HR.out.box.below hv).cell 1, ((HD.out.wr.1.below (keeps HR.out.bel hv)).at_ k x HX.out).2 0 _ rfl⟩
            go_wp2_with fail
            refine wp_region_held_drew (S := fun v => Below wr.heap.size wr v ∧ v.cell? ⟨w.heap.size + 1, 0, none⟩ = some (.string p.key) ∧ v.cell? ⟨w.heap.size, 1, none⟩ = some (.slice (some ⟨g, o, none⟩) wn wc) ∧ v.cell? ⟨g, o + k * 3, none⟩ = some (.string x.key)) (by kernel_rfl) (RD.out _ (Below.drew (Below.refl _ _))) (fun hHeld => ?_)
            refine ho_val (v := ?_) 0 (some 44) rfl rfl (by kernel_rfl) (by kernel_rfl) (by kernel_rfl) (fun _ _ _ h => h) (by kernel_rfl) (fun w hSw => ?_) (by assumption) ?_
            rotate_left
            · ((try dsimp only at hSw); go_simp; try with_reducible rfl)
            simp only [Act.put, List.setIfInBounds_toArray, List.set_cons_zero, List.set_cons_succ]
            refine ho_val (v := ?_) 1 (some 45) rfl rfl (by kernel_rfl) (by kernel_rfl) (by kernel_rfl) (fun _ _ _ h => h) (by kernel_rfl) (fun w hSw => ?_) (by assumption) ?_
            rotate_left
            · ((try dsimp only at hSw); go_simp; try with_reducible rfl)
            simp only [Act.put, List.setIfInBounds_toArray, List.set_cons_zero, List.set_cons_succ]
            refine ho_val (v := ?_) 2 (some 46) rfl rfl (by kernel_rfl) (by kernel_rfl) (by kernel_rfl) (fun _ _ _ h => h) (by kernel_rfl) (fun w hSw => ?_) (by assumption) ?_
            rotate_left
            · ((try dsimp only at hSw); go_simp; try with_reducible rfl)
            simp only [Act.put, List.setIfInBounds_toArray, List.set_cons_zero, List.set_cons_succ]
            refine ho_val (v := ?_) 3 (some 47) rfl rfl (by kernel_rfl) (by kernel_rfl) (by kernel_rfl) (fun _ _ _ h => h) (by kernel_rfl) (fun w hSw => ?_) (by assumption) ?_
            rotate_left
            · ((try dsimp only at hSw); go_simp; try with_reducible rfl)
            simp only [Act.put, List.setIfInBounds_toArray, List.set_cons_zero, List.set_cons_succ]
            refine ho_val (v := ?_) 4 (some 48) rfl rfl (by kernel_rfl) (by kernel_rfl) (by kernel_rfl) (fun _ _ _ h => h) (by kernel_rfl) (fun w hSw => ?_) (by assumption) ?_
            rotate_left
            · ((try dsimp only at hSw); go_simp; try with_reducible rfl)
            simp only [Act.put, List.setIfInBounds_toArray, List.set_cons_zero, List.set_cons_succ]
            refine ho_val (v := ?_) 5 (some 49) rfl rfl (by kernel_rfl) (by kernel_rfl) (by kernel_rfl) (fun _ _ _ h => h) (by kernel_rfl) (fun w hSw => ?_) (by assumption) ?_
            rotate_left
            · ((try dsimp only at hSw); go_simp; try with_reducible rfl)
            simp only [Act.put, List.setIfInBounds_toArray, List.set_cons_zero, List.set_cons_succ]
            refine ho_val (v := ?_) 6 (some 50) rfl rfl (by kernel_rfl) (by kernel_rfl) (by kernel_rfl) (fun _ _ _ h => h) (by kernel_rfl) (fun w hSw => ?_) (by assumption) ?_
            rotate_left
            · ((try dsimp only at hSw); go_simp; try with_reducible rfl)
            simp only [Act.put, List.setIfInBounds_toArray, List.set_cons_zero, List.set_cons_succ]
            refine ho_val (v := ?_) 7 (some 51) rfl rfl (by kernel_rfl) (by kernel_rfl) (by kernel_rfl) (fun _ _ _ h => h) (by kernel_rfl) (fun w hSw => ?_) (by assumption) ?_
            rotate_left
            · ((try dsimp only at hSw); go_simp; try with_reducible rfl)
            simp only [Act.put, List.setIfInBounds_toArray, List.set_cons_zero, List.set_cons_succ]
            refine ho_val (v := ?_) 8 (some 52) rfl rfl (by kernel_rfl) (by kernel_rfl) (by kernel_rfl) (fun _ _ _ h => h) (by kernel_rfl) (fun w hSw => ?_) (by assumption) ?_
            rotate_left
            · ((try dsimp only at hSw); go_simp; try with_reducible rfl)
            simp only [Act.put, List.setIfInBounds_toArray, List.set_cons_zero, List.set_cons_succ]
            refine ho_val (v := ?_) 9 (some 53) rfl rfl (by kernel_rfl) (by kernel_rfl) (by kernel_rfl) (fun _ _ _ h => h) (by kernel_rfl) (fun w hSw => ?_) (by assumption) ?_
            rotate_left
            · ((try dsimp only at hSw); go_simp; try with_reducible rfl)
            simp only [Act.put, List.setIfInBounds_toArray, List.set_cons_zero, List.set_cons_succ]
            refine ho_val (v := ?_) 10 (some 54) rfl rfl (by kernel_rfl) (by kernel_rfl) (by kernel_rfl) (fun _ _ _ h => h) (by kernel_rfl) (fun w hSw => ?_) (by assumption) ?_
            rotate_left
            · ((try dsimp only at hSw); go_simp; try with_reducible rfl)
            simp only [Act.put, List.setIfInBounds_toArray, List.set_cons_zero, List.set_cons_succ]
            refine ho_val (v := ?_) 11 (some 55) rfl rfl (by kernel_rfl) (by kernel_rfl) (by kernel_rfl) (fun _ _ _ h => h) (by kernel_rfl) (fun w hSw => ?_) (by assumption) ?_
            rotate_left
            · ((try dsimp only at hSw); go_simp; try with_reducible rfl)
            simp only [Act.put, List.setIfInBounds_toArray, List.set_cons_zero, List.set_cons_succ]
            refine ho_val (v := ?_) 12 (some 56) rfl rfl (by kernel_rfl) (by kernel_rfl) (by kernel_rfl) (fun _ _ _ h => h) (by kernel_rfl) (fun w hSw => ?_) (by assumption) ?_
            rotate_left
            · ((try dsimp only at hSw); go_simp; try with_reducible rfl)
            simp only [Act.put, List.setIfInBounds_toArray, List.set_cons_zero, List.set_cons_succ]
            refine wpAnyH_done (by kernel_rfl) ?_ _
            clear hHeld RD
            obtain ⟨W1, hW1⟩ : ∃ V, World.drew wr = V := ⟨_, rfl⟩
            have hr1 := HR.out.drew
            rw [hW1] at hr1 ⊢
            have HR1 := Lib.hid hr1
            clear hW1 hr1
            have a3 : W1.cell? ⟨w.heap.size + 1, 0, none⟩ = some (.string p.key) := HR1.out.pbx.cell 0
            have a4 : W1.cell? ⟨w.heap.size + 1, 1, none⟩ = some (.string p.value) := HR1.out.pbx.cell 1
            have a5 : W1.cell? ⟨w.heap.size + 1, 2, none⟩ = some (.bool p.gone) := HR1.out.pbx.cell 2
            go_upto_region 12 with ((with_reducible refine pick (some 60) ?_); refine wpList_append_lst prE 69 rfl _ _ _ rfl Try.underlying25 info_pair rfl (w.heap.size + 3) _ _ M rfl (HR1.out.own.below ((Below.refl _ _).alloc (Nat.le_refl _) _)) W1.heap.size 0 1 1 [p] rfl (Sl.new_ prE W1 _ (p) _ rfl) _ rfl (M ++ [p]) rfl (by unfold maxLen; (try simp only [List.length_append, List.length_cons, List.length_nil]); omega) (by (try simp only [List.length_append, List.length_cons, List.length_nil]); omega) (by have := HR1.out.siz; simp; omega) ?_; intro v2 w2 ho2 hg2 _ _; have HR2 := Lib.hid (Wd.app (x := p) HR1.out hg2 ho2 rfl); clear ho2 hg2)
            try change Code.wp _ _ _ _ w2
            clear a3 a4 a5
            have RD2 : Hid (∀ v, Below w2.heap.size w2 v → Below w2.heap.size w2 v ∧ v.cell? ⟨w.heap.size + 1, 0, none⟩ = some (.string p.key) ∧ v.cell? ⟨w.heap.size, 1, none⟩ = some (.slice (some ⟨g, o, none⟩) wn wc) ∧ v.cell? ⟨g, o + k * 3, none⟩ = some (.string x.key)) := Lib.hid fun v hv => ⟨hv, (HR2.out.pbx.below hv).cell 0, (HR2.out.box.below hv).cell 1, ((HD.out.wr.1.below (keeps HR2.out.bel hv)).at_ k x HX.out).2 0 _ rfl⟩
            refine wp_region_held_drew (S := fun v => Below w2.heap.size w2 v ∧ v.cell? ⟨w.heap.size + 1, 0, none⟩ = some (.string p.key) ∧ v.cell? ⟨w.heap.size, 1, none⟩ = some (.slice (some ⟨g, o, none⟩) wn wc) ∧ v.cell? ⟨g, o + k * 3, none⟩ = some (.string x.key)) (by kernel_rfl) (RD2.out _ (Below.drew (Below.refl _ _))) (fun hHeld => ?_)
            refine ho_val (v := ?_) 0 (some 61) rfl rfl (by kernel_rfl) (by kernel_rfl) (by kernel_rfl) (fun _ _ _ h => h) (by kernel_rfl) (fun w hSw => ?_) (by assumption) ?_
            rotate_left
            · ((try dsimp only at hSw); go_simp; try with_reducible rfl)
            simp only [Act.put, List.setIfInBounds_toArray, List.set_cons_zero, List.set_cons_succ]
            refine ho_val (v := ?_) 1 (some 62) rfl rfl (by kernel_rfl) (by kernel_rfl) (by kernel_rfl) (fun _ _ _ h => h) (by kernel_rfl) (fun w hSw => ?_) (by assumption) ?_
            rotate_left
            · ((try dsimp only at hSw); go_simp; try with_reducible rfl)
            simp only [Act.put, List.setIfInBounds_toArray, List.set_cons_zero, List.set_cons_succ]
            refine ho_val (v := ?_) 2 (some 63) rfl rfl (by kernel_rfl) (by kernel_rfl) (by kernel_rfl) (fun _ _ _ h => h) (by kernel_rfl) (fun w hSw => ?_) (by assumption) ?_
            rotate_left
            · ((try dsimp only at hSw); go_simp; try with_reducible rfl)
            simp only [Act.put, List.setIfInBounds_toArray, List.set_cons_zero, List.set_cons_succ]
            refine ho_val (v := ?_) 3 (some 64) rfl rfl (by kernel_rfl) (by kernel_rfl) (by kernel_rfl) (fun _ _ _ h => h) (by kernel_rfl) (fun w hSw => ?_) (by assumption) ?_
            rotate_left
            · ((try dsimp only at hSw); go_simp; try with_reducible rfl)
            simp only [Act.put, List.setIfInBounds_toArray, List.set_cons_zero, List.set_cons_succ]
            refine ho_val (v := ?_) 4 (some 65) rfl rfl (by kernel_rfl) (by kernel_rfl) (by kernel_rfl) (fun _ _ _ h => h) (by kernel_rfl) (fun w hSw => ?_) (by assumption) ?_
            rotate_left
            · ((try dsimp only at hSw); go_simp; try with_reducible rfl)
            simp only [Act.put, List.setIfInBounds_toArray, List.set_cons_zero, List.set_cons_succ]
            refine ho_val (v := ?_) 5 (some 66) rfl rfl (by kernel_rfl) (by kernel_rfl) (by kernel_rfl) (fun _ _ _ h => h) (by kernel_rfl) (fun w hSw => ?_) (by assumption) ?_
            rotate_left
            · ((try dsimp only at hSw); go_simp; try with_reducible rfl)
            simp only [Act.put, List.setIfInBounds_toArray, List.set_cons_zero, List.set_cons_succ]
            refine ho_val (v := ?_) 6 (some 67) rfl rfl (by kernel_rfl) (by kernel_rfl) (by kernel_rfl) (fun _ _ _ h => h) (by kernel_rfl) (fun w hSw => ?_) (by assumption) ?_
            rotate_left
            · ((try dsimp only at hSw); go_simp; try with_reducible rfl)
            simp only [Act.put, List.setIfInBounds_toArray, List.set_cons_zero, List.set_cons_succ]
            refine ho_val (v := ?_) 7 (some 68) rfl rfl (by kernel_rfl) (by kernel_rfl) (by kernel_rfl) (fun _ _ _ h => h) (by kernel_rfl) (fun w hSw => ?_) (by assumption) ?_
            rotate_left
            · ((try dsimp only at hSw); go_simp; try with_reducible rfl)
            simp only [Act.put, List.setIfInBounds_toArray, List.set_cons_zero, List.set_cons_succ]
            refine ho_val (v := ?_) 8 (some 69) rfl rfl (by kernel_rfl) (by kernel_rfl) (by kernel_rfl) (fun _ _ _ h => h) (by kernel_rfl) (fun w hSw => ?_) (by assumption) ?_
            rotate_left
            · ((try dsimp only at hSw); go_simp; try with_reducible rfl)
            simp only [Act.put, List.setIfInBounds_toArray, List.set_cons_zero, List.set_cons_succ]
            refine wpAnyH_done (by kernel_rfl) ?_ _
            clear hHeld RD2
            obtain ⟨W4, hW4⟩ : ∃ V, World.drew w2 = V := ⟨_, rfl⟩
            have hr4 := HR2.out.drew
            rw [hW4] at hr4 ⊢
            have HR4 := Lib.hid hr4
            clear hW4 hr4
            have y0 : W4.cell? ⟨g, o + k * 3, none⟩ = some (.string x.key) := ((HD.out.wr.1.below HR4.out.bel).at_ k x HX.out).2 0 _ rfl
            have y1 : W4.cell? ⟨g, o + k * 3 + 1, none⟩ = some (.string x.value) := ((HD.out.wr.1.below HR4.out.bel).at_ k x HX.out).2 1 _ rfl
            have y2 : W4.cell? ⟨g, o + k * 3 + 2, none⟩ = some (.bool x.gone) := ((HD.out.wr.1.below HR4.out.bel).at_ k x HX.out).2 2 _ rfl
            have a1 : W4.cell? ⟨w.heap.size, 1, none⟩ = some (.slice (some ⟨g, o, none⟩) wn wc) := HR4.out.box.cell 1
            go_wp2_with ((with_reducible refine pick (some 77) ?_); refine wpList_append_lst prE 69 rfl _ _ _ rfl Try.underlying25 info_pair rfl (w.heap.size + 3) _ _ (M ++ [p]) rfl (HR4.out.own.below ((Below.refl _ _).alloc (Nat.le_refl _) _)) W4.heap.size 0 1 1 [x] rfl (Sl.new_ prE W4 _ (x) _ rfl) _ rfl ((M ++ [p]) ++ [x]) rfl (by unfold maxLen; (try simp only [List.length_append, List.length_cons, List.length_nil]); omega) (by (try simp only [List.length_append, List.length_cons, List.length_nil]); omega) (by have := HR4.out.siz; simp; omega) ?_; intro v5 w5 ho5 hg5 _ _; have HR5 := Lib.hid (Wd.app (x := x) HR4.out hg5 ho5 rfl); clear ho5 hg5)
            go_roundw
            case rel => exact ⟨k + 1, by omega, by go_num, by rw [HM2.out], by rw [HS.out]; exact HR5⟩
            case measure => simp [intOf]; omega
      | true =>
        obtain ⟨s0, s1, s2⟩ := soP_3 HRI.out HX.out p hm
        have z2 : (x.key.toList == p.key.toList) = false := neq_false s0
        rw [hMM] at s2
        have HS := Lib.hid s2
        have HM2 := Lib.hid s1
        clear s0 s1 s2 hMM hm
        have RD : Hid (∀ v, Below wr.heap.size wr v → Below wr.heap.size wr v ∧ v.cell? ⟨w.heap.size + 1, 0, none⟩ = some (.string p.key) ∧ v.cell? ⟨w.heap.size, 1, none⟩ = some (.slice (some ⟨g, o, none⟩) wn wc) ∧ v.cell? ⟨g, o + k * 3, none⟩ = some (.string x.key)) := Lib.hid fun v hv => ⟨hv, (HR.out.pbx.below hv).cell 0, (HR.out.box.below hv).cell 1, ((HD.out.wr.1.below (keeps HR.out.bel hv)).at_ k x HX.out).2 0 _ rfl⟩
        go_wp2_with fail
        refine wp_region_held_drew (S := fun v => Below wr.heap.size wr v ∧ v.cell? ⟨w.heap.size + 1, 0, none⟩ = some (.string p.key) ∧ v.cell? ⟨w.heap.size, 1, none⟩ = some (.slice (some ⟨g, o, none⟩) wn wc) ∧ v.cell? ⟨g, o + k * 3, none⟩ = some (.string x.key)) (by kernel_rfl) (RD.out _ (Below.drew (Below.refl _ _))) (fun hHeld => ?_)
        refine ho_val (v := ?_) 0 (some 44) rfl rfl (by kernel_rfl) (by kernel_rfl) (by kernel_rfl) (fun _ _ _ h => h) (by kernel_rfl) (fun w hSw => ?_) (by assumption) ?_
        rotate_left
        · ((try dsimp only at hSw); go_simp; try with_reducible rfl)
        simp only [Act.put, List.setIfInBounds_toArray, List.set_cons_zero, List.set_cons_succ]
        refine ho_val (v := ?_) 1 (some 45) rfl rfl (by kernel_rfl) (by kernel_rfl) (by kernel_rfl) (fun _ _ _ h => h) (by kernel_rfl) (fun w hSw => ?_) (by assumption) ?_
        rotate_left
        · ((try dsimp only at hSw); go_simp; try with_reducible rfl)
        simp only [Act.put, List.setIfInBounds_toArray, List.set_cons_zero, List.set_cons_succ]
        refine ho_val (v := ?_) 2 (some 46) rfl rfl (by kernel_rfl) (by kernel_rfl) (by kernel_rfl) (fun _ _ _ h => h) (by kernel_rfl) (fun w hSw => ?_) (by assumption) ?_
        rotate_left
        · ((try dsimp only at hSw); go_simp; try with_reducible rfl)
        simp only [Act.put, List.setIfInBounds_toArray, List.set_cons_zero, List.set_cons_succ]
        refine ho_skip 3 (some 47) rfl rfl (by kernel_rfl) (by kernel_rfl) (by kernel_rfl) (fun _ _ _ h => h) (by kernel_rfl) (by assumption) ?_; simp only [Act.put, List.setIfInBounds_toArray, List.set_cons_zero, List.set_cons_succ]
        refine ho_skip 4 (some 48) rfl rfl (by kernel_rfl) (by kernel_rfl) (by kernel_rfl) (fun _ _ _ h => h) (by kernel_rfl) (by assumption) ?_; simp only [Act.put, List.setIfInBounds_toArray, List.set_cons_zero, List.set_cons_succ]
        refine ho_skip 5 (some 49) rfl rfl (by kernel_rfl) (by kernel_rfl) (by kernel_rfl) (fun _ _ _ h => h) (by kernel_rfl) (by assumption) ?_; simp only [Act.put, List.setIfInBounds_toArray, List.set_cons_zero, List.set_cons_succ]
        refine ho_skip 6 (some 50) rfl rfl (by kernel_rfl) (by kernel_rfl) (by kernel_rfl) (fun _ _ _ h => h) (by kernel_rfl) (by assumption) ?_; simp only [Act.put, List.setIfInBounds_toArray, List.set_cons_zero, List.set_cons_succ]
        refine ho_skip 7 (some 51) rfl rfl (by kernel_rfl) (by kernel_rfl) (by kernel_rfl) (fun _ _ _ h => h) (by kernel_rfl) (by assumption) ?_; simp only [Act.put, List.setIfInBounds_toArray, List.set_cons_zero, List.set_cons_succ]
        refine ho_skip 8 (some 52) rfl rfl (by kernel_rfl) (by kernel_rfl) (by kernel_rfl) (fun _ _ _ h => h) (by kernel_rfl) (by assumption) ?_; simp only [Act.put, List.setIfInBounds_toArray, List.set_cons_zero, List.set_cons_succ]
        refine ho_skip 9 (some 53) rfl rfl (by kernel_rfl) (by kernel_rfl) (by kernel_rfl) (fun _ _ _ h => h) (by kernel_rfl) (by assumption) ?_; simp only [Act.put, List.setIfInBounds_toArray, List.set_cons_zero, List.set_cons_succ]
        refine ho_skip 10 (some 54) rfl rfl (by kernel_rfl) (by kernel_rfl) (by kernel_rfl) (fun _ _ _ h => h) (by kernel_rfl) (by assumption) ?_; simp only [Act.put, List.setIfInBounds_toArray, List.set_cons_zero, List.set_cons_succ]
        refine ho_skip 11 (some 55) rfl rfl (by kernel_rfl) (by kernel_rfl) (by kernel_rfl) (fun _ _ _ h => h) (by kernel_rfl) (by assumption) ?_; simp only [Act.put, List.setIfInBounds_toArray, List.set_cons_zero, List.set_cons_succ]
        refine ho_val (v := ?_) 12 (some 56) rfl rfl (by kernel_rfl) (by kernel_rfl) (by kernel_rfl) (fun _ _ _ h => h) (by kernel_rfl) (fun w hSw => ?_) (by assumption) ?_
        rotate_left
        · ((try dsimp only at hSw); go_simp; try with_reducible rfl)
        simp only [Act.put, List.setIfInBounds_toArray, List.set_cons_zero, List.set_cons_succ]
        refine wpAnyH_done (by kernel_rfl) ?_ _
        clear hHeld RD
        obtain ⟨W1, hW1⟩ : ∃ V, World.drew wr = V := ⟨_, rfl⟩
        have hr1 := HR.out.drew
        rw [hW1] at hr1 ⊢
        have HR1 := Lib.hid hr1
        clear hW1 hr1
        have RD2 : Hid (∀ v, Below W1.heap.size W1 v → Below W1.heap.size W1 v ∧ v.cell? ⟨w.heap.size + 1, 0, none⟩ = some (.string p.key) ∧ v.cell? ⟨w.heap.size, 1, none⟩ = some (.slice (some ⟨g, o, none⟩) wn wc) ∧ v.cell? ⟨g, o + k * 3, none⟩ = some (.string x.key)) := Lib.hid fun v hv => ⟨hv, (HR1.out.pbx.below hv).cell 0, (HR1.out.box.below hv).cell 1, ((HD.out.wr.1.below (keeps HR1.out.bel hv)).at_ k x HX.out).2 0 _ rfl⟩
        go_wp2_with fail
        refine wp_region_held_drew (S := fun v => Below W1.heap.size W1 v ∧ v.cell? ⟨w.heap.size + 1, 0, none⟩ = some (.string p.key) ∧ v.cell? ⟨w.heap.size, 1, none⟩ = some (.slice (some ⟨g, o, none⟩) wn wc) ∧ v.cell? ⟨g, o + k * 3, none⟩ = some (.string x.key)) (by kernel_rfl) (RD2.out _ (Below.drew (Below.refl _ _))) (fun hHeld => ?_)
        refine ho_val (v := ?_) 0 (some 61) rfl rfl (by kernel_rfl) (by kernel_rfl) (by kernel_rfl) (fun _ _ _ h => h) (by kernel_rfl) (fun w hSw => ?_) (by assumption) ?_
        rotate_left
        · ((try dsimp only at hSw); go_simp; try with_reducible rfl)
        simp only [Act.put, List.setIfInBounds_toArray, List.set_cons_zero, List.set_cons_succ]
        refine ho_val (v := ?_) 1 (some 62) rfl rfl (by kernel_rfl) (by kernel_rfl) (by kernel_rfl) (fun _ _ _ h => h) (by kernel_rfl) (fun w hSw => ?_) (by assumption) ?_
        rotate_left
        · ((try dsimp only at hSw); go_simp; try with_reducible rfl)
        simp only [Act.put, List.setIfInBounds_toArray, List.set_cons_zero, List.set_cons_succ]
        refine ho_val (v := ?_) 2 (some 63) rfl rfl (by kernel_rfl) (by kernel_rfl) (by kernel_rfl) (fun _ _ _ h => h) (by kernel_rfl) (fun w hSw => ?_) (by assumption) ?_
        rotate_left
        · ((try dsimp only at hSw); go_simp; try with_reducible rfl)
        simp only [Act.put, List.setIfInBounds_toArray, List.set_cons_zero, List.set_cons_succ]
        refine ho_val (v := ?_) 3 (some 64) rfl rfl (by kernel_rfl) (by kernel_rfl) (by kernel_rfl) (fun _ _ _ h => h) (by kernel_rfl) (fun w hSw => ?_) (by assumption) ?_
        rotate_left
        · ((try dsimp only at hSw); go_simp; try with_reducible rfl)
        simp only [Act.put, List.setIfInBounds_toArray, List.set_cons_zero, List.set_cons_succ]
        refine ho_val (v := ?_) 4 (some 65) rfl rfl (by kernel_rfl) (by kernel_rfl) (by kernel_rfl) (fun _ _ _ h => h) (by kernel_rfl) (fun w hSw => ?_) (by assumption) ?_
        rotate_left
        · ((try dsimp only at hSw); go_simp; try with_reducible rfl)
        simp only [Act.put, List.setIfInBounds_toArray, List.set_cons_zero, List.set_cons_succ]
        refine ho_val (v := ?_) 5 (some 66) rfl rfl (by kernel_rfl) (by kernel_rfl) (by kernel_rfl) (fun _ _ _ h => h) (by kernel_rfl) (fun w hSw => ?_) (by assumption) ?_
        rotate_left
        · ((try dsimp only at hSw); go_simp; try with_reducible rfl)
        simp only [Act.put, List.setIfInBounds_toArray, List.set_cons_zero, List.set_cons_succ]
        refine ho_val (v := ?_) 6 (some 67) rfl rfl (by kernel_rfl) (by kernel_rfl) (by kernel_rfl) (fun _ _ _ h => h) (by kernel_rfl) (fun w hSw => ?_) (by assumption) ?_
        rotate_left
        · ((try dsimp only at hSw); go_simp; try with_reducible rfl)
        simp only [Act.put, List.setIfInBounds_toArray, List.set_cons_zero, List.set_cons_succ]
        refine ho_val (v := ?_) 7 (some 68) rfl rfl (by kernel_rfl) (by kernel_rfl) (by kernel_rfl) (fun _ _ _ h => h) (by kernel_rfl) (fun w hSw => ?_) (by assumption) ?_
        rotate_left
        · ((try dsimp only at hSw); go_simp; try with_reducible rfl)
        simp only [Act.put, List.setIfInBounds_toArray, List.set_cons_zero, List.set_cons_succ]
        refine ho_val (v := ?_) 8 (some 69) rfl rfl (by kernel_rfl) (by kernel_rfl) (by kernel_rfl) (fun _ _ _ h => h) (by kernel_rfl) (fun w hSw => ?_) (by assumption) ?_
        rotate_left
        · ((try dsimp only at hSw); go_simp; try with_reducible rfl)
        simp only [Act.put, List.setIfInBounds_toArray, List.set_cons_zero, List.set_cons_succ]
        refine wpAnyH_done (by kernel_rfl) ?_ _
        clear hHeld RD2
        obtain ⟨W4, hW4⟩ : ∃ V, World.drew W1 = V := ⟨_, rfl⟩
        have hr4 := HR1.out.drew
        rw [hW4] at hr4 ⊢
        have HR4 := Lib.hid hr4
        clear hW4 hr4
        have y0 : W4.cell? ⟨g, o + k * 3, none⟩ = some (.string x.key) := ((HD.out.wr.1.below HR4.out.bel).at_ k x HX.out).2 0 _ rfl
        have y1 : W4.cell? ⟨g, o + k * 3 + 1, none⟩ = some (.string x.value) := ((HD.out.wr.1.below HR4.out.bel).at_ k x HX.out).2 1 _ rfl
        have y2 : W4.cell? ⟨g, o + k * 3 + 2, none⟩ = some (.bool x.gone) := ((HD.out.wr.1.below HR4.out.bel).at_ k x HX.out).2 2 _ rfl
        have a1 : W4.cell? ⟨w.heap.size, 1, none⟩ = some (.slice (some ⟨g, o, none⟩) wn wc) := HR4.out.box.cell 1
        go_wp2_with ((with_reducible refine pick (some 77) ?_); refine wpList_append_lst prE 69 rfl _ _ _ rfl Try.underlying25 info_pair rfl (w.heap.size + 3) _ _ M rfl (HR4.out.own.below ((Below.refl _ _).alloc (Nat.le_refl _) _)) W4.heap.size 0 1 1 [x] rfl (Sl.new_ prE W4 _ (x) _ rfl) _ rfl (M ++ [x]) rfl (by unfold maxLen; (try simp only [List.length_append, List.length_cons, List.length_nil]); omega) (by (try simp only [List.length_append, List.length_cons, List.length_nil]); omega) (by have := HR4.out.siz; simp; omega) ?_; intro v5 w5 ho5 hg5 _ _; have HR5 := Lib.hid (Wd.app (x := x) HR4.out hg5 ho5 rfl); clear ho5 hg5)
        go_roundw
        case rel => exact ⟨k + 1, by omega, by go_num, by rw [HM2.out], by rw [HS.out]; exact HR5⟩
        case measure => simp [intOf]; omega
    · obtain rfl : k = wn := by omega
      have e : s.wr.take k = s.wr := List.take_of_length_le (by rw [HLN.out]; exact Nat.le_refl _)
      rw [e] at HR hml
      try rw [e]
      have hend := soP_end p s.wr
      obtain ⟨M, hMM⟩ : ∃ M, soP p s.wr = M := ⟨_, rfl⟩
      rw [hMM] at HR hml hend
      cases hm : metL p.key s.wr with
      | true =>
        have HPUT : Hid (writeW s.base s.wr p = M) := Lib.hid (by rw [HPUT0.out, hend, hm]; simp)
        clear hend hm hMM e
        obtain ⟨h, hv, hss, hbk⟩ := own_sl HR.out.own
        subst hv
        have HSS := Lib.hid hss
        have HBK := Lib.hid hbk
        have b2 : wr.cell? ⟨w.heap.size, 1, none⟩ = some (.slice wa k wc) := HR.out.box.cell 1
        have bf : wr.frozen? ⟨w.heap.size, 1, none⟩ = false := HR.out.box.frozen 1
        clear hss hbk
        go_upto_region 18 with (fail)
        obtain ⟨W5, hW5⟩ : ∃ W5, wr.setCell ⟨w.heap.size, 1, none⟩ (.slice h.a h.n h.c) = W5 := ⟨_, rfl⟩
        have q1 : Blk W5 w.heap.size #[.slice b.a b.n b.c, .slice h.a h.n h.c, .slice rd.a rd.n rd.c, .slice rg.a rg.n rg.c] 32 := by rw [← hW5]; exact HR.out.box.set_ 1 _
        have q2 : Blk W5 (w.heap.size + 2) zeroV 32 := by rw [← hW5]; exact HR.out.res.far (by simp) _
        have q3 : Below w.heap.size w W5 := by rw [← hW5]; exact HR.out.bel.setCell (Nat.le_refl _) _
        have q4 : Ss prE W5 h M := by
          rw [← hW5]
          exact ⟨sl_far HSS.out.1 (fun bb oo hh => by have := HBK.out bb oo hh; simp; omega) _, HSS.out.2⟩
        change Code.wp _ _ _ _ (wr.setCell ⟨w.heap.size, 1, none⟩ (.slice h.a h.n h.c))
        rw [hW5]
        have HW4 := Lib.hid q4
        have HQ1 := Lib.hid q1
        have HQ2 := Lib.hid q2
        have HQ3 := Lib.hid q3
        clear q1 q2 q3 q4 hW5 b2 bf
        obtain ⟨d0, d1, d2, d3⟩ : W5.cell? ⟨w.heap.size, 0, none⟩ = some (.slice b.a b.n b.c) ∧ W5.cell? ⟨w.heap.size, 1, none⟩ = some (.slice h.a h.n h.c) ∧ W5.cell? ⟨w.heap.size, 2, none⟩ = some (.slice rd.a rd.n rd.c) ∧ W5.cell? ⟨w.heap.size, 3, none⟩ = some (.slice rg.a rg.n rg.c) := ⟨HQ1.out.cell 0, HQ1.out.cell 1, HQ1.out.cell 2, HQ1.out.cell 3⟩
        obtain ⟨r0, r1, r2, r3⟩ : W5.cell? ⟨w.heap.size + 2, 0, none⟩ = some (.slice none 0 0) ∧ W5.cell? ⟨w.heap.size + 2, 1, none⟩ = some (.slice none 0 0) ∧ W5.cell? ⟨w.heap.size + 2, 2, none⟩ = some (.slice none 0 0) ∧ W5.cell? ⟨w.heap.size + 2, 3, none⟩ = some (.slice none 0 0) := ⟨HQ2.out.cell 0, HQ2.out.cell 1, HQ2.out.cell 2, HQ2.out.cell 3⟩
        obtain ⟨f0, f1, f2, f3⟩ : W5.frozen? ⟨w.heap.size + 2, 0, none⟩ = false ∧ W5.frozen? ⟨w.heap.size + 2, 1, none⟩ = false ∧ W5.frozen? ⟨w.heap.size + 2, 2, none⟩ = false ∧ W5.frozen? ⟨w.heap.size + 2, 3, none⟩ = false := ⟨HQ2.out.frozen 0, HQ2.out.frozen 1, HQ2.out.frozen 2, HQ2.out.frozen 3⟩
        go_region_law (fail)
        all_goals go_wp2_with fail
        have hz : Blk ((((W5.setCell ⟨w.heap.size + 2, 0, none⟩ (.slice b.a b.n b.c)).setCell ⟨w.heap.size + 2, 1, none⟩ (.slice h.a h.n h.c)).setCell ⟨w.heap.size + 2, 2, none⟩ (.slice rd.a rd.n rd.c)).setCell ⟨w.heap.size + 2, 3, none⟩ (.slice rg.a rg.n rg.c)).drew (w.heap.size + 2) #[.slice b.a b.n b.c, .slice h.a h.n h.c, .slice rd.a rd.n rd.c, .slice rg.a rg.n rg.c] 32 := ((((HQ2.out.set_ 0 (.slice b.a b.n b.c)).set_ 1 (.slice h.a h.n h.c)).set_ 2 (.slice rd.a rd.n rd.c)).set_ 3 (.slice rg.a rg.n rg.c)).drew
        have hbz : Below w.heap.size w ((((W5.setCell ⟨w.heap.size + 2, 0, none⟩ (.slice b.a b.n b.c)).setCell ⟨w.heap.size + 2, 1, none⟩ (.slice h.a h.n h.c)).setCell ⟨w.heap.size + 2, 2, none⟩ (.slice rd.a rd.n rd.c)).setCell ⟨w.heap.size + 2, 3, none⟩ (.slice rg.a rg.n rg.c)).drew := ((((HQ3.out.setCell (by simp) _).setCell (by simp) _).setCell (by simp) _).setCell (by simp) _).drew
        refine bodyPost_ret (v := .tuple #[.bool true, .agg #[.slice b.a b.n b.c, .slice h.a h.n h.c, .slice rd.a rd.n rd.c, .slice rg.a rg.n rg.c]]) (results_tmp1_row rfl _ _ (w.heap.size + 2) 32 _ (0, 0) _ rfl (.bool true) rfl hz Try.underlying32 rfl info_view) rfl ?_
        have hne : ∀ (q : Nat) (bb oo : Nat), h.a = some ⟨bb, oo, none⟩ → bb ≠ (⟨w.heap.size + 2, q, none⟩ : Addr).block := fun q bb oo hh => by have := HBK.out bb oo hh; simp; omega
        have hfin : Ss prE ((((W5.setCell ⟨w.heap.size + 2, 0, none⟩ (.slice b.a b.n b.c)).setCell ⟨w.heap.size + 2, 1, none⟩ (.slice h.a h.n h.c)).setCell ⟨w.heap.size + 2, 2, none⟩ (.slice rd.a rd.n rd.c)).setCell ⟨w.heap.size + 2, 3, none⟩ (.slice rg.a rg.n rg.c)).drew h M := Ss.below (w := (((W5.setCell ⟨w.heap.size + 2, 0, none⟩ (.slice b.a b.n b.c)).setCell ⟨w.heap.size + 2, 1, none⟩ (.slice h.a h.n h.c)).setCell ⟨w.heap.size + 2, 2, none⟩ (.slice rd.a rd.n rd.c)).setCell ⟨w.heap.size + 2, 3, none⟩ (.slice rg.a rg.n rg.c)) ⟨sl_far (sl_far (sl_far (sl_far HW4.out.1 (hne 0) _) (hne 1) _) (hne 2) _) (hne 3) _, HW4.out.2⟩ ((Below.refl _ _).drew)
        refine ⟨h, by rw [HF.out]; rfl, ?_, hbz, .inr fun bb oo hh => Nat.le_trans (Nat.le_add_right _ _) (HBK.out bb oo hh)⟩
        have hsame : s.write p = { s with wr := writeW s.base s.wr p } := by unfold Vs.write; rw [if_neg (by rw [HF.out]; decide)]
        rw [hsame]
        refine ⟨HD.out.base.below hbz, ?_, HD.out.rd.below hbz, HD.out.rg.below hbz⟩
        show Ss prE _ _ (writeW s.base s.wr p)
        rw [HPUT.out]
        exact hfin

      | false =>
        have HPUT : Hid (writeW s.base s.wr p = M ++ [p]) := Lib.hid (by rw [HPUT0.out, hend, hm]; simp)
        clear hend hm hMM e
        have a3 : wr.cell? ⟨w.heap.size + 1, 0, none⟩ = some (.string p.key) := HR.out.pbx.cell 0
        have a4 : wr.cell? ⟨w.heap.size + 1, 1, none⟩ = some (.string p.value) := HR.out.pbx.cell 1
        have a5 : wr.cell? ⟨w.heap.size + 1, 2, none⟩ = some (.bool p.gone) := HR.out.pbx.cell 2
        go_upto_region 17 with ((with_reducible refine pick (some 84) ?_); refine wpList_append_lst prE 69 rfl _ _ _ rfl Try.underlying25 info_pair rfl (w.heap.size + 3) _ _ M rfl (HR.out.own.below ((Below.refl _ _).alloc (Nat.le_refl _) _)) wr.heap.size 0 1 1 [p] rfl (Sl.new_ prE wr _ (p) _ rfl) _ rfl (M ++ [p]) rfl (by unfold maxLen; (try simp only [List.length_append, List.length_cons, List.length_nil]); omega) (by (try simp only [List.length_append, List.length_cons, List.length_nil]); omega) (by have := HR.out.siz; simp; omega) ?_; intro v2 w2 ho2 hg2 _ _; have HR2 := Lib.hid (Wd.app (x := p) HR.out hg2 ho2 rfl); clear ho2 hg2)
        clear a3 a4 a5
        obtain ⟨h, hv, hss, hbk⟩ := own_sl HR2.out.own
        subst hv
        have HSS := Lib.hid hss
        have HBK := Lib.hid hbk
        have b2 : w2.cell? ⟨w.heap.size, 1, none⟩ = some (.slice wa k wc) := HR2.out.box.cell 1
        have bf : w2.frozen? ⟨w.heap.size, 1, none⟩ = false := HR2.out.box.frozen 1
        clear hss hbk
        go_upto_region 18 with (fail)
        obtain ⟨W5, hW5⟩ : ∃ W5, w2.setCell ⟨w.heap.size, 1, none⟩ (.slice h.a h.n h.c) = W5 := ⟨_, rfl⟩
        have q1 : Blk W5 w.heap.size #[.slice b.a b.n b.c, .slice h.a h.n h.c, .slice rd.a rd.n rd.c, .slice rg.a rg.n rg.c] 32 := by rw [← hW5]; exact HR2.out.box.set_ 1 _
        have q2 : Blk W5 (w.heap.size + 2) zeroV 32 := by rw [← hW5]; exact HR2.out.res.far (by simp) _
        have q3 : Below w.heap.size w W5 := by rw [← hW5]; exact HR2.out.bel.setCell (Nat.le_refl _) _
        have q4 : Ss prE W5 h (M ++ [p]) := by
          rw [← hW5]
          exact ⟨sl_far HSS.out.1 (fun bb oo hh => by have := HBK.out bb oo hh; simp; omega) _, HSS.out.2⟩
        change Code.wp _ _ _ _ (w2.setCell ⟨w.heap.size, 1, none⟩ (.slice h.a h.n h.c))
        rw [hW5]
        have HW4 := Lib.hid q4
        have HQ1 := Lib.hid q1
        have HQ2 := Lib.hid q2
        have HQ3 := Lib.hid q3
        clear q1 q2 q3 q4 hW5 b2 bf
        obtain ⟨d0, d1, d2, d3⟩ : W5.cell? ⟨w.heap.size, 0, none⟩ = some (.slice b.a b.n b.c) ∧ W5.cell? ⟨w.heap.size, 1, none⟩ = some (.slice h.a h.n h.c) ∧ W5.cell? ⟨w.heap.size, 2, none⟩ = some (.slice rd.a rd.n rd.c) ∧ W5.cell? ⟨w.heap.size, 3, none⟩ = some (.slice rg.a rg.n rg.c) := ⟨HQ1.out.cell 0, HQ1.out.cell 1, HQ1.out.cell 2, HQ1.out.cell 3⟩
        obtain ⟨r0, r1, r2, r3⟩ : W5.cell? ⟨w.heap.size + 2, 0, none⟩ = some (.slice none 0 0) ∧ W5.cell? ⟨w.heap.size + 2, 1, none⟩ = some (.slice none 0 0) ∧ W5.cell? ⟨w.heap.size + 2, 2, none⟩ = some (.slice none 0 0) ∧ W5.cell? ⟨w.heap.size + 2, 3, none⟩ = some (.slice none 0 0) := ⟨HQ2.out.cell 0, HQ2.out.cell 1, HQ2.out.cell 2, HQ2.out.cell 3⟩
        obtain ⟨f0, f1, f2, f3⟩ : W5.frozen? ⟨w.heap.size + 2, 0, none⟩ = false ∧ W5.frozen? ⟨w.heap.size + 2, 1, none⟩ = false ∧ W5.frozen? ⟨w.heap.size + 2, 2, none⟩ = false ∧ W5.frozen? ⟨w.heap.size + 2, 3, none⟩ = false := ⟨HQ2.out.frozen 0, HQ2.out.frozen 1, HQ2.out.frozen 2, HQ2.out.frozen 3⟩
        go_region_law (fail)
        all_goals go_wp2_with fail
        have hz : Blk ((((W5.setCell ⟨w.heap.size + 2, 0, none⟩ (.slice b.a b.n b.c)).setCell ⟨w.heap.size + 2, 1, none⟩ (.slice h.a h.n h.c)).setCell ⟨w.heap.size + 2, 2, none⟩ (.slice rd.a rd.n rd.c)).setCell ⟨w.heap.size + 2, 3, none⟩ (.slice rg.a rg.n rg.c)).drew (w.heap.size + 2) #[.slice b.a b.n b.c, .slice h.a h.n h.c, .slice rd.a rd.n rd.c, .slice rg.a rg.n rg.c] 32 := ((((HQ2.out.set_ 0 (.slice b.a b.n b.c)).set_ 1 (.slice h.a h.n h.c)).set_ 2 (.slice rd.a rd.n rd.c)).set_ 3 (.slice rg.a rg.n rg.c)).drew
        have hbz : Below w.heap.size w ((((W5.setCell ⟨w.heap.size + 2, 0, none⟩ (.slice b.a b.n b.c)).setCell ⟨w.heap.size + 2, 1, none⟩ (.slice h.a h.n h.c)).setCell ⟨w.heap.size + 2, 2, none⟩ (.slice rd.a rd.n rd.c)).setCell ⟨w.heap.size + 2, 3, none⟩ (.slice rg.a rg.n rg.c)).drew := ((((HQ3.out.setCell (by simp) _).setCell (by simp) _).setCell (by simp) _).setCell (by simp) _).drew
        refine bodyPost_ret (v := .tuple #[.bool true, .agg #[.slice b.a b.n b.c, .slice h.a h.n h.c, .slice rd.a rd.n rd.c, .slice rg.a rg.n rg.c]]) (results_tmp1_row rfl _ _ (w.heap.size + 2) 32 _ (0, 0) _ rfl (.bool true) rfl hz Try.underlying32 rfl info_view) rfl ?_
        have hne : ∀ (q : Nat) (bb oo : Nat), h.a = some ⟨bb, oo, none⟩ → bb ≠ (⟨w.heap.size + 2, q, none⟩ : Addr).block := fun q bb oo hh => by have := HBK.out bb oo hh; simp; omega
        have hfin : Ss prE ((((W5.setCell ⟨w.heap.size + 2, 0, none⟩ (.slice b.a b.n b.c)).setCell ⟨w.heap.size + 2, 1, none⟩ (.slice h.a h.n h.c)).setCell ⟨w.heap.size + 2, 2, none⟩ (.slice rd.a rd.n rd.c)).setCell ⟨w.heap.size + 2, 3, none⟩ (.slice rg.a rg.n rg.c)).drew h (M ++ [p]) := Ss.below (w := (((W5.setCell ⟨w.heap.size + 2, 0, none⟩ (.slice b.a b.n b.c)).setCell ⟨w.heap.size + 2, 1, none⟩ (.slice h.a h.n h.c)).setCell ⟨w.heap.size + 2, 2, none⟩ (.slice rd.a rd.n rd.c)).setCell ⟨w.heap.size + 2, 3, none⟩ (.slice rg.a rg.n rg.c)) ⟨sl_far (sl_far (sl_far (sl_far HW4.out.1 (hne 0) _) (hne 1) _) (hne 2) _) (hne 3) _, HW4.out.2⟩ ((Below.refl _ _).drew)
        refine ⟨h, by rw [HF.out]; rfl, ?_, hbz, .inr fun bb oo hh => Nat.le_trans (Nat.le_add_right _ _) (HBK.out bb oo hh)⟩
        have hsame : s.write p = { s with wr := writeW s.base s.wr p } := by unfold Vs.write; rw [if_neg (by rw [HF.out]; decide)]
        rw [hsame]
        refine ⟨HD.out.base.below hbz, ?_, HD.out.rd.below hbz, HD.out.rg.below hbz⟩
        show Ss prE _ _ (writeW s.base s.wr p)
        rw [HPUT.out]
        exact hfin

set_option maxRecDepth 100000 in
set_option maxHeartbeats 8000000 in
theorem write_c1 (s : Vs) (b wt rd rg : Sh) (p : Pr) (w : World) (hd : Dv w s b wt rd rg) (hb : s.base.length ≤ 1000) (hok : s.Ok) (hf : fullW s.wr p = false) (hwx : inW p.key s.wr = true) (hpg : p.gone = true) (hy : (getL p.key s.base).isSome = false) :
    Calls Try.prog 31 #[.agg #[.slice b.a b.n b.c, .slice wt.a wt.n wt.c, .slice rd.a rd.n rd.c, .slice rg.a rg.n rg.c], .agg #[.string p.key, .string p.value, .bool p.gone]] w (WrR s p b wt rd rg w) := by
  have HPG := Lib.hid hpg
  clear hpg
  have HD := Lib.hid hd
  have HOK := Lib.hid hok
  have HLB := Lib.hid hb
  obtain ⟨wa, wn, wc⟩ := wt
  have hwc := hd.wr.2.1
  have hwc2 := hd.wr.2.2.1
  have hln := hd.wr.len
  have hw48 := hok.lw
  dsimp only at hwc hwc2 hln
  rw [hln] at hw48
  have HLN := Lib.hid hln
  have hW0 : ∃ W0, ((w.alloc (.cells #[.slice b.a b.n b.c, .slice wa wn wc, .slice rd.a rd.n rd.c, .slice rg.a rg.n rg.c] 32)).alloc (.cells #[.string p.key, .string p.value, .bool p.gone] 69)).alloc (.cells zeroV 32) = W0 ∧ Blk W0 w.heap.size #[.slice b.a b.n b.c, .slice wa wn wc, .slice rd.a rd.n rd.c, .slice rg.a rg.n rg.c] 32 ∧ Blk W0 (w.heap.size + 1) #[.string p.key, .string p.value, .bool p.gone] 69 ∧ Blk W0 (w.heap.size + 2) zeroV 32 ∧ Below w.heap.size w W0 ∧ W0.heap.size = w.heap.size + 3 :=
    ⟨_, rfl, ((Blk.new_ _ _ _).alloc _).alloc _, by have h := (Blk.new_ (w.alloc (.cells #[.slice b.a b.n b.c, .slice wa wn wc, .slice rd.a rd.n rd.c, .slice rg.a rg.n rg.c] 32)) #[.string p.key, .string p.value, .bool p.gone] 69).alloc (.cells zeroV 32); simpa using h, by have h := Blk.new_ ((w.alloc (.cells #[.slice b.a b.n b.c, .slice wa wn wc, .slice rd.a rd.n rd.c, .slice rg.a rg.n rg.c] 32)).alloc (.cells #[.string p.key, .string p.value, .bool p.gone] 69)) zeroV 32; simpa using h, (((Below.refl _ _).alloc (Nat.le_refl _) _).alloc (by simp <;> omega) _).alloc (by simp <;> omega) _, by simp⟩
  obtain ⟨W0, e0, q1, q2, q3, q4, q5⟩ := hW0
  have E0 := Lib.hid e0
  have Q1 := Lib.hid q1
  have Q2 := Lib.hid q2
  have Q3 := Lib.hid q3
  have Q4 := Lib.hid q4
  have Q5 := Lib.hid q5
  have HF := Lib.hid hf
  clear hd hb hok hln e0 q1 q2 q3 q4 q5 hf
  go_enter Try.func31, Try.ntmps31
  go_upto_region 1 with (fail)
  change Code.wp _ _ _ _ (((w.alloc (.cells #[.slice b.a b.n b.c, .slice wa wn wc, .slice rd.a rd.n rd.c, .slice rg.a rg.n rg.c] 32)).alloc (.cells #[.string p.key, .string p.value, .bool p.gone] 69)).alloc (.cells zeroV 32))
  rw [E0.out]
  have a0 : W0.cell? ⟨w.heap.size + 1, 0, none⟩ = some (.string p.key) := Q2.out.cell 0
  have hsz : w.heap.size < W0.heap.size := Q1.out.lt
  have HWX := Lib.hid hwx
  clear hwx
  obtain ⟨x0, y0, hxy⟩ := got_form (getL p.key s.base)
  have hy0 : y0 = (getL p.key s.base).isSome := (by
    cases hg : getL p.key s.base with
    | none => rw [hg] at hxy; simp [GotV] at hxy; simp [hxy]
    | some q => rw [hg] at hxy; simp [GotV] at hxy; simp [hxy])
  rw [hy] at hy0
  subst hy0
  have HYS := Lib.hid hy
  clear hy
  have HXY := Lib.hid hxy
  clear hxy
  have HPUT0 : Hid (writeW s.base s.wr p = cutL p.key s.wr) := Lib.hid (by unfold writeW; rw [if_pos (by rw [HPG.out]; cases hg : getL p.key s.base <;> simp [hg, Hid.out] <;> (have := HYS.out; rw [hg] at this; simp at this))])
  have hpg := HPG.out
  go_upto_region 6 with (first
    | ((with_reducible refine pick (some 11) ?_); refine load_blk rfl 32 _ rfl w.heap.size rfl 32 #[.slice b.a b.n b.c, .slice wa wn wc, .slice rd.a rd.n rd.c, .slice rg.a rg.n rg.c] _ Q1.out Try.underlying32 rfl info_view ?_)
    | (go_at_call 45; refine (written_is  (HD.out.below Q4.out) HWX.out).mono ?_; rintro e w1 ⟨rfl, hb1⟩; have Q1b := Lib.hid (Q1.out.below hb1); have Q2b := Lib.hid (Q2.out.below hb1); have Q3b := Lib.hid (Q3.out.below hb1); have Q4b := Lib.hid (keeps Q4.out hb1); have hs1 := hb1.size; have b1 : w1.cell? ⟨w.heap.size, 1, none⟩ = some (.slice wa wn wc) := Q1b.out.cell 1; have b2 : w1.cell? ⟨w.heap.size + 1, 0, none⟩ = some (.string p.key) := Q2b.out.cell 0; clear hb1 a0; have b0 : w1.cell? ⟨w.heap.size, 0, none⟩ = some (.slice b.a b.n b.c) := Q1b.out.cell 0; have b4 : w1.cell? ⟨w.heap.size + 1, 2, none⟩ = some (.bool p.gone) := Q2b.out.cell 2; have l1 : w.heap.size < w1.heap.size := Q1b.out.lt; have l2 : w.heap.size + 1 < w1.heap.size := Q2b.out.lt; have hsi : w.heap.size + 3 ≤ w1.heap.size := (by have := Q5.out; omega); have HBG := Lib.hid (HD.out.base.below (Q4b.out.alloc Q4b.out.size (.cells #[] 69))))
    | (go_at_call 42; refine (get_is p.key HBG.out (by have := HLB.out; omega) HXY.out).mono ?_; rintro e w2 ⟨rfl, rfl⟩))
  have hW2 : Wd w (w1.alloc (.cells #[] 69)) #[.slice b.a b.n b.c, .slice wa wn wc, .slice rd.a rd.n rd.c, .slice rg.a rg.n rg.c] p (.slice (some ⟨w1.heap.size, 0, none⟩) 0 0) [] := ⟨So.new_ _ _ _ hsi, Q1b.out.alloc _, Q2b.out.alloc _, Q3b.out.alloc _, Q4b.out.alloc Q4b.out.size _, by simp; omega⟩
  have HW2 := Lib.hid hW2
  have HRI := Lib.hid HOK.out.wr
  have c1 : (w1.alloc (.cells #[] 69)).cell? ⟨w.heap.size, 1, none⟩ = some (.slice wa wn wc) := HW2.out.box.cell 1
  clear hW2 b0 b1 b2 b4 hpg
  go_wp2_with fail
  go_loopw [6, 9, 41] (fun v d i wr => ∃ k : Nat, k ≤ wn ∧ i = .int .i64 k ∧ d = .bool (true) ∧ Hid (Wd w wr #[.slice b.a b.n b.c, .slice wa wn wc, .slice rd.a rd.n rd.c, .slice rg.a rg.n rg.c] p v (cutL p.key (s.wr.take k)))) (fun _ _ i _ => wn - (intOf i).toNat)
  case atStart => exact ⟨0, Nat.zero_le _, rfl, rfl, HW2⟩
  case round =>
    obtain ⟨k, hk, rfl, rfl, HR⟩ := hrel
    have hml : (cutL p.key (s.wr.take k)).length ≤ 1000 := by
      have h2 : (s.wr.take k).length ≤ k := List.length_take_le _ _
      exact Nat.le_trans (List.length_filter_le _ _) (by omega)
    clear c1 l1 l2
    by_cases hlt : k < wn
    · obtain ⟨x, g, o, hx, rfl, hg, hcl⟩ := HD.out.wr.1.get k hlt
      have HX := Lib.hid hx
      clear hx hcl
      obtain ⟨M, hMM⟩ : ∃ M, cutL p.key (s.wr.take k) = M := ⟨_, rfl⟩
      rw [hMM] at HR hml
      by_cases he : x.key = p.key
      · have z2 : (x.key.toList == p.key.toList) = true := neq_true he
        have s2 := cut_next HX.out p.key
        rw [hMM, if_neg (by simp [he]), List.append_nil] at s2
        have HS := Lib.hid s2
        clear s2 hMM he
        have RD : Hid (∀ v, Below wr.heap.size wr v → Below wr.heap.size wr v ∧ v.cell? ⟨w.heap.size + 1, 0, none⟩ = some (.string p.key) ∧ v.cell? ⟨w.heap.size, 1, none⟩ = some (.slice (some ⟨g, o, none⟩) wn wc) ∧ v.cell? ⟨g, o + k * 3, none⟩ = some (.string x.key)) := Lib.hid fun v hv => ⟨hv, (HR.out.pbx.below hv).cell 0, (HR.out.box.below hv).cell 1, ((HD.out.wr.1.below (keeps HR.out.bel hv)).at_ k x HX.out).2 0 _ rfl⟩
        go_wp2_with fail
        refine wp_region_held_drew (S := fun v => Below wr.heap.size wr v ∧ v.cell? ⟨w.heap.size + 1, 0, none⟩ = some (.string p.key) ∧ v.cell? ⟨w.heap.size, 1, none⟩ = some (.slice (some ⟨g, o, none⟩) wn wc) ∧ v.cell? ⟨g, o + k * 3, none⟩ = some (.string x.key)) (by kernel_rfl) (RD.out _ (Below.drew (Below.refl _ _))) (fun hHeld => ?_)
        refine ho_val (v := ?_) 0 (some 44) rfl rfl (by kernel_rfl) (by kernel_rfl) (by kernel_rfl) (fun _ _ _ h => h) (by kernel_rfl) (fun w hSw => ?_) (by assumption) ?_
        rotate_left
        · ((try dsimp only at hSw); go_simp; try with_reducible rfl)
        simp only [Act.put, List.setIfInBounds_toArray, List.set_cons_zero, List.set_cons_succ]
        refine ho_val (v := ?_) 1 (some 45) rfl rfl (by kernel_rfl) (by kernel_rfl) (by kernel_rfl) (fun _ _ _ h => h) (by kernel_rfl) (fun w hSw => ?_) (by assumption) ?_
        rotate_left
        · ((try dsimp only at hSw); go_simp; try with_reducible rfl)
        simp only [Act.put, List.setIfInBounds_toArray, List.set_cons_zero, List.set_cons_succ]
        refine ho_val (v := ?_) 2 (some 46) rfl rfl (by kernel_rfl) (by kernel_rfl) (by kernel_rfl) (fun _ _ _ h => h) (by kernel_rfl) (fun w hSw => ?_) (by assumption) ?_
        rotate_left
        · ((try dsimp only at hSw); go_simp; try with_reducible rfl)
        simp only [Act.put, List.setIfInBounds_toArray, List.set_cons_zero, List.set_cons_succ]
        refine ho_skip 3 (some 47) rfl rfl (by kernel_rfl) (by kernel_rfl) (by kernel_rfl) (fun _ _ _ h => h) (by kernel_rfl) (by assumption) ?_; simp only [Act.put, List.setIfInBounds_toArray, List.set_cons_zero, List.set_cons_succ]
        refine ho_skip 4 (some 48) rfl rfl (by kernel_rfl) (by kernel_rfl) (by kernel_rfl) (fun _ _ _ h => h) (by kernel_rfl) (by assumption) ?_; simp only [Act.put, List.setIfInBounds_toArray, List.set_cons_zero, List.set_cons_succ]
        refine ho_skip 5 (some 49) rfl rfl (by kernel_rfl) (by kernel_rfl) (by kernel_rfl) (fun _ _ _ h => h) (by kernel_rfl) (by assumption) ?_; simp only [Act.put, List.setIfInBounds_toArray, List.set_cons_zero, List.set_cons_succ]
        refine ho_skip 6 (some 50) rfl rfl (by kernel_rfl) (by kernel_rfl) (by kernel_rfl) (fun _ _ _ h => h) (by kernel_rfl) (by assumption) ?_; simp only [Act.put, List.setIfInBounds_toArray, List.set_cons_zero, List.set_cons_succ]
        refine ho_skip 7 (some 51) rfl rfl (by kernel_rfl) (by kernel_rfl) (by kernel_rfl) (fun _ _ _ h => h) (by kernel_rfl) (by assumption) ?_; simp only [Act.put, List.setIfInBounds_toArray, List.set_cons_zero, List.set_cons_succ]
        refine ho_skip 8 (some 52) rfl rfl (by kernel_rfl) (by kernel_rfl) (by kernel_rfl) (fun _ _ _ h => h) (by kernel_rfl) (by assumption) ?_; simp only [Act.put, List.setIfInBounds_toArray, List.set_cons_zero, List.set_cons_succ]
        refine ho_skip 9 (some 53) rfl rfl (by kernel_rfl) (by kernel_rfl) (by kernel_rfl) (fun _ _ _ h => h) (by kernel_rfl) (by assumption) ?_; simp only [Act.put, List.setIfInBounds_toArray, List.set_cons_zero, List.set_cons_succ]
        refine ho_skip 10 (some 54) rfl rfl (by kernel_rfl) (by kernel_rfl) (by kernel_rfl) (fun _ _ _ h => h) (by kernel_rfl) (by assumption) ?_; simp only [Act.put, List.setIfInBounds_toArray, List.set_cons_zero, List.set_cons_succ]
        refine ho_skip 11 (some 55) rfl rfl (by kernel_rfl) (by kernel_rfl) (by kernel_rfl) (fun _ _ _ h => h) (by kernel_rfl) (by assumption) ?_; simp only [Act.put, List.setIfInBounds_toArray, List.set_cons_zero, List.set_cons_succ]
        refine ho_val (v := ?_) 12 (some 56) rfl rfl (by kernel_rfl) (by kernel_rfl) (by kernel_rfl) (fun _ _ _ h => h) (by kernel_rfl) (fun w hSw => ?_) (by assumption) ?_
        rotate_left
        · ((try dsimp only at hSw); go_simp; try with_reducible rfl)
        simp only [Act.put, List.setIfInBounds_toArray, List.set_cons_zero, List.set_cons_succ]
        refine wpAnyH_done (by kernel_rfl) ?_ _
        clear hHeld RD
        obtain ⟨W1, hW1⟩ : ∃ V, World.drew wr = V := ⟨_, rfl⟩
        have hr1 := HR.out.drew
        rw [hW1] at hr1 ⊢
        have HR1 := Lib.hid hr1
        clear hW1 hr1
        have RD2 : Hid (∀ v, Below W1.heap.size W1 v → Below W1.heap.size W1 v ∧ v.cell? ⟨w.heap.size + 1, 0, none⟩ = some (.string p.key) ∧ v.cell? ⟨w.heap.size, 1, none⟩ = some (.slice (some ⟨g, o, none⟩) wn wc) ∧ v.cell? ⟨g, o + k * 3, none⟩ = some (.string x.key)) := Lib.hid fun v hv => ⟨hv, (HR1.out.pbx.below hv).cell 0, (HR1.out.box.below hv).cell 1, ((HD.out.wr.1.below (keeps HR1.out.bel hv)).at_ k x HX.out).2 0 _ rfl⟩
        go_wp2_with fail
        refine wp_region_held_drew (S := fun v => Below W1.heap.size W1 v ∧ v.cell? ⟨w.heap.size + 1, 0, none⟩ = some (.string p.key) ∧ v.cell? ⟨w.heap.size, 1, none⟩ = some (.slice (some ⟨g, o, none⟩) wn wc) ∧ v.cell? ⟨g, o + k * 3, none⟩ = some (.string x.key)) (by kernel_rfl) (RD2.out _ (Below.drew (Below.refl _ _))) (fun hHeld => ?_)
        refine ho_val (v := ?_) 0 (some 61) rfl rfl (by kernel_rfl) (by kernel_rfl) (by kernel_rfl) (fun _ _ _ h => h) (by kernel_rfl) (fun w hSw => ?_) (by assumption) ?_
        rotate_left
        · ((try dsimp only at hSw); go_simp; try with_reducible rfl)
        simp only [Act.put, List.setIfInBounds_toArray, List.set_cons_zero, List.set_cons_succ]
        refine ho_val (v := ?_) 1 (some 62) rfl rfl (by kernel_rfl) (by kernel_rfl) (by kernel_rfl) (fun _ _ _ h => h) (by kernel_rfl) (fun w hSw => ?_) (by assumption) ?_
        rotate_left
        · ((try dsimp only at hSw); go_simp; try with_reducible rfl)
        simp only [Act.put, List.setIfInBounds_toArray, List.set_cons_zero, List.set_cons_succ]
        refine ho_val (v := ?_) 2 (some 63) rfl rfl (by kernel_rfl) (by kernel_rfl) (by kernel_rfl) (fun _ _ _ h => h) (by kernel_rfl) (fun w hSw => ?_) (by assumption) ?_
        rotate_left
        · ((try dsimp only at hSw); go_simp; try with_reducible rfl)
        simp only [Act.put, List.setIfInBounds_toArray, List.set_cons_zero, List.set_cons_succ]
        refine ho_val (v := ?_) 3 (some 64) rfl rfl (by kernel_rfl) (by kernel_rfl) (by kernel_rfl) (fun _ _ _ h => h) (by kernel_rfl) (fun w hSw => ?_) (by assumption) ?_
        rotate_left
        · ((try dsimp only at hSw); go_simp; try with_reducible rfl)
        simp only [Act.put, List.setIfInBounds_toArray, List.set_cons_zero, List.set_cons_succ]
        refine ho_val (v := ?_) 4 (some 65) rfl rfl (by kernel_rfl) (by kernel_rfl) (by kernel_rfl) (fun _ _ _ h => h) (by kernel_rfl) (fun w hSw => ?_) (by assumption) ?_
        rotate_left
        · ((try dsimp only at hSw); go_simp; try with_reducible rfl)
        simp only [Act.put, List.setIfInBounds_toArray, List.set_cons_zero, List.set_cons_succ]
        refine ho_val (v := ?_) 5 (some 66) rfl rfl (by kernel_rfl) (by kernel_rfl) (by kernel_rfl) (fun _ _ _ h => h) (by kernel_rfl) (fun w hSw => ?_) (by assumption) ?_
        rotate_left
        · ((try dsimp only at hSw); go_simp; try with_reducible rfl)
        simp only [Act.put, List.setIfInBounds_toArray, List.set_cons_zero, List.set_cons_succ]
        refine ho_val (v := ?_) 6 (some 67) rfl rfl (by kernel_rfl) (by kernel_rfl) (by kernel_rfl) (fun _ _ _ h => h) (by kernel_rfl) (fun w hSw => ?_) (by assumption) ?_
        rotate_left
        · ((try dsimp only at hSw); go_simp; try with_reducible rfl)
        simp only [Act.put, List.setIfInBounds_toArray, List.set_cons_zero, List.set_cons_succ]
        refine ho_val (v := ?_) 7 (some 68) rfl rfl (by kernel_rfl) (by kernel_rfl) (by kernel_rfl) (fun _ _ _ h => h) (by kernel_rfl) (fun w hSw => ?_) (by assumption) ?_
        rotate_left
        · ((try dsimp only at hSw); go_simp; try with_reducible rfl)
        simp only [Act.put, List.setIfInBounds_toArray, List.set_cons_zero, List.set_cons_succ]
        refine ho_val (v := ?_) 8 (some 69) rfl rfl (by kernel_rfl) (by kernel_rfl) (by kernel_rfl) (fun _ _ _ h => h) (by kernel_rfl) (fun w hSw => ?_) (by assumption) ?_
        rotate_left
        · ((try dsimp only at hSw); go_simp; try with_reducible rfl)
        simp only [Act.put, List.setIfInBounds_toArray, List.set_cons_zero, List.set_cons_succ]
        refine wpAnyH_done (by kernel_rfl) ?_ _
        clear hHeld RD2
        obtain ⟨W4, hW4⟩ : ∃ V, World.drew W1 = V := ⟨_, rfl⟩
        have hr4 := HR1.out.drew
        rw [hW4] at hr4 ⊢
        have HR4 := Lib.hid hr4
        clear hW4 hr4
        go_wp2_with fail
        go_roundw
        case rel => exact ⟨k + 1, by omega, by go_num, rfl, by rw [HS.out]; exact HR4⟩
        case measure => simp [intOf]; omega
      · have z2 : (x.key.toList == p.key.toList) = false := neq_false he
        have s2 := cut_next HX.out p.key
        rw [hMM, if_pos (by simp [he])] at s2
        have HS := Lib.hid s2
        clear s2 hMM he
        have RD : Hid (∀ v, Below wr.heap.size wr v → Below wr.heap.size wr v ∧ v.cell? ⟨w.heap.size + 1, 0, none⟩ = some (.string p.key) ∧ v.cell? ⟨w.heap.size, 1, none⟩ = some (.slice (some ⟨g, o, none⟩) wn wc) ∧ v.cell? ⟨g, o + k * 3, none⟩ = some (.string x.key)) := Lib.hid fun v hv => ⟨hv, (HR.out.pbx.below hv).cell 0, (HR.out.box.below hv).cell 1, ((HD.out.wr.1.below (keeps HR.out.bel hv)).at_ k x HX.out).2 0 _ rfl⟩
        go_wp2_with fail
        refine wp_region_held_drew (S := fun v => Below wr.heap.size wr v ∧ v.cell? ⟨w.heap.size + 1, 0, none⟩ = some (.string p.key) ∧ v.cell? ⟨w.heap.size, 1, none⟩ = some (.slice (some ⟨g, o, none⟩) wn wc) ∧ v.cell? ⟨g, o + k * 3, none⟩ = some (.string x.key)) (by kernel_rfl) (RD.out _ (Below.drew (Below.refl _ _))) (fun hHeld => ?_)
        refine ho_val (v := ?_) 0 (some 44) rfl rfl (by kernel_rfl) (by kernel_rfl) (by kernel_rfl) (fun _ _ _ h => h) (by kernel_rfl) (fun w hSw => ?_) (by assumption) ?_
        rotate_left
        · ((try dsimp only at hSw); go_simp; try with_reducible rfl)
        simp only [Act.put, List.setIfInBounds_toArray, List.set_cons_zero, List.set_cons_succ]
        refine ho_val (v := ?_) 1 (some 45) rfl rfl (by kernel_rfl) (by kernel_rfl) (by kernel_rfl) (fun _ _ _ h => h) (by kernel_rfl) (fun w hSw => ?_) (by assumption) ?_
        rotate_left
        · ((try dsimp only at hSw); go_simp; try with_reducible rfl)
        simp only [Act.put, List.setIfInBounds_toArray, List.set_cons_zero, List.set_cons_succ]
        refine ho_val (v := ?_) 2 (some 46) rfl rfl (by kernel_rfl) (by kernel_rfl) (by kernel_rfl) (fun _ _ _ h => h) (by kernel_rfl) (fun w hSw => ?_) (by assumption) ?_
        rotate_left
        · ((try dsimp only at hSw); go_simp; try with_reducible rfl)
        simp only [Act.put, List.setIfInBounds_toArray, List.set_cons_zero, List.set_cons_succ]
        refine ho_skip 3 (some 47) rfl rfl (by kernel_rfl) (by kernel_rfl) (by kernel_rfl) (fun _ _ _ h => h) (by kernel_rfl) (by assumption) ?_; simp only [Act.put, List.setIfInBounds_toArray, List.set_cons_zero, List.set_cons_succ]
        refine ho_skip 4 (some 48) rfl rfl (by kernel_rfl) (by kernel_rfl) (by kernel_rfl) (fun _ _ _ h => h) (by kernel_rfl) (by assumption) ?_; simp only [Act.put, List.setIfInBounds_toArray, List.set_cons_zero, List.set_cons_succ]
        refine ho_skip 5 (some 49) rfl rfl (by kernel_rfl) (by kernel_rfl) (by kernel_rfl) (fun _ _ _ h => h) (by kernel_rfl) (by assumption) ?_; simp only [Act.put, List.setIfInBounds_toArray, List.set_cons_zero, List.set_cons_succ]
        refine ho_skip 6 (some 50) rfl rfl (by kernel_rfl) (by kernel_rfl) (by kernel_rfl) (fun _ _ _ h => h) (by kernel_rfl) (by assumption) ?_; simp only [Act.put, List.setIfInBounds_toArray, List.set_cons_zero, List.set_cons_succ]
        refine ho_skip 7 (some 51) rfl rfl (by kernel_rfl) (by kernel_rfl) (by kernel_rfl) (fun _ _ _ h => h) (by kernel_rfl) (by assumption) ?_; simp only [Act.put, List.setIfInBounds_toArray, List.set_cons_zero, List.set_cons_succ]
        refine ho_skip 8 (some 52) rfl rfl (by kernel_rfl) (by kernel_rfl) (by kernel_rfl) (fun _ _ _ h => h) (by kernel_rfl) (by assumption) ?_; simp only [Act.put, List.setIfInBounds_toArray, List.set_cons_zero, List.set_cons_succ]
        refine ho_skip 9 (some 53) rfl rfl (by kernel_rfl) (by kernel_rfl) (by kernel_rfl) (fun _ _ _ h => h) (by kernel_rfl) (by assumption) ?_; simp only [Act.put, List.setIfInBounds_toArray, List.set_cons_zero, List.set_cons_succ]
        refine ho_skip 10 (some 54) rfl rfl (by kernel_rfl) (by kernel_rfl) (by kernel_rfl) (fun _ _ _ h => h) (by kernel_rfl) (by assumption) ?_; simp only [Act.put, List.setIfInBounds_toArray, List.set_cons_zero, List.set_cons_succ]
        refine ho_skip 11 (some 55) rfl rfl (by kernel_rfl) (by kernel_rfl) (by kernel_rfl) (fun _ _ _ h => h) (by kernel_rfl) (by assumption) ?_; simp only [Act.put, List.setIfInBounds_toArray, List.set_cons_zero, List.set_cons_succ]
        refine ho_val (v := ?_) 12 (some 56) rfl rfl (by kernel_rfl) (by kernel_rfl) (by kernel_rfl) (fun _ _ _ h => h) (by kernel_rfl) (fun w hSw => ?_) (by assumption) ?_
        rotate_left
        · ((try dsimp only at hSw); go_simp; try with_reducible rfl)
        simp only [Act.put, List.setIfInBounds_toArray, List.set_cons_zero, List.set_cons_succ]
        refine wpAnyH_done (by kernel_rfl) ?_ _
        clear hHeld RD
        obtain ⟨W1, hW1⟩ : ∃ V, World.drew wr = V := ⟨_, rfl⟩
        have hr1 := HR.out.drew
        rw [hW1] at hr1 ⊢
        have HR1 := Lib.hid hr1
        clear hW1 hr1
        have RD2 : Hid (∀ v, Below W1.heap.size W1 v → Below W1.heap.size W1 v ∧ v.cell? ⟨w.heap.size + 1, 0, none⟩ = some (.string p.key) ∧ v.cell? ⟨w.heap.size, 1, none⟩ = some (.slice (some ⟨g, o, none⟩) wn wc) ∧ v.cell? ⟨g, o + k * 3, none⟩ = some (.string x.key)) := Lib.hid fun v hv => ⟨hv, (HR1.out.pbx.below hv).cell 0, (HR1.out.box.below hv).cell 1, ((HD.out.wr.1.below (keeps HR1.out.bel hv)).at_ k x HX.out).2 0 _ rfl⟩
        go_wp2_with fail
        refine wp_region_held_drew (S := fun v => Below W1.heap.size W1 v ∧ v.cell? ⟨w.heap.size + 1, 0, none⟩ = some (.string p.key) ∧ v.cell? ⟨w.heap.size, 1, none⟩ = some (.slice (some ⟨g, o, none⟩) wn wc) ∧ v.cell? ⟨g, o + k * 3, none⟩ = some (.string x.key)) (by kernel_rfl) (RD2.out _ (Below.drew (Below.refl _ _))) (fun hHeld => ?_)
        refine ho_val (v := ?_) 0 (some 61) rfl rfl (by kernel_rfl) (by kernel_rfl) (by kernel_rfl) (fun _ _ _ h => h) (by kernel_rfl) (fun w hSw => ?_) (by assumption) ?_
        rotate_left
        · ((try dsimp only at hSw); go_simp; try with_reducible rfl)
        simp only [Act.put, List.setIfInBounds_toArray, List.set_cons_zero, List.set_cons_succ]
        refine ho_val (v := ?_) 1 (some 62) rfl rfl (by kernel_rfl) (by kernel_rfl) (by kernel_rfl) (fun _ _ _ h => h) (by kernel_rfl) (fun w hSw => ?_) (by assumption) ?_
        rotate_left
        · ((try dsimp only at hSw); go_simp; try with_reducible rfl)
        simp only [Act.put, List.setIfInBounds_toArray, List.set_cons_zero, List.set_cons_succ]
        refine ho_val (v := ?_) 2 (some 63) rfl rfl (by kernel_rfl) (by kernel_rfl) (by kernel_rfl) (fun _ _ _ h => h) (by kernel_rfl) (fun w hSw => ?_) (by assumption) ?_
        rotate_left
        · ((try dsimp only at hSw); go_simp; try with_reducible rfl)
        simp only [Act.put, List.setIfInBounds_toArray, List.set_cons_zero, List.set_cons_succ]
        refine ho_val (v := ?_) 3 (some 64) rfl rfl (by kernel_rfl) (by kernel_rfl) (by kernel_rfl) (fun _ _ _ h => h) (by kernel_rfl) (fun w hSw => ?_) (by assumption) ?_
        rotate_left
        · ((try dsimp only at hSw); go_simp; try with_reducible rfl)
        simp only [Act.put, List.setIfInBounds_toArray, List.set_cons_zero, List.set_cons_succ]
        refine ho_val (v := ?_) 4 (some 65) rfl rfl (by kernel_rfl) (by kernel_rfl) (by kernel_rfl) (fun _ _ _ h => h) (by kernel_rfl) (fun w hSw => ?_) (by assumption) ?_
        rotate_left
        · ((try dsimp only at hSw); go_simp; try with_reducible rfl)
        simp only [Act.put, List.setIfInBounds_toArray, List.set_cons_zero, List.set_cons_succ]
        refine ho_val (v := ?_) 5 (some 66) rfl rfl (by kernel_rfl) (by kernel_rfl) (by kernel_rfl) (fun _ _ _ h => h) (by kernel_rfl) (fun w hSw => ?_) (by assumption) ?_
        rotate_left
        · ((try dsimp only at hSw); go_simp; try with_reducible rfl)
        simp only [Act.put, List.setIfInBounds_toArray, List.set_cons_zero, List.set_cons_succ]
        refine ho_val (v := ?_) 6 (some 67) rfl rfl (by kernel_rfl) (by kernel_rfl) (by kernel_rfl) (fun _ _ _ h => h) (by kernel_rfl) (fun w hSw => ?_) (by assumption) ?_
        rotate_left
        · ((try dsimp only at hSw); go_simp; try with_reducible rfl)
        simp only [Act.put, List.setIfInBounds_toArray, List.set_cons_zero, List.set_cons_succ]
        refine ho_val (v := ?_) 7 (some 68) rfl rfl (by kernel_rfl) (by kernel_rfl) (by kernel_rfl) (fun _ _ _ h => h) (by kernel_rfl) (fun w hSw => ?_) (by assumption) ?_
        rotate_left
        · ((try dsimp only at hSw); go_simp; try with_reducible rfl)
        simp only [Act.put, List.setIfInBounds_toArray, List.set_cons_zero, List.set_cons_succ]
        refine ho_val (v := ?_) 8 (some 69) rfl rfl (by kernel_rfl) (by kernel_rfl) (by kernel_rfl) (fun _ _ _ h => h) (by kernel_rfl) (fun w hSw => ?_) (by assumption) ?_
        rotate_left
        · ((try dsimp only at hSw); go_simp; try with_reducible rfl)
        simp only [Act.put, List.setIfInBounds_toArray, List.set_cons_zero, List.set_cons_succ]
        refine wpAnyH_done (by kernel_rfl) ?_ _
        clear hHeld RD2
        obtain ⟨W4, hW4⟩ : ∃ V, World.drew W1 = V := ⟨_, rfl⟩
        have hr4 := HR1.out.drew
        rw [hW4] at hr4 ⊢
        have HR4 := Lib.hid hr4
        clear hW4 hr4
        have y0 : W4.cell? ⟨g, o + k * 3, none⟩ = some (.string x.key) := ((HD.out.wr.1.below HR4.out.bel).at_ k x HX.out).2 0 _ rfl
        have y1 : W4.cell? ⟨g, o + k * 3 + 1, none⟩ = some (.string x.value) := ((HD.out.wr.1.below HR4.out.bel).at_ k x HX.out).2 1 _ rfl
        have y2 : W4.cell? ⟨g, o + k * 3 + 2, none⟩ = some (.bool x.gone) := ((HD.out.wr.1.below HR4.out.bel).at_ k x HX.out).2 2 _ rfl
        have a1 : W4.cell? ⟨w.heap.size, 1, none⟩ = some (.slice (some ⟨g, o, none⟩) wn wc) := HR4.out.box.cell 1
        go_wp2_with ((with_reducible refine pick (some 77) ?_); refine wpList_append_lst prE 69 rfl _ _ _ rfl Try.underlying25 info_pair rfl (w.heap.size + 3) _ _ M rfl (HR4.out.own.below ((Below.refl _ _).alloc (Nat.le_refl _) _)) W4.heap.size 0 1 1 [x] rfl (Sl.new_ prE W4 _ (x) _ rfl) _ rfl (M ++ [x]) rfl (by unfold maxLen; (try simp only [List.length_append, List.length_cons, List.length_nil]); omega) (by (try simp only [List.length_append, List.length_cons, List.length_nil]); omega) (by have := HR4.out.siz; simp; omega) ?_; intro v5 w5 ho5 hg5 _ _; have HR5 := Lib.hid (Wd.app (x := x) HR4.out hg5 ho5 rfl); clear ho5 hg5)
        go_roundw
        case rel => exact ⟨k + 1, by omega, by go_num, rfl, by rw [HS.out]; exact HR5⟩
        case measure => simp [intOf]; omega
    · obtain rfl : k = wn := by omega
      have e : s.wr.take k = s.wr := List.take_of_length_le (by rw [HLN.out]; exact Nat.le_refl _)
      rw [e] at HR hml
      try rw [e]
      obtain ⟨M, hMM⟩ : ∃ M, cutL p.key s.wr = M := ⟨_, rfl⟩
      rw [hMM] at HR hml
      have HPUT : Hid (writeW s.base s.wr p = M) := Lib.hid (HPUT0.out.trans hMM)
      clear hMM e
      obtain ⟨h, hv, hss, hbk⟩ := own_sl HR.out.own
      subst hv
      have HSS := Lib.hid hss
      have HBK := Lib.hid hbk
      have b2 : wr.cell? ⟨w.heap.size, 1, none⟩ = some (.slice wa k wc) := HR.out.box.cell 1
      have bf : wr.frozen? ⟨w.heap.size, 1, none⟩ = false := HR.out.box.frozen 1
      clear hss hbk
      go_upto_region 18 with (fail)
      obtain ⟨W5, hW5⟩ : ∃ W5, wr.setCell ⟨w.heap.size, 1, none⟩ (.slice h.a h.n h.c) = W5 := ⟨_, rfl⟩
      have q1 : Blk W5 w.heap.size #[.slice b.a b.n b.c, .slice h.a h.n h.c, .slice rd.a rd.n rd.c, .slice rg.a rg.n rg.c] 32 := by rw [← hW5]; exact HR.out.box.set_ 1 _
      have q2 : Blk W5 (w.heap.size + 2) zeroV 32 := by rw [← hW5]; exact HR.out.res.far (by simp) _
      have q3 : Below w.heap.size w W5 := by rw [← hW5]; exact HR.out.bel.setCell (Nat.le_refl _) _
      have q4 : Ss prE W5 h M := by
        rw [← hW5]
        exact ⟨sl_far HSS.out.1 (fun bb oo hh => by have := HBK.out bb oo hh; simp; omega) _, HSS.out.2⟩
      change Code.wp _ _ _ _ (wr.setCell ⟨w.heap.size, 1, none⟩ (.slice h.a h.n h.c))
      rw [hW5]
      have HW4 := Lib.hid q4
      have HQ1 := Lib.hid q1
      have HQ2 := Lib.hid q2
      have HQ3 := Lib.hid q3
      clear q1 q2 q3 q4 hW5 b2 bf
      obtain ⟨d0, d1, d2, d3⟩ : W5.cell? ⟨w.heap.size, 0, none⟩ = some (.slice b.a b.n b.c) ∧ W5.cell? ⟨w.heap.size, 1, none⟩ = some (.slice h.a h.n h.c) ∧ W5.cell? ⟨w.heap.size, 2, none⟩ = some (.slice rd.a rd.n rd.c) ∧ W5.cell? ⟨w.heap.size, 3, none⟩ = some (.slice rg.a rg.n rg.c) := ⟨HQ1.out.cell 0, HQ1.out.cell 1, HQ1.out.cell 2, HQ1.out.cell 3⟩
      obtain ⟨r0, r1, r2, r3⟩ : W5.cell? ⟨w.heap.size + 2, 0, none⟩ = some (.slice none 0 0) ∧ W5.cell? ⟨w.heap.size + 2, 1, none⟩ = some (.slice none 0 0) ∧ W5.cell? ⟨w.heap.size + 2, 2, none⟩ = some (.slice none 0 0) ∧ W5.cell? ⟨w.heap.size + 2, 3, none⟩ = some (.slice none 0 0) := ⟨HQ2.out.cell 0, HQ2.out.cell 1, HQ2.out.cell 2, HQ2.out.cell 3⟩
      obtain ⟨f0, f1, f2, f3⟩ : W5.frozen? ⟨w.heap.size + 2, 0, none⟩ = false ∧ W5.frozen? ⟨w.heap.size + 2, 1, none⟩ = false ∧ W5.frozen? ⟨w.heap.size + 2, 2, none⟩ = false ∧ W5.frozen? ⟨w.heap.size + 2, 3, none⟩ = false := ⟨HQ2.out.frozen 0, HQ2.out.frozen 1, HQ2.out.frozen 2, HQ2.out.frozen 3⟩
      go_region_law (fail)
      all_goals go_wp2_with fail
      have hz : Blk ((((W5.setCell ⟨w.heap.size + 2, 0, none⟩ (.slice b.a b.n b.c)).setCell ⟨w.heap.size + 2, 1, none⟩ (.slice h.a h.n h.c)).setCell ⟨w.heap.size + 2, 2, none⟩ (.slice rd.a rd.n rd.c)).setCell ⟨w.heap.size + 2, 3, none⟩ (.slice rg.a rg.n rg.c)).drew (w.heap.size + 2) #[.slice b.a b.n b.c, .slice h.a h.n h.c, .slice rd.a rd.n rd.c, .slice rg.a rg.n rg.c] 32 := ((((HQ2.out.set_ 0 (.slice b.a b.n b.c)).set_ 1 (.slice h.a h.n h.c)).set_ 2 (.slice rd.a rd.n rd.c)).set_ 3 (.slice rg.a rg.n rg.c)).drew
      have hbz : Below w.heap.size w ((((W5.setCell ⟨w.heap.size + 2, 0, none⟩ (.slice b.a b.n b.c)).setCell ⟨w.heap.size + 2, 1, none⟩ (.slice h.a h.n h.c)).setCell ⟨w.heap.size + 2, 2, none⟩ (.slice rd.a rd.n rd.c)).setCell ⟨w.heap.size + 2, 3, none⟩ (.slice rg.a rg.n rg.c)).drew := ((((HQ3.out.setCell (by simp) _).setCell (by simp) _).setCell (by simp) _).setCell (by simp) _).drew
      refine bodyPost_ret (v := .tuple #[.bool true, .agg #[.slice b.a b.n b.c, .slice h.a h.n h.c, .slice rd.a rd.n rd.c, .slice rg.a rg.n rg.c]]) (results_tmp1_row rfl _ _ (w.heap.size + 2) 32 _ (0, 0) _ rfl (.bool true) rfl hz Try.underlying32 rfl info_view) rfl ?_
      have hne : ∀ (q : Nat) (bb oo : Nat), h.a = some ⟨bb, oo, none⟩ → bb ≠ (⟨w.heap.size + 2, q, none⟩ : Addr).block := fun q bb oo hh => by have := HBK.out bb oo hh; simp; omega
      have hfin : Ss prE ((((W5.setCell ⟨w.heap.size + 2, 0, none⟩ (.slice b.a b.n b.c)).setCell ⟨w.heap.size + 2, 1, none⟩ (.slice h.a h.n h.c)).setCell ⟨w.heap.size + 2, 2, none⟩ (.slice rd.a rd.n rd.c)).setCell ⟨w.heap.size + 2, 3, none⟩ (.slice rg.a rg.n rg.c)).drew h M := Ss.below (w := (((W5.setCell ⟨w.heap.size + 2, 0, none⟩ (.slice b.a b.n b.c)).setCell ⟨w.heap.size + 2, 1, none⟩ (.slice h.a h.n h.c)).setCell ⟨w.heap.size + 2, 2, none⟩ (.slice rd.a rd.n rd.c)).setCell ⟨w.heap.size + 2, 3, none⟩ (.slice rg.a rg.n rg.c)) ⟨sl_far (sl_far (sl_far (sl_far HW4.out.1 (hne 0) _) (hne 1) _) (hne 2) _) (hne 3) _, HW4.out.2⟩ ((Below.refl _ _).drew)
      refine ⟨h, by rw [HF.out]; rfl, ?_, hbz, .inr fun bb oo hh => Nat.le_trans (Nat.le_add_right _ _) (HBK.out bb oo hh)⟩
      have hsame : s.write p = { s with wr := writeW s.base s.wr p } := by unfold Vs.write; rw [if_neg (by rw [HF.out]; decide)]
      rw [hsame]
      refine ⟨HD.out.base.below hbz, ?_, HD.out.rd.below hbz, HD.out.rg.below hbz⟩
      show Ss prE _ _ (writeW s.base s.wr p)
      rw [HPUT.out]
      exact hfin

set_option maxRecDepth 100000 in
set_option maxHeartbeats 8000000 in
theorem write_c2 (s : Vs) (b wt rd rg : Sh) (p : Pr) (w : World) (hd : Dv w s b wt rd rg) (hb : s.base.length ≤ 1000) (hok : s.Ok) (hf : fullW s.wr p = false) (hwx : inW p.key s.wr = false) (hpg : p.gone = true) (hy : (getL p.key s.base).isSome = false) :
    Calls Try.prog 31 #[.agg #[.slice b.a b.n b.c, .slice wt.a wt.n wt.c, .slice rd.a rd.n rd.c, .slice rg.a rg.n rg.c], .agg #[.string p.key, .string p.value, .bool p.gone]] w (WrR s p b wt rd rg w) := by
  have HPG := Lib.hid hpg
  clear hpg
  have HD := Lib.hid hd
  have HOK := Lib.hid hok
  have HLB := Lib.hid hb
  obtain ⟨wa, wn, wc⟩ := wt
  have hwc := hd.wr.2.1
  have hwc2 := hd.wr.2.2.1
  have hln := hd.wr.len
  have hw48 := hok.lw
  dsimp only at hwc hwc2 hln
  rw [hln] at hw48
  have HLN := Lib.hid hln
  have hW0 : ∃ W0, ((w.alloc (.cells #[.slice b.a b.n b.c, .slice wa wn wc, .slice rd.a rd.n rd.c, .slice rg.a rg.n rg.c] 32)).alloc (.cells #[.string p.key, .string p.value, .bool p.gone] 69)).alloc (.cells zeroV 32) = W0 ∧ Blk W0 w.heap.size #[.slice b.a b.n b.c, .slice wa wn wc, .slice rd.a rd.n rd.c, .slice rg.a rg.n rg.c] 32 ∧ Blk W0 (w.heap.size + 1) #[.string p.key, .string p.value, .bool p.gone] 69 ∧ Blk W0 (w.heap.size + 2) zeroV 32 ∧ Below w.heap.size w W0 ∧ W0.heap.size = w.heap.size + 3 :=
    ⟨_, rfl, ((Blk.new_ _ _ _).alloc _).alloc _, by have h := (Blk.new_ (w.alloc (.cells #[.slice b.a b.n b.c, .slice wa wn wc, .slice rd.a rd.n rd.c, .slice rg.a rg.n rg.c] 32)) #[.string p.key, .string p.value, .bool p.gone] 69).alloc (.cells zeroV 32); simpa using h, by have h := Blk.new_ ((w.alloc (.cells #[.slice b.a b.n b.c, .slice wa wn wc, .slice rd.a rd.n rd.c, .slice rg.a rg.n rg.c] 32)).alloc (.cells #[.string p.key, .string p.value, .bool p.gone] 69)) zeroV 32; simpa using h, (((Below.refl _ _).alloc (Nat.le_refl _) _).alloc (by simp <;> omega) _).alloc (by simp <;> omega) _, by simp⟩
  obtain ⟨W0, e0, q1, q2, q3, q4, q5⟩ := hW0
  have E0 := Lib.hid e0
  have Q1 := Lib.hid q1
  have Q2 := Lib.hid q2
  have Q3 := Lib.hid q3
  have Q4 := Lib.hid q4
  have Q5 := Lib.hid q5
  have HF := Lib.hid hf
  clear hd hb hok hln e0 q1 q2 q3 q4 q5 hf
  go_enter Try.func31, Try.ntmps31
  go_upto_region 1 with (fail)
  change Code.wp _ _ _ _ (((w.alloc (.cells #[.slice b.a b.n b.c, .slice wa wn wc, .slice rd.a rd.n rd.c, .slice rg.a rg.n rg.c] 32)).alloc (.cells #[.string p.key, .string p.value, .bool p.gone] 69)).alloc (.cells zeroV 32))
  rw [E0.out]
  have a0 : W0.cell? ⟨w.heap.size + 1, 0, none⟩ = some (.string p.key) := Q2.out.cell 0
  have hsz : w.heap.size < W0.heap.size := Q1.out.lt
  have HWX := Lib.hid hwx
  clear hwx
  have hlen : ¬ 48 ≤ wn := (by
    have h := HF.out
    unfold fullW at h
    rw [HLN.out, HWX.out] at h
    simpa using h)
  have d1 : decide ((48 : Int) ≤ (wn : Int)) = false := decide_eq_false (by omega)
  have d2 : decide (48 ≤ wn) = false := decide_eq_false hlen
  obtain ⟨x0, y0, hxy⟩ := got_form (getL p.key s.base)
  have hy0 : y0 = (getL p.key s.base).isSome := (by
    cases hg : getL p.key s.base with
    | none => rw [hg] at hxy; simp [GotV] at hxy; simp [hxy]
    | some q => rw [hg] at hxy; simp [GotV] at hxy; simp [hxy])
  rw [hy] at hy0
  subst hy0
  have HYS := Lib.hid hy
  clear hy
  have HXY := Lib.hid hxy
  clear hxy
  have HPUT0 : Hid (writeW s.base s.wr p = cutL p.key s.wr) := Lib.hid (by unfold writeW; rw [if_pos (by rw [HPG.out]; cases hg : getL p.key s.base <;> simp [hg, Hid.out] <;> (have := HYS.out; rw [hg] at this; simp at this))])
  have hpg := HPG.out
  go_upto_region 6 with (first
    | ((with_reducible refine pick (some 11) ?_); refine load_blk rfl 32 _ rfl w.heap.size rfl 32 #[.slice b.a b.n b.c, .slice wa wn wc, .slice rd.a rd.n rd.c, .slice rg.a rg.n rg.c] _ Q1.out Try.underlying32 rfl info_view ?_)
    | (go_at_call 45; refine (written_is  (HD.out.below Q4.out) HWX.out).mono ?_; rintro e w1 ⟨rfl, hb1⟩; have Q1b := Lib.hid (Q1.out.below hb1); have Q2b := Lib.hid (Q2.out.below hb1); have Q3b := Lib.hid (Q3.out.below hb1); have Q4b := Lib.hid (keeps Q4.out hb1); have hs1 := hb1.size; have b1 : w1.cell? ⟨w.heap.size, 1, none⟩ = some (.slice wa wn wc) := Q1b.out.cell 1; have b2 : w1.cell? ⟨w.heap.size + 1, 0, none⟩ = some (.string p.key) := Q2b.out.cell 0; clear hb1 a0; have b0 : w1.cell? ⟨w.heap.size, 0, none⟩ = some (.slice b.a b.n b.c) := Q1b.out.cell 0; have b4 : w1.cell? ⟨w.heap.size + 1, 2, none⟩ = some (.bool p.gone) := Q2b.out.cell 2; have l1 : w.heap.size < w1.heap.size := Q1b.out.lt; have l2 : w.heap.size + 1 < w1.heap.size := Q2b.out.lt; have hsi : w.heap.size + 3 ≤ w1.heap.size := (by have := Q5.out; omega); have HBG := Lib.hid (HD.out.base.below (Q4b.out.alloc Q4b.out.size (.cells #[] 69))))
    | (go_at_call 42; refine (get_is p.key HBG.out (by have := HLB.out; omega) HXY.out).mono ?_; rintro e w2 ⟨rfl, rfl⟩))
  have hW2 : Wd w (w1.alloc (.cells #[] 69)) #[.slice b.a b.n b.c, .slice wa wn wc, .slice rd.a rd.n rd.c, .slice rg.a rg.n rg.c] p (.slice (some ⟨w1.heap.size, 0, none⟩) 0 0) [] := ⟨So.new_ _ _ _ hsi, Q1b.out.alloc _, Q2b.out.alloc _, Q3b.out.alloc _, Q4b.out.alloc Q4b.out.size _, by simp; omega⟩
  have HW2 := Lib.hid hW2
  have HRI := Lib.hid HOK.out.wr
  have c1 : (w1.alloc (.cells #[] 69)).cell? ⟨w.heap.size, 1, none⟩ = some (.slice wa wn wc) := HW2.out.box.cell 1
  clear hW2 b0 b1 b2 b4 hpg
  go_wp2_with fail
  go_loopw [6, 9, 41] (fun v d i wr => ∃ k : Nat, k ≤ wn ∧ i = .int .i64 k ∧ d = .bool (true) ∧ Hid (Wd w wr #[.slice b.a b.n b.c, .slice wa wn wc, .slice rd.a rd.n rd.c, .slice rg.a rg.n rg.c] p v (cutL p.key (s.wr.take k)))) (fun _ _ i _ => wn - (intOf i).toNat)
  case atStart => exact ⟨0, Nat.zero_le _, rfl, rfl, HW2⟩
  case round =>
    obtain ⟨k, hk, rfl, rfl, HR⟩ := hrel
    have hml : (cutL p.key (s.wr.take k)).length ≤ 1000 := by
      have h2 : (s.wr.take k).length ≤ k := List.length_take_le _ _
      exact Nat.le_trans (List.length_filter_le _ _) (by omega)
    clear c1 l1 l2
    by_cases hlt : k < wn
    · obtain ⟨x, g, o, hx, rfl, hg, hcl⟩ := HD.out.wr.1.get k hlt
      have HX := Lib.hid hx
      clear hx hcl
      obtain ⟨M, hMM⟩ : ∃ M, cutL p.key (s.wr.take k) = M := ⟨_, rfl⟩
      rw [hMM] at HR hml
      by_cases he : x.key = p.key
      · have z2 : (x.key.toList == p.key.toList) = true := neq_true he
        have s2 := cut_next HX.out p.key
        rw [hMM, if_neg (by simp [he]), List.append_nil] at s2
        have HS := Lib.hid s2
        clear s2 hMM he
        have RD : Hid (∀ v, Below wr.heap.size wr v → Below wr.heap.size wr v ∧ v.cell? ⟨w.heap.size + 1, 0, none⟩ = some (.string p.key) ∧ v.cell? ⟨w.heap.size, 1, none⟩ = some (.slice (some ⟨g, o, none⟩) wn wc) ∧ v.cell? ⟨g, o + k * 3, none⟩ = some (.string x.key)) := Lib.hid fun v hv => ⟨hv, (HR.out.pbx.below hv).cell 0, (HR.out.box.below hv).cell 1, ((HD.out.wr.1.below (keeps HR.out.bel hv)).at_ k x HX.out).2 0 _ rfl⟩
        go_wp2_with fail
        refine wp_region_held_drew (S := fun v => Below wr.heap.size wr v ∧ v.cell? ⟨w.heap.size + 1, 0, none⟩ = some (.string p.key) ∧ v.cell? ⟨w.heap.size, 1, none⟩ = some (.slice (some ⟨g, o, none⟩) wn wc) ∧ v.cell? ⟨g, o + k * 3, none⟩ = some (.string x.key)) (by kernel_rfl) (RD.out _ (Below.drew (Below.refl _ _))) (fun hHeld => ?_)
        refine ho_val (v := ?_) 0 (some 44) rfl rfl (by kernel_rfl) (by kernel_rfl) (by kernel_rfl) (fun _ _ _ h => h) (by kernel_rfl) (fun w hSw => ?_) (by assumption) ?_
        rotate_left
        · ((try dsimp only at hSw); go_simp; try with_reducible rfl)
        simp only [Act.put, List.setIfInBounds_toArray, List.set_cons_zero, List.set_cons_succ]
        refine ho_val (v := ?_) 1 (some 45) rfl rfl (by kernel_rfl) (by kernel_rfl) (by kernel_rfl) (fun _ _ _ h => h) (by kernel_rfl) (fun w hSw => ?_) (by assumption) ?_
        rotate_left
        · ((try dsimp only at hSw); go_simp; try with_reducible rfl)
        simp only [Act.put, List.setIfInBounds_toArray, List.set_cons_zero, List.set_cons_succ]
        refine ho_val (v := ?_) 2 (some 46) rfl rfl (by kernel_rfl) (by kernel_rfl) (by kernel_rfl) (fun _ _ _ h => h) (by kernel_rfl) (fun w hSw => ?_) (by assumption) ?_
        rotate_left
        · ((try dsimp only at hSw); go_simp; try with_reducible rfl)
        simp only [Act.put, List.setIfInBounds_toArray, List.set_cons_zero, List.set_cons_succ]
        refine ho_skip 3 (some 47) rfl rfl (by kernel_rfl) (by kernel_rfl) (by kernel_rfl) (fun _ _ _ h => h) (by kernel_rfl) (by assumption) ?_; simp only [Act.put, List.setIfInBounds_toArray, List.set_cons_zero, List.set_cons_succ]
        refine ho_skip 4 (some 48) rfl rfl (by kernel_rfl) (by kernel_rfl) (by kernel_rfl) (fun _ _ _ h => h) (by kernel_rfl) (by assumption) ?_; simp only [Act.put, List.setIfInBounds_toArray, List.set_cons_zero, List.set_cons_succ]
        refine ho_skip 5 (some 49) rfl rfl (by kernel_rfl) (by kernel_rfl) (by kernel_rfl) (fun _ _ _ h => h) (by kernel_rfl) (by assumption) ?_; simp only [Act.put, List.setIfInBounds_toArray, List.set_cons_zero, List.set_cons_succ]
        refine ho_skip 6 (some 50) rfl rfl (by kernel_rfl) (by kernel_rfl) (by kernel_rfl) (fun _ _ _ h => h) (by kernel_rfl) (by assumption) ?_; simp only [Act.put, List.setIfInBounds_toArray, List.set_cons_zero, List.set_cons_succ]
        refine ho_skip 7 (some 51) rfl rfl (by kernel_rfl) (by kernel_rfl) (by kernel_rfl) (fun _ _ _ h => h) (by kernel_rfl) (by assumption) ?_; simp only [Act.put, List.setIfInBounds_toArray, List.set_cons_zero, List.set_cons_succ]
        refine ho_skip 8 (some 52) rfl rfl (by kernel_rfl) (by kernel_rfl) (by kernel_rfl) (fun _ _ _ h => h) (by kernel_rfl) (by assumption) ?_; simp only [Act.put, List.setIfInBounds_toArray, List.set_cons_zero, List.set_cons_succ]
        refine ho_skip 9 (some 53) rfl rfl (by kernel_rfl) (by kernel_rfl) (by kernel_rfl) (fun _ _ _ h => h) (by kernel_rfl) (by assumption) ?_; simp only [Act.put, List.setIfInBounds_toArray, List.set_cons_zero, List.set_cons_succ]
        refine ho_skip 10 (some 54) rfl rfl (by kernel_rfl) (by kernel_rfl) (by kernel_rfl) (fun _ _ _ h => h) (by kernel_rfl) (by assumption) ?_; simp only [Act.put, List.setIfInBounds_toArray, List.set_cons_zero, List.set_cons_succ]
        refine ho_skip 11 (some 55) rfl rfl (by kernel_rfl) (by kernel_rfl) (by kernel_rfl) (fun _ _ _ h => h) (by kernel_rfl) (by assumption) ?_; simp only [Act.put, List.setIfInBounds_toArray, List.set_cons_zero, List.set_cons_succ]
        refine ho_val (v := ?_) 12 (some 56) rfl rfl (by kernel_rfl) (by kernel_rfl) (by kernel_rfl) (fun _ _ _ h => h) (by kernel_rfl) (fun w hSw => ?_) (by assumption) ?_
        rotate_left
        · ((try dsimp only at hSw); go_simp; try with_reducible rfl)
        simp only [Act.put, List.setIfInBounds_toArray, List.set_cons_zero, List.set_cons_succ]
        refine wpAnyH_done (by kernel_rfl) ?_ _
        clear hHeld RD
        obtain ⟨W1, hW1⟩ : ∃ V, World.drew wr = V := ⟨_, rfl⟩
        have hr1 := HR.out.drew
        rw [hW1] at hr1 ⊢
        have HR1 := Lib.hid hr1
        clear hW1 hr1
        have RD2 : Hid (∀ v, Below W1.heap.size W1 v → Below W1.heap.size W1 v ∧ v.cell? ⟨w.heap.size + 1, 0, none⟩ = some (.string p.key) ∧ v.cell? ⟨w.heap.size, 1, none⟩ = some (.slice (some ⟨g, o, none⟩) wn wc) ∧ v.cell? ⟨g, o + k * 3, none⟩ = some (.string x.key)) := Lib.hid fun v hv => ⟨hv, (HR1.out.pbx.below hv).cell 0, (HR1.out.box.below hv).cell 1, ((HD.out.wr.1.below (keeps HR1.out.bel hv)).at_ k x HX.out).2 0 _ rfl⟩
        go_wp2_with fail
        refine wp_region_held_drew (S := fun v => Below W1.heap.size W1 v ∧ v.cell? ⟨w.heap.size + 1, 0, none⟩ = some (.string p.key) ∧ v.cell? ⟨w.heap.size, 1, none⟩ = some (.slice (some ⟨g, o, none⟩) wn wc) ∧ v.cell? ⟨g, o + k * 3, none⟩ = some (.string x.key)) (by kernel_rfl) (RD2.out _ (Below.drew (Below.refl _ _))) (fun hHeld => ?_)
        refine ho_val (v := ?_) 0 (some 61) rfl rfl (by kernel_rfl) (by kernel_rfl) (by kernel_rfl) (fun _ _ _ h => h) (by kernel_rfl) (fun w hSw => ?_) (by assumption) ?_
        rotate_left
        · ((try dsimp only at hSw); go_simp; try with_reducible rfl)
        simp only [Act.put, List.setIfInBounds_toArray, List.set_cons_zero, List.set_cons_succ]
        refine ho_val (v := ?_) 1 (some 62) rfl rfl (by kernel_rfl) (by kernel_rfl) (by kernel_rfl) (fun _ _ _ h => h) (by kernel_rfl) (fun w hSw => ?_) (by assumption) ?_
        rotate_left
        · ((try dsimp only at hSw); go_simp; try with_reducible rfl)
        simp only [Act.put, List.setIfInBounds_toArray, List.set_cons_zero, List.set_cons_succ]
        refine ho_val (v := ?_) 2 (some 63) rfl rfl (by kernel_rfl) (by kernel_rfl) (by kernel_rfl) (fun _ _ _ h => h) (by kernel_rfl) (fun w hSw => ?_) (by assumption) ?_
        rotate_left
        · ((try dsimp only at hSw); go_simp; try with_reducible rfl)
        simp only [Act.put, List.setIfInBounds_toArray, List.set_cons_zero, List.set_cons_succ]
        refine ho_val (v := ?_) 3 (some 64) rfl rfl (by kernel_rfl) (by kernel_rfl) (by kernel_rfl) (fun _ _ _ h => h) (by kernel_rfl) (fun w hSw => ?_) (by assumption) ?_
        rotate_left
        · ((try dsimp only at hSw); go_simp; try with_reducible rfl)
        simp only [Act.put, List.setIfInBounds_toArray, List.set_cons_zero, List.set_cons_succ]
        refine ho_val (v := ?_) 4 (some 65) rfl rfl (by kernel_rfl) (by kernel_rfl) (by kernel_rfl) (fun _ _ _ h => h) (by kernel_rfl) (fun w hSw => ?_) (by assumption) ?_
        rotate_left
        · ((try dsimp only at hSw); go_simp; try with_reducible rfl)
        simp only [Act.put, List.setIfInBounds_toArray, List.set_cons_zero, List.set_cons_succ]
        refine ho_val (v := ?_) 5 (some 66) rfl rfl (by kernel_rfl) (by kernel_rfl) (by kernel_rfl) (fun _ _ _ h => h) (by kernel_rfl) (fun w hSw => ?_) (by assumption) ?_
        rotate_left
        · ((try dsimp only at hSw); go_simp; try with_reducible rfl)
        simp only [Act.put, List.setIfInBounds_toArray, List.set_cons_zero, List.set_cons_succ]
        refine ho_val (v := ?_) 6 (some 67) rfl rfl (by kernel_rfl) (by kernel_rfl) (by kernel_rfl) (fun _ _ _ h => h) (by kernel_rfl) (fun w hSw => ?_) (by assumption) ?_
        rotate_left
        · ((try dsimp only at hSw); go_simp; try with_reducible rfl)
        simp only [Act.put, List.setIfInBounds_toArray, List.set_cons_zero, List.set_cons_succ]
        refine ho_val (v := ?_) 7 (some 68) rfl rfl (by kernel_rfl) (by kernel_rfl) (by kernel_rfl) (fun _ _ _ h => h) (by kernel_rfl) (fun w hSw => ?_) (by assumption) ?_
        rotate_left
        · ((try dsimp only at hSw); go_simp; try with_reducible rfl)
        simp only [Act.put, List.setIfInBounds_toArray, List.set_cons_zero, List.set_cons_succ]
        refine ho_val (v := ?_) 8 (some 69) rfl rfl (by kernel_rfl) (by kernel_rfl) (by kernel_rfl) (fun _ _ _ h => h) (by kernel_rfl) (fun w hSw => ?_) (by assumption) ?_
        rotate_left
        · ((try dsimp only at hSw); go_simp; try with_reducible rfl)
        simp only [Act.put, List.setIfInBounds_toArray, List.set_cons_zero, List.set_cons_succ]
        refine wpAnyH_done (by kernel_rfl) ?_ _
        clear hHeld RD2
        obtain ⟨W4, hW4⟩ : ∃ V, World.drew W1 = V := ⟨_, rfl⟩
        have hr4 := HR1.out.drew
        rw [hW4] at hr4 ⊢
        have HR4 := Lib.hid hr4
        clear hW4 hr4
        go_wp2_with fail
        go_roundw
        case rel => exact ⟨k + 1, by omega, by go_num, rfl, by rw [HS.out]; exact HR4⟩
        case measure => simp [intOf]; omega
      · have z2 : (x.key.toList == p.key.toList) = false := neq_false he
        have s2 := cut_next HX.out p.key
        rw [hMM, if_pos (by simp [he])] at s2
        have HS := Lib.hid s2
        clear s2 hMM he
        have RD : Hid (∀ v, Below wr.heap.size wr v → Below wr.heap.size wr v ∧ v.cell? ⟨w.heap.size + 1, 0, none⟩ = some (.string p.key) ∧ v.cell? ⟨w.heap.size, 1, none⟩ = some (.slice (some ⟨g, o, none⟩) wn wc) ∧ v.cell? ⟨g, o + k * 3, none⟩ = some (.string x.key)) := Lib.hid fun v hv => ⟨hv, (HR.out.pbx.below hv).cell 0, (HR.out.box.below hv).cell 1, ((HD.out.wr.1.below (keeps HR.out.bel hv)).at_ k x HX.out).2 0 _ rfl⟩
        go_wp2_with fail
        refine wp_region_held_drew (S := fun v => Below wr.heap.size wr v ∧ v.cell? ⟨w.heap.size + 1, 0, none⟩ = some (.string p.key) ∧ v.cell? ⟨w.heap.size, 1, none⟩ = some (.slice (some ⟨g, o, none⟩) wn wc) ∧ v.cell? ⟨g, o + k * 3, none⟩ = some (.string x.key)) (by kernel_rfl) (RD.out _ (Below.drew (Below.refl _ _))) (fun hHeld => ?_)
        refine ho_val (v := ?_) 0 (some 44) rfl rfl (by kernel_rfl) (by kernel_rfl) (by kernel_rfl) (fun _ _ _ h => h) (by kernel_rfl) (fun w hSw => ?_) (by assumption) ?_
        rotate_left
        · ((try dsimp only at hSw); go_simp; try with_reducible rfl)
        simp only [Act.put, List.setIfInBounds_toArray, List.set_cons_zero, List.set_cons_succ]
        refine ho_val (v := ?_) 1 (some 45) rfl rfl (by kernel_rfl) (by kernel_rfl) (by kernel_rfl) (fun _ _ _ h => h) (by kernel_rfl) (fun w hSw => ?_) (by assumption) ?_
        rotate_left
        · ((try dsimp only at hSw); go_simp; try with_reducible rfl)
        simp only [Act.put, List.setIfInBounds_toArray, List.set_cons_zero, List.set_cons_succ]
        refine ho_val (v := ?_) 2 (some 46) rfl rfl (by kernel_rfl) (by kernel_rfl) (by kernel_rfl) (fun _ _ _ h => h) (by kernel_rfl) (fun w hSw => ?_) (by assumption) ?_
        rotate_left
        · ((try dsimp only at hSw); go_simp; try with_reducible rfl)
        simp only [Act.put, List.setIfInBounds_toArray, List.set_cons_zero, List.set_cons_succ]
        refine ho_skip 3 (some 47) rfl rfl (by kernel_rfl) (by kernel_rfl) (by kernel_rfl) (fun _ _ _ h => h) (by kernel_rfl) (by assumption) ?_; simp only [Act.put, List.setIfInBounds_toArray, List.set_cons_zero, List.set_cons_succ]
        refine ho_skip 4 (some 48) rfl rfl (by kernel_rfl) (by kernel_rfl) (by kernel_rfl) (fun _ _ _ h => h) (by kernel_rfl) (by assumption) ?_; simp only [Act.put, List.setIfInBounds_toArray, List.set_cons_zero, List.set_cons_succ]
        refine ho_skip 5 (some 49) rfl rfl (by kernel_rfl) (by kernel_rfl) (by kernel_rfl) (fun _ _ _ h => h) (by kernel_rfl) (by assumption) ?_; simp only [Act.put, List.setIfInBounds_toArray, List.set_cons_zero, List.set_cons_succ]
        refine ho_skip 6 (some 50) rfl rfl (by kernel_rfl) (by kernel_rfl) (by kernel_rfl) (fun _ _ _ h => h) (by kernel_rfl) (by assumption) ?_; simp only [Act.put, List.setIfInBounds_toArray, List.set_cons_zero, List.set_cons_succ]
        refine ho_skip 7 (some 51) rfl rfl (by kernel_rfl) (by kernel_rfl) (by kernel_rfl) (fun _ _ _ h => h) (by kernel_rfl) (by assumption) ?_; simp only [Act.put, List.setIfInBounds_toArray, List.set_cons_zero, List.set_cons_succ]
        refine ho_skip 8 (some 52) rfl rfl (by kernel_rfl) (by kernel_rfl) (by kernel_rfl) (fun _ _ _ h => h) (by kernel_rfl) (by assumption) ?_; simp only [Act.put, List.setIfInBounds_toArray, List.set_cons_zero, List.set_cons_succ]
        refine ho_skip 9 (some 53) rfl rfl (by kernel_rfl) (by kernel_rfl) (by kernel_rfl) (fun _ _ _ h => h) (by kernel_rfl) (by assumption) ?_; simp only [Act.put, List.setIfInBounds_toArray, List.set_cons_zero, List.set_cons_succ]
        refine ho_skip 10 (some 54) rfl rfl (by kernel_rfl) (by kernel_rfl) (by kernel_rfl) (fun _ _ _ h => h) (by kernel_rfl) (by assumption) ?_; simp only [Act.put, List.setIfInBounds_toArray, List.set_cons_zero, List.set_cons_succ]
        refine ho_skip 11 (some 55) rfl rfl (by kernel_rfl) (by kernel_rfl) (by kernel_rfl) (fun _ _ _ h => h) (by kernel_rfl) (by assumption) ?_; simp only [Act.put, List.setIfInBounds_toArray, List.set_cons_zero, List.set_cons_succ]
        refine ho_val (v := ?_) 12 (some 56) rfl rfl (by kernel_rfl) (by kernel_rfl) (by kernel_rfl) (fun _ _ _ h => h) (by kernel_rfl) (fun w hSw => ?_) (by assumption) ?_
        rotate_left
        · ((try dsimp only at hSw); go_simp; try with_reducible rfl)
        simp only [Act.put, List.setIfInBounds_toArray, List.set_cons_zero, List.set_cons_succ]
        refine wpAnyH_done (by kernel_rfl) ?_ _
        clear hHeld RD
        obtain ⟨W1, hW1⟩ : ∃ V, World.drew wr = V := ⟨_, rfl⟩
        have hr1 := HR.out.drew
        rw [hW1] at hr1 ⊢
        have HR1 := Lib.hid hr1
        clear hW1 hr1
        have RD2 : Hid (∀ v, Below W1.heap.size W1 v → Below W1.heap.size W1 v ∧ v.cell? ⟨w.heap.size + 1, 0, none⟩ = some (.string p.key) ∧ v.cell? ⟨w.heap.size, 1, none⟩ = some (.slice (some ⟨g, o, none⟩) wn wc) ∧ v.cell? ⟨g, o + k * 3, none⟩ = some (.string x.key)) := Lib.hid fun v hv => ⟨hv, (HR1.out.pbx.below hv).cell 0, (HR1.out.box.below hv).cell 1, ((HD.out.wr.1.below (keeps HR1.out.bel hv)).at_ k x HX.out).2 0 _ rfl⟩
        go_wp2_with fail
        refine wp_region_held_drew (S := fun v => Below W1.heap.size W1 v ∧ v.cell? ⟨w.heap.size + 1, 0, none⟩ = some (.string p.key) ∧ v.cell? ⟨w.heap.size, 1, none⟩ = some (.slice (some ⟨g, o, none⟩) wn wc) ∧ v.cell? ⟨g, o + k * 3, none⟩ = some (.string x.key)) (by kernel_rfl) (RD2.out _ (Below.drew (Below.refl _ _))) (fun hHeld => ?_)
        refine ho_val (v := ?_) 0 (some 61) rfl rfl (by kernel_rfl) (by kernel_rfl) (by kernel_rfl) (fun _ _ _ h => h) (by kernel_rfl) (fun w hSw => ?_) (by assumption) ?_
        rotate_left
        · ((try dsimp only at hSw); go_simp; try with_reducible rfl)
        simp only [Act.put, List.setIfInBounds_toArray, List.set_cons_zero, List.set_cons_succ]
        refine ho_val (v := ?_) 1 (some 62) rfl rfl (by kernel_rfl) (by kernel_rfl) (by kernel_rfl) (fun _ _ _ h => h) (by kernel_rfl) (fun w hSw => ?_) (by assumption) ?_
        rotate_left
        · ((try dsimp only at hSw); go_simp; try with_reducible rfl)
        simp only [Act.put, List.setIfInBounds_toArray, List.set_cons_zero, List.set_cons_succ]
        refine ho_val (v := ?_) 2 (some 63) rfl rfl (by kernel_rfl) (by kernel_rfl) (by kernel_rfl) (fun _ _ _ h => h) (by kernel_rfl) (fun w hSw => ?_) (by assumption) ?_
        rotate_left
        · ((try dsimp only at hSw); go_simp; try with_reducible rfl)
        simp only [Act.put, List.setIfInBounds_toArray, List.set_cons_zero, List.set_cons_succ]
        refine ho_val (v := ?_) 3 (some 64) rfl rfl (by kernel_rfl) (by kernel_rfl) (by kernel_rfl) (fun _ _ _ h => h) (by kernel_rfl) (fun w hSw => ?_) (by assumption) ?_
        rotate_left
        · ((try dsimp only at hSw); go_simp; try with_reducible rfl)
        simp only [Act.put, List.setIfInBounds_toArray, List.set_cons_zero, List.set_cons_succ]
        refine ho_val (v := ?_) 4 (some 65) rfl rfl (by kernel_rfl) (by kernel_rfl) (by kernel_rfl) (fun _ _ _ h => h) (by kernel_rfl) (fun w hSw => ?_) (by assumption) ?_
        rotate_left
        · ((try dsimp only at hSw); go_simp; try with_reducible rfl)
        simp only [Act.put, List.setIfInBounds_toArray, List.set_cons_zero, List.set_cons_succ]
        refine ho_val (v := ?_) 5 (some 66) rfl rfl (by kernel_rfl) (by kernel_rfl) (by kernel_rfl) (fun _ _ _ h => h) (by kernel_rfl) (fun w hSw => ?_) (by assumption) ?_
        rotate_left
        · ((try dsimp only at hSw); go_simp; try with_reducible rfl)
        simp only [Act.put, List.setIfInBounds_toArray, List.set_cons_zero, List.set_cons_succ]
        refine ho_val (v := ?_) 6 (some 67) rfl rfl (by kernel_rfl) (by kernel_rfl) (by kernel_rfl) (fun _ _ _ h => h) (by kernel_rfl) (fun w hSw => ?_) (by assumption) ?_
        rotate_left
        · ((try dsimp only at hSw); go_simp; try with_reducible rfl)
        simp only [Act.put, List.setIfInBounds_toArray, List.set_cons_zero, List.set_cons_succ]
        refine ho_val (v := ?_) 7 (some 68) rfl rfl (by kernel_rfl) (by kernel_rfl) (by kernel_rfl) (fun _ _ _ h => h) (by kernel_rfl) (fun w hSw => ?_) (by assumption) ?_
        rotate_left
        · ((try dsimp only at hSw); go_simp; try with_reducible rfl)
        simp only [Act.put, List.setIfInBounds_toArray, List.set_cons_zero, List.set_cons_succ]
        refine ho_val (v := ?_) 8 (some 69) rfl rfl (by kernel_rfl) (by kernel_rfl) (by kernel_rfl) (fun _ _ _ h => h) (by kernel_rfl) (fun w hSw => ?_) (by assumption) ?_
        rotate_left
        · ((try dsimp only at hSw); go_simp; try with_reducible rfl)
        simp only [Act.put, List.setIfInBounds_toArray, List.set_cons_zero, List.set_cons_succ]
        refine wpAnyH_done (by kernel_rfl) ?_ _
        clear hHeld RD2
        obtain ⟨W4, hW4⟩ : ∃ V, World.drew W1 = V := ⟨_, rfl⟩
        have hr4 := HR1.out.drew
        rw [hW4] at hr4 ⊢
        have HR4 := Lib.hid hr4
        clear hW4 hr4
        have y0 : W4.cell? ⟨g, o + k * 3, none⟩ = some (.string x.key) := ((HD.out.wr.1.below HR4.out.bel).at_ k x HX.out).2 0 _ rfl
        have y1 : W4.cell? ⟨g, o + k * 3 + 1, none⟩ = some (.string x.value) := ((HD.out.wr.1.below HR4.out.bel).at_ k x HX.out).2 1 _ rfl
        have y2 : W4.cell? ⟨g, o + k * 3 + 2, none⟩ = some (.bool x.gone) := ((HD.out.wr.1.below HR4.out.bel).at_ k x HX.out).2 2 _ rfl
        have a1 : W4.cell? ⟨w.heap.size, 1, none⟩ = some (.slice (some ⟨g, o, none⟩) wn wc) := HR4.out.box.cell 1
        go_wp2_with ((with_reducible refine pick (some 77) ?_); refine wpList_append_lst prE 69 rfl _ _ _ rfl Try.underlying25 info_pair rfl (w.heap.size + 3) _ _ M rfl (HR4.out.own.below ((Below.refl _ _).alloc (Nat.le_refl _) _)) W4.heap.size 0 1 1 [x] rfl (Sl.new_ prE W4 _ (x) _ rfl) _ rfl (M ++ [x]) rfl (by unfold maxLen; (try simp only [List.length_append, List.length_cons, List.length_nil]); omega) (by (try simp only [List.length_append, List.length_cons, List.length_nil]); omega) (by have := HR4.out.siz; simp; omega) ?_; intro v5 w5 ho5 hg5 _ _; have HR5 := Lib.hid (Wd.app (x := x) HR4.out hg5 ho5 rfl); clear ho5 hg5)
        go_roundw
        case rel => exact ⟨k + 1, by omega, by go_num, rfl, by rw [HS.out]; exact HR5⟩
        case measure => simp [intOf]; omega
    · obtain rfl : k = wn := by omega
      have e : s.wr.take k = s.wr := List.take_of_length_le (by rw [HLN.out]; exact Nat.le_refl _)
      rw [e] at HR hml
      try rw [e]
      obtain ⟨M, hMM⟩ : ∃ M, cutL p.key s.wr = M := ⟨_, rfl⟩
      rw [hMM] at HR hml
      have HPUT : Hid (writeW s.base s.wr p = M) := Lib.hid (HPUT0.out.trans hMM)
      clear hMM e
      obtain ⟨h, hv, hss, hbk⟩ := own_sl HR.out.own
      subst hv
      have HSS := Lib.hid hss
      have HBK := Lib.hid hbk
      have b2 : wr.cell? ⟨w.heap.size, 1, none⟩ = some (.slice wa k wc) := HR.out.box.cell 1
      have bf : wr.frozen? ⟨w.heap.size, 1, none⟩ = false := HR.out.box.frozen 1
      clear hss hbk
      go_upto_region 18 with (fail)
      obtain ⟨W5, hW5⟩ : ∃ W5, wr.setCell ⟨w.heap.size, 1, none⟩ (.slice h.a h.n h.c) = W5 := ⟨_, rfl⟩
      have q1 : Blk W5 w.heap.size #[.slice b.a b.n b.c, .slice h.a h.n h.c, .slice rd.a rd.n rd.c, .slice rg.a rg.n rg.c] 32 := by rw [← hW5]; exact HR.out.box.set_ 1 _
      have q2 : Blk W5 (w.heap.size + 2) zeroV 32 := by rw [← hW5]; exact HR.out.res.far (by simp) _
      have q3 : Below w.heap.size w W5 := by rw [← hW5]; exact HR.out.bel.setCell (Nat.le_refl _) _
      have q4 : Ss prE W5 h M := by
        rw [← hW5]
        exact ⟨sl_far HSS.out.1 (fun bb oo hh => by have := HBK.out bb oo hh; simp; omega) _, HSS.out.2⟩
      change Code.wp _ _ _ _ (wr.setCell ⟨w.heap.size, 1, none⟩ (.slice h.a h.n h.c))
      rw [hW5]
      have HW4 := Lib.hid q4
      have HQ1 := Lib.hid q1
      have HQ2 := Lib.hid q2
      have HQ3 := Lib.hid q3
      clear q1 q2 q3 q4 hW5 b2 bf
      obtain ⟨d0, d1, d2, d3⟩ : W5.cell? ⟨w.heap.size, 0, none⟩ = some (.slice b.a b.n b.c) ∧ W5.cell? ⟨w.heap.size, 1, none⟩ = some (.slice h.a h.n h.c) ∧ W5.cell? ⟨w.heap.size, 2, none⟩ = some (.slice rd.a rd.n rd.c) ∧ W5.cell? ⟨w.heap.size, 3, none⟩ = some (.slice rg.a rg.n rg.c) := ⟨HQ1.out.cell 0, HQ1.out.cell 1, HQ1.out.cell 2, HQ1.out.cell 3⟩
      obtain ⟨r0, r1, r2, r3⟩ : W5.cell? ⟨w.heap.size + 2, 0, none⟩ = some (.slice none 0 0) ∧ W5.cell? ⟨w.heap.size + 2, 1, none⟩ = some (.slice none 0 0) ∧ W5.cell? ⟨w.heap.size + 2, 2, none⟩ = some (.slice none 0 0) ∧ W5.cell? ⟨w.heap.size + 2, 3, none⟩ = some (.slice none 0 0) := ⟨HQ2.out.cell 0, HQ2.out.cell 1, HQ2.out.cell 2, HQ2.out.cell 3⟩
      obtain ⟨f0, f1, f2, f3⟩ : W5.frozen? ⟨w.heap.size + 2, 0, none⟩ = false ∧ W5.frozen? ⟨w.heap.size + 2, 1, none⟩ = false ∧ W5.frozen? ⟨w.heap.size + 2, 2, none⟩ = false ∧ W5.frozen? ⟨w.heap.size + 2, 3, none⟩ = false := ⟨HQ2.out.frozen 0, HQ2.out.frozen 1, HQ2.out.frozen 2, HQ2.out.frozen 3⟩
      go_region_law (fail)
      all_goals go_wp2_with fail
      have hz : Blk ((((W5.setCell ⟨w.heap.size + 2, 0, none⟩ (.slice b.a b.n b.c)).setCell ⟨w.heap.size + 2, 1, none⟩ (.slice h.a h.n h.c)).setCell ⟨w.heap.size + 2, 2, none⟩ (.slice rd.a rd.n rd.c)).setCell ⟨w.heap.size + 2, 3, none⟩ (.slice rg.a rg.n rg.c)).drew (w.heap.size + 2) #[.slice b.a b.n b.c, .slice h.a h.n h.c, .slice rd.a rd.n rd.c, .slice rg.a rg.n rg.c] 32 := ((((HQ2.out.set_ 0 (.slice b.a b.n b.c)).set_ 1 (.slice h.a h.n h.c)).set_ 2 (.slice rd.a rd.n rd.c)).set_ 3 (.slice rg.a rg.n rg.c)).drew
      have hbz : Below w.heap.size w ((((W5.setCell ⟨w.heap.size + 2, 0, none⟩ (.slice b.a b.n b.c)).setCell ⟨w.heap.size + 2, 1, none⟩ (.slice h.a h.n h.c)).setCell ⟨w.heap.size + 2, 2, none⟩ (.slice rd.a rd.n rd.c)).setCell ⟨w.heap.size + 2, 3, none⟩ (.slice rg.a rg.n rg.c)).drew := ((((HQ3.out.setCell (by simp) _).setCell (by simp) _).setCell (by simp) _).setCell (by simp) _).drew
      refine bodyPost_ret (v := .tuple #[.bool true, .agg #[.slice b.a b.n b.c, .slice h.a h.n h.c, .slice rd.a rd.n rd.c, .slice rg.a rg.n rg.c]]) (results_tmp1_row rfl _ _ (w.heap.size + 2) 32 _ (0, 0) _ rfl (.bool true) rfl hz Try.underlying32 rfl info_view) rfl ?_
      have hne : ∀ (q : Nat) (bb oo : Nat), h.a = some ⟨bb, oo, none⟩ → bb ≠ (⟨w.heap.size + 2, q, none⟩ : Addr).block := fun q bb oo hh => by have := HBK.out bb oo hh; simp; omega
      have hfin : Ss prE ((((W5.setCell ⟨w.heap.size + 2, 0, none⟩ (.slice b.a b.n b.c)).setCell ⟨w.heap.size + 2, 1, none⟩ (.slice h.a h.n h.c)).setCell ⟨w.heap.size + 2, 2, none⟩ (.slice rd.a rd.n rd.c)).setCell ⟨w.heap.size + 2, 3, none⟩ (.slice rg.a rg.n rg.c)).drew h M := Ss.below (w := (((W5.setCell ⟨w.heap.size + 2, 0, none⟩ (.slice b.a b.n b.c)).setCell ⟨w.heap.size + 2, 1, none⟩ (.slice h.a h.n h.c)).setCell ⟨w.heap.size + 2, 2, none⟩ (.slice rd.a rd.n rd.c)).setCell ⟨w.heap.size + 2, 3, none⟩ (.slice rg.a rg.n rg.c)) ⟨sl_far (sl_far (sl_far (sl_far HW4.out.1 (hne 0) _) (hne 1) _) (hne 2) _) (hne 3) _, HW4.out.2⟩ ((Below.refl _ _).drew)
      refine ⟨h, by rw [HF.out]; rfl, ?_, hbz, .inr fun bb oo hh => Nat.le_trans (Nat.le_add_right _ _) (HBK.out bb oo hh)⟩
      have hsame : s.write p = { s with wr := writeW s.base s.wr p } := by unfold Vs.write; rw [if_neg (by rw [HF.out]; decide)]
      rw [hsame]
      refine ⟨HD.out.base.below hbz, ?_, HD.out.rd.below hbz, HD.out.rg.below hbz⟩
      show Ss prE _ _ (writeW s.base s.wr p)
      rw [HPUT.out]
      exact hfin

end Go.Proofs.Ytdnenikplajmaaa.ViewW
