/- Layer 14's laws: operations that range over keys, and that write. -/
import Derived.Test.YtdnenikplajmaaaViewD
namespace Go.Proofs.Ytdnenikplajmaaa.ViewDw
set_option linter.unusedVariables false
set_option linter.unusedSimpArgs false
open Go.RowKit
open Go.Proofs.Ytdnenikplajmaaa.ViewD Go.Proofs.Ytdnenikplajmaaa.Byte Go.Proofs.Ytdnenikplajmaaa.KeysM Go.Proofs.Ytdnenikplajmaaa.TreeM Go.Proofs.Ytdnenikplajmaaa.ViewM Go.Proofs.Ytdnenikplajmaaa.Own Go.Proofs.Ytdnenikplajmaaa.Rw Go.Proofs.Ytdnenikplajmaaa.Lst Go.Proofs.Ytdnenikplajmaaa.Chg Go.Proofs.Ytdnenikplajmaaa.TreeR Go.Proofs.Ytdnenikplajmaaa.TreeS Go.Proofs.Ytdnenikplajmaaa.TreeL Go.Proofs.Ytdnenikplajmaaa.TreeG Go.Proofs.Ytdnenikplajmaaa.TreeH Go.Proofs.Ytdnenikplajmaaa.Ho Go.Proofs.Ytdnenikplajmaaa.ViewR Go.Proofs.Ytdnenikplajmaaa.ViewG Go.Proofs.Ytdnenikplajmaaa.ViewW Go.Proofs.Ytdnenikplajmaaa.ViewWa Go.Proofs.Ytdnenikplajmaaa.ViewS Go.Proofs.Ytdnenikplajmaaa.ViewL Go.Proofs.Ytdnenikplajmaaa.ViewF Go.Proofs.Ytdnenikplajmaaa.ViewB
variable {Rep : World → Value → Vs → (Nat → Prop) → (Nat → Prop) → Prop}

set_option maxRecDepth 100000 in
set_option maxHeartbeats 8000000 in
theorem do_range (hS : Stays Rep) (hX : RangeOk Rep) (v : Value) (s : Vs) (S D : Nat → Prop) (b wt rd rg : Sh) (key value : ByteArray) (w : World) (hr : Rep w v s S D) (hd : DvF w s b wt rd rg S) (hlim : Lim s) (hk1 : key.size ≤ 100) (hk2 : value.size ≤ 100) :
    Calls Try.prog 11 #[v, .agg #[.slice b.a b.n b.c, .slice wt.a wt.n wt.c, .slice rd.a rd.n rd.c, .slice rg.a rg.n rg.c], .agg #[.int .i64 2, .string key, .string value]] w (DoR Rep v (s.ranged key value) b wt rd rg S D w) := by
  have hok := hS.ok hr
  have hlt := hS.lt hr
  have hsub := hS.sub hr
  have hW0 : ∃ W0, ((w.alloc (.cells #[.slice b.a b.n b.c, .slice wt.a wt.n wt.c, .slice rd.a rd.n rd.c, .slice rg.a rg.n rg.c] 32)).alloc (.cells #[.int .i64 2, .string key, .string value] 35)).alloc (.cells zeroV 32) = W0 ∧ Blk W0 w.heap.size #[.slice b.a b.n b.c, .slice wt.a wt.n wt.c, .slice rd.a rd.n rd.c, .slice rg.a rg.n rg.c] 32 ∧ Blk W0 (w.heap.size + 1) #[.int .i64 2, .string key, .string value] 35 ∧ Blk W0 (w.heap.size + 2) zeroV 32 ∧ Below w.heap.size w W0 ∧ W0.heap.size = w.heap.size + 3 :=
    ⟨_, rfl, ((Blk.new_ _ _ _).alloc _).alloc _, by have h := (Blk.new_ (w.alloc (.cells #[.slice b.a b.n b.c, .slice wt.a wt.n wt.c, .slice rd.a rd.n rd.c, .slice rg.a rg.n rg.c] 32)) #[.int .i64 2, .string key, .string value] 35).alloc (.cells zeroV 32); simpa using h, by have h := Blk.new_ ((w.alloc (.cells #[.slice b.a b.n b.c, .slice wt.a wt.n wt.c, .slice rd.a rd.n rd.c, .slice rg.a rg.n rg.c] 32)).alloc (.cells #[.int .i64 2, .string key, .string value] 35)) zeroV 32; simpa using h, (((Below.refl _ _).alloc (Nat.le_refl _) _).alloc (by simp <;> omega) _).alloc (by simp <;> omega) _, by simp⟩
  obtain ⟨W0, e0, q1, q2, q3, q4, q5⟩ := hW0
  have HRP := Lib.hid (hS.below hr q4)
  have HDV := Lib.hid (hd.below q4)
  have HD0 := Lib.hid hd
  have HS := Lib.hid hS
  have HX := Lib.hid hX
  have HLM := Lib.hid hlim
  have HOK := Lib.hid hok
  have HLT := Lib.hid hlt
  have HSB := Lib.hid hsub
  have E0 := Lib.hid e0
  have Q1 := Lib.hid q1
  have Q2 := Lib.hid q2
  have Q3 := Lib.hid q3
  have Q4 := Lib.hid q4
  have Q5 := Lib.hid q5
  have HK1 := Lib.hid hk1
  have HK2 := Lib.hid hk2
  have hn0 : ¬ S w.heap.size := fun h => by have := hlt _ (hsub _ h); omega
  have hn1 : ¬ S (w.heap.size + 1) := fun h => by have := hlt _ (hsub _ h); omega
  have hn2 : ¬ S (w.heap.size + 2) := fun h => by have := hlt _ (hsub _ h); omega
  have HN0 := Lib.hid hn0
  have HN1 := Lib.hid hn1
  have HN2 := Lib.hid hn2
  clear hd hr hok hlim hlt hsub hX hS e0 q1 q2 q3 q4 q5 hk1 hk2 hn0 hn1 hn2
  go_enter Try.func11, Try.ntmps11
  go_upto_region 1 with (fail)
  change Code.wp _ _ _ _ (((w.alloc (.cells #[.slice b.a b.n b.c, .slice wt.a wt.n wt.c, .slice rd.a rd.n rd.c, .slice rg.a rg.n rg.c] 32)).alloc (.cells #[.int .i64 2, .string key, .string value] 35)).alloc (.cells zeroV 32))
  rw [E0.out]
  have a0 : W0.cell? ⟨w.heap.size + 1, 0, none⟩ = some (.int .i64 2) := Q2.out.cell 0
  have a1 : W0.cell? ⟨w.heap.size + 1, 1, none⟩ = some (.string key) := Q2.out.cell 1
  have a2 : W0.cell? ⟨w.heap.size + 1, 2, none⟩ = some (.string value) := Q2.out.cell 2
  have hlt := HLT.out
  clear hlt
  go_upto_region 12 with (first
    | ((with_reducible refine pick (some 81) ?_); refine load_blk rfl 32 _ rfl w.heap.size rfl 32 #[.slice b.a b.n b.c, .slice wt.a wt.n wt.c, .slice rd.a rd.n rd.c, .slice rg.a rg.n rg.c] _ Q1.out Try.underlying32 rfl info_view ?_)
    | (go_at_call 30; refine (refrange_view s b wt rd rg key value _ HDV.out.dv (by have := HLM.out.base; omega) HLM.out.rg HOK.out).mono ?_; rintro e w2 ⟨r, rg', rfl, hs2, hd2, hb2, hn2, hg2⟩; have HS2 := Lib.hid hs2; have HD2 := Lib.hid hd2; have HB2 := Lib.hid hb2; have HNW := Lib.hid hn2; have HGW := Lib.hid hg2; have HR2 := Lib.hid (HS.out.below HRP.out hb2); have Q1c := Lib.hid (Q1.out.below hb2); have Q2c := Lib.hid (Q2.out.below hb2); have Q3c := Lib.hid (Q3.out.below hb2); have HDV2 : Hid (DvF w2 (s.ranged key value) b wt rd rg' S) := Lib.hid ⟨hd2, HDV.out.fb, HDV.out.fw, HDV.out.fr, off_eithers HDV.out.fg (fun q hq => by have h1 := HLT.out q (HSB.out q hq); have h2 := Q5.out; omega) hg2⟩; clear hs2 hd2 hb2 hn2 hg2))
  obtain ⟨W3, hW3⟩ : ∃ W3, w2.alloc (.cells #[.slice b.a b.n b.c, .slice wt.a wt.n wt.c, .slice rd.a rd.n rd.c, .slice rg'.a rg'.n rg'.c] 32) = W3 := ⟨_, rfl⟩
  have hb3 : Below w2.heap.size w2 W3 := by rw [← hW3]; exact (Below.refl _ _).alloc (Nat.le_refl _) _
  have hk3 : Blk W3 w2.heap.size #[.slice b.a b.n b.c, .slice wt.a wt.n wt.c, .slice rd.a rd.n rd.c, .slice rg'.a rg'.n rg'.c] 32 := by rw [← hW3]; exact Blk.new_ _ _ _
  change Code.wp _ _ _ _ (w2.alloc (.cells #[.slice b.a b.n b.c, .slice wt.a wt.n wt.c, .slice rd.a rd.n rd.c, .slice rg'.a rg'.n rg'.c] 32))
  rw [hW3]
  have HB3 := Lib.hid hb3
  have HK3 := Lib.hid hk3
  have HR3 := Lib.hid (HS.out.below HR2.out hb3)
  have Q1d := Lib.hid (Q1c.out.below hb3)
  have Q2d := Lib.hid (Q2c.out.below hb3)
  have Q3d := Lib.hid (Q3c.out.below hb3)
  have HDV3 := Lib.hid (HDV2.out.below hb3)
  clear hW3 hb3 hk3
  have HRW := Lib.hid (HS2.out.below HB3.out)
  have hoff : Off S r := fun _ q o e hq => by
    have h1 := HNW.out q o e
    have h2 := HLT.out q (HSB.out q hq)
    have h3 := Q5.out
    omega
  have HOF := Lib.hid hoff
  have hlen : (s.rangeOf key value).length ≤ 1000 := by
    have h1 := shown_len s.base s.wr
    have h2 := HLM.out.base
    have h3 := HOK.out.lw
    unfold Vs.rangeOf
    split
    · have h4 : (rangeL key value s.shown).length ≤ s.shown.length := List.length_filter_le _ _
      have h5 : s.shown.length = (shownL s.base s.wr).length := rfl
      omega
    · simp
  have HLE := Lib.hid hlen
  clear hoff hlen
  have RD : Hid (∀ v, Chg (fun k => S k ∨ k = w.heap.size + 2) W3 v → Chg (fun k => S k ∨ k = w.heap.size + 2) W3 v ∧ v.cell? ⟨w.heap.size + 1, 1, none⟩ = some (.string key) ∧ v.cell? ⟨w.heap.size + 1, 2, none⟩ = some (.string value) ∧ v.cell? ⟨w2.heap.size, 0, none⟩ = some (.slice b.a b.n b.c) ∧ v.cell? ⟨w2.heap.size, 1, none⟩ = some (.slice wt.a wt.n wt.c) ∧ v.cell? ⟨w2.heap.size, 2, none⟩ = some (.slice rd.a rd.n rd.c) ∧ v.cell? ⟨w2.heap.size, 3, none⟩ = some (.slice rg'.a rg'.n rg'.c)) := Lib.hid fun v hv => (by
    have h1 := blk_chg Q2d.out hv (fun h => by rcases h with h | h; exact HN1.out h; omega)
    have h2 := blk_chg HK3.out hv (fun h => by
      have hz := Q5.out
      have hs := HB2.out.size
      rcases h with h | h
      · have := HLT.out _ (HSB.out _ h)
        omega
      · omega)
    exact ⟨hv, h1.cell 1, h1.cell 2, h2.cell 0, h2.cell 1, h2.cell 2, h2.cell 3⟩)
  refine wp_region_held_drew (S := fun v => Chg (fun k => S k ∨ k = w.heap.size + 2) W3 v ∧ v.cell? ⟨w.heap.size + 1, 1, none⟩ = some (.string key) ∧ v.cell? ⟨w.heap.size + 1, 2, none⟩ = some (.string value) ∧ v.cell? ⟨w2.heap.size, 0, none⟩ = some (.slice b.a b.n b.c) ∧ v.cell? ⟨w2.heap.size, 1, none⟩ = some (.slice wt.a wt.n wt.c) ∧ v.cell? ⟨w2.heap.size, 2, none⟩ = some (.slice rd.a rd.n rd.c) ∧ v.cell? ⟨w2.heap.size, 3, none⟩ = some (.slice rg'.a rg'.n rg'.c)) (by kernel_rfl) (RD.out _ (Chg.refl _ _).drew) (fun hHeld => ?_)
  refine ho_val (v := ?_) 0 (some 89) rfl rfl (by kernel_rfl) (by kernel_rfl) (by kernel_rfl) (fun _ _ _ h => h) (by kernel_rfl) (fun w hSw => ?_) (by assumption) ?_
  rotate_left
  · ((try dsimp only at hSw); go_simp; try with_reducible rfl)
  simp only [Act.put, List.setIfInBounds_toArray, List.set_cons_zero, List.set_cons_succ]
  refine ho_val (v := ?_) 1 (some 90) rfl rfl (by kernel_rfl) (by kernel_rfl) (by kernel_rfl) (fun _ _ _ h => h) (by kernel_rfl) (fun w hSw => ?_) (by assumption) ?_
  rotate_left
  · ((try dsimp only at hSw); go_simp; try with_reducible rfl)
  simp only [Act.put, List.setIfInBounds_toArray, List.set_cons_zero, List.set_cons_succ]
  refine ho_val (v := ?_) 2 (some 91) rfl rfl (by kernel_rfl) (by kernel_rfl) (by kernel_rfl) (fun _ _ _ h => h) (by kernel_rfl) (fun w hSw => ?_) (by assumption) ?_
  rotate_left
  · ((try dsimp only at hSw); go_simp; try with_reducible rfl)
  simp only [Act.put, List.setIfInBounds_toArray, List.set_cons_zero, List.set_cons_succ]
  refine ho_val (v := ?_) 3 (some 92) rfl rfl (by kernel_rfl) (by kernel_rfl) (by kernel_rfl) (fun _ _ _ h => h) (by kernel_rfl) (fun w hSw => ?_) (by assumption) ?_
  rotate_left
  · ((try dsimp only at hSw); go_simp; try with_reducible rfl)
  simp only [Act.put, List.setIfInBounds_toArray, List.set_cons_zero, List.set_cons_succ]
  refine ho_val (v := ?_) 4 (some 93) rfl rfl (by kernel_rfl) (by kernel_rfl) (by kernel_rfl) (fun _ _ _ h => h) (by kernel_rfl) (fun w hSw => ?_) (by assumption) ?_
  rotate_left
  · ((try dsimp only at hSw); go_simp; try with_reducible rfl)
  simp only [Act.put, List.setIfInBounds_toArray, List.set_cons_zero, List.set_cons_succ]
  refine ho_val (v := ?_) 6 (some 95) rfl rfl (by kernel_rfl) (by kernel_rfl) (by kernel_rfl) (fun _ _ _ h => h) (by kernel_rfl) (fun w hSw => ?_) (by assumption) ?_
  rotate_left
  · ((try dsimp only at hSw); go_simp; try with_reducible rfl)
  simp only [Act.put, List.setIfInBounds_toArray, List.set_cons_zero, List.set_cons_succ]
  refine ho_val (v := ?_) 8 (some 97) rfl rfl (by kernel_rfl) (by kernel_rfl) (by kernel_rfl) (fun _ _ _ h => h) (by kernel_rfl) (fun w hSw => ?_) (by assumption) ?_
  rotate_left
  · ((try dsimp only at hSw); go_simp; try with_reducible rfl)
  simp only [Act.put, List.setIfInBounds_toArray, List.set_cons_zero, List.set_cons_succ]
  refine ho_step 5 (some 94) rfl rfl (by kernel_rfl) (by kernel_rfl) (fun K hK => ?_)
  go_simp
  (refine (HX.out key value (HS.out.below HR3.out (Below.drew (Below.refl _ _))) HLM.out (by have := HK1.out; omega) (by have := HK2.out; omega)).mono ?_; rintro e w4 ⟨r4, S4, D4, rfl, hsl, _, hr4, hst⟩; have HST := Lib.hid hst; have hx4 : Chg (fun k => S k ∨ k = w.heap.size + 2) W3 w4 := (Chg.refl _ _).drew.trans (hst.chg.mono (fun _ _ h => .inl h)); have HX4 := Lib.hid hx4; have HC4 : Hid (Chg S W3 w4) := Lib.hid ((Chg.refl _ _).drew.trans hst.chg); have HR4 := Lib.hid hr4; have HDV4 := Lib.hid ((HDV3.out.below (Below.drew (Below.refl _ _))).next hst.chg hst.own); have Q3e := Lib.hid (blk_chg Q3d.out HC4.out HN2.out); have HKP := Lib.hid (Kept.trans (Kept.of_below (Below.drew (Below.refl _ _))) hst.kept); have HSL := Lib.hid hsl; have HRR := Lib.hid (ss_chg (HRW.out.below (Below.drew (Below.refl _ _))) hst.chg HOF.out); clear hsl; clear hst hr4)
  try go_wp2_with fail
  refine hK.out _ _ (RD.out _ hx4) (fun hHeld2 => ?_)
  clear hHeld
  have hHeld := hHeld2
  clear hHeld2
  clear hK K
  try simp only [Act.put, List.setIfInBounds_toArray, List.set_cons_zero, List.set_cons_succ]
  refine ho_step 7 (some 96) rfl rfl (by kernel_rfl) (by kernel_rfl) (fun K hK => ?_)
  go_simp
  (refine (refsame_calls _ _ _ _ _ _ _ _ _ HSL.out HRR.out.1 (by rw [← HSL.out.1]; have := HLE.out; omega) (by rw [← HRR.out.1.1]; have := HLE.out; omega) rfl).mono ?_; rintro e w5 ⟨rfl, hb5⟩; have hx5 : Chg (fun k => S k ∨ k = w.heap.size + 2) W3 w5 := HX4.out.trans (Chg.of_below hb5); have HC5 := Lib.hid (HC4.out.trans (Chg.of_below hb5)); have HR5 := Lib.hid (HS.out.below HR4.out hb5); have HDV5 := Lib.hid (HDV4.out.below hb5); have HKP5 := Lib.hid (Kept.trans HKP.out (Kept.of_below hb5)); have Q3f := Lib.hid (Q3e.out.below hb5); clear hb5)
  try go_wp2_with fail
  refine hK.out _ _ (RD.out _ hx5) (fun hHeld2 => ?_)
  clear hHeld
  have hHeld := hHeld2
  clear hHeld2
  clear hK K
  try simp only [Act.put, List.setIfInBounds_toArray, List.set_cons_zero, List.set_cons_succ]
  refine ho_val (v := ?_) 9 (some 6) rfl rfl (by kernel_rfl) (by kernel_rfl) (by kernel_rfl) (fun _ _ _ h => h) (by kernel_rfl) (fun w hSw => ?_) (by assumption) ?_
  rotate_left
  · ((try dsimp only at hSw); go_simp; try with_reducible rfl)
  simp only [Act.put, List.setIfInBounds_toArray, List.set_cons_zero, List.set_cons_succ]
  refine ho_step 10 none rfl rfl (by kernel_rfl) (by kernel_rfl) (fun K hK => ?_)
  obtain ⟨r0, r1, r2, r3⟩ : w5.cell? ⟨w.heap.size + 2, 0, none⟩ = some (.slice none 0 0) ∧ w5.cell? ⟨w.heap.size + 2, 1, none⟩ = some (.slice none 0 0) ∧ w5.cell? ⟨w.heap.size + 2, 2, none⟩ = some (.slice none 0 0) ∧ w5.cell? ⟨w.heap.size + 2, 3, none⟩ = some (.slice none 0 0) := ⟨Q3f.out.cell 0, Q3f.out.cell 1, Q3f.out.cell 2, Q3f.out.cell 3⟩
  obtain ⟨f0, f1, f2, f3⟩ : w5.frozen? ⟨w.heap.size + 2, 0, none⟩ = false ∧ w5.frozen? ⟨w.heap.size + 2, 1, none⟩ = false ∧ w5.frozen? ⟨w.heap.size + 2, 2, none⟩ = false ∧ w5.frozen? ⟨w.heap.size + 2, 3, none⟩ = false := ⟨Q3f.out.frozen 0, Q3f.out.frozen 1, Q3f.out.frozen 2, Q3f.out.frozen 3⟩
  go_simp
  refine hK.out undef _ (RD.out _ ((((hx5.setCell (.inl (.inr rfl)) _).setCell (.inl (.inr rfl)) _).setCell (.inl (.inr rfl)) _).setCell (.inl (.inr rfl)) _)) (fun hHeld2 => ?_)
  clear hHeld
  have hHeld := hHeld2
  clear hHeld2
  clear hK K
  try simp only [Act.put, List.setIfInBounds_toArray, List.set_cons_zero, List.set_cons_succ]
  refine wpAnyH_done (by kernel_rfl) ?_ _
  have HZ := Lib.hid hHeld.1
  clear hHeld RD
  go_wp2_with fail
  have hz : Blk ((((w5.setCell ⟨w.heap.size + 2, 0, none⟩ (.slice b.a b.n b.c)).setCell ⟨w.heap.size + 2, 1, none⟩ (.slice wt.a wt.n wt.c)).setCell ⟨w.heap.size + 2, 2, none⟩ (.slice rd.a rd.n rd.c)).setCell ⟨w.heap.size + 2, 3, none⟩ (.slice rg'.a rg'.n rg'.c)) (w.heap.size + 2) #[.slice b.a b.n b.c, .slice wt.a wt.n wt.c, .slice rd.a rd.n rd.c, .slice rg'.a rg'.n rg'.c] 32 := (put4n Q3f.out (by decide) _ _ _ _).2.2
  refine bodyPost_ret (v := .tuple #[.bool true, .agg #[.slice b.a b.n b.c, .slice wt.a wt.n wt.c, .slice rd.a rd.n rd.c, .slice rg'.a rg'.n rg'.c]]) (results_tmp1_row rfl _ _ (w.heap.size + 2) 32 _ (0, 0) _ rfl (.bool true) rfl hz Try.underlying32 rfl info_view) rfl ?_
  exact finn HS.out Q4.out Q5.out HLT.out HR5.out HDV5.out (((Chg.of_below Q4.out).trans (Chg.of_below HB2.out)).trans ((Chg.of_below HB3.out).trans HC5.out)) (Kept.trans (Kept.of_below Q4.out) (Kept.trans (Kept.of_below HB2.out) (Kept.trans (Kept.of_below HB3.out) HKP5.out))) (grow_mono HST.out.own (Nat.le_trans HB2.out.size HB3.out.size)) (grow_mono HST.out.dep (Nat.le_trans HB2.out.size HB3.out.size)) Q3f.out (off_old HD0.out.dv.base (Nat.le_add_right _ _)) (off_old HD0.out.dv.wr (Nat.le_add_right _ _)) (off_old HD0.out.dv.rd (Nat.le_add_right _ _)) (off_either HD0.out.dv.rg (Nat.le_add_right _ _) (by have h2 := Q5.out; omega) HGW.out) (.inl rfl) (.inl rfl) (either_mono HGW.out Q4.out.size)

set_option maxRecDepth 100000 in
set_option maxHeartbeats 8000000 in
theorem do_set (hS : Stays Rep) (hX : SetOk Rep) (v : Value) (s : Vs) (S D : Nat → Prop) (b wt rd rg : Sh) (key value : ByteArray) (w : World) (hr : Rep w v s S D) (hd : DvF w s b wt rd rg S) (hlim : Lim s) (hk1 : key.size ≤ 100) (hk2 : value.size ≤ 100) :
    Calls Try.prog 11 #[v, .agg #[.slice b.a b.n b.c, .slice wt.a wt.n wt.c, .slice rd.a rd.n rd.c, .slice rg.a rg.n rg.c], .agg #[.int .i64 3, .string key, .string value]] w (DoR Rep v (s.write ⟨key, value, false⟩) b wt rd rg S D w) := by
  have hok := hS.ok hr
  have hlt := hS.lt hr
  have hsub := hS.sub hr
  have hW0 : ∃ W0, ((w.alloc (.cells #[.slice b.a b.n b.c, .slice wt.a wt.n wt.c, .slice rd.a rd.n rd.c, .slice rg.a rg.n rg.c] 32)).alloc (.cells #[.int .i64 3, .string key, .string value] 35)).alloc (.cells zeroV 32) = W0 ∧ Blk W0 w.heap.size #[.slice b.a b.n b.c, .slice wt.a wt.n wt.c, .slice rd.a rd.n rd.c, .slice rg.a rg.n rg.c] 32 ∧ Blk W0 (w.heap.size + 1) #[.int .i64 3, .string key, .string value] 35 ∧ Blk W0 (w.heap.size + 2) zeroV 32 ∧ Below w.heap.size w W0 ∧ W0.heap.size = w.heap.size + 3 :=
    ⟨_, rfl, ((Blk.new_ _ _ _).alloc _).alloc _, by have h := (Blk.new_ (w.alloc (.cells #[.slice b.a b.n b.c, .slice wt.a wt.n wt.c, .slice rd.a rd.n rd.c, .slice rg.a rg.n rg.c] 32)) #[.int .i64 3, .string key, .string value] 35).alloc (.cells zeroV 32); simpa using h, by have h := Blk.new_ ((w.alloc (.cells #[.slice b.a b.n b.c, .slice wt.a wt.n wt.c, .slice rd.a rd.n rd.c, .slice rg.a rg.n rg.c] 32)).alloc (.cells #[.int .i64 3, .string key, .string value] 35)) zeroV 32; simpa using h, (((Below.refl _ _).alloc (Nat.le_refl _) _).alloc (by simp <;> omega) _).alloc (by simp <;> omega) _, by simp⟩
  obtain ⟨W0, e0, q1, q2, q3, q4, q5⟩ := hW0
  have HRP := Lib.hid (hS.below hr q4)
  have HDV := Lib.hid (hd.below q4)
  have HD0 := Lib.hid hd
  have HS := Lib.hid hS
  have HX := Lib.hid hX
  have HLM := Lib.hid hlim
  have HOK := Lib.hid hok
  have HLT := Lib.hid hlt
  have HSB := Lib.hid hsub
  have E0 := Lib.hid e0
  have Q1 := Lib.hid q1
  have Q2 := Lib.hid q2
  have Q3 := Lib.hid q3
  have Q4 := Lib.hid q4
  have Q5 := Lib.hid q5
  have HK1 := Lib.hid hk1
  have HK2 := Lib.hid hk2
  have hn0 : ¬ S w.heap.size := fun h => by have := hlt _ (hsub _ h); omega
  have hn1 : ¬ S (w.heap.size + 1) := fun h => by have := hlt _ (hsub _ h); omega
  have hn2 : ¬ S (w.heap.size + 2) := fun h => by have := hlt _ (hsub _ h); omega
  have HN0 := Lib.hid hn0
  have HN1 := Lib.hid hn1
  have HN2 := Lib.hid hn2
  clear hd hr hok hlim hlt hsub hX hS e0 q1 q2 q3 q4 q5 hk1 hk2 hn0 hn1 hn2
  go_enter Try.func11, Try.ntmps11
  go_upto_region 1 with (fail)
  change Code.wp _ _ _ _ (((w.alloc (.cells #[.slice b.a b.n b.c, .slice wt.a wt.n wt.c, .slice rd.a rd.n rd.c, .slice rg.a rg.n rg.c] 32)).alloc (.cells #[.int .i64 3, .string key, .string value] 35)).alloc (.cells zeroV 32))
  rw [E0.out]
  have a0 : W0.cell? ⟨w.heap.size + 1, 0, none⟩ = some (.int .i64 3) := Q2.out.cell 0
  have a1 : W0.cell? ⟨w.heap.size + 1, 1, none⟩ = some (.string key) := Q2.out.cell 1
  have a2 : W0.cell? ⟨w.heap.size + 1, 2, none⟩ = some (.string value) := Q2.out.cell 2
  obtain ⟨ok, hok⟩ : ∃ ok, (!fullW s.wr ⟨key, value, false⟩) = ok := ⟨_, rfl⟩
  have HOW := Lib.hid hok
  clear hok
  have z1 : (ok == ok) = true := by simp
  have hlt := HLT.out
  clear hlt
  go_upto_region 15 with (first
    | ((with_reducible refine pick (some 101) ?_); refine load_blk rfl 32 _ rfl w.heap.size rfl 32 #[.slice b.a b.n b.c, .slice wt.a wt.n wt.c, .slice rd.a rd.n rd.c, .slice rg.a rg.n rg.c] _ Q1.out Try.underlying32 rfl info_view ?_)
    | (go_at_call 31; refine (refwrite_is HOW.out HDV.out.dv (by have := HLM.out.base; omega) HOK.out).mono ?_; rintro e w2 ⟨wt', rfl, hd2, hb2, hg2⟩; have HD2 := Lib.hid hd2; have HB2 := Lib.hid hb2; have HGW := Lib.hid hg2; have HR2 := Lib.hid (HS.out.below HRP.out hb2); have Q1c := Lib.hid (Q1.out.below hb2); have Q2c := Lib.hid (Q2.out.below hb2); have Q3c := Lib.hid (Q3.out.below hb2); have HDV2 : Hid (DvF w2 (s.write ⟨key, value, false⟩) b wt' rd rg S) := Lib.hid ⟨hd2, HDV.out.fb, off_eithers HDV.out.fw (fun q hq => by have h1 := HLT.out q (HSB.out q hq); have h2 := Q5.out; omega) hg2, HDV.out.fr, HDV.out.fg⟩; clear hd2 hb2 hg2))
  obtain ⟨W3, hW3⟩ : ∃ W3, w2.alloc (.cells #[.slice b.a b.n b.c, .slice wt'.a wt'.n wt'.c, .slice rd.a rd.n rd.c, .slice rg.a rg.n rg.c] 32) = W3 := ⟨_, rfl⟩
  have hb3 : Below w2.heap.size w2 W3 := by rw [← hW3]; exact (Below.refl _ _).alloc (Nat.le_refl _) _
  have hk3 : Blk W3 w2.heap.size #[.slice b.a b.n b.c, .slice wt'.a wt'.n wt'.c, .slice rd.a rd.n rd.c, .slice rg.a rg.n rg.c] 32 := by rw [← hW3]; exact Blk.new_ _ _ _
  change Code.wp _ _ _ _ (w2.alloc (.cells #[.slice b.a b.n b.c, .slice wt'.a wt'.n wt'.c, .slice rd.a rd.n rd.c, .slice rg.a rg.n rg.c] 32))
  rw [hW3]
  have HB3 := Lib.hid hb3
  have HK3 := Lib.hid hk3
  have HR3 := Lib.hid (HS.out.below HR2.out hb3)
  have Q1d := Lib.hid (Q1c.out.below hb3)
  have Q2d := Lib.hid (Q2c.out.below hb3)
  have Q3d := Lib.hid (Q3c.out.below hb3)
  have HDV3 := Lib.hid (HDV2.out.below hb3)
  clear hW3 hb3 hk3
  have RD : Hid (∀ v, Chg (fun k => S k ∨ k = w.heap.size + 2) W3 v → Chg (fun k => S k ∨ k = w.heap.size + 2) W3 v ∧ v.cell? ⟨w.heap.size + 1, 1, none⟩ = some (.string key) ∧ v.cell? ⟨w.heap.size + 1, 2, none⟩ = some (.string value) ∧ v.cell? ⟨w2.heap.size, 0, none⟩ = some (.slice b.a b.n b.c) ∧ v.cell? ⟨w2.heap.size, 1, none⟩ = some (.slice wt'.a wt'.n wt'.c) ∧ v.cell? ⟨w2.heap.size, 2, none⟩ = some (.slice rd.a rd.n rd.c) ∧ v.cell? ⟨w2.heap.size, 3, none⟩ = some (.slice rg.a rg.n rg.c)) := Lib.hid fun v hv => (by
    have h1 := blk_chg Q2d.out hv (fun h => by rcases h with h | h; exact HN1.out h; omega)
    have h2 := blk_chg HK3.out hv (fun h => by
      have hz := Q5.out
      have hs := HB2.out.size
      rcases h with h | h
      · have := HLT.out _ (HSB.out _ h)
        omega
      · omega)
    exact ⟨hv, h1.cell 1, h1.cell 2, h2.cell 0, h2.cell 1, h2.cell 2, h2.cell 3⟩)
  refine wp_region_held_drew (S := fun v => Chg (fun k => S k ∨ k = w.heap.size + 2) W3 v ∧ v.cell? ⟨w.heap.size + 1, 1, none⟩ = some (.string key) ∧ v.cell? ⟨w.heap.size + 1, 2, none⟩ = some (.string value) ∧ v.cell? ⟨w2.heap.size, 0, none⟩ = some (.slice b.a b.n b.c) ∧ v.cell? ⟨w2.heap.size, 1, none⟩ = some (.slice wt'.a wt'.n wt'.c) ∧ v.cell? ⟨w2.heap.size, 2, none⟩ = some (.slice rd.a rd.n rd.c) ∧ v.cell? ⟨w2.heap.size, 3, none⟩ = some (.slice rg.a rg.n rg.c)) (by kernel_rfl) (RD.out _ (Chg.refl _ _).drew) (fun hHeld => ?_)
  refine ho_val (v := ?_) 0 (some 110) rfl rfl (by kernel_rfl) (by kernel_rfl) (by kernel_rfl) (fun _ _ _ h => h) (by kernel_rfl) (fun w hSw => ?_) (by assumption) ?_
  rotate_left
  · ((try dsimp only at hSw); go_simp; try with_reducible rfl)
  simp only [Act.put, List.setIfInBounds_toArray, List.set_cons_zero, List.set_cons_succ]
  refine ho_val (v := ?_) 1 (some 111) rfl rfl (by kernel_rfl) (by kernel_rfl) (by kernel_rfl) (fun _ _ _ h => h) (by kernel_rfl) (fun w hSw => ?_) (by assumption) ?_
  rotate_left
  · ((try dsimp only at hSw); go_simp; try with_reducible rfl)
  simp only [Act.put, List.setIfInBounds_toArray, List.set_cons_zero, List.set_cons_succ]
  refine ho_val (v := ?_) 2 (some 112) rfl rfl (by kernel_rfl) (by kernel_rfl) (by kernel_rfl) (fun _ _ _ h => h) (by kernel_rfl) (fun w hSw => ?_) (by assumption) ?_
  rotate_left
  · ((try dsimp only at hSw); go_simp; try with_reducible rfl)
  simp only [Act.put, List.setIfInBounds_toArray, List.set_cons_zero, List.set_cons_succ]
  refine ho_val (v := ?_) 3 (some 113) rfl rfl (by kernel_rfl) (by kernel_rfl) (by kernel_rfl) (fun _ _ _ h => h) (by kernel_rfl) (fun w hSw => ?_) (by assumption) ?_
  rotate_left
  · ((try dsimp only at hSw); go_simp; try with_reducible rfl)
  simp only [Act.put, List.setIfInBounds_toArray, List.set_cons_zero, List.set_cons_succ]
  refine ho_val (v := ?_) 4 (some 114) rfl rfl (by kernel_rfl) (by kernel_rfl) (by kernel_rfl) (fun _ _ _ h => h) (by kernel_rfl) (fun w hSw => ?_) (by assumption) ?_
  rotate_left
  · ((try dsimp only at hSw); go_simp; try with_reducible rfl)
  simp only [Act.put, List.setIfInBounds_toArray, List.set_cons_zero, List.set_cons_succ]
  refine ho_val (v := ?_) 6 (some 116) rfl rfl (by kernel_rfl) (by kernel_rfl) (by kernel_rfl) (fun _ _ _ h => h) (by kernel_rfl) (fun w hSw => ?_) (by assumption) ?_
  rotate_left
  · ((try dsimp only at hSw); go_simp; try with_reducible rfl)
  simp only [Act.put, List.setIfInBounds_toArray, List.set_cons_zero, List.set_cons_succ]
  refine ho_val (v := ?_) 8 (some 118) rfl rfl (by kernel_rfl) (by kernel_rfl) (by kernel_rfl) (fun _ _ _ h => h) (by kernel_rfl) (fun w hSw => ?_) (by assumption) ?_
  rotate_left
  · ((try dsimp only at hSw); go_simp; try with_reducible rfl)
  simp only [Act.put, List.setIfInBounds_toArray, List.set_cons_zero, List.set_cons_succ]
  refine ho_step 5 (some 115) rfl rfl (by kernel_rfl) (by kernel_rfl) (fun K hK => ?_)
  go_simp
  (refine (ViewD.set_is HX.out HOW.out (HS.out.below HR3.out (Below.drew (Below.refl _ _))) HLM.out (by have := HK1.out; omega) (by have := HK2.out; omega)).mono ?_; rintro e w5 ⟨S4, D4, rfl, hr4, hst⟩; have HST := Lib.hid hst; have hx5 : Chg (fun k => S k ∨ k = w.heap.size + 2) W3 w5 := (Chg.refl _ _).drew.trans (hst.chg.mono (fun _ _ h => .inl h)); have HX5 := Lib.hid hx5; have HC5 : Hid (Chg S W3 w5) := Lib.hid ((Chg.refl _ _).drew.trans hst.chg); have HR5 := Lib.hid hr4; have HDV4 := Lib.hid ((HDV3.out.below (Below.drew (Below.refl _ _))).next hst.chg hst.own); have Q3e := Lib.hid (blk_chg Q3d.out HC5.out HN2.out); have HKP := Lib.hid (Kept.trans (Kept.of_below (Below.drew (Below.refl _ _))) hst.kept); clear hst hr4)
  try go_wp2_with fail
  refine hK.out _ _ (RD.out _ hx5) (fun hHeld2 => ?_)
  clear hHeld
  have hHeld := hHeld2
  clear hHeld2
  clear hK K
  try simp only [Act.put, List.setIfInBounds_toArray, List.set_cons_zero, List.set_cons_succ]
  refine ho_val (v := ?_) 7 (some 117) rfl rfl (by kernel_rfl) (by kernel_rfl) (by kernel_rfl) (fun _ _ _ h => h) (by kernel_rfl) (fun w hSw => ?_) (by assumption) ?_
  rotate_left
  · ((try dsimp only at hSw); go_simp; try with_reducible rfl)
  simp only [Act.put, List.setIfInBounds_toArray, List.set_cons_zero, List.set_cons_succ]
  refine ho_val (v := ?_) 9 (some 6) rfl rfl (by kernel_rfl) (by kernel_rfl) (by kernel_rfl) (fun _ _ _ h => h) (by kernel_rfl) (fun w hSw => ?_) (by assumption) ?_
  rotate_left
  · ((try dsimp only at hSw); go_simp; try with_reducible rfl)
  simp only [Act.put, List.setIfInBounds_toArray, List.set_cons_zero, List.set_cons_succ]
  refine ho_step 10 none rfl rfl (by kernel_rfl) (by kernel_rfl) (fun K hK => ?_)
  obtain ⟨r0, r1, r2, r3⟩ : w5.cell? ⟨w.heap.size + 2, 0, none⟩ = some (.slice none 0 0) ∧ w5.cell? ⟨w.heap.size + 2, 1, none⟩ = some (.slice none 0 0) ∧ w5.cell? ⟨w.heap.size + 2, 2, none⟩ = some (.slice none 0 0) ∧ w5.cell? ⟨w.heap.size + 2, 3, none⟩ = some (.slice none 0 0) := ⟨Q3e.out.cell 0, Q3e.out.cell 1, Q3e.out.cell 2, Q3e.out.cell 3⟩
  obtain ⟨f0, f1, f2, f3⟩ : w5.frozen? ⟨w.heap.size + 2, 0, none⟩ = false ∧ w5.frozen? ⟨w.heap.size + 2, 1, none⟩ = false ∧ w5.frozen? ⟨w.heap.size + 2, 2, none⟩ = false ∧ w5.frozen? ⟨w.heap.size + 2, 3, none⟩ = false := ⟨Q3e.out.frozen 0, Q3e.out.frozen 1, Q3e.out.frozen 2, Q3e.out.frozen 3⟩
  go_simp
  refine hK.out undef _ (RD.out _ ((((hx5.setCell (.inl (.inr rfl)) _).setCell (.inl (.inr rfl)) _).setCell (.inl (.inr rfl)) _).setCell (.inl (.inr rfl)) _)) (fun hHeld2 => ?_)
  clear hHeld
  have hHeld := hHeld2
  clear hHeld2
  clear hK K
  try simp only [Act.put, List.setIfInBounds_toArray, List.set_cons_zero, List.set_cons_succ]
  refine wpAnyH_done (by kernel_rfl) ?_ _
  have HZ := Lib.hid hHeld.1
  clear hHeld RD
  go_wp2_with fail
  have hz : Blk ((((w5.setCell ⟨w.heap.size + 2, 0, none⟩ (.slice b.a b.n b.c)).setCell ⟨w.heap.size + 2, 1, none⟩ (.slice wt'.a wt'.n wt'.c)).setCell ⟨w.heap.size + 2, 2, none⟩ (.slice rd.a rd.n rd.c)).setCell ⟨w.heap.size + 2, 3, none⟩ (.slice rg.a rg.n rg.c)) (w.heap.size + 2) #[.slice b.a b.n b.c, .slice wt'.a wt'.n wt'.c, .slice rd.a rd.n rd.c, .slice rg.a rg.n rg.c] 32 := (put4n Q3e.out (by decide) _ _ _ _).2.2
  refine bodyPost_ret (v := .tuple #[.bool true, .agg #[.slice b.a b.n b.c, .slice wt'.a wt'.n wt'.c, .slice rd.a rd.n rd.c, .slice rg.a rg.n rg.c]]) (results_tmp1_row rfl _ _ (w.heap.size + 2) 32 _ (0, 0) _ rfl (.bool true) rfl hz Try.underlying32 rfl info_view) rfl ?_
  exact finn HS.out Q4.out Q5.out HLT.out HR5.out HDV4.out (((Chg.of_below Q4.out).trans (Chg.of_below HB2.out)).trans ((Chg.of_below HB3.out).trans HC5.out)) (Kept.trans (Kept.of_below Q4.out) (Kept.trans (Kept.of_below HB2.out) (Kept.trans (Kept.of_below HB3.out) HKP.out))) (grow_mono HST.out.own (Nat.le_trans HB2.out.size HB3.out.size)) (grow_mono HST.out.dep (Nat.le_trans HB2.out.size HB3.out.size)) Q3e.out (off_old HD0.out.dv.base (Nat.le_add_right _ _)) (off_either HD0.out.dv.wr (Nat.le_add_right _ _) (by have h2 := Q5.out; omega) HGW.out) (off_old HD0.out.dv.rd (Nat.le_add_right _ _)) (off_old HD0.out.dv.rg (Nat.le_add_right _ _)) (either_mono HGW.out Q4.out.size) (.inl rfl) (.inl rfl)

set_option maxRecDepth 100000 in
set_option maxHeartbeats 8000000 in
theorem do_cut (hS : Stays Rep) (hX : CutOk Rep) (v : Value) (s : Vs) (S D : Nat → Prop) (b wt rd rg : Sh) (key value : ByteArray) (w : World) (hr : Rep w v s S D) (hd : DvF w s b wt rd rg S) (hlim : Lim s) (hk1 : key.size ≤ 100) (hk2 : value.size ≤ 100) :
    Calls Try.prog 11 #[v, .agg #[.slice b.a b.n b.c, .slice wt.a wt.n wt.c, .slice rd.a rd.n rd.c, .slice rg.a rg.n rg.c], .agg #[.int .i64 4, .string key, .string value]] w (DoR Rep v (s.write ⟨key, ⟨#[]⟩, true⟩) b wt rd rg S D w) := by
  have hok := hS.ok hr
  have hlt := hS.lt hr
  have hsub := hS.sub hr
  have hW0 : ∃ W0, ((w.alloc (.cells #[.slice b.a b.n b.c, .slice wt.a wt.n wt.c, .slice rd.a rd.n rd.c, .slice rg.a rg.n rg.c] 32)).alloc (.cells #[.int .i64 4, .string key, .string value] 35)).alloc (.cells zeroV 32) = W0 ∧ Blk W0 w.heap.size #[.slice b.a b.n b.c, .slice wt.a wt.n wt.c, .slice rd.a rd.n rd.c, .slice rg.a rg.n rg.c] 32 ∧ Blk W0 (w.heap.size + 1) #[.int .i64 4, .string key, .string value] 35 ∧ Blk W0 (w.heap.size + 2) zeroV 32 ∧ Below w.heap.size w W0 ∧ W0.heap.size = w.heap.size + 3 :=
    ⟨_, rfl, ((Blk.new_ _ _ _).alloc _).alloc _, by have h := (Blk.new_ (w.alloc (.cells #[.slice b.a b.n b.c, .slice wt.a wt.n wt.c, .slice rd.a rd.n rd.c, .slice rg.a rg.n rg.c] 32)) #[.int .i64 4, .string key, .string value] 35).alloc (.cells zeroV 32); simpa using h, by have h := Blk.new_ ((w.alloc (.cells #[.slice b.a b.n b.c, .slice wt.a wt.n wt.c, .slice rd.a rd.n rd.c, .slice rg.a rg.n rg.c] 32)).alloc (.cells #[.int .i64 4, .string key, .string value] 35)) zeroV 32; simpa using h, (((Below.refl _ _).alloc (Nat.le_refl _) _).alloc (by simp <;> omega) _).alloc (by simp <;> omega) _, by simp⟩
  obtain ⟨W0, e0, q1, q2, q3, q4, q5⟩ := hW0
  have HRP := Lib.hid (hS.below hr q4)
  have HDV := Lib.hid (hd.below q4)
  have HD0 := Lib.hid hd
  have HS := Lib.hid hS
  have HX := Lib.hid hX
  have HLM := Lib.hid hlim
  have HOK := Lib.hid hok
  have HLT := Lib.hid hlt
  have HSB := Lib.hid hsub
  have E0 := Lib.hid e0
  have Q1 := Lib.hid q1
  have Q2 := Lib.hid q2
  have Q3 := Lib.hid q3
  have Q4 := Lib.hid q4
  have Q5 := Lib.hid q5
  have HK1 := Lib.hid hk1
  have HK2 := Lib.hid hk2
  have hn0 : ¬ S w.heap.size := fun h => by have := hlt _ (hsub _ h); omega
  have hn1 : ¬ S (w.heap.size + 1) := fun h => by have := hlt _ (hsub _ h); omega
  have hn2 : ¬ S (w.heap.size + 2) := fun h => by have := hlt _ (hsub _ h); omega
  have HN0 := Lib.hid hn0
  have HN1 := Lib.hid hn1
  have HN2 := Lib.hid hn2
  clear hd hr hok hlim hlt hsub hX hS e0 q1 q2 q3 q4 q5 hk1 hk2 hn0 hn1 hn2
  go_enter Try.func11, Try.ntmps11
  go_upto_region 1 with (fail)
  change Code.wp _ _ _ _ (((w.alloc (.cells #[.slice b.a b.n b.c, .slice wt.a wt.n wt.c, .slice rd.a rd.n rd.c, .slice rg.a rg.n rg.c] 32)).alloc (.cells #[.int .i64 4, .string key, .string value] 35)).alloc (.cells zeroV 32))
  rw [E0.out]
  have a0 : W0.cell? ⟨w.heap.size + 1, 0, none⟩ = some (.int .i64 4) := Q2.out.cell 0
  have a1 : W0.cell? ⟨w.heap.size + 1, 1, none⟩ = some (.string key) := Q2.out.cell 1
  have a2 : W0.cell? ⟨w.heap.size + 1, 2, none⟩ = some (.string value) := Q2.out.cell 2
  obtain ⟨ok, hok⟩ : ∃ ok, (!fullW s.wr ⟨key, ⟨#[]⟩, true⟩) = ok := ⟨_, rfl⟩
  have HOW := Lib.hid hok
  clear hok
  have z1 : (ok == ok) = true := by simp
  have hlt := HLT.out
  clear hlt
  go_upto_region 18 with (first
    | ((with_reducible refine pick (some 122) ?_); refine load_blk rfl 32 _ rfl w.heap.size rfl 32 #[.slice b.a b.n b.c, .slice wt.a wt.n wt.c, .slice rd.a rd.n rd.c, .slice rg.a rg.n rg.c] _ Q1.out Try.underlying32 rfl info_view ?_)
    | (go_at_call 31; refine (refwrite_is HOW.out HDV.out.dv (by have := HLM.out.base; omega) HOK.out).mono ?_; rintro e w2 ⟨wt', rfl, hd2, hb2, hg2⟩; have HD2 := Lib.hid hd2; have HB2 := Lib.hid hb2; have HGW := Lib.hid hg2; have HR2 := Lib.hid (HS.out.below HRP.out hb2); have Q1c := Lib.hid (Q1.out.below hb2); have Q2c := Lib.hid (Q2.out.below hb2); have Q3c := Lib.hid (Q3.out.below hb2); have HDV2 : Hid (DvF w2 (s.write ⟨key, ⟨#[]⟩, true⟩) b wt' rd rg S) := Lib.hid ⟨hd2, HDV.out.fb, off_eithers HDV.out.fw (fun q hq => by have h1 := HLT.out q (HSB.out q hq); have h2 := Q5.out; omega) hg2, HDV.out.fr, HDV.out.fg⟩; clear hd2 hb2 hg2))
  obtain ⟨W3, hW3⟩ : ∃ W3, w2.alloc (.cells #[.slice b.a b.n b.c, .slice wt'.a wt'.n wt'.c, .slice rd.a rd.n rd.c, .slice rg.a rg.n rg.c] 32) = W3 := ⟨_, rfl⟩
  have hb3 : Below w2.heap.size w2 W3 := by rw [← hW3]; exact (Below.refl _ _).alloc (Nat.le_refl _) _
  have hk3 : Blk W3 w2.heap.size #[.slice b.a b.n b.c, .slice wt'.a wt'.n wt'.c, .slice rd.a rd.n rd.c, .slice rg.a rg.n rg.c] 32 := by rw [← hW3]; exact Blk.new_ _ _ _
  change Code.wp _ _ _ _ (w2.alloc (.cells #[.slice b.a b.n b.c, .slice wt'.a wt'.n wt'.c, .slice rd.a rd.n rd.c, .slice rg.a rg.n rg.c] 32))
  rw [hW3]
  have HB3 := Lib.hid hb3
  have HK3 := Lib.hid hk3
  have HR3 := Lib.hid (HS.out.below HR2.out hb3)
  have Q1d := Lib.hid (Q1c.out.below hb3)
  have Q2d := Lib.hid (Q2c.out.below hb3)
  have Q3d := Lib.hid (Q3c.out.below hb3)
  have HDV3 := Lib.hid (HDV2.out.below hb3)
  clear hW3 hb3 hk3
  have RD : Hid (∀ v, Chg (fun k => S k ∨ k = w.heap.size + 2) W3 v → Chg (fun k => S k ∨ k = w.heap.size + 2) W3 v ∧ v.cell? ⟨w.heap.size + 1, 1, none⟩ = some (.string key) ∧ v.cell? ⟨w.heap.size + 1, 2, none⟩ = some (.string value) ∧ v.cell? ⟨w2.heap.size, 0, none⟩ = some (.slice b.a b.n b.c) ∧ v.cell? ⟨w2.heap.size, 1, none⟩ = some (.slice wt'.a wt'.n wt'.c) ∧ v.cell? ⟨w2.heap.size, 2, none⟩ = some (.slice rd.a rd.n rd.c) ∧ v.cell? ⟨w2.heap.size, 3, none⟩ = some (.slice rg.a rg.n rg.c)) := Lib.hid fun v hv => (by
    have h1 := blk_chg Q2d.out hv (fun h => by rcases h with h | h; exact HN1.out h; omega)
    have h2 := blk_chg HK3.out hv (fun h => by
      have hz := Q5.out
      have hs := HB2.out.size
      rcases h with h | h
      · have := HLT.out _ (HSB.out _ h)
        omega
      · omega)
    exact ⟨hv, h1.cell 1, h1.cell 2, h2.cell 0, h2.cell 1, h2.cell 2, h2.cell 3⟩)
  refine wp_region_held_drew (S := fun v => Chg (fun k => S k ∨ k = w.heap.size + 2) W3 v ∧ v.cell? ⟨w.heap.size + 1, 1, none⟩ = some (.string key) ∧ v.cell? ⟨w.heap.size + 1, 2, none⟩ = some (.string value) ∧ v.cell? ⟨w2.heap.size, 0, none⟩ = some (.slice b.a b.n b.c) ∧ v.cell? ⟨w2.heap.size, 1, none⟩ = some (.slice wt'.a wt'.n wt'.c) ∧ v.cell? ⟨w2.heap.size, 2, none⟩ = some (.slice rd.a rd.n rd.c) ∧ v.cell? ⟨w2.heap.size, 3, none⟩ = some (.slice rg.a rg.n rg.c)) (by kernel_rfl) (RD.out _ (Chg.refl _ _).drew) (fun hHeld => ?_)
  refine ho_val (v := ?_) 0 (some 129) rfl rfl (by kernel_rfl) (by kernel_rfl) (by kernel_rfl) (fun _ _ _ h => h) (by kernel_rfl) (fun w hSw => ?_) (by assumption) ?_
  rotate_left
  · ((try dsimp only at hSw); go_simp; try with_reducible rfl)
  simp only [Act.put, List.setIfInBounds_toArray, List.set_cons_zero, List.set_cons_succ]
  refine ho_val (v := ?_) 1 (some 130) rfl rfl (by kernel_rfl) (by kernel_rfl) (by kernel_rfl) (fun _ _ _ h => h) (by kernel_rfl) (fun w hSw => ?_) (by assumption) ?_
  rotate_left
  · ((try dsimp only at hSw); go_simp; try with_reducible rfl)
  simp only [Act.put, List.setIfInBounds_toArray, List.set_cons_zero, List.set_cons_succ]
  refine ho_val (v := ?_) 2 (some 131) rfl rfl (by kernel_rfl) (by kernel_rfl) (by kernel_rfl) (fun _ _ _ h => h) (by kernel_rfl) (fun w hSw => ?_) (by assumption) ?_
  rotate_left
  · ((try dsimp only at hSw); go_simp; try with_reducible rfl)
  simp only [Act.put, List.setIfInBounds_toArray, List.set_cons_zero, List.set_cons_succ]
  refine ho_val (v := ?_) 4 (some 133) rfl rfl (by kernel_rfl) (by kernel_rfl) (by kernel_rfl) (fun _ _ _ h => h) (by kernel_rfl) (fun w hSw => ?_) (by assumption) ?_
  rotate_left
  · ((try dsimp only at hSw); go_simp; try with_reducible rfl)
  simp only [Act.put, List.setIfInBounds_toArray, List.set_cons_zero, List.set_cons_succ]
  refine ho_val (v := ?_) 6 (some 135) rfl rfl (by kernel_rfl) (by kernel_rfl) (by kernel_rfl) (fun _ _ _ h => h) (by kernel_rfl) (fun w hSw => ?_) (by assumption) ?_
  rotate_left
  · ((try dsimp only at hSw); go_simp; try with_reducible rfl)
  simp only [Act.put, List.setIfInBounds_toArray, List.set_cons_zero, List.set_cons_succ]
  refine ho_step 3 (some 132) rfl rfl (by kernel_rfl) (by kernel_rfl) (fun K hK => ?_)
  go_simp
  (refine (ViewD.cut_is HX.out HOW.out (HS.out.below HR3.out (Below.drew (Below.refl _ _))) HLM.out (by have := HK1.out; omega)).mono ?_; rintro e w5 ⟨S4, D4, rfl, hr4, hst⟩; have HST := Lib.hid hst; have hx5 : Chg (fun k => S k ∨ k = w.heap.size + 2) W3 w5 := (Chg.refl _ _).drew.trans (hst.chg.mono (fun _ _ h => .inl h)); have HX5 := Lib.hid hx5; have HC5 : Hid (Chg S W3 w5) := Lib.hid ((Chg.refl _ _).drew.trans hst.chg); have HR5 := Lib.hid hr4; have HDV4 := Lib.hid ((HDV3.out.below (Below.drew (Below.refl _ _))).next hst.chg hst.own); have Q3e := Lib.hid (blk_chg Q3d.out HC5.out HN2.out); have HKP := Lib.hid (Kept.trans (Kept.of_below (Below.drew (Below.refl _ _))) hst.kept); clear hst hr4)
  try go_wp2_with fail
  refine hK.out _ _ (RD.out _ hx5) (fun hHeld2 => ?_)
  clear hHeld
  have hHeld := hHeld2
  clear hHeld2
  clear hK K
  try simp only [Act.put, List.setIfInBounds_toArray, List.set_cons_zero, List.set_cons_succ]
  refine ho_val (v := ?_) 5 (some 134) rfl rfl (by kernel_rfl) (by kernel_rfl) (by kernel_rfl) (fun _ _ _ h => h) (by kernel_rfl) (fun w hSw => ?_) (by assumption) ?_
  rotate_left
  · ((try dsimp only at hSw); go_simp; try with_reducible rfl)
  simp only [Act.put, List.setIfInBounds_toArray, List.set_cons_zero, List.set_cons_succ]
  refine ho_val (v := ?_) 7 (some 6) rfl rfl (by kernel_rfl) (by kernel_rfl) (by kernel_rfl) (fun _ _ _ h => h) (by kernel_rfl) (fun w hSw => ?_) (by assumption) ?_
  rotate_left
  · ((try dsimp only at hSw); go_simp; try with_reducible rfl)
  simp only [Act.put, List.setIfInBounds_toArray, List.set_cons_zero, List.set_cons_succ]
  refine ho_step 8 none rfl rfl (by kernel_rfl) (by kernel_rfl) (fun K hK => ?_)
  obtain ⟨r0, r1, r2, r3⟩ : w5.cell? ⟨w.heap.size + 2, 0, none⟩ = some (.slice none 0 0) ∧ w5.cell? ⟨w.heap.size + 2, 1, none⟩ = some (.slice none 0 0) ∧ w5.cell? ⟨w.heap.size + 2, 2, none⟩ = some (.slice none 0 0) ∧ w5.cell? ⟨w.heap.size + 2, 3, none⟩ = some (.slice none 0 0) := ⟨Q3e.out.cell 0, Q3e.out.cell 1, Q3e.out.cell 2, Q3e.out.cell 3⟩
  obtain ⟨f0, f1, f2, f3⟩ : w5.frozen? ⟨w.heap.size + 2, 0, none⟩ = false ∧ w5.frozen? ⟨w.heap.size + 2, 1, none⟩ = false ∧ w5.frozen? ⟨w.heap.size + 2, 2, none⟩ = false ∧ w5.frozen? ⟨w.heap.size + 2, 3, none⟩ = false := ⟨Q3e.out.frozen 0, Q3e.out.frozen 1, Q3e.out.frozen 2, Q3e.out.frozen 3⟩
  go_simp
  refine hK.out undef _ (RD.out _ ((((hx5.setCell (.inl (.inr rfl)) _).setCell (.inl (.inr rfl)) _).setCell (.inl (.inr rfl)) _).setCell (.inl (.inr rfl)) _)) (fun hHeld2 => ?_)
  clear hHeld
  have hHeld := hHeld2
  clear hHeld2
  clear hK K
  try simp only [Act.put, List.setIfInBounds_toArray, List.set_cons_zero, List.set_cons_succ]
  refine wpAnyH_done (by kernel_rfl) ?_ _
  have HZ := Lib.hid hHeld.1
  clear hHeld RD
  go_wp2_with fail
  have hz : Blk ((((w5.setCell ⟨w.heap.size + 2, 0, none⟩ (.slice b.a b.n b.c)).setCell ⟨w.heap.size + 2, 1, none⟩ (.slice wt'.a wt'.n wt'.c)).setCell ⟨w.heap.size + 2, 2, none⟩ (.slice rd.a rd.n rd.c)).setCell ⟨w.heap.size + 2, 3, none⟩ (.slice rg.a rg.n rg.c)) (w.heap.size + 2) #[.slice b.a b.n b.c, .slice wt'.a wt'.n wt'.c, .slice rd.a rd.n rd.c, .slice rg.a rg.n rg.c] 32 := (put4n Q3e.out (by decide) _ _ _ _).2.2
  refine bodyPost_ret (v := .tuple #[.bool true, .agg #[.slice b.a b.n b.c, .slice wt'.a wt'.n wt'.c, .slice rd.a rd.n rd.c, .slice rg.a rg.n rg.c]]) (results_tmp1_row rfl _ _ (w.heap.size + 2) 32 _ (0, 0) _ rfl (.bool true) rfl hz Try.underlying32 rfl info_view) rfl ?_
  exact finn HS.out Q4.out Q5.out HLT.out HR5.out HDV4.out (((Chg.of_below Q4.out).trans (Chg.of_below HB2.out)).trans ((Chg.of_below HB3.out).trans HC5.out)) (Kept.trans (Kept.of_below Q4.out) (Kept.trans (Kept.of_below HB2.out) (Kept.trans (Kept.of_below HB3.out) HKP.out))) (grow_mono HST.out.own (Nat.le_trans HB2.out.size HB3.out.size)) (grow_mono HST.out.dep (Nat.le_trans HB2.out.size HB3.out.size)) Q3e.out (off_old HD0.out.dv.base (Nat.le_add_right _ _)) (off_either HD0.out.dv.wr (Nat.le_add_right _ _) (by have h2 := Q5.out; omega) HGW.out) (off_old HD0.out.dv.rd (Nat.le_add_right _ _)) (off_old HD0.out.dv.rg (Nat.le_add_right _ _)) (either_mono HGW.out Q4.out.size) (.inl rfl) (.inl rfl)

set_option maxRecDepth 100000 in
set_option maxHeartbeats 8000000 in
theorem do_other (hS : Stays Rep) (hX : True) (v : Value) (s : Vs) (S D : Nat → Prop) (b wt rd rg : Sh) (key value : ByteArray) (w : World) (hr : Rep w v s S D) (hd : DvF w s b wt rd rg S) (hlim : Lim s) (hk1 : key.size ≤ 100) (hk2 : value.size ≤ 100) (kind : Int) (hne : kind ≠ 0 ∧ kind ≠ 1 ∧ kind ≠ 2 ∧ kind ≠ 3 ∧ kind ≠ 4) :
    Calls Try.prog 11 #[v, .agg #[.slice b.a b.n b.c, .slice wt.a wt.n wt.c, .slice rd.a rd.n rd.c, .slice rg.a rg.n rg.c], .agg #[.int .i64 kind, .string key, .string value]] w (DoR Rep v (s) b wt rd rg S D w) := by
  have hok := hS.ok hr
  have hlt := hS.lt hr
  have hsub := hS.sub hr
  have hW0 : ∃ W0, ((w.alloc (.cells #[.slice b.a b.n b.c, .slice wt.a wt.n wt.c, .slice rd.a rd.n rd.c, .slice rg.a rg.n rg.c] 32)).alloc (.cells #[.int .i64 kind, .string key, .string value] 35)).alloc (.cells zeroV 32) = W0 ∧ Blk W0 w.heap.size #[.slice b.a b.n b.c, .slice wt.a wt.n wt.c, .slice rd.a rd.n rd.c, .slice rg.a rg.n rg.c] 32 ∧ Blk W0 (w.heap.size + 1) #[.int .i64 kind, .string key, .string value] 35 ∧ Blk W0 (w.heap.size + 2) zeroV 32 ∧ Below w.heap.size w W0 ∧ W0.heap.size = w.heap.size + 3 :=
    ⟨_, rfl, ((Blk.new_ _ _ _).alloc _).alloc _, by have h := (Blk.new_ (w.alloc (.cells #[.slice b.a b.n b.c, .slice wt.a wt.n wt.c, .slice rd.a rd.n rd.c, .slice rg.a rg.n rg.c] 32)) #[.int .i64 kind, .string key, .string value] 35).alloc (.cells zeroV 32); simpa using h, by have h := Blk.new_ ((w.alloc (.cells #[.slice b.a b.n b.c, .slice wt.a wt.n wt.c, .slice rd.a rd.n rd.c, .slice rg.a rg.n rg.c] 32)).alloc (.cells #[.int .i64 kind, .string key, .string value] 35)) zeroV 32; simpa using h, (((Below.refl _ _).alloc (Nat.le_refl _) _).alloc (by simp <;> omega) _).alloc (by simp <;> omega) _, by simp⟩
  obtain ⟨W0, e0, q1, q2, q3, q4, q5⟩ := hW0
  have HRP := Lib.hid (hS.below hr q4)
  have HDV := Lib.hid (hd.below q4)
  have HD0 := Lib.hid hd
  have HS := Lib.hid hS
  have HX := Lib.hid hX
  have HLM := Lib.hid hlim
  have HOK := Lib.hid hok
  have HLT := Lib.hid hlt
  have HSB := Lib.hid hsub
  have E0 := Lib.hid e0
  have Q1 := Lib.hid q1
  have Q2 := Lib.hid q2
  have Q3 := Lib.hid q3
  have Q4 := Lib.hid q4
  have Q5 := Lib.hid q5
  have HK1 := Lib.hid hk1
  have HK2 := Lib.hid hk2
  have hn0 : ¬ S w.heap.size := fun h => by have := hlt _ (hsub _ h); omega
  have hn1 : ¬ S (w.heap.size + 1) := fun h => by have := hlt _ (hsub _ h); omega
  have hn2 : ¬ S (w.heap.size + 2) := fun h => by have := hlt _ (hsub _ h); omega
  have HN0 := Lib.hid hn0
  have HN1 := Lib.hid hn1
  have HN2 := Lib.hid hn2
  clear hd hr hok hlim hlt hsub hX hS e0 q1 q2 q3 q4 q5 hk1 hk2 hn0 hn1 hn2
  go_enter Try.func11, Try.ntmps11
  go_upto_region 1 with (fail)
  change Code.wp _ _ _ _ (((w.alloc (.cells #[.slice b.a b.n b.c, .slice wt.a wt.n wt.c, .slice rd.a rd.n rd.c, .slice rg.a rg.n rg.c] 32)).alloc (.cells #[.int .i64 kind, .string key, .string value] 35)).alloc (.cells zeroV 32))
  rw [E0.out]
  have a0 : W0.cell? ⟨w.heap.size + 1, 0, none⟩ = some (.int .i64 kind) := Q2.out.cell 0
  have a1 : W0.cell? ⟨w.heap.size + 1, 1, none⟩ = some (.string key) := Q2.out.cell 1
  have a2 : W0.cell? ⟨w.heap.size + 1, 2, none⟩ = some (.string value) := Q2.out.cell 2
  have k0 : (kind == 0) = false := by rw [beq_eq_false_iff_ne]; exact hne.1
  have k1 : (kind == 1) = false := by rw [beq_eq_false_iff_ne]; exact hne.2.1
  have k2 : (kind == 2) = false := by rw [beq_eq_false_iff_ne]; exact hne.2.2.1
  have k3 : (kind == 3) = false := by rw [beq_eq_false_iff_ne]; exact hne.2.2.2.1
  have k4 : (kind == 4) = false := by rw [beq_eq_false_iff_ne]; exact hne.2.2.2.2
  clear hne
  obtain ⟨d0, d1, d2, d3⟩ : W0.cell? ⟨w.heap.size, 0, none⟩ = some (.slice b.a b.n b.c) ∧ W0.cell? ⟨w.heap.size, 1, none⟩ = some (.slice wt.a wt.n wt.c) ∧ W0.cell? ⟨w.heap.size, 2, none⟩ = some (.slice rd.a rd.n rd.c) ∧ W0.cell? ⟨w.heap.size, 3, none⟩ = some (.slice rg.a rg.n rg.c) := ⟨Q1.out.cell 0, Q1.out.cell 1, Q1.out.cell 2, Q1.out.cell 3⟩
  obtain ⟨r0, r1, r2, r3⟩ : W0.cell? ⟨w.heap.size + 2, 0, none⟩ = some (.slice none 0 0) ∧ W0.cell? ⟨w.heap.size + 2, 1, none⟩ = some (.slice none 0 0) ∧ W0.cell? ⟨w.heap.size + 2, 2, none⟩ = some (.slice none 0 0) ∧ W0.cell? ⟨w.heap.size + 2, 3, none⟩ = some (.slice none 0 0) := ⟨Q3.out.cell 0, Q3.out.cell 1, Q3.out.cell 2, Q3.out.cell 3⟩
  obtain ⟨f0, f1, f2, f3⟩ : W0.frozen? ⟨w.heap.size + 2, 0, none⟩ = false ∧ W0.frozen? ⟨w.heap.size + 2, 1, none⟩ = false ∧ W0.frozen? ⟨w.heap.size + 2, 2, none⟩ = false ∧ W0.frozen? ⟨w.heap.size + 2, 3, none⟩ = false := ⟨Q3.out.frozen 0, Q3.out.frozen 1, Q3.out.frozen 2, Q3.out.frozen 3⟩
  go_wp2_with fail
  go_region_law (fail)
  all_goals go_wp2_with fail
  have hz : Blk ((((W0.setCell ⟨w.heap.size + 2, 0, none⟩ (.slice b.a b.n b.c)).setCell ⟨w.heap.size + 2, 1, none⟩ (.slice wt.a wt.n wt.c)).setCell ⟨w.heap.size + 2, 2, none⟩ (.slice rd.a rd.n rd.c)).setCell ⟨w.heap.size + 2, 3, none⟩ (.slice rg.a rg.n rg.c)).drew (w.heap.size + 2) #[.slice b.a b.n b.c, .slice wt.a wt.n wt.c, .slice rd.a rd.n rd.c, .slice rg.a rg.n rg.c] 32 := (put4 Q3.out (by decide) _ _ _ _).2.2
  refine bodyPost_ret (v := .tuple #[.bool true, .agg #[.slice b.a b.n b.c, .slice wt.a wt.n wt.c, .slice rd.a rd.n rd.c, .slice rg.a rg.n rg.c]]) (results_tmp1_row rfl _ _ (w.heap.size + 2) 32 _ (0, 0) _ rfl (.bool true) rfl hz Try.underlying32 rfl info_view) rfl ?_
  exact fin HS.out Q4.out Q5.out HLT.out HRP.out HDV.out (Chg.of_below Q4.out) (Kept.of_below Q4.out) (Grow.refl _ _) (Grow.refl _ _) Q3.out (off_old HD0.out.dv.base (Nat.le_add_right _ _)) (off_old HD0.out.dv.wr (Nat.le_add_right _ _)) (off_old HD0.out.dv.rd (Nat.le_add_right _ _)) (off_old HD0.out.dv.rg (Nat.le_add_right _ _)) (.inl rfl) (.inl rfl) (.inl rfl)

end Go.Proofs.Ytdnenikplajmaaa.ViewDw
