/- Layer 14's laws: the chapter's example, over what the project's view is asked. -/
import Derived.Test.YtdnenikplajmaaaViewL
namespace Go.Proofs.Ytdnenikplajmaaa.ViewF
set_option linter.unusedVariables false
set_option linter.unusedSimpArgs false
open Go.RowKit
open Go.Proofs.Ytdnenikplajmaaa.Byte Go.Proofs.Ytdnenikplajmaaa.KeysM Go.Proofs.Ytdnenikplajmaaa.TreeM Go.Proofs.Ytdnenikplajmaaa.ViewM Go.Proofs.Ytdnenikplajmaaa.Own Go.Proofs.Ytdnenikplajmaaa.Rw Go.Proofs.Ytdnenikplajmaaa.Lst Go.Proofs.Ytdnenikplajmaaa.Chg Go.Proofs.Ytdnenikplajmaaa.TreeR Go.Proofs.Ytdnenikplajmaaa.TreeS Go.Proofs.Ytdnenikplajmaaa.TreeL Go.Proofs.Ytdnenikplajmaaa.TreeG Go.Proofs.Ytdnenikplajmaaa.TreeH Go.Proofs.Ytdnenikplajmaaa.Ho Go.Proofs.Ytdnenikplajmaaa.ViewR Go.Proofs.Ytdnenikplajmaaa.ViewG Go.Proofs.Ytdnenikplajmaaa.ViewW Go.Proofs.Ytdnenikplajmaaa.ViewS Go.Proofs.Ytdnenikplajmaaa.ViewL
variable {Rep : World → Value → Vs → (Nat → Prop) → (Nat → Prop) → Prop}

theorem cut_ex (hC : CutOk Rep) {w : World} {v : Value} {S D : Nat → Prop} (r : Rep w v x0 S D) : Calls Try.prog 19 #[v, .string ⟨#[97]⟩] w fun e w' => ∃ S' D', e = .returned (.bool true) ∧ Rep w' v x1 S' D' ∧ Stp S D S' D' w w' := by
  have h := hC ⟨#[97]⟩ r (lim_ _ rfl rfl (by decide)) (by decide)
  rw [show (⟨⟨#[97]⟩, ⟨#[]⟩, true⟩ : Pr) = eG from rfl, w1_, show x0.wr = [] from rfl, y1.2] at h
  exact h
theorem set_ex (hC : SetOk Rep) {w : World} {v : Value} {S D : Nat → Prop} (r : Rep w v x1 S D) : Calls Try.prog 16 #[v, .string ⟨#[98]⟩, .string ⟨#[50]⟩] w fun e w' => ∃ S' D', e = .returned (.bool true) ∧ Rep w' v x2 S' D' ∧ Stp S D S' D' w w' := by
  have h := hC ⟨#[98]⟩ ⟨#[50]⟩ r (lim_ _ rfl rfl (by decide)) (by decide) (by decide)
  rw [show (⟨⟨#[98]⟩, ⟨#[50]⟩, false⟩ : Pr) = eB from rfl, w2_, show x1.wr = [eG] from rfl, y2.2] at h
  exact h
theorem range_ex (hC : RangeOk Rep) {w : World} {v : Value} {S D : Nat → Prop} (r : Rep w v x2 S D) : Calls Try.prog 22 #[v, .string ⟨#[]⟩, .string ⟨#[122]⟩] w fun e w' => ∃ (r : Sh) (S' D' : Nat → Prop), e = .returned (.slice r.a r.n r.c) ∧ Sl prE w' r.a r.n [eB] ∧ (0 < r.n → NewA w r) ∧ Rep w' v x3 S' D' ∧ Stp S D S' D' w w' := by
  have h := hC ⟨#[]⟩ ⟨#[122]⟩ r (lim_ _ rfl rfl (by decide)) (by decide) (by decide)
  rw [w3_, r3_] at h
  exact h
theorem new_ex (hN : NewOk Rep) {w : World} {t : Value} {h : Nat} (ht : TRep w t (putL ⟨#[97]⟩ ⟨#[49]⟩ []) h) : Calls Try.prog 9 #[t] w fun e w' => ∃ v S D, e = .returned v ∧ Rep w' v x0 S D ∧ (∀ b, S b → w.heap.size ≤ b) ∧ (∀ b, D b → w.heap.size ≤ b) ∧ Below w.heap.size w w' := by
  rw [y0] at ht
  exact hN ht (by decide)
theorem sl_at0 {w : World} {r : Sh} {x : Pr} {L : List Pr} (h : Sl prE w r.a r.n (x :: L)) : ∃ g o, r.a = some ⟨g, o, none⟩ ∧ r.n = L.length + 1 ∧ g < w.heap.size ∧ w.cell? ⟨g, o, none⟩ = some (.string x.key) ∧ w.cell? ⟨g, o + 1, none⟩ = some (.string x.value) ∧ w.cell? ⟨g, o + 2, none⟩ = some (.bool x.gone) := by
  have hn := h.1
  obtain ⟨g, o, e, hg, hc⟩ := h.2 0 x rfl
  obtain ⟨c0, c1, c2, _⟩ := pair_cells hc
  simp only [Nat.zero_mul, Nat.add_zero] at c0 c1 c2
  exact ⟨g, o, e, by rw [← hn]; rfl, hg, c0, c1, c2⟩
set_option maxRecDepth 100000 in
set_option maxHeartbeats 2000000 in
theorem fixed_calls (hS : Stays Rep) (hN : NewOk Rep) (hC : CutOk Rep) (hSe : SetOk Rep) (hR : RangeOk Rep) (hW : WritesOk Rep) (w : World) : Calls Try.prog 12 #[] w fun e w' => e = .returned (.bool true) ∧ Below w.heap.size w w' := by
  have HS := Lib.hid hS
  have HN := Lib.hid hN
  have HC := Lib.hid hC
  have HSE := Lib.hid hSe
  have HR := Lib.hid hR
  have HW := Lib.hid hW
  clear hS hN hC hSe hR hW
  go_enter Try.func12, Try.ntmps12
  go_wp2_with fail
  refine (new_calls _).mono ?_
  rintro e w1 ⟨v0, h0, rfl, hr0, hb1⟩
  have HB1 := Lib.hid hb1
  have HR0 := Lib.hid hr0
  clear hb1 hr0
  go_wp2_with fail
  refine (tset ⟨#[97]⟩ ⟨#[49]⟩ HR0.out (by decide)).mono ?_
  rintro e w2 ⟨v1, h1, rfl, hr1, hb2⟩
  have HB2 := Lib.hid (keeps HB1.out hb2)
  have HR1 := Lib.hid hr1
  clear hb2 hr1
  go_wp2_with fail
  refine (new_ex HN.out HR1.out).mono ?_
  rintro e w3 ⟨v, S, D, rfl, hr, hs, _, hb3⟩
  have HB3 := Lib.hid (keeps HB2.out hb3)
  have HRV := Lib.hid hr
  have HSO : Hid (∀ b, S b → w.heap.size ≤ b) := Lib.hid (fun b hb => Nat.le_trans HB2.out.size (hs b hb))
  clear hb3 hr hs
  go_wp2_with fail
  refine (cut_ex HC.out HRV.out).mono ?_
  rintro e w4 ⟨S1, D1, rfl, hr, hst⟩
  have HB4 := Lib.hid (below_chg HB3.out hst.chg HSO.out (Nat.le_refl _))
  have HSO1 := Lib.hid (new_own HSO.out HB3.out.size hst.own)
  have HRV1 := Lib.hid hr
  clear hr hst
  go_wp2_with fail
  refine (set_ex HSE.out HRV1.out).mono ?_
  rintro e w5 ⟨S2, D2, rfl, hr, hst⟩
  have HB5 := Lib.hid (below_chg HB4.out hst.chg HSO1.out (Nat.le_refl _))
  have HSO2 := Lib.hid (new_own HSO1.out HB4.out.size hst.own)
  have HRV2 := Lib.hid hr
  clear hr hst
  go_wp2_with fail
  refine (range_ex HR.out HRV2.out).mono ?_
  rintro e w6 ⟨r, S3, D3, rfl, hsl, _, hr, hst⟩
  have HB6 := Lib.hid (below_chg HB5.out hst.chg HSO2.out (Nat.le_refl _))
  have HRV3 := Lib.hid hr
  have HSL := Lib.hid hsl
  clear hr hst hsl
  go_wp2_with fail
  refine (HW.out HRV3.out (lim_ _ rfl rfl (by decide))).mono ?_
  rintro e w7 ⟨q, rfl, hsl2, hb7⟩
  have HB7 := Lib.hid (keeps HB6.out hb7)
  obtain ⟨g, o, e1, e2, hg, c0, c1, c2⟩ := sl_at0 (HSL.out.below hb7)
  obtain ⟨g2, o2, e3, e4, hg2, d0, d1, d2⟩ := sl_at0 hsl2
  have hx1 := hsl2.2 1 eB rfl
  obtain ⟨g3, o3, e5, _, hc3⟩ := hx1
  rw [e3] at e5
  injection e5 with e5
  injection e5 with e5 e6
  subst e5
  subst e6
  obtain ⟨f0, f1, f2, _⟩ := pair_cells hc3
  obtain ⟨ra, rn, rc⟩ := r
  obtain ⟨qa, qn, qc⟩ := q
  dsimp only at e1 e2 e3 e4
  subst e1
  subst e2
  subst e3
  subst e4
  simp only [Nat.one_mul] at f0 f1 f2
  clear HSL hsl2 hb7 hc3 hg hg2
  dsimp only [eA, eG, eB, List.length_cons, List.length_nil] at c0 c1 c2 d0 d1 d2 f0 f1 f2 ⊢
  go_wp2_with fail
  go_ret
  exact ⟨rfl, HB7.out⟩
end Go.Proofs.Ytdnenikplajmaaa.ViewF
