import Derived.Test.YtogdjbhjgbnicaaGreatDoorSq
import Derived.Test.YtogdjbhjgbnicaaGreatDoorTreeE
set_option maxHeartbeats 16000000
set_option linter.unusedVariables false
set_option linter.unusedSimpArgs false
set_option maxRecDepth 100000
namespace Go.Proofs.YtogdjbhjgbnicaaGreatDoor.TreeF
open Go.RowKit
open Byte KeysM TreeM Own Lst TreeR TreeL TreeB TreeD TreeE Ho
theorem leanR_calls (l r : Tt) (p : Pr) (A B : Option Addr) (w : World) (hl : Nd w l A) (hr : Nd w r B) (hn : l.sz + r.sz ≤ 90000) (hh : r.ht + 1 < l.ht) :
 Calls Tryz.prog 186 #[.pointer A,.agg #[.string p.key,.string p.value,.bool p.gone],.pointer B] w (NdR (Tt.leanR l p r) w) := by
 cases l with
 | no => exact absurd hh (by simp [Tt.ht])
 | nd ll lp inner =>
   unfold Tt.leanR
   dsimp only
   by_cases h1 : inner.ht ≤ ll.ht
   ·rw [if_pos h1]
    exact leanR_1 ll r inner lp p A B w hl hr hn h1
   ·rw [if_neg h1]
    cases inner with
    | no => exact absurd (Nat.zero_le _) h1
    | nd a q b => exact leanR_2 ll r a b lp p q A B w hl hr hn (by omega)
theorem leanL_calls (l r : Tt) (p : Pr) (A B : Option Addr) (w : World) (hl : Nd w l A) (hr : Nd w r B) (hn : l.sz + r.sz ≤ 90000) (hh : l.ht + 1 < r.ht) :
 Calls Tryz.prog 187 #[.pointer A,.agg #[.string p.key,.string p.value,.bool p.gone],.pointer B] w (NdR (Tt.leanL l p r) w) := by
 cases r with
 | no => exact absurd hh (by simp [Tt.ht])
 | nd inner rp rr =>
   unfold Tt.leanL
   dsimp only
   by_cases h1 : inner.ht ≤ rr.ht
   ·rw [if_pos h1]
    exact leanL_1 rr l inner rp p B A w hr hl (by omega) h1
   ·rw [if_neg h1]
    cases inner with
    | no => exact absurd (Nat.zero_le _) h1
    | nd a q b => exact leanL_2 rr l a b rp p q B A w hr hl (by omega) (by omega)
theorem balance_calls (l r : Tt) (p : Pr) (A B : Option Addr) (w : World) (hl : Nd w l A) (hr : Nd w r B) (hn : l.sz + r.sz ≤ 90000) :
 Calls Tryz.prog 176 #[.pointer A,.agg #[.string p.key,.string p.value,.bool p.gone],.pointer B] w (NdR (Tt.bal l p r) w) := by
 have hb1 := bN_ w (.cells #[.string p.key,.string p.value,.bool p.gone] 64)
 obtain ⟨c0,c1,c2⟩ := pair_new w p
 have HL := hQ_ (hl.below hb1)
 have HR := hQ_ (hr.below hb1)
 obtain ⟨h1,e1⟩ : ∃ n,l.ht = n := ⟨_,rfl⟩
 obtain ⟨h2,e2⟩ : ∃ n,r.ht = n := ⟨_,rfl⟩
 have i1 : h1 ≤ 90000 := by have := Tt.ht_sz l; omega
 have i2 : h2 ≤ 90000 := by have := Tt.ht_sz r; omega
 have HN := hQ_ hn
 have HB1 := hQ_ hb1
 have hcase : (h2 + 1 < h1 ∧ Tt.bal l p r = Tt.leanR l p r) ∨ (¬ h2 + 1 < h1 ∧ h1 + 1 < h2 ∧ Tt.bal l p r = Tt.leanL l p r) ∨ (¬ h2 + 1 < h1 ∧ ¬ h1 + 1 < h2 ∧ Tt.bal l p r = Tt.nd l p r) := by
  unfold Tt.bal
  rw [e1,e2]
  by_cases x1 : h2 + 1 < h1
  ·exact .inl ⟨x1,if_pos x1⟩
  ·by_cases x2 : h1 + 1 < h2
   ·exact .inr (.inl ⟨x1,x2,by rw [if_neg x1,if_pos x2]⟩)
   ·exact .inr (.inr ⟨x1,x2,by rw [if_neg x1,if_neg x2]⟩)
 have E1 := hQ_ e1
 have E2 := hQ_ e2
 clear hl hr e1 e2 hn hb1
 rcases hcase with ⟨x1,e⟩ | ⟨x1,x2,e⟩ | ⟨x1,x2,e⟩
 ·rw [e]
  clear e
  have d1 : decide ((h2 : Int) + 1 < (h1 : Int)) = true := decide_eq_true (by omega)
  go_enter Tryz.func176,Tryz.ntmps176
  go_wp2_with (first
   | (go_at_call 185; with_reducible refine (height_calls l A _ HL.out h1 E1.out).mono ?_; rintro e w3 ⟨rfl,rfl⟩)
   | (go_at_call 185; with_reducible refine (height_calls r B _ HR.out h2 E2.out).mono ?_; rintro e w3 ⟨rfl,rfl⟩)
   | (go_at_call 186; refine (leanR_calls l r p A B _ HL.out HR.out HN.out (by rw [E1.out,E2.out]; exact x1)).mono ?_; rintro e w4 ⟨A4,rfl,hn4,hb4⟩; have HN4 := hQ_ hn4; have HB4 := hQ_ (keeps HB1.out hb4); clear hn4 hb4))
  go_ret
  exact ⟨_,rfl,HN4.out,HB4.out⟩
 ·rw [e]
  clear e
  have d1 : decide ((h2 : Int) + 1 < (h1 : Int)) = false := decide_eq_false (by omega)
  have d2 : decide ((h1 : Int) + 1 < (h2 : Int)) = true := decide_eq_true (by omega)
  go_enter Tryz.func176,Tryz.ntmps176
  go_wp2_with (first
   | (go_at_call 185; with_reducible refine (height_calls l A _ HL.out h1 E1.out).mono ?_; rintro e w3 ⟨rfl,rfl⟩)
   | (go_at_call 185; with_reducible refine (height_calls r B _ HR.out h2 E2.out).mono ?_; rintro e w3 ⟨rfl,rfl⟩)
   | (go_at_call 187; refine (leanL_calls l r p A B _ HL.out HR.out HN.out (by rw [E1.out,E2.out]; exact x2)).mono ?_; rintro e w4 ⟨A4,rfl,hn4,hb4⟩; have HN4 := hQ_ hn4; have HB4 := hQ_ (keeps HB1.out hb4); clear hn4 hb4))
  go_ret
  exact ⟨_,rfl,HN4.out,HB4.out⟩
 ·rw [e]
  clear e
  have d1 : decide ((h2 : Int) + 1 < (h1 : Int)) = false := decide_eq_false (by omega)
  have d2 : decide ((h1 : Int) + 1 < (h2 : Int)) = false := decide_eq_false (by omega)
  go_enter Tryz.func176,Tryz.ntmps176
  go_wp2_with (first
   | (go_at_call 185; with_reducible refine (height_calls l A _ HL.out h1 E1.out).mono ?_; rintro e w3 ⟨rfl,rfl⟩)
   | (go_at_call 185; with_reducible refine (height_calls r B _ HR.out h2 E2.out).mono ?_; rintro e w3 ⟨rfl,rfl⟩)
   | (go_at_call 175; refine (join_calls l r p A B _ HL.out HR.out (by have := HN.out; omega)).mono ?_; rintro e w4 ⟨A4,rfl,hn4,hb4⟩; have HN4 := hQ_ hn4; have HB4 := hQ_ (keeps HB1.out hb4); clear hn4 hb4))
  go_ret
  exact ⟨_,rfl,HN4.out,HB4.out⟩
theorem set_sz (t : Tt) (p : Pr) : (t.set p).sz ≤ t.sz + 1 := by
 induction t with
 | no => exact Nat.le_refl _
 | nd l q r ihl ihr =>
   unfold Tt.set
   split
   ·rw [Tt.sz_bal]; simp only [Tt.sz]; omega
   ·split
    ·rw [Tt.sz_bal]; simp only [Tt.sz]; omega
    ·simp only [Tt.sz]; omega
theorem cut_sz (t : Tt) : ∀ k : ByteArray,(t.cut k).sz ≤ t.sz := by
 induction t with
 | no => intro k; exact Nat.le_refl _
 | nd l q r ihl ihr =>
   intro k
   unfold Tt.cut
   split
   ·rw [Tt.sz_bal]; have := ihl k; simp only [Tt.sz]; omega
   ·split
    ·rw [Tt.sz_bal]; have := ihr k; simp only [Tt.sz]; omega
    ·cases r with
     | no => simp only [Tt.sz]; omega
     | nd a x b => dsimp only; rw [Tt.sz_bal]; have := ihr (Tt.first (.nd a x b)).key; simp only [Tt.sz] at this ⊢; omega
theorem set_1 (l r : Tt) (q p : Pr) (ihl : ∀ (A : Option Addr) (w : World),l.sz ≤ 60000 → Nd w l A → Calls Tryz.prog 164 #[.pointer A,.agg #[.string p.key,.string p.value,.bool p.gone]] w (NdR (l.set p) w)) (ihr : ∀ (A : Option Addr) (w : World),r.sz ≤ 60000 → Nd w r A → Calls Tryz.prog 164 #[.pointer A,.agg #[.string p.key,.string p.value,.bool p.gone]] w (NdR (r.set p) w)) (A : Option Addr) (w : World) (hn : (Tt.nd l q r).sz ≤ 60000) (h : Nd w (Tt.nd l q r) A) (hc : kl p.key q.key = true) :
 Calls Tryz.prog 164 #[.pointer A,.agg #[.string p.key,.string p.value,.bool p.gone]] w (NdR (Tt.bal (l.set p) q r) w) := by
 obtain ⟨b,C,D,rfl,hk,hl,hr⟩ := h
 have HP := hQ_ (Blk.new_ w #[.string p.key,.string p.value,.bool p.gone] 64)
 have hb1 := bX_ HP.out
 have HK := hQ_ (hk.below hb1)
 have HL := hQ_ (hl.below hb1)
 have HR := hQ_ (hr.below hb1)
 have HB1 := hQ_ hb1
 have HN := hQ_ hn
 have IL := hQ_ ihl
 clear hk hl hr hb1 hn ihl ihr
 have f0 : Op.bytesLess (p.key).toList (q.key).toList = true := hc
 clear hc
 go_enter Tryz.func164,Tryz.ntmps164
 go_wp2_with fail
 obtain ⟨W,hW⟩ : ∃ W,w.alloc (.cells #[.string p.key,.string p.value,.bool p.gone] 64) = W := ⟨_,rfl⟩
 rw [hW] at HP HK HL HR HB1 ⊢
 clear hW
 have RD : Hid (∀ v,Below W.heap.size W v → Below W.heap.size W v ∧ v.cell? ⟨b,0,none⟩ = some (.string q.key) ∧ v.cell? ⟨b,1,none⟩ = some (.string q.value) ∧ v.cell? ⟨b,2,none⟩ = some (.bool q.gone) ∧ v.cell? ⟨b,3,none⟩ = some (.pointer C) ∧ v.cell? ⟨b,4,none⟩ = some (.pointer D) ∧ v.cell? ⟨w.heap.size,0,none⟩ = some (.string p.key) ∧ v.cell? ⟨w.heap.size,1,none⟩ = some (.string p.value) ∧ v.cell? ⟨w.heap.size,2,none⟩ = some (.bool p.gone)) := hQ_ fun v hv => (by
  obtain ⟨x0,x1,x2,x3,x4⟩ := node_blk HK.out hv
  obtain ⟨y0,y1,y2⟩ := pair_blk HP.out hv
  exact ⟨hv,x0,x1,x2,x3,x4,y0,y1,y2⟩)
 refine wp_region_held_drew (S := fun v => Below W.heap.size W v ∧ v.cell? ⟨b,0,none⟩ = some (.string q.key) ∧ v.cell? ⟨b,1,none⟩ = some (.string q.value) ∧ v.cell? ⟨b,2,none⟩ = some (.bool q.gone) ∧ v.cell? ⟨b,3,none⟩ = some (.pointer C) ∧ v.cell? ⟨b,4,none⟩ = some (.pointer D) ∧ v.cell? ⟨w.heap.size,0,none⟩ = some (.string p.key) ∧ v.cell? ⟨w.heap.size,1,none⟩ = some (.string p.value) ∧ v.cell? ⟨w.heap.size,2,none⟩ = some (.bool p.gone)) (by kernel_rfl) (RD.out _ (Below.drew (Below.refl _ _))) (fun hHeld => ?_)
 refine hw_ 0 (some 11) ?_
 refine hw_ 1 (some 12) ?_
 refine hw_ 2 (some 13) ?_
 refine hw_ 3 (some 14) ?_
 refine hw_ 4 (some 15) ?_
 refine hw_ 5 (some 16) ?_
 refine hw_ 6 (some 17) ?_
 refine hw_ 7 (some 18) ?_
 refine hw_ 8 (some 10) ?_
 refine wpAnyH_done (by kernel_rfl) ?_ _
 have hv2 := hHeld.1
 clear hHeld
 go_wp2_with fail
 obtain ⟨W2,hW2⟩ : ∃ V,World.drew W = V := ⟨_,rfl⟩
 rw [hW2] at hv2 ⊢
 clear hW2
 refine wp_region_held_drew (S := fun v => Below W.heap.size W v ∧ v.cell? ⟨b,0,none⟩ = some (.string q.key) ∧ v.cell? ⟨b,1,none⟩ = some (.string q.value) ∧ v.cell? ⟨b,2,none⟩ = some (.bool q.gone) ∧ v.cell? ⟨b,3,none⟩ = some (.pointer C) ∧ v.cell? ⟨b,4,none⟩ = some (.pointer D) ∧ v.cell? ⟨w.heap.size,0,none⟩ = some (.string p.key) ∧ v.cell? ⟨w.heap.size,1,none⟩ = some (.string p.value) ∧ v.cell? ⟨w.heap.size,2,none⟩ = some (.bool p.gone)) (by kernel_rfl) (RD.out _ hv2.drew) (fun hHeld => ?_)
 refine hw_ 0 (some 19) ?_
 refine hw_ 1 (some 20) ?_
 refine hw_ 2 (some 21) ?_
 refine hw_ 3 (some 22) ?_
 refine hw_ 4 (some 23) ?_
 refine hw_ 6 (some 25) ?_
 refine hw_ 7 (some 26) ?_
 refine hw_ 8 (some 27) ?_
 refine hw_ 9 (some 28) ?_
 refine hw_ 10 (some 29) ?_
 refine hw_ 11 (some 30) ?_
 refine hw_ 12 (some 31) ?_
 refine hw_ 13 (some 32) ?_
 refine ho_step 5 (some 24) rfl rfl (by kernel_rfl) (by kernel_rfl) (fun K hK => ?_)
 go_simp
 (go_at_call 164; refine (IL.out C _ (by have := HN.out; simp only [Tt.sz] at this; omega) (HL.out.below (And.left hHeld))).mono ?_; rintro e w3 ⟨A3,rfl,hn3,hb3⟩; have hx3 : Below W.heap.size W w3 := keeps (And.left hHeld) hb3; have HN3 := hQ_ hn3; clear hn3)
 try go_wp2_with fail
 refine hK.out _ _ (RD.out _ hx3) (fun hHeld2 => ?_)
 clear hHeld
 have hHeld := hHeld2
 clear hHeld2
 clear hK K
 try simp only [pZ_]
 refine ho_step 14 (some 33) rfl rfl (by kernel_rfl) (by kernel_rfl) (fun K hK => ?_)
 go_simp
 (go_at_call 176; refine (balance_calls (l.set p) r q _ D _ HN3.out (HR.out.below (And.left hHeld)) (by have := HN.out; simp only [Tt.sz] at this; have := set_sz l p; omega)).mono ?_; rintro e w4 ⟨A4,rfl,hn4,hb4⟩; have hx4 : Below W.heap.size W w4 := keeps (And.left hHeld) hb4; have HN4 := hQ_ hn4; clear hn4)
 try go_wp2_with fail
 refine hK.out _ _ (RD.out _ hx4) (fun hHeld2 => ?_)
 clear hHeld
 have hHeld := hHeld2
 clear hHeld2
 clear hK K
 try simp only [pZ_]
 refine hw_ 15 (some 4) ?_
 refine wpAnyH_done (by kernel_rfl) ?_ _
 have HZ := hQ_ (keeps HB1.out hHeld.1)
 clear hHeld RD
 go_wp2_with fail
 go_ret
 exact ⟨_,rfl,HN4.out,HZ.out⟩
theorem set_2 (l r : Tt) (q p : Pr) (ihl : ∀ (A : Option Addr) (w : World),l.sz ≤ 60000 → Nd w l A → Calls Tryz.prog 164 #[.pointer A,.agg #[.string p.key,.string p.value,.bool p.gone]] w (NdR (l.set p) w)) (ihr : ∀ (A : Option Addr) (w : World),r.sz ≤ 60000 → Nd w r A → Calls Tryz.prog 164 #[.pointer A,.agg #[.string p.key,.string p.value,.bool p.gone]] w (NdR (r.set p) w)) (A : Option Addr) (w : World) (hn : (Tt.nd l q r).sz ≤ 60000) (h : Nd w (Tt.nd l q r) A) (hc : kl p.key q.key = false) (hc2 : kl q.key p.key = true) :
 Calls Tryz.prog 164 #[.pointer A,.agg #[.string p.key,.string p.value,.bool p.gone]] w (NdR (Tt.bal l q (r.set p)) w) := by
 obtain ⟨b,C,D,rfl,hk,hl,hr⟩ := h
 have HP := hQ_ (Blk.new_ w #[.string p.key,.string p.value,.bool p.gone] 64)
 have hb1 := bX_ HP.out
 have HK := hQ_ (hk.below hb1)
 have HL := hQ_ (hl.below hb1)
 have HR := hQ_ (hr.below hb1)
 have HB1 := hQ_ hb1
 have HN := hQ_ hn
 have IR := hQ_ ihr
 clear hk hl hr hb1 hn ihl ihr
 have z2 : (p.key.toList == q.key.toList) = false := by rw [eq_list,decide_eq_false (kl_ne hc2).symm]
 have f0 : Op.bytesLess (p.key).toList (q.key).toList = false := hc
 clear hc
 have f1 : Op.bytesLess (q.key).toList (p.key).toList = true := hc2
 clear hc2
 go_enter Tryz.func164,Tryz.ntmps164
 go_wp2_with fail
 obtain ⟨W,hW⟩ : ∃ W,w.alloc (.cells #[.string p.key,.string p.value,.bool p.gone] 64) = W := ⟨_,rfl⟩
 rw [hW] at HP HK HL HR HB1 ⊢
 clear hW
 have RD : Hid (∀ v,Below W.heap.size W v → Below W.heap.size W v ∧ v.cell? ⟨b,0,none⟩ = some (.string q.key) ∧ v.cell? ⟨b,1,none⟩ = some (.string q.value) ∧ v.cell? ⟨b,2,none⟩ = some (.bool q.gone) ∧ v.cell? ⟨b,3,none⟩ = some (.pointer C) ∧ v.cell? ⟨b,4,none⟩ = some (.pointer D) ∧ v.cell? ⟨w.heap.size,0,none⟩ = some (.string p.key) ∧ v.cell? ⟨w.heap.size,1,none⟩ = some (.string p.value) ∧ v.cell? ⟨w.heap.size,2,none⟩ = some (.bool p.gone)) := hQ_ fun v hv => (by
  obtain ⟨x0,x1,x2,x3,x4⟩ := node_blk HK.out hv
  obtain ⟨y0,y1,y2⟩ := pair_blk HP.out hv
  exact ⟨hv,x0,x1,x2,x3,x4,y0,y1,y2⟩)
 refine wp_region_held_drew (S := fun v => Below W.heap.size W v ∧ v.cell? ⟨b,0,none⟩ = some (.string q.key) ∧ v.cell? ⟨b,1,none⟩ = some (.string q.value) ∧ v.cell? ⟨b,2,none⟩ = some (.bool q.gone) ∧ v.cell? ⟨b,3,none⟩ = some (.pointer C) ∧ v.cell? ⟨b,4,none⟩ = some (.pointer D) ∧ v.cell? ⟨w.heap.size,0,none⟩ = some (.string p.key) ∧ v.cell? ⟨w.heap.size,1,none⟩ = some (.string p.value) ∧ v.cell? ⟨w.heap.size,2,none⟩ = some (.bool p.gone)) (by kernel_rfl) (RD.out _ (Below.drew (Below.refl _ _))) (fun hHeld => ?_)
 refine hw_ 0 (some 11) ?_
 refine hw_ 1 (some 12) ?_
 refine hw_ 2 (some 13) ?_
 refine hw_ 3 (some 14) ?_
 refine hw_ 4 (some 15) ?_
 refine hw_ 5 (some 16) ?_
 refine hw_ 6 (some 17) ?_
 refine hw_ 7 (some 18) ?_
 refine hw_ 8 (some 10) ?_
 refine wpAnyH_done (by kernel_rfl) ?_ _
 have hv2 := hHeld.1
 clear hHeld
 go_wp2_with fail
 obtain ⟨W2,hW2⟩ : ∃ V,World.drew W = V := ⟨_,rfl⟩
 rw [hW2] at hv2 ⊢
 clear hW2
 refine wp_region_held_drew (S := fun v => Below W.heap.size W v ∧ v.cell? ⟨b,0,none⟩ = some (.string q.key) ∧ v.cell? ⟨b,1,none⟩ = some (.string q.value) ∧ v.cell? ⟨b,2,none⟩ = some (.bool q.gone) ∧ v.cell? ⟨b,3,none⟩ = some (.pointer C) ∧ v.cell? ⟨b,4,none⟩ = some (.pointer D) ∧ v.cell? ⟨w.heap.size,0,none⟩ = some (.string p.key) ∧ v.cell? ⟨w.heap.size,1,none⟩ = some (.string p.value) ∧ v.cell? ⟨w.heap.size,2,none⟩ = some (.bool p.gone)) (by kernel_rfl) (RD.out _ hv2.drew) (fun hHeld => ?_)
 refine hw_ 0 (some 35) ?_
 refine hw_ 1 (some 36) ?_
 refine hw_ 2 (some 37) ?_
 refine hw_ 3 (some 38) ?_
 refine hw_ 4 (some 39) ?_
 refine hw_ 5 (some 40) ?_
 refine hw_ 6 (some 41) ?_
 refine hw_ 7 (some 42) ?_
 refine hw_ 8 (some 34) ?_
 refine wpAnyH_done (by kernel_rfl) ?_ _
 have hv3 := hHeld.1
 clear hHeld
 go_wp2_with fail
 obtain ⟨W3,hW3⟩ : ∃ V,World.drew W2 = V := ⟨_,rfl⟩
 rw [hW3] at hv3 ⊢
 clear hW3
 refine wp_region_held_drew (S := fun v => Below W.heap.size W v ∧ v.cell? ⟨b,0,none⟩ = some (.string q.key) ∧ v.cell? ⟨b,1,none⟩ = some (.string q.value) ∧ v.cell? ⟨b,2,none⟩ = some (.bool q.gone) ∧ v.cell? ⟨b,3,none⟩ = some (.pointer C) ∧ v.cell? ⟨b,4,none⟩ = some (.pointer D) ∧ v.cell? ⟨w.heap.size,0,none⟩ = some (.string p.key) ∧ v.cell? ⟨w.heap.size,1,none⟩ = some (.string p.value) ∧ v.cell? ⟨w.heap.size,2,none⟩ = some (.bool p.gone)) (by kernel_rfl) (RD.out _ hv3.drew) (fun hHeld => ?_)
 refine hw_ 0 (some 43) ?_
 refine hw_ 1 (some 44) ?_
 refine hw_ 2 (some 45) ?_
 refine hw_ 3 (some 46) ?_
 refine hw_ 4 (some 47) ?_
 refine hw_ 5 (some 48) ?_
 refine hw_ 6 (some 49) ?_
 refine hw_ 7 (some 50) ?_
 refine hw_ 8 (some 51) ?_
 refine hw_ 9 (some 52) ?_
 refine hw_ 10 (some 53) ?_
 refine hw_ 11 (some 54) ?_
 refine hw_ 12 (some 55) ?_
 refine ho_step 13 (some 56) rfl rfl (by kernel_rfl) (by kernel_rfl) (fun K hK => ?_)
 go_simp
 (go_at_call 164; refine (IR.out D _ (by have := HN.out; simp only [Tt.sz] at this; omega) (HR.out.below (And.left hHeld))).mono ?_; rintro e w4 ⟨A4,rfl,hn4,hb4⟩; have hx4 : Below W.heap.size W w4 := keeps (And.left hHeld) hb4; have HN4 := hQ_ hn4; clear hn4)
 try go_wp2_with fail
 refine hK.out _ _ (RD.out _ hx4) (fun hHeld2 => ?_)
 clear hHeld
 have hHeld := hHeld2
 clear hHeld2
 clear hK K
 try simp only [pZ_]
 refine ho_step 14 (some 57) rfl rfl (by kernel_rfl) (by kernel_rfl) (fun K hK => ?_)
 go_simp
 (go_at_call 176; refine (balance_calls l (r.set p) q C _ _ (HL.out.below (And.left hHeld)) HN4.out (by have := HN.out; simp only [Tt.sz] at this; have := set_sz r p; omega)).mono ?_; rintro e w5 ⟨A5,rfl,hn5,hb5⟩; have hx5 : Below W.heap.size W w5 := keeps (And.left hHeld) hb5; have HN5 := hQ_ hn5; clear hn5)
 try go_wp2_with fail
 refine hK.out _ _ (RD.out _ hx5) (fun hHeld2 => ?_)
 clear hHeld
 have hHeld := hHeld2
 clear hHeld2
 clear hK K
 try simp only [pZ_]
 refine hw_ 15 (some 4) ?_
 refine wpAnyH_done (by kernel_rfl) ?_ _
 have HZ := hQ_ (keeps HB1.out hHeld.1)
 clear hHeld RD
 go_wp2_with fail
 go_ret
 exact ⟨_,rfl,HN5.out,HZ.out⟩
theorem set_3 (l r : Tt) (q p : Pr) (ihl : ∀ (A : Option Addr) (w : World),l.sz ≤ 60000 → Nd w l A → Calls Tryz.prog 164 #[.pointer A,.agg #[.string p.key,.string p.value,.bool p.gone]] w (NdR (l.set p) w)) (ihr : ∀ (A : Option Addr) (w : World),r.sz ≤ 60000 → Nd w r A → Calls Tryz.prog 164 #[.pointer A,.agg #[.string p.key,.string p.value,.bool p.gone]] w (NdR (r.set p) w)) (A : Option Addr) (w : World) (hn : (Tt.nd l q r).sz ≤ 60000) (h : Nd w (Tt.nd l q r) A) (hc : kl p.key q.key = false) (hc2 : kl q.key p.key = false) :
 Calls Tryz.prog 164 #[.pointer A,.agg #[.string p.key,.string p.value,.bool p.gone]] w (NdR (Tt.nd l p r) w) := by
 obtain ⟨b,C,D,rfl,hk,hl,hr⟩ := h
 have HP := hQ_ (Blk.new_ w #[.string p.key,.string p.value,.bool p.gone] 64)
 have hb1 := bX_ HP.out
 have HK := hQ_ (hk.below hb1)
 have HL := hQ_ (hl.below hb1)
 have HR := hQ_ (hr.below hb1)
 have HB1 := hQ_ hb1
 have HN := hQ_ hn
 clear hk hl hr hb1 hn ihl ihr
 have z2 : (p.key.toList == q.key.toList) = true := by rw [eq_list,decide_eq_true (kl_tri hc hc2)]
 have f0 : Op.bytesLess (p.key).toList (q.key).toList = false := hc
 clear hc
 have f1 : Op.bytesLess (q.key).toList (p.key).toList = false := hc2
 clear hc2
 go_enter Tryz.func164,Tryz.ntmps164
 go_wp2_with fail
 obtain ⟨W,hW⟩ : ∃ W,w.alloc (.cells #[.string p.key,.string p.value,.bool p.gone] 64) = W := ⟨_,rfl⟩
 rw [hW] at HP HK HL HR HB1 ⊢
 clear hW
 have RD : Hid (∀ v,Below W.heap.size W v → Below W.heap.size W v ∧ v.cell? ⟨b,0,none⟩ = some (.string q.key) ∧ v.cell? ⟨b,1,none⟩ = some (.string q.value) ∧ v.cell? ⟨b,2,none⟩ = some (.bool q.gone) ∧ v.cell? ⟨b,3,none⟩ = some (.pointer C) ∧ v.cell? ⟨b,4,none⟩ = some (.pointer D) ∧ v.cell? ⟨w.heap.size,0,none⟩ = some (.string p.key) ∧ v.cell? ⟨w.heap.size,1,none⟩ = some (.string p.value) ∧ v.cell? ⟨w.heap.size,2,none⟩ = some (.bool p.gone)) := hQ_ fun v hv => (by
  obtain ⟨x0,x1,x2,x3,x4⟩ := node_blk HK.out hv
  obtain ⟨y0,y1,y2⟩ := pair_blk HP.out hv
  exact ⟨hv,x0,x1,x2,x3,x4,y0,y1,y2⟩)
 refine wp_region_held_drew (S := fun v => Below W.heap.size W v ∧ v.cell? ⟨b,0,none⟩ = some (.string q.key) ∧ v.cell? ⟨b,1,none⟩ = some (.string q.value) ∧ v.cell? ⟨b,2,none⟩ = some (.bool q.gone) ∧ v.cell? ⟨b,3,none⟩ = some (.pointer C) ∧ v.cell? ⟨b,4,none⟩ = some (.pointer D) ∧ v.cell? ⟨w.heap.size,0,none⟩ = some (.string p.key) ∧ v.cell? ⟨w.heap.size,1,none⟩ = some (.string p.value) ∧ v.cell? ⟨w.heap.size,2,none⟩ = some (.bool p.gone)) (by kernel_rfl) (RD.out _ (Below.drew (Below.refl _ _))) (fun hHeld => ?_)
 refine hw_ 0 (some 11) ?_
 refine hw_ 1 (some 12) ?_
 refine hw_ 2 (some 13) ?_
 refine hw_ 3 (some 14) ?_
 refine hw_ 4 (some 15) ?_
 refine hw_ 5 (some 16) ?_
 refine hw_ 6 (some 17) ?_
 refine hw_ 7 (some 18) ?_
 refine hw_ 8 (some 10) ?_
 refine wpAnyH_done (by kernel_rfl) ?_ _
 have hv2 := hHeld.1
 clear hHeld
 go_wp2_with fail
 obtain ⟨W2,hW2⟩ : ∃ V,World.drew W = V := ⟨_,rfl⟩
 rw [hW2] at hv2 ⊢
 clear hW2
 refine wp_region_held_drew (S := fun v => Below W.heap.size W v ∧ v.cell? ⟨b,0,none⟩ = some (.string q.key) ∧ v.cell? ⟨b,1,none⟩ = some (.string q.value) ∧ v.cell? ⟨b,2,none⟩ = some (.bool q.gone) ∧ v.cell? ⟨b,3,none⟩ = some (.pointer C) ∧ v.cell? ⟨b,4,none⟩ = some (.pointer D) ∧ v.cell? ⟨w.heap.size,0,none⟩ = some (.string p.key) ∧ v.cell? ⟨w.heap.size,1,none⟩ = some (.string p.value) ∧ v.cell? ⟨w.heap.size,2,none⟩ = some (.bool p.gone)) (by kernel_rfl) (RD.out _ hv2.drew) (fun hHeld => ?_)
 refine hw_ 0 (some 35) ?_
 refine hw_ 1 (some 36) ?_
 refine hw_ 2 (some 37) ?_
 refine hw_ 3 (some 38) ?_
 refine hw_ 4 (some 39) ?_
 refine hw_ 5 (some 40) ?_
 refine hw_ 6 (some 41) ?_
 refine hw_ 7 (some 42) ?_
 refine hw_ 8 (some 34) ?_
 refine wpAnyH_done (by kernel_rfl) ?_ _
 have hv3 := hHeld.1
 clear hHeld
 go_wp2_with fail
 obtain ⟨W3,hW3⟩ : ∃ V,World.drew W2 = V := ⟨_,rfl⟩
 rw [hW3] at hv3 ⊢
 clear hW3
 refine wp_region_held_drew (S := fun v => Below W.heap.size W v ∧ v.cell? ⟨b,0,none⟩ = some (.string q.key) ∧ v.cell? ⟨b,1,none⟩ = some (.string q.value) ∧ v.cell? ⟨b,2,none⟩ = some (.bool q.gone) ∧ v.cell? ⟨b,3,none⟩ = some (.pointer C) ∧ v.cell? ⟨b,4,none⟩ = some (.pointer D) ∧ v.cell? ⟨w.heap.size,0,none⟩ = some (.string p.key) ∧ v.cell? ⟨w.heap.size,1,none⟩ = some (.string p.value) ∧ v.cell? ⟨w.heap.size,2,none⟩ = some (.bool p.gone)) (by kernel_rfl) (RD.out _ hv3.drew) (fun hHeld => ?_)
 refine hw_ 0 (some 58) ?_
 refine hw_ 1 (some 59) ?_
 refine hw_ 2 (some 60) ?_
 refine hw_ 3 (some 61) ?_
 refine hw_ 4 (some 62) ?_
 refine hw_ 5 (some 63) ?_
 refine hw_ 6 (some 64) ?_
 refine hw_ 7 (some 65) ?_
 refine hw_ 8 (some 66) ?_
 refine ho_step 9 (some 67) rfl rfl (by kernel_rfl) (by kernel_rfl) (fun K hK => ?_)
 go_simp
 (go_at_call 175; refine (join_calls l r p C D _ (HL.out.below (And.left hHeld)) (HR.out.below (And.left hHeld)) (by have := HN.out; simp only [Tt.sz] at this; omega)).mono ?_; rintro e w4 ⟨A4,rfl,hn4,hb4⟩; have hx4 : Below W.heap.size W w4 := keeps (And.left hHeld) hb4; have HN4 := hQ_ hn4; clear hn4)
 try go_wp2_with fail
 refine hK.out _ _ (RD.out _ hx4) (fun hHeld2 => ?_)
 clear hHeld
 have hHeld := hHeld2
 clear hHeld2
 clear hK K
 try simp only [pZ_]
 refine hw_ 10 (some 4) ?_
 refine wpAnyH_done (by kernel_rfl) ?_ _
 have HZ := hQ_ (keeps HB1.out hHeld.1)
 clear hHeld RD
 go_wp2_with fail
 go_ret
 exact ⟨_,rfl,HN4.out,HZ.out⟩
theorem set_calls (p : Pr) (t : Tt) : ∀ (A : Option Addr) (w : World),t.sz ≤ 60000 → Nd w t A → Calls Tryz.prog 164 #[.pointer A,.agg #[.string p.key,.string p.value,.bool p.gone]] w (NdR (t.set p) w) := by
 induction t with
 | no =>
   intro A w _ h
   obtain rfl : A = none := h
   have hb1 := bN_ w (.cells #[.string p.key,.string p.value,.bool p.gone] 64)
   obtain ⟨c0,c1,c2⟩ := pair_new w p
   have HB1 := hQ_ hb1
   clear hb1
   go_enter Tryz.func164,Tryz.ntmps164
   go_wp2_with (go_at_call 175; refine (join_calls .no .no p none none _ rfl rfl (by simp [Tt.sz])).mono ?_; rintro e w4 ⟨A4,rfl,hn4,hb4⟩; have HN4 := hQ_ hn4; have HB4 := hQ_ (keeps HB1.out hb4); clear hn4 hb4)
   go_ret
   exact ⟨_,rfl,HN4.out,HB4.out⟩
 | nd l q r ihl ihr =>
   intro A w hn h
   unfold Tt.set
   by_cases h1 : kl p.key q.key = true
   ·rw [if_pos h1]
    exact set_1 l r q p ihl ihr A w hn h h1
   ·rw [if_neg h1]
    by_cases h2 : kl q.key p.key = true
    ·rw [if_pos h2]
     exact set_2 l r q p ihl ihr A w hn h (by simpa using h1) h2
    ·rw [if_neg h2]
     exact set_3 l r q p ihl ihr A w hn h (by simpa using h1) (by simpa using h2)
end Go.Proofs.YtogdjbhjgbnicaaGreatDoor.TreeF