import Derived.Test.YtogdjbhjgbnicaaGreatDoorSq
import Derived.Test.YtogdjbhjgbnicaaGreatDoorTreeD
import Derived.Test.YtogdjbhjgbnicaaGreatDoorHo
set_option maxHeartbeats 16000000
set_option linter.unusedVariables false
set_option linter.unusedSimpArgs false
set_option maxRecDepth 100000
namespace Go.Proofs.YtogdjbhjgbnicaaGreatDoor.TreeE
open Go.RowKit
open Byte KeysM TreeM Own Lst TreeR TreeL TreeB TreeD Ho
theorem pair_blk {w v : World} {p : Pr} {b : Nat} (h : Blk w b #[.string p.key,.string p.value,.bool p.gone] 64) (hb : Below w.heap.size w v) : v.cell? ⟨b,0,none⟩ = some (.string p.key) ∧ v.cell? ⟨b,1,none⟩ = some (.string p.value) ∧ v.cell? ⟨b,2,none⟩ = some (.bool p.gone) :=
 ⟨(h.below hb).cell 0,(h.below hb).cell 1,(h.below hb).cell 2⟩
theorem node_blk {w v : World} {p : Pr} {b n h : Nat} {B C : Option Addr} (hk : Blk w b (ndC p B C n h) 125) (hb : Below w.heap.size w v) : v.cell? ⟨b,0,none⟩ = some (.string p.key) ∧ v.cell? ⟨b,1,none⟩ = some (.string p.value) ∧ v.cell? ⟨b,2,none⟩ = some (.bool p.gone) ∧ v.cell? ⟨b,3,none⟩ = some (.pointer B) ∧ v.cell? ⟨b,4,none⟩ = some (.pointer C) :=
 ⟨(hk.below hb).cell 0,(hk.below hb).cell 1,(hk.below hb).cell 2,(hk.below hb).cell 3,(hk.below hb).cell 4⟩
theorem leanR_1 (ot s inner : Tt) (q p : Pr) (A B : Option Addr) (w : World) (hl : Nd w (Tt.nd ot q inner) A) (hr : Nd w s B) (hn : (Tt.nd ot q inner).sz + s.sz ≤ 90000) (hh : inner.ht ≤ ot.ht) :
 Calls Tryz.prog 186 #[.pointer A,.agg #[.string p.key,.string p.value,.bool p.gone],.pointer B] w (NdR (Tt.nd ot q (Tt.nd inner p s)) w) := by
 obtain ⟨b,C,D,rfl,hk,hot,hin⟩ := hl
 have HP := hQ_ (Blk.new_ w #[.string p.key,.string p.value,.bool p.gone] 64)
 have hb1 := bX_ HP.out
 have HK := hQ_ (hk.below hb1)
 have HOT := hQ_ (hot.below hb1)
 have HIN := hQ_ (hin.below hb1)
 have HS := hQ_ (hr.below hb1)
 have HB1 := hQ_ hb1
 have hlt : b < w.heap.size := hk.lt
 have c4 := cZ4 HK.out
 obtain ⟨h1,e1⟩ : ∃ n,ot.ht = n := ⟨_,rfl⟩
 obtain ⟨h2,e2⟩ : ∃ n,inner.ht = n := ⟨_,rfl⟩
 rw [e1,e2] at hh
 have HN := hQ_ hn
 have E1 := hQ_ e1
 have E2 := hQ_ e2
 clear hk hot hin hr hb1 e1 e2 hn
 go_enter Tryz.func186,Tryz.ntmps186
 go_wp2_with fail
 obtain ⟨W,hW⟩ : ∃ W,(w.alloc (.cells #[.string p.key,.string p.value,.bool p.gone] 64)) = W := ⟨_,rfl⟩
 rw [hW] at HP HK HOT HIN HS HB1 c4 ⊢
 clear hW c4
 have RD1 : Hid (∀ v,Below W.heap.size W v → Below W.heap.size W v ∧ v.cell? ⟨b,0,none⟩ = some (.string q.key) ∧ v.cell? ⟨b,1,none⟩ = some (.string q.value) ∧ v.cell? ⟨b,2,none⟩ = some (.bool q.gone) ∧ v.cell? ⟨b,3,none⟩ = some (.pointer C) ∧ v.cell? ⟨b,4,none⟩ = some (.pointer D)) := hQ_ fun v hv => ⟨hv,node_blk HK.out hv⟩
 have d1 : decide ((h2 : Int) ≤ (h1 : Int)) = true := decide_eq_true (by omega)
 have d2 : decide (h2 ≤ h1) = true := decide_eq_true (by omega)
 refine wp_region_held_drew (S := fun v => Below W.heap.size W v ∧ v.cell? ⟨b,0,none⟩ = some (.string q.key) ∧ v.cell? ⟨b,1,none⟩ = some (.string q.value) ∧ v.cell? ⟨b,2,none⟩ = some (.bool q.gone) ∧ v.cell? ⟨b,3,none⟩ = some (.pointer C) ∧ v.cell? ⟨b,4,none⟩ = some (.pointer D)) (by kernel_rfl) (RD1.out _ (Below.drew (Below.refl _ _))) (fun hHeld => ?_)
 refine hw_ 0 (some 12) ?_
 refine hw_ 2 (some 14) ?_
 refine hw_ 3 (some 15) ?_
 refine hw_ 4 (some 16) ?_
 refine hw_ 5 (some 17) ?_
 refine ho_step 1 (some 13) rfl rfl (by kernel_rfl) (by kernel_rfl) (fun K hK => ?_)
 go_simp
 (go_at_call 185; refine (height_calls inner D _ (HIN.out.below (And.left hHeld)) h2 E2.out).mono ?_; rintro e w3 ⟨rfl,rfl⟩)
 try go_wp2_with fail
 refine hK.out _ _ (hHeld) (fun hHeld2 => ?_)
 clear hHeld
 have hHeld := hHeld2
 clear hHeld2
 clear hK K
 try simp only [pZ_]
 refine ho_step 6 (some 18) rfl rfl (by kernel_rfl) (by kernel_rfl) (fun K hK => ?_)
 go_simp
 (go_at_call 185; refine (height_calls ot C _ (HOT.out.below (And.left hHeld)) h1 E1.out).mono ?_; rintro e w3 ⟨rfl,rfl⟩)
 try go_wp2_with fail
 refine hK.out _ _ (hHeld) (fun hHeld2 => ?_)
 clear hHeld
 have hHeld := hHeld2
 clear hHeld2
 clear hK K
 try simp only [pZ_]
 refine hw_ 7 (some 19) ?_
 refine wpAnyH_done (by kernel_rfl) ?_ _
 have hv1 := hHeld.1
 clear hHeld RD1
 go_wp2_with fail
 obtain ⟨W2,hW2⟩ : ∃ W2,W.drew = W2 := ⟨_,rfl⟩
 rw [hW2] at hv1 ⊢
 clear hW2 d1 d2
 have RD2 : Hid (∀ v,Below W.heap.size W v → Below W.heap.size W v ∧ v.cell? ⟨b,0,none⟩ = some (.string q.key) ∧ v.cell? ⟨b,1,none⟩ = some (.string q.value) ∧ v.cell? ⟨b,2,none⟩ = some (.bool q.gone) ∧ v.cell? ⟨b,3,none⟩ = some (.pointer C) ∧ v.cell? ⟨b,4,none⟩ = some (.pointer D) ∧ v.cell? ⟨w.heap.size,0,none⟩ = some (.string p.key) ∧ v.cell? ⟨w.heap.size,1,none⟩ = some (.string p.value) ∧ v.cell? ⟨w.heap.size,2,none⟩ = some (.bool p.gone)) := hQ_ fun v hv => (by
  obtain ⟨x0,x1,x2,x3,x4⟩ := node_blk HK.out hv
  obtain ⟨y0,y1,y2⟩ := pair_blk HP.out hv
  exact ⟨hv,x0,x1,x2,x3,x4,y0,y1,y2⟩)
 refine wp_region_held_drew (S := fun v => Below W.heap.size W v ∧ v.cell? ⟨b,0,none⟩ = some (.string q.key) ∧ v.cell? ⟨b,1,none⟩ = some (.string q.value) ∧ v.cell? ⟨b,2,none⟩ = some (.bool q.gone) ∧ v.cell? ⟨b,3,none⟩ = some (.pointer C) ∧ v.cell? ⟨b,4,none⟩ = some (.pointer D) ∧ v.cell? ⟨w.heap.size,0,none⟩ = some (.string p.key) ∧ v.cell? ⟨w.heap.size,1,none⟩ = some (.string p.value) ∧ v.cell? ⟨w.heap.size,2,none⟩ = some (.bool p.gone)) (by kernel_rfl) (RD2.out _ hv1.drew) (fun hHeld => ?_)
 refine hw_ 0 (some 20) ?_
 refine hw_ 1 (some 21) ?_
 refine hw_ 2 (some 22) ?_
 refine hw_ 3 (some 23) ?_
 refine hw_ 4 (some 24) ?_
 refine hw_ 5 (some 25) ?_
 refine hw_ 6 (some 26) ?_
 refine hw_ 7 (some 27) ?_
 refine hw_ 8 (some 28) ?_
 refine hw_ 9 (some 29) ?_
 refine hw_ 10 (some 30) ?_
 refine ho_step 11 (some 31) rfl rfl (by kernel_rfl) (by kernel_rfl) (fun K hK => ?_)
 go_simp
 (go_at_call 175; refine (join_calls inner s p D B _ (HIN.out.below (And.left hHeld)) (HS.out.below (And.left hHeld)) (by have := HN.out; simp only [Tt.sz] at this ⊢; omega)).mono ?_; rintro e w3 ⟨A3,rfl,hn3,hb3⟩; have hx3 : Below W.heap.size W w3 := keeps (And.left hHeld) hb3; have HN3 := hQ_ hn3; clear hn3)
 try go_wp2_with fail
 refine hK.out _ _ (RD2.out _ hx3) (fun hHeld2 => ?_)
 clear hHeld
 have hHeld := hHeld2
 clear hHeld2
 clear hK K
 try simp only [pZ_]
 refine ho_step 12 (some 32) rfl rfl (by kernel_rfl) (by kernel_rfl) (fun K hK => ?_)
 go_simp
 (go_at_call 175; refine (join_calls ot (Tt.nd inner p s) q C _ _ (HOT.out.below (And.left hHeld)) HN3.out (by have := HN.out; simp only [Tt.sz] at this ⊢; omega)).mono ?_; rintro e w4 ⟨A4,rfl,hn4,hb4⟩; have hx4 : Below W.heap.size W w4 := keeps (And.left hHeld) hb4; have HN4 := hQ_ hn4; clear hn4)
 try go_wp2_with fail
 refine hK.out _ _ (RD2.out _ hx4) (fun hHeld2 => ?_)
 clear hHeld
 have hHeld := hHeld2
 clear hHeld2
 clear hK K
 try simp only [pZ_]
 refine hw_ 13 (some 6) ?_
 refine wpAnyH_done (by kernel_rfl) ?_ _
 have HZ := hQ_ (keeps HB1.out hHeld.1)
 clear hHeld RD2
 go_wp2_with fail
 go_ret
 exact ⟨_,rfl,HN4.out,HZ.out⟩
theorem leanR_2 (ot s ia ib : Tt) (q p ip : Pr) (A B : Option Addr) (w : World) (hl : Nd w (Tt.nd ot q (Tt.nd ia ip ib)) A) (hr : Nd w s B) (hn : (Tt.nd ot q (Tt.nd ia ip ib)).sz + s.sz ≤ 90000) (hh : ot.ht < (Tt.nd ia ip ib).ht) :
 Calls Tryz.prog 186 #[.pointer A,.agg #[.string p.key,.string p.value,.bool p.gone],.pointer B] w (NdR (Tt.nd (Tt.nd ot q ia) ip (Tt.nd ib p s)) w) := by
 obtain ⟨b,C,D,rfl,hk,hot,hin⟩ := hl
 have HP := hQ_ (Blk.new_ w #[.string p.key,.string p.value,.bool p.gone] 64)
 have hb1 := bX_ HP.out
 have HK := hQ_ (hk.below hb1)
 have HOT := hQ_ (hot.below hb1)
 have HIN := hQ_ (hin.below hb1)
 have HS := hQ_ (hr.below hb1)
 have HB1 := hQ_ hb1
 have hlt : b < w.heap.size := hk.lt
 have c4 := cZ4 HK.out
 obtain ⟨h1,e1⟩ : ∃ n,ot.ht = n := ⟨_,rfl⟩
 obtain ⟨h2,e2⟩ : ∃ n,(Tt.nd ia ip ib).ht = n := ⟨_,rfl⟩
 rw [e1,e2] at hh
 have HN := hQ_ hn
 have E1 := hQ_ e1
 have E2 := hQ_ e2
 clear hk hot hin hr hb1 e1 e2 hn
 go_enter Tryz.func186,Tryz.ntmps186
 go_wp2_with fail
 obtain ⟨W,hW⟩ : ∃ W,(w.alloc (.cells #[.string p.key,.string p.value,.bool p.gone] 64)) = W := ⟨_,rfl⟩
 rw [hW] at HP HK HOT HIN HS HB1 c4 ⊢
 clear hW c4
 obtain ⟨d,E,F,rfl,hk2,hia,hib⟩ := HIN.out
 have HK2 := hQ_ hk2
 have HIA := hQ_ hia
 have HIB := hQ_ hib
 clear hk2 hia hib
 have RD1 : Hid (∀ v,Below W.heap.size W v → Below W.heap.size W v ∧ v.cell? ⟨b,0,none⟩ = some (.string q.key) ∧ v.cell? ⟨b,1,none⟩ = some (.string q.value) ∧ v.cell? ⟨b,2,none⟩ = some (.bool q.gone) ∧ v.cell? ⟨b,3,none⟩ = some (.pointer C) ∧ v.cell? ⟨b,4,none⟩ = some (.pointer (some ⟨d,0,none⟩))) := hQ_ fun v hv => ⟨hv,node_blk HK.out hv⟩
 have d1 : decide ((h2 : Int) ≤ (h1 : Int)) = false := decide_eq_false (by omega)
 have d2 : decide (h2 ≤ h1) = false := decide_eq_false (by omega)
 refine wp_region_held_drew (S := fun v => Below W.heap.size W v ∧ v.cell? ⟨b,0,none⟩ = some (.string q.key) ∧ v.cell? ⟨b,1,none⟩ = some (.string q.value) ∧ v.cell? ⟨b,2,none⟩ = some (.bool q.gone) ∧ v.cell? ⟨b,3,none⟩ = some (.pointer C) ∧ v.cell? ⟨b,4,none⟩ = some (.pointer (some ⟨d,0,none⟩))) (by kernel_rfl) (RD1.out _ (Below.drew (Below.refl _ _))) (fun hHeld => ?_)
 refine hw_ 0 (some 12) ?_
 refine hw_ 2 (some 14) ?_
 refine hw_ 3 (some 15) ?_
 refine hw_ 4 (some 16) ?_
 refine hw_ 5 (some 17) ?_
 refine ho_step 1 (some 13) rfl rfl (by kernel_rfl) (by kernel_rfl) (fun K hK => ?_)
 go_simp
 (go_at_call 185; refine (height_calls (Tt.nd ia ip ib) (some ⟨d,0,none⟩) _ (HIN.out.below (And.left hHeld)) h2 E2.out).mono ?_; rintro e w3 ⟨rfl,rfl⟩)
 try go_wp2_with fail
 refine hK.out _ _ (hHeld) (fun hHeld2 => ?_)
 clear hHeld
 have hHeld := hHeld2
 clear hHeld2
 clear hK K
 try simp only [pZ_]
 refine ho_step 6 (some 18) rfl rfl (by kernel_rfl) (by kernel_rfl) (fun K hK => ?_)
 go_simp
 (go_at_call 185; refine (height_calls ot C _ (HOT.out.below (And.left hHeld)) h1 E1.out).mono ?_; rintro e w3 ⟨rfl,rfl⟩)
 try go_wp2_with fail
 refine hK.out _ _ (hHeld) (fun hHeld2 => ?_)
 clear hHeld
 have hHeld := hHeld2
 clear hHeld2
 clear hK K
 try simp only [pZ_]
 refine hw_ 7 (some 19) ?_
 refine wpAnyH_done (by kernel_rfl) ?_ _
 have hv1 := hHeld.1
 clear hHeld RD1
 go_wp2_with fail
 obtain ⟨W2,hW2⟩ : ∃ W2,W.drew = W2 := ⟨_,rfl⟩
 rw [hW2] at hv1 ⊢
 clear hW2 d1 d2
 have RD2 : Hid (∀ v,Below W.heap.size W v → Below W.heap.size W v ∧ v.cell? ⟨b,0,none⟩ = some (.string q.key) ∧ v.cell? ⟨b,1,none⟩ = some (.string q.value) ∧ v.cell? ⟨b,2,none⟩ = some (.bool q.gone) ∧ v.cell? ⟨b,3,none⟩ = some (.pointer C) ∧ v.cell? ⟨b,4,none⟩ = some (.pointer (some ⟨d,0,none⟩)) ∧ v.cell? ⟨w.heap.size,0,none⟩ = some (.string p.key) ∧ v.cell? ⟨w.heap.size,1,none⟩ = some (.string p.value) ∧ v.cell? ⟨w.heap.size,2,none⟩ = some (.bool p.gone) ∧ v.cell? ⟨d,0,none⟩ = some (.string ip.key) ∧ v.cell? ⟨d,1,none⟩ = some (.string ip.value) ∧ v.cell? ⟨d,2,none⟩ = some (.bool ip.gone) ∧ v.cell? ⟨d,3,none⟩ = some (.pointer E) ∧ v.cell? ⟨d,4,none⟩ = some (.pointer F)) := hQ_ fun v hv => (by
  obtain ⟨x0,x1,x2,x3,x4⟩ := node_blk HK.out hv
  obtain ⟨y0,y1,y2⟩ := pair_blk HP.out hv
  obtain ⟨z0,z1,z2,z3,z4⟩ := node_blk HK2.out hv
  exact ⟨hv,x0,x1,x2,x3,x4,y0,y1,y2,z0,z1,z2,z3,z4⟩)
 refine wp_region_held_drew (S := fun v => Below W.heap.size W v ∧ v.cell? ⟨b,0,none⟩ = some (.string q.key) ∧ v.cell? ⟨b,1,none⟩ = some (.string q.value) ∧ v.cell? ⟨b,2,none⟩ = some (.bool q.gone) ∧ v.cell? ⟨b,3,none⟩ = some (.pointer C) ∧ v.cell? ⟨b,4,none⟩ = some (.pointer (some ⟨d,0,none⟩)) ∧ v.cell? ⟨w.heap.size,0,none⟩ = some (.string p.key) ∧ v.cell? ⟨w.heap.size,1,none⟩ = some (.string p.value) ∧ v.cell? ⟨w.heap.size,2,none⟩ = some (.bool p.gone) ∧ v.cell? ⟨d,0,none⟩ = some (.string ip.key) ∧ v.cell? ⟨d,1,none⟩ = some (.string ip.value) ∧ v.cell? ⟨d,2,none⟩ = some (.bool ip.gone) ∧ v.cell? ⟨d,3,none⟩ = some (.pointer E) ∧ v.cell? ⟨d,4,none⟩ = some (.pointer F)) (by kernel_rfl) (RD2.out _ hv1.drew) (fun hHeld => ?_)
 refine hw_ 0 (some 33) ?_
 refine hw_ 1 (some 34) ?_
 refine hw_ 2 (some 35) ?_
 refine hw_ 3 (some 36) ?_
 refine hw_ 4 (some 37) ?_
 refine hw_ 5 (some 38) ?_
 refine hw_ 6 (some 39) ?_
 refine hw_ 7 (some 40) ?_
 refine hw_ 8 (some 41) ?_
 refine hw_ 9 (some 42) ?_
 refine hw_ 10 (some 43) ?_
 refine hw_ 11 (some 44) ?_
 refine hw_ 13 (some 46) ?_
 refine hw_ 14 (some 47) ?_
 refine hw_ 15 (some 48) ?_
 refine hw_ 16 (some 49) ?_
 refine hw_ 17 (some 50) ?_
 refine hw_ 18 (some 51) ?_
 refine hw_ 19 (some 52) ?_
 refine hw_ 20 (some 53) ?_
 refine hw_ 21 (some 54) ?_
 refine hw_ 22 (some 55) ?_
 refine ho_step 12 (some 45) rfl rfl (by kernel_rfl) (by kernel_rfl) (fun K hK => ?_)
 go_simp
 (go_at_call 175; refine (join_calls ot ia q C E _ (HOT.out.below (And.left hHeld)) (HIA.out.below (And.left hHeld)) (by have := HN.out; simp only [Tt.sz] at this ⊢; omega)).mono ?_; rintro e w3 ⟨A3,rfl,hn3,hb3⟩; have hx3 : Below W.heap.size W w3 := keeps (And.left hHeld) hb3; have HN3 := hQ_ hn3; clear hn3)
 try go_wp2_with fail
 refine hK.out _ _ (RD2.out _ hx3) (fun hHeld2 => ?_)
 clear hHeld
 have hHeld := hHeld2
 clear hHeld2
 clear hK K
 try simp only [pZ_]
 refine ho_step 23 (some 56) rfl rfl (by kernel_rfl) (by kernel_rfl) (fun K hK => ?_)
 go_simp
 (go_at_call 175; refine (join_calls ib s p F B _ (HIB.out.below (And.left hHeld)) (HS.out.below (And.left hHeld)) (by have := HN.out; simp only [Tt.sz] at this ⊢; omega)).mono ?_; rintro e w4 ⟨A4,rfl,hn4,hb4⟩; have hx4 : Below W.heap.size W w4 := keeps (And.left hHeld) hb4; have HN3b := hQ_ (HN3.out.below hb4); have HN4 := hQ_ hn4; clear hn4)
 try go_wp2_with fail
 refine hK.out _ _ (RD2.out _ hx4) (fun hHeld2 => ?_)
 clear hHeld
 have hHeld := hHeld2
 clear hHeld2
 clear hK K
 try simp only [pZ_]
 refine ho_step 24 (some 57) rfl rfl (by kernel_rfl) (by kernel_rfl) (fun K hK => ?_)
 go_simp
 (go_at_call 175; refine (join_calls (Tt.nd ot q ia) (Tt.nd ib p s) ip _ _ _ HN3b.out HN4.out (by have := HN.out; simp only [Tt.sz] at this ⊢; omega)).mono ?_; rintro e w5 ⟨A5,rfl,hn5,hb5⟩; have hx5 : Below W.heap.size W w5 := keeps (And.left hHeld) hb5; have HN5 := hQ_ hn5; clear hn5)
 try go_wp2_with fail
 refine hK.out _ _ (RD2.out _ hx5) (fun hHeld2 => ?_)
 clear hHeld
 have hHeld := hHeld2
 clear hHeld2
 clear hK K
 try simp only [pZ_]
 refine hw_ 25 (some 6) ?_
 refine wpAnyH_done (by kernel_rfl) ?_ _
 have HZ := hQ_ (keeps HB1.out hHeld.1)
 clear hHeld RD2
 go_wp2_with fail
 go_ret
 exact ⟨_,rfl,HN5.out,HZ.out⟩
theorem leanL_1 (ot s inner : Tt) (q p : Pr) (A B : Option Addr) (w : World) (hl : Nd w (Tt.nd inner q ot) A) (hr : Nd w s B) (hn : (Tt.nd inner q ot).sz + s.sz ≤ 90000) (hh : inner.ht ≤ ot.ht) :
 Calls Tryz.prog 187 #[.pointer B,.agg #[.string p.key,.string p.value,.bool p.gone],.pointer A] w (NdR (Tt.nd (Tt.nd s p inner) q ot) w) := by
 obtain ⟨b,D,C,rfl,hk,hin,hot⟩ := hl
 have HP := hQ_ (Blk.new_ w #[.string p.key,.string p.value,.bool p.gone] 64)
 have hb1 := bX_ HP.out
 have HK := hQ_ (hk.below hb1)
 have HOT := hQ_ (hot.below hb1)
 have HIN := hQ_ (hin.below hb1)
 have HS := hQ_ (hr.below hb1)
 have HB1 := hQ_ hb1
 have hlt : b < w.heap.size := hk.lt
 have c4 := cZ3 HK.out
 obtain ⟨h1,e1⟩ : ∃ n,ot.ht = n := ⟨_,rfl⟩
 obtain ⟨h2,e2⟩ : ∃ n,inner.ht = n := ⟨_,rfl⟩
 rw [e1,e2] at hh
 have HN := hQ_ hn
 have E1 := hQ_ e1
 have E2 := hQ_ e2
 clear hk hot hin hr hb1 e1 e2 hn
 go_enter Tryz.func187,Tryz.ntmps187
 go_wp2_with fail
 obtain ⟨W,hW⟩ : ∃ W,(w.alloc (.cells #[.string p.key,.string p.value,.bool p.gone] 64)) = W := ⟨_,rfl⟩
 rw [hW] at HP HK HOT HIN HS HB1 c4 ⊢
 clear hW c4
 have RD1 : Hid (∀ v,Below W.heap.size W v → Below W.heap.size W v ∧ v.cell? ⟨b,0,none⟩ = some (.string q.key) ∧ v.cell? ⟨b,1,none⟩ = some (.string q.value) ∧ v.cell? ⟨b,2,none⟩ = some (.bool q.gone) ∧ v.cell? ⟨b,3,none⟩ = some (.pointer D) ∧ v.cell? ⟨b,4,none⟩ = some (.pointer C)) := hQ_ fun v hv => ⟨hv,node_blk HK.out hv⟩
 have d1 : decide ((h2 : Int) ≤ (h1 : Int)) = true := decide_eq_true (by omega)
 have d2 : decide (h2 ≤ h1) = true := decide_eq_true (by omega)
 refine wp_region_held_drew (S := fun v => Below W.heap.size W v ∧ v.cell? ⟨b,0,none⟩ = some (.string q.key) ∧ v.cell? ⟨b,1,none⟩ = some (.string q.value) ∧ v.cell? ⟨b,2,none⟩ = some (.bool q.gone) ∧ v.cell? ⟨b,3,none⟩ = some (.pointer D) ∧ v.cell? ⟨b,4,none⟩ = some (.pointer C)) (by kernel_rfl) (RD1.out _ (Below.drew (Below.refl _ _))) (fun hHeld => ?_)
 refine hw_ 0 (some 12) ?_
 refine hw_ 2 (some 14) ?_
 refine hw_ 3 (some 15) ?_
 refine hw_ 4 (some 16) ?_
 refine hw_ 5 (some 17) ?_
 refine ho_step 1 (some 13) rfl rfl (by kernel_rfl) (by kernel_rfl) (fun K hK => ?_)
 go_simp
 (go_at_call 185; refine (height_calls inner D _ (HIN.out.below (And.left hHeld)) h2 E2.out).mono ?_; rintro e w3 ⟨rfl,rfl⟩)
 try go_wp2_with fail
 refine hK.out _ _ (hHeld) (fun hHeld2 => ?_)
 clear hHeld
 have hHeld := hHeld2
 clear hHeld2
 clear hK K
 try simp only [pZ_]
 refine ho_step 6 (some 18) rfl rfl (by kernel_rfl) (by kernel_rfl) (fun K hK => ?_)
 go_simp
 (go_at_call 185; refine (height_calls ot C _ (HOT.out.below (And.left hHeld)) h1 E1.out).mono ?_; rintro e w3 ⟨rfl,rfl⟩)
 try go_wp2_with fail
 refine hK.out _ _ (hHeld) (fun hHeld2 => ?_)
 clear hHeld
 have hHeld := hHeld2
 clear hHeld2
 clear hK K
 try simp only [pZ_]
 refine hw_ 7 (some 19) ?_
 refine wpAnyH_done (by kernel_rfl) ?_ _
 have hv1 := hHeld.1
 clear hHeld RD1
 go_wp2_with fail
 obtain ⟨W2,hW2⟩ : ∃ W2,W.drew = W2 := ⟨_,rfl⟩
 rw [hW2] at hv1 ⊢
 clear hW2 d1 d2
 have RD2 : Hid (∀ v,Below W.heap.size W v → Below W.heap.size W v ∧ v.cell? ⟨b,0,none⟩ = some (.string q.key) ∧ v.cell? ⟨b,1,none⟩ = some (.string q.value) ∧ v.cell? ⟨b,2,none⟩ = some (.bool q.gone) ∧ v.cell? ⟨b,3,none⟩ = some (.pointer D) ∧ v.cell? ⟨b,4,none⟩ = some (.pointer C) ∧ v.cell? ⟨w.heap.size,0,none⟩ = some (.string p.key) ∧ v.cell? ⟨w.heap.size,1,none⟩ = some (.string p.value) ∧ v.cell? ⟨w.heap.size,2,none⟩ = some (.bool p.gone)) := hQ_ fun v hv => (by
  obtain ⟨x0,x1,x2,x3,x4⟩ := node_blk HK.out hv
  obtain ⟨y0,y1,y2⟩ := pair_blk HP.out hv
  exact ⟨hv,x0,x1,x2,x3,x4,y0,y1,y2⟩)
 refine wp_region_held_drew (S := fun v => Below W.heap.size W v ∧ v.cell? ⟨b,0,none⟩ = some (.string q.key) ∧ v.cell? ⟨b,1,none⟩ = some (.string q.value) ∧ v.cell? ⟨b,2,none⟩ = some (.bool q.gone) ∧ v.cell? ⟨b,3,none⟩ = some (.pointer D) ∧ v.cell? ⟨b,4,none⟩ = some (.pointer C) ∧ v.cell? ⟨w.heap.size,0,none⟩ = some (.string p.key) ∧ v.cell? ⟨w.heap.size,1,none⟩ = some (.string p.value) ∧ v.cell? ⟨w.heap.size,2,none⟩ = some (.bool p.gone)) (by kernel_rfl) (RD2.out _ hv1.drew) (fun hHeld => ?_)
 refine hw_ 0 (some 20) ?_
 refine hw_ 1 (some 21) ?_
 refine hw_ 2 (some 22) ?_
 refine hw_ 4 (some 24) ?_
 refine hw_ 5 (some 25) ?_
 refine hw_ 6 (some 26) ?_
 refine hw_ 7 (some 27) ?_
 refine hw_ 8 (some 28) ?_
 refine hw_ 9 (some 29) ?_
 refine hw_ 10 (some 30) ?_
 refine hw_ 11 (some 31) ?_
 refine ho_step 3 (some 23) rfl rfl (by kernel_rfl) (by kernel_rfl) (fun K hK => ?_)
 go_simp
 (go_at_call 175; refine (join_calls s inner p B D _ (HS.out.below (And.left hHeld)) (HIN.out.below (And.left hHeld)) (by have := HN.out; simp only [Tt.sz] at this ⊢; omega)).mono ?_; rintro e w3 ⟨A3,rfl,hn3,hb3⟩; have hx3 : Below W.heap.size W w3 := keeps (And.left hHeld) hb3; have HN3 := hQ_ hn3; clear hn3)
 try go_wp2_with fail
 refine hK.out _ _ (RD2.out _ hx3) (fun hHeld2 => ?_)
 clear hHeld
 have hHeld := hHeld2
 clear hHeld2
 clear hK K
 try simp only [pZ_]
 refine ho_step 12 (some 32) rfl rfl (by kernel_rfl) (by kernel_rfl) (fun K hK => ?_)
 go_simp
 (go_at_call 175; refine (join_calls (Tt.nd s p inner) ot q _ C _ HN3.out (HOT.out.below (And.left hHeld)) (by have := HN.out; simp only [Tt.sz] at this ⊢; omega)).mono ?_; rintro e w4 ⟨A4,rfl,hn4,hb4⟩; have hx4 : Below W.heap.size W w4 := keeps (And.left hHeld) hb4; have HN4 := hQ_ hn4; clear hn4)
 try go_wp2_with fail
 refine hK.out _ _ (RD2.out _ hx4) (fun hHeld2 => ?_)
 clear hHeld
 have hHeld := hHeld2
 clear hHeld2
 clear hK K
 try simp only [pZ_]
 refine hw_ 13 (some 6) ?_
 refine wpAnyH_done (by kernel_rfl) ?_ _
 have HZ := hQ_ (keeps HB1.out hHeld.1)
 clear hHeld RD2
 go_wp2_with fail
 go_ret
 exact ⟨_,rfl,HN4.out,HZ.out⟩
theorem leanL_2 (ot s ia ib : Tt) (q p ip : Pr) (A B : Option Addr) (w : World) (hl : Nd w (Tt.nd (Tt.nd ia ip ib) q ot) A) (hr : Nd w s B) (hn : (Tt.nd (Tt.nd ia ip ib) q ot).sz + s.sz ≤ 90000) (hh : ot.ht < (Tt.nd ia ip ib).ht) :
 Calls Tryz.prog 187 #[.pointer B,.agg #[.string p.key,.string p.value,.bool p.gone],.pointer A] w (NdR (Tt.nd (Tt.nd s p ia) ip (Tt.nd ib q ot)) w) := by
 obtain ⟨b,D,C,rfl,hk,hin,hot⟩ := hl
 have HP := hQ_ (Blk.new_ w #[.string p.key,.string p.value,.bool p.gone] 64)
 have hb1 := bX_ HP.out
 have HK := hQ_ (hk.below hb1)
 have HOT := hQ_ (hot.below hb1)
 have HIN := hQ_ (hin.below hb1)
 have HS := hQ_ (hr.below hb1)
 have HB1 := hQ_ hb1
 have hlt : b < w.heap.size := hk.lt
 have c4 := cZ3 HK.out
 obtain ⟨h1,e1⟩ : ∃ n,ot.ht = n := ⟨_,rfl⟩
 obtain ⟨h2,e2⟩ : ∃ n,(Tt.nd ia ip ib).ht = n := ⟨_,rfl⟩
 rw [e1,e2] at hh
 have HN := hQ_ hn
 have E1 := hQ_ e1
 have E2 := hQ_ e2
 clear hk hot hin hr hb1 e1 e2 hn
 go_enter Tryz.func187,Tryz.ntmps187
 go_wp2_with fail
 obtain ⟨W,hW⟩ : ∃ W,(w.alloc (.cells #[.string p.key,.string p.value,.bool p.gone] 64)) = W := ⟨_,rfl⟩
 rw [hW] at HP HK HOT HIN HS HB1 c4 ⊢
 clear hW c4
 obtain ⟨d,E,F,rfl,hk2,hia,hib⟩ := HIN.out
 have HK2 := hQ_ hk2
 have HIA := hQ_ hia
 have HIB := hQ_ hib
 clear hk2 hia hib
 have RD1 : Hid (∀ v,Below W.heap.size W v → Below W.heap.size W v ∧ v.cell? ⟨b,0,none⟩ = some (.string q.key) ∧ v.cell? ⟨b,1,none⟩ = some (.string q.value) ∧ v.cell? ⟨b,2,none⟩ = some (.bool q.gone) ∧ v.cell? ⟨b,3,none⟩ = some (.pointer (some ⟨d,0,none⟩)) ∧ v.cell? ⟨b,4,none⟩ = some (.pointer C)) := hQ_ fun v hv => ⟨hv,node_blk HK.out hv⟩
 have d1 : decide ((h2 : Int) ≤ (h1 : Int)) = false := decide_eq_false (by omega)
 have d2 : decide (h2 ≤ h1) = false := decide_eq_false (by omega)
 refine wp_region_held_drew (S := fun v => Below W.heap.size W v ∧ v.cell? ⟨b,0,none⟩ = some (.string q.key) ∧ v.cell? ⟨b,1,none⟩ = some (.string q.value) ∧ v.cell? ⟨b,2,none⟩ = some (.bool q.gone) ∧ v.cell? ⟨b,3,none⟩ = some (.pointer (some ⟨d,0,none⟩)) ∧ v.cell? ⟨b,4,none⟩ = some (.pointer C)) (by kernel_rfl) (RD1.out _ (Below.drew (Below.refl _ _))) (fun hHeld => ?_)
 refine hw_ 0 (some 12) ?_
 refine hw_ 2 (some 14) ?_
 refine hw_ 3 (some 15) ?_
 refine hw_ 4 (some 16) ?_
 refine hw_ 5 (some 17) ?_
 refine ho_step 1 (some 13) rfl rfl (by kernel_rfl) (by kernel_rfl) (fun K hK => ?_)
 go_simp
 (go_at_call 185; refine (height_calls (Tt.nd ia ip ib) (some ⟨d,0,none⟩) _ (HIN.out.below (And.left hHeld)) h2 E2.out).mono ?_; rintro e w3 ⟨rfl,rfl⟩)
 try go_wp2_with fail
 refine hK.out _ _ (hHeld) (fun hHeld2 => ?_)
 clear hHeld
 have hHeld := hHeld2
 clear hHeld2
 clear hK K
 try simp only [pZ_]
 refine ho_step 6 (some 18) rfl rfl (by kernel_rfl) (by kernel_rfl) (fun K hK => ?_)
 go_simp
 (go_at_call 185; refine (height_calls ot C _ (HOT.out.below (And.left hHeld)) h1 E1.out).mono ?_; rintro e w3 ⟨rfl,rfl⟩)
 try go_wp2_with fail
 refine hK.out _ _ (hHeld) (fun hHeld2 => ?_)
 clear hHeld
 have hHeld := hHeld2
 clear hHeld2
 clear hK K
 try simp only [pZ_]
 refine hw_ 7 (some 19) ?_
 refine wpAnyH_done (by kernel_rfl) ?_ _
 have hv1 := hHeld.1
 clear hHeld RD1
 go_wp2_with fail
 obtain ⟨W2,hW2⟩ : ∃ W2,W.drew = W2 := ⟨_,rfl⟩
 rw [hW2] at hv1 ⊢
 clear hW2 d1 d2
 have RD2 : Hid (∀ v,Below W.heap.size W v → Below W.heap.size W v ∧ v.cell? ⟨b,0,none⟩ = some (.string q.key) ∧ v.cell? ⟨b,1,none⟩ = some (.string q.value) ∧ v.cell? ⟨b,2,none⟩ = some (.bool q.gone) ∧ v.cell? ⟨b,3,none⟩ = some (.pointer (some ⟨d,0,none⟩)) ∧ v.cell? ⟨b,4,none⟩ = some (.pointer C) ∧ v.cell? ⟨w.heap.size,0,none⟩ = some (.string p.key) ∧ v.cell? ⟨w.heap.size,1,none⟩ = some (.string p.value) ∧ v.cell? ⟨w.heap.size,2,none⟩ = some (.bool p.gone) ∧ v.cell? ⟨d,0,none⟩ = some (.string ip.key) ∧ v.cell? ⟨d,1,none⟩ = some (.string ip.value) ∧ v.cell? ⟨d,2,none⟩ = some (.bool ip.gone) ∧ v.cell? ⟨d,3,none⟩ = some (.pointer E) ∧ v.cell? ⟨d,4,none⟩ = some (.pointer F)) := hQ_ fun v hv => (by
  obtain ⟨x0,x1,x2,x3,x4⟩ := node_blk HK.out hv
  obtain ⟨y0,y1,y2⟩ := pair_blk HP.out hv
  obtain ⟨z0,z1,z2,z3,z4⟩ := node_blk HK2.out hv
  exact ⟨hv,x0,x1,x2,x3,x4,y0,y1,y2,z0,z1,z2,z3,z4⟩)
 refine wp_region_held_drew (S := fun v => Below W.heap.size W v ∧ v.cell? ⟨b,0,none⟩ = some (.string q.key) ∧ v.cell? ⟨b,1,none⟩ = some (.string q.value) ∧ v.cell? ⟨b,2,none⟩ = some (.bool q.gone) ∧ v.cell? ⟨b,3,none⟩ = some (.pointer (some ⟨d,0,none⟩)) ∧ v.cell? ⟨b,4,none⟩ = some (.pointer C) ∧ v.cell? ⟨w.heap.size,0,none⟩ = some (.string p.key) ∧ v.cell? ⟨w.heap.size,1,none⟩ = some (.string p.value) ∧ v.cell? ⟨w.heap.size,2,none⟩ = some (.bool p.gone) ∧ v.cell? ⟨d,0,none⟩ = some (.string ip.key) ∧ v.cell? ⟨d,1,none⟩ = some (.string ip.value) ∧ v.cell? ⟨d,2,none⟩ = some (.bool ip.gone) ∧ v.cell? ⟨d,3,none⟩ = some (.pointer E) ∧ v.cell? ⟨d,4,none⟩ = some (.pointer F)) (by kernel_rfl) (RD2.out _ hv1.drew) (fun hHeld => ?_)
 refine hw_ 0 (some 33) ?_
 refine hw_ 1 (some 34) ?_
 refine hw_ 2 (some 35) ?_
 refine hw_ 3 (some 36) ?_
 refine hw_ 4 (some 37) ?_
 refine hw_ 5 (some 38) ?_
 refine hw_ 7 (some 40) ?_
 refine hw_ 8 (some 41) ?_
 refine hw_ 9 (some 42) ?_
 refine hw_ 10 (some 43) ?_
 refine hw_ 11 (some 44) ?_
 refine hw_ 12 (some 45) ?_
 refine hw_ 13 (some 46) ?_
 refine hw_ 14 (some 47) ?_
 refine hw_ 15 (some 48) ?_
 refine hw_ 16 (some 49) ?_
 refine hw_ 17 (some 50) ?_
 refine hw_ 18 (some 51) ?_
 refine hw_ 19 (some 52) ?_
 refine hw_ 20 (some 53) ?_
 refine hw_ 21 (some 54) ?_
 refine hw_ 22 (some 55) ?_
 refine ho_step 6 (some 39) rfl rfl (by kernel_rfl) (by kernel_rfl) (fun K hK => ?_)
 go_simp
 (go_at_call 175; refine (join_calls s ia p B E _ (HS.out.below (And.left hHeld)) (HIA.out.below (And.left hHeld)) (by have := HN.out; simp only [Tt.sz] at this ⊢; omega)).mono ?_; rintro e w3 ⟨A3,rfl,hn3,hb3⟩; have hx3 : Below W.heap.size W w3 := keeps (And.left hHeld) hb3; have HN3 := hQ_ hn3; clear hn3)
 try go_wp2_with fail
 refine hK.out _ _ (RD2.out _ hx3) (fun hHeld2 => ?_)
 clear hHeld
 have hHeld := hHeld2
 clear hHeld2
 clear hK K
 try simp only [pZ_]
 refine ho_step 23 (some 56) rfl rfl (by kernel_rfl) (by kernel_rfl) (fun K hK => ?_)
 go_simp
 (go_at_call 175; refine (join_calls ib ot q F C _ (HIB.out.below (And.left hHeld)) (HOT.out.below (And.left hHeld)) (by have := HN.out; simp only [Tt.sz] at this ⊢; omega)).mono ?_; rintro e w4 ⟨A4,rfl,hn4,hb4⟩; have hx4 : Below W.heap.size W w4 := keeps (And.left hHeld) hb4; have HN3b := hQ_ (HN3.out.below hb4); have HN4 := hQ_ hn4; clear hn4)
 try go_wp2_with fail
 refine hK.out _ _ (RD2.out _ hx4) (fun hHeld2 => ?_)
 clear hHeld
 have hHeld := hHeld2
 clear hHeld2
 clear hK K
 try simp only [pZ_]
 refine ho_step 24 (some 57) rfl rfl (by kernel_rfl) (by kernel_rfl) (fun K hK => ?_)
 go_simp
 (go_at_call 175; refine (join_calls (Tt.nd s p ia) (Tt.nd ib q ot) ip _ _ _ HN3b.out HN4.out (by have := HN.out; simp only [Tt.sz] at this ⊢; omega)).mono ?_; rintro e w5 ⟨A5,rfl,hn5,hb5⟩; have hx5 : Below W.heap.size W w5 := keeps (And.left hHeld) hb5; have HN5 := hQ_ hn5; clear hn5)
 try go_wp2_with fail
 refine hK.out _ _ (RD2.out _ hx5) (fun hHeld2 => ?_)
 clear hHeld
 have hHeld := hHeld2
 clear hHeld2
 clear hK K
 try simp only [pZ_]
 refine hw_ 25 (some 6) ?_
 refine wpAnyH_done (by kernel_rfl) ?_ _
 have HZ := hQ_ (keeps HB1.out hHeld.1)
 clear hHeld RD2
 go_wp2_with fail
 go_ret
 exact ⟨_,rfl,HN5.out,HZ.out⟩
end Go.Proofs.YtogdjbhjgbnicaaGreatDoor.TreeE