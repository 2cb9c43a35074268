import Derived.Test.YtfalhnomhidkcaaGreatDoorSq
import Derived.Test.YtfalhnomhidkcaaGreatDoorTreeE
import Derived.Deep.LoopGhost
import Derived.Test.YtfalhnomhidkcaaGreatDoorFilesKeysMBS
import Derived.Test.YtfalhnomhidkcaaGreatDoorChg
import Derived.Laws.ResultCell
import Derived.Deep.Cut
import Derived.Deep.RegionLaw
import Derived.Test.YtfalhnomhidkcaaGreatDoorFilesKeysMBO
import Derived.Test.YtfalhnomhidkcaaGreatDoorViewR
import Derived.Deep.MidRow
import Derived.Deep.QuietTactic
import Derived.BigQuiet
import Derived.Test.YtfalhnomhidkcaaGreatDoorWalkM
import Derived.Test.YtfalhnomhidkcaaGreatDoorNodeM
import Derived.Test.YtfalhnomhidkcaaGreatDoorKeysS
import Derived.Test.YtfalhnomhidkcaaGreatDoorOwn
import Derived.Test.YtfalhnomhidkcaaGreatDoorTreeR
import Derived.Test.YtfalhnomhidkcaaGreatDoorTx
import Derived.Test.YtfalhnomhidkcaaGreatDoorHo
import Derived.WalkSpells
import Derived.Test.YtfalhnomhidkcaaGreatDoorWalkKm
import Derived.Lib.MinMax
import Derived.Test.YtfalhnomhidkcaaGreatDoorNodeG
import Derived.Test.YtfalhnomhidkcaaGreatDoorLst
import Derived.Test.YtfalhnomhidkcaaGreatDoorProg
import Derived.WalkKit
import Derived.Laws.BitsAllLaws
import Derived.BigGuardPart
import Derived.Test.YtfalhnomhidkcaaGreatDoorPackV
set_option maxHeartbeats 16000000
set_option linter.unusedVariables false
set_option linter.unusedSimpArgs false
set_option maxRecDepth 100000
namespace Go.Proofs.YtfalhnomhidkcaaGreatDoor.TreeF
open Go.RowKit
open Byte KeysM TreeM Own Lst TreeR TreeL TreeB TreeD TreeE Ho
theorem leanR_calls (l r : Tt) (p : Pr) (A B : Option Addr) (w : World) (hl : Nd w l A) (hr : Nd w r B) (hn : l.sz + r.sz ≤ 90000) (hh : r.ht + 1 < l.ht) :
 Calls Tryz.prog 154 #[.pointer A,.agg #[.string p.key,.string p.value,.bool p.gone],.pointer B] w (NdR (Tt.leanR l p r) w) := by
 cases l with
 | no => exact absurd hh (by simp [Tt.ht])
 | nd ll lp inner =>
   unfold Tt.leanR
   dsimp only
   by_cases h1 : inner.ht ≤ ll.ht
   ·rw [if_pos h1]
    exact leanR_1 ll r inner lp p A B w hl hr hn h1
   ·rw [if_neg h1]
    cases inner with
    | no => exact absurd (Nat.zero_le _) h1
    | nd a q b => exact leanR_2 ll r a b lp p q A B w hl hr hn (by omega)
theorem leanL_calls (l r : Tt) (p : Pr) (A B : Option Addr) (w : World) (hl : Nd w l A) (hr : Nd w r B) (hn : l.sz + r.sz ≤ 90000) (hh : l.ht + 1 < r.ht) :
 Calls Tryz.prog 155 #[.pointer A,.agg #[.string p.key,.string p.value,.bool p.gone],.pointer B] w (NdR (Tt.leanL l p r) w) := by
 cases r with
 | no => exact absurd hh (by simp [Tt.ht])
 | nd inner rp rr =>
   unfold Tt.leanL
   dsimp only
   by_cases h1 : inner.ht ≤ rr.ht
   ·rw [if_pos h1]
    exact leanL_1 rr l inner rp p B A w hr hl (by omega) h1
   ·rw [if_neg h1]
    cases inner with
    | no => exact absurd (Nat.zero_le _) h1
    | nd a q b => exact leanL_2 rr l a b rp p q B A w hr hl (by omega) (by omega)
theorem balance_calls (l r : Tt) (p : Pr) (A B : Option Addr) (w : World) (hl : Nd w l A) (hr : Nd w r B) (hn : l.sz + r.sz ≤ 90000) :
 Calls Tryz.prog 140 #[.pointer A,.agg #[.string p.key,.string p.value,.bool p.gone],.pointer B] w (NdR (Tt.bal l p r) w) := by
 have hb1 := bN_ w (.cells #[.string p.key,.string p.value,.bool p.gone] 46)
 obtain ⟨c0,c1,c2⟩ := pair_new w p
 have HL := hQ_ (hl.below hb1)
 have HR := hQ_ (hr.below hb1)
 obtain ⟨h1,e1⟩ : ∃ n,l.ht = n := ⟨_,rfl⟩
 obtain ⟨h2,e2⟩ : ∃ n,r.ht = n := ⟨_,rfl⟩
 have i1 : h1 ≤ 90000 := by have := Tt.ht_sz l; omega
 have i2 : h2 ≤ 90000 := by have := Tt.ht_sz r; omega
 have HN := hQ_ hn
 have HB1 := hQ_ hb1
 have hcase : (h2 + 1 < h1 ∧ Tt.bal l p r = Tt.leanR l p r) ∨ (¬ h2 + 1 < h1 ∧ h1 + 1 < h2 ∧ Tt.bal l p r = Tt.leanL l p r) ∨ (¬ h2 + 1 < h1 ∧ ¬ h1 + 1 < h2 ∧ Tt.bal l p r = Tt.nd l p r) := by
  unfold Tt.bal
  rw [e1,e2]
  by_cases x1 : h2 + 1 < h1
  ·exact .inl ⟨x1,if_pos x1⟩
  ·by_cases x2 : h1 + 1 < h2
   ·exact .inr (.inl ⟨x1,x2,by rw [if_neg x1,if_pos x2]⟩)
   ·exact .inr (.inr ⟨x1,x2,by rw [if_neg x1,if_neg x2]⟩)
 have E1 := hQ_ e1
 have E2 := hQ_ e2
 clear hl hr e1 e2 hn hb1
 rcases hcase with ⟨x1,e⟩ | ⟨x1,x2,e⟩ | ⟨x1,x2,e⟩
 ·rw [e]
  clear e
  have d1 : decide ((h2 : Int) + 1 < (h1 : Int)) = true := decide_eq_true (by omega)
  go_enter Tryz.func140,Tryz.ntmps140
  go_wp2_with (first
   | (go_at_call 153; with_reducible refine (height_calls l A _ HL.out h1 E1.out).mono ?_; rintro e w3 ⟨rfl,rfl⟩)
   | (go_at_call 153; with_reducible refine (height_calls r B _ HR.out h2 E2.out).mono ?_; rintro e w3 ⟨rfl,rfl⟩)
   | (go_at_call 154; refine (leanR_calls l r p A B _ HL.out HR.out HN.out (by rw [E1.out,E2.out]; exact x1)).mono ?_; rintro e w4 ⟨A4,rfl,hn4,hb4⟩; have HN4 := hQ_ hn4; have HB4 := hQ_ (keeps HB1.out hb4); clear hn4 hb4))
  go_ret
  exact ⟨_,rfl,HN4.out,HB4.out⟩
 ·rw [e]
  clear e
  have d1 : decide ((h2 : Int) + 1 < (h1 : Int)) = false := decide_eq_false (by omega)
  have d2 : decide ((h1 : Int) + 1 < (h2 : Int)) = true := decide_eq_true (by omega)
  go_enter Tryz.func140,Tryz.ntmps140
  go_wp2_with (first
   | (go_at_call 153; with_reducible refine (height_calls l A _ HL.out h1 E1.out).mono ?_; rintro e w3 ⟨rfl,rfl⟩)
   | (go_at_call 153; with_reducible refine (height_calls r B _ HR.out h2 E2.out).mono ?_; rintro e w3 ⟨rfl,rfl⟩)
   | (go_at_call 155; refine (leanL_calls l r p A B _ HL.out HR.out HN.out (by rw [E1.out,E2.out]; exact x2)).mono ?_; rintro e w4 ⟨A4,rfl,hn4,hb4⟩; have HN4 := hQ_ hn4; have HB4 := hQ_ (keeps HB1.out hb4); clear hn4 hb4))
  go_ret
  exact ⟨_,rfl,HN4.out,HB4.out⟩
 ·rw [e]
  clear e
  have d1 : decide ((h2 : Int) + 1 < (h1 : Int)) = false := decide_eq_false (by omega)
  have d2 : decide ((h1 : Int) + 1 < (h2 : Int)) = false := decide_eq_false (by omega)
  go_enter Tryz.func140,Tryz.ntmps140
  go_wp2_with (first
   | (go_at_call 153; with_reducible refine (height_calls l A _ HL.out h1 E1.out).mono ?_; rintro e w3 ⟨rfl,rfl⟩)
   | (go_at_call 153; with_reducible refine (height_calls r B _ HR.out h2 E2.out).mono ?_; rintro e w3 ⟨rfl,rfl⟩)
   | (go_at_call 139; refine (join_calls l r p A B _ HL.out HR.out (by have := HN.out; omega)).mono ?_; rintro e w4 ⟨A4,rfl,hn4,hb4⟩; have HN4 := hQ_ hn4; have HB4 := hQ_ (keeps HB1.out hb4); clear hn4 hb4))
  go_ret
  exact ⟨_,rfl,HN4.out,HB4.out⟩
theorem set_sz (t : Tt) (p : Pr) : (t.set p).sz ≤ t.sz + 1 := by
 induction t with
 | no => exact Nat.le_refl _
 | nd l q r ihl ihr =>
   unfold Tt.set
   split
   ·rw [Tt.sz_bal]; simp only [Tt.sz]; omega
   ·split
    ·rw [Tt.sz_bal]; simp only [Tt.sz]; omega
    ·simp only [Tt.sz]; omega
theorem cut_sz (t : Tt) : ∀ k : ByteArray,(t.cut k).sz ≤ t.sz := by
 induction t with
 | no => intro k; exact Nat.le_refl _
 | nd l q r ihl ihr =>
   intro k
   unfold Tt.cut
   split
   ·rw [Tt.sz_bal]; have := ihl k; simp only [Tt.sz]; omega
   ·split
    ·rw [Tt.sz_bal]; have := ihr k; simp only [Tt.sz]; omega
    ·cases r with
     | no => simp only [Tt.sz]; omega
     | nd a x b => dsimp only; rw [Tt.sz_bal]; have := ihr (Tt.first (.nd a x b)).key; simp only [Tt.sz] at this ⊢; omega
theorem set_1 (l r : Tt) (q p : Pr) (ihl : ∀ (A : Option Addr) (w : World),l.sz ≤ 60000 → Nd w l A → Calls Tryz.prog 103 #[.pointer A,.agg #[.string p.key,.string p.value,.bool p.gone]] w (NdR (l.set p) w)) (ihr : ∀ (A : Option Addr) (w : World),r.sz ≤ 60000 → Nd w r A → Calls Tryz.prog 103 #[.pointer A,.agg #[.string p.key,.string p.value,.bool p.gone]] w (NdR (r.set p) w)) (A : Option Addr) (w : World) (hn : (Tt.nd l q r).sz ≤ 60000) (h : Nd w (Tt.nd l q r) A) (hc : kl p.key q.key = true) :
 Calls Tryz.prog 103 #[.pointer A,.agg #[.string p.key,.string p.value,.bool p.gone]] w (NdR (Tt.bal (l.set p) q r) w) := by
 obtain ⟨b,C,D,rfl,hk,hl,hr⟩ := h
 have HP := hQ_ (Blk.new_ w #[.string p.key,.string p.value,.bool p.gone] 46)
 have hb1 := bX_ HP.out
 have HK := hQ_ (hk.below hb1)
 have HL := hQ_ (hl.below hb1)
 have HR := hQ_ (hr.below hb1)
 have HB1 := hQ_ hb1
 have HN := hQ_ hn
 have IL := hQ_ ihl
 clear hk hl hr hb1 hn ihl ihr
 have f0 : Op.bytesLess (p.key).toList (q.key).toList = true := hc
 clear hc
 go_enter Tryz.func103,Tryz.ntmps103
 go_wp2_with fail
 obtain ⟨W,hW⟩ : ∃ W,w.alloc (.cells #[.string p.key,.string p.value,.bool p.gone] 46) = W := ⟨_,rfl⟩
 rw [hW] at HP HK HL HR HB1 ⊢
 clear hW
 have RD : Hid (∀ v,Below W.heap.size W v → Below W.heap.size W v ∧ v.cell? ⟨b,0,none⟩ = some (.string q.key) ∧ v.cell? ⟨b,1,none⟩ = some (.string q.value) ∧ v.cell? ⟨b,2,none⟩ = some (.bool q.gone) ∧ v.cell? ⟨b,3,none⟩ = some (.pointer C) ∧ v.cell? ⟨b,4,none⟩ = some (.pointer D) ∧ v.cell? ⟨w.heap.size,0,none⟩ = some (.string p.key) ∧ v.cell? ⟨w.heap.size,1,none⟩ = some (.string p.value) ∧ v.cell? ⟨w.heap.size,2,none⟩ = some (.bool p.gone)) := hQ_ fun v hv => (by
  obtain ⟨x0,x1,x2,x3,x4⟩ := node_blk HK.out hv
  obtain ⟨y0,y1,y2⟩ := pair_blk HP.out hv
  exact ⟨hv,x0,x1,x2,x3,x4,y0,y1,y2⟩)
 refine wp_region_held_drew (S := fun v => Below W.heap.size W v ∧ v.cell? ⟨b,0,none⟩ = some (.string q.key) ∧ v.cell? ⟨b,1,none⟩ = some (.string q.value) ∧ v.cell? ⟨b,2,none⟩ = some (.bool q.gone) ∧ v.cell? ⟨b,3,none⟩ = some (.pointer C) ∧ v.cell? ⟨b,4,none⟩ = some (.pointer D) ∧ v.cell? ⟨w.heap.size,0,none⟩ = some (.string p.key) ∧ v.cell? ⟨w.heap.size,1,none⟩ = some (.string p.value) ∧ v.cell? ⟨w.heap.size,2,none⟩ = some (.bool p.gone)) (by kernel_rfl) (RD.out _ (Below.drew (Below.refl _ _))) (fun hHeld => ?_)
 refine hw_ 0 (some 11) ?_
 refine hw_ 1 (some 12) ?_
 refine hw_ 2 (some 13) ?_
 refine hw_ 3 (some 14) ?_
 refine hw_ 4 (some 15) ?_
 refine hw_ 5 (some 16) ?_
 refine hw_ 6 (some 17) ?_
 refine hw_ 7 (some 18) ?_
 refine hw_ 8 (some 10) ?_
 refine wpAnyH_done (by kernel_rfl) ?_ _
 have hv2 := hHeld.1
 clear hHeld
 go_wp2_with fail
 obtain ⟨W2,hW2⟩ : ∃ V,World.drew W = V := ⟨_,rfl⟩
 rw [hW2] at hv2 ⊢
 clear hW2
 refine wp_region_held_drew (S := fun v => Below W.heap.size W v ∧ v.cell? ⟨b,0,none⟩ = some (.string q.key) ∧ v.cell? ⟨b,1,none⟩ = some (.string q.value) ∧ v.cell? ⟨b,2,none⟩ = some (.bool q.gone) ∧ v.cell? ⟨b,3,none⟩ = some (.pointer C) ∧ v.cell? ⟨b,4,none⟩ = some (.pointer D) ∧ v.cell? ⟨w.heap.size,0,none⟩ = some (.string p.key) ∧ v.cell? ⟨w.heap.size,1,none⟩ = some (.string p.value) ∧ v.cell? ⟨w.heap.size,2,none⟩ = some (.bool p.gone)) (by kernel_rfl) (RD.out _ hv2.drew) (fun hHeld => ?_)
 refine hw_ 0 (some 19) ?_
 refine hw_ 1 (some 20) ?_
 refine hw_ 2 (some 21) ?_
 refine hw_ 3 (some 22) ?_
 refine hw_ 4 (some 23) ?_
 refine hw_ 6 (some 25) ?_
 refine hw_ 7 (some 26) ?_
 refine hw_ 8 (some 27) ?_
 refine hw_ 9 (some 28) ?_
 refine hw_ 10 (some 29) ?_
 refine hw_ 11 (some 30) ?_
 refine hw_ 12 (some 31) ?_
 refine hw_ 13 (some 32) ?_
 refine ho_step 5 (some 24) rfl rfl (by kernel_rfl) (by kernel_rfl) (fun K hK => ?_)
 go_simp
 (go_at_call 103; refine (IL.out C _ (by have := HN.out; simp only [Tt.sz] at this; omega) (HL.out.below (And.left hHeld))).mono ?_; rintro e w3 ⟨A3,rfl,hn3,hb3⟩; have hx3 : Below W.heap.size W w3 := keeps (And.left hHeld) hb3; have HN3 := hQ_ hn3; clear hn3)
 try go_wp2_with fail
 refine hK.out _ _ (RD.out _ hx3) (fun hHeld2 => ?_)
 clear hHeld
 have hHeld := hHeld2
 clear hHeld2
 clear hK K
 try simp only [pZ_]
 refine ho_step 14 (some 33) rfl rfl (by kernel_rfl) (by kernel_rfl) (fun K hK => ?_)
 go_simp
 (go_at_call 140; refine (balance_calls (l.set p) r q _ D _ HN3.out (HR.out.below (And.left hHeld)) (by have := HN.out; simp only [Tt.sz] at this; have := set_sz l p; omega)).mono ?_; rintro e w4 ⟨A4,rfl,hn4,hb4⟩; have hx4 : Below W.heap.size W w4 := keeps (And.left hHeld) hb4; have HN4 := hQ_ hn4; clear hn4)
 try go_wp2_with fail
 refine hK.out _ _ (RD.out _ hx4) (fun hHeld2 => ?_)
 clear hHeld
 have hHeld := hHeld2
 clear hHeld2
 clear hK K
 try simp only [pZ_]
 refine hw_ 15 (some 4) ?_
 refine wpAnyH_done (by kernel_rfl) ?_ _
 have HZ := hQ_ (keeps HB1.out hHeld.1)
 clear hHeld RD
 go_wp2_with fail
 go_ret
 exact ⟨_,rfl,HN4.out,HZ.out⟩
theorem set_2 (l r : Tt) (q p : Pr) (ihl : ∀ (A : Option Addr) (w : World),l.sz ≤ 60000 → Nd w l A → Calls Tryz.prog 103 #[.pointer A,.agg #[.string p.key,.string p.value,.bool p.gone]] w (NdR (l.set p) w)) (ihr : ∀ (A : Option Addr) (w : World),r.sz ≤ 60000 → Nd w r A → Calls Tryz.prog 103 #[.pointer A,.agg #[.string p.key,.string p.value,.bool p.gone]] w (NdR (r.set p) w)) (A : Option Addr) (w : World) (hn : (Tt.nd l q r).sz ≤ 60000) (h : Nd w (Tt.nd l q r) A) (hc : kl p.key q.key = false) (hc2 : kl q.key p.key = true) :
 Calls Tryz.prog 103 #[.pointer A,.agg #[.string p.key,.string p.value,.bool p.gone]] w (NdR (Tt.bal l q (r.set p)) w) := by
 obtain ⟨b,C,D,rfl,hk,hl,hr⟩ := h
 have HP := hQ_ (Blk.new_ w #[.string p.key,.string p.value,.bool p.gone] 46)
 have hb1 := bX_ HP.out
 have HK := hQ_ (hk.below hb1)
 have HL := hQ_ (hl.below hb1)
 have HR := hQ_ (hr.below hb1)
 have HB1 := hQ_ hb1
 have HN := hQ_ hn
 have IR := hQ_ ihr
 clear hk hl hr hb1 hn ihl ihr
 have z2 : (p.key.toList == q.key.toList) = false := by rw [eq_list,decide_eq_false (kl_ne hc2).symm]
 have f0 : Op.bytesLess (p.key).toList (q.key).toList = false := hc
 clear hc
 have f1 : Op.bytesLess (q.key).toList (p.key).toList = true := hc2
 clear hc2
 go_enter Tryz.func103,Tryz.ntmps103
 go_wp2_with fail
 obtain ⟨W,hW⟩ : ∃ W,w.alloc (.cells #[.string p.key,.string p.value,.bool p.gone] 46) = W := ⟨_,rfl⟩
 rw [hW] at HP HK HL HR HB1 ⊢
 clear hW
 have RD : Hid (∀ v,Below W.heap.size W v → Below W.heap.size W v ∧ v.cell? ⟨b,0,none⟩ = some (.string q.key) ∧ v.cell? ⟨b,1,none⟩ = some (.string q.value) ∧ v.cell? ⟨b,2,none⟩ = some (.bool q.gone) ∧ v.cell? ⟨b,3,none⟩ = some (.pointer C) ∧ v.cell? ⟨b,4,none⟩ = some (.pointer D) ∧ v.cell? ⟨w.heap.size,0,none⟩ = some (.string p.key) ∧ v.cell? ⟨w.heap.size,1,none⟩ = some (.string p.value) ∧ v.cell? ⟨w.heap.size,2,none⟩ = some (.bool p.gone)) := hQ_ fun v hv => (by
  obtain ⟨x0,x1,x2,x3,x4⟩ := node_blk HK.out hv
  obtain ⟨y0,y1,y2⟩ := pair_blk HP.out hv
  exact ⟨hv,x0,x1,x2,x3,x4,y0,y1,y2⟩)
 refine wp_region_held_drew (S := fun v => Below W.heap.size W v ∧ v.cell? ⟨b,0,none⟩ = some (.string q.key) ∧ v.cell? ⟨b,1,none⟩ = some (.string q.value) ∧ v.cell? ⟨b,2,none⟩ = some (.bool q.gone) ∧ v.cell? ⟨b,3,none⟩ = some (.pointer C) ∧ v.cell? ⟨b,4,none⟩ = some (.pointer D) ∧ v.cell? ⟨w.heap.size,0,none⟩ = some (.string p.key) ∧ v.cell? ⟨w.heap.size,1,none⟩ = some (.string p.value) ∧ v.cell? ⟨w.heap.size,2,none⟩ = some (.bool p.gone)) (by kernel_rfl) (RD.out _ (Below.drew (Below.refl _ _))) (fun hHeld => ?_)
 refine hw_ 0 (some 11) ?_
 refine hw_ 1 (some 12) ?_
 refine hw_ 2 (some 13) ?_
 refine hw_ 3 (some 14) ?_
 refine hw_ 4 (some 15) ?_
 refine hw_ 5 (some 16) ?_
 refine hw_ 6 (some 17) ?_
 refine hw_ 7 (some 18) ?_
 refine hw_ 8 (some 10) ?_
 refine wpAnyH_done (by kernel_rfl) ?_ _
 have hv2 := hHeld.1
 clear hHeld
 go_wp2_with fail
 obtain ⟨W2,hW2⟩ : ∃ V,World.drew W = V := ⟨_,rfl⟩
 rw [hW2] at hv2 ⊢
 clear hW2
 refine wp_region_held_drew (S := fun v => Below W.heap.size W v ∧ v.cell? ⟨b,0,none⟩ = some (.string q.key) ∧ v.cell? ⟨b,1,none⟩ = some (.string q.value) ∧ v.cell? ⟨b,2,none⟩ = some (.bool q.gone) ∧ v.cell? ⟨b,3,none⟩ = some (.pointer C) ∧ v.cell? ⟨b,4,none⟩ = some (.pointer D) ∧ v.cell? ⟨w.heap.size,0,none⟩ = some (.string p.key) ∧ v.cell? ⟨w.heap.size,1,none⟩ = some (.string p.value) ∧ v.cell? ⟨w.heap.size,2,none⟩ = some (.bool p.gone)) (by kernel_rfl) (RD.out _ hv2.drew) (fun hHeld => ?_)
 refine hw_ 0 (some 35) ?_
 refine hw_ 1 (some 36) ?_
 refine hw_ 2 (some 37) ?_
 refine hw_ 3 (some 38) ?_
 refine hw_ 4 (some 39) ?_
 refine hw_ 5 (some 40) ?_
 refine hw_ 6 (some 41) ?_
 refine hw_ 7 (some 42) ?_
 refine hw_ 8 (some 34) ?_
 refine wpAnyH_done (by kernel_rfl) ?_ _
 have hv3 := hHeld.1
 clear hHeld
 go_wp2_with fail
 obtain ⟨W3,hW3⟩ : ∃ V,World.drew W2 = V := ⟨_,rfl⟩
 rw [hW3] at hv3 ⊢
 clear hW3
 refine wp_region_held_drew (S := fun v => Below W.heap.size W v ∧ v.cell? ⟨b,0,none⟩ = some (.string q.key) ∧ v.cell? ⟨b,1,none⟩ = some (.string q.value) ∧ v.cell? ⟨b,2,none⟩ = some (.bool q.gone) ∧ v.cell? ⟨b,3,none⟩ = some (.pointer C) ∧ v.cell? ⟨b,4,none⟩ = some (.pointer D) ∧ v.cell? ⟨w.heap.size,0,none⟩ = some (.string p.key) ∧ v.cell? ⟨w.heap.size,1,none⟩ = some (.string p.value) ∧ v.cell? ⟨w.heap.size,2,none⟩ = some (.bool p.gone)) (by kernel_rfl) (RD.out _ hv3.drew) (fun hHeld => ?_)
 refine hw_ 0 (some 43) ?_
 refine hw_ 1 (some 44) ?_
 refine hw_ 2 (some 45) ?_
 refine hw_ 3 (some 46) ?_
 refine hw_ 4 (some 47) ?_
 refine hw_ 5 (some 48) ?_
 refine hw_ 6 (some 49) ?_
 refine hw_ 7 (some 50) ?_
 refine hw_ 8 (some 51) ?_
 refine hw_ 9 (some 52) ?_
 refine hw_ 10 (some 53) ?_
 refine hw_ 11 (some 54) ?_
 refine hw_ 12 (some 55) ?_
 refine ho_step 13 (some 56) rfl rfl (by kernel_rfl) (by kernel_rfl) (fun K hK => ?_)
 go_simp
 (go_at_call 103; refine (IR.out D _ (by have := HN.out; simp only [Tt.sz] at this; omega) (HR.out.below (And.left hHeld))).mono ?_; rintro e w4 ⟨A4,rfl,hn4,hb4⟩; have hx4 : Below W.heap.size W w4 := keeps (And.left hHeld) hb4; have HN4 := hQ_ hn4; clear hn4)
 try go_wp2_with fail
 refine hK.out _ _ (RD.out _ hx4) (fun hHeld2 => ?_)
 clear hHeld
 have hHeld := hHeld2
 clear hHeld2
 clear hK K
 try simp only [pZ_]
 refine ho_step 14 (some 57) rfl rfl (by kernel_rfl) (by kernel_rfl) (fun K hK => ?_)
 go_simp
 (go_at_call 140; refine (balance_calls l (r.set p) q C _ _ (HL.out.below (And.left hHeld)) HN4.out (by have := HN.out; simp only [Tt.sz] at this; have := set_sz r p; omega)).mono ?_; rintro e w5 ⟨A5,rfl,hn5,hb5⟩; have hx5 : Below W.heap.size W w5 := keeps (And.left hHeld) hb5; have HN5 := hQ_ hn5; clear hn5)
 try go_wp2_with fail
 refine hK.out _ _ (RD.out _ hx5) (fun hHeld2 => ?_)
 clear hHeld
 have hHeld := hHeld2
 clear hHeld2
 clear hK K
 try simp only [pZ_]
 refine hw_ 15 (some 4) ?_
 refine wpAnyH_done (by kernel_rfl) ?_ _
 have HZ := hQ_ (keeps HB1.out hHeld.1)
 clear hHeld RD
 go_wp2_with fail
 go_ret
 exact ⟨_,rfl,HN5.out,HZ.out⟩
theorem set_3 (l r : Tt) (q p : Pr) (ihl : ∀ (A : Option Addr) (w : World),l.sz ≤ 60000 → Nd w l A → Calls Tryz.prog 103 #[.pointer A,.agg #[.string p.key,.string p.value,.bool p.gone]] w (NdR (l.set p) w)) (ihr : ∀ (A : Option Addr) (w : World),r.sz ≤ 60000 → Nd w r A → Calls Tryz.prog 103 #[.pointer A,.agg #[.string p.key,.string p.value,.bool p.gone]] w (NdR (r.set p) w)) (A : Option Addr) (w : World) (hn : (Tt.nd l q r).sz ≤ 60000) (h : Nd w (Tt.nd l q r) A) (hc : kl p.key q.key = false) (hc2 : kl q.key p.key = false) :
 Calls Tryz.prog 103 #[.pointer A,.agg #[.string p.key,.string p.value,.bool p.gone]] w (NdR (Tt.nd l p r) w) := by
 obtain ⟨b,C,D,rfl,hk,hl,hr⟩ := h
 have HP := hQ_ (Blk.new_ w #[.string p.key,.string p.value,.bool p.gone] 46)
 have hb1 := bX_ HP.out
 have HK := hQ_ (hk.below hb1)
 have HL := hQ_ (hl.below hb1)
 have HR := hQ_ (hr.below hb1)
 have HB1 := hQ_ hb1
 have HN := hQ_ hn
 clear hk hl hr hb1 hn ihl ihr
 have z2 : (p.key.toList == q.key.toList) = true := by rw [eq_list,decide_eq_true (kl_tri hc hc2)]
 have f0 : Op.bytesLess (p.key).toList (q.key).toList = false := hc
 clear hc
 have f1 : Op.bytesLess (q.key).toList (p.key).toList = false := hc2
 clear hc2
 go_enter Tryz.func103,Tryz.ntmps103
 go_wp2_with fail
 obtain ⟨W,hW⟩ : ∃ W,w.alloc (.cells #[.string p.key,.string p.value,.bool p.gone] 46) = W := ⟨_,rfl⟩
 rw [hW] at HP HK HL HR HB1 ⊢
 clear hW
 have RD : Hid (∀ v,Below W.heap.size W v → Below W.heap.size W v ∧ v.cell? ⟨b,0,none⟩ = some (.string q.key) ∧ v.cell? ⟨b,1,none⟩ = some (.string q.value) ∧ v.cell? ⟨b,2,none⟩ = some (.bool q.gone) ∧ v.cell? ⟨b,3,none⟩ = some (.pointer C) ∧ v.cell? ⟨b,4,none⟩ = some (.pointer D) ∧ v.cell? ⟨w.heap.size,0,none⟩ = some (.string p.key) ∧ v.cell? ⟨w.heap.size,1,none⟩ = some (.string p.value) ∧ v.cell? ⟨w.heap.size,2,none⟩ = some (.bool p.gone)) := hQ_ fun v hv => (by
  obtain ⟨x0,x1,x2,x3,x4⟩ := node_blk HK.out hv
  obtain ⟨y0,y1,y2⟩ := pair_blk HP.out hv
  exact ⟨hv,x0,x1,x2,x3,x4,y0,y1,y2⟩)
 refine wp_region_held_drew (S := fun v => Below W.heap.size W v ∧ v.cell? ⟨b,0,none⟩ = some (.string q.key) ∧ v.cell? ⟨b,1,none⟩ = some (.string q.value) ∧ v.cell? ⟨b,2,none⟩ = some (.bool q.gone) ∧ v.cell? ⟨b,3,none⟩ = some (.pointer C) ∧ v.cell? ⟨b,4,none⟩ = some (.pointer D) ∧ v.cell? ⟨w.heap.size,0,none⟩ = some (.string p.key) ∧ v.cell? ⟨w.heap.size,1,none⟩ = some (.string p.value) ∧ v.cell? ⟨w.heap.size,2,none⟩ = some (.bool p.gone)) (by kernel_rfl) (RD.out _ (Below.drew (Below.refl _ _))) (fun hHeld => ?_)
 refine hw_ 0 (some 11) ?_
 refine hw_ 1 (some 12) ?_
 refine hw_ 2 (some 13) ?_
 refine hw_ 3 (some 14) ?_
 refine hw_ 4 (some 15) ?_
 refine hw_ 5 (some 16) ?_
 refine hw_ 6 (some 17) ?_
 refine hw_ 7 (some 18) ?_
 refine hw_ 8 (some 10) ?_
 refine wpAnyH_done (by kernel_rfl) ?_ _
 have hv2 := hHeld.1
 clear hHeld
 go_wp2_with fail
 obtain ⟨W2,hW2⟩ : ∃ V,World.drew W = V := ⟨_,rfl⟩
 rw [hW2] at hv2 ⊢
 clear hW2
 refine wp_region_held_drew (S := fun v => Below W.heap.size W v ∧ v.cell? ⟨b,0,none⟩ = some (.string q.key) ∧ v.cell? ⟨b,1,none⟩ = some (.string q.value) ∧ v.cell? ⟨b,2,none⟩ = some (.bool q.gone) ∧ v.cell? ⟨b,3,none⟩ = some (.pointer C) ∧ v.cell? ⟨b,4,none⟩ = some (.pointer D) ∧ v.cell? ⟨w.heap.size,0,none⟩ = some (.string p.key) ∧ v.cell? ⟨w.heap.size,1,none⟩ = some (.string p.value) ∧ v.cell? ⟨w.heap.size,2,none⟩ = some (.bool p.gone)) (by kernel_rfl) (RD.out _ hv2.drew) (fun hHeld => ?_)
 refine hw_ 0 (some 35) ?_
 refine hw_ 1 (some 36) ?_
 refine hw_ 2 (some 37) ?_
 refine hw_ 3 (some 38) ?_
 refine hw_ 4 (some 39) ?_
 refine hw_ 5 (some 40) ?_
 refine hw_ 6 (some 41) ?_
 refine hw_ 7 (some 42) ?_
 refine hw_ 8 (some 34) ?_
 refine wpAnyH_done (by kernel_rfl) ?_ _
 have hv3 := hHeld.1
 clear hHeld
 go_wp2_with fail
 obtain ⟨W3,hW3⟩ : ∃ V,World.drew W2 = V := ⟨_,rfl⟩
 rw [hW3] at hv3 ⊢
 clear hW3
 refine wp_region_held_drew (S := fun v => Below W.heap.size W v ∧ v.cell? ⟨b,0,none⟩ = some (.string q.key) ∧ v.cell? ⟨b,1,none⟩ = some (.string q.value) ∧ v.cell? ⟨b,2,none⟩ = some (.bool q.gone) ∧ v.cell? ⟨b,3,none⟩ = some (.pointer C) ∧ v.cell? ⟨b,4,none⟩ = some (.pointer D) ∧ v.cell? ⟨w.heap.size,0,none⟩ = some (.string p.key) ∧ v.cell? ⟨w.heap.size,1,none⟩ = some (.string p.value) ∧ v.cell? ⟨w.heap.size,2,none⟩ = some (.bool p.gone)) (by kernel_rfl) (RD.out _ hv3.drew) (fun hHeld => ?_)
 refine hw_ 0 (some 58) ?_
 refine hw_ 1 (some 59) ?_
 refine hw_ 2 (some 60) ?_
 refine hw_ 3 (some 61) ?_
 refine hw_ 4 (some 62) ?_
 refine hw_ 5 (some 63) ?_
 refine hw_ 6 (some 64) ?_
 refine hw_ 7 (some 65) ?_
 refine hw_ 8 (some 66) ?_
 refine ho_step 9 (some 67) rfl rfl (by kernel_rfl) (by kernel_rfl) (fun K hK => ?_)
 go_simp
 (go_at_call 139; refine (join_calls l r p C D _ (HL.out.below (And.left hHeld)) (HR.out.below (And.left hHeld)) (by have := HN.out; simp only [Tt.sz] at this; omega)).mono ?_; rintro e w4 ⟨A4,rfl,hn4,hb4⟩; have hx4 : Below W.heap.size W w4 := keeps (And.left hHeld) hb4; have HN4 := hQ_ hn4; clear hn4)
 try go_wp2_with fail
 refine hK.out _ _ (RD.out _ hx4) (fun hHeld2 => ?_)
 clear hHeld
 have hHeld := hHeld2
 clear hHeld2
 clear hK K
 try simp only [pZ_]
 refine hw_ 10 (some 4) ?_
 refine wpAnyH_done (by kernel_rfl) ?_ _
 have HZ := hQ_ (keeps HB1.out hHeld.1)
 clear hHeld RD
 go_wp2_with fail
 go_ret
 exact ⟨_,rfl,HN4.out,HZ.out⟩
theorem set_calls (p : Pr) (t : Tt) : ∀ (A : Option Addr) (w : World),t.sz ≤ 60000 → Nd w t A → Calls Tryz.prog 103 #[.pointer A,.agg #[.string p.key,.string p.value,.bool p.gone]] w (NdR (t.set p) w) := by
 induction t with
 | no =>
   intro A w _ h
   obtain rfl : A = none := h
   have hb1 := bN_ w (.cells #[.string p.key,.string p.value,.bool p.gone] 46)
   obtain ⟨c0,c1,c2⟩ := pair_new w p
   have HB1 := hQ_ hb1
   clear hb1
   go_enter Tryz.func103,Tryz.ntmps103
   go_wp2_with (go_at_call 139; refine (join_calls .no .no p none none _ rfl rfl (by simp [Tt.sz])).mono ?_; rintro e w4 ⟨A4,rfl,hn4,hb4⟩; have HN4 := hQ_ hn4; have HB4 := hQ_ (keeps HB1.out hb4); clear hn4 hb4)
   go_ret
   exact ⟨_,rfl,HN4.out,HB4.out⟩
 | nd l q r ihl ihr =>
   intro A w hn h
   unfold Tt.set
   by_cases h1 : kl p.key q.key = true
   ·rw [if_pos h1]
    exact set_1 l r q p ihl ihr A w hn h h1
   ·rw [if_neg h1]
    by_cases h2 : kl q.key p.key = true
    ·rw [if_pos h2]
     exact set_2 l r q p ihl ihr A w hn h (by simpa using h1) h2
    ·rw [if_neg h2]
     exact set_3 l r q p ihl ihr A w hn h (by simpa using h1) (by simpa using h2)
end Go.Proofs.YtfalhnomhidkcaaGreatDoor.TreeF
namespace Go.Proofs.YtfalhnomhidkcaaGreatDoor.TreeK
open Go.RowKit
open Byte KeysM TreeM Own Lst TreeR TreeL TreeB TreeD TreeE Ho TreeF
theorem first_calls (t : Tt) (A : Option Addr) (w : World) (F : Pr) (hF : t.first = F) (h : Nd w t A) (h0 : t.sz ≠ 0) :
 Calls Tryz.prog 171 #[.pointer A] w fun e w' => e = .returned (.agg #[.string F.key,.string F.value,.bool F.gone]) ∧ Below w.heap.size w w' := by
 have HR := hQ_ (Blk.new_ w #[.string ⟨#[]⟩,.string ⟨#[]⟩,.bool false] 46)
 have hb1 := bX_ HR.out
 have HN := hQ_ (h.below hb1)
 have HB1 := hQ_ hb1
 have H0 := hQ_ h0
 have HF := hQ_ hF
 clear h hb1 h0 hF
 go_enter Tryz.func171,Tryz.ntmps171
 go_wp2_with fail
 obtain ⟨W,hW⟩ : ∃ W,w.alloc (.cells #[.string ⟨#[]⟩,.string ⟨#[]⟩,.bool false] 46) = W := ⟨_,rfl⟩
 rw [hW] at HN HB1 HR ⊢
 clear hW
 go_loopg [0] t.sz (fun k n wr => ∃ (t' : Tt) (A' : Option Addr),n = .pointer A' ∧ Hid (Nd W t' A') ∧ Hid (t'.sz ≠ 0) ∧ Hid (t'.first = F) ∧ Hid (t'.sz ≤ k) ∧ wr = W)
 case atStart => exact ⟨t,A,rfl,HN,H0,HF,hQ_ (Nat.le_refl _),rfl⟩
 case round =>
  obtain ⟨t',A',rfl,HN',H0',HF',HK,rfl⟩ := hrel
  cases t' with
  | no => exact absurd rfl H0'.out
  | nd l p r =>
    obtain ⟨b,C,D,rfl,hk,hl,hr⟩ := HN'.out
    have c3 := cZ3 hk
    have HL := hQ_ hl
    have HKK := hQ_ hk
    clear hl hr hk
    cases l with
    | no =>
      obtain rfl : C = none := HL.out
      obtain ⟨c0,c1,c2⟩ : wr.cell? ⟨b,0,none⟩ = some (.string p.key) ∧ wr.cell? ⟨b,1,none⟩ = some (.string p.value) ∧ wr.cell? ⟨b,2,none⟩ = some (.bool p.gone) := ⟨HKK.out.cell 0,HKK.out.cell 1,HKK.out.cell 2⟩
      have hF' : p = F := HF'.out
      subst hF'
      have hsz := HR.out.lt
      go_wp2_with ((with_reducible refine pick none ?_); refine store_blk rfl 46 _ _ rfl w.heap.size #[.string p.key,.string p.value,.bool p.gone] rfl rfl 46 #[.string ⟨#[]⟩,.string ⟨#[]⟩,.bool false] HR.out info_pair3 rfl (by simp [Value.oneCell']) ?_; intro w5 hk5 hg5)
      exact bodyPost_ret (v := .agg #[.string p.key,.string p.value,.bool p.gone]) (results_cell_row rfl _ _ w.heap.size 46 _ (0,0) _ rfl hk5 Tryz.underlying46 rfl info_pair3) rfl ⟨rfl,HB1.out.grown hg5 (by omega) (fun g hv => by injection hv with hv; omega)⟩
    | nd a q c =>
      obtain ⟨d,_,_,rfl,_⟩ := HL.out
      go_wp2_with fail
      go_roundg (Tt.nd a q c).sz
      case rel => exact ⟨.nd a q c,_,rfl,HL,hQ_ (by simp only [Tt.sz]; omega),hQ_ HF'.out,hQ_ (Nat.le_refl _),rfl⟩
      case measure => have := HK.out; simp only [Tt.sz] at this ⊢; omega
theorem cut_1 (l r : Tt) (q : Pr) (k : ByteArray) (ihl : ∀ (k : ByteArray) (A : Option Addr) (W : World),l.sz ≤ 60000 → Rise l.ino → (∃ x ∈ l.ino,x.key = k) → Nd W l A → Calls Tryz.prog 163 #[.pointer A,.string k] W (NdR (l.cut k) W)) (ihr : ∀ (k : ByteArray) (A : Option Addr) (W : World),r.sz ≤ 60000 → Rise r.ino → (∃ x ∈ r.ino,x.key = k) → Nd W r A → Calls Tryz.prog 163 #[.pointer A,.string k] W (NdR (r.cut k) W)) (hri : Rise l.ino) (hha : (∃ x ∈ l.ino,x.key = k)) (A : Option Addr) (W : World) (hn : (Tt.nd l q r).sz ≤ 60000) (h : Nd W (Tt.nd l q r) A) (hc : kl k q.key = true) :
 Calls Tryz.prog 163 #[.pointer A,.string k] W (NdR (Tt.bal (l.cut k) q r) W) := by
 obtain ⟨b,C,D,rfl,hk,hl,hr⟩ := h
 have HK := hQ_ hk
 have HL := hQ_ hl
 have HR := hQ_ hr
 have HN := hQ_ hn
 have HRI := hQ_ hri
 have HHA := hQ_ hha
 have IL := hQ_ ihl
 have HB1 := hQ_ (Below.refl W.heap.size W)
 have c0 := cZ0 hk
 have c3 := cZ3 hk
 have c4 := cZ4 hk
 clear hk hl hr hn hri hha ihl ihr
 have f0 : Op.bytesLess (k).toList (q.key).toList = true := hc
 clear hc
 go_enter Tryz.func163,Tryz.ntmps163
 go_wp2_with fail
 have RD : Hid (∀ v,Below W.heap.size W v → Below W.heap.size W v ∧ v.cell? ⟨b,0,none⟩ = some (.string q.key) ∧ v.cell? ⟨b,1,none⟩ = some (.string q.value) ∧ v.cell? ⟨b,2,none⟩ = some (.bool q.gone) ∧ v.cell? ⟨b,3,none⟩ = some (.pointer C) ∧ v.cell? ⟨b,4,none⟩ = some (.pointer D)) := hQ_ fun v hv => (by
  obtain ⟨x0,x1,x2,x3,x4⟩ := node_blk HK.out hv
  exact ⟨hv,x0,x1,x2,x3,x4⟩)
 clear c0 c3 c4
 refine wp_region_held_drew (S := fun v => Below W.heap.size W v ∧ v.cell? ⟨b,0,none⟩ = some (.string q.key) ∧ v.cell? ⟨b,1,none⟩ = some (.string q.value) ∧ v.cell? ⟨b,2,none⟩ = some (.bool q.gone) ∧ v.cell? ⟨b,3,none⟩ = some (.pointer C) ∧ v.cell? ⟨b,4,none⟩ = some (.pointer D)) (by kernel_rfl) (RD.out _ (Below.drew (Below.refl _ _))) (fun hHeld => ?_)
 refine hw_ 0 (some 14) ?_
 refine hw_ 1 (some 15) ?_
 refine hw_ 2 (some 16) ?_
 refine hw_ 3 (some 17) ?_
 refine hw_ 4 (some 18) ?_
 refine hw_ 6 (some 20) ?_
 refine hw_ 7 (some 21) ?_
 refine hw_ 8 (some 22) ?_
 refine hw_ 9 (some 23) ?_
 refine hw_ 10 (some 24) ?_
 refine hw_ 11 (some 25) ?_
 refine hw_ 12 (some 26) ?_
 refine hw_ 13 (some 27) ?_
 refine ho_step 5 (some 19) rfl rfl (by kernel_rfl) (by kernel_rfl) (fun K hK => ?_)
 go_simp
 (go_at_call 163; refine (IL.out k C _ (by have := HN.out; simp only [Tt.sz] at this; (try simp only [Tt.sz]); omega) HRI.out HHA.out (HL.out.below (And.left hHeld))).mono ?_; rintro e w3 ⟨A3,rfl,hn3,hb3⟩; have hx3 : Below W.heap.size W w3 := keeps (And.left hHeld) hb3; have HN3 := hQ_ hn3; clear hn3)
 try go_wp2_with fail
 refine hK.out _ _ (RD.out _ hx3) (fun hHeld2 => ?_)
 clear hHeld
 have hHeld := hHeld2
 clear hHeld2
 clear hK K
 try simp only [pZ_]
 refine ho_step 14 (some 28) rfl rfl (by kernel_rfl) (by kernel_rfl) (fun K hK => ?_)
 go_simp
 (go_at_call 140; refine (balance_calls (l.cut k) r q _ D _ HN3.out (HR.out.below (And.left hHeld)) (by have := HN.out; simp only [Tt.sz] at this; have := cut_sz l k; omega)).mono ?_; rintro e w4 ⟨A4,rfl,hn4,hb4⟩; have hx4 : Below W.heap.size W w4 := keeps (And.left hHeld) hb4; have HN4 := hQ_ hn4; clear hn4)
 try go_wp2_with fail
 refine hK.out _ _ (RD.out _ hx4) (fun hHeld2 => ?_)
 clear hHeld
 have hHeld := hHeld2
 clear hHeld2
 clear hK K
 try simp only [pZ_]
 refine hw_ 15 (some 4) ?_
 refine wpAnyH_done (by kernel_rfl) ?_ _
 have HZ := hQ_ (keeps HB1.out hHeld.1)
 clear hHeld RD
 go_wp2_with fail
 go_ret
 exact ⟨_,rfl,HN4.out,HZ.out⟩
theorem cut_2 (l r : Tt) (q : Pr) (k : ByteArray) (ihl : ∀ (k : ByteArray) (A : Option Addr) (W : World),l.sz ≤ 60000 → Rise l.ino → (∃ x ∈ l.ino,x.key = k) → Nd W l A → Calls Tryz.prog 163 #[.pointer A,.string k] W (NdR (l.cut k) W)) (ihr : ∀ (k : ByteArray) (A : Option Addr) (W : World),r.sz ≤ 60000 → Rise r.ino → (∃ x ∈ r.ino,x.key = k) → Nd W r A → Calls Tryz.prog 163 #[.pointer A,.string k] W (NdR (r.cut k) W)) (hri : Rise r.ino) (hha : (∃ x ∈ r.ino,x.key = k)) (A : Option Addr) (W : World) (hn : (Tt.nd l q r).sz ≤ 60000) (h : Nd W (Tt.nd l q r) A) (hc : kl k q.key = false) (hc2 : kl q.key k = true) :
 Calls Tryz.prog 163 #[.pointer A,.string k] W (NdR (Tt.bal l q (r.cut k)) W) := by
 obtain ⟨b,C,D,rfl,hk,hl,hr⟩ := h
 have HK := hQ_ hk
 have HL := hQ_ hl
 have HR := hQ_ hr
 have HN := hQ_ hn
 have HRI := hQ_ hri
 have HHA := hQ_ hha
 have IR := hQ_ ihr
 have HB1 := hQ_ (Below.refl W.heap.size W)
 have c0 := cZ0 hk
 have c3 := cZ3 hk
 have c4 := cZ4 hk
 clear hk hl hr hn hri hha ihl ihr
 have z2 : (k.toList == q.key.toList) = false := by rw [eq_list,decide_eq_false (kl_ne hc2).symm]
 have f0 : Op.bytesLess (k).toList (q.key).toList = false := hc
 clear hc
 have f1 : Op.bytesLess (q.key).toList (k).toList = true := hc2
 clear hc2
 go_enter Tryz.func163,Tryz.ntmps163
 go_wp2_with fail
 have RD : Hid (∀ v,Below W.heap.size W v → Below W.heap.size W v ∧ v.cell? ⟨b,0,none⟩ = some (.string q.key) ∧ v.cell? ⟨b,1,none⟩ = some (.string q.value) ∧ v.cell? ⟨b,2,none⟩ = some (.bool q.gone) ∧ v.cell? ⟨b,3,none⟩ = some (.pointer C) ∧ v.cell? ⟨b,4,none⟩ = some (.pointer D)) := hQ_ fun v hv => (by
  obtain ⟨x0,x1,x2,x3,x4⟩ := node_blk HK.out hv
  exact ⟨hv,x0,x1,x2,x3,x4⟩)
 clear c0 c3 c4
 refine wp_region_held_drew (S := fun v => Below W.heap.size W v ∧ v.cell? ⟨b,0,none⟩ = some (.string q.key) ∧ v.cell? ⟨b,1,none⟩ = some (.string q.value) ∧ v.cell? ⟨b,2,none⟩ = some (.bool q.gone) ∧ v.cell? ⟨b,3,none⟩ = some (.pointer C) ∧ v.cell? ⟨b,4,none⟩ = some (.pointer D)) (by kernel_rfl) (RD.out _ (Below.drew (Below.refl _ _))) (fun hHeld => ?_)
 refine hw_ 0 (some 37) ?_
 refine hw_ 1 (some 38) ?_
 refine hw_ 2 (some 39) ?_
 refine hw_ 3 (some 40) ?_
 refine hw_ 4 (some 41) ?_
 refine hw_ 5 (some 42) ?_
 refine hw_ 6 (some 43) ?_
 refine hw_ 7 (some 44) ?_
 refine hw_ 8 (some 45) ?_
 refine hw_ 9 (some 46) ?_
 refine hw_ 10 (some 47) ?_
 refine hw_ 11 (some 48) ?_
 refine hw_ 12 (some 49) ?_
 refine ho_step 13 (some 50) rfl rfl (by kernel_rfl) (by kernel_rfl) (fun K hK => ?_)
 go_simp
 (go_at_call 163; refine (IR.out k D _ (by have := HN.out; simp only [Tt.sz] at this; (try simp only [Tt.sz]); omega) HRI.out HHA.out (HR.out.below (And.left hHeld))).mono ?_; rintro e w4 ⟨A4,rfl,hn4,hb4⟩; have hx4 : Below W.heap.size W w4 := keeps (And.left hHeld) hb4; have HN4 := hQ_ hn4; clear hn4)
 try go_wp2_with fail
 refine hK.out _ _ (RD.out _ hx4) (fun hHeld2 => ?_)
 clear hHeld
 have hHeld := hHeld2
 clear hHeld2
 clear hK K
 try simp only [pZ_]
 refine ho_step 14 (some 51) rfl rfl (by kernel_rfl) (by kernel_rfl) (fun K hK => ?_)
 go_simp
 (go_at_call 140; refine (balance_calls l (r.cut k) q C _ _ (HL.out.below (And.left hHeld)) HN4.out (by have := HN.out; simp only [Tt.sz] at this; have := cut_sz r k; omega)).mono ?_; rintro e w5 ⟨A5,rfl,hn5,hb5⟩; have hx5 : Below W.heap.size W w5 := keeps (And.left hHeld) hb5; have HN5 := hQ_ hn5; clear hn5)
 try go_wp2_with fail
 refine hK.out _ _ (RD.out _ hx5) (fun hHeld2 => ?_)
 clear hHeld
 have hHeld := hHeld2
 clear hHeld2
 clear hK K
 try simp only [pZ_]
 refine hw_ 15 (some 4) ?_
 refine wpAnyH_done (by kernel_rfl) ?_ _
 have HZ := hQ_ (keeps HB1.out hHeld.1)
 clear hHeld RD
 go_wp2_with fail
 go_ret
 exact ⟨_,rfl,HN5.out,HZ.out⟩
theorem cut_3 (l : Tt) (q : Pr) (k : ByteArray)   (A : Option Addr) (W : World) (hn : (Tt.nd l q Tt.no).sz ≤ 60000) (h : Nd W (Tt.nd l q Tt.no) A) (hc : kl k q.key = false) (hc2 : kl q.key k = false) :
 Calls Tryz.prog 163 #[.pointer A,.string k] W (NdR (l) W) := by
 obtain ⟨b,C,D,rfl,hk,hl,hr⟩ := h
 have HL := hQ_ hl
 have HR := hQ_ hr
 have HB1 := hQ_ (Below.refl W.heap.size W)
 have c0 := cZ0 hk
 have c3 := cZ3 hk
 have c4 := cZ4 hk
 clear hk hl hr hn
 have z2 : (k.toList == q.key.toList) = true := by rw [eq_list,decide_eq_true (kl_tri hc hc2)]
 have f0 : Op.bytesLess (k).toList (q.key).toList = false := hc
 clear hc
 have f1 : Op.bytesLess (q.key).toList (k).toList = false := hc2
 clear hc2
 obtain rfl : D = none := HR.out
 go_enter Tryz.func163,Tryz.ntmps163
 go_wp2_with fail
 go_ret
 exact ⟨_,rfl,HL.out,HB1.out⟩
theorem cut_4 (l a c : Tt) (y : Pr) (q : Pr) (k : ByteArray) (ihl : ∀ (k : ByteArray) (A : Option Addr) (W : World),l.sz ≤ 60000 → Rise l.ino → (∃ x ∈ l.ino,x.key = k) → Nd W l A → Calls Tryz.prog 163 #[.pointer A,.string k] W (NdR (l.cut k) W)) (ihr : ∀ (k : ByteArray) (A : Option Addr) (W : World),(Tt.nd a y c).sz ≤ 60000 → Rise (Tt.nd a y c).ino → (∃ x ∈ (Tt.nd a y c).ino,x.key = k) → Nd W (Tt.nd a y c) A → Calls Tryz.prog 163 #[.pointer A,.string k] W (NdR ((Tt.nd a y c).cut k) W)) (hri : Rise (Tt.nd a y c).ino) (hha : (∃ x ∈ (Tt.nd a y c).ino,x.key = (Tt.nd a y c).first.key)) (A : Option Addr) (W : World) (hn : (Tt.nd l q (Tt.nd a y c)).sz ≤ 60000) (h : Nd W (Tt.nd l q (Tt.nd a y c)) A) (hc : kl k q.key = false) (hc2 : kl q.key k = false) :
 Calls Tryz.prog 163 #[.pointer A,.string k] W (NdR (Tt.bal l (Tt.nd a y c).first ((Tt.nd a y c).cut (Tt.nd a y c).first.key)) W) := by
 obtain ⟨b,C,D,rfl,hk,hl,hr⟩ := h
 have HK := hQ_ hk
 have HL := hQ_ hl
 have HR := hQ_ hr
 have HN := hQ_ hn
 have HRI := hQ_ hri
 have HHA := hQ_ hha
 have IR := hQ_ ihr
 have c0 := cZ0 hk
 have c3 := cZ3 hk
 have c4 := cZ4 hk
 clear hk hl hr hn hri hha ihl ihr
 have z2 : (k.toList == q.key.toList) = true := by rw [eq_list,decide_eq_true (kl_tri hc hc2)]
 have f0 : Op.bytesLess (k).toList (q.key).toList = false := hc
 clear hc
 have f1 : Op.bytesLess (q.key).toList (k).toList = false := hc2
 clear hc2
 obtain ⟨d,E,G,hD,_⟩ := HR.out
 subst hD
 obtain ⟨F,hF⟩ : ∃ F,(Tt.nd a y c).first = F := ⟨_,rfl⟩
 rw [hF] at HHA ⊢
 have HF := hQ_ hF
 clear hF
 go_enter Tryz.func163,Tryz.ntmps163
 go_wp2_with (go_at_call 171; refine (first_calls (.nd a y c) _ _ F HF.out HR.out (by simp only [Tt.sz]; omega)).mono ?_; rintro e w1 ⟨rfl,hb1⟩; have HB2 := hQ_ hb1; clear hb1)
 have HP0 := hQ_ (Blk.new_ w1 #[.string F.key,.string F.value,.bool F.gone] 46)
 have hBV : Below W.heap.size W (w1.alloc (.cells #[.string F.key,.string F.value,.bool F.gone] 46)) := HB2.out.alloc HB2.out.size _
 obtain ⟨g,hg⟩ : ∃ g,w1.heap.size = g := ⟨_,rfl⟩
 obtain ⟨V,hV⟩ : ∃ V,w1.alloc (.cells #[.string F.key,.string F.value,.bool F.gone] 46) = V := ⟨_,rfl⟩
 rw [hV,hg] at HP0 ⊢
 rw [hV] at hBV
 have HP := hQ_ HP0.out
 have HB3 := hQ_ hBV
 have HKV := hQ_ (HK.out.below hBV)
 have HLV := hQ_ (HL.out.below hBV)
 have HRV := hQ_ (HR.out.below hBV)
 clear hg hV hBV HP0 c0 c3 c4
 have RD : Hid (∀ v,Below V.heap.size V v → Below V.heap.size V v ∧ v.cell? ⟨b,0,none⟩ = some (.string q.key) ∧ v.cell? ⟨b,1,none⟩ = some (.string q.value) ∧ v.cell? ⟨b,2,none⟩ = some (.bool q.gone) ∧ v.cell? ⟨b,3,none⟩ = some (.pointer C) ∧ v.cell? ⟨b,4,none⟩ = some (.pointer (some ⟨d,0,none⟩)) ∧ v.cell? ⟨g,0,none⟩ = some (.string F.key) ∧ v.cell? ⟨g,1,none⟩ = some (.string F.value) ∧ v.cell? ⟨g,2,none⟩ = some (.bool F.gone)) := hQ_ fun v hv => (by
  obtain ⟨x0,x1,x2,x3,x4⟩ := node_blk HKV.out hv
  obtain ⟨y0,y1,y2⟩ := pair_blk HP.out hv
  exact ⟨hv,x0,x1,x2,x3,x4,y0,y1,y2⟩)
 refine wp_region_held_drew (S := fun v => Below V.heap.size V v ∧ v.cell? ⟨b,0,none⟩ = some (.string q.key) ∧ v.cell? ⟨b,1,none⟩ = some (.string q.value) ∧ v.cell? ⟨b,2,none⟩ = some (.bool q.gone) ∧ v.cell? ⟨b,3,none⟩ = some (.pointer C) ∧ v.cell? ⟨b,4,none⟩ = some (.pointer (some ⟨d,0,none⟩)) ∧ v.cell? ⟨g,0,none⟩ = some (.string F.key) ∧ v.cell? ⟨g,1,none⟩ = some (.string F.value) ∧ v.cell? ⟨g,2,none⟩ = some (.bool F.gone)) (by kernel_rfl) (RD.out _ (Below.drew (Below.refl _ _))) (fun hHeld => ?_)
 refine hw_ 0 (some 67) ?_
 refine hw_ 1 (some 68) ?_
 refine hw_ 2 (some 69) ?_
 refine hw_ 3 (some 70) ?_
 refine hw_ 4 (some 71) ?_
 refine hw_ 5 (some 72) ?_
 refine hw_ 6 (some 73) ?_
 refine hw_ 7 (some 74) ?_
 refine hw_ 8 (some 75) ?_
 refine hw_ 9 (some 76) ?_
 refine hw_ 10 (some 77) ?_
 refine ho_step 11 (some 78) rfl rfl (by kernel_rfl) (by kernel_rfl) (fun K hK => ?_)
 go_simp
 (go_at_call 163; refine (IR.out F.key _ _ (by have := HN.out; simp only [Tt.sz] at this; (try simp only [Tt.sz]); omega) HRI.out HHA.out (HRV.out.below (And.left hHeld))).mono ?_; rintro e w4 ⟨A4,rfl,hn4,hb4⟩; have hx4 : Below V.heap.size V w4 := keeps (And.left hHeld) hb4; have HN4 := hQ_ hn4; clear hn4)
 try go_wp2_with fail
 refine hK.out _ _ (RD.out _ hx4) (fun hHeld2 => ?_)
 clear hHeld
 have hHeld := hHeld2
 clear hHeld2
 clear hK K
 try simp only [pZ_]
 refine ho_step 12 (some 79) rfl rfl (by kernel_rfl) (by kernel_rfl) (fun K hK => ?_)
 go_simp
 (go_at_call 140; refine (balance_calls l (Tt.cut (.nd a y c) F.key) F C _ _ (HLV.out.below (And.left hHeld)) HN4.out (by have := HN.out; simp only [Tt.sz] at this; have := cut_sz (.nd a y c) F.key; simp only [Tt.sz] at this; omega)).mono ?_; rintro e w5 ⟨A5,rfl,hn5,hb5⟩; have hx5 : Below V.heap.size V w5 := keeps (And.left hHeld) hb5; have HN5 := hQ_ hn5; clear hn5)
 try go_wp2_with fail
 refine hK.out _ _ (RD.out _ hx5) (fun hHeld2 => ?_)
 clear hHeld
 have hHeld := hHeld2
 clear hHeld2
 clear hK K
 try simp only [pZ_]
 refine hw_ 13 (some 4) ?_
 refine wpAnyH_done (by kernel_rfl) ?_ _
 have HZ := hQ_ (keeps HB3.out hHeld.1)
 clear hHeld RD
 go_wp2_with fail
 go_ret
 exact ⟨_,rfl,HN5.out,HZ.out⟩
theorem cut_calls (t : Tt) : ∀ (k : ByteArray) (A : Option Addr) (W : World),t.sz ≤ 60000 → Rise t.ino → (∃ x ∈ t.ino,x.key = k) → Nd W t A → Calls Tryz.prog 163 #[.pointer A,.string k] W (NdR (t.cut k) W) := by
 induction t with
 | no =>
   intro k A W _ _ h
   obtain ⟨x,hx,_⟩ := h
   exact absurd hx (by simp [Tt.ino])
 | nd l q r ihl ihr =>
   intro k A W hn hr hha h
   obtain ⟨hr1,hr2,hl,hg,_⟩ := Tt.rise_mid hr
   obtain ⟨x,hx,rfl⟩ := hha
   have hx' : x ∈ l.ino ∨ x = q ∨ x ∈ r.ino := by
    rcases List.mem_append.1 hx with h1 | h1
    ·exact .inl h1
    ·rcases List.mem_cons.1 h1 with h1 | h1
     ·exact .inr (.inl h1)
     ·exact .inr (.inr h1)
   unfold Tt.cut
   by_cases h1 : kl x.key q.key = true
   ·rw [if_pos h1]
    refine cut_1 l r q x.key ihl ihr hr1 ⟨x,?_,rfl⟩ A W hn h h1
    rcases hx' with h2 | rfl | h2
    ·exact h2
    ·rw [kl_irr] at h1
     exact absurd h1 (by decide)
    ·have := hg x h2
     rw [kl_asym h1] at this
     exact absurd this (by decide)
   ·rw [if_neg h1]
    by_cases h2 : kl q.key x.key = true
    ·rw [if_pos h2]
     refine cut_2 l r q x.key ihl ihr hr2 ⟨x,?_,rfl⟩ A W hn h (by simpa using h1) h2
     rcases hx' with h3 | rfl | h3
     ·have := hl x h3
      exact absurd this h1
     ·rw [kl_irr] at h2
      exact absurd h2 (by decide)
     ·exact h3
    ·rw [if_neg h2]
     cases r with
     | no => exact cut_3 l q x.key A W hn h (by simpa using h1) (by simpa using h2)
     | nd a y c =>
       refine cut_4 l a c y q x.key ihl ihr hr2 ⟨(Tt.nd a y c).first,?_,rfl⟩ A W hn h (by simpa using h1) (by simpa using h2)
       have := Tt.first_ino (Tt.nd a y c) (by simp only [Tt.sz]; omega)
       rw [this]
       simp
end Go.Proofs.YtfalhnomhidkcaaGreatDoor.TreeK
namespace Go.Proofs.YtfalhnomhidkcaaGreatDoor.TreeG
open Go.RowKit
open Byte KeysM TreeM Own Lst TreeR TreeL TreeB TreeD TreeF TreeK TreeJ TreeQ
def TRep (w : World) (v : Value) (L : List Pr) (h : Nat) : Prop := ∃ b A t,v = .pointer (some ⟨b,0,none⟩) ∧ Vn w b A t ∧ t.ino = L ∧ Rise L ∧ t.Avl ∧ t.ht = h
theorem vn_new {W : World} {A : Option Addr} {t : Tt} (h : Nd W t A) : Vn (W.alloc (.cells #[.pointer A] 100)) W.heap.size A t := ⟨Blk.new_ _ _ _,h.below (bW_)⟩
theorem new_calls (w : World) : Calls Tryz.prog 12 #[] w fun e w' => ∃ v h,e = .returned v ∧ TRep w' v [] h ∧ Below w.heap.size w w' := by
 have H : Calls Tryz.prog 12 #[] w fun e w' => e = .returned (.pointer (some ⟨w.heap.size,0,none⟩)) ∧ w' = w.alloc (.cells #[.pointer none] 100) := by
  go_enter Tryz.func12,Tryz.ntmps12
  go_wp2_with fail
  go_ret
  exact ⟨rfl,rfl⟩
 refine H.mono ?_
 rintro e w' ⟨rfl,rfl⟩
 exact ⟨_,0,rfl,⟨_,none,.no,rfl,vn_new rfl,rfl,List.Pairwise.nil,trivial,rfl⟩,bW_⟩
def VnR (t : Tt) (w : World) (e : Ending) (w' : World) : Prop := ∃ b A,e = .returned (.pointer (some ⟨b,0,none⟩)) ∧ Vn w' b A t ∧ Below w.heap.size w w'
theorem setm_calls (b : Nat) (A : Option Addr) (t : Tt) (k x : ByteArray) (w : World) (h : Vn w b A t) (hn : t.sz ≤ 60000) : Calls Tryz.prog 53 #[.pointer (some ⟨b,0,none⟩),.string k,.string x] w (VnR (t.set ⟨k,x,false⟩) w) := by
 have HN := hQ_ h.2
 have HT := hQ_ h.1
 have HS := hQ_ hn
 clear h hn
 go_enter Tryz.func53,Tryz.ntmps53
 go_wp2_with (first
  | (go_at_call 102; refine (top_calls b A _ HT.out).mono ?_; rintro e w1 ⟨rfl,rfl⟩)
  | (go_at_call 103; refine (set_calls ⟨k,x,false⟩ t A _ HS.out HN.out).mono ?_; rintro e w2 ⟨A2,rfl,hn2,hb2⟩; have HN2 := hQ_ hn2; have HB2 := hQ_ hb2; clear hn2 hb2))
 go_ret
 exact ⟨_,_,rfl,vn_new HN2.out,HB2.out.alloc HB2.out.size _⟩
theorem cutm_yes (b : Nat) (A : Option Addr) (t : Tt) (k : ByteArray) (w : World) (h : Vn w b A t) (hr : Rise t.ino) (hn : t.sz ≤ 60000) (p : Pr) (hG : getL k t.ino = some p) (hp : ∃ x ∈ t.ino,x.key = k) : Calls Tryz.prog 151 #[.pointer (some ⟨b,0,none⟩),.string k] w (VnR (t.cut k) w) := by
 have HG := hQ_ (get_calls b A t k w h hr (some p) hG)
 have HN := hQ_ h.2
 have HT := hQ_ h.1
 have HS := hQ_ hn
 have HR := hQ_ hr
 have HP := hQ_ hp
 clear h hn hr hp hG
 go_enter Tryz.func151,Tryz.ntmps151
 go_wp2_with (first
  | (go_at_call 57; refine HG.out.mono ?_; rintro e w1 ⟨rfl,rfl⟩; dsimp only [GotV])
  | (go_at_call 102; refine (top_calls b A _ HT.out).mono ?_; rintro e w1 ⟨rfl,rfl⟩)
  | (go_at_call 163; refine (cut_calls t k A _ HS.out HR.out HP.out HN.out).mono ?_; rintro e w2 ⟨A2,rfl,hn2,hb2⟩; have HN2 := hQ_ hn2; have HB2 := hQ_ hb2; clear hn2 hb2))
 go_ret
 exact ⟨_,_,rfl,vn_new HN2.out,HB2.out.alloc HB2.out.size _⟩
theorem cutm_no (b : Nat) (A : Option Addr) (t : Tt) (k : ByteArray) (w : World) (h : Vn w b A t) (hr : Rise t.ino) (hG : getL k t.ino = none) : Calls Tryz.prog 151 #[.pointer (some ⟨b,0,none⟩),.string k] w (VnR t w) := by
 have HG := hQ_ (get_calls b A t k w h hr none hG)
 have HV := hQ_ h
 clear h hr hG
 go_enter Tryz.func151,Tryz.ntmps151
 go_wp2_with (go_at_call 57; refine HG.out.mono ?_; rintro e w1 ⟨rfl,rfl⟩; dsimp only [GotV])
 go_ret
 exact ⟨_,_,rfl,HV.out,Below.refl _ _⟩
theorem len_calls (b : Nat) (A : Option Addr) (t : Tt) (w : World) (h : Vn w b A t) (n : Nat) (hn : t.sz = n) : Calls Tryz.prog 106 #[.pointer (some ⟨b,0,none⟩)] w fun e w' => e = .returned (.int .i64 (n : Nat)) ∧ w = w' := by
 have HN := hQ_ h.2
 have HT := hQ_ h.1
 have HS := hQ_ hn
 clear h hn
 go_enter Tryz.func106,Tryz.ntmps106
 go_wp2_with (first
  | (go_at_call 102; refine (top_calls b A _ HT.out).mono ?_; rintro e w1 ⟨rfl,rfl⟩)
  | (go_at_call 142; refine (size_calls t A _ HN.out n HS.out).mono ?_; rintro e w1 ⟨rfl,rfl⟩))
 go_ret
 exact ⟨rfl,rfl⟩
theorem range_made (b : Nat) (A : Option Addr) (t : Tt) (x y : ByteArray) (w : World) (h : Vn w b A t) (hr : Rise t.ino) (hn : t.sz ≤ 60000) : Calls Tryz.prog 60 #[.pointer (some ⟨b,0,none⟩),.string x,.string y] w (Made (rangeL x y t.ino) w) := by
 have HN := hQ_ h.2
 have HT := hQ_ h.1
 have HS := hQ_ hn
 have HR := hQ_ hr
 clear h hn hr
 have G := hQ_ (gather_calls x y t A w w.heap.size (.slice none 0 0) [] HR.out HN.out (So.nil_ _ _ _ _) (Nat.le_refl _) (by have := HS.out; simp only [List.length_nil]; omega))
 go_enter Tryz.func60,Tryz.ntmps60
 go_wp2_with (first
  | (go_at_call 102; refine (top_calls b A _ HT.out).mono ?_; rintro e w1 ⟨rfl,rfl⟩)
  | (go_at_call 110; refine G.out.mono ?_; rintro e w2 ⟨v,rfl,ho,hb2,_,_⟩; have HO := hQ_ ho; have HB2 := hQ_ hb2; clear ho hb2))
 go_ret
 exact ⟨_,rfl,HO.out,HB2.out⟩
theorem has_get {L : List Pr} {k : ByteArray} {p : Pr} (h : getL k L = some p) : ∃ x ∈ L,x.key = k := ⟨p,List.mem_of_find?_eq_some h,by simpa using List.find?_some h⟩
theorem cut_none {L : List Pr} {k : ByteArray} (h : getL k L = none) : cutL k L = L := List.filter_eq_self.2 fun p hp => by
 have := List.find?_eq_none.1 h p hp
 simpa using this
end Go.Proofs.YtfalhnomhidkcaaGreatDoor.TreeG
namespace Go.Proofs.YtfalhnomhidkcaaGreatDoor.TreeH
open Go.RowKit
open Byte KeysM TreeM TreeB TreeD TreeE TreeF TreeG Own Lst TreeR TreeL Chg
variable {w w' : World} {v : Value} {L : List Pr} {h : Nat}
theorem tkeep (hr : TRep w v L h) (hk : Kept w w') : TRep w' v L h := by
 obtain ⟨b,A,t,rfl,hv,rest⟩ := hr
 exact ⟨b,A,t,rfl,⟨hk _ _ _ _ (.inl rfl) hv.1,hv.2.keep hk⟩,rest⟩
theorem tbelow (hr : TRep w v L h) (hb : Below w.heap.size w w') : TRep w' v L h := tkeep hr (Kept.of_below hb)
theorem trise (hr : TRep w v L h) : Rise L := by
 obtain ⟨b,A,t,rfl,hv,rfl,h2,_⟩ := hr
 exact h2
theorem tform (hr : TRep w v L h) : ∃ b,v = .pointer (some ⟨b,0,none⟩) ∧ b < w.heap.size := by
 obtain ⟨b,A,t,rfl,hv,_⟩ := hr
 exact ⟨b,rfl,hv.1.lt⟩
theorem tset (k x : ByteArray) (hr : TRep w v L h) (hl : L.length ≤ 50000) : Calls Tryz.prog 53 #[v,.string k,.string x] w fun e w' => ∃ v' h',e = .returned v' ∧ TRep w' v' (putL k x L) h' ∧ Below w.heap.size w w' := by
 obtain ⟨b,A,t,rfl,hv,rfl,h2,h3,rfl⟩ := hr
 rw [Tt.sz_ino] at hl
 refine (setm_calls b A t k x w hv (by omega)).mono ?_
 rintro e w' ⟨b',A',rfl,hv',hb'⟩
 exact ⟨_,_,rfl,⟨b',A',_,rfl,hv',Tt.ino_set t k x h2,rise_put h2 k x,(Tt.set_avl t _ h3).1,rfl⟩,hb'⟩
theorem tcut (k : ByteArray) (hr : TRep w v L h) (hl : L.length ≤ 50000) : Calls Tryz.prog 151 #[v,.string k] w fun e w' => ∃ v' h',e = .returned v' ∧ TRep w' v' (cutL k L) h' ∧ Below w.heap.size w w' := by
 obtain ⟨b,A,t,rfl,hv,rfl,h2,h3,rfl⟩ := hr
 rw [Tt.sz_ino] at hl
 cases hG : getL k t.ino with
 | none =>
   refine (cutm_no b A t k w hv h2 hG).mono ?_
   rintro e w' ⟨b',A',rfl,hv',hb'⟩
   exact ⟨_,_,rfl,⟨b',A',_,rfl,hv',(cut_none hG).symm,rise_cut h2 k,h3,rfl⟩,hb'⟩
 | some p =>
   refine (cutm_yes b A t k w hv h2 (by omega) p hG (has_get hG)).mono ?_
   rintro e w' ⟨b',A',rfl,hv',hb'⟩
   exact ⟨_,_,rfl,⟨b',A',_,rfl,hv',Tt.ino_cut t k h2,rise_cut h2 k,(Tt.cut_avl t k h3).1,rfl⟩,hb'⟩
theorem tget (k : ByteArray) (hr : TRep w v L h) (hl : L.length ≤ 50000) : Calls Tryz.prog 57 #[v,.string k] w fun e w' => e = .returned (GotV (getL k L)) ∧ w = w' := by
 obtain ⟨b,A,t,rfl,hv,rfl,h2,h3,rfl⟩ := hr
 exact TreeQ.get_calls b A t k w hv h2 _ rfl
theorem tlen (hr : TRep w v L h) (hl : L.length ≤ 50000) : Calls Tryz.prog 106 #[v] w fun e w' => e = .returned (.int .i64 (L.length : Nat)) ∧ w = w' := by
 obtain ⟨b,A,t,rfl,hv,rfl,h2,h3,rfl⟩ := hr
 exact len_calls b A t w hv _ (Tt.sz_ino t).symm
theorem trange (x y : ByteArray) (hr : TRep w v L h) (hl : L.length ≤ 50000) : Calls Tryz.prog 60 #[v,.string x,.string y] w (Made (rangeL x y L) w) := by
 obtain ⟨b,A,t,rfl,hv,rfl,h2,h3,rfl⟩ := hr
 rw [Tt.sz_ino] at hl
 exact range_made b A t x y w hv h2 (by omega)
end Go.Proofs.YtfalhnomhidkcaaGreatDoor.TreeH
namespace Go.Proofs.YtfalhnomhidkcaaGreatDoor.ViewL
open Go.RowKit
open Byte KeysM TreeM ViewM Own Lst Chg TreeR TreeL TreeG TreeH Ho ViewR ViewS
structure Lim (s : Vs) : Prop where
 base : s.base.length ≤ 1000
 rd : s.rd.length ≤ 20000
 rg : s.rg.length ≤ 1000
structure Stp (S D S' D' : Nat → Prop) (w w' : World) : Prop where
 chg : Chg S w w'
 kept : Kept w w'
 own : Grow w S S'
 dep : Grow w D D'
structure Stays (Rep : World → Value → Vs → (Nat → Prop) → (Nat → Prop) → Prop) : Prop where
 stay : ∀ {w w' v s S D} {T : Nat → Prop},Rep w v s S D → Chg T w w' → (∀ b,T b → ¬ D b) → Kept w w' → Rep w' v s S D
 ok : ∀ {w v s S D},Rep w v s S D → s.Ok
 lt : ∀ {w v s S D},Rep w v s S D → ∀ b,D b → b < w.heap.size
 sub : ∀ {w v s S D},Rep w v s S D → ∀ b,S b → D b
variable {Rep : World → Value → Vs → (Nat → Prop) → (Nat → Prop) → Prop}
theorem Stays.below (h : Stays Rep) {w w' : World} {v : Value} {s : Vs} {S D : Nat → Prop} (r : Rep w v s S D) (hb : Below w.heap.size w w') : Rep w' v s S D :=
 h.stay (T := fun _ => False) r (Chg.of_below hb) (fun _ h => h.elim) (Kept.of_below hb)
def NewOk (Rep : World → Value → Vs → (Nat → Prop) → (Nat → Prop) → Prop) : Prop := ∀ ⦃w t L h⦄,TRep w t L h → L.length ≤ 1000 → Calls Tryz.prog 11 #[t] w fun e w' => ∃ v S D,e = .returned v ∧ Rep w' v ⟨L,[],[],[]⟩ S D ∧ (∀ b,S b → w.heap.size ≤ b) ∧ (∀ b,D b → w.heap.size ≤ b) ∧ Below w.heap.size w w'
def GetOk (Rep : World → Value → Vs → (Nat → Prop) → (Nat → Prop) → Prop) : Prop := ∀ ⦃w v s S D⦄ (k : ByteArray),Rep w v s S D → Lim s → k.size ≤ 200000000000000 → Calls Tryz.prog 62 #[v,.string k] w fun e w' => ∃ S' D',e = .returned (GotV (getL k s.shown)) ∧ Rep w' v (s.read k) S' D' ∧ Stp S D S' D' w w'
def LookOk (Rep : World → Value → Vs → (Nat → Prop) → (Nat → Prop) → Prop) : Prop := ∀ ⦃w v s S D⦄ (k : ByteArray),Rep w v s S D → Lim s → k.size ≤ 200000000000000 → Calls Tryz.prog 22 #[v,.string k] w fun e w' => ∃ S' D',e = .returned (GotV (getL k s.shown)) ∧ Rep w' v s S' D' ∧ Stp S D S' D' w w'
def RangeOk (Rep : World → Value → Vs → (Nat → Prop) → (Nat → Prop) → Prop) : Prop := ∀ ⦃w v s S D⦄ (x y : ByteArray),Rep w v s S D → Lim s → x.size ≤ 200000000000000 → y.size ≤ 200000000000000 → Calls Tryz.prog 23 #[v,.string x,.string y] w fun e w' => ∃ (r : Sh) (S' D' : Nat → Prop),e = .returned (.slice r.a r.n r.c) ∧ Sl prE w' r.a r.n (s.rangeOf x y) ∧ (0 < r.n → NewA w r) ∧ Rep w' v (s.ranged x y) S' D' ∧ Stp S D S' D' w w'
def SetOk (Rep : World → Value → Vs → (Nat → Prop) → (Nat → Prop) → Prop) : Prop := ∀ ⦃w v s S D⦄ (k x : ByteArray),Rep w v s S D → Lim s → k.size ≤ 200000000000000 → x.size ≤ 200000000000000 → Calls Tryz.prog 123 #[v,.string k,.string x] w fun e w' => ∃ S' D',e = .returned (.bool (!fullW s.wr ⟨k,x,false⟩)) ∧ Rep w' v (s.write ⟨k,x,false⟩) S' D' ∧ Stp S D S' D' w w'
def CutOk (Rep : World → Value → Vs → (Nat → Prop) → (Nat → Prop) → Prop) : Prop := ∀ ⦃w v s S D⦄ (k : ByteArray),Rep w v s S D → Lim s → k.size ≤ 200000000000000 → Calls Tryz.prog 134 #[v,.string k] w fun e w' => ∃ S' D',e = .returned (.bool (!fullW s.wr ⟨k,⟨#[]⟩,true⟩)) ∧ Rep w' v (s.write ⟨k,⟨#[]⟩,true⟩) S' D' ∧ Stp S D S' D' w w'
theorem below_chg {B : Nat} {w w1 w2 : World} {S : Nat → Prop} (h : Below B w w1) (k : Chg S w1 w2) (hS : ∀ b,S b → B ≤ b) (hB : B ≤ w.heap.size) : Below B w w2 :=
 ⟨k.os.trans h.os,k.tape.trans h.tape,k.output.trans h.output,Nat.le_trans h.size k.size,fun i hi => (k.block i (by have := h.size; omega) (fun hk => by have := hS i hk; omega)).trans (h.block i hi)⟩
theorem new_own {w1 : World} {S S' : Nat → Prop} {B : Nat} (hS : ∀ b,S b → B ≤ b) (hB : B ≤ w1.heap.size) (g : Grow w1 S S') : ∀ b,S' b → B ≤ b := fun b hb => by
 rcases g b hb with h | h
 ·exact hS b h
 ·omega
end Go.Proofs.YtfalhnomhidkcaaGreatDoor.ViewL
namespace Go.Proofs.YtfalhnomhidkcaaGreatDoor.ViewD
open Go.RowKit
open Byte KeysM TreeM ViewM Own Lst Chg TreeR TreeL TreeG TreeH Ho ViewR ViewS ViewL
variable {Rep : World → Value → Vs → (Nat → Prop) → (Nat → Prop) → Prop}
theorem Kept.trans {a b c : World} (h : Kept a b) (k : Kept b c) : Kept a c := fun q cs U fr hU hb => k q cs U fr hU (h q cs U fr hU hb)
theorem kept_set {W : World} {r : Nat} {cs : Array Value} {T : TypeId} (h : Blk W r cs T) (hne : 100 ≠ T ∧ 172 ≠ T) (i : Nat) (u : Value) : Kept W (W.setCell ⟨r,i,none⟩ u) := fun q cs' U fr hU hb => by
 by_cases e : q = r
 ·subst e
  unfold Blk at h
  rw [h] at hb
  injection hb with hb
  injection hb with _ hT _
  subst hT
  rcases hU with h1 | h1
  ·exact absurd h1.symm hne.1
  ·exact absurd h1.symm hne.2
 ·exact (Below.heap_setCell W ⟨r,i,none⟩ u q e).trans hb
theorem blk_chg {S : Nat → Prop} {w w' : World} {g : Nat} {cs : Array Value} {t : TypeId} (h : Blk w g cs t) (k : Chg S w w') (hg : ¬ S g) : Blk w' g cs t := (k.block g h.lt hg).trans h
end Go.Proofs.YtfalhnomhidkcaaGreatDoor.ViewD
namespace Go.Proofs.YtfalhnomhidkcaaGreatDoor.ViewP
open Go.RowKit
open Byte KeysM TreeM ViewM Own Lst Chg TreeR TreeL TreeG TreeH Ho ViewR ViewS ViewL ViewD
variable {Rep : World → Value → Vs → (Nat → Prop) → (Nat → Prop) → Prop}
theorem kept_grown {W W' : World} {r : Nat} {cs : Array Value} {T : TypeId} (h : Blk W r cs T) (hne : 100 ≠ T ∧ 172 ≠ T) (hg : W.grownBy W' (some r)) : Kept W W' := fun q cs' U fr hU hb => by
 by_cases e : q = r
 ·subst e
  unfold Blk at h
  rw [h] at hb
  injection hb with hb
  injection hb with _ hT _
  subst hT
  rcases hU with h1 | h1
  ·exact absurd h1.symm hne.1
  ·exact absurd h1.symm hne.2
 ·have hlt : q < W.heap.size := (Array.getElem?_eq_some_iff.1 hb).1
  exact (hg.block q hlt (fun h => e (by first | exact (Option.some.inj h).symm | exact Option.some.inj h))).trans hb
end Go.Proofs.YtfalhnomhidkcaaGreatDoor.ViewP
namespace Go.Proofs.YtfalhnomhidkcaaGreatDoor.WalkL
open Go.RowKit
open Byte KeysM KeysR TreeM ViewM NodeM WalkM Lst Chg TreeR TreeL TreeG TreeH ViewR ViewL ViewP
open Own hiding keeps
abbrev RepT := World → Value → Vs → (Nat → Prop) → (Nat → Prop) → Prop
def Stepped (Rep : RepT) (v : Value) (s : Vs) (a : Value) (S D : Nat → Prop) (w : World) (e : Ending) (w' : World) : Prop := ∃ S' D',e = .returned a ∧ Rep w' v s S' D' ∧ Stp S D S' D' w w'
structure InoB (k l s p : Int) : Prop where
 k0 : 0 ≤ k
 k1 : k ≤ 255
 l0 : 0 ≤ l
 l1 : l ≤ 4294967295
 s0 : 0 ≤ s
 s1 : s ≤ 4294967295
 p0 : 0 ≤ p
 p1 : p ≤ 4294967295
def SaveOk (Rep : RepT) : Prop := ∀ ⦃w v s S D⦄ (ino k l z p : Int),Rep w v s S D → Lim s → 0 ≤ ino → ino ≤ 4294967295 → InoB k l z p → Calls Tryz.prog 79 #[v,.int .u32 ino,.agg #[.int .u8 k,.int .u32 l,.int .u32 z,.int .u32 p]] w (Stepped Rep v (s.write ⟨kI ino,nput k l z p,false⟩) (.bool (!fullW s.wr ⟨kI ino,nput k l z p,false⟩)) S D w)
def DropOk (Rep : RepT) : Prop := ∀ ⦃w v s S D⦄ (ino : Int),Rep w v s S D → Lim s → 0 ≤ ino → ino ≤ 4294967295 → Calls Tryz.prog 127 #[v,.int .u32 ino] w (Stepped Rep v (s.write ⟨kI ino,⟨#[]⟩,true⟩) (.bool (!fullW s.wr ⟨kI ino,⟨#[]⟩,true⟩)) S D w)
def HangOk (Rep : RepT) : Prop := ∀ ⦃w v s S D⦄ (dir : Int) (name : ByteArray) (ino : Int),Rep w v s S D → Lim s → 0 ≤ dir → dir ≤ 4294967295 → 0 ≤ ino → ino ≤ 4294967295 → name.size ≤ 100000 → Calls Tryz.prog 78 #[v,.int .u32 dir,.string name,.int .u32 ino] w (Stepped Rep v (s.write ⟨kE dir name,hangV ino,false⟩) (.bool (!fullW s.wr ⟨kE dir name,hangV ino,false⟩)) S D w)
def UnhangOk (Rep : RepT) : Prop := ∀ ⦃w v s S D⦄ (dir : Int) (name : ByteArray),Rep w v s S D → Lim s → 0 ≤ dir → dir ≤ 4294967295 → name.size ≤ 100000 → Calls Tryz.prog 121 #[v,.int .u32 dir,.string name] w (Stepped Rep v (s.write ⟨kE dir name,⟨#[]⟩,true⟩) (.bool (!fullW s.wr ⟨kE dir name,⟨#[]⟩,true⟩)) S D w)
def ChildOk (Rep : RepT) : Prop := ∀ ⦃w v s S D⦄ (dir : Int) (name : ByteArray),Rep w v s S D → Lim s → 0 ≤ dir → dir ≤ 4294967295 → name.size ≤ 100000 → Calls Tryz.prog 25 #[v,.int .u32 dir,.string name] w (Stepped Rep v (s.read (kE dir name)) (.tuple #[.int .u32 (childM s.shown dir name).1,.bool (childM s.shown dir name).2]) S D w)
def ListOk (Rep : RepT) : Prop := ∀ ⦃w v s S D⦄ (dir : Int),Rep w v s S D → Lim s → 0 ≤ dir → dir ≤ 4294967295 → (∀ p ∈ s.shown,(sp p.key).letter ≠ 0) → Calls Tryz.prog 54 #[v,.int .u32 dir] w fun e w' => ∃ A m c a b S' D',e = .returned (.slice A m c) ∧ Sl Tx.txE w' A m (listM dir s.shown) ∧ Rep w' v (s.ranged a b) S' D' ∧ Stp S D S' D' w w'
section
variable {Rep : RepT}
theorem kept_trans {a b c : World} (h : Kept a b) (k : Kept b c) : Kept a c := fun q cs U fr hU hb => k q cs U fr hU (h q cs U fr hU hb)
end
end Go.Proofs.YtfalhnomhidkcaaGreatDoor.WalkL
namespace Go.Proofs.YtfalhnomhidkcaaGreatDoor.WalkV
open Go.RowKit
open Byte KeysM TreeM ViewM WalkKm Chg TreeG TreeH ViewL ViewP WalkL
def VB (Rep : RepT) : RepT := fun w v s S D => Rep w v s S D ∧ VsB s
variable {Rep : RepT}
def NewB (Rep : RepT) : Prop := ∀ ⦃w t L h⦄,TRep w t L h → L.length ≤ 1000 → (∀ p ∈ L,p.value.size ≤ 200000000000000) → Calls Tryz.prog 11 #[t] w fun e w' => ∃ v S D,e = .returned v ∧ Rep w' v ⟨L,[],[],[]⟩ S D ∧ (∀ b,S b → w.heap.size ≤ b) ∧ (∀ b,D b → w.heap.size ≤ b) ∧ Below w.heap.size w w'
theorem stays_b (h : Stays Rep) : Stays (VB Rep) where
 stay := fun r c hT k => ⟨h.stay r.1 c hT k,r.2⟩
 ok := fun r => h.ok r.1
 lt := fun r => h.lt r.1
 sub := fun r => h.sub r.1
theorem new_b (h : NewOk Rep) : NewB (VB Rep) := fun _ _ _ _ r hl hb => (h r hl).mono fun _ _ ⟨v,S,D,e,hr,h1,h2,h3⟩ => ⟨v,S,D,e,⟨hr,VsB.new hb⟩,h1,h2,h3⟩
theorem get_b (h : GetOk Rep) : GetOk (VB Rep) := fun _ _ _ _ _ k r hl hk => (h k r.1 hl hk).mono fun _ _ ⟨S',D',e,hr,st⟩ => ⟨S',D',e,⟨hr,r.2.read k⟩,st⟩
theorem look_b (h : LookOk Rep) : LookOk (VB Rep) := fun _ _ _ _ _ k r hl hk => (h k r.1 hl hk).mono fun _ _ ⟨S',D',e,hr,st⟩ => ⟨S',D',e,⟨hr,r.2⟩,st⟩
theorem range_b (h : RangeOk Rep) : RangeOk (VB Rep) := fun _ _ _ _ _ x y r hl hx hy => (h x y r.1 hl hx hy).mono fun _ _ ⟨q,S',D',e,h1,h2,hr,st⟩ => ⟨q,S',D',e,h1,h2,⟨hr,r.2.ranged x y⟩,st⟩
theorem set_b (h : ViewL.SetOk Rep) : ViewL.SetOk (VB Rep) := fun _ _ _ _ _ k x r hl hk hx => (h k x r.1 hl hk hx).mono fun _ _ ⟨S',D',e,hr,st⟩ => ⟨S',D',e,⟨hr,r.2.write hx⟩,st⟩
theorem cut_b (h : CutOk Rep) : CutOk (VB Rep) := fun _ _ _ _ _ k r hl hk => (h k r.1 hl hk).mono fun _ _ ⟨S',D',e,hr,st⟩ => ⟨S',D',e,⟨hr,r.2.write (p := ⟨k,⟨#[]⟩,true⟩) (show (0 : Nat) ≤ 200000000000000 from Nat.zero_le _)⟩,st⟩
end Go.Proofs.YtfalhnomhidkcaaGreatDoor.WalkV
namespace Go.Proofs.YtfalhnomhidkcaaGreatDoor.Vat
open Go.RowKit
open Byte TreeM ViewM Lst Chg TreeL ViewL WalkL
open Own hiding keeps
structure At (Rep : RepT) (w0 : World) (S0 D0 M : Nat → Prop) (w : World) (v : Value) (s : Vs) (S D : Nat → Prop) : Prop where
 rep : Rep w v s S D
 st : Stp S0 D0 S D w0 w
 mine : ∀ b,M b → w0.heap.size ≤ b ∧ b < w.heap.size ∧ ¬ D b
variable {Rep : RepT} {w0 w w' : World} {S0 D0 M S D S' D' : Nat → Prop} {v : Value} {s s' : Vs}
theorem Stp.refl (S D : Nat → Prop) (w : World) : Stp S D S D w w := ⟨Chg.refl _ _,fun _ _ _ _ _ h => h,Grow.refl _ _,Grow.refl _ _⟩
theorem At.start (h : Rep w v s S D) : At Rep w S D (fun _ => False) w v s S D := ⟨h,Stp.refl _ _ _,fun _ h => h.elim⟩
theorem At.less {M' : Nat → Prop} (p : At Rep w0 S0 D0 M w v s S D) (h : ∀ b,M' b → M b) : At Rep w0 S0 D0 M' w v s S D := ⟨p.rep,p.st,fun b hb => p.mine b (h b hb)⟩
theorem At.chg (hS : Stays Rep) (p : At Rep w0 S0 D0 M w v s S D) {Q : Nat → Prop} (hc : Chg Q w w') (hk : Kept w w') (hQ : ∀ b,Q b → b < w.heap.size → M b) : At Rep w0 S0 D0 M w' v s S D := by
 have hc' : Chg M w w' := hc.mono (fun k hk hq => hQ k hq hk)
 refine ⟨hS.stay p.rep hc' (fun b hb => (p.mine b hb).2.2) hk,⟨p.st.chg.then_ hc' (fun i hi hm => ?_),kept_trans p.st.kept hk,p.st.own,p.st.dep⟩,fun b hb => ?_⟩
 ·have := (p.mine i hm).1
  omega
 ·have h1 := p.mine b hb
  exact ⟨h1.1,Nat.lt_of_lt_of_le h1.2.1 hc.size,h1.2.2⟩
theorem At.below (hS : Stays Rep) (p : At Rep w0 S0 D0 M w v s S D) (hb : Below w.heap.size w w') : At Rep w0 S0 D0 M w' v s S D :=
 p.chg hS (Q := fun _ => False) (Chg.of_below hb) (Kept.of_below hb) (fun _ h => h.elim)
theorem At.own (hS : Stays Rep) (p : At Rep w0 S0 D0 M w v s S D) (hb : Below w.heap.size w w') {r : Nat} (h1 : w.heap.size ≤ r) (h2 : r < w'.heap.size) : At Rep w0 S0 D0 (fun b => M b ∨ b = r) w' v s S D := by
 have q := p.below hS hb
 refine ⟨q.rep,q.st,fun b hb => ?_⟩
 rcases hb with hb | rfl
 ·exact q.mine b hb
 ·have h3 := p.st.chg.size
  exact ⟨by omega,h2,fun hd => by have := hS.lt p.rep b hd; omega⟩
theorem At.owns (hS : Stays Rep) (p : At Rep w0 S0 D0 M w v s S D) (hb : Below w.heap.size w w') {Q : Nat → Prop} (hQ : ∀ b,Q b → w.heap.size ≤ b ∧ b < w'.heap.size) : At Rep w0 S0 D0 (fun b => M b ∨ Q b) w' v s S D := by
 have q := p.below hS hb
 refine ⟨q.rep,q.st,fun b hq => ?_⟩
 rcases hq with hq | hq
 ·exact q.mine b hq
 ·have h3 := p.st.chg.size
  have h4 := hQ b hq
  exact ⟨by omega,h4.2,fun hd => by have := hS.lt p.rep b hd; omega⟩
theorem At.step (hS : Stays Rep) (p : At Rep w0 S0 D0 M w v s S D) (hr : Rep w' v s' S' D') (st : Stp S D S' D' w w') : At Rep w0 S0 D0 M w' v s' S' D' := by
 refine ⟨hr,⟨p.st.chg.then_ st.chg (fun i hi hm => ?_),kept_trans p.st.kept st.kept,p.st.own.trans st.own p.st.chg.size,p.st.dep.trans st.dep p.st.chg.size⟩,fun b hb => ?_⟩
 ·rcases p.st.own i hm with h | h
  ·exact h
  ·omega
 ·have h1 := p.mine b hb
  refine ⟨h1.1,Nat.lt_of_lt_of_le h1.2.1 st.chg.size,fun hd => ?_⟩
  rcases st.dep b hd with h | h
  ·exact h1.2.2 h
  ·omega
theorem At.stored (hS : Stays Rep) (p : At Rep w0 S0 D0 M w v s S D) {r : Nat} {cs : Array Value} {T : TypeId} (h : Blk w r cs T) (hr : M r) (hne : 100 ≠ T ∧ 172 ≠ T) (hg : w.grownBy w' (some r)) : At Rep w0 S0 D0 M w' v s S D :=
 p.chg hS (Q := fun b => b = r) (Chg.of_grown hg (fun k e => .inl (by injection e with e; exact e.symm))) (ViewP.kept_grown h hne hg) (fun b e _ => by subst e; exact hr)
theorem At.set (hS : Stays Rep) (p : At Rep w0 S0 D0 M w v s S D) {r : Nat} {cs : Array Value} {T : TypeId} (h : Blk w r cs T) (hr : M r) (hne : 100 ≠ T ∧ 172 ≠ T) (i : Nat) (u : Value) : At Rep w0 S0 D0 M (w.setCell ⟨r,i,none⟩ u) v s S D :=
 p.chg hS (Q := fun b => b = r) ((Chg.refl (fun b => b = r) w).setCell (p := ⟨r,i,none⟩) (.inl rfl) u) (ViewD.kept_set h hne i u) (fun b e _ => by subst e; exact hr)
theorem At.grown (hS : Stays Rep) (p : At Rep w0 S0 D0 M w v s S D) {α : Type} {e : Enc α} {T : TypeId} {base n : Nat} {u : Value} {L : List α} (h : So e T w base u n L) (hr : ∀ r,u.ownBlock = some r → M r) (hne : 100 ≠ T ∧ 172 ≠ T) (hg : w.grownBy w' u.ownBlock) : At Rep w0 S0 D0 M w' v s S D :=
 p.chg hS (Q := fun b => u.ownBlock = some b) (Chg.of_grown hg (fun k e => .inl e)) (Kept.of_grown h hg hne) (fun b e _ => hr b e)
theorem At.apart (hS : Stays Rep) (p : At Rep w0 S0 D0 M w v s S D) {r : Nat} (hr : M r) : ¬ S r := fun h => (p.mine r hr).2.2 (hS.sub p.rep r h)
theorem At.blk (hS : Stays Rep) (p : At Rep w0 S0 D0 M w v s S D) {r : Nat} {cs : Array Value} {T : TypeId} (h : Blk w r cs T) (hr : M r) (st : Stp S D S' D' w w') : Blk w' r cs T := (st.chg.block r h.lt (p.apart hS hr)).trans h
theorem At.sl (hS : Stays Rep) (p : At Rep w0 S0 D0 M w v s S D) {α : Type} {e : Enc α} {A : Option Addr} {n : Nat} {L : List α} (h : Sl e w A n L) (hA : ∀ b o,A = some ⟨b,o,none⟩ → M b) (st : Stp S D S' D' w w') : Sl e w' A n L :=
 Chg.Sl.chg h st.chg (fun b o e => p.apart hS (hA b o e))
theorem At.size (p : At Rep w0 S0 D0 M w v s S D) : w0.heap.size ≤ w.heap.size := p.st.chg.size
end Go.Proofs.YtfalhnomhidkcaaGreatDoor.Vat
namespace Go.Proofs.YtfalhnomhidkcaaGreatDoor.WalkD
open Go.RowKit
open Byte KeysM KeysR TreeM ViewM NodeM WalkM Lst Chg TreeR TreeL TreeG TreeH ViewR ViewL ViewP WalkL
open Own hiding keeps
variable {Rep : RepT}
theorem blk_chg {w w' : World} {S : Nat → Prop} {b : Nat} {cs : Array Value} {T : TypeId} (h : Blk w b cs T) (k : Chg S w w') (hn : ¬ S b) : Blk w' b cs T := (k.block b h.lt hn).trans h
structure Wks (Rep : RepT) : Prop where
 save : SaveOk Rep
 drop : DropOk Rep
 hang : HangOk Rep
 unhang : UnhangOk Rep
 child : ChildOk Rep
 list : ListOk Rep
end Go.Proofs.YtfalhnomhidkcaaGreatDoor.WalkD
namespace Go.Proofs.YtfalhnomhidkcaaGreatDoor.NodeL
open Go.RowKit
open Byte PackM KeysR NodeM NodeG Lst Ho
open Own hiding keeps
def trE : Enc (Int × Int × Int) := ⟨fun x => [.int .i64 x.1,.int .i64 x.2.1,.int .i64 x.2.2],3,fun _ => rfl,fun x u hu => by simp at hu; rcases hu with rfl | rfl | rfl <;> rfl,by omega⟩
theorem info3 : (Tryz.prog.info? 194).map (·.size) = some 3 := by kernel_rfl
def cutL (a n : Int) : List (Int × Int × Int) := if a < 0 ∨ n ≤ 0 ∨ 4096 < a ∨ 4096 - a < n then [] else cuts n.toNat a n
def blk (size : Int) : Int := if size ≤ 0 then 0 else (size - 1) / 64 + 1
def newV (k p : Int) : Value := if k = 1 then .agg #[.int .u8 1,.int .u32 1,.int .u32 0,.int .u32 0] else .agg #[.int .u8 2,.int .u32 2,.int .u32 0,.int .u32 p]
def MayOk : Prop := ∀ (k l s p : Int) (w : World),0 ≤ k → k ≤ 255 → 0 ≤ l → l ≤ 4294967295 → 0 ≤ s → s ≤ 4294967295 → 0 ≤ p → p ≤ 4294967295 → Calls Tryz.prog 115 #[.agg #[.int .u8 k,.int .u32 l,.int .u32 s,.int .u32 p]] w fun e w' => e = .returned (.bool (may k l s p)) ∧ Below w.heap.size w w'
def PutOk : Prop := ∀ (k l s p : Int) (w : World),0 ≤ k → k ≤ 255 → 0 ≤ l → l ≤ 4294967295 → 0 ≤ s → s ≤ 4294967295 → 0 ≤ p → p ≤ 4294967295 → Calls Tryz.prog 125 #[.agg #[.int .u8 k,.int .u32 l,.int .u32 s,.int .u32 p]] w fun e w' => e = .returned (.string (nput k l s p)) ∧ Below w.heap.size w w'
def GetOk : Prop := ∀ (t : ByteArray) (w : World),t.size ≤ maxLen → Calls Tryz.prog 67 #[.string t] w (GetE t w)
def NewOk : Prop := ∀ (k p : Int) (w : World),0 ≤ k → k ≤ 255 → 0 ≤ p → p ≤ 4294967295 → Calls Tryz.prog 91 #[.int .u8 k,.int .u32 p] w fun e w' => e = .returned (newV k p) ∧ Below w.heap.size w w'
def RootOk : Prop := ∀ (w : World),Calls Tryz.prog 66 #[] w fun e w' => e = .returned (.agg #[.int .u8 2,.int .u32 2,.int .u32 0,.int .u32 1]) ∧ Below w.heap.size w w'
def BlocksOk : Prop := ∀ (n : Int) (w : World),-9223372036854775808 ≤ n → n ≤ 9223372036854775807 → Calls Tryz.prog 89 #[.int .i64 n] w fun e w' => e = .returned (.int .i64 (blk n)) ∧ Below w.heap.size w w'
def CutE (a n : Int) (w : World) (e : Ending) (w' : World) : Prop := ∃ A m c,e = .returned (.slice A m c) ∧ So trE 194 w' w.heap.size (.slice A m c) m (cutL a n) ∧ Below w.heap.size w w'
def CutOk : Prop := ∀ (a n : Int) (w : World),-9223372036854775808 ≤ a → a ≤ 9223372036854775807 → -9223372036854775808 ≤ n → n ≤ 9223372036854775807 → Calls Tryz.prog 130 #[.int .i64 a,.int .i64 n] w (CutE a n w)
end Go.Proofs.YtfalhnomhidkcaaGreatDoor.NodeL
namespace Go.Proofs.YtfalhnomhidkcaaGreatDoor.PackG
open Go.RowKit
open Byte PackM PackV
theorem or64 (x y : Int) (h0 : 0 ≤ x) (h1 : x < 72057594037927936) (h2 : 0 ≤ y) (h3 : y ≤ 255) : bits .or .u64 (x * 256) y = x * 256 + y := by
 rw [u64_or _ y (by omega) (by omega) h2 (by omega),nat_join 8 _ _ (by omega) (by omega)]
 omega
theorem get_calls (A : Option Addr) (n c : Nat) (xs : List Int) (a m : Int) (w : World) (hb : Bs w A n xs) (hn : n ≤ 140737488355328) (h0 : -9223372036854775808 ≤ a) (h1 : a ≤ 9223372036854775807) (h2 : -9223372036854775808 ≤ m) (h3 : m ≤ 9223372036854775807) :
 Calls Tryz.prog 64 #[.slice A n c,.int .i64 a,.int .i64 m] w fun e w' => e = .returned (.tuple #[.int .u64 (gx xs a m),.int .i64 (gi xs a m),.int .i64 (ge xs a m)]) ∧ w = w' := by
 have HB := hQ_ hb
 clear hb
 by_cases ha : a < 0 ∨ (n : Int) < a
 ·have hg := g_arg xs a m (by rw [HB.out.len]; exact ha)
  rw [hg.1,hg.2.1,hg.2.2]
  clear hg
  rcases ha with ha | ha
  ·go_enter Tryz.func64,Tryz.ntmps64
   go_wp2
   go_ret3
   exact ⟨rfl,rfl⟩
  ·have hd : decide (a < 0) = false := by simp; omega
   go_enter Tryz.func64,Tryz.ntmps64
   go_wp2
   go_ret3
   exact ⟨rfl,rfl⟩
 ·have ha' : 0 ≤ a ∧ a ≤ (n : Int) := by omega
  obtain ⟨i,rfl⟩ := Int.eq_ofNat_of_zero_le ha'.1
  have hi : i ≤ n := by omega
  have hwd := width_bd m
  have HA : Hid (¬ ((i : Int) < 0 ∨ (xs.length : Int) < (i : Int))) := by rw [HB.out.len]; exact ha
  clear ha ha' h0 h1
  have d1 : decide ((i : Int) < 0) = false := by simp
  have d2 : decide (n < i) = false := by simp; omega
  have HW := hQ_ (width_calls m w h2 h3)
  by_cases hs : n < i + width m
  ·have hg := g_short xs i m HA.out (by rw [HB.out.len]; omega)
   rw [hg.1,hg.2.1,hg.2.2]
   clear hg
   obtain ⟨k,hk⟩ : ∃ k,width m = k := ⟨_,rfl⟩
   rw [hk] at HW hs hwd
   clear hk
   go_enter Tryz.func64,Tryz.ntmps64
   go_wp2_with fail
   refine (HW.out).mono ?_
   rintro e w' ⟨rfl,rfl⟩
   go_wp2_with fail
   go_ret3
   exact ⟨rfl,rfl⟩
  ·have hg := g_ok xs i m HA.out (by rw [HB.out.len]; omega)
   rw [hg.1,hg.2.1,hg.2.2,Int.toNat_natCast]
   clear hg
   obtain ⟨k,hk⟩ : ∃ k,width m = k := ⟨_,rfl⟩
   rw [hk] at HW hs hwd ⊢
   clear hk
   go_enter Tryz.func64,Tryz.ntmps64
   go_wp2_with fail
   refine (HW.out).mono ?_
   rintro e w' ⟨rfl,rfl⟩
   go_wp2_with fail
   go_loop [28,9] (fun j x => ∃ (t : Nat) (X : Int),t ≤ k ∧ j = .int .i64 t ∧ x = .int .u64 X ∧ Hid (X = getn xs i t)) (fun j _ => k - (intOf j).toNat)
   case atStart => exact ⟨0,0,by omega,rfl,rfl,by exact (getn_zero xs i).symm⟩
   case round =>
    obtain ⟨t,X,ht,rfl,rfl,hX⟩ := hrel
    by_cases hlt : t < k
    ·obtain ⟨b,o,rfl,_,hc⟩ := HB.out.2.2 (i + t) (by omega)
     have hx := HB.out.bd (i + t)
     have hXb := get_bd xs i t HB.out.2.1
     have hp := pow_mono t 7 (by omega)
     rw [← hX.out] at hXb
     have hs' := get_succ xs i t (by rw [HB.out.len]; omega)
     rw [← hX.out] at hs'
     have HS := hQ_ hs'
     clear hs'
     generalize hxe : xs.getD (i + t) 0 = y at hc hx HS
     clear hxe
     have hX0 := hXb.1
     have hX1 : X < 72057594037927936 := Int.lt_of_lt_of_le hXb.2 hp
     have hor := or64 X y hX0 (by omega) hx.1 hx.2
     clear hXb hp
     go_wp2
     go_round
     case rel => exact ⟨t + 1,X * 256 + y,by omega,by go_num,rfl,HS.out.symm⟩
     case measure => simp [intOf]; omega
    ·obtain rfl : t = k := by omega
     go_wp2
     go_ret3
     rw [hX.out]
     exact ⟨rfl,rfl⟩
end Go.Proofs.YtfalhnomhidkcaaGreatDoor.PackG