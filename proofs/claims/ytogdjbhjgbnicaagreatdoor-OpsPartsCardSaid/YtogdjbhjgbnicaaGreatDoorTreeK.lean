import Derived.Test.YtogdjbhjgbnicaaGreatDoorSq
import Derived.Test.YtogdjbhjgbnicaaGreatDoorTreeF
import Derived.Deep.LoopGhost
set_option maxHeartbeats 16000000
set_option linter.unusedVariables false
set_option linter.unusedSimpArgs false
set_option maxRecDepth 100000
namespace Go.Proofs.YtogdjbhjgbnicaaGreatDoor.TreeK
open Go.RowKit
open Byte KeysM TreeM Own Lst TreeR TreeL TreeB TreeD TreeE Ho TreeF
theorem first_calls (t : Tt) (A : Option Addr) (w : World) (F : Pr) (hF : t.first = F) (h : Nd w t A) (h0 : t.sz ≠ 0) :
 Calls Tryz.prog 180 #[.pointer A] w fun e w' => e = .returned (.agg #[.string F.key,.string F.value,.bool F.gone]) ∧ Below w.heap.size w w' := by
 have HR := hQ_ (Blk.new_ w #[.string ⟨#[]⟩,.string ⟨#[]⟩,.bool false] 64)
 have hb1 := bX_ HR.out
 have HN := hQ_ (h.below hb1)
 have HB1 := hQ_ hb1
 have H0 := hQ_ h0
 have HF := hQ_ hF
 clear h hb1 h0 hF
 go_enter Tryz.func180,Tryz.ntmps180
 go_wp2_with fail
 obtain ⟨W,hW⟩ : ∃ W,w.alloc (.cells #[.string ⟨#[]⟩,.string ⟨#[]⟩,.bool false] 64) = W := ⟨_,rfl⟩
 rw [hW] at HN HB1 HR ⊢
 clear hW
 go_loopg [0] t.sz (fun k n wr => ∃ (t' : Tt) (A' : Option Addr),n = .pointer A' ∧ Hid (Nd W t' A') ∧ Hid (t'.sz ≠ 0) ∧ Hid (t'.first = F) ∧ Hid (t'.sz ≤ k) ∧ wr = W)
 case atStart => exact ⟨t,A,rfl,HN,H0,HF,hQ_ (Nat.le_refl _),rfl⟩
 case round =>
  obtain ⟨t',A',rfl,HN',H0',HF',HK,rfl⟩ := hrel
  cases t' with
  | no => exact absurd rfl H0'.out
  | nd l p r =>
    obtain ⟨b,C,D,rfl,hk,hl,hr⟩ := HN'.out
    have c3 := cZ3 hk
    have HL := hQ_ hl
    have HKK := hQ_ hk
    clear hl hr hk
    cases l with
    | no =>
      obtain rfl : C = none := HL.out
      obtain ⟨c0,c1,c2⟩ : wr.cell? ⟨b,0,none⟩ = some (.string p.key) ∧ wr.cell? ⟨b,1,none⟩ = some (.string p.value) ∧ wr.cell? ⟨b,2,none⟩ = some (.bool p.gone) := ⟨HKK.out.cell 0,HKK.out.cell 1,HKK.out.cell 2⟩
      have hF' : p = F := HF'.out
      subst hF'
      have hsz := HR.out.lt
      go_wp2_with ((with_reducible refine pick none ?_); refine store_blk rfl 64 _ _ rfl w.heap.size #[.string p.key,.string p.value,.bool p.gone] rfl rfl 64 #[.string ⟨#[]⟩,.string ⟨#[]⟩,.bool false] HR.out info_pair3 rfl (by simp [Value.oneCell']) ?_; intro w5 hk5 hg5)
      exact bodyPost_ret (v := .agg #[.string p.key,.string p.value,.bool p.gone]) (results_cell_row rfl _ _ w.heap.size 64 _ (0,0) _ rfl hk5 Tryz.underlying64 rfl info_pair3) rfl ⟨rfl,HB1.out.grown hg5 (by omega) (fun g hv => by injection hv with hv; omega)⟩
    | nd a q c =>
      obtain ⟨d,_,_,rfl,_⟩ := HL.out
      go_wp2_with fail
      go_roundg (Tt.nd a q c).sz
      case rel => exact ⟨.nd a q c,_,rfl,HL,hQ_ (by simp only [Tt.sz]; omega),hQ_ HF'.out,hQ_ (Nat.le_refl _),rfl⟩
      case measure => have := HK.out; simp only [Tt.sz] at this ⊢; omega
theorem cut_1 (l r : Tt) (q : Pr) (k : ByteArray) (ihl : ∀ (k : ByteArray) (A : Option Addr) (W : World),l.sz ≤ 60000 → Rise l.ino → (∃ x ∈ l.ino,x.key = k) → Nd W l A → Calls Tryz.prog 171 #[.pointer A,.string k] W (NdR (l.cut k) W)) (ihr : ∀ (k : ByteArray) (A : Option Addr) (W : World),r.sz ≤ 60000 → Rise r.ino → (∃ x ∈ r.ino,x.key = k) → Nd W r A → Calls Tryz.prog 171 #[.pointer A,.string k] W (NdR (r.cut k) W)) (hri : Rise l.ino) (hha : (∃ x ∈ l.ino,x.key = k)) (A : Option Addr) (W : World) (hn : (Tt.nd l q r).sz ≤ 60000) (h : Nd W (Tt.nd l q r) A) (hc : kl k q.key = true) :
 Calls Tryz.prog 171 #[.pointer A,.string k] W (NdR (Tt.bal (l.cut k) q r) W) := by
 obtain ⟨b,C,D,rfl,hk,hl,hr⟩ := h
 have HK := hQ_ hk
 have HL := hQ_ hl
 have HR := hQ_ hr
 have HN := hQ_ hn
 have HRI := hQ_ hri
 have HHA := hQ_ hha
 have IL := hQ_ ihl
 have HB1 := hQ_ (Below.refl W.heap.size W)
 have c0 := cZ0 hk
 have c3 := cZ3 hk
 have c4 := cZ4 hk
 clear hk hl hr hn hri hha ihl ihr
 have f0 : Op.bytesLess (k).toList (q.key).toList = true := hc
 clear hc
 go_enter Tryz.func171,Tryz.ntmps171
 go_wp2_with fail
 have RD : Hid (∀ v,Below W.heap.size W v → Below W.heap.size W v ∧ v.cell? ⟨b,0,none⟩ = some (.string q.key) ∧ v.cell? ⟨b,1,none⟩ = some (.string q.value) ∧ v.cell? ⟨b,2,none⟩ = some (.bool q.gone) ∧ v.cell? ⟨b,3,none⟩ = some (.pointer C) ∧ v.cell? ⟨b,4,none⟩ = some (.pointer D)) := hQ_ fun v hv => (by
  obtain ⟨x0,x1,x2,x3,x4⟩ := node_blk HK.out hv
  exact ⟨hv,x0,x1,x2,x3,x4⟩)
 clear c0 c3 c4
 refine wp_region_held_drew (S := fun v => Below W.heap.size W v ∧ v.cell? ⟨b,0,none⟩ = some (.string q.key) ∧ v.cell? ⟨b,1,none⟩ = some (.string q.value) ∧ v.cell? ⟨b,2,none⟩ = some (.bool q.gone) ∧ v.cell? ⟨b,3,none⟩ = some (.pointer C) ∧ v.cell? ⟨b,4,none⟩ = some (.pointer D)) (by kernel_rfl) (RD.out _ (Below.drew (Below.refl _ _))) (fun hHeld => ?_)
 refine hw_ 0 (some 14) ?_
 refine hw_ 1 (some 15) ?_
 refine hw_ 2 (some 16) ?_
 refine hw_ 3 (some 17) ?_
 refine hw_ 4 (some 18) ?_
 refine hw_ 6 (some 20) ?_
 refine hw_ 7 (some 21) ?_
 refine hw_ 8 (some 22) ?_
 refine hw_ 9 (some 23) ?_
 refine hw_ 10 (some 24) ?_
 refine hw_ 11 (some 25) ?_
 refine hw_ 12 (some 26) ?_
 refine hw_ 13 (some 27) ?_
 refine ho_step 5 (some 19) rfl rfl (by kernel_rfl) (by kernel_rfl) (fun K hK => ?_)
 go_simp
 (go_at_call 171; refine (IL.out k C _ (by have := HN.out; simp only [Tt.sz] at this; (try simp only [Tt.sz]); omega) HRI.out HHA.out (HL.out.below (And.left hHeld))).mono ?_; rintro e w3 ⟨A3,rfl,hn3,hb3⟩; have hx3 : Below W.heap.size W w3 := keeps (And.left hHeld) hb3; have HN3 := hQ_ hn3; clear hn3)
 try go_wp2_with fail
 refine hK.out _ _ (RD.out _ hx3) (fun hHeld2 => ?_)
 clear hHeld
 have hHeld := hHeld2
 clear hHeld2
 clear hK K
 try simp only [pZ_]
 refine ho_step 14 (some 28) rfl rfl (by kernel_rfl) (by kernel_rfl) (fun K hK => ?_)
 go_simp
 (go_at_call 176; refine (balance_calls (l.cut k) r q _ D _ HN3.out (HR.out.below (And.left hHeld)) (by have := HN.out; simp only [Tt.sz] at this; have := cut_sz l k; omega)).mono ?_; rintro e w4 ⟨A4,rfl,hn4,hb4⟩; have hx4 : Below W.heap.size W w4 := keeps (And.left hHeld) hb4; have HN4 := hQ_ hn4; clear hn4)
 try go_wp2_with fail
 refine hK.out _ _ (RD.out _ hx4) (fun hHeld2 => ?_)
 clear hHeld
 have hHeld := hHeld2
 clear hHeld2
 clear hK K
 try simp only [pZ_]
 refine hw_ 15 (some 4) ?_
 refine wpAnyH_done (by kernel_rfl) ?_ _
 have HZ := hQ_ (keeps HB1.out hHeld.1)
 clear hHeld RD
 go_wp2_with fail
 go_ret
 exact ⟨_,rfl,HN4.out,HZ.out⟩
theorem cut_2 (l r : Tt) (q : Pr) (k : ByteArray) (ihl : ∀ (k : ByteArray) (A : Option Addr) (W : World),l.sz ≤ 60000 → Rise l.ino → (∃ x ∈ l.ino,x.key = k) → Nd W l A → Calls Tryz.prog 171 #[.pointer A,.string k] W (NdR (l.cut k) W)) (ihr : ∀ (k : ByteArray) (A : Option Addr) (W : World),r.sz ≤ 60000 → Rise r.ino → (∃ x ∈ r.ino,x.key = k) → Nd W r A → Calls Tryz.prog 171 #[.pointer A,.string k] W (NdR (r.cut k) W)) (hri : Rise r.ino) (hha : (∃ x ∈ r.ino,x.key = k)) (A : Option Addr) (W : World) (hn : (Tt.nd l q r).sz ≤ 60000) (h : Nd W (Tt.nd l q r) A) (hc : kl k q.key = false) (hc2 : kl q.key k = true) :
 Calls Tryz.prog 171 #[.pointer A,.string k] W (NdR (Tt.bal l q (r.cut k)) W) := by
 obtain ⟨b,C,D,rfl,hk,hl,hr⟩ := h
 have HK := hQ_ hk
 have HL := hQ_ hl
 have HR := hQ_ hr
 have HN := hQ_ hn
 have HRI := hQ_ hri
 have HHA := hQ_ hha
 have IR := hQ_ ihr
 have HB1 := hQ_ (Below.refl W.heap.size W)
 have c0 := cZ0 hk
 have c3 := cZ3 hk
 have c4 := cZ4 hk
 clear hk hl hr hn hri hha ihl ihr
 have z2 : (k.toList == q.key.toList) = false := by rw [eq_list,decide_eq_false (kl_ne hc2).symm]
 have f0 : Op.bytesLess (k).toList (q.key).toList = false := hc
 clear hc
 have f1 : Op.bytesLess (q.key).toList (k).toList = true := hc2
 clear hc2
 go_enter Tryz.func171,Tryz.ntmps171
 go_wp2_with fail
 have RD : Hid (∀ v,Below W.heap.size W v → Below W.heap.size W v ∧ v.cell? ⟨b,0,none⟩ = some (.string q.key) ∧ v.cell? ⟨b,1,none⟩ = some (.string q.value) ∧ v.cell? ⟨b,2,none⟩ = some (.bool q.gone) ∧ v.cell? ⟨b,3,none⟩ = some (.pointer C) ∧ v.cell? ⟨b,4,none⟩ = some (.pointer D)) := hQ_ fun v hv => (by
  obtain ⟨x0,x1,x2,x3,x4⟩ := node_blk HK.out hv
  exact ⟨hv,x0,x1,x2,x3,x4⟩)
 clear c0 c3 c4
 refine wp_region_held_drew (S := fun v => Below W.heap.size W v ∧ v.cell? ⟨b,0,none⟩ = some (.string q.key) ∧ v.cell? ⟨b,1,none⟩ = some (.string q.value) ∧ v.cell? ⟨b,2,none⟩ = some (.bool q.gone) ∧ v.cell? ⟨b,3,none⟩ = some (.pointer C) ∧ v.cell? ⟨b,4,none⟩ = some (.pointer D)) (by kernel_rfl) (RD.out _ (Below.drew (Below.refl _ _))) (fun hHeld => ?_)
 refine hw_ 0 (some 37) ?_
 refine hw_ 1 (some 38) ?_
 refine hw_ 2 (some 39) ?_
 refine hw_ 3 (some 40) ?_
 refine hw_ 4 (some 41) ?_
 refine hw_ 5 (some 42) ?_
 refine hw_ 6 (some 43) ?_
 refine hw_ 7 (some 44) ?_
 refine hw_ 8 (some 45) ?_
 refine hw_ 9 (some 46) ?_
 refine hw_ 10 (some 47) ?_
 refine hw_ 11 (some 48) ?_
 refine hw_ 12 (some 49) ?_
 refine ho_step 13 (some 50) rfl rfl (by kernel_rfl) (by kernel_rfl) (fun K hK => ?_)
 go_simp
 (go_at_call 171; refine (IR.out k D _ (by have := HN.out; simp only [Tt.sz] at this; (try simp only [Tt.sz]); omega) HRI.out HHA.out (HR.out.below (And.left hHeld))).mono ?_; rintro e w4 ⟨A4,rfl,hn4,hb4⟩; have hx4 : Below W.heap.size W w4 := keeps (And.left hHeld) hb4; have HN4 := hQ_ hn4; clear hn4)
 try go_wp2_with fail
 refine hK.out _ _ (RD.out _ hx4) (fun hHeld2 => ?_)
 clear hHeld
 have hHeld := hHeld2
 clear hHeld2
 clear hK K
 try simp only [pZ_]
 refine ho_step 14 (some 51) rfl rfl (by kernel_rfl) (by kernel_rfl) (fun K hK => ?_)
 go_simp
 (go_at_call 176; refine (balance_calls l (r.cut k) q C _ _ (HL.out.below (And.left hHeld)) HN4.out (by have := HN.out; simp only [Tt.sz] at this; have := cut_sz r k; omega)).mono ?_; rintro e w5 ⟨A5,rfl,hn5,hb5⟩; have hx5 : Below W.heap.size W w5 := keeps (And.left hHeld) hb5; have HN5 := hQ_ hn5; clear hn5)
 try go_wp2_with fail
 refine hK.out _ _ (RD.out _ hx5) (fun hHeld2 => ?_)
 clear hHeld
 have hHeld := hHeld2
 clear hHeld2
 clear hK K
 try simp only [pZ_]
 refine hw_ 15 (some 4) ?_
 refine wpAnyH_done (by kernel_rfl) ?_ _
 have HZ := hQ_ (keeps HB1.out hHeld.1)
 clear hHeld RD
 go_wp2_with fail
 go_ret
 exact ⟨_,rfl,HN5.out,HZ.out⟩
theorem cut_3 (l : Tt) (q : Pr) (k : ByteArray)   (A : Option Addr) (W : World) (hn : (Tt.nd l q Tt.no).sz ≤ 60000) (h : Nd W (Tt.nd l q Tt.no) A) (hc : kl k q.key = false) (hc2 : kl q.key k = false) :
 Calls Tryz.prog 171 #[.pointer A,.string k] W (NdR (l) W) := by
 obtain ⟨b,C,D,rfl,hk,hl,hr⟩ := h
 have HL := hQ_ hl
 have HR := hQ_ hr
 have HB1 := hQ_ (Below.refl W.heap.size W)
 have c0 := cZ0 hk
 have c3 := cZ3 hk
 have c4 := cZ4 hk
 clear hk hl hr hn
 have z2 : (k.toList == q.key.toList) = true := by rw [eq_list,decide_eq_true (kl_tri hc hc2)]
 have f0 : Op.bytesLess (k).toList (q.key).toList = false := hc
 clear hc
 have f1 : Op.bytesLess (q.key).toList (k).toList = false := hc2
 clear hc2
 obtain rfl : D = none := HR.out
 go_enter Tryz.func171,Tryz.ntmps171
 go_wp2_with fail
 go_ret
 exact ⟨_,rfl,HL.out,HB1.out⟩
theorem cut_4 (l a c : Tt) (y : Pr) (q : Pr) (k : ByteArray) (ihl : ∀ (k : ByteArray) (A : Option Addr) (W : World),l.sz ≤ 60000 → Rise l.ino → (∃ x ∈ l.ino,x.key = k) → Nd W l A → Calls Tryz.prog 171 #[.pointer A,.string k] W (NdR (l.cut k) W)) (ihr : ∀ (k : ByteArray) (A : Option Addr) (W : World),(Tt.nd a y c).sz ≤ 60000 → Rise (Tt.nd a y c).ino → (∃ x ∈ (Tt.nd a y c).ino,x.key = k) → Nd W (Tt.nd a y c) A → Calls Tryz.prog 171 #[.pointer A,.string k] W (NdR ((Tt.nd a y c).cut k) W)) (hri : Rise (Tt.nd a y c).ino) (hha : (∃ x ∈ (Tt.nd a y c).ino,x.key = (Tt.nd a y c).first.key)) (A : Option Addr) (W : World) (hn : (Tt.nd l q (Tt.nd a y c)).sz ≤ 60000) (h : Nd W (Tt.nd l q (Tt.nd a y c)) A) (hc : kl k q.key = false) (hc2 : kl q.key k = false) :
 Calls Tryz.prog 171 #[.pointer A,.string k] W (NdR (Tt.bal l (Tt.nd a y c).first ((Tt.nd a y c).cut (Tt.nd a y c).first.key)) W) := by
 obtain ⟨b,C,D,rfl,hk,hl,hr⟩ := h
 have HK := hQ_ hk
 have HL := hQ_ hl
 have HR := hQ_ hr
 have HN := hQ_ hn
 have HRI := hQ_ hri
 have HHA := hQ_ hha
 have IR := hQ_ ihr
 have c0 := cZ0 hk
 have c3 := cZ3 hk
 have c4 := cZ4 hk
 clear hk hl hr hn hri hha ihl ihr
 have z2 : (k.toList == q.key.toList) = true := by rw [eq_list,decide_eq_true (kl_tri hc hc2)]
 have f0 : Op.bytesLess (k).toList (q.key).toList = false := hc
 clear hc
 have f1 : Op.bytesLess (q.key).toList (k).toList = false := hc2
 clear hc2
 obtain ⟨d,E,G,hD,_⟩ := HR.out
 subst hD
 obtain ⟨F,hF⟩ : ∃ F,(Tt.nd a y c).first = F := ⟨_,rfl⟩
 rw [hF] at HHA ⊢
 have HF := hQ_ hF
 clear hF
 go_enter Tryz.func171,Tryz.ntmps171
 go_wp2_with (go_at_call 180; refine (first_calls (.nd a y c) _ _ F HF.out HR.out (by simp only [Tt.sz]; omega)).mono ?_; rintro e w1 ⟨rfl,hb1⟩; have HB2 := hQ_ hb1; clear hb1)
 have HP0 := hQ_ (Blk.new_ w1 #[.string F.key,.string F.value,.bool F.gone] 64)
 have hBV : Below W.heap.size W (w1.alloc (.cells #[.string F.key,.string F.value,.bool F.gone] 64)) := HB2.out.alloc HB2.out.size _
 obtain ⟨g,hg⟩ : ∃ g,w1.heap.size = g := ⟨_,rfl⟩
 obtain ⟨V,hV⟩ : ∃ V,w1.alloc (.cells #[.string F.key,.string F.value,.bool F.gone] 64) = V := ⟨_,rfl⟩
 rw [hV,hg] at HP0 ⊢
 rw [hV] at hBV
 have HP := hQ_ HP0.out
 have HB3 := hQ_ hBV
 have HKV := hQ_ (HK.out.below hBV)
 have HLV := hQ_ (HL.out.below hBV)
 have HRV := hQ_ (HR.out.below hBV)
 clear hg hV hBV HP0 c0 c3 c4
 have RD : Hid (∀ v,Below V.heap.size V v → Below V.heap.size V v ∧ v.cell? ⟨b,0,none⟩ = some (.string q.key) ∧ v.cell? ⟨b,1,none⟩ = some (.string q.value) ∧ v.cell? ⟨b,2,none⟩ = some (.bool q.gone) ∧ v.cell? ⟨b,3,none⟩ = some (.pointer C) ∧ v.cell? ⟨b,4,none⟩ = some (.pointer (some ⟨d,0,none⟩)) ∧ v.cell? ⟨g,0,none⟩ = some (.string F.key) ∧ v.cell? ⟨g,1,none⟩ = some (.string F.value) ∧ v.cell? ⟨g,2,none⟩ = some (.bool F.gone)) := hQ_ fun v hv => (by
  obtain ⟨x0,x1,x2,x3,x4⟩ := node_blk HKV.out hv
  obtain ⟨y0,y1,y2⟩ := pair_blk HP.out hv
  exact ⟨hv,x0,x1,x2,x3,x4,y0,y1,y2⟩)
 refine wp_region_held_drew (S := fun v => Below V.heap.size V v ∧ v.cell? ⟨b,0,none⟩ = some (.string q.key) ∧ v.cell? ⟨b,1,none⟩ = some (.string q.value) ∧ v.cell? ⟨b,2,none⟩ = some (.bool q.gone) ∧ v.cell? ⟨b,3,none⟩ = some (.pointer C) ∧ v.cell? ⟨b,4,none⟩ = some (.pointer (some ⟨d,0,none⟩)) ∧ v.cell? ⟨g,0,none⟩ = some (.string F.key) ∧ v.cell? ⟨g,1,none⟩ = some (.string F.value) ∧ v.cell? ⟨g,2,none⟩ = some (.bool F.gone)) (by kernel_rfl) (RD.out _ (Below.drew (Below.refl _ _))) (fun hHeld => ?_)
 refine hw_ 0 (some 67) ?_
 refine hw_ 1 (some 68) ?_
 refine hw_ 2 (some 69) ?_
 refine hw_ 3 (some 70) ?_
 refine hw_ 4 (some 71) ?_
 refine hw_ 5 (some 72) ?_
 refine hw_ 6 (some 73) ?_
 refine hw_ 7 (some 74) ?_
 refine hw_ 8 (some 75) ?_
 refine hw_ 9 (some 76) ?_
 refine hw_ 10 (some 77) ?_
 refine ho_step 11 (some 78) rfl rfl (by kernel_rfl) (by kernel_rfl) (fun K hK => ?_)
 go_simp
 (go_at_call 171; refine (IR.out F.key _ _ (by have := HN.out; simp only [Tt.sz] at this; (try simp only [Tt.sz]); omega) HRI.out HHA.out (HRV.out.below (And.left hHeld))).mono ?_; rintro e w4 ⟨A4,rfl,hn4,hb4⟩; have hx4 : Below V.heap.size V w4 := keeps (And.left hHeld) hb4; have HN4 := hQ_ hn4; clear hn4)
 try go_wp2_with fail
 refine hK.out _ _ (RD.out _ hx4) (fun hHeld2 => ?_)
 clear hHeld
 have hHeld := hHeld2
 clear hHeld2
 clear hK K
 try simp only [pZ_]
 refine ho_step 12 (some 79) rfl rfl (by kernel_rfl) (by kernel_rfl) (fun K hK => ?_)
 go_simp
 (go_at_call 176; refine (balance_calls l (Tt.cut (.nd a y c) F.key) F C _ _ (HLV.out.below (And.left hHeld)) HN4.out (by have := HN.out; simp only [Tt.sz] at this; have := cut_sz (.nd a y c) F.key; simp only [Tt.sz] at this; omega)).mono ?_; rintro e w5 ⟨A5,rfl,hn5,hb5⟩; have hx5 : Below V.heap.size V w5 := keeps (And.left hHeld) hb5; have HN5 := hQ_ hn5; clear hn5)
 try go_wp2_with fail
 refine hK.out _ _ (RD.out _ hx5) (fun hHeld2 => ?_)
 clear hHeld
 have hHeld := hHeld2
 clear hHeld2
 clear hK K
 try simp only [pZ_]
 refine hw_ 13 (some 4) ?_
 refine wpAnyH_done (by kernel_rfl) ?_ _
 have HZ := hQ_ (keeps HB3.out hHeld.1)
 clear hHeld RD
 go_wp2_with fail
 go_ret
 exact ⟨_,rfl,HN5.out,HZ.out⟩
theorem cut_calls (t : Tt) : ∀ (k : ByteArray) (A : Option Addr) (W : World),t.sz ≤ 60000 → Rise t.ino → (∃ x ∈ t.ino,x.key = k) → Nd W t A → Calls Tryz.prog 171 #[.pointer A,.string k] W (NdR (t.cut k) W) := by
 induction t with
 | no =>
   intro k A W _ _ h
   obtain ⟨x,hx,_⟩ := h
   exact absurd hx (by simp [Tt.ino])
 | nd l q r ihl ihr =>
   intro k A W hn hr hha h
   obtain ⟨hr1,hr2,hl,hg,_⟩ := Tt.rise_mid hr
   obtain ⟨x,hx,rfl⟩ := hha
   have hx' : x ∈ l.ino ∨ x = q ∨ x ∈ r.ino := by
    rcases List.mem_append.1 hx with h1 | h1
    ·exact .inl h1
    ·rcases List.mem_cons.1 h1 with h1 | h1
     ·exact .inr (.inl h1)
     ·exact .inr (.inr h1)
   unfold Tt.cut
   by_cases h1 : kl x.key q.key = true
   ·rw [if_pos h1]
    refine cut_1 l r q x.key ihl ihr hr1 ⟨x,?_,rfl⟩ A W hn h h1
    rcases hx' with h2 | rfl | h2
    ·exact h2
    ·rw [kl_irr] at h1
     exact absurd h1 (by decide)
    ·have := hg x h2
     rw [kl_asym h1] at this
     exact absurd this (by decide)
   ·rw [if_neg h1]
    by_cases h2 : kl q.key x.key = true
    ·rw [if_pos h2]
     refine cut_2 l r q x.key ihl ihr hr2 ⟨x,?_,rfl⟩ A W hn h (by simpa using h1) h2
     rcases hx' with h3 | rfl | h3
     ·have := hl x h3
      exact absurd this h1
     ·rw [kl_irr] at h2
      exact absurd h2 (by decide)
     ·exact h3
    ·rw [if_neg h2]
     cases r with
     | no => exact cut_3 l q x.key A W hn h (by simpa using h1) (by simpa using h2)
     | nd a y c =>
       refine cut_4 l a c y q x.key ihl ihr hr2 ⟨(Tt.nd a y c).first,?_,rfl⟩ A W hn h (by simpa using h1) (by simpa using h2)
       have := Tt.first_ino (Tt.nd a y c) (by simp only [Tt.sz]; omega)
       rw [this]
       simp
end Go.Proofs.YtogdjbhjgbnicaaGreatDoor.TreeK