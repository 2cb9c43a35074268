import Derived.Test.YtobbofdnhbgioaaGreatDoorSq
import Derived.Test.YtobbofdnhbgioaaGreatDoorOpsR
import Derived.Test.YtobbofdnhbgioaaGreatDoorNamesL
import Derived.Test.YtobbofdnhbgioaaGreatDoorHo
set_option maxHeartbeats 16000000
set_option linter.unusedVariables false
set_option linter.unusedSimpArgs false
set_option maxRecDepth 100000
namespace Go.Proofs.YtobbofdnhbgioaaGreatDoor.OpsL
open Go.RowKit
open Byte Lst Ho NamesL OpsR
open Own hiding keeps
def FixOk : Prop := ∀ w : World,Mx w → Calls Tryz.prog 16 #[] w fun e w' => e = .returned (.bool true) ∧ Below w.heap.size w w'
theorem makes_law (hF : FixOk) (o : Op20) (w : World) (hmx : Mx w) :
 Calls Tryz.prog 6 #[o.val] w fun e w' => e = .returned (.bool true) ∧ Below w.heap.size w w' := by
 obtain ⟨o0,ho0⟩ : ∃ o0,o = o0 := ⟨_,rfl⟩
 have HFX := hQ_ (fun (u : World) (hm : Mx u) => hF u hm)
 have HGR := hQ_ (fun (u : World) => great_calls o0 u)
 have HDO := hQ_ (fun (u : World) => do_nil o0 2 u)
 obtain ⟨kind,path,other,hn,frm,n,da,dn,dc⟩ := o
 subst ho0
 obtain ⟨W,hW⟩ : ∃ W,w.alloc (.cells #[.int .u8 kind,.string path,.string other,.int .i64 hn,.int .i64 frm,.int .i64 n,.slice da dn dc] 41) = W := ⟨_,rfl⟩
 have hB : Blk W w.heap.size #[.int .u8 kind,.string path,.string other,.int .i64 hn,.int .i64 frm,.int .i64 n,.slice da dn dc] 41 := by rw [← hW]; exact Blk.new_ _ _ _
 have hbw : Below w.heap.size w W := by rw [← hW]; exact bW_
 have HBW := hQ_ hbw
 have HMX := hQ_ (hmx.below hbw)
 have HB := hQ_ hB
 have HRD : Hid (∀ q0,Below W.heap.size W q0 → Below W.heap.size W q0 ∧ Mx q0 ∧ q0.cell? ⟨w.heap.size,0,none⟩ = some (.int .u8 kind) ∧ q0.cell? ⟨w.heap.size,1,none⟩ = some (.string path) ∧ q0.cell? ⟨w.heap.size,2,none⟩ = some (.string other) ∧ q0.cell? ⟨w.heap.size,3,none⟩ = some (.int .i64 hn) ∧ q0.cell? ⟨w.heap.size,4,none⟩ = some (.int .i64 frm) ∧ q0.cell? ⟨w.heap.size,5,none⟩ = some (.int .i64 n) ∧ q0.cell? ⟨w.heap.size,6,none⟩ = some (.slice da dn dc)) := hQ_ (fun q0 hb => ⟨hb,HMX.out.below hb,(HB.out.below hb).cell 0,(HB.out.below hb).cell 1,(HB.out.below hb).cell 2,(HB.out.below hb).cell 3,(HB.out.below hb).cell 4,(HB.out.below hb).cell 5,(HB.out.below hb).cell 6⟩)
 have HW0 := hQ_ hW
 have f0 := cC7 HB.out
 have FD := field_0 (.int .i64 25) (.int .i64 0) (.slice none 0 0) (.slice none 0 0) (.int .u8 0) (.int .u32 0) (.int .u32 0) (.int .u32 0)
 clear hF hmx hbw hB hW
 dsimp only [Op20.val,Op20.cells,onlyV,resV] at HGR HDO ⊢
 cases hg : great ⟨kind,path,other,hn,frm,n,da,dn,dc⟩ with
 | true =>
   rw [hg] at HGR
   go_enter Tryz.func6,Tryz.ntmps6
   go_wp2_with fail
   rw [HW0.out]
   go_wp2_with fail
   refine (HGR.out _).mono ?_
   rintro e w1 ⟨rfl,hb1⟩
   have HB1 := hQ_ (Own.keeps HBW.out hb1)
   have HM1 := hQ_ (HMX.out.below hb1)
   clear hb1
   go_wp2_with fail
   refine (HFX.out _ HM1.out).mono ?_
   rintro e w9 ⟨rfl,hb9⟩
   have HB9 := hQ_ (Own.keeps HB1.out hb9)
   clear hb9
   go_wp2_with fail
   go_ret
   exact ⟨rfl,HB9.out⟩
 | false =>
   rw [hg] at HGR
   cases h4 : (kind == 4) with
   | true =>
     have hm : makes kind = true := by unfold makes; rw [h4]; rfl
     have HMK := hQ_ (fun (u : World) => makes_calls (⟨kind,path,other,hn,frm,n,da,dn,dc⟩ : Op20) u)
     dsimp only [Op20.val,Op20.cells] at HMK
     rw [hm] at HMK
     go_enter Tryz.func6,Tryz.ntmps6
     go_wp2_with fail
     rw [HW0.out]
     go_wp2_with fail
     refine (HGR.out _).mono ?_
     rintro e w1 ⟨rfl,hb1⟩
     have HB1 := hQ_ hb1
     clear hb1
     have RD := hQ_ (fun (q0 : World) (hb : Below w1.heap.size w1 q0) => HRD.out q0 (Own.keeps HB1.out hb))
     go_wp2_with fail
     refine wp_region_held_drew (S := fun q0 => Below W.heap.size W q0 ∧ Mx q0 ∧ q0.cell? ⟨w.heap.size,0,none⟩ = some (.int .u8 kind) ∧ q0.cell? ⟨w.heap.size,1,none⟩ = some (.string path) ∧ q0.cell? ⟨w.heap.size,2,none⟩ = some (.string other) ∧ q0.cell? ⟨w.heap.size,3,none⟩ = some (.int .i64 hn) ∧ q0.cell? ⟨w.heap.size,4,none⟩ = some (.int .i64 frm) ∧ q0.cell? ⟨w.heap.size,5,none⟩ = some (.int .i64 n) ∧ q0.cell? ⟨w.heap.size,6,none⟩ = some (.slice da dn dc)) (by kernel_rfl) (RD.out _ (Below.refl _ _).drew) (fun hHeld => ?_)
     refine ho_step 0 (some 7) rfl rfl (by kernel_rfl) (by kernel_rfl) (fun K hK => ?_)
     go_simp
     go_at_call 16
     refine (HFX.out _ hHeld.2.1).mono ?_
     rintro e w9 ⟨rfl,hb9⟩
     try go_wp2_with fail
     refine hK.out _ _ (HRD.out _ (Own.keeps hHeld.1 hb9)) (fun hHeld2 => ?_)
     clear hHeld
     have hHeld := hHeld2
     clear hHeld2
     clear hK K
     try simp only [pZ_]
     refine hw_ 1 (some 8) ?_
     refine hw_ 2 (some 9) ?_
     refine hw_ 4 (some 11) ?_
     refine hw_ 5 (some 12) ?_
     refine hw_ 6 (some 13) ?_
     refine ho_step 3 (some 10) rfl rfl (by kernel_rfl) (by kernel_rfl) (fun K hK => ?_)
     go_simp
     go_at_call 24
     refine (HMK.out _).mono ?_
     rintro e w9 ⟨rfl,hb9⟩
     try go_wp2_with fail
     refine hK.out _ _ (HRD.out _ (Own.keeps hHeld.1 hb9)) (fun hHeld2 => ?_)
     clear hHeld
     have hHeld := hHeld2
     clear hHeld2
     clear hK K
     try simp only [pZ_]
     refine hw_ 7 (some 14) ?_
     refine ho_skip 8 (some 15) rfl rfl (by kernel_rfl) (by kernel_rfl) (by kernel_rfl) (fun _ _ _ h => h) (by kernel_rfl) (by assumption) ?_; simp only [pZ_]
     refine ho_skip 9 (some 16) rfl rfl (by kernel_rfl) (by kernel_rfl) (by kernel_rfl) (fun _ _ _ h => h) (by kernel_rfl) (by assumption) ?_; simp only [pZ_]
     refine ho_skip 10 (some 17) rfl rfl (by kernel_rfl) (by kernel_rfl) (by kernel_rfl) (fun _ _ _ h => h) (by kernel_rfl) (by assumption) ?_; simp only [pZ_]
     refine hw_ 11 (some 18) ?_
     refine hw_ 12 (some 19) ?_
     refine hw_ 13 (some 20) ?_
     refine hw_ 14 (some 21) ?_
     refine hw_ 15 (some 22) ?_
     refine hw_ 16 (some 23) ?_
     refine ho_step 17 (some 24) rfl rfl (by kernel_rfl) (by kernel_rfl) (fun K hK => ?_)
     go_simp
     go_at_call 15
     refine (HDO.out _).mono ?_
     rintro e w9 ⟨rfl,hb9⟩
     try go_wp2_with fail
     refine hK.out _ _ (HRD.out _ (Own.keeps hHeld.1 hb9)) (fun hHeld2 => ?_)
     clear hHeld
     have hHeld := hHeld2
     clear hHeld2
     clear hK K
     try simp only [pZ_]
     refine hw_ 18 (some 25) ?_
     refine hw_ 19 (some 26) ?_
     refine hw_ 20 (some 27) ?_
     refine hw_ 21 (some 28) ?_
     refine hw_ 22 (some 29) ?_
     refine ho_step 23 (some 30) rfl rfl (by kernel_rfl) (by kernel_rfl) (fun K hK => ?_)
     go_simp
     go_at_call 22
     refine (view_nil _).mono ?_
     rintro e w9 ⟨rfl,rfl⟩
     try go_wp2_with fail
     refine hK.out _ _ (hHeld) (fun hHeld2 => ?_)
     clear hHeld
     have hHeld := hHeld2
     clear hHeld2
     clear hK K
     try simp only [pZ_]
     refine hw_ 24 (some 31) ?_
     refine hw_ 25 (some 32) ?_
     refine hw_ 26 (some 33) ?_
     refine hw_ 27 (some 34) ?_
     refine ho_step 28 (some 35) rfl rfl (by kernel_rfl) (by kernel_rfl) (fun K hK => ?_)
     go_simp
     go_at_call 19
     refine (open_nil _).mono ?_
     rintro e w9 ⟨rfl,rfl⟩
     try go_wp2_with fail
     refine hK.out _ _ (hHeld) (fun hHeld2 => ?_)
     clear hHeld
     have hHeld := hHeld2
     clear hHeld2
     clear hK K
     try simp only [pZ_]
     refine hw_ 29 (some 36) ?_
     refine hw_ 30 (some 37) ?_
     refine hw_ 31 (some 38) ?_
     refine hw_ 32 (some 2) ?_
     refine wpAnyH_done (by kernel_rfl) ?_ _
     have HB9 := hQ_ (Own.keeps HBW.out hHeld.1)
     clear hHeld
     go_wp2_with fail
     go_ret
     exact ⟨rfl,HB9.out⟩
   | false =>
     cases h5 : (kind == 5) with
     | true =>
       have hm : makes kind = true := by unfold makes; rw [h4,h5]; rfl
       have HMK := hQ_ (fun (u : World) => makes_calls (⟨kind,path,other,hn,frm,n,da,dn,dc⟩ : Op20) u)
       dsimp only [Op20.val,Op20.cells] at HMK
       rw [hm] at HMK
       go_enter Tryz.func6,Tryz.ntmps6
       go_wp2_with fail
       rw [HW0.out]
       go_wp2_with fail
       refine (HGR.out _).mono ?_
       rintro e w1 ⟨rfl,hb1⟩
       have HB1 := hQ_ hb1
       clear hb1
       have RD := hQ_ (fun (q0 : World) (hb : Below w1.heap.size w1 q0) => HRD.out q0 (Own.keeps HB1.out hb))
       go_wp2_with fail
       refine wp_region_held_drew (S := fun q0 => Below W.heap.size W q0 ∧ Mx q0 ∧ q0.cell? ⟨w.heap.size,0,none⟩ = some (.int .u8 kind) ∧ q0.cell? ⟨w.heap.size,1,none⟩ = some (.string path) ∧ q0.cell? ⟨w.heap.size,2,none⟩ = some (.string other) ∧ q0.cell? ⟨w.heap.size,3,none⟩ = some (.int .i64 hn) ∧ q0.cell? ⟨w.heap.size,4,none⟩ = some (.int .i64 frm) ∧ q0.cell? ⟨w.heap.size,5,none⟩ = some (.int .i64 n) ∧ q0.cell? ⟨w.heap.size,6,none⟩ = some (.slice da dn dc)) (by kernel_rfl) (RD.out _ (Below.refl _ _).drew) (fun hHeld => ?_)
       refine ho_step 0 (some 7) rfl rfl (by kernel_rfl) (by kernel_rfl) (fun K hK => ?_)
       go_simp
       go_at_call 16
       refine (HFX.out _ hHeld.2.1).mono ?_
       rintro e w9 ⟨rfl,hb9⟩
       try go_wp2_with fail
       refine hK.out _ _ (HRD.out _ (Own.keeps hHeld.1 hb9)) (fun hHeld2 => ?_)
       clear hHeld
       have hHeld := hHeld2
       clear hHeld2
       clear hK K
       try simp only [pZ_]
       refine hw_ 1 (some 8) ?_
       refine hw_ 2 (some 9) ?_
       refine hw_ 4 (some 11) ?_
       refine hw_ 5 (some 12) ?_
       refine hw_ 6 (some 13) ?_
       refine ho_step 3 (some 10) rfl rfl (by kernel_rfl) (by kernel_rfl) (fun K hK => ?_)
       go_simp
       go_at_call 24
       refine (HMK.out _).mono ?_
       rintro e w9 ⟨rfl,hb9⟩
       try go_wp2_with fail
       refine hK.out _ _ (HRD.out _ (Own.keeps hHeld.1 hb9)) (fun hHeld2 => ?_)
       clear hHeld
       have hHeld := hHeld2
       clear hHeld2
       clear hK K
       try simp only [pZ_]
       refine hw_ 7 (some 14) ?_
       refine hw_ 8 (some 15) ?_
       refine hw_ 9 (some 16) ?_
       refine hw_ 10 (some 17) ?_
       refine hw_ 11 (some 18) ?_
       refine hw_ 12 (some 19) ?_
       refine hw_ 13 (some 20) ?_
       refine hw_ 14 (some 21) ?_
       refine hw_ 15 (some 22) ?_
       refine hw_ 16 (some 23) ?_
       refine ho_step 17 (some 24) rfl rfl (by kernel_rfl) (by kernel_rfl) (fun K hK => ?_)
       go_simp
       go_at_call 15
       refine (HDO.out _).mono ?_
       rintro e w9 ⟨rfl,hb9⟩
       try go_wp2_with fail
       refine hK.out _ _ (HRD.out _ (Own.keeps hHeld.1 hb9)) (fun hHeld2 => ?_)
       clear hHeld
       have hHeld := hHeld2
       clear hHeld2
       clear hK K
       try simp only [pZ_]
       refine hw_ 18 (some 25) ?_
       refine hw_ 19 (some 26) ?_
       refine hw_ 20 (some 27) ?_
       refine hw_ 21 (some 28) ?_
       refine hw_ 22 (some 29) ?_
       refine ho_step 23 (some 30) rfl rfl (by kernel_rfl) (by kernel_rfl) (fun K hK => ?_)
       go_simp
       go_at_call 22
       refine (view_nil _).mono ?_
       rintro e w9 ⟨rfl,rfl⟩
       try go_wp2_with fail
       refine hK.out _ _ (hHeld) (fun hHeld2 => ?_)
       clear hHeld
       have hHeld := hHeld2
       clear hHeld2
       clear hK K
       try simp only [pZ_]
       refine hw_ 24 (some 31) ?_
       refine hw_ 25 (some 32) ?_
       refine hw_ 26 (some 33) ?_
       refine hw_ 27 (some 34) ?_
       refine ho_step 28 (some 35) rfl rfl (by kernel_rfl) (by kernel_rfl) (fun K hK => ?_)
       go_simp
       go_at_call 19
       refine (open_nil _).mono ?_
       rintro e w9 ⟨rfl,rfl⟩
       try go_wp2_with fail
       refine hK.out _ _ (hHeld) (fun hHeld2 => ?_)
       clear hHeld
       have hHeld := hHeld2
       clear hHeld2
       clear hK K
       try simp only [pZ_]
       refine hw_ 29 (some 36) ?_
       refine hw_ 30 (some 37) ?_
       refine hw_ 31 (some 38) ?_
       refine hw_ 32 (some 2) ?_
       refine wpAnyH_done (by kernel_rfl) ?_ _
       have HB9 := hQ_ (Own.keeps HBW.out hHeld.1)
       clear hHeld
       go_wp2_with fail
       go_ret
       exact ⟨rfl,HB9.out⟩
     | false =>
       have hm : makes kind = false := by unfold makes; rw [h4,h5]; rfl
       have HMK := hQ_ (fun (u : World) => makes_calls (⟨kind,path,other,hn,frm,n,da,dn,dc⟩ : Op20) u)
       dsimp only [Op20.val,Op20.cells] at HMK
       rw [hm] at HMK
       go_enter Tryz.func6,Tryz.ntmps6
       go_wp2_with fail
       rw [HW0.out]
       go_wp2_with fail
       refine (HGR.out _).mono ?_
       rintro e w1 ⟨rfl,hb1⟩
       have HB1 := hQ_ hb1
       clear hb1
       have RD := hQ_ (fun (q0 : World) (hb : Below w1.heap.size w1 q0) => HRD.out q0 (Own.keeps HB1.out hb))
       go_wp2_with fail
       refine wp_region_held_drew (S := fun q0 => Below W.heap.size W q0 ∧ Mx q0 ∧ q0.cell? ⟨w.heap.size,0,none⟩ = some (.int .u8 kind) ∧ q0.cell? ⟨w.heap.size,1,none⟩ = some (.string path) ∧ q0.cell? ⟨w.heap.size,2,none⟩ = some (.string other) ∧ q0.cell? ⟨w.heap.size,3,none⟩ = some (.int .i64 hn) ∧ q0.cell? ⟨w.heap.size,4,none⟩ = some (.int .i64 frm) ∧ q0.cell? ⟨w.heap.size,5,none⟩ = some (.int .i64 n) ∧ q0.cell? ⟨w.heap.size,6,none⟩ = some (.slice da dn dc)) (by kernel_rfl) (RD.out _ (Below.refl _ _).drew) (fun hHeld => ?_)
       refine ho_step 0 (some 7) rfl rfl (by kernel_rfl) (by kernel_rfl) (fun K hK => ?_)
       go_simp
       go_at_call 16
       refine (HFX.out _ hHeld.2.1).mono ?_
       rintro e w9 ⟨rfl,hb9⟩
       try go_wp2_with fail
       refine hK.out _ _ (HRD.out _ (Own.keeps hHeld.1 hb9)) (fun hHeld2 => ?_)
       clear hHeld
       have hHeld := hHeld2
       clear hHeld2
       clear hK K
       try simp only [pZ_]
       refine hw_ 1 (some 8) ?_
       refine hw_ 2 (some 9) ?_
       refine hw_ 4 (some 11) ?_
       refine hw_ 5 (some 12) ?_
       refine hw_ 6 (some 13) ?_
       refine ho_step 3 (some 10) rfl rfl (by kernel_rfl) (by kernel_rfl) (fun K hK => ?_)
       go_simp
       go_at_call 24
       refine (HMK.out _).mono ?_
       rintro e w9 ⟨rfl,hb9⟩
       try go_wp2_with fail
       refine hK.out _ _ (HRD.out _ (Own.keeps hHeld.1 hb9)) (fun hHeld2 => ?_)
       clear hHeld
       have hHeld := hHeld2
       clear hHeld2
       clear hK K
       try simp only [pZ_]
       refine hw_ 7 (some 14) ?_
       refine hw_ 8 (some 15) ?_
       refine hw_ 9 (some 16) ?_
       refine hw_ 10 (some 17) ?_
       refine hw_ 11 (some 18) ?_
       refine hw_ 12 (some 19) ?_
       refine hw_ 13 (some 20) ?_
       refine hw_ 14 (some 21) ?_
       refine hw_ 15 (some 22) ?_
       refine hw_ 16 (some 23) ?_
       refine ho_step 17 (some 24) rfl rfl (by kernel_rfl) (by kernel_rfl) (fun K hK => ?_)
       go_simp
       go_at_call 15
       refine (HDO.out _).mono ?_
       rintro e w9 ⟨rfl,hb9⟩
       try go_wp2_with fail
       refine hK.out _ _ (HRD.out _ (Own.keeps hHeld.1 hb9)) (fun hHeld2 => ?_)
       clear hHeld
       have hHeld := hHeld2
       clear hHeld2
       clear hK K
       try simp only [pZ_]
       refine hw_ 18 (some 25) ?_
       refine hw_ 19 (some 26) ?_
       refine hw_ 20 (some 27) ?_
       refine hw_ 21 (some 28) ?_
       refine hw_ 22 (some 29) ?_
       refine ho_step 23 (some 30) rfl rfl (by kernel_rfl) (by kernel_rfl) (fun K hK => ?_)
       go_simp
       go_at_call 22
       refine (view_nil _).mono ?_
       rintro e w9 ⟨rfl,rfl⟩
       try go_wp2_with fail
       refine hK.out _ _ (hHeld) (fun hHeld2 => ?_)
       clear hHeld
       have hHeld := hHeld2
       clear hHeld2
       clear hK K
       try simp only [pZ_]
       refine hw_ 24 (some 31) ?_
       refine hw_ 25 (some 32) ?_
       refine hw_ 26 (some 33) ?_
       refine hw_ 27 (some 34) ?_
       refine ho_step 28 (some 35) rfl rfl (by kernel_rfl) (by kernel_rfl) (fun K hK => ?_)
       go_simp
       go_at_call 19
       refine (open_nil _).mono ?_
       rintro e w9 ⟨rfl,rfl⟩
       try go_wp2_with fail
       refine hK.out _ _ (hHeld) (fun hHeld2 => ?_)
       clear hHeld
       have hHeld := hHeld2
       clear hHeld2
       clear hK K
       try simp only [pZ_]
       refine hw_ 29 (some 36) ?_
       refine hw_ 30 (some 37) ?_
       refine hw_ 31 (some 38) ?_
       refine hw_ 32 (some 2) ?_
       refine wpAnyH_done (by kernel_rfl) ?_ _
       have HB9 := hQ_ (Own.keeps HBW.out hHeld.1)
       clear hHeld
       go_wp2_with fail
       go_ret
       exact ⟨rfl,HB9.out⟩
end Go.Proofs.YtobbofdnhbgioaaGreatDoor.OpsL