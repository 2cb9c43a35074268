import Derived.Test.YtlblfpacnegmlaaSq
import Derived.Test.YtlblfpacnegmlaaClashHb
set_option maxHeartbeats 16000000
set_option linter.unusedVariables false
set_option linter.unusedSimpArgs false
set_option maxRecDepth 100000
namespace Go.Proofs.Ytlblfpacnegmlaa.ClashHc
open Go.RowKit
open Byte KeysM TreeM ViewM ClashM ClashKm Lst Chg Ho TreeR TreeL ViewR ViewL Nest ClashL ClashC ClashQ ClashKb ClashKd ClashH ClashHa ClashHb
open Tx (txE)
open Own
theorem sl_none {w : World} {X : Option Addr} {n c : Nat} {hs : List Hd} (h : hs.length = n) (hc : n ≤ c) : Sl hdE w X (n - c) (hs.drop c) := by
 rw [show n - c = 0 by omega,List.drop_of_length_le (by omega)]
 exact Sl.nil_ _ _ _
variable {VRep : World → Value → Vs → (Nat → Prop) → (Nat → Prop) → Prop}
theorem hclash (hV : Stays VRep) (hR : ReadsOk VRep) (hG : RangesOk VRep) : HClashOk HR VRep := by
 intro w h l gn T v s S D N hrep hl hN hv hlim hsz
 obtain ⟨b,v0,n,hs,rfl,hc,_,_⟩ := hrep
 obtain ⟨A,c,rfl,hnc,hcm,hnil⟩ := hc.form
 obtain ⟨g,rfl⟩ : ∃ g,gn = g := ⟨_,rfl⟩
 obtain ⟨kn,hK⟩ : ∃ kn,forgetM gn l.length N - gn = kn := ⟨_,rfl⟩
 have hlen := hc.len
 have hKn : kn ≤ n := by rw [← hK]; unfold forgetM; omega
 have hn : n ≤ 301 := by omega
 unfold maxLen at hcm
 have B2 : Hid ((decide (gn ≤ N) || decide (l.length ≤ N)) = decide (gn ≤ N)) := hQ_ (by
  by_cases h1 : gn ≤ N
  ·rw [decide_eq_true h1]; rfl
  ·rw [decide_eq_false h1,decide_eq_false (by omega)]; rfl)
 have HC0 := hQ_ hc
 have HSZ := hQ_ hsz
 have HK := hQ_ hK
 have HLL := hQ_ hl
 have HRD := hQ_ (hR hv hlim)
 have HRG := hQ_ (fun (u : World) (hb : Below w.heap.size w u) => hG (hV.below hv hb) hlim)
 have hrn : s.rd.length ≤ 20000 := hlim.rd
 have hgn : s.rg.length ≤ 1000 := hlim.rg
 have ways : (A = none ∧ c = 0 ∧ n = 0 ∧ kn = 0) ∨ ∃ gb,A = some ⟨gb,0,none⟩ ∧ (c = kn ∨ kn < c) := by
  cases A with
  | none => have := hnil rfl; exact .inl ⟨rfl,by omega,by omega,by omega⟩
  | some a =>
    rcases hc.row.form with ⟨h1,_⟩ | ⟨gb,cap,h1,_⟩
    ·cases h1
    ·injection h1 with h1 _ _
     exact .inr ⟨gb,h1,by omega⟩
 clear hc hv hlim hsz hV hR hG hK hnil
 rcases ways with ⟨rfl,rfl,rfl,rfl⟩ | ⟨gb,rfl,rfl | hlt⟩
 ·go_enter Try.func14,Try.ntmps14
  go_wp2_with fail
  refine HRD.out.mono ?_
  rintro e w2 ⟨r,rfl,hsl2,hb2⟩
  have HB2 := hQ_ hb2
  have HS2 := hQ_ (reads_tx hsl2)
  have HRG2 := hQ_ (HRG.out w2 hb2)
  obtain ⟨ra,rn,rc⟩ := r
  have hrn2 : rn ≤ 20000 := by have := HS2.out.1; rw [List.length_map] at this; dsimp only at this; omega
  dsimp only at HS2
  clear hsl2 hb2
  go_wp2_with fail
  refine HRG2.out.mono ?_
  rintro e w3 ⟨r3,rfl,hsl3,hb3⟩
  obtain ⟨qa,qn,qc⟩ := r3
  dsimp only at hsl3
  have hqn : qn ≤ 1000 := by have := hsl3.1; omega
  have HB3 := hQ_ (Own.keeps HB2.out hb3)
  have HR3 := hQ_ (HS2.out.below hb3)
  have HG3 := hQ_ hsl3
  clear hsl3 hb3
  obtain ⟨W,hW⟩ : ∃ W,(w3.alloc (.cells #[.slice ra rn rc] 22)).alloc (.cells #[.slice qa qn qc] 23) = W := ⟨_,rfl⟩
  have hb4 : Below w3.heap.size w3 W := by rw [← hW]; exact (bW_).alloc (by simp) _
  have HB4 := hQ_ (Own.keeps HB3.out hb4)
  have HCW := hQ_ (HC0.out.below HB4.out)
  have p1 : W.cell? ⟨w3.heap.size,0,none⟩ = some (.slice ra rn rc) := by rw [← hW]; exact ((Blk.new_ w3 #[.slice ra rn rc] 22).alloc _).cell 0
  have p2 : W.cell? ⟨w3.heap.size + 1,0,none⟩ = some (.slice qa qn qc) := by
   have := (Blk.new_ (w3.alloc (.cells #[.slice ra rn rc] 22)) #[.slice qa qn qc] 23).cell 0
   rw [hW] at this
   simpa using this
  have hsW : W.heap.size = w3.heap.size + 2 := by rw [← hW]; simp
  have HHS := hQ_ (fun (u : World) (hb : Below W.heap.size W u) => has_all 0 N 0 w3.heap.size (w3.heap.size + 1) (by omega) ra qa none rn rc qn qc 0 (keysOf s) s.rg (HCW.out.below hb) HK.out HLL.out ((hb.cell (p := ⟨w3.heap.size,0,none⟩) (by rw [hsW]; show w3.heap.size < _; omega)).trans p1) ((hb.cell (p := ⟨w3.heap.size + 1,0,none⟩) (by rw [hsW]; show w3.heap.size + 1 < _; omega)).trans p2) (by have := hb.size; omega) (by have := hb.size; omega) ((HR3.out.below hb4).below hb) ((HG3.out.below hb4).below hb) (by omega) (by omega) HSZ.out (sl_none HC0.out.row.1 (Nat.le_refl 0)))
  have HKT := hQ_ (fun (u : World) (hb : Below W.heap.size W u) => kept_calls N (HCW.out.below hb) HLL.out hN)
  rw [HK.out] at HKT
  have RD : Hid (∀ q0,Below W.heap.size W q0 → Below W.heap.size W q0 ∧ q0.cell? ⟨b,0,none⟩ = some (.slice none 0 0) ∧ q0.cell? ⟨b,1,none⟩ = some (.int .u64 (gn : Int))) := hQ_ (fun q0 hb => ⟨hb,(HCW.out.below hb).blk.cell 0,(HCW.out.below hb).blk.cell 1⟩)
  have HWW := hQ_ hW
  clear hW hb4 p1 p2 hsW
  go_wp2_with fail
  rw [HWW.out]
  go_wp2_with fail
  refine wp_region_held_drew (S := fun q0 => Below W.heap.size W q0 ∧ q0.cell? ⟨b,0,none⟩ = some (.slice none 0 0) ∧ q0.cell? ⟨b,1,none⟩ = some (.int .u64 (gn : Int))) (by kernel_rfl) (RD.out _ (Below.refl _ _).drew) (fun hHeld => ?_)
  refine hw_ 0 (some 18) ?_
  refine hw_ 1 (some 19) ?_
  refine hw_ 2 (some 20) ?_
  refine hw_ 3 (some 21) ?_
  refine hw_ 4 (some 22) ?_
  refine hw_ 5 (some 23) ?_
  refine hw_ 8 (some 26) ?_
  refine hw_ 10 (some 28) ?_
  refine hw_ 11 (some 29) ?_
  refine hw_ 12 (some 30) ?_
  refine hw_ 13 (some 31) ?_
  refine hw_ 14 (some 32) ?_
  refine hw_ 15 (some 33) ?_
  refine ho_step 6 (some 24) rfl rfl (by kernel_rfl) (by kernel_rfl) (fun K hK => ?_)
  go_simp
  go_at_call 26
  refine (HKT.out _ hHeld.1).mono ?_
  rintro e w8 ⟨rfl,hb8⟩
  try go_wp2_with fail
  refine hK.out _ _ (RD.out _ (Own.keeps hHeld.1 hb8)) (fun hHeld2 => ?_)
  clear hHeld
  have hHeld := hHeld2
  clear hHeld2
  clear hK K
  try simp only [pZ_]
  refine hw_ 7 (some 25) ?_
  refine ho_step 9 (some 27) rfl rfl (by kernel_rfl) (by kernel_rfl) (fun K hK => ?_)
  go_simp
  go_at_call 29
  refine (HHS.out _ hHeld.1).mono ?_
  rintro e w9 ⟨rfl,hb9⟩
  try go_wp2_with fail
  refine hK.out _ _ (RD.out _ (Own.keeps hHeld.1 hb9)) (fun hHeld2 => ?_)
  clear hHeld
  have hHeld := hHeld2
  clear hHeld2
  clear hK K
  try simp only [pZ_]
  refine hw_ 16 (some 6) ?_
  refine hw_ 17 (some 7) ?_
  refine wpAnyH_done (by kernel_rfl) ?_ _
  have HB9 := hQ_ (Own.keeps HB4.out hHeld.1)
  clear hHeld
  go_wp2_with fail
  go_ret2
  exact ⟨by rw [B2.out]; rfl,HB9.out⟩
 ·go_enter Try.func14,Try.ntmps14
  go_wp2_with fail
  refine HRD.out.mono ?_
  rintro e w2 ⟨r,rfl,hsl2,hb2⟩
  have HB2 := hQ_ hb2
  have HS2 := hQ_ (reads_tx hsl2)
  have HRG2 := hQ_ (HRG.out w2 hb2)
  obtain ⟨ra,rn,rc⟩ := r
  have hrn2 : rn ≤ 20000 := by have := HS2.out.1; rw [List.length_map] at this; dsimp only at this; omega
  dsimp only at HS2
  clear hsl2 hb2
  go_wp2_with fail
  refine HRG2.out.mono ?_
  rintro e w3 ⟨r3,rfl,hsl3,hb3⟩
  obtain ⟨qa,qn,qc⟩ := r3
  dsimp only at hsl3
  have hqn : qn ≤ 1000 := by have := hsl3.1; omega
  have HB3 := hQ_ (Own.keeps HB2.out hb3)
  have HR3 := hQ_ (HS2.out.below hb3)
  have HG3 := hQ_ hsl3
  clear hsl3 hb3
  obtain ⟨W,hW⟩ : ∃ W,(w3.alloc (.cells #[.slice ra rn rc] 22)).alloc (.cells #[.slice qa qn qc] 23) = W := ⟨_,rfl⟩
  have hb4 : Below w3.heap.size w3 W := by rw [← hW]; exact (bW_).alloc (by simp) _
  have HB4 := hQ_ (Own.keeps HB3.out hb4)
  have HCW := hQ_ (HC0.out.below HB4.out)
  have p1 : W.cell? ⟨w3.heap.size,0,none⟩ = some (.slice ra rn rc) := by rw [← hW]; exact ((Blk.new_ w3 #[.slice ra rn rc] 22).alloc _).cell 0
  have p2 : W.cell? ⟨w3.heap.size + 1,0,none⟩ = some (.slice qa qn qc) := by
   have := (Blk.new_ (w3.alloc (.cells #[.slice ra rn rc] 22)) #[.slice qa qn qc] 23).cell 0
   rw [hW] at this
   simpa using this
  have hsW : W.heap.size = w3.heap.size + 2 := by rw [← hW]; simp
  have HHS := hQ_ (fun (u : World) (hb : Below W.heap.size W u) => has_all 0 N c w3.heap.size (w3.heap.size + 1) (by omega) ra qa (some ⟨gb,0,none⟩) rn rc qn qc 0 (keysOf s) s.rg (HCW.out.below hb) HK.out HLL.out ((hb.cell (p := ⟨w3.heap.size,0,none⟩) (by rw [hsW]; show w3.heap.size < _; omega)).trans p1) ((hb.cell (p := ⟨w3.heap.size + 1,0,none⟩) (by rw [hsW]; show w3.heap.size + 1 < _; omega)).trans p2) (by have := hb.size; omega) (by have := hb.size; omega) ((HR3.out.below hb4).below hb) ((HG3.out.below hb4).below hb) (by omega) (by omega) HSZ.out (by have h0 := sl_none (w := u) (X := some ⟨gb,0,none⟩) HC0.out.row.1 hnc; rw [show n - c = 0 by omega] at h0; exact h0))
  have HKT := hQ_ (fun (u : World) (hb : Below W.heap.size W u) => kept_calls N (HCW.out.below hb) HLL.out hN)
  rw [HK.out] at HKT
  have RD : Hid (∀ q0,Below W.heap.size W q0 → Below W.heap.size W q0 ∧ q0.cell? ⟨b,0,none⟩ = some (.slice (some ⟨gb,0,none⟩) n c) ∧ q0.cell? ⟨b,1,none⟩ = some (.int .u64 (gn : Int))) := hQ_ (fun q0 hb => ⟨hb,(HCW.out.below hb).blk.cell 0,(HCW.out.below hb).blk.cell 1⟩)
  have HWW := hQ_ hW
  clear hW hb4 p1 p2 hsW
  go_wp2_with fail
  rw [HWW.out]
  go_wp2_with fail
  refine wp_region_held_drew (S := fun q0 => Below W.heap.size W q0 ∧ q0.cell? ⟨b,0,none⟩ = some (.slice (some ⟨gb,0,none⟩) n c) ∧ q0.cell? ⟨b,1,none⟩ = some (.int .u64 (gn : Int))) (by kernel_rfl) (RD.out _ (Below.refl _ _).drew) (fun hHeld => ?_)
  refine hw_ 0 (some 18) ?_
  refine hw_ 1 (some 19) ?_
  refine hw_ 2 (some 20) ?_
  refine hw_ 3 (some 21) ?_
  refine hw_ 4 (some 22) ?_
  refine hw_ 5 (some 23) ?_
  refine hw_ 8 (some 26) ?_
  refine hw_ 10 (some 28) ?_
  refine hw_ 11 (some 29) ?_
  refine hw_ 12 (some 30) ?_
  refine hw_ 13 (some 31) ?_
  refine hw_ 14 (some 32) ?_
  refine hw_ 15 (some 33) ?_
  refine ho_step 6 (some 24) rfl rfl (by kernel_rfl) (by kernel_rfl) (fun K hK => ?_)
  go_simp
  go_at_call 26
  refine (HKT.out _ hHeld.1).mono ?_
  rintro e w8 ⟨rfl,hb8⟩
  try go_wp2_with fail
  refine hK.out _ _ (RD.out _ (Own.keeps hHeld.1 hb8)) (fun hHeld2 => ?_)
  clear hHeld
  have hHeld := hHeld2
  clear hHeld2
  clear hK K
  try simp only [pZ_]
  refine hw_ 7 (some 25) ?_
  refine ho_step 9 (some 27) rfl rfl (by kernel_rfl) (by kernel_rfl) (fun K hK => ?_)
  go_simp
  go_at_call 29
  refine (HHS.out _ hHeld.1).mono ?_
  rintro e w9 ⟨rfl,hb9⟩
  try go_wp2_with fail
  refine hK.out _ _ (RD.out _ (Own.keeps hHeld.1 hb9)) (fun hHeld2 => ?_)
  clear hHeld
  have hHeld := hHeld2
  clear hHeld2
  clear hK K
  try simp only [pZ_]
  refine hw_ 16 (some 6) ?_
  refine hw_ 17 (some 7) ?_
  refine wpAnyH_done (by kernel_rfl) ?_ _
  have HB9 := hQ_ (Own.keeps HB4.out hHeld.1)
  clear hHeld
  go_wp2_with fail
  go_ret2
  exact ⟨by rw [B2.out]; rfl,HB9.out⟩
 ·go_enter Try.func14,Try.ntmps14
  go_wp2_with fail
  refine HRD.out.mono ?_
  rintro e w2 ⟨r,rfl,hsl2,hb2⟩
  have HB2 := hQ_ hb2
  have HS2 := hQ_ (reads_tx hsl2)
  have HRG2 := hQ_ (HRG.out w2 hb2)
  obtain ⟨ra,rn,rc⟩ := r
  have hrn2 : rn ≤ 20000 := by have := HS2.out.1; rw [List.length_map] at this; dsimp only at this; omega
  dsimp only at HS2
  clear hsl2 hb2
  go_wp2_with fail
  refine HRG2.out.mono ?_
  rintro e w3 ⟨r3,rfl,hsl3,hb3⟩
  obtain ⟨qa,qn,qc⟩ := r3
  dsimp only at hsl3
  have hqn : qn ≤ 1000 := by have := hsl3.1; omega
  have HB3 := hQ_ (Own.keeps HB2.out hb3)
  have HR3 := hQ_ (HS2.out.below hb3)
  have HG3 := hQ_ hsl3
  clear hsl3 hb3
  obtain ⟨W,hW⟩ : ∃ W,(w3.alloc (.cells #[.slice ra rn rc] 22)).alloc (.cells #[.slice qa qn qc] 23) = W := ⟨_,rfl⟩
  have hb4 : Below w3.heap.size w3 W := by rw [← hW]; exact (bW_).alloc (by simp) _
  have HB4 := hQ_ (Own.keeps HB3.out hb4)
  have HCW := hQ_ (HC0.out.below HB4.out)
  have p1 : W.cell? ⟨w3.heap.size,0,none⟩ = some (.slice ra rn rc) := by rw [← hW]; exact ((Blk.new_ w3 #[.slice ra rn rc] 22).alloc _).cell 0
  have p2 : W.cell? ⟨w3.heap.size + 1,0,none⟩ = some (.slice qa qn qc) := by
   have := (Blk.new_ (w3.alloc (.cells #[.slice ra rn rc] 22)) #[.slice qa qn qc] 23).cell 0
   rw [hW] at this
   simpa using this
  have hsW : W.heap.size = w3.heap.size + 2 := by rw [← hW]; simp
  have HHS := hQ_ (fun (u : World) (hb : Below W.heap.size W u) => has_all (n - kn) N kn w3.heap.size (w3.heap.size + 1) (by omega) ra qa (some ⟨gb,kn,none⟩) rn rc qn qc (c - kn) (keysOf s) s.rg (HCW.out.below hb) HK.out HLL.out ((hb.cell (p := ⟨w3.heap.size,0,none⟩) (by rw [hsW]; show w3.heap.size < _; omega)).trans p1) ((hb.cell (p := ⟨w3.heap.size + 1,0,none⟩) (by rw [hsW]; show w3.heap.size + 1 < _; omega)).trans p2) (by have := hb.size; omega) (by have := hb.size; omega) ((HR3.out.below hb4).below hb) ((HG3.out.below hb4).below hb) (by omega) (by omega) HSZ.out (by have h0 := (HCW.out.below hb).row.sl.drop kn; rw [show 0 + kn * hdE.size = kn by show 0 + kn * 1 = kn; omega] at h0; exact h0))
  have HKT := hQ_ (fun (u : World) (hb : Below W.heap.size W u) => kept_calls N (HCW.out.below hb) HLL.out hN)
  rw [HK.out] at HKT
  have RD : Hid (∀ q0,Below W.heap.size W q0 → Below W.heap.size W q0 ∧ q0.cell? ⟨b,0,none⟩ = some (.slice (some ⟨gb,0,none⟩) n c) ∧ q0.cell? ⟨b,1,none⟩ = some (.int .u64 (gn : Int))) := hQ_ (fun q0 hb => ⟨hb,(HCW.out.below hb).blk.cell 0,(HCW.out.below hb).blk.cell 1⟩)
  have HWW := hQ_ hW
  clear hW hb4 p1 p2 hsW
  have hck : ¬ c = kn := by omega
  go_wp2_with fail
  rw [HWW.out]
  go_wp2_with fail
  refine wp_region_held_drew (S := fun q0 => Below W.heap.size W q0 ∧ q0.cell? ⟨b,0,none⟩ = some (.slice (some ⟨gb,0,none⟩) n c) ∧ q0.cell? ⟨b,1,none⟩ = some (.int .u64 (gn : Int))) (by kernel_rfl) (RD.out _ (Below.refl _ _).drew) (fun hHeld => ?_)
  refine hw_ 0 (some 18) ?_
  refine hw_ 1 (some 19) ?_
  refine hw_ 2 (some 20) ?_
  refine hw_ 3 (some 21) ?_
  refine hw_ 4 (some 22) ?_
  refine hw_ 5 (some 23) ?_
  refine hw_ 8 (some 26) ?_
  refine hw_ 10 (some 28) ?_
  refine hw_ 11 (some 29) ?_
  refine hw_ 12 (some 30) ?_
  refine hw_ 13 (some 31) ?_
  refine hw_ 14 (some 32) ?_
  refine hw_ 15 (some 33) ?_
  refine ho_step 6 (some 24) rfl rfl (by kernel_rfl) (by kernel_rfl) (fun K hK => ?_)
  go_simp
  go_at_call 26
  refine (HKT.out _ hHeld.1).mono ?_
  rintro e w8 ⟨rfl,hb8⟩
  try go_wp2_with fail
  refine hK.out _ _ (RD.out _ (Own.keeps hHeld.1 hb8)) (fun hHeld2 => ?_)
  clear hHeld
  have hHeld := hHeld2
  clear hHeld2
  clear hK K
  try simp only [pZ_]
  refine hw_ 7 (some 25) ?_
  refine ho_step 9 (some 27) rfl rfl (by kernel_rfl) (by kernel_rfl) (fun K hK => ?_)
  go_simp
  go_at_call 29
  refine (HHS.out _ hHeld.1).mono ?_
  rintro e w9 ⟨rfl,hb9⟩
  try go_wp2_with fail
  refine hK.out _ _ (RD.out _ (Own.keeps hHeld.1 hb9)) (fun hHeld2 => ?_)
  clear hHeld
  have hHeld := hHeld2
  clear hHeld2
  clear hK K
  try simp only [pZ_]
  refine hw_ 16 (some 6) ?_
  refine hw_ 17 (some 7) ?_
  refine wpAnyH_done (by kernel_rfl) ?_ _
  have HB9 := hQ_ (Own.keeps HB4.out hHeld.1)
  clear hHeld
  go_wp2_with fail
  go_ret2
  exact ⟨by rw [B2.out]; rfl,HB9.out⟩
end Go.Proofs.Ytlblfpacnegmlaa.ClashHc