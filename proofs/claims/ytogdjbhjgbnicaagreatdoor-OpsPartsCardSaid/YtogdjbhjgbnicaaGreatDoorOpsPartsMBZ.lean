import Derived.Test.YtogdjbhjgbnicaaGreatDoorSq
import Derived.Test.YtogdjbhjgbnicaaGreatDoorOpsPartsMAG
import Derived.Test.YtogdjbhjgbnicaaGreatDoorHor
import Derived.Test.YtogdjbhjgbnicaaGreatDoorOpsPartsMBW
import Derived.Test.YtogdjbhjgbnicaaGreatDoorOpsPartsMBY
import Derived.Deep.DeepCutAuto
import Derived.Deep.CutBlock
import Derived.Test.YtogdjbhjgbnicaaGreatDoorOpsPartsMBV
import Derived.Test.YtogdjbhjgbnicaaGreatDoorNest
import Derived.Test.YtogdjbhjgbnicaaGreatDoorTx
import Derived.Test.YtogdjbhjgbnicaaGreatDoorOpsPartsMBT
import Derived.Test.YtogdjbhjgbnicaaGreatDoorHo
import Derived.Lib.SlBytesConst
import Derived.LaidEqlPtr
import Derived.Test.YtogdjbhjgbnicaaGreatDoorOpsPartsMBX
import Derived.Handed
import Derived.SizedLaws
import Derived.ChangeShapes
import Derived.WideShapes
import Derived.OpenShut
import Derived.Below
set_option maxHeartbeats 16000000
set_option linter.unusedVariables false
set_option linter.unusedSimpArgs false
set_option maxRecDepth 100000
namespace Go.Proofs.YtogdjbhjgbnicaaGreatDoor.OpsU
open Go.RowKit
open Byte KeysM TreeM ViewM ViewKm NodeM NodeG NamesM NamesL WalkM WalkF WalkKm DirsV Lst Chg TreeL ViewL WalkL WalkV Vat DirsK DirsKa DirsKc Ho OpsR OpsD OpsE OpsI OpsJ RgN DirsBm
open Own hiding lower
variable {Rep : RepT}
theorem unlink_deed (hW0 : Wk Rep) {w : World} {g : Nat} {v : Value} {hs : List Int} {s : Vs} {S D : Nat → Prop} (o : Op20) (ino : Int) (hd : Dsk w g v hs) (hr : Rep w v s S D) (hng : ¬ D g) (hl : Lim s) (h2 : s.rd.length ≤ 18000) (h3 : s.rg.length ≤ 900) (hx : Mxs w S) (hp : o.path.size ≤ 100000) (hk : ∀ p ∈ s.shown,(sp p.key).letter ≠ 0) (hRn : RangeN Rep) :
 Calls Tryz.prog 54 #[.pointer (some ⟨g,0,none⟩),o.val,.int .u32 ino] w (AnsO Rep v s (ulkB s.shown o.path).1 (ulkB s.shown o.path).2 41 1 S D w) := by
 obtain ⟨kind,path,other,hn,frm,n,da,dn,dc⟩ := o
 dsimp only [Op20.val,Op20.cells] at *
 have hlt := hW0.stays.lt hr
 have hsub := hW0.stays.sub hr
 obtain ⟨W,hW⟩ : ∃ W,(w.alloc (.cells #[.int .u8 kind,.string path,.string other,.int .i64 hn,.int .i64 frm,.int .i64 n,.slice da dn dc] 41)).alloc (.cells zres 48) = W := ⟨_,rfl⟩
 have hs1 : (w.alloc (.cells #[.int .u8 kind,.string path,.string other,.int .i64 hn,.int .i64 frm,.int .i64 n,.slice da dn dc] 41)).heap.size = w.heap.size + 1 := by simp
 have HB : Hid (Blk W (w.heap.size + 1) zres 48) := hQ_ (by rw [← hW,← hs1]; exact Blk.new_ _ zres _)
 have hO : Blk W w.heap.size #[.int .u8 kind,.string path,.string other,.int .i64 hn,.int .i64 frm,.int .i64 n,.slice da dn dc] 41 := by rw [← hW]; exact (Blk.new_ _ _ _).alloc _
 have hbW : Below w.heap.size w W := by rw [← hW]; exact (bW_).alloc (by rw [hs1]; omega) _
 have hsW : W.heap.size = w.heap.size + 2 := by rw [← hW]; simp
 obtain ⟨er,her⟩ : ∃ er,(ulkB s.shown path).1 = er := ⟨_,rfl⟩
 obtain ⟨ps,hps⟩ : ∃ ps,(ulkB s.shown path).2 = ps := ⟨_,rfl⟩
 have hbd : Below w.heap.size w W.drew := hbW.drew
 have hc := DirsBf.ulk_calls hW0 hRn path (hW0.stays.below hr hbd) hl h2 h3 (hx.below hbd) hp hk
 rw [her,hps] at hc
 rw [her,hps]
 obtain ⟨J,hJ⟩ : ∃ J : Int,(if (goW s ps).2 = true then er else 21) = J := ⟨_,rfl⟩
 unfold Ans at hc
 simp only [hJ] at hc
 have HC := hQ_ hc
 have RD : Hid (∀ q0,Chg (fun k => S k ∨ k = w.heap.size + 1) W q0 → Chg (fun k => S k ∨ k = w.heap.size + 1) W q0 ∧ q0.cell? ⟨g,0,none⟩ = some v ∧ q0.cell? ⟨w.heap.size,1,none⟩ = some (.string path) ∧ q0.cell? ⟨w.heap.size,2,none⟩ = some (.string other)) := hQ_ (fun q0 hq => by
  obtain ⟨c1,c2⟩ := find_cells hd hng hlt hsub hbW hO hq
  exact ⟨hq,c1,c2 1,c2 2⟩)
 have HLT := hQ_ hlt
 have HSUB := hQ_ hsub
 have HW := hQ_ hW
 have HBD := hQ_ hbd
 have HJ := hQ_ hJ
 have HSW := hQ_ hsW
 have HVS := hQ_ hW0.stays
 clear hW hs1 hO hbW hsW her hps hbd hc hJ hlt hsub hd hr hng hl h2 h3 hx hW0 hp hk hRn
 go_enter Tryz.func54,Tryz.ntmps54
 go_wp2_with fail
 rw [HW.out]
 go_wp2_with fail
 refine wp_region_held_drew (S := fun q0 => Chg (fun k => S k ∨ k = w.heap.size + 1) W q0 ∧ q0.cell? ⟨g,0,none⟩ = some v ∧ q0.cell? ⟨w.heap.size,1,none⟩ = some (.string path) ∧ q0.cell? ⟨w.heap.size,2,none⟩ = some (.string other)) (by kernel_rfl) (RD.out _ (Chg.refl _ _).drew) (fun hHeld => ?_)
 refine hw_ 0 (some 7) ?_
 refine hw_ 1 (some 8) ?_
 refine hw_ 2 (some 9) ?_
 refine hw_ 3 (some 10) ?_
 refine hw_ 4 (some 11) ?_
 refine hw_ 5 (some 12) ?_
 refine ho_step 6 (some 13) rfl rfl (by kernel_rfl) (by kernel_rfl) (fun K hK => ?_)
 go_simp
 go_at_call 87
 refine HC.out.mono ?_
 rintro e w3 ⟨s',S',D',rfl,hr3,st3,aft3⟩
 have hq3 : Chg (fun k => S k ∨ k = w.heap.size + 1) W w3 := (Chg.refl _ _).drew.trans (st3.chg.mono (fun _ _ h => .inl h))
 have hb3 : Blk w3 (w.heap.size + 1) zres 48 := (st3.chg.block _ HB.out.lt (fun h => by have := HLT.out _ (HSUB.out _ h); omega)).trans HB.out
 try go_wp2_with fail
 refine hK.out _ _ (RD.out _ hq3) (fun hHeld2 => ?_)
 clear hHeld
 have hHeld := hHeld2
 clear hHeld2
 clear hK K
 try simp only [pZ_]
 refine ho_step 7 (some 14) rfl rfl (by kernel_rfl) (by kernel_rfl) (fun K hK => ?_)
 go_simp
 go_at_call 26
 refine (only_calls J _).mono ?_
 rintro e w4 ⟨rfl,hb4⟩
 have hq4 := hq3.trans (Chg.of_below hb4)
 try go_wp2_with fail
 refine hK.out _ _ (RD.out _ hq4) (fun hHeld2 => ?_)
 clear hHeld
 have hHeld := hHeld2
 clear hHeld2
 clear hK K
 try simp only [pZ_]
 refine Hor.ho_row 8 48 _ _ (w.heap.size + 1) #[.int .i64 J,.int .i64 0,.slice none 0 0,.slice none 0 0,.int .u8 0,.int .u32 0,.int .u32 0,.int .u32 0] 48 _ rfl rfl rfl (by kernel_rfl) (by kernel_rfl) rfl rfl (hb3.below hb4) info_res rfl (by simp [Value.oneCell']) (fun w5 hk5 hg5 => RD.out _ (hq4.trans (Chg.of_grown hg5 (fun k hk => .inl (.inr (by injection hk with hk; exact hk.symm)))))) (fun w5 hk5 hg5 => ?_)
 refine wpAnyH_done (by kernel_rfl) ?_ _
 have hz := fin_view HVS.out HLT.out HSUB.out HBD.out hr3 st3 hb4 (hb3.below hb4) hg5 (Nat.le_succ _) (by show w.heap.size + 1 < W.heap.size; rw [HSW.out]; omega)
 have HZ := hQ_ hz
 have HK5 := hQ_ hk5
 have HA3 := hQ_ aft3
 clear hz hr3 st3 hb4 hg5 hk5 aft3 hq3 hq4 hb3 RD
 go_wp2_with fail
 exact bodyPost_ret (v := onlyV J) (results_cell_row rfl _ _ (w.heap.size + 1) 48 _ (0,0) _ rfl HK5.out Tryz.underlying48 rfl info_res) rfl ⟨s',S',D',by rw [HJ.out],HZ.out.1,HZ.out.2,HA3.out⟩
theorem rename_deed (hW0 : Wk Rep) {w : World} {g : Nat} {v : Value} {hs : List Int} {s : Vs} {S D : Nat → Prop} (o : Op20) (ino : Int) (hd : Dsk w g v hs) (hr : Rep w v s S D) (hng : ¬ D g) (hl : Lim s) (h2 : s.rd.length ≤ 18000) (h3 : s.rg.length ≤ 900) (hx : Mxs w S) (hp : o.path.size ≤ 100000) (hp2 : o.other.size ≤ 100000) (hk : ∀ p ∈ s.shown,(sp p.key).letter ≠ 0) (hRn : RangeN Rep) :
 Calls Tryz.prog 52 #[.pointer (some ⟨g,0,none⟩),o.val,.int .u32 ino] w (AnsO Rep v s (renB s.shown o.path o.other).1 (renB s.shown o.path o.other).2 84 1 S D w) := by
 obtain ⟨kind,path,other,hn,frm,n,da,dn,dc⟩ := o
 dsimp only [Op20.val,Op20.cells] at *
 have hlt := hW0.stays.lt hr
 have hsub := hW0.stays.sub hr
 obtain ⟨W,hW⟩ : ∃ W,(w.alloc (.cells #[.int .u8 kind,.string path,.string other,.int .i64 hn,.int .i64 frm,.int .i64 n,.slice da dn dc] 41)).alloc (.cells zres 48) = W := ⟨_,rfl⟩
 have hs1 : (w.alloc (.cells #[.int .u8 kind,.string path,.string other,.int .i64 hn,.int .i64 frm,.int .i64 n,.slice da dn dc] 41)).heap.size = w.heap.size + 1 := by simp
 have HB : Hid (Blk W (w.heap.size + 1) zres 48) := hQ_ (by rw [← hW,← hs1]; exact Blk.new_ _ zres _)
 have hO : Blk W w.heap.size #[.int .u8 kind,.string path,.string other,.int .i64 hn,.int .i64 frm,.int .i64 n,.slice da dn dc] 41 := by rw [← hW]; exact (Blk.new_ _ _ _).alloc _
 have hbW : Below w.heap.size w W := by rw [← hW]; exact (bW_).alloc (by rw [hs1]; omega) _
 have hsW : W.heap.size = w.heap.size + 2 := by rw [← hW]; simp
 obtain ⟨er,her⟩ : ∃ er,(renB s.shown path other).1 = er := ⟨_,rfl⟩
 obtain ⟨ps,hps⟩ : ∃ ps,(renB s.shown path other).2 = ps := ⟨_,rfl⟩
 have hbd : Below w.heap.size w W.drew := hbW.drew
 have hc := DirsBh.ren_calls hW0 hRn path other (hW0.stays.below hr hbd) hl h2 h3 (hx.below hbd) hp hp2 hk
 rw [her,hps] at hc
 rw [her,hps]
 obtain ⟨J,hJ⟩ : ∃ J : Int,(if (goW s ps).2 = true then er else 21) = J := ⟨_,rfl⟩
 unfold Ans at hc
 simp only [hJ] at hc
 have HC := hQ_ hc
 have RD : Hid (∀ q0,Chg (fun k => S k ∨ k = w.heap.size + 1) W q0 → Chg (fun k => S k ∨ k = w.heap.size + 1) W q0 ∧ q0.cell? ⟨g,0,none⟩ = some v ∧ q0.cell? ⟨w.heap.size,1,none⟩ = some (.string path) ∧ q0.cell? ⟨w.heap.size,2,none⟩ = some (.string other)) := hQ_ (fun q0 hq => by
  obtain ⟨c1,c2⟩ := find_cells hd hng hlt hsub hbW hO hq
  exact ⟨hq,c1,c2 1,c2 2⟩)
 have HLT := hQ_ hlt
 have HSUB := hQ_ hsub
 have HW := hQ_ hW
 have HBD := hQ_ hbd
 have HJ := hQ_ hJ
 have HSW := hQ_ hsW
 have HVS := hQ_ hW0.stays
 clear hW hs1 hO hbW hsW her hps hbd hc hJ hlt hsub hd hr hng hl h2 h3 hx hW0 hp hp2 hk hRn
 go_enter Tryz.func52,Tryz.ntmps52
 go_wp2_with fail
 rw [HW.out]
 go_wp2_with fail
 refine wp_region_held_drew (S := fun q0 => Chg (fun k => S k ∨ k = w.heap.size + 1) W q0 ∧ q0.cell? ⟨g,0,none⟩ = some v ∧ q0.cell? ⟨w.heap.size,1,none⟩ = some (.string path) ∧ q0.cell? ⟨w.heap.size,2,none⟩ = some (.string other)) (by kernel_rfl) (RD.out _ (Chg.refl _ _).drew) (fun hHeld => ?_)
 refine hw_ 0 (some 7) ?_
 refine hw_ 1 (some 8) ?_
 refine hw_ 2 (some 9) ?_
 refine hw_ 3 (some 10) ?_
 refine hw_ 4 (some 11) ?_
 refine hw_ 5 (some 12) ?_
 refine hw_ 6 (some 13) ?_
 refine hw_ 7 (some 14) ?_
 refine ho_step 8 (some 15) rfl rfl (by kernel_rfl) (by kernel_rfl) (fun K hK => ?_)
 go_simp
 go_at_call 85
 refine HC.out.mono ?_
 rintro e w3 ⟨s',S',D',rfl,hr3,st3,aft3⟩
 have hq3 : Chg (fun k => S k ∨ k = w.heap.size + 1) W w3 := (Chg.refl _ _).drew.trans (st3.chg.mono (fun _ _ h => .inl h))
 have hb3 : Blk w3 (w.heap.size + 1) zres 48 := (st3.chg.block _ HB.out.lt (fun h => by have := HLT.out _ (HSUB.out _ h); omega)).trans HB.out
 try go_wp2_with fail
 refine hK.out _ _ (RD.out _ hq3) (fun hHeld2 => ?_)
 clear hHeld
 have hHeld := hHeld2
 clear hHeld2
 clear hK K
 try simp only [pZ_]
 refine ho_step 9 (some 16) rfl rfl (by kernel_rfl) (by kernel_rfl) (fun K hK => ?_)
 go_simp
 go_at_call 26
 refine (only_calls J _).mono ?_
 rintro e w4 ⟨rfl,hb4⟩
 have hq4 := hq3.trans (Chg.of_below hb4)
 try go_wp2_with fail
 refine hK.out _ _ (RD.out _ hq4) (fun hHeld2 => ?_)
 clear hHeld
 have hHeld := hHeld2
 clear hHeld2
 clear hK K
 try simp only [pZ_]
 refine Hor.ho_row 10 48 _ _ (w.heap.size + 1) #[.int .i64 J,.int .i64 0,.slice none 0 0,.slice none 0 0,.int .u8 0,.int .u32 0,.int .u32 0,.int .u32 0] 48 _ rfl rfl rfl (by kernel_rfl) (by kernel_rfl) rfl rfl (hb3.below hb4) info_res rfl (by simp [Value.oneCell']) (fun w5 hk5 hg5 => RD.out _ (hq4.trans (Chg.of_grown hg5 (fun k hk => .inl (.inr (by injection hk with hk; exact hk.symm)))))) (fun w5 hk5 hg5 => ?_)
 refine wpAnyH_done (by kernel_rfl) ?_ _
 have hz := fin_view HVS.out HLT.out HSUB.out HBD.out hr3 st3 hb4 (hb3.below hb4) hg5 (Nat.le_succ _) (by show w.heap.size + 1 < W.heap.size; rw [HSW.out]; omega)
 have HZ := hQ_ hz
 have HK5 := hQ_ hk5
 have HA3 := hQ_ aft3
 clear hz hr3 st3 hb4 hg5 hk5 aft3 hq3 hq4 hb3 RD
 go_wp2_with fail
 exact bodyPost_ret (v := onlyV J) (results_cell_row rfl _ _ (w.heap.size + 1) 48 _ (0,0) _ rfl HK5.out Tryz.underlying48 rfl info_res) rfl ⟨s',S',D',by rw [HJ.out],HZ.out.1,HZ.out.2,HA3.out⟩
end Go.Proofs.YtogdjbhjgbnicaaGreatDoor.OpsU
namespace Go.Proofs.YtogdjbhjgbnicaaGreatDoor.FileKi
open Go.RowKit
open Byte PackM KeysM TreeR ViewM NodeM NodeG WalkM WalkF WalkKm DirsV FileM FileV FileN Lst Chg TreeL ViewL WalkL WalkV Vat WalkKa DirsK DirsKa FileK FileKd FileKe FileKf FileKg FileKh
open TreeM hiding cutL
open Own hiding keeps
variable {Rep : RepT}
theorem tru_out : ∀ (ps : List Wrt) (L : List Pr),truV.outV L ps = DirsX.outW L ps
 | [],L => rfl
 | p :: ps,L => tru_out ps _
theorem v64_dels : ∀ (ks : List ByteArray) {L : List Pr},Rise L → ∀ {ino : Int},V64 L ino → V64 (DirsX.outW L (ks.map delP)) ino
 | [],L,hr,ino,h => h
 | k :: ks,L,hr,ino,h => v64_dels ks (rise_done hr _) (v64_done hr h (show (0 : Nat) ≤ 64 from Nat.zero_le _))
theorem drop_after {s s' : Vs} {ino z : Int} (ho : s.Ok) (ha : Aft s s' (drpPs s.shown ino z) 0 0) (hg : (goW s (drpPs s.shown ino z)).2 = true) (hv : V64 s.shown ino) : s'.shown = DirsX.outW s.shown (drpPs s.shown ino z) ∧ V64 s'.shown ino := by
 have h1 : s'.shown = DirsX.outW s.shown (drpPs s.shown ino z) := by rw [ha.sm.shown]; exact (DirsX.go_out _ ho hg).1
 refine ⟨h1,?_⟩
 rw [h1,drp_map]
 exact v64_dels _ (rise_shown ho.base _) hv
theorem Truncate_calls (hW : Wk Rep) (hK : LookOk Rep) (hT : SetOk Rep) (hCp : CpN Rep) {w : World} {v : Value} {s : Vs} {S D : Nat → Prop} (ino z : Int) (hr : Rep w v s S D) (hl : Lim s) (h2 : s.rd.length ≤ 19990) (h0 : 0 ≤ ino) (h1 : ino ≤ 4294967295) (z0 : -9223372036854775808 ≤ z) (z1 : z ≤ 9223372036854775807) (hk : ∀ p ∈ s.shown,(sp p.key).letter ≠ 0) (hv : V64 s.shown ino) :
 Calls Tryz.prog 84 #[v,.int .u32 ino,.int .i64 z] w (Ans Rep v s (truV s.shown ino z).1 (truV s.shown ino z).2 1 0 S D w) := by
 have A0 := hQ_ (At.start hr)
 have HLD := hQ_ (FileK.load_calls hW ino hr hl h0 h1)
 unfold FilV at HLD
 have HS := hQ_ hW.stays
 have hl2 : Lim (s.read (kI ino)) := ⟨hl.base,by have := read_len s (kI ino); omega,hl.rg⟩
 have hsh : (s.read (kI ino)).shown = s.shown := ((Sm.refl s).read _).shown
 have HDR := hQ_ (fun (b : Int) (w1 : World) (S1 D1 : Nat → Prop) (hr1 : Rep w1 v (s.read (kI ino)) S1 D1) (b0 : 0 ≤ b) (b1 : b ≤ 65535) => drop_calls hW hCp ino b hr1 hl2 h0 h1 b0 b1 (by rw [hsh]; exact hk))
 rw [hsh] at HDR
 have HSH := hQ_ (fun (w1 : World) (s5 : Vs) (S1 D1 : Nat → Prop) (hr1 : Rep w1 v s5 S1 D1) (hl5 : Lim s5) (b0 : 0 ≤ z) (b1 : z ≤ 4096) (hv5 : V64 s5.shown ino) => FileKc.shorten_calls hW hK hT ino z hr1 hl5 h0 h1 b0 b1 (hv5 (z / 64) (by omega) (by omega)))
 have HDA := hQ_ (fun (b : Int) (s5 : Vs) (ha : Aft (s.read (kI ino)) s5 (drpPs s.shown ino b) 0 0) (hg : (goW (s.read (kI ino)) (drpPs s.shown ino b)).2 = true) (ho : (s.read (kI ino)).Ok) => by
  have q := drop_after (s := s.read (kI ino)) (s' := s5) (ino := ino) (z := b) ho (by rw [hsh]; exact ha) (by rw [hsh]; exact hg) (by rw [hsh]; exact hv)
  rw [hsh] at q
  exact q)
 have HSV := hQ_ (fun (k l z p : Int) (w1 : World) (s5 : Vs) (S1 D1 : Nat → Prop) (hr1 : Rep w1 v s5 S1 D1) (hl5 : Lim s5) (hb : InoB k l z p) => save_w hW ino k l z p hr1 hl5 h0 h1 hb)
 have HRO := hQ_ FileK.room_calls
 have HBL := hQ_ (fun w => NodeK.blocks_ok z w (by omega) (by omega))
 have HL2 := hQ_ hl2
 have C1 := hQ_ (aft_load s (kI ino))
 have hbd := fil_bd s.shown ino
 unfold truV
 rw [tru_out]
 obtain ⟨q,hfx⟩ : ∃ q,filV s.shown ino = q := ⟨_,rfl⟩
 rw [hfx] at hbd HLD ⊢
 obtain ⟨⟨xk,xl,xz,xp⟩,xe⟩ := q
 dsimp only at hbd HLD ⊢
 obtain ⟨b0,b1,b2,b3,b4,b5,b6,b7⟩ := hbd
 have HER : ∀ (er : Int) (M S' D' : Nat → Prop) (w' : World),At Rep w S D M w' v (s.read (kI ino)) S' D' → Ans Rep v s er [] 1 0 S D w (.returned (.int .i64 er)) w' := fun er M S' D' w' h => ans_err h
 have HERR := hQ_ HER
 clear HER
 generalize hs1 : s.read (kI ino) = s1 at *
 clear hr hl hv hW hK hT hCp hl2 hsh hfx hs1 hk
 by_cases he : xe = 0
 ·subst he
  rw [if_neg (by decide)]
  by_cases c1 : z < 0
  ·rw [if_pos c1]
   have d1 : decide (z < 0) = true := by simpa using c1
   go_enter Tryz.func84,Tryz.ntmps84
   go_wp2_with fail
   refine HLD.out.mono ?_
   rintro e w1 ⟨S1,D1,rfl,hr1,st1⟩
   have hbn := bN_ w1 (.cells #[.int .u8 xk,.int .u32 xl,.int .u32 xz,.int .u32 xp] 46)
   have A1 := hQ_ ((A0.out.step HS.out hr1 st1).below HS.out hbn)
   clear hr1 st1 hbn
   go_wp2_with fail
   go_ret
   exact HERR.out _ _ _ _ _ A1.out
  ·rw [if_neg c1]
   have d1 : decide (z < 0) = false := by simpa using c1
   by_cases c2 : 4096 < z
   ·rw [if_pos c2]
    have d2 : decide (z > 4096) = true := by simpa using c2
    go_enter Tryz.func84,Tryz.ntmps84
    go_wp2_with fail
    refine HLD.out.mono ?_
    rintro e w1 ⟨S1,D1,rfl,hr1,st1⟩
    have hbn := bN_ w1 (.cells #[.int .u8 xk,.int .u32 xl,.int .u32 xz,.int .u32 xp] 46)
    have A1 := hQ_ ((A0.out.step HS.out hr1 st1).below HS.out hbn)
    clear hr1 st1 hbn
    go_wp2_with fail
    go_ret
    exact HERR.out _ _ _ _ _ A1.out
   ·rw [if_neg c2]
    have d2 : decide (z > 4096) = false := by simpa using c2
    have e3 : z % 4294967296 = z := by omega
    have e4 : NodeL.blk z = blkN z := rfl
    rw [e4] at HBL
    have g0 : 0 ≤ blkN z := by unfold blkN; split <;> omega
    have g1 : blkN z ≤ 65535 := by unfold blkN; split <;> omega
    have HBM : Hid (InoB xk xl z xp) := hQ_ ⟨b0,b1,b2,b3,by omega,by omega,b6,b7⟩
    have HDR2 := hQ_ (HDR.out (blkN z))
    have HDA2 := hQ_ (HDA.out (blkN z))
    generalize blkN z = bz at *
    generalize drpPs s.shown ino bz = dps at *
    have z2 : 0 ≤ z := by omega
    have z3 : z ≤ 4096 := by omega
    clear c1 c2 e4 HDR HDA
    go_enter Tryz.func84,Tryz.ntmps84
    go_wp2_with fail
    refine HLD.out.mono ?_
    rintro e w1 ⟨S1,D1,rfl,hr1,st1⟩
    have I2 := hQ_ (Blk.new_ w1 #[.int .u8 xk,.int .u32 xl,.int .u32 z,.int .u32 xp] 46)
    have hbn := bX_ I2.out
    have A2 := hQ_ ((A0.out.step HS.out hr1 st1).own HS.out hbn (Nat.le_refl w1.heap.size) (by simp))
    clear hr1 st1 hbn
    go_wp2_with fail
    refine (HBL.out _).mono ?_
    rintro e w2 ⟨rfl,hb2⟩
    have AB := hQ_ (A2.out.below HS.out hb2)
    have IB := hQ_ (I2.out.below hb2)
    have OK := hQ_ (HS.out.ok AB.out.rep)
    clear hb2
    go_wp2_with fail
    refine (HDR2.out _ _ _ AB.out.rep g0 g1).mono ?_
    intro e w3 h3
    rcases Wrote.split h3 with ⟨s3,S3,D3,rfl,hg3,hr3,st3,af3⟩ | ⟨s3,S3,D3,rfl,hg3,hr3,st3,af3⟩
    ·have A3 := hQ_ (AB.out.step HS.out hr3 st3)
     have I3 := hQ_ (AB.out.blk HS.out IB.out (.inr rfl) st3)
     have q3 := C1.out.1.app C1.out.2 af3
     have C3 : Hid (Aft s s3 dps 1 0 ∧ (goW s dps).2 = true) := hQ_ ⟨q3.1,q3.2.trans hg3⟩
     have L3 : Hid (Lim s3) := hQ_ (lim_aft af3 HL2.out (by have := HL2.out.rd; omega) (by have := HL2.out.rg; omega))
     obtain ⟨sh3,v3⟩ := HDA2.out s3 af3 hg3 OK.out
     have V3 := hQ_ v3
     have HSH3 := hQ_ (fun (w1 : World) (S1 D1 : Nat → Prop) (hr1 : Rep w1 v s3 S1 D1) => HSH.out w1 s3 S1 D1 hr1 L3.out z2 z3 V3.out)
     rw [sh3] at HSH3
     generalize shoPs (DirsX.outW s.shown dps) ino z = sps at *
     clear h3 hr3 st3 af3 hg3 q3 sh3 v3
     go_wp2_with fail
     refine (HSH3.out _ _ _ A3.out.rep).mono ?_
     intro e w4 h4
     rcases Wrote.split h4 with ⟨s4,S4,D4,rfl,hg4,hr4,st4,af4⟩ | ⟨s4,S4,D4,rfl,hg4,hr4,st4,af4⟩
     ·have A4 := hQ_ (A3.out.step HS.out hr4 st4)
      have I4 := hQ_ (A3.out.blk HS.out I3.out (.inr rfl) st4)
      have q4 := C3.out.1.app C3.out.2 af4
      have C4 : Hid (Aft s s4 (dps ++ sps) 1 0 ∧ (goW s (dps ++ sps)).2 = true) := hQ_ ⟨q4.1,q4.2.trans hg4⟩
      have L4 : Hid (Lim s4) := hQ_ (lim_aft af4 L3.out (by have := L3.out.rd; omega) (by have := L3.out.rg; omega))
      clear h4 hr4 st4 af4 hg4 q4
      have i0 := cC4 I4.out
      go_wp2_with fail
      refine (HSV.out xk xl z xp _ _ _ _ A4.out.rep L4.out HBM.out).mono ?_
      intro e w5 h5
      rcases Wrote.split h5 with ⟨s5,S5,D5,rfl,hg5,hr5,st5,af5⟩ | ⟨s5,S5,D5,rfl,hg5,hr5,st5,af5⟩
      ·have A5 := hQ_ (A4.out.step HS.out hr5 st5)
       have q5 := C4.out.1.app C4.out.2 af5
       have q6 := And.intro q5.1 (q5.2.trans hg5)
       rw [List.append_assoc] at q6
       have C5 := hQ_ q6
       clear h5 hr5 st5 af5 hg5 q5 q6
       go_wp2_with fail
       refine (HRO.out _ _).mono ?_
       rintro e w6 ⟨rfl,rfl⟩
       go_wp2_with fail
       go_ret
       exact Ans.ok A5.out C5.out
      ·have A5 := hQ_ (A4.out.step HS.out hr5 st5)
       have q5 := C4.out.1.app C4.out.2 af5
       have q6 := And.intro q5.1 (q5.2.trans hg5)
       rw [List.append_assoc] at q6
       have C5 := hQ_ q6
       clear h5 hr5 st5 af5 hg5 q5 q6
       go_wp2_with fail
       refine (HRO.out _ _).mono ?_
       rintro e w6 ⟨rfl,rfl⟩
       go_wp2_with fail
       go_ret
       exact Ans.full A5.out C5.out
     ·have A4 := hQ_ (A3.out.step HS.out hr4 st4)
      have q4 := C3.out.1.app C3.out.2 af4
      have q5 := q4.1.stop (qs := [saveP ino xk xl z xp]) (q4.2.trans hg4)
      rw [List.append_assoc] at q5
      have C4 := hQ_ q5
      clear h4 hr4 st4 af4 hg4 q4 q5
      go_wp2_with fail
      refine (HRO.out _ _).mono ?_
      rintro e w6 ⟨rfl,rfl⟩
      go_wp2_with fail
      go_ret
      exact Ans.full A4.out C4.out
    ·have A3 := hQ_ (AB.out.step HS.out hr3 st3)
     have q3 := C1.out.1.app C1.out.2 af3
     have C3 : Hid (Aft s s3 (dps ++ (shoPs (DirsX.outW s.shown dps) ino z ++ [saveP ino xk xl z xp])) 1 0 ∧ (goW s (dps ++ (shoPs (DirsX.outW s.shown dps) ino z ++ [saveP ino xk xl z xp]))).2 = false) := hQ_ (q3.1.stop (q3.2.trans hg3))
     clear h3 hr3 st3 af3 hg3 q3
     go_wp2_with fail
     refine (HRO.out _ _).mono ?_
     rintro e w5 ⟨rfl,rfl⟩
     go_wp2_with fail
     go_ret
     exact Ans.full A3.out C3.out
 ·rw [if_pos he]
  have d1 : (xe != 0) = true := by simpa using he
  clear he
  go_enter Tryz.func84,Tryz.ntmps84
  go_wp2_with fail
  refine HLD.out.mono ?_
  rintro e w1 ⟨S1,D1,rfl,hr1,st1⟩
  have hbn := bN_ w1 (.cells #[.int .u8 xk,.int .u32 xl,.int .u32 xz,.int .u32 xp] 46)
  have A1 := hQ_ ((A0.out.step HS.out hr1 st1).below HS.out hbn)
  clear hr1 st1 hbn
  go_wp2_with fail
  go_ret
  exact HERR.out _ _ _ _ _ A1.out
end Go.Proofs.YtogdjbhjgbnicaaGreatDoor.FileKi
namespace Go.Proofs.YtogdjbhjgbnicaaGreatDoor.DirsBl
open Go.RowKit
open Byte KeysM TreeM ViewM ViewKm NodeM NodeG NamesM NamesL WalkM WalkF WalkKm DirsV Lst Chg TreeL ViewL WalkL WalkV Vat WalkKa WalkKb DirsK DirsKa DirsKb DirsKc DirsKd
open Own hiding keeps
open DirsKg hiding first_2g first_2d
variable {Rep : RepT}
def ListR2 (Rep : RepT) (v : Value) (s : Vs) (dir : Int) (S D : Nat → Prop) (w : World) (e : Ending) (w' : World) : Prop := ∃ A m c a b S' D',e = .returned (.slice A m c) ∧ So Tx.txE 9 w' w.heap.size (.slice A m c) m (listM dir s.shown) ∧ (∀ q o,A = some ⟨q,o,none⟩ → ¬ D' q) ∧ Rep w' v (s.ranged a b) S' D' ∧ Stp S D S' D' w w'
section
open Go.RowKit
open Byte PackM KeysM KeysS KeysV KeysB KeysD TreeM TreeR ViewM NodeM NodeG NamesM NamesL NamesK WalkM WalkF WalkKm Lst Tx Chg TreeL ViewL WalkL WalkV Vat WalkKa
open WalkD (blk_chg)
open Own hiding keeps
open WalkKb
theorem list2_calls (hS : Stays Rep) (hX : RangeOk Rep) {w : World} {v : Value} {s : Vs} {S D : Nat → Prop} (dir : Int) (hr : Rep w v s S D) (hl : Lim s) (h0 : 0 ≤ dir) (h1 : dir ≤ 4294967295) (hk : ∀ p ∈ s.shown,(sp p.key).letter ≠ 0) (hn : s.shown.length ≤ 100000) :
 Calls Tryz.prog 117 #[v,.int .u32 dir] w (ListR2 Rep v s dir S D w) := by
 have A0 := hQ_ (At.start hr)
 have HE := hQ_ (fun w => entries_small dir w h0 h1)
 have HK := hQ_ hk
 have HS := hQ_ hS
 have HL := hQ_ hl
 have HX := hQ_ hX
 obtain ⟨M,hM⟩ : ∃ M,s.shown.filter (entB dir) = M := ⟨_,rfl⟩
 have HMF := hQ_ hM
 have HM2 : Hid (∀ p ∈ M,entB dir p = true ∧ p.key.size ≤ 100000 ∧ (sp p.key).letter = 69) := hQ_ (fun p hp => by
  rw [← hM] at hp
  have h3 := List.mem_filter.1 hp
  have h4 := sp_key (HK.out p h3.1)
  have h5 := h3.2
  unfold entB at h5
  rw [Bool.and_eq_true,decide_eq_true_eq] at h5
  exact ⟨h3.2,by omega,h5.1⟩)
 have hLM : listM dir s.shown = M.map (fun p => (sp p.key).name) := by rw [list_ent,hM]
 unfold ListR2
 rw [hLM]
 clear hr hl hS hX hk hM hLM
 go_enter Tryz.func117,Tryz.ntmps117
 go_wp2_with fail
 refine (HE.out _).mono ?_
 rintro e w1 ⟨a,b,rfl,hrg,ha,hb,hb1⟩
 have A1 := hQ_ (A0.out.below HS.out hb1)
 have HRG : Hid (rangeL a b s.shown = s.shown.filter (entB dir)) := hQ_ (range_ent hrg.out HK.out)
 clear hb1 hrg
 go_wp2_with fail
 refine (HX.out a b A1.out.rep HL.out (by omega) (by omega)).mono ?_
 rintro e w2 ⟨⟨ra,rn,rc⟩,S2,D2,rfl,hsl,hnew,hr2,st2⟩
 rw [rangeOf_is,HRG.out,HMF.out] at hsl
 dsimp only at hsl hnew
 have A2 := hQ_ (A1.out.step HS.out hr2 st2)
 have HLR := hQ_ hsl
 have hrn : rn ≤ 100000 := by
  rw [← hsl.1]
  rw [← HMF.out]
  exact Nat.le_trans (List.length_filter_le _ _) hn
 have HZ2 := hQ_ A2.out.size
 clear hsl hnew hr2 st2 ha hb
 go_wp2_with fail
 go_loopw [5,19] (fun v i wr => ∃ (A' : Option Addr) (m c' k : Nat) (N : List ByteArray),v = .slice A' m c' ∧ i = .int .i64 k ∧ k ≤ rn ∧ m = k ∧ So txE 9 wr w2.heap.size (.slice A' m c') m N ∧ Hid (N = (M.take k).map (fun p => (sp p.key).name)) ∧ Below w2.heap.size w2 wr) (fun _ i _ => rn - (intOf i).toNat)
 case atStart => exact ⟨none,0,0,0,[],rfl,rfl,Nat.zero_le _,rfl,So.nil_ _ _ _ _,hQ_ rfl,Below.refl _ _⟩
 case round =>
  obtain ⟨A',m,c',k,N,rfl,rfl,hk,rfl,hso,HN,hbel⟩ := hrel
  by_cases hlt : m < rn
  ·obtain ⟨x,g,o,hx,rfl,hg,hcl⟩ := (HLR.out.below hbel).get m hlt
   obtain ⟨c1,c2,c3,hcc⟩ := pair_cells hcl
   have hmx := HM2.out x (List.mem_of_getElem? hx)
   have HNX := hQ_ (map_nx hx (fun p => (sp p.key).name))
   have HSP := hQ_ (fun w => split_calls x.key w hmx.2.1)
   unfold SpE at HSP
   have HSO := hQ_ hso
   have HBL := hQ_ hbel
   have hlet := hmx.2.2
   obtain ⟨xk,xv,xg⟩ := x
   dsimp only at *
   have HN2 : Hid (N ++ [(sp xk).name] = (M.take (m + 1)).map (fun p => (sp p.key).name)) := hQ_ (by rw [HNX.out,HN.out])
   rw [hlet] at HSP
   clear HNX hcl hx hso hbel hmx hlet
   generalize (sp xk).ino = X2 at *
   generalize (sp xk).name = X3 at *
   generalize (sp xk).n = X4 at *
   have hbs := HBL.out.size
   go_wp2_with ((with_reducible refine pick (some 22) ?_); refine wpList_load_mid rfl 64 _ rfl g (o + m * 3) rfl _ _ hcc Tryz.underlying64 rfl info_pair3 ?_)
   refine (HSP.out _).mono ?_
   rintro e w3 ⟨rfl,hb3⟩
   have HB3 := hQ_ (Own.keeps (HBL.out.alloc hbs (.cells #[.string xk,.string xv,.bool xg] 64)) hb3)
   have HSO3 := hQ_ ((HSO.out.below ((Below.refl _ _).alloc (Nat.le_refl _) (.cells #[.string xk,.string xv,.bool xg] 64))).below hb3)
   clear hb3
   go_wp2_with ((with_reducible refine pick (some 36) ?_); refine wpList_append_any txE 9 rfl _ _ _ rfl Tryz.underlying44 info_tx rfl w2.heap.size _ m N rfl (HSO3.out.below (bW_)) _ 1 1 [X3] rfl (Sl.new_ txE _ _ X3 _ rfl) (fun h => by cases h) (m + 1) rfl _ rfl (by unfold maxLen; omega) (by omega) (by have := HB3.out.size; simp; omega) ?_; intro v' w' hown' hg' hat'; obtain ⟨A3,c3',rfl,_⟩ := Tx.So.head hown')
   have hal := HB3.out.alloc HB3.out.size (.cells #[.string X3] 9)
   have HBB : Hid (Below w2.heap.size w2 w') := hQ_ (hal.grown hg' hal.size (fun k hk => (HSO3.out.lt hk).1))
   clear hal
   go_roundw
   case rel => exact ⟨A3,m + 1,c3',m + 1,_,rfl,by go_num,by omega,rfl,hown',HN2,HBB.out⟩
   case measure => simp [intOf]; omega
  ·obtain rfl : m = rn := by omega
   have HBL := hQ_ hbel
   have HSO := hQ_ hso
   have hML : M.take m = M := List.take_of_length_le (by rw [HLR.out.1]; exact Nat.le_refl _)
   have HNM : Hid (N = M.map (fun p => (sp p.key).name)) := hQ_ (by rw [HN.out,hML])
   have A3 := hQ_ (A2.out.below HS.out hbel)
   clear hML hbel hso
   go_wp2_with fail
   go_ret
   exact ⟨A',m,c',a,b,S2,D2,rfl,by rw [← HNM.out]; exact HSO.out.lower HZ2.out,fun q o e => (by have h1 := HSO.out.lt (g := q) (by rw [e]; rfl); intro hd; have h2 := HS.out.lt A2.out.rep q hd; omega),A3.out.rep,A3.out.st⟩
end
def ListN (Rep : RepT) : Prop := ∀ ⦃w v s S D⦄ (dir : Int),Rep w v s S D → Lim s → 0 ≤ dir → dir ≤ 4294967295 → (∀ p ∈ s.shown,(sp p.key).letter ≠ 0) → Calls Tryz.prog 117 #[v,.int .u32 dir] w (ListR2 Rep v s dir S D w)
theorem list_n : ListN WalkK.VRep := fun _ _ _ _ _ dir r hl h0 h1 hk => list2_calls WalkK.stays (WalkV.range_b ViewK.range_ok) dir r hl h0 h1 hk (WalkK.shown_len r hl)
def ListB (Rep : RepT) (v : Value) (s : Vs) (r : List ByteArray × Int) (k m : Nat) (S D : Nat → Prop) (w : World) (e : Ending) (w' : World) : Prop := ∃ A n c s' S' D',e = .returned (.tuple #[.slice A n c,.int .i64 r.2]) ∧ So Tx.txE 9 w' w.heap.size (.slice A n c) n r.1 ∧ (∀ q o,A = some ⟨q,o,none⟩ → ¬ D' q) ∧ Rep w' v s' S' D' ∧ Stp S D S' D' w w' ∧ Aft s s' [] k m
theorem ListB.none_ {v : Value} {s s' : Vs} {er : Int} {k m : Nat} {S D M S' D' : Nat → Prop} {w w' : World} (A : At Rep w S D M w' v s' S' D') (h : Aft s s' [] k m) : ListB Rep v s ([],er) k m S D w (.returned (.tuple #[.slice none 0 0,.int .i64 er])) w' := ⟨none,0,0,s',S',D',rfl,So.nil_ _ _ _ _,(fun _ _ h => by cases h),A.rep,A.st,h⟩
theorem lst_err (hW0 : Wk Rep) {w : World} {v : Value} {s : Vs} {S D : Nat → Prop} (path : ByteArray) {li lk ll lz lp er : Int} (hr : Rep w v s S D) (hl : Lim s) (h2 : s.rd.length ≤ 18000) (h3 : s.rg.length ≤ 900) (hx : Mxs w S) (hp : path.size ≤ 100000) (hL : leadM s.shown path = (li,⟨lk,ll,lz,lp⟩,er)) (he : er ≠ 0) (hk2 : lk = 0) :
 Calls Tryz.prog 89 #[v,.string path] w (ListB Rep v s ([],er) 40 1 S D w) := by
 have A0 := hQ_ (At.start hr)
 have HX := hQ_ hx
 have HS := hQ_ hW0.stays
 have HL := hQ_ hl
 have C0 := hQ_ (aft0 s)
 have HWT := hQ_ when_t
 have HWF := hQ_ when_f
 have HLE := hQ_ (fun w (S D : Nat → Prop) (t : Vs) (hr : Rep w v t S D) (hsm : Sm t s) hl h2 hx => lead_c hW0 path hL hr hsm hl h2 hp hx)
 unfold LeadC at HLE
 dsimp only at HLE
 have d1 : (lk != 2) = true := by rw [hk2]; rfl
 have d0 : (er != 0) = true := by simpa using he
 clear hr hl hp hL hx hW0 hk2
 go_enter Tryz.func89,Tryz.ntmps89
 go_wp2_with fail
 refine (HLE.out _ _ _ _ A0.out.rep (Aft.sm0 C0.out.1) (lim_aft C0.out.1 HL.out (by omega) (by omega)) (by have := C0.out.1.rd; omega) (HX.out.at_ A0.out)).mono ?_
 rintro e w1 ⟨s1,S1,D1,rfl,hr,st,hsm,hrd,hrg⟩
 have C1 := hQ_ (aftF C0.out hsm hrd hrg)
 have I1 := hQ_ (Blk.new_ w1 #[.int .u8 lk,.int .u32 ll,.int .u32 lz,.int .u32 lp] 46)
 have hbn := bX_ I1.out
 have A1 := hQ_ ((A0.out.step HS.out hr st).own HS.out hbn (Nat.le_refl w1.heap.size) (by simp))
 have f1_I0 := cC4 I1.out
 clear hr st hsm hrd hrg hbn
 have FE2 : fst_ [er,12] = er := by unfold fst_; rw [if_neg he]
 have HF2 := hQ_ (And.intro (first_2g (er) (12) (w1.alloc (.cells #[.int .u8 lk,.int .u32 ll,.int .u32 lz,.int .u32 lp] 46)) (w1.heap.size + 1) (by simp)) (first_2d (er) (12) (w1.alloc (.cells #[.int .u8 lk,.int .u32 ll,.int .u32 lz,.int .u32 lp] 46)) (w1.heap.size + 1) (by simp)))
 rw [FE2] at HF2
 clear FE2
 go_upto_region 2 with (fail)
 go_cut [9] (fun p wx => p = .int .i64 (er) ∧ BL_ (w1.alloc (.cells #[.int .u8 lk,.int .u32 ll,.int .u32 lz,.int .u32 lp] 46)) wx)
 case first =>
  go_wp2_with (first | (go_at_call 99; (with_reducible refine (HWT.out _ _).mono ?_); rintro e w9 ⟨rfl,rfl⟩) | (go_at_call 99; (with_reducible refine (HWF.out _ _).mono ?_); rintro e w9 ⟨rfl,rfl⟩) | (go_at_call 98; (with_reducible refine HF2.out.1.mono ?_); rintro e w9 ⟨rfl,rfl⟩))
  all_goals
   go_meet
   exact fB_
 case rest =>
  obtain ⟨rfl,hbc⟩ := hcut
  have A2 := hQ_ (A1.out.below HS.out hbc)
  have I2 := hQ_ (I1.out.below hbc)
  skip
  have f2_I0 := cC4 I2.out
  clear hbc f1_I0
  clear he
  go_wp2_with fail
  go_ret2
  exact ListB.none_ A2.out (C1.out.1.more (by omega) (by omega))
theorem lst_file (hW0 : Wk Rep) {w : World} {v : Value} {s : Vs} {S D : Nat → Prop} (path : ByteArray) {li lk ll lz lp er : Int} (hr : Rep w v s S D) (hl : Lim s) (h2 : s.rd.length ≤ 18000) (h3 : s.rg.length ≤ 900) (hx : Mxs w S) (hp : path.size ≤ 100000) (hL : leadM s.shown path = (li,⟨lk,ll,lz,lp⟩,er)) (he : er = 0) (hk2 : lk ≠ 2) :
 Calls Tryz.prog 89 #[v,.string path] w (ListB Rep v s ([],12) 40 1 S D w) := by
 have A0 := hQ_ (At.start hr)
 have HX := hQ_ hx
 have HS := hQ_ hW0.stays
 have HL := hQ_ hl
 have C0 := hQ_ (aft0 s)
 have HWT := hQ_ when_t
 have HWF := hQ_ when_f
 have HLE := hQ_ (fun w (S D : Nat → Prop) (t : Vs) (hr : Rep w v t S D) (hsm : Sm t s) hl h2 hx => lead_c hW0 path hL hr hsm hl h2 hp hx)
 unfold LeadC at HLE
 dsimp only at HLE
 subst he
 have d0 : (lk != 2) = true := by simpa using hk2
 clear hr hl hp hL hx hk2 hW0
 go_enter Tryz.func89,Tryz.ntmps89
 go_wp2_with fail
 refine (HLE.out _ _ _ _ A0.out.rep (Aft.sm0 C0.out.1) (lim_aft C0.out.1 HL.out (by omega) (by omega)) (by have := C0.out.1.rd; omega) (HX.out.at_ A0.out)).mono ?_
 rintro e w1 ⟨s1,S1,D1,rfl,hr,st,hsm,hrd,hrg⟩
 have C1 := hQ_ (aftF C0.out hsm hrd hrg)
 have I1 := hQ_ (Blk.new_ w1 #[.int .u8 lk,.int .u32 ll,.int .u32 lz,.int .u32 lp] 46)
 have hbn := bX_ I1.out
 have A1 := hQ_ ((A0.out.step HS.out hr st).own HS.out hbn (Nat.le_refl w1.heap.size) (by simp))
 have f1_I0 := cC4 I1.out
 clear hr st hsm hrd hrg hbn
 have FE2 : fst_ [0,12] = 12 := rfl
 have HF2 := hQ_ (And.intro (first_2g (0) (12) (w1.alloc (.cells #[.int .u8 lk,.int .u32 ll,.int .u32 lz,.int .u32 lp] 46)) (w1.heap.size + 1) (by simp)) (first_2d (0) (12) (w1.alloc (.cells #[.int .u8 lk,.int .u32 ll,.int .u32 lz,.int .u32 lp] 46)) (w1.heap.size + 1) (by simp)))
 rw [FE2] at HF2
 clear FE2
 go_upto_region 2 with (fail)
 go_cut [9] (fun p wx => p = .int .i64 (12) ∧ BL_ (w1.alloc (.cells #[.int .u8 lk,.int .u32 ll,.int .u32 lz,.int .u32 lp] 46)) wx)
 case first =>
  go_wp2_with (first | (go_at_call 99; (with_reducible refine (HWT.out _ _).mono ?_); rintro e w9 ⟨rfl,rfl⟩) | (go_at_call 99; (with_reducible refine (HWF.out _ _).mono ?_); rintro e w9 ⟨rfl,rfl⟩) | (go_at_call 98; (with_reducible refine HF2.out.1.mono ?_); rintro e w9 ⟨rfl,rfl⟩))
  all_goals
   go_meet
   exact fB_
 case rest =>
  obtain ⟨rfl,hbc⟩ := hcut
  have A2 := hQ_ (A1.out.below HS.out hbc)
  have I2 := hQ_ (I1.out.below hbc)
  skip
  have f2_I0 := cC4 I2.out
  clear hbc f1_I0
  go_wp2_with fail
  go_ret2
  exact ListB.none_ A2.out (C1.out.1.more (by omega) (by omega))
theorem lst_dir (hW0 : Wk Rep) (hLs : ListN Rep) {w : World} {v : Value} {s : Vs} {S D : Nat → Prop} (path : ByteArray) {li lk ll lz lp er : Int} (hr : Rep w v s S D) (hl : Lim s) (h2 : s.rd.length ≤ 18000) (h3 : s.rg.length ≤ 900) (hx : Mxs w S) (hp : path.size ≤ 100000) (hL : leadM s.shown path = (li,⟨lk,ll,lz,lp⟩,er)) (he : er = 0) (hk2 : lk = 2) (l0 : 0 ≤ li) (l1 : li ≤ 4294967295) (hk : ∀ p ∈ s.shown,(sp p.key).letter ≠ 0) :
 Calls Tryz.prog 89 #[v,.string path] w (ListB Rep v s (listM li s.shown,0) 40 1 S D w) := by
 have A0 := hQ_ (At.start hr)
 have HX := hQ_ hx
 have HS := hQ_ hW0.stays
 have HL := hQ_ hl
 have C0 := hQ_ (aft0 s)
 have HWT := hQ_ when_t
 have HWF := hQ_ when_f
 have HLE := hQ_ (fun w (S D : Nat → Prop) (t : Vs) (hr : Rep w v t S D) (hsm : Sm t s) hl h2 hx => lead_c hW0 path hL hr hsm hl h2 hp hx)
 unfold LeadC at HLE
 dsimp only at HLE
 have HLS := hQ_ (fun w (S D : Nat → Prop) (t : Vs) (hr : Rep w v t S D) (hsm : Sm t s) (hl : Lim t) => show Calls _ _ _ _ (fun e w' => ∃ A m c a b S' D',e = .returned (.slice A m c) ∧ So Tx.txE 9 w' w.heap.size (.slice A m c) m (listM li s.shown) ∧ (∀ q o,A = some ⟨q,o,none⟩ → ¬ D' q) ∧ Rep w' v (t.ranged a b) S' D' ∧ Stp S D S' D' w w') by rw [← hsm.shown]; exact hLs li hr hl l0 l1 (by rw [hsm.shown]; exact hk))
 subst he
 have d1 : (lk != 2) = false := by rw [hk2]; rfl
 clear hr hl hp hL hx hk hW0 hk2
 go_enter Tryz.func89,Tryz.ntmps89
 go_wp2_with fail
 refine (HLE.out _ _ _ _ A0.out.rep (Aft.sm0 C0.out.1) (lim_aft C0.out.1 HL.out (by omega) (by omega)) (by have := C0.out.1.rd; omega) (HX.out.at_ A0.out)).mono ?_
 rintro e w1 ⟨s1,S1,D1,rfl,hr,st,hsm,hrd,hrg⟩
 have C1 := hQ_ (aftF C0.out hsm hrd hrg)
 have I1 := hQ_ (Blk.new_ w1 #[.int .u8 lk,.int .u32 ll,.int .u32 lz,.int .u32 lp] 46)
 have hbn := bX_ I1.out
 have A1 := hQ_ ((A0.out.step HS.out hr st).own HS.out hbn (Nat.le_refl w1.heap.size) (by simp))
 have f1_I0 := cC4 I1.out
 clear hr st hsm hrd hrg hbn
 have FE2 : fst_ [0,0] = 0 := rfl
 have HF2 := hQ_ (And.intro (first_2g (0) (0) (w1.alloc (.cells #[.int .u8 lk,.int .u32 ll,.int .u32 lz,.int .u32 lp] 46)) (w1.heap.size + 1) (by simp)) (first_2d (0) (0) (w1.alloc (.cells #[.int .u8 lk,.int .u32 ll,.int .u32 lz,.int .u32 lp] 46)) (w1.heap.size + 1) (by simp)))
 rw [FE2] at HF2
 clear FE2
 go_upto_region 2 with (fail)
 go_cut [9] (fun p wx => p = .int .i64 (0) ∧ BL_ (w1.alloc (.cells #[.int .u8 lk,.int .u32 ll,.int .u32 lz,.int .u32 lp] 46)) wx)
 case first =>
  go_wp2_with (first | (go_at_call 99; (with_reducible refine (HWT.out _ _).mono ?_); rintro e w9 ⟨rfl,rfl⟩) | (go_at_call 99; (with_reducible refine (HWF.out _ _).mono ?_); rintro e w9 ⟨rfl,rfl⟩) | (go_at_call 98; (with_reducible refine HF2.out.1.mono ?_); rintro e w9 ⟨rfl,rfl⟩))
  all_goals
   go_meet
   exact fB_
 case rest =>
  obtain ⟨rfl,hbc⟩ := hcut
  have A2 := hQ_ (A1.out.below HS.out hbc)
  have I2 := hQ_ (I1.out.below hbc)
  skip
  have f2_I0 := cC4 I2.out
  clear hbc f1_I0
  go_wp2_with fail
  refine (HLS.out _ _ _ _ A2.out.rep (Aft.sm0 C1.out.1) (lim_aft C1.out.1 HL.out (by omega) (by omega))).mono ?_
  rintro e w7 ⟨ra,rm,rc,a,b,S7,D7,rfl,hsl,hno,hr,st⟩
  have A7 := hQ_ (A2.out.step HS.out hr st)
  have C7 := hQ_ (show Aft s (s1.ranged a b) [] 40 1 from ⟨((Sm.refl _).ranged a b).trans C1.out.1.sm,Nat.le_trans (Nat.le_of_eq (ranged_rd s1 a b)) C1.out.1.rd,Nat.le_trans (ranged_rg s1 a b) (Nat.succ_le_succ C1.out.1.rg)⟩)
  have HSL := hQ_ hsl
  have HNO := hQ_ hno
  clear hsl hr st hno
  go_wp2_with fail
  go_ret2
  exact ⟨ra,rm,rc,_,S7,D7,rfl,So.lower HSL.out A2.out.size,HNO.out,A7.out.rep,A7.out.st,C7.out⟩
theorem lst_calls (hW0 : Wk Rep) (hLs : ListN Rep) {w : World} {v : Value} {s : Vs} {S D : Nat → Prop} (path : ByteArray) (hr : Rep w v s S D) (hl : Lim s) (h2 : s.rd.length ≤ 18000) (h3 : s.rg.length ≤ 900) (hx : Mxs w S) (hp : path.size ≤ 100000) (hk : ∀ p ∈ s.shown,(sp p.key).letter ≠ 0) :
 Calls Tryz.prog 89 #[v,.string path] w (ListB Rep v s (lstV s.shown path) 40 1 S D w) := by
 obtain ⟨⟨li,⟨lk,ll,lz,lp⟩,er⟩,hL⟩ : ∃ R,leadM s.shown path = R := ⟨_,rfl⟩
 have h := hL
 unfold leadM at h
 unfold lstV
 have hsb := find_bd s.shown path
 by_cases he : (findM s.shown path).2 = 0
 ·rw [if_neg (fun h => h he)] at h ⊢
  by_cases h0 : (findM s.shown path).1.ino = 0
  ·rw [if_pos h0] at h ⊢
   injection h with h1 h
   injection h with h5 h6
   injection h5 with h5
   subst h6
   exact lst_err hW0 path hr hl h2 h3 hx hp hL (by decide) h5.symm
  ·rw [if_neg h0] at h ⊢
   injection h with h1 h
   injection h with h5 h6
   rw [h1,h5]
   by_cases hk2 : lk = 2
   ·rw [if_neg (fun h => h hk2)]
    exact lst_dir hW0 hLs path hr hl h2 h3 hx hp hL h6.symm hk2 (by rw [← h1]; exact hsb.i0) (by rw [← h1]; exact hsb.i1) hk
   ·rw [if_pos hk2]
    exact lst_file hW0 path hr hl h2 h3 hx hp hL h6.symm hk2
 ·rw [if_pos he] at h ⊢
  injection h with h1 h
  injection h with h5 h6
  injection h5 with h5
  rw [h6] at he ⊢
  exact lst_err hW0 path hr hl h2 h3 hx hp hL he h5.symm
end Go.Proofs.YtogdjbhjgbnicaaGreatDoor.DirsBl
namespace Go.Proofs.YtogdjbhjgbnicaaGreatDoor.OpsV
open Go.RowKit
open Byte KeysM ViewM NodeM WalkM WalkF WalkKm DirsV FileM FileV Lst Chg TreeL ViewL WalkL Vat Ho DirsK DirsKa DirsKc FileK FileKd Cpy FileKe FileKf OpsR OpsD OpsE OpsI OpsJ OpsK OpsS OpsO OpsW DirsBl
open TreeM hiding cutL
open Own hiding lower
variable {Rep : RepT}
def truD (L : List Pr) (hs : List Int) (hn z : Int) : Int × List Wrt := if (inoD hs hn).2 = 0 then truV L (inoD hs hn).1 z else (16,[])
def clsD (hs : List Int) (hn : Int) : Int × List Int := if (inoD hs hn).2 = 0 then (0,hs.set hn.toNat 0) else (16,hs)
def ClsD (Rep : RepT) (g : Nat) (v : Value) (s : Vs) (r : Int × List Int) (S D : Nat → Prop) (w : World) (e : Ending) (w' : World) : Prop := ∃ S' D',e = .returned (onlyV r.1) ∧ Dst Rep w' g v r.2 s S' D' ∧ Dstp S D S' D' g w w'
def LstD (Rep : RepT) (g : Nat) (v : Value) (hs : List Int) (s : Vs) (r : List ByteArray × Int) (S D : Nat → Prop) (w : World) (e : Ending) (w' : World) : Prop := ∃ (a : Option Addr) (m c : Nat) (s' : Vs) (S' D' : Nat → Prop),e = .returned (resV r.2 0 (.slice none 0 0) (.slice a m c) 0 0 0 0) ∧ So Tx.txE 9 w' w.heap.size (.slice a m c) m r.1 ∧ Dst Rep w' g v hs s' S' D' ∧ Dstp S D S' D' g w w' ∧ (∀ q o,a = some ⟨q,o,none⟩ → ¬ D' q) ∧ Aft s s' [] 40 1
theorem inoD_hn {hs : List Int} {hn : Int} (h : (inoD hs hn).2 = 0) : ∃ j : Nat,hn = j ∧ j < 16 := by
 unfold inoD at h
 by_cases h0 : hn < 0
 ·rw [if_pos h0] at h
  exact absurd h (show (16 : Int) ≠ 0 by decide)
 ·rw [if_neg h0] at h
  by_cases h1 : 16 ≤ hn
  ·rw [if_pos h1] at h
   exact absurd h (show (16 : Int) ≠ 0 by decide)
  ·exact ⟨hn.toNat,by omega,by omega⟩
theorem truncate_deed (hW0 : Wk Rep) (hLk : LookOk Rep) (hSt : SetOk Rep) (hCp : CpN Rep) {w : World} {g : Nat} {v : Value} {hs : List Int} {s : Vs} {S D : Nat → Prop} (o : Op20) (ino : Int) (hdd : Dst Rep w g v hs s S D) (hl : Lim s) (h2 : s.rd.length ≤ 18000) (n0 : -9223372036854775808 ≤ o.n) (n1 : o.n ≤ 9223372036854775807) (hk : ∀ p ∈ s.shown,(sp p.key).letter ≠ 0) (hv : V64 s.shown (inoD hs o.hn).1) :
 Calls Tryz.prog 51 #[.pointer (some ⟨g,0,none⟩),o.val,.int .u32 ino] w (AnsN Rep g v hs s (truD s.shown hs o.hn o.n).1 0 (truD s.shown hs o.hn o.n).2 1 0 S D w) := by
 obtain ⟨kind,path,other,hn,frm,n,da,dn,dc⟩ := o
 dsimp only [Op20.val,Op20.cells] at *
 obtain ⟨hr,hd,hng⟩ := hdd
 have hlt := hW0.stays.lt hr
 have hsub := hW0.stays.sub hr
 obtain ⟨W,hW⟩ : ∃ W,(w.alloc (.cells #[.int .u8 kind,.string path,.string other,.int .i64 hn,.int .i64 frm,.int .i64 n,.slice da dn dc] 41)).alloc (.cells zres 48) = W := ⟨_,rfl⟩
 have hs1 : (w.alloc (.cells #[.int .u8 kind,.string path,.string other,.int .i64 hn,.int .i64 frm,.int .i64 n,.slice da dn dc] 41)).heap.size = w.heap.size + 1 := by simp
 have hB : Blk W (w.heap.size + 1) zres 48 := by rw [← hW,← hs1]; exact Blk.new_ _ zres _
 have hO : Blk W w.heap.size #[.int .u8 kind,.string path,.string other,.int .i64 hn,.int .i64 frm,.int .i64 n,.slice da dn dc] 41 := by rw [← hW]; exact (Blk.new_ _ _ _).alloc _
 have hbW : Below w.heap.size w W := by rw [← hW]; exact (bW_).alloc (by rw [hs1]; omega) _
 have hsW : W.heap.size = w.heap.size + 2 := by rw [← hW]; simp
 have hbd : Below w.heap.size w W.drew := hbW.drew
 have HB0 : Hid (Blk W (w.heap.size + 1) zres 48) := hQ_ hB
 have HBD0 : Hid (Blk W.drew (w.heap.size + 1) zres 48) := hQ_ hB
 have HAW := hQ_ ((At.start hr).owns hW0.stays hbW (Q := fun b => b = w.heap.size ∨ b = w.heap.size + 1) (fun b h => by rw [hsW]; omega))
 have HA0 := hQ_ ((At.start hr).owns hW0.stays hbd (Q := fun b => b = w.heap.size ∨ b = w.heap.size + 1) (fun b h => by
  have e : W.drew.heap.size = W.heap.size := rfl
  rw [e,hsW]
  omega))
 have HIN := hQ_ (inode_calls (hd.below hbW) hn)
 have hib := inoD_bd hd.bd hn
 have h3 := cZ3 hO
 have RD : Hid (∀ q0,Chg (fun k => S k ∨ k = w.heap.size + 1) W q0 → Chg (fun k => S k ∨ k = w.heap.size + 1) W q0 ∧ q0.cell? ⟨g,0,none⟩ = some v ∧ q0.cell? ⟨w.heap.size,4,none⟩ = some (.int .i64 frm) ∧ q0.cell? ⟨w.heap.size,5,none⟩ = some (.int .i64 n) ∧ q0.cell? ⟨w.heap.size,6,none⟩ = some (.slice da dn dc)) := hQ_ (fun q0 hq => by
  obtain ⟨c1,c2⟩ := find_cells hd hng hlt hsub hbW hO hq
  exact ⟨hq,c1,c2 4,c2 5,c2 6⟩)
 have HW := hQ_ hW
 have HVS := hQ_ hW0.stays
 have HRW := hQ_ hr
 have HDS := hQ_ hd
 have HNG := hQ_ hng
 have hcc := FileKi.Truncate_calls hW0 hLk hSt hCp (inoD hs hn).1 n (hW0.stays.below hr hbd) hl (by omega) hib.1 hib.2 n0 n1 hk hv
 unfold truD
 obtain ⟨⟨io,ie⟩,hI⟩ : ∃ I,inoD hs hn = I := ⟨_,rfl⟩
 have hie := inoD_er hs hn
 rw [hI] at HIN hcc hie ⊢
 dsimp only at HIN hcc hie ⊢
 rcases hie with rfl | rfl
 ·rw [if_pos rfl]
  obtain ⟨er,her⟩ : ∃ er,(truV s.shown io n).1 = er := ⟨_,rfl⟩
  obtain ⟨ps,hps⟩ : ∃ ps,(truV s.shown io n).2 = ps := ⟨_,rfl⟩
  rw [her,hps] at hcc ⊢
  obtain ⟨J,hJ⟩ : ∃ J : Int,(if (goW s ps).2 = true then er else 21) = J := ⟨_,rfl⟩
  unfold Ans at hcc
  simp only [hJ] at hcc
  have HC := hQ_ hcc
  have HJ := hQ_ hJ
  clear hW hs1 hO hB hbW hsW hbd hlt hsub hd hr hng hl h2 hW0 hI hcc her hps hJ hib hk hv n0 n1 hLk hSt hCp
  go_enter Tryz.func51,Tryz.ntmps51
  go_wp2_with fail
  rw [HW.out]
  go_wp2_with fail
  refine HIN.out.mono ?_
  rintro e w2 ⟨rfl,rfl⟩
  go_wp2_with fail
  refine wp_region_held_drew (S := fun q0 => Chg (fun k => S k ∨ k = w.heap.size + 1) W q0 ∧ q0.cell? ⟨g,0,none⟩ = some v ∧ q0.cell? ⟨w.heap.size,4,none⟩ = some (.int .i64 frm) ∧ q0.cell? ⟨w.heap.size,5,none⟩ = some (.int .i64 n) ∧ q0.cell? ⟨w.heap.size,6,none⟩ = some (.slice da dn dc)) (by kernel_rfl) (RD.out _ (Chg.refl (fun k => S k ∨ k = w.heap.size + 1) W).drew) (fun hHeld => ?_)
  refine hw_ 0 (some 20) ?_
  refine hw_ 1 (some 21) ?_
  refine hw_ 2 (some 22) ?_
  refine hw_ 3 (some 23) ?_
  refine hw_ 4 (some 24) ?_
  refine hw_ 5 (some 25) ?_
  refine hw_ 6 (some 26) ?_
  refine ho_step 7 (some 27) rfl rfl (by kernel_rfl) (by kernel_rfl) (fun K hK => ?_)
  go_simp
  go_at_call 84
  refine HC.out.mono ?_
  rintro e w3 ⟨s',S',D',rfl,hr3,st3,aft3⟩
  have hq3 : Chg (fun k => S k ∨ k = w.heap.size + 1) W w3 := (Chg.refl (fun k => S k ∨ k = w.heap.size + 1) W).drew.trans (st3.chg.mono (fun _ _ h => .inl h))
  have hb3 := At.blk HVS.out HA0.out HBD0.out (.inr (.inr rfl)) st3
  try go_wp2_with fail
  refine hK.out _ _ (RD.out _ hq3) (fun hHeld2 => ?_)
  clear hHeld
  have hHeld := hHeld2
  clear hHeld2
  clear hK K
  try simp only [pZ_]
  refine ho_step 8 (some 28) rfl rfl (by kernel_rfl) (by kernel_rfl) (fun K hK => ?_)
  go_simp
  go_at_call 26
  refine (only_calls J _).mono ?_
  rintro e w4 ⟨rfl,hb4⟩
  have hq4 := hq3.trans (Chg.of_below hb4)
  try go_wp2_with fail
  refine hK.out _ _ (RD.out _ hq4) (fun hHeld2 => ?_)
  clear hHeld
  have hHeld := hHeld2
  clear hHeld2
  clear hK K
  try simp only [pZ_]
  refine Hor.ho_row 9 48 _ _ (w.heap.size + 1) #[.int .i64 J,.int .i64 0,.slice none 0 0,.slice none 0 0,.int .u8 0,.int .u32 0,.int .u32 0,.int .u32 0] 48 _ rfl rfl rfl (by kernel_rfl) (by kernel_rfl) rfl rfl (hb3.below hb4) info_res rfl (by simp [Value.oneCell']) (fun w5 hk5 hg5 => RD.out _ (hq4.trans (Chg.of_grown hg5 (fun k hk => .inl (.inr (by injection hk with hk; exact hk.symm)))))) (fun w5 hk5 hg5 => ?_)
  refine wpAnyH_done (by kernel_rfl) ?_ _
  have HA4 := hQ_ (At.below HVS.out (At.step HVS.out HA0.out hr3 st3) hb4)
  have A8 := At.stored HVS.out HA4.out (hb3.below hb4) (.inr (.inr rfl)) (by decide) hg5
  have HK5 := hQ_ hk5
  have HF5 := hQ_ aft3
  clear hHeld hq3 hq4 hr3 st3 hb3 hb4 hk5 aft3 hg5 RD
  go_wp2_with fail
  exact bodyPost_ret (v := onlyV J) (results_cell_row rfl _ _ (w.heap.size + 1) 48 _ (0,0) _ rfl HK5.out Tryz.underlying48 rfl info_res) rfl ⟨J,s',S',D',HJ.out.symm,by rw [ite_self],(Dst.step HVS.out ⟨HRW.out,HDS.out,HNG.out⟩ A8.rep A8.st).1,(Dst.step HVS.out ⟨HRW.out,HDS.out,HNG.out⟩ A8.rep A8.st).2,HF5.out⟩
 ·rw [if_neg (by decide)]
  clear hW hs1 hO hB hbW hsW hbd hlt hsub hd hr hng hl h2 hW0 hI hib RD h3 hcc hk hv n0 n1 hLk hSt hCp
  go_enter Tryz.func51,Tryz.ntmps51
  go_wp2_with fail
  rw [HW.out]
  go_wp2_with fail
  refine HIN.out.mono ?_
  rintro e w2 ⟨rfl,rfl⟩
  have HA5 := hQ_ HAW.out
  have HR5 := hQ_ HB0.out
  go_wp2_with fail
  refine (only_calls 16 _).mono ?_
  rintro e w7 ⟨rfl,hb7⟩
  have HR7 := hQ_ (HR5.out.below hb7)
  have HA7 := hQ_ (At.below HVS.out HA5.out hb7)
  clear hb7
  go_wp2_with ((with_reducible refine pick none ?_); refine store_blk rfl 48 _ _ rfl (w.heap.size + 1) #[.int .i64 16,.int .i64 0,.slice none 0 0,.slice none 0 0,.int .u8 0,.int .u32 0,.int .u32 0,.int .u32 0] rfl rfl 48 _ HR7.out info_res rfl (by simp [Value.oneCell']) ?_; intro w8 hk8 hg8)
  have A8 := At.stored HVS.out HA7.out HR7.out (.inr (.inr rfl)) (by decide) hg8
  exact bodyPost_ret (v := onlyV 16) (results_cell_row rfl _ _ (w.heap.size + 1) 48 _ (0,0) _ rfl hk8 Tryz.underlying48 rfl info_res) rfl ⟨16,s,S,D,by rw [goW_nil]; rfl,rfl,(Dst.step HVS.out ⟨HRW.out,HDS.out,HNG.out⟩ A8.rep A8.st).1,(Dst.step HVS.out ⟨HRW.out,HDS.out,HNG.out⟩ A8.rep A8.st).2,⟨by rw [goW_nil]; exact Sm.refl _,by omega,by omega⟩⟩
theorem close_deed (hW0 : Wk Rep) {w : World} {g : Nat} {v : Value} {hs : List Int} {s : Vs} {S D : Nat → Prop} (o : Op20) (ino : Int) (hdd : Dst Rep w g v hs s S D) (hl : Lim s) (h2 : s.rd.length ≤ 18000) :
 Calls Tryz.prog 48 #[.pointer (some ⟨g,0,none⟩),o.val,.int .u32 ino] w (ClsD Rep g v s (clsD hs o.hn) S D w) := by
 obtain ⟨kind,path,other,hn,frm,n,da,dn,dc⟩ := o
 dsimp only [Op20.val,Op20.cells] at *
 obtain ⟨hr,hd,hng⟩ := hdd
 have hlt := hW0.stays.lt hr
 have hsub := hW0.stays.sub hr
 obtain ⟨W,hW⟩ : ∃ W,(w.alloc (.cells #[.int .u8 kind,.string path,.string other,.int .i64 hn,.int .i64 frm,.int .i64 n,.slice da dn dc] 41)).alloc (.cells zres 48) = W := ⟨_,rfl⟩
 have hs1 : (w.alloc (.cells #[.int .u8 kind,.string path,.string other,.int .i64 hn,.int .i64 frm,.int .i64 n,.slice da dn dc] 41)).heap.size = w.heap.size + 1 := by simp
 have hB : Blk W (w.heap.size + 1) zres 48 := by rw [← hW,← hs1]; exact Blk.new_ _ zres _
 have hO : Blk W w.heap.size #[.int .u8 kind,.string path,.string other,.int .i64 hn,.int .i64 frm,.int .i64 n,.slice da dn dc] 41 := by rw [← hW]; exact (Blk.new_ _ _ _).alloc _
 have hbW : Below w.heap.size w W := by rw [← hW]; exact (bW_).alloc (by rw [hs1]; omega) _
 have hsW : W.heap.size = w.heap.size + 2 := by rw [← hW]; simp
 have hbd : Below w.heap.size w W.drew := hbW.drew
 have HB0 : Hid (Blk W (w.heap.size + 1) zres 48) := hQ_ hB
 have HBD0 : Hid (Blk W.drew (w.heap.size + 1) zres 48) := hQ_ hB
 have HAW := hQ_ ((At.start hr).owns hW0.stays hbW (Q := fun b => b = w.heap.size ∨ b = w.heap.size + 1) (fun b h => by rw [hsW]; omega))
 have HA0 := hQ_ ((At.start hr).owns hW0.stays hbd (Q := fun b => b = w.heap.size ∨ b = w.heap.size + 1) (fun b h => by
  have e : W.drew.heap.size = W.heap.size := rfl
  rw [e,hsW]
  omega))
 have HIN := hQ_ (inode_calls (hd.below hbW) hn)
 have hib := inoD_bd hd.bd hn
 have h3 := cZ3 hO
 have RD : Hid (∀ q0,Chg (fun k => S k ∨ k = w.heap.size + 1) W q0 → Chg (fun k => S k ∨ k = w.heap.size + 1) W q0 ∧ q0.cell? ⟨g,0,none⟩ = some v ∧ q0.cell? ⟨w.heap.size,4,none⟩ = some (.int .i64 frm) ∧ q0.cell? ⟨w.heap.size,5,none⟩ = some (.int .i64 n) ∧ q0.cell? ⟨w.heap.size,6,none⟩ = some (.slice da dn dc)) := hQ_ (fun q0 hq => by
  obtain ⟨c1,c2⟩ := find_cells hd hng hlt hsub hbW hO hq
  exact ⟨hq,c1,c2 4,c2 5,c2 6⟩)
 have HOW := hQ_ hO
 have HW := hQ_ hW
 have HVS := hQ_ hW0.stays
 have HRW := hQ_ hr
 have HDS := hQ_ hd
 have HNG := hQ_ hng
 have HNS : Hid (¬ S g) := hQ_ (fun e => hng (hsub g e))
 have hj0 := fun h => inoD_hn (hs := hs) (hn := hn) h
 unfold clsD
 obtain ⟨⟨io,ie⟩,hI⟩ : ∃ I,inoD hs hn = I := ⟨_,rfl⟩
 have hie := inoD_er hs hn
 rw [hI] at HIN hie hj0 ⊢
 dsimp only at HIN hie hj0 ⊢
 rcases hie with rfl | rfl
 ·rw [if_pos rfl]
  obtain ⟨j,rfl,hj⟩ := hj0 rfl
  have hji : (j : Int) < 16 := by omega
  rw [show ((j : Nat) : Int).toNat = j from Int.toNat_natCast j]
  clear hW hs1 hO hB hbW hsW hbd hlt hsub hd hr hng hl h2 hW0 hI hib hj0 RD
  go_enter Tryz.func48,Tryz.ntmps48
  go_wp2_with fail
  rw [HW.out]
  go_wp2_with fail
  refine HIN.out.mono ?_
  rintro e w2 ⟨rfl,rfl⟩
  have HD5 := hQ_ (Dsk.chg HDS.out HA0.out.st.chg HNS.out)
  have HNE : Hid (w.heap.size ≠ g) := hQ_ (by have := HDS.out.blk.lt; omega)
  have HST := hQ_ (Dst.hand (x := 0) HVS.out (Dst.step HVS.out ⟨HRW.out,HDS.out,HNG.out⟩ HA0.out.rep HA0.out.st).1 (by omega : j < 16) (by decide) (by decide))
  have HR6 : Hid (Blk (W.drew.setCell ⟨g,1 + j,none⟩ (.int .u32 0)) (w.heap.size + 1) zres 48) := hQ_ (HBD0.out.far (p := ⟨g,1 + j,none⟩) (by have := HDS.out.blk.lt; show w.heap.size + 1 ≠ g; omega) _)
  go_wp2_with fail
  refine wp_region_held_drew (S := fun q0 => q0.cell? ⟨w.heap.size,3,none⟩ = some (.int .i64 (j : Int))) (by kernel_rfl) (h3) (fun hHeld => ?_)
  refine hw_ 0 (some 20) ?_
  refine hw_ 1 (some 21) ?_
  refine hw_ 2 (some 22) ?_
  refine hw_ 3 (some 23) ?_
  refine hw_ 4 (some 24) ?_
  refine hw_ 5 (some 25) ?_
  refine ho_step 6 none rfl rfl (by kernel_rfl) (by kernel_rfl) (fun K hK => ?_)
  have fh : W.drew.frozen? ⟨g,1 + j,none⟩ = false := HD5.out.blk.frozen _
  have ch : W.drew.cell? ⟨g,1 + j,none⟩ = some (.int .u32 (hs.getD j 0)) := HD5.out.hand (by omega)
  go_simp
  refine hK.out undef _ ((Blk.far (W := W.drew) (p := ⟨g,1 + j,none⟩) HOW.out HNE.out _).cell 3) (fun hHeld2 => ?_)
  clear hHeld
  have hHeld := hHeld2
  clear hHeld2
  clear hK K
  try simp only [pZ_]
  refine wpAnyH_done (by kernel_rfl) ?_ _
  go_wp2_with ((with_reducible refine pick none ?_); refine store_blk rfl 48 _ _ rfl (w.heap.size + 1) #[.int .i64 0,.int .i64 0,.slice none 0 0,.slice none 0 0,.int .u8 0,.int .u32 0,.int .u32 0,.int .u32 0] rfl rfl 48 _ HR6.out info_res rfl (by simp [Value.oneCell']) ?_; intro w8 hk8 hg8)
  have hmn := HA0.out.mine (w.heap.size + 1) (.inr (.inr rfl))
  have hZ := Dst.stored (w0 := w) HVS.out HST.out.1 HR6.out hg8 hmn.2.2 (by have := HDS.out.blk.lt; omega) (Nat.le_succ _) ((Dst.step HVS.out ⟨HRW.out,HDS.out,HNG.out⟩ HA0.out.rep HA0.out.st).2.trans HST.out.2)
  exact bodyPost_ret (v := onlyV 0) (results_cell_row rfl _ _ (w.heap.size + 1) 48 _ (0,0) _ rfl hk8 Tryz.underlying48 rfl info_res) rfl ⟨S,D,rfl,hZ.1,hZ.2⟩
 ·rw [if_neg (by decide)]
  clear hW hs1 hO hB hbW hsW hbd hlt hsub hd hr hng hl h2 hW0 hI hib RD h3 hj0
  go_enter Tryz.func48,Tryz.ntmps48
  go_wp2_with fail
  rw [HW.out]
  go_wp2_with fail
  refine HIN.out.mono ?_
  rintro e w2 ⟨rfl,rfl⟩
  have HA5 := hQ_ HAW.out
  have HR5 := hQ_ HB0.out
  go_wp2_with fail
  refine (only_calls 16 _).mono ?_
  rintro e w7 ⟨rfl,hb7⟩
  have HR7 := hQ_ (HR5.out.below hb7)
  have HA7 := hQ_ (At.below HVS.out HA5.out hb7)
  clear hb7
  go_wp2_with ((with_reducible refine pick none ?_); refine store_blk rfl 48 _ _ rfl (w.heap.size + 1) #[.int .i64 16,.int .i64 0,.slice none 0 0,.slice none 0 0,.int .u8 0,.int .u32 0,.int .u32 0,.int .u32 0] rfl rfl 48 _ HR7.out info_res rfl (by simp [Value.oneCell']) ?_; intro w8 hk8 hg8)
  have A8 := At.stored HVS.out HA7.out HR7.out (.inr (.inr rfl)) (by decide) hg8
  exact bodyPost_ret (v := onlyV 16) (results_cell_row rfl _ _ (w.heap.size + 1) 48 _ (0,0) _ rfl hk8 Tryz.underlying48 rfl info_res) rfl ⟨S,D,rfl,(Dst.step HVS.out ⟨HRW.out,HDS.out,HNG.out⟩ A8.rep A8.st).1,(Dst.step HVS.out ⟨HRW.out,HDS.out,HNG.out⟩ A8.rep A8.st).2⟩
theorem refuse_deed (hW0 : Wk Rep) {w : World} {g : Nat} {v : Value} {hs : List Int} {s : Vs} {S D : Nat → Prop} (o : Op20) (ino : Int) (hdd : Dst Rep w g v hs s S D) (hl : Lim s) (h2 : s.rd.length ≤ 18000) (hn0 : True) :
 Calls Tryz.prog 58 #[.pointer (some ⟨g,0,none⟩),o.val,.int .u32 ino] w (AnsN Rep g v hs s 28 0 [] 1 0 S D w) := by
 obtain ⟨kind,path,other,hn,frm,n,da,dn,dc⟩ := o
 dsimp only [Op20.val,Op20.cells] at *
 obtain ⟨hr,hd,hng⟩ := hdd
 have hlt := hW0.stays.lt hr
 have hsub := hW0.stays.sub hr
 obtain ⟨W,hW⟩ : ∃ W,(w.alloc (.cells #[.int .u8 kind,.string path,.string other,.int .i64 hn,.int .i64 frm,.int .i64 n,.slice da dn dc] 41)).alloc (.cells zres 48) = W := ⟨_,rfl⟩
 have hs1 : (w.alloc (.cells #[.int .u8 kind,.string path,.string other,.int .i64 hn,.int .i64 frm,.int .i64 n,.slice da dn dc] 41)).heap.size = w.heap.size + 1 := by simp
 have hB : Blk W (w.heap.size + 1) zres 48 := by rw [← hW,← hs1]; exact Blk.new_ _ zres _
 have hO : Blk W w.heap.size #[.int .u8 kind,.string path,.string other,.int .i64 hn,.int .i64 frm,.int .i64 n,.slice da dn dc] 41 := by rw [← hW]; exact (Blk.new_ _ _ _).alloc _
 have hbW : Below w.heap.size w W := by rw [← hW]; exact (bW_).alloc (by rw [hs1]; omega) _
 have hsW : W.heap.size = w.heap.size + 2 := by rw [← hW]; simp
 have hbd : Below w.heap.size w W.drew := hbW.drew
 have HB0 : Hid (Blk W (w.heap.size + 1) zres 48) := hQ_ hB
 have HAW := hQ_ ((At.start hr).owns hW0.stays hbW (Q := fun b => b = w.heap.size ∨ b = w.heap.size + 1) (fun b h => by rw [hsW]; omega))
 have HA0 := hQ_ ((At.start hr).owns hW0.stays hbd (Q := fun b => b = w.heap.size ∨ b = w.heap.size + 1) (fun b h => by
  have e : W.drew.heap.size = W.heap.size := rfl
  rw [e,hsW]
  omega))
 have hib := inoD_bd hd.bd hn
 have h3 := cZ3 hO
 have RD : Hid (∀ q0,Chg (fun k => S k ∨ k = w.heap.size + 1) W q0 → Chg (fun k => S k ∨ k = w.heap.size + 1) W q0 ∧ q0.cell? ⟨g,0,none⟩ = some v ∧ q0.cell? ⟨w.heap.size,4,none⟩ = some (.int .i64 frm) ∧ q0.cell? ⟨w.heap.size,5,none⟩ = some (.int .i64 n) ∧ q0.cell? ⟨w.heap.size,6,none⟩ = some (.slice da dn dc)) := hQ_ (fun q0 hq => by
  obtain ⟨c1,c2⟩ := find_cells hd hng hlt hsub hbW hO hq
  exact ⟨hq,c1,c2 4,c2 5,c2 6⟩)
 have HW := hQ_ hW
 have HVS := hQ_ hW0.stays
 have HRW := hQ_ hr
 have HDS := hQ_ hd
 have HNG := hQ_ hng
 have HA5 := hQ_ HAW.out
 have HR5 := hQ_ HB0.out
 clear hW hs1 hO hB hbW hsW hbd hlt hsub hd hr hng hl h2 hW0 hib RD h3
 go_enter Tryz.func58,Tryz.ntmps58
 go_wp2_with fail
 rw [HW.out]
 go_wp2_with fail
 refine (only_calls 28 _).mono ?_
 rintro e w7 ⟨rfl,hb7⟩
 have HR7 := hQ_ (HR5.out.below hb7)
 have HA7 := hQ_ (At.below HVS.out HA5.out hb7)
 clear hb7
 go_wp2_with ((with_reducible refine pick none ?_); refine store_blk rfl 48 _ _ rfl (w.heap.size + 1) #[.int .i64 28,.int .i64 0,.slice none 0 0,.slice none 0 0,.int .u8 0,.int .u32 0,.int .u32 0,.int .u32 0] rfl rfl 48 _ HR7.out info_res rfl (by simp [Value.oneCell']) ?_; intro w8 hk8 hg8)
 have A8 := At.stored HVS.out HA7.out HR7.out (.inr (.inr rfl)) (by decide) hg8
 exact bodyPost_ret (v := onlyV 28) (results_cell_row rfl _ _ (w.heap.size + 1) 48 _ (0,0) _ rfl hk8 Tryz.underlying48 rfl info_res) rfl ⟨28,s,S,D,by rw [goW_nil]; rfl,rfl,(Dst.step HVS.out ⟨HRW.out,HDS.out,HNG.out⟩ A8.rep A8.st).1,(Dst.step HVS.out ⟨HRW.out,HDS.out,HNG.out⟩ A8.rep A8.st).2,⟨by rw [goW_nil]; exact Sm.refl _,by omega,by omega⟩⟩
end Go.Proofs.YtogdjbhjgbnicaaGreatDoor.OpsV
namespace Go.Proofs.YtogdjbhjgbnicaaGreatDoor.OpsQ
open Go.RowKit
open Byte KeysM TreeM ViewM NodeM WalkM WalkF WalkKm DirsV Lst Chg TreeL ViewL WalkL Vat Ho DirsK DirsKa DirsKc OpsR OpsD OpsE OpsI OpsJ OpsK OpsS OpsO OpsV DirsBl
open Own hiding lower
variable {Rep : RepT}
def StaD (Rep : RepT) (g : Nat) (v : Value) (hs : List Int) (s : Vs) (path : ByteArray) (r : Int × Ino × Int) (S D : Nat → Prop) (w : World) (e : Ending) (w' : World) : Prop := ∃ s' S' D',e = .returned (resV r.2.2 0 (.slice none 0 0) (.slice none 0 0) r.2.1.k r.2.1.l r.2.1.s 0) ∧ Dst Rep w' g v hs s' S' D' ∧ Dstp S D S' D' g w w' ∧ FindR s path s'
theorem readdir_deed (hW0 : Wk Rep) (hLs : ListN Rep) {w : World} {g : Nat} {v : Value} {hs : List Int} {s : Vs} {S D : Nat → Prop} (o : Op20) (ino : Int) (hdd : Dst Rep w g v hs s S D) (hl : Lim s) (h2 : s.rd.length ≤ 18000) (h4 : s.rg.length ≤ 900) (hx : Mxs w S) (hp : o.path.size ≤ 100000) (hk : ∀ p ∈ s.shown,(sp p.key).letter ≠ 0) :
 Calls Tryz.prog 56 #[.pointer (some ⟨g,0,none⟩),o.val,.int .u32 ino] w (LstD Rep g v hs s (lstV s.shown o.path) S D w) := by
 obtain ⟨kind,path,other,hn,frm,n,da,dn,dc⟩ := o
 dsimp only [Op20.val,Op20.cells] at *
 obtain ⟨hr,hd,hng⟩ := hdd
 have hlt := hW0.stays.lt hr
 have hsub := hW0.stays.sub hr
 obtain ⟨W,hW⟩ : ∃ W,(w.alloc (.cells #[.int .u8 kind,.string path,.string other,.int .i64 hn,.int .i64 frm,.int .i64 n,.slice da dn dc] 41)).alloc (.cells zres 48) = W := ⟨_,rfl⟩
 have hs1 : (w.alloc (.cells #[.int .u8 kind,.string path,.string other,.int .i64 hn,.int .i64 frm,.int .i64 n,.slice da dn dc] 41)).heap.size = w.heap.size + 1 := by simp
 have hB : Blk W (w.heap.size + 1) zres 48 := by rw [← hW,← hs1]; exact Blk.new_ _ zres _
 have hO : Blk W w.heap.size #[.int .u8 kind,.string path,.string other,.int .i64 hn,.int .i64 frm,.int .i64 n,.slice da dn dc] 41 := by rw [← hW]; exact (Blk.new_ _ _ _).alloc _
 have hbW : Below w.heap.size w W := by rw [← hW]; exact (bW_).alloc (by rw [hs1]; omega) _
 have hsW : W.heap.size = w.heap.size + 2 := by rw [← hW]; simp
 have hbd : Below w.heap.size w W.drew := hbW.drew
 have HBD0 : Hid (Blk W.drew (w.heap.size + 1) zres 48) := hQ_ hB
 have HA0 := hQ_ ((At.start hr).owns hW0.stays hbd (Q := fun b => b = w.heap.size ∨ b = w.heap.size + 1) (fun b h => by
  have e : W.drew.heap.size = W.heap.size := rfl
  rw [e,hsW]
  omega))
 have hib := inoD_bd hd.bd hn
 have h3 := cZ3 hO
 have RD : Hid (∀ q0,Chg (fun k => S k ∨ k = w.heap.size + 1) W q0 → Chg (fun k => S k ∨ k = w.heap.size + 1) W q0 ∧ q0.cell? ⟨g,0,none⟩ = some v ∧ q0.cell? ⟨w.heap.size,1,none⟩ = some (.string path) ∧ q0.cell? ⟨w.heap.size,2,none⟩ = some (.string other)) := hQ_ (fun q0 hq => by
  obtain ⟨c1,c2⟩ := find_cells hd hng hlt hsub hbW hO hq
  exact ⟨hq,c1,c2 1,c2 2⟩)
 have HW := hQ_ hW
 have HVS := hQ_ hW0.stays
 have HRW := hQ_ hr
 have HDS := hQ_ hd
 have HNG := hQ_ hng
 have hcc := DirsBl.lst_calls hW0 hLs path (hW0.stays.below hr hbd) hl h2 h4 (hx.below hbd) hp hk
 obtain ⟨⟨l,er⟩,hR⟩ : ∃ R,lstV s.shown path = R := ⟨_,rfl⟩
 rw [hR] at hcc ⊢
 unfold ListB at hcc
 have HC := hQ_ hcc
 clear hW hs1 hO hB hbW hsW hbd hlt hsub hd hr hng hl h2 h4 hx hp hk hW0 hLs hcc hR hib h3
 go_enter Tryz.func56,Tryz.ntmps56
 go_wp2_with fail
 rw [HW.out]
 go_wp2_with fail
 refine wp_region_held_drew (S := fun q0 => Chg (fun k => S k ∨ k = w.heap.size + 1) W q0 ∧ q0.cell? ⟨g,0,none⟩ = some v ∧ q0.cell? ⟨w.heap.size,1,none⟩ = some (.string path) ∧ q0.cell? ⟨w.heap.size,2,none⟩ = some (.string other)) (by kernel_rfl) (RD.out _ (Chg.refl (fun k => S k ∨ k = w.heap.size + 1) W).drew) (fun hHeld => ?_)
 refine hw_ 0 (some 10) ?_
 refine hw_ 1 (some 11) ?_
 refine hw_ 2 (some 12) ?_
 refine hw_ 3 (some 13) ?_
 refine hw_ 4 (some 14) ?_
 refine hw_ 5 (some 15) ?_
 refine ho_step 6 (some 16) rfl rfl (by kernel_rfl) (by kernel_rfl) (fun K hK => ?_)
 go_simp
 go_at_call 89
 refine HC.out.mono ?_
 rintro e w3 ⟨ua,m3,uc,s',S',D',rfl,ho3,hno3,hr3,st3,aft3⟩
 have hq3 : Chg (fun k => S k ∨ k = w.heap.size + 1) W w3 := (Chg.refl (fun k => S k ∨ k = w.heap.size + 1) W).drew.trans (st3.chg.mono (fun _ _ h => .inl h))
 try go_wp2_with fail
 refine hK.out _ _ (RD.out _ hq3) (fun hHeld2 => ?_)
 clear hHeld
 have hHeld := hHeld2
 clear hHeld2
 clear hK K
 try simp only [pZ_]
 refine hw_ 7 (some 9) ?_
 refine hw_ 8 (some 17) ?_
 refine hw_ 9 (some 18) ?_
 refine hw_ 10 (some 7) ?_
 refine hw_ 11 (some 8) ?_
 refine wpAnyH_done (by kernel_rfl) ?_ _
 have HA5 := hQ_ (At.step HVS.out HA0.out hr3 st3)
 have HR5 := hQ_ (At.blk HVS.out HA0.out HBD0.out (.inr (.inr rfl)) st3)
 have HO3 := hQ_ ho3
 have HF5 := hQ_ aft3
 have HNO := hQ_ hno3
 have HWS := hQ_ (show w.heap.size + 1 < W.drew.heap.size from HBD0.out.lt)
 clear hHeld hq3 hr3 st3 ho3 aft3 hno3
 go_wp2_with ((with_reducible refine pick none ?_); refine store_blk rfl 48 _ _ rfl (w.heap.size + 1) #[.int .i64 er,.int .i64 0,.slice none 0 0,.slice ua m3 uc,.int .u8 0,.int .u32 0,.int .u32 0,.int .u32 0] rfl rfl 48 _ HR5.out info_res rfl (by simp [Value.oneCell']) ?_; intro w8 hk8 hg8)
 have A8 := At.stored HVS.out HA5.out HR5.out (.inr (.inr rfl)) (by decide) hg8
 have ho8 := So.grown HO3.out hg8 (by
  cases hb : (Value.slice ua m3 uc).ownBlock with
  | none => exact .inl rfl
  | some q =>
    refine .inr (fun e => ?_)
    have := (HO3.out.lt hb).1
    have := HWS.out
    injection e with e
    omega)
 exact bodyPost_ret (v := resV er 0 (.slice none 0 0) (.slice ua m3 uc) 0 0 0 0) (results_cell_row rfl _ _ (w.heap.size + 1) 48 _ (0,0) _ rfl hk8 Tryz.underlying48 rfl info_res) rfl ⟨ua,m3,uc,s',S',D',rfl,So.lower ho8 (Nat.le_trans (Nat.le_succ _) (Nat.le_of_lt HWS.out)),(Dst.step HVS.out ⟨HRW.out,HDS.out,HNG.out⟩ A8.rep A8.st).1,(Dst.step HVS.out ⟨HRW.out,HDS.out,HNG.out⟩ A8.rep A8.st).2,HNO.out,HF5.out⟩
theorem stat_deed (hW0 : Wk Rep) {w : World} {g : Nat} {v : Value} {hs : List Int} {s : Vs} {S D : Nat → Prop} (o : Op20) (ino : Int) (hdd : Dst Rep w g v hs s S D) (hl : Lim s) (h2 : s.rd.length ≤ 18000) (h4 : s.rg.length ≤ 900) (hx : Mxs w S) (hp : o.path.size ≤ 100000) :
 Calls Tryz.prog 57 #[.pointer (some ⟨g,0,none⟩),o.val,.int .u32 ino] w (StaD Rep g v hs s o.path (leadM s.shown o.path) S D w) := by
 obtain ⟨kind,path,other,hn,frm,n,da,dn,dc⟩ := o
 dsimp only [Op20.val,Op20.cells] at *
 obtain ⟨hr,hd,hng⟩ := hdd
 have hlt := hW0.stays.lt hr
 have hsub := hW0.stays.sub hr
 obtain ⟨W,hW⟩ : ∃ W,(w.alloc (.cells #[.int .u8 kind,.string path,.string other,.int .i64 hn,.int .i64 frm,.int .i64 n,.slice da dn dc] 41)).alloc (.cells zres 48) = W := ⟨_,rfl⟩
 have hs1 : (w.alloc (.cells #[.int .u8 kind,.string path,.string other,.int .i64 hn,.int .i64 frm,.int .i64 n,.slice da dn dc] 41)).heap.size = w.heap.size + 1 := by simp
 have hB : Blk W (w.heap.size + 1) zres 48 := by rw [← hW,← hs1]; exact Blk.new_ _ zres _
 have hO : Blk W w.heap.size #[.int .u8 kind,.string path,.string other,.int .i64 hn,.int .i64 frm,.int .i64 n,.slice da dn dc] 41 := by rw [← hW]; exact (Blk.new_ _ _ _).alloc _
 have hbW : Below w.heap.size w W := by rw [← hW]; exact (bW_).alloc (by rw [hs1]; omega) _
 have hsW : W.heap.size = w.heap.size + 2 := by rw [← hW]; simp
 have hbd : Below w.heap.size w W.drew := hbW.drew
 have HBD0 : Hid (Blk W.drew (w.heap.size + 1) zres 48) := hQ_ hB
 have HA0 := hQ_ ((At.start hr).owns hW0.stays hbd (Q := fun b => b = w.heap.size ∨ b = w.heap.size + 1) (fun b h => by
  have e : W.drew.heap.size = W.heap.size := rfl
  rw [e,hsW]
  omega))
 have hib := inoD_bd hd.bd hn
 have h3 := cZ3 hO
 have RD : Hid (∀ q0,Chg (fun k => S k ∨ k = w.heap.size + 1) W q0 → Chg (fun k => S k ∨ k = w.heap.size + 1) W q0 ∧ q0.cell? ⟨g,0,none⟩ = some v ∧ q0.cell? ⟨w.heap.size,1,none⟩ = some (.string path) ∧ q0.cell? ⟨w.heap.size,2,none⟩ = some (.string other)) := hQ_ (fun q0 hq => by
  obtain ⟨c1,c2⟩ := find_cells hd hng hlt hsub hbW hO hq
  exact ⟨hq,c1,c2 1,c2 2⟩)
 have HW := hQ_ hW
 have HVS := hQ_ hW0.stays
 have HRW := hQ_ hr
 have HDS := hQ_ hd
 have HNG := hQ_ hng
 have HBD := hQ_ hbd
 have HSW := hQ_ hsW
 obtain ⟨⟨li,⟨lk,ll,lz,lp⟩,er⟩,hL⟩ : ∃ R,leadM s.shown path = R := ⟨_,rfl⟩
 have HC := hQ_ (fun (u : World) (hb : Below w.heap.size w u) => lead_calls hW0 path (hW0.stays.below hr hb) hl (by omega) hp (hx.below hb))
 unfold LeadR at HC
 rw [hL] at HC ⊢
 dsimp only at HC ⊢
 clear hW hs1 hO hB hbW hsW hbd hlt hsub hd hr hng hl h2 h4 hx hW0 hp hL hib h3
 go_enter Tryz.func57,Tryz.ntmps57
 go_wp2_with fail
 rw [HW.out]
 go_wp2_with fail
 refine wp_region_held_drew (S := fun q0 => Chg (fun k => S k ∨ k = w.heap.size + 1) W q0 ∧ q0.cell? ⟨g,0,none⟩ = some v ∧ q0.cell? ⟨w.heap.size,1,none⟩ = some (.string path) ∧ q0.cell? ⟨w.heap.size,2,none⟩ = some (.string other)) (by kernel_rfl) (RD.out _ (Chg.refl _ _).drew) (fun hHeld => ?_)
 refine hw_ 0 (some 11) ?_
 refine hw_ 1 (some 12) ?_
 refine hw_ 2 (some 13) ?_
 refine hw_ 3 (some 14) ?_
 refine hw_ 4 (some 15) ?_
 refine hw_ 5 (some 16) ?_
 refine ho_fork 6 11 (some 17) (some 8) rfl rfl rfl rfl (by kernel_rfl) (by kernel_rfl) (by kernel_rfl) (fun K hK => ?_) (fun K hK => ?_)
 go_simp
 go_at_call 79
 refine (HC.out _ HBD.out).mono ?_
 rintro e w3 ⟨s',S',D',rfl,hr3,st3,hf3⟩
 have A3 := At.step HVS.out HA0.out hr3 st3
 have hq3 : Chg (fun k => S k ∨ k = w.heap.size + 1) W w3 := (Chg.refl (fun k => S k ∨ k = w.heap.size + 1) W).drew.trans (st3.chg.mono (fun _ _ h => .inl h))
 try go_wp2_with fail
 refine hK.out _ _ (RD.out _ hq3) (fun hHeld2 => ?_)
 clear hHeld
 have hHeld := hHeld2
 clear hHeld2
 clear hK K
 try simp only [pZ_]
 have hR3 := At.blk HVS.out HA0.out HBD0.out (.inr (.inr rfl)) st3
 refine hw_ 7 (some 10) ?_
 refine hw_ 8 (some 18) ?_
 refine hw_ 9 (some 19) ?_
 refine hw_ 10 (some 20) ?_
 refine ho_step 11 (some 8) rfl rfl (by kernel_rfl) (by kernel_rfl) (fun K hK => ?_)
 go_simp
 refine hK.out _ _ (RD.out _ (hq3.alloc _)) (fun hHeld2 => ?_)
 clear hHeld
 have hHeld := hHeld2
 clear hHeld2
 clear hK K
 try simp only [pZ_]
 have hbn := bN_ w3 (.cells #[.int .u8 0,.int .u32 0,.int .u32 0,.int .u32 0] 46)
 have hib0 : W.heap.size ≤ w3.heap.size := hq3.size
 have A4 := At.own HVS.out A3 hbn (r := w3.heap.size) (Nat.le_refl _) (by simp)
 have hI4 := Blk.new_ w3 #[.int .u8 0,.int .u32 0,.int .u32 0,.int .u32 0] 46
 have hR4 := hR3.below hbn
 have hq4 := hq3.alloc (.cells #[.int .u8 0,.int .u32 0,.int .u32 0,.int .u32 0] 46)
 obtain ⟨w4,hw4⟩ : ∃ w4,w3.alloc (.cells #[.int .u8 0,.int .u32 0,.int .u32 0,.int .u32 0] 46) = w4 := ⟨_,rfl⟩
 obtain ⟨ib,hib⟩ : ∃ ib,w3.heap.size = ib := ⟨_,rfl⟩
 rw [hw4] at hHeld A4 hI4 hR4 hq4 ⊢
 rw [hib] at hib0 A4 hI4 ⊢
 have hrb : w.heap.size + 1 ≠ ib := by have := HSW.out; omega
 clear hR3 hw4 hib hbn hq3 A3 hr3
 rotate_left
 go_simp
 refine hK.out _ _ (RD.out _ ((Chg.refl (fun k => S k ∨ k = w.heap.size + 1) W).drew.alloc _)) (fun hHeld2 => ?_)
 clear hHeld
 have hHeld := hHeld2
 clear hHeld2
 clear hK K
 try simp only [pZ_]
 have hbn := bN_ W.drew (.cells #[.int .u8 0,.int .u32 0,.int .u32 0,.int .u32 0] 46)
 have hib0 : W.heap.size ≤ W.heap.size := Nat.le_refl _
 have A2 := At.own HVS.out HA0.out hbn (r := W.heap.size) (Nat.le_refl _) (by simp)
 have hI2 : Blk (W.drew.alloc (.cells #[.int .u8 0,.int .u32 0,.int .u32 0,.int .u32 0] 46)) W.heap.size #[.int .u8 0,.int .u32 0,.int .u32 0,.int .u32 0] 46 := Blk.new_ W.drew #[.int .u8 0,.int .u32 0,.int .u32 0,.int .u32 0] 46
 have hR2 := HBD0.out.below hbn
 have hq2 := (Chg.refl (fun k => S k ∨ k = w.heap.size + 1) W).drew.alloc (.cells #[.int .u8 0,.int .u32 0,.int .u32 0,.int .u32 0] 46)
 have hb2 := Own.keeps HBD.out hbn
 refine ho_step 6 (some 17) rfl rfl (by kernel_rfl) (by kernel_rfl) (fun K hK => ?_)
 go_simp
 go_at_call 79
 refine (HC.out _ hb2).mono ?_
 rintro e w3 ⟨s',S',D',rfl,hr3,st3,hf3⟩
 have A3 := At.step HVS.out A2 hr3 st3
 have hq3 : Chg (fun k => S k ∨ k = w.heap.size + 1) W w3 := hq2.trans (st3.chg.mono (fun _ _ h => .inl h))
 try go_wp2_with fail
 refine hK.out _ _ (RD.out _ hq3) (fun hHeld2 => ?_)
 clear hHeld
 have hHeld := hHeld2
 clear hHeld2
 clear hK K
 try simp only [pZ_]
 refine hw_ 7 (some 10) ?_
 refine hw_ 8 (some 18) ?_
 refine hw_ 9 (some 19) ?_
 refine hw_ 10 (some 20) ?_
 have hI4 := At.blk HVS.out A2 hI2 (.inr rfl) st3
 have hR4 := At.blk HVS.out A2 hR2 (.inl (.inr (.inr rfl))) st3
 have hq4 := hq3
 have A4 := A3
 obtain ⟨w4,hw4⟩ : ∃ w4,w4 = w3 := ⟨_,rfl⟩
 subst hw4
 obtain ⟨ib,hib⟩ : ∃ ib,W.heap.size = ib := ⟨_,rfl⟩
 have hib1 : W.heap.size ≤ ib := by omega
 rw [hib] at A4 hI4 ⊢
 have hrb : w.heap.size + 1 ≠ ib := by have := HSW.out; omega
 clear hR2 hI2 A2 hib hbn hq3 A3 hr3 hib0 hq2 hb2
 have hib0 := hib1
 clear hib1
 all_goals
  refine hw_ 12 (some 7) ?_
  refine Hor.ho_row 13 46 _ _ ib #[.int .u8 lk,.int .u32 ll,.int .u32 lz,.int .u32 lp] 46 _ rfl rfl rfl (by kernel_rfl) (by kernel_rfl) rfl rfl hI4 info_ino rfl (by simp [Value.oneCell']) (fun w5 hk5 hg5 => RD.out _ (hq4.then_ (Chg.of_grown hg5 (fun k hk => .inl hk)) (fun i hi e => by injection e with e; omega))) (fun w5 hk5 hg5 => ?_)
  clear hHeld
  refine hw_ 14 (some 9) ?_ (hS := RD.out _ (hq4.then_ (Chg.of_grown hg5 (fun k hk => .inl hk)) (fun i hi e => by injection e with e; omega)))
  refine wpAnyH_done (by kernel_rfl) ?_ _
  have A5 := At.stored HVS.out A4 hI4 (.inr rfl) (by decide) hg5
  have hR5 := hR4.grown hg5 hrb
  have HA5 := hQ_ A5
  have HR5 := hQ_ hR5
  have HF5 := hQ_ hf3
  have ki := cC3 hk5
  clear hI4 hR4 hq4 A4 hg5 hk5 hR5 A5 hrb hib0 st3 hf3
  go_wp2_with ((with_reducible refine pick none ?_); refine store_blk rfl 48 _ _ rfl (w.heap.size + 1) #[.int .i64 er,.int .i64 0,.slice none 0 0,.slice none 0 0,.int .u8 lk,.int .u32 ll,.int .u32 lz,.int .u32 0] rfl rfl 48 _ HR5.out info_res rfl (by simp [Value.oneCell']) ?_; intro w8 hk8 hg8)
  have A8 := At.stored HVS.out HA5.out HR5.out (.inl (.inr (.inr rfl))) (by decide) hg8
  exact bodyPost_ret (v := resV er 0 (.slice none 0 0) (.slice none 0 0) lk ll lz 0) (results_cell_row rfl _ _ (w.heap.size + 1) 48 _ (0,0) _ rfl hk8 Tryz.underlying48 rfl info_res) rfl ⟨s',S',D',rfl,(Dst.step HVS.out ⟨HRW.out,HDS.out,HNG.out⟩ A8.rep A8.st).1,(Dst.step HVS.out ⟨HRW.out,HDS.out,HNG.out⟩ A8.rep A8.st).2,HF5.out⟩
end Go.Proofs.YtogdjbhjgbnicaaGreatDoor.OpsQ
namespace Go.Proofs.YtogdjbhjgbnicaaGreatDoor.OpsTa
open Go.RowKit
open Byte KeysM TreeM ViewM NodeM WalkM WalkF WalkKm DirsV Lst Chg TreeL ViewL WalkL WalkV Vat DirsK DirsKa DirsKc FileV FileKd FileKe FileKf OpsR OpsD OpsE OpsI OpsJ OpsK OpsS OpsO OpsW OpsT OpsU OpsV OpsQ RgN DirsBl DirsBm
open Own hiding lower
variable {Rep : RepT}
structure Out where
 er : Int
 n : Int
 ys : List Int
 names : List ByteArray
 k : Int
 l : Int
 z : Int
 hs : List Int
 ps : List Wrt
abbrev Out.err (hs : List Int) (x : Int × List Wrt) : Out := ⟨x.1,0,[],[],0,0,0,hs,x.2⟩
def outO (L : List Pr) (hs : List Int) (o : Op20) (xs : List Int) (ino : Int) : Out :=
 if o.kind = 4 then .err hs (makV L o.path 1 ino) else if o.kind = 5 then .err hs (makV L o.path 2 ino)
 else if o.kind = 6 then ⟨(opnV L hs o.path).1,(opnV L hs o.path).2.1,[],[],0,0,0,(opnV L hs o.path).2.2,[]⟩
 else if o.kind = 7 then .err (clsD hs o.hn).2 ((clsD hs o.hn).1,[])
 else if o.kind = 8 then (if (inoD hs o.hn).2 = 0 then ⟨(reaV L (inoD hs o.hn).1 o.frm o.n).2,((reaV L (inoD hs o.hn).1 o.frm o.n).1.length : Int),(reaV L (inoD hs o.hn).1 o.frm o.n).1,[],0,0,0,hs,[]⟩ else .err hs (16,[]))
 else if o.kind = 9 then ⟨(wrtD L hs o.hn o.frm xs).1,o.dn,[],[],0,0,0,hs,(wrtD L hs o.hn o.frm xs).2⟩
 else if o.kind = 10 then .err hs (truD L hs o.hn o.n)
 else if o.kind = 11 then .err hs (renB L o.path o.other) else if o.kind = 12 then .err hs (lnkV L o.path o.other) else if o.kind = 13 then .err hs (ulkB L o.path) else if o.kind = 14 then .err hs (rmdV L o.path)
 else if o.kind = 15 then ⟨(lstV L o.path).2,0,[],(lstV L o.path).1,0,0,0,hs,[]⟩
 else if o.kind = 16 then ⟨(leadM L o.path).2.2,0,[],[],(leadM L o.path).2.1.k,(leadM L o.path).2.1.l,(leadM L o.path).2.1.s,hs,[]⟩
 else .err hs (28,[])
structure QA (R : Out) (s : Vs) (r : Res20) (b : Nat) (u : World) (hs' : List Int) (s' : Vs) : Prop where
 hs : hs' = R.hs
 aft : Aft s s' R.ps 84 1
 er : r.er = if (goW s R.ps).2 = true then R.er else 21
 n : r.n = if r.er = 0 then R.n else 0
 ys : So u8E 5 u b (.slice r.da r.dn r.dc) r.dn R.ys
 names : So Tx.txE 9 u b (.slice r.na r.nn r.nc) r.nn R.names
 k : r.k = R.k
 l : r.l = R.l
 z : r.s = R.z
 p : r.p = 0
theorem So.keep_ {α : Type} {e : Enc α} {T : TypeId} {w w' : World} {b c n : Nat} {v : Value} {L : List α} (h : So e T w b v n L) (hg : w.grownBy w' (some c)) (hlt : c < b) : So e T w' b v n L := So.grown h hg (by
 cases hb : v.ownBlock with
 | none => exact .inl rfl
 | some q =>
   refine .inr (fun e => ?_)
   have := (h.lt hb).1
   injection e with e
   omega)
theorem qA {R : Out} {s : Vs} : Qk (QA R s) := ⟨fun h hg hlt => ⟨h.hs,h.aft,h.er,h.n,So.keep_ h.ys hg hlt,So.keep_ h.names hg hlt,h.k,h.l,h.z,h.p⟩,fun h hb => ⟨h.hs,h.aft,h.er,h.n,h.ys.lower hb,h.names.lower hb,h.k,h.l,h.z,h.p⟩⟩
theorem qA_err {s s' : Vs} {hs : List Int} {x : Int × List Wrt} {b : Nat} {u : World} {k m : Nat} (ha : Aft s s' x.2 k m) (hk : k ≤ 84) (hm : m ≤ 1) : QA (.err hs x) s (resN (if (goW s x.2).2 = true then x.1 else 21) 0) b u hs s' := ⟨rfl,ha.more hk hm,rfl,(ite_self _).symm,So.nil_ _ _ _ _,So.nil_ _ _ _ _,rfl,rfl,rfl,rfl⟩
section
variable {w : World} {g : Nat} {v : Value} {hs : List Int} {s : Vs} {S D : Nat → Prop}
theorem any_ansO (hV : Stays Rep) {x : Int × List Wrt} {k m : Nat} (hdd : Dst Rep w g v hs s S D) (hk : k ≤ 84) (hm : m ≤ 1) {e : Ending} {w' : World} (h : AnsO Rep v s x.1 x.2 k m S D w e w') : DoE Rep (QA (.err hs x) s) g v S D w e w' := by
 obtain ⟨s',S',D',he,hr,st,ha⟩ := h
 exact ⟨resN (if (goW s x.2).2 = true then x.1 else 21) 0,hs,s',S',D',he,(hdd.step hV hr st).1,(hdd.step hV hr st).2,off_n,qA_err ha hk hm⟩
theorem any_ansN {er N : Int} {ps : List Wrt} {k m : Nat} (hk : k ≤ 84) (hm : m ≤ 1) {e : Ending} {w' : World} (h : AnsN Rep g v hs s er N ps k m S D w e w') : DoE Rep (QA ⟨er,N,[],[],0,0,0,hs,ps⟩ s) g v S D w e w' := by
 obtain ⟨J,s',S',D',hJ,he,hd,st,ha⟩ := h
 exact ⟨resN J (if J = 0 then N else 0),hs,s',S',D',he,hd,st,off_n,rfl,ha.more hk hm,hJ,rfl,So.nil_ _ _ _ _,So.nil_ _ _ _ _,rfl,rfl,rfl,rfl⟩
theorem aft_find {path : ByteArray} {s' : Vs} (hf : FindR s path s') : Aft s s' [] 84 1 := Aft.nil (Sm.of_find hf) (by have := hf.len; omega) (by rw [hf.rg]; omega)
theorem opn_er (L : List Pr) (hs : List Int) (path : ByteArray) : (opnV L hs path).1 ≠ 0 → (opnV L hs path).2.1 = 0 := by
 unfold opnV
 repeat' split
 all_goals intro h; first | rfl | exact absurd rfl h
theorem rea_er (L : List Pr) (ino a n : Int) : (reaV L ino a n).2 ≠ 0 → (reaV L ino a n).1 = [] := by
 unfold reaV
 repeat' split
 all_goals intro h; first | rfl | exact absurd rfl h
theorem any_calls (hW0 : Wk Rep) (hLk : LookOk Rep) (hSt : SetOk Rep) (hCp : CpN Rep) (hRn : RangeN Rep) (hLs : ListN Rep) (o : Op20) (ino : Int) (hdd : Dst Rep w g v hs s S D) (hl : Lim s) (h2 : s.rd.length ≤ 18000) (h3 : s.rg.length ≤ 900) (hx : Mxs w S)
 (hp : o.path.size ≤ 100000) (hp2 : o.other.size ≤ 100000) (i0 : 0 ≤ ino) (i1 : ino ≤ 4294967295) (hk : ∀ p ∈ s.shown,(sp p.key).letter ≠ 0) (hv : V64 s.shown (inoD hs o.hn).1)
 (a0 : -9223372036854775808 ≤ o.frm) (a1 : o.frm ≤ 9223372036854775807) (n0 : -9223372036854775808 ≤ o.n) (n1 : o.n ≤ 9223372036854775807) {xs : List Int} (hxs : Bs w o.da o.dn xs) (hc : o.dn ≤ o.dc) (hbig : o.dc ≤ 9223372036854775807) (hA : 0 < o.dn → ∀ b of,o.da = some ⟨b,of,none⟩ → ¬ S b ∧ b < w.heap.size) :
 Calls Tryz.prog 15 #[.pointer (some ⟨g,0,none⟩),o.val,.int .u32 ino] w (DoE Rep (QA (outO s.shown hs o xs ino) s) g v S D w) := by
 unfold outO
 by_cases c4 : o.kind = 4
 ·rw [if_pos c4]
  refine do_at hW0.stays qA o ino hdd (by rw [c4]; exact fun args w => by kernel_rfl) (fun u hb hu => ?_)
  rw [c4]
  exact (create_deed hW0 o ino hu.dsk hu.rep hu.ng hl h2 h3 (hx.below hb) hp i0 i1).mono (fun _ _ h => any_ansO hW0.stays hu (by omega) (by omega) h)
 rw [if_neg c4]
 by_cases c5 : o.kind = 5
 ·rw [if_pos c5]
  refine do_at hW0.stays qA o ino hdd (by rw [c5]; exact fun args w => by kernel_rfl) (fun u hb hu => ?_)
  rw [c5]
  exact (mkdir_deed hW0 o ino hu.dsk hu.rep hu.ng hl h2 h3 (hx.below hb) hp i0 i1).mono (fun _ _ h => any_ansO hW0.stays hu (by omega) (by omega) h)
 rw [if_neg c5]
 by_cases c6 : o.kind = 6
 ·rw [if_pos c6]
  refine do_at hW0.stays qA o ino hdd (by rw [c6]; exact fun args w => by kernel_rfl) (fun u hb hu => ?_)
  rw [c6]
  refine (open_deed hW0 o ino hu hl h2 h3 (hx.below hb) hp).mono ?_
  rintro e u' ⟨s',S',D',he,hd,st,hf⟩
  refine ⟨resN _ _,_,s',S',D',he,hd,st,off_n,rfl,aft_find hf,rfl,?_,So.nil_ _ _ _ _,So.nil_ _ _ _ _,rfl,rfl,rfl,rfl⟩
  show (opnV s.shown hs o.path).2.1 = if (opnV s.shown hs o.path).1 = 0 then (opnV s.shown hs o.path).2.1 else 0
  by_cases h0 : (opnV s.shown hs o.path).1 = 0
  ·rw [if_pos h0]
  ·rw [if_neg h0,opn_er _ _ _ h0]
 rw [if_neg c6]
 by_cases c7 : o.kind = 7
 ·rw [if_pos c7]
  refine do_at hW0.stays qA o ino hdd (by rw [c7]; exact fun args w => by kernel_rfl) (fun u hb hu => ?_)
  rw [c7]
  refine (close_deed hW0 o ino hu hl h2).mono ?_
  rintro e u' ⟨S',D',he,hd,st⟩
  exact ⟨resN (clsD hs o.hn).1 0,_,s,S',D',he,hd,st,off_n,qA_err (x := ((clsD hs o.hn).1,[])) (k := 0) (m := 0) (Aft.nil (Sm.refl s) (Nat.le_refl _) (Nat.le_refl _)) (by omega) (by omega)⟩
 rw [if_neg c7]
 by_cases c8 : o.kind = 8
 ·rw [if_pos c8]
  refine do_at hW0.stays qA o ino hdd (by rw [c8]; exact fun args w => by kernel_rfl) (fun u hb hu => ?_)
  rw [c8]
  refine (read_deed hW0 hLk o ino hu hl h2 a0 a1 n0 n1 hv).mono ?_
  intro e u' h
  by_cases h0 : (inoD hs o.hn).2 = 0
  ·rw [if_pos h0] at h ⊢
   obtain ⟨a,m,c,S',D',he,ho,hd,st,hno⟩ := h
   refine ⟨⟨_,(m : Int),a,m,c,none,0,0,0,0,0,0⟩,hs,_,S',D',he,hd,st,⟨hno,fun _ _ h => by (have h' : (none : Option Addr) = some _ := h; cases h')⟩,rfl,(FileKh.aft_load s _).1.more (by omega) (by omega),rfl,?_,ho,So.nil_ _ _ _ _,rfl,rfl,rfl,rfl⟩
   have hm : (reaV s.shown (inoD hs o.hn).1 o.frm o.n).1.length = m := ho.1
   show (m : Int) = if (reaV s.shown (inoD hs o.hn).1 o.frm o.n).2 = 0 then ((reaV s.shown (inoD hs o.hn).1 o.frm o.n).1.length : Int) else 0
   by_cases h1 : (reaV s.shown (inoD hs o.hn).1 o.frm o.n).2 = 0
   ·rw [if_pos h1,hm]
   ·rw [if_neg h1,← hm,rea_er _ _ _ _ h1]
    rfl
  ·rw [if_neg h0] at h ⊢
   exact any_ansN (by omega) (by omega) h
 rw [if_neg c8]
 by_cases c9 : o.kind = 9
 ·rw [if_pos c9]
  refine do_at hW0.stays qA o ino hdd (by rw [c9]; exact fun args w => by kernel_rfl) (fun u hb hu => ?_)
  rw [c9]
  exact (write_deed hW0 hLk hSt o ino hu hl h2 a0 a1 (hxs.below hb) hc hbig (fun h b of e => ⟨(hA h b of e).1,Nat.lt_of_lt_of_le (hA h b of e).2 hb.size⟩) hv).mono (fun _ _ h => any_ansN (by omega) (by omega) h)
 rw [if_neg c9]
 by_cases c10 : o.kind = 10
 ·rw [if_pos c10]
  refine do_at hW0.stays qA o ino hdd (by rw [c10]; exact fun args w => by kernel_rfl) (fun u hb hu => ?_)
  rw [c10]
  exact (truncate_deed hW0 hLk hSt hCp o ino hu hl h2 n0 n1 hk hv).mono (fun _ _ h => any_ansN (by omega) (by omega) h)
 rw [if_neg c10]
 by_cases c11 : o.kind = 11
 ·rw [if_pos c11]
  refine do_at hW0.stays qA o ino hdd (by rw [c11]; exact fun args w => by kernel_rfl) (fun u hb hu => ?_)
  rw [c11]
  exact (rename_deed hW0 o ino hu.dsk hu.rep hu.ng hl h2 h3 (hx.below hb) hp hp2 hk hRn).mono (fun _ _ h => any_ansO hW0.stays hu (by omega) (by omega) h)
 rw [if_neg c11]
 by_cases c12 : o.kind = 12
 ·rw [if_pos c12]
  refine do_at hW0.stays qA o ino hdd (by rw [c12]; exact fun args w => by kernel_rfl) (fun u hb hu => ?_)
  rw [c12]
  exact (link_deed hW0 o ino hu.dsk hu.rep hu.ng hl h2 h3 (hx.below hb) hp hp2).mono (fun _ _ h => any_ansO hW0.stays hu (by omega) (by omega) h)
 rw [if_neg c12]
 by_cases c13 : o.kind = 13
 ·rw [if_pos c13]
  refine do_at hW0.stays qA o ino hdd (by rw [c13]; exact fun args w => by kernel_rfl) (fun u hb hu => ?_)
  rw [c13]
  exact (unlink_deed hW0 o ino hu.dsk hu.rep hu.ng hl h2 h3 (hx.below hb) hp hk hRn).mono (fun _ _ h => any_ansO hW0.stays hu (by omega) (by omega) h)
 rw [if_neg c13]
 by_cases c14 : o.kind = 14
 ·rw [if_pos c14]
  refine do_at hW0.stays qA o ino hdd (by rw [c14]; exact fun args w => by kernel_rfl) (fun u hb hu => ?_)
  rw [c14]
  exact (rmdir_deed hW0 o ino hu.dsk hu.rep hu.ng hl h2 h3 (hx.below hb) hp hk).mono (fun _ _ h => any_ansO hW0.stays hu (by omega) (by omega) h)
 rw [if_neg c14]
 by_cases c15 : o.kind = 15
 ·rw [if_pos c15]
  refine do_at hW0.stays qA o ino hdd (by rw [c15]; exact fun args w => by kernel_rfl) (fun u hb hu => ?_)
  rw [c15]
  refine (readdir_deed hW0 hLs o ino hu hl h2 h3 (hx.below hb) hp hk).mono ?_
  rintro e u' ⟨a,m,c,s',S',D',he,ho,hd,st,hno,ha⟩
  exact ⟨⟨_,0,none,0,0,a,m,c,0,0,0,0⟩,hs,s',S',D',he,hd,st,⟨fun _ _ h => by (have h' : (none : Option Addr) = some _ := h; cases h'),hno⟩,rfl,ha.more (by omega) (by omega),rfl,(ite_self _).symm,So.nil_ _ _ _ _,ho,rfl,rfl,rfl,rfl⟩
 rw [if_neg c15]
 by_cases c16 : o.kind = 16
 ·rw [if_pos c16]
  refine do_at hW0.stays qA o ino hdd (by rw [c16]; exact fun args w => by kernel_rfl) (fun u hb hu => ?_)
  rw [c16]
  refine (stat_deed hW0 o ino hu hl h2 h3 (hx.below hb) hp).mono ?_
  rintro e u' ⟨s',S',D',he,hd,st,hf⟩
  exact ⟨⟨_,0,none,0,0,none,0,0,_,_,_,0⟩,hs,s',S',D',he,hd,st,⟨fun _ _ h => by (have h' : (none : Option Addr) = some _ := h; cases h'),fun _ _ h => by (have h' : (none : Option Addr) = some _ := h; cases h')⟩,rfl,aft_find hf,rfl,(ite_self _).symm,So.nil_ _ _ _ _,So.nil_ _ _ _ _,rfl,rfl,rfl,rfl⟩
 rw [if_neg c16]
 have hF : deedF o.kind = 58 := by
  unfold deedF
  rw [if_neg c4,if_neg c5,if_neg c6,if_neg c7,if_neg c8,if_neg c9,if_neg c10,if_neg c11,if_neg c12,if_neg c13,if_neg c14,if_neg c15,if_neg c16]
 refine do_at hW0.stays qA o ino hdd (by rw [hF]; exact fun args w => by kernel_rfl) (fun u hb hu => ?_)
 rw [hF]
 exact (refuse_deed hW0 o ino hu hl h2 trivial).mono (fun _ _ h => any_ansN (by omega) (by omega) h)
end
end Go.Proofs.YtogdjbhjgbnicaaGreatDoor.OpsTa
namespace Go.Proofs.YtogdjbhjgbnicaaGreatDoor.OpsM
open Byte PackM KeysM ViewM ViewKm NodeM NamesM WalkM WalkF WalkKm DirsV DirsBm FileM FileV FileKd FileKe OpsR OpsI OpsS OpsW OpsV OpsTa
open TreeM (Pr Rise putL getL)
def Fine (L : List Pr) : Prop := ∀ p ∈ L,(sp p.key).letter ≠ 0 ∧ p.value.size ≤ 64
def GoodP (p : Pr) : Prop := p.gone = false → (sp p.key).letter ≠ 0 ∧ p.value.size ≤ 64
def GoodW (p : Wrt) : Prop := ∀ L,GoodP (p L)
theorem good_nil : Fine [] := fun p hp => by cases hp
theorem good_done {L : List Pr} (h : Fine L) {p : Pr} (hp : GoodP p) : Fine (doneW L p) := fun q hq => by
 rcases mem_done.1 hq with ⟨h1,rfl⟩ | ⟨h1,_⟩
 ·exact hp h1
 ·exact h q h1
theorem good_write {s : Vs} (ho : s.Ok) (h : Fine s.shown) {p : Pr} (hp : GoodP p) : Fine (s.write p).shown := by
 unfold Vs.write
 split
 ·exact h
 ·show Fine (shownL s.base (writeW s.base s.wr p))
  rw [shown_write ho.base ho.wr]
  exact good_done h hp
theorem good_go : ∀ (ps : List Wrt) {s : Vs},s.Ok → Fine s.shown → (∀ p ∈ ps,GoodW p) → Fine (goW s ps).1.shown ∧ (goW s ps).1.Ok
 | [],s,ho,h,_ => ⟨h,ho⟩
 | p :: ps,s,ho,h,hp => by
   cases hf : fullW s.wr (p s.shown) with
   | true =>
     rw [goW_full hf]
     exact ⟨h,ho⟩
   | false =>
     rw [goW_room hf]
     exact good_go ps (ok_write ho _) (good_write ho h (hp p (by simp) _)) (fun q hq => hp q (by simp [hq]))
theorem good_v64 {L : List Pr} (hr : Rise L) (h : Fine L) (ino : Int) : V64 L ino := fun q q0 q1 => by
 cases hg : getL (kD ino q) L with
 | none => exact Nat.zero_le _
 | some p =>
   show (txt p.value).length ≤ 64
   rw [txt_len]
   exact (h p ((DirsX.get_iff hr).1 hg).1).2
theorem good_hk {L : List Pr} (h : Fine L) : ∀ p ∈ L,(sp p.key).letter ≠ 0 := fun p hp => (h p hp).1
theorem g_save (ino k l z p : Int) (h0 : 0 ≤ ino) (h1 : ino ≤ 4294967295) : GoodW (saveP ino k l z p) := fun L _ => ⟨by show (sp (kI ino)).letter ≠ 0; rw [sp_I ino h0 h1]; exact (by decide : (73 : Int) ≠ 0),by show (nput k l z p).size ≤ 64; rw [NodeM.nput_size]; omega⟩
theorem g_tie (d m : Int) (h0 : 0 ≤ d) (h1 : d ≤ 4294967295) : GoodW (tieP d m) := fun L h => g_save d _ _ _ _ h0 h1 L h
theorem g_adopt (p ino : Int) (h0 : 0 ≤ ino) (h1 : ino ≤ 4294967295) : GoodW (adoptP p ino) := fun L h => g_save ino _ _ _ _ h0 h1 L h
theorem g_drop (ino : Int) : GoodW (dropP ino) := fun L h => by cases h
theorem g_del (k : ByteArray) : GoodW (delP k) := fun L h => by cases h
theorem g_unhang (d : Int) (n : ByteArray) : GoodW (unhangP d n) := fun L h => by cases h
theorem g_hang (d : Int) (n : ByteArray) (ino : Int) (h0 : 0 ≤ d) (h1 : d ≤ 4294967295) (h2 : 0 < n.size) (h3 : n.size ≤ 32) : GoodW (hangP d n ino) := fun L _ => ⟨by show (sp (kE d n)).letter ≠ 0; rw [sp_E d n h0 h1 h2 h3]; exact (by decide : (69 : Int) ≠ 0),by show (hangV ino).size ≤ 64; rw [hangV_size]; omega⟩
theorem g_put (ino which : Int) (b : List Int) (h0 : 0 ≤ ino) (h1 : ino ≤ 4294967295) (w0 : 0 ≤ which) (w1 : which ≤ 65535) (hb : b.length ≤ 64) : GoodW (FileV.putP ino which b) := fun L _ => ⟨by show (sp (kD ino which)).letter ≠ 0; rw [sp_D ino which h0 h1 w0 w1]; exact (by decide : (68 : Int) ≠ 0),put_small ino which b L hb⟩
theorem g_drp (L : List Pr) (ino f : Int) : ∀ p ∈ drpPs L ino f,GoodW p := fun p hp => by
 unfold drpPs at hp
 obtain ⟨q,_,rfl⟩ := List.mem_map.1 hp
 exact g_del _
end Go.Proofs.YtogdjbhjgbnicaaGreatDoor.OpsM
namespace Go.Proofs.YtogdjbhjgbnicaaGreatDoor.OpsN
open Byte PackM KeysM ViewM ViewKm NodeM NamesM WalkM WalkF WalkKm DirsV DirsBm FileM FileV FileKd FileKe OpsR OpsI OpsS OpsW OpsV OpsTa OpsM
open TreeM (Pr Rise putL getL)
theorem spl_pos (s : ByteArray) : ∀ x ∈ (spl s).1,0 < x.size := by
 unfold spl
 split
 ·exact fun x hx => by cases hx
 ·split
  ·exact fun x hx => by cases hx
  ·split
   ·exact fun x hx => by cases hx
   ·split
    ·rename_i h
     rw [Bool.and_eq_true,decide_eq_true_eq] at h
     exact fun x hx => (name_pos (List.all_eq_true.1 h.1 x hx)).1
    ·exact fun x hx => by cases hx
theorem findL_nm (L : List Pr) : ∀ (names : List ByteArray) (x : Spot),(0 < x.name.size ∨ x.ino = 1) → (∀ y ∈ names,0 < y.size) → (findL L x names).2 = 0 → 0 < (findL L x names).1.name.size ∨ (findL L x names).1.ino = 1
 | [],x,h,_,_ => h
 | name :: r,x,h,hn,he => by
   unfold findL at he ⊢
   split at he
   ·exact absurd he (show (10 : Int) ≠ 0 by decide)
   ·rename_i a
    rw [if_neg a]
    split at he
    ·exact absurd he (show (12 : Int) ≠ 0 by decide)
    ·rename_i b
     rw [if_neg b]
     refine findL_nm L r _ (.inl ?_) (fun y hy => hn y (by simp [hy])) he
     have hp := hn name (by simp)
     unfold stepM
     split
     ·exact hp
     ·exact hp
theorem find_nm (L : List Pr) (path : ByteArray) (he : (findM L path).2 = 0) (hi : (findM L path).1.ino ≠ 1) : 0 < (findM L path).1.name.size := by
 have h : (spl path).2 = 0 → findM L path = findL L ⟨0,⟨#[]⟩,1,(loadM L 1).1⟩ (spl path).1 := fun h => by
  unfold findM
  rw [if_neg (fun h2 => h2 h)]
 by_cases hs : (spl path).2 = 0
 ·rw [h hs] at he hi ⊢
  rcases findL_nm L _ _ (.inr rfl) (spl_pos path) he with h1 | h1
  ·exact h1
  ·exact absurd h1 hi
 ·have e : findM L path = (spot0,(spl path).2) := by
   unfold findM
   rw [if_pos hs]
  rw [e] at he
  exact absurd he hs
theorem all2 {p q : Wrt} (h1 : GoodW p) (h2 : GoodW q) : ∀ x ∈ [p,q],GoodW x := fun x hx => by
 rcases List.mem_cons.1 hx with rfl | hx
 ·exact h1
 ·rw [List.mem_singleton] at hx
  rw [hx]
  exact h2
theorem all3 {p q r : Wrt} (h1 : GoodW p) (h2 : GoodW q) (h3 : GoodW r) : ∀ x ∈ [p,q,r],GoodW x := fun x hx => by
 rcases List.mem_cons.1 hx with rfl | hx
 ·exact h1
 ·exact all2 h2 h3 x hx
theorem all_app {l m : List Wrt} (h1 : ∀ x ∈ l,GoodW x) (h2 : ∀ x ∈ m,GoodW x) : ∀ x ∈ l ++ m,GoodW x := fun x hx => by
 rcases List.mem_append.1 hx with h | h
 ·exact h1 x h
 ·exact h2 x h
theorem all_nil : ∀ x ∈ ([] : List Wrt),GoodW x := fun x hx => by cases hx
theorem mak_good (L : List Pr) (path : ByteArray) (kind ino : Int) (i0 : 0 ≤ ino) (i1 : ino ≤ 4294967295) : ∀ p ∈ (makV L path kind ino).2,GoodW p := by
 unfold makV
 have hb := find_bd L path
 split
 ·exact all_nil
 ·rename_i a
  split
  ·exact all_nil
  ·rename_i b
   have hz : (findM L path).1.ino = 0 := Classical.not_not.1 b
   have hn := find_nm L path (Classical.not_not.1 a) (by rw [hz]; decide)
   split
   ·exact all2 (g_save _ _ _ _ _ i0 i1) (g_hang _ _ _ hb.d0 hb.d1 hn hb.nm)
   ·exact all3 (g_save _ _ _ _ _ i0 i1) (g_hang _ _ _ hb.d0 hb.d1 hn hb.nm) (g_tie _ _ hb.d0 hb.d1)
theorem rem_good (L : List Pr) {x : Spot} (hb : SpotB x) : ∀ p ∈ (remV L x).2,GoodW p := by
 unfold remV
 split
 ·exact all_nil
 ·split
  ·exact all_nil
  ·exact all3 (g_unhang _ _) (g_drop _) (g_tie _ _ hb.d0 hb.d1)
theorem unl_good (L : List Pr) {x : Spot} (hb : SpotB x) : ∀ p ∈ (unlB L x).2,GoodW p := by
 unfold unlB
 split
 ·exact all_nil
 ·split
  ·exact all2 (g_unhang _ _) (g_save _ _ _ _ _ hb.i0 hb.i1)
  ·refine all_app (all_app (fun x hx => ?_) (g_drp L _ _)) (fun x hx => ?_)
   ·rw [List.mem_singleton] at hx
    rw [hx]
    exact g_unhang _ _
   ·rw [List.mem_singleton] at hx
    rw [hx]
    exact g_drop _
theorem rmd_good (L : List Pr) (path : ByteArray) : ∀ p ∈ (rmdV L path).2,GoodW p := by
 unfold rmdV
 split
 ·exact all_nil
 ·split
  ·exact all_nil
  ·split
   ·exact all_nil
   ·exact rem_good L (find_bd L path)
theorem ulk_good (L : List Pr) (path : ByteArray) : ∀ p ∈ (ulkB L path).2,GoodW p := by
 unfold ulkB
 split
 ·exact all_nil
 ·split
  ·exact all_nil
  ·exact unl_good L (find_bd L path)
theorem lnk_good (L : List Pr) (old path : ByteArray) : ∀ p ∈ (lnkV L old path).2,GoodW p := by
 unfold lnkV
 have hb := find_bd L path
 have hb2 := find_bd L old
 split
 ·exact all_nil
 ·split
  ·exact all_nil
  ·split
   ·exact all_nil
   ·split
    ·exact all_nil
    ·rename_i a
     split
     ·exact all_nil
     ·rename_i b
      split
      ·exact all_nil
      ·have hz : (findM L path).1.ino = 0 := Classical.not_not.1 b
       exact all2 (g_hang _ _ _ hb.d0 hb.d1 (find_nm L path (Classical.not_not.1 a) (by rw [hz]; decide)) hb.nm) (g_save _ _ _ _ _ hb2.i0 hb2.i1)
theorem clr_good (L : List Pr) {x : Spot} (hb : SpotB x) (d : Bool) : ∀ p ∈ (clrB L x d).2,GoodW p := by
 unfold clrB
 split
 ·exact all_nil
 ·split
  ·exact rem_good L hb
  ·exact unl_good L hb
theorem mov_good {x y : Spot} (hx : SpotB x) (hy : SpotB y) (hn : 0 < y.name.size) : ∀ p ∈ movPs x y,GoodW p := by
 have hh := g_hang y.dir y.name x.ino hy.d0 hy.d1 hn hy.nm
 unfold movPs
 split
 ·exact all_app (l := [_,_]) (m := [_,_,_]) (all2 (g_unhang _ _) hh) (all3 (g_adopt _ _ hx.i0 hx.i1) (g_tie _ _ hx.d0 hx.d1) (g_tie _ _ hy.d0 hy.d1))
 ·exact all2 (g_unhang _ _) hh
theorem ren_good (L : List Pr) (old path : ByteArray) : ∀ p ∈ (renB L old path).2,GoodW p := by
 unfold renB
 split
 ·exact all_nil
 ·split
  ·exact all_nil
  ·split
   ·exact all_nil
   ·split
    ·exact all_nil
    ·rename_i a
     split
     ·exact all_nil
     ·rename_i b
      split
      ·exact all_nil
      ·split
       ·exact all_nil
       ·split
        ·exact all_nil
        ·exact all_app (clr_good L (find_bd L path) _) (mov_good (find_bd L old) (find_bd L path) (find_nm L path (Classical.not_not.1 a) b))
theorem wrp_good (ino : Int) (p : Int × Int × Int) (xs : List Int) (h0 : 0 ≤ ino) (h1 : ino ≤ 4294967295) (hp : PcOk p) (hx : xs.length ≤ p.2.2.toNat) : GoodW (wrP ino p xs) := fun L h => by
 have := hp.f0; have := hp.m0; have := hp.m1; have := hp.b0; have := hp.b1
 refine g_put ino p.1 _ h0 h1 (by omega) (by omega) ?_ L h
 rw [setB_len _ _ _ (by rw [getB_len]; omega),getB_len]
 exact Nat.le_refl _
theorem wrps_good (ino : Int) (h0 : 0 ≤ ino) (h1 : ino ≤ 4294967295) : ∀ (P : List (Int × Int × Int)) (xs : List Int),(∀ p ∈ P,PcOk p) → ∀ q ∈ wrPs ino xs P,GoodW q
 | [],xs,_,q,hq => by cases hq
 | p :: P,xs,hP,q,hq => by
   unfold wrPs at hq
   rcases List.mem_cons.1 hq with rfl | hq
   ·exact wrp_good ino p _ h0 h1 (hP p (by simp)) (by rw [List.length_take]; omega)
   ·exact wrps_good ino h0 h1 P _ (fun r hr => hP r (by simp [hr])) q hq
theorem cutV_ok (a n : Int) : ∀ p ∈ cutV a n,PcOk p := by
 unfold cutV
 split
 ·exact fun p hp => by cases hp
 ·exact cuts_ok _ (by omega) (by omega)
theorem wri_good (L : List Pr) (ino a : Int) (b : List Int) (h0 : 0 ≤ ino) (h1 : ino ≤ 4294967295) : ∀ p ∈ (wriV L ino a b).2,GoodW p := by
 unfold wriV
 split
 ·exact all_nil
 ·split
  ·exact all_nil
  ·split
   ·exact all_nil
   ·split
    ·exact all_nil
    ·refine all_app (wrps_good ino h0 h1 _ _ (cutV_ok _ _)) (fun x hx => ?_)
     rw [List.mem_singleton] at hx
     rw [hx]
     exact g_save _ _ _ _ _ h0 h1
theorem sho_good (L : List Pr) (ino z : Int) (h0 : 0 ≤ ino) (h1 : ino ≤ 4294967295) (z0 : 0 ≤ z) (z1 : z ≤ 4096) : ∀ p ∈ shoPs L ino z,GoodW p := by
 unfold shoPs
 split
 ·exact all_nil
 ·intro x hx
  rw [List.mem_singleton] at hx
  rw [hx]
  exact g_put ino _ _ h0 h1 (by omega) (by omega) (by rw [List.length_take]; omega)
theorem tru_good (L : List Pr) (ino z : Int) (h0 : 0 ≤ ino) (h1 : ino ≤ 4294967295) : ∀ p ∈ (truV L ino z).2,GoodW p := by
 unfold truV
 split
 ·exact all_nil
 ·split
  ·exact all_nil
  ·split
   ·exact all_nil
   ·refine all_app (g_drp L _ _) (all_app (sho_good _ _ _ h0 h1 (by omega) (by omega)) (fun x hx => ?_))
    rw [List.mem_singleton] at hx
    rw [hx]
    exact g_save _ _ _ _ _ h0 h1
theorem out_good (L : List Pr) {hs : List Int} (o : Op20) (xs : List Int) (ino : Int) (hh : ∀ x ∈ hs,0 ≤ x ∧ x ≤ 4294967295) (i0 : 0 ≤ ino) (i1 : ino ≤ 4294967295) : ∀ p ∈ (outO L hs o xs ino).ps,GoodW p := by
 have hib := inoD_bd hh o.hn
 unfold outO
 by_cases c4 : o.kind = 4
 ·rw [if_pos c4]
  exact mak_good L _ _ _ i0 i1
 rw [if_neg c4]
 by_cases c5 : o.kind = 5
 ·rw [if_pos c5]
  exact mak_good L _ _ _ i0 i1
 rw [if_neg c5]
 by_cases c6 : o.kind = 6
 ·rw [if_pos c6]
  exact all_nil
 rw [if_neg c6]
 by_cases c7 : o.kind = 7
 ·rw [if_pos c7]
  exact all_nil
 rw [if_neg c7]
 by_cases c8 : o.kind = 8
 ·rw [if_pos c8]
  split <;> exact all_nil
 rw [if_neg c8]
 by_cases c9 : o.kind = 9
 ·rw [if_pos c9]
  show ∀ p ∈ (wrtD L hs o.hn o.frm xs).2,GoodW p
  unfold wrtD
  split
  ·exact wri_good L _ _ _ hib.1 hib.2
  ·exact all_nil
 rw [if_neg c9]
 by_cases c10 : o.kind = 10
 ·rw [if_pos c10]
  show ∀ p ∈ (truD L hs o.hn o.n).2,GoodW p
  unfold truD
  split
  ·exact tru_good L _ _ hib.1 hib.2
  ·exact all_nil
 rw [if_neg c10]
 by_cases c11 : o.kind = 11
 ·rw [if_pos c11]
  exact ren_good L _ _
 rw [if_neg c11]
 by_cases c12 : o.kind = 12
 ·rw [if_pos c12]
  exact lnk_good L _ _
 rw [if_neg c12]
 by_cases c13 : o.kind = 13
 ·rw [if_pos c13]
  exact ulk_good L _
 rw [if_neg c13]
 by_cases c14 : o.kind = 14
 ·rw [if_pos c14]
  exact rmd_good L _
 rw [if_neg c14]
 by_cases c15 : o.kind = 15
 ·rw [if_pos c15]
  exact all_nil
 rw [if_neg c15]
 by_cases c16 : o.kind = 16
 ·rw [if_pos c16]
  exact all_nil
 rw [if_neg c16]
 exact all_nil
end Go.Proofs.YtogdjbhjgbnicaaGreatDoor.OpsN
namespace Go.Proofs.YtogdjbhjgbnicaaGreatDoor.OpsP
open Go.RowKit
open Byte KeysM ViewM DirsV Lst Chg ViewL WalkL Vat DirsK DirsKa DirsKc FileKe FileKf OpsR OpsE OpsI OpsS OpsT OpsTa OpsM OpsN RgN DirsBl
open TreeM (Pr Rise)
open TreeL (Kept)
open Own hiding lower
variable {Rep : RepT}
structure Vw20 (Rep : RepT) : Prop where
 wk : Wk Rep
 look : LookOk Rep
 set_ : SetOk Rep
 cp : CpN Rep
 rn : RangeN Rep
 ls : ListN Rep
structure OpB (w : World) (S : Nat → Prop) (o : Op20) (xs : List Int) : Prop where
 path : o.path.size ≤ 100000
 other : o.other.size ≤ 100000
 frm : -9223372036854775808 ≤ o.frm ∧ o.frm ≤ 9223372036854775807
 n : -9223372036854775808 ≤ o.n ∧ o.n ≤ 9223372036854775807
 bs : Bs w o.da o.dn xs
 fit : o.dn ≤ o.dc
 big : o.dc ≤ 9223372036854775807
 off : 0 < o.dn → ∀ b of,o.da = some ⟨b,of,none⟩ → ¬ S b ∧ b < w.heap.size
structure Pk (Rep : RepT) (k : Nat) (w : World) (g : Nat) (v : Value) (hs : List Int) (s : Vs) (S D : Nat → Prop) : Prop where
 dst : Dst Rep w g v hs s S D
 good : Fine s.shown
 base : s.base.length ≤ 1000
 rd : s.rd.length ≤ 84 * k
 rg : s.rg.length ≤ k
 mx : Mxs w S
 gx : g ≠ 0
section
variable {k : Nat} {w w' : World} {g : Nat} {v : Value} {hs hs' : List Int} {s s' : Vs} {S D S' D' : Nat → Prop}
theorem mxs_dstp (h : Mxs w S) (hg : g ≠ 0) (st : Dstp S D S' D' g w w') : Mxs w' S' := by
 refine ⟨?_,fun hq => ?_⟩
 ·obtain ⟨m,hm⟩ := h.1
  exact ⟨m,st.chg.cell hm (fun e => by
   rcases e with e | e
   ·exact h.2 e
   ·exact hg e.symm)⟩
 ·rcases st.own _ hq with h1 | h1
  ·exact h.2 h1
  ·have := h.lt
   omega
theorem good_aft {ps : List Wrt} {a b : Nat} (ho : s.Ok) (h : Fine s.shown) (hp : ∀ p ∈ ps,GoodW p) (ha : Aft s s' ps a b) : Fine s'.shown := by
 rw [ha.sm.shown]
 exact (good_go ps ho h hp).1
theorem Pk.next (hV : Stays Rep) (h : Pk Rep k w g v hs s S D) {o : Op20} {xs : List Int} {ino : Int} {r : Res20} {b : Nat} (i0 : 0 ≤ ino) (i1 : ino ≤ 4294967295) (hd : Dst Rep w' g v hs' s' S' D') (st : Dstp S D S' D' g w w') (hq : QA (outO s.shown hs o xs ino) s r b w' hs' s') : Pk Rep (k + 1) w' g v hs' s' S' D' := by
 have ha := hq.aft
 refine ⟨hd,good_aft (hV.ok h.dst.rep) h.good (out_good _ o xs ino h.dst.dsk.bd i0 i1) ha,?_,?_,?_,mxs_dstp h.mx h.gx st,h.gx⟩
 ·rw [ha.sm.base,goW_base]
  exact h.base
 ·have := ha.rd
  have := h.rd
  omega
 ·have := ha.rg
  have := h.rg
  omega
theorem Pk.do_ (hV : Vw20 Rep) (h : Pk Rep k w g v hs s S D) (hk : k ≤ 200) (o : Op20) {xs : List Int} (ino : Int) (hb : OpB w S o xs) (i0 : 0 ≤ ino) (i1 : ino ≤ 4294967295) :
 Calls Tryz.prog 15 #[.pointer (some ⟨g,0,none⟩),o.val,.int .u32 ino] w fun e w' => ∃ (r : Res20) (hs' : List Int) (s' : Vs) (S' D' : Nat → Prop),e = .returned r.val ∧ Pk Rep (k + 1) w' g v hs' s' S' D' ∧ Dstp S D S' D' g w w' ∧ QA (outO s.shown hs o xs ino) s r w.heap.size w' hs' s' ∧ Off r D' := by
 have hrd := h.rd
 have hrg := h.rg
 have hl : Lim s := ⟨h.base,by omega,by omega⟩
 refine (any_calls hV.wk hV.look hV.set_ hV.cp hV.rn hV.ls o ino h.dst hl (by omega) (by omega) h.mx hb.path hb.other i0 i1 (good_hk h.good) (good_v64 (ViewM.rise_shown (hV.wk.stays.ok h.dst.rep).base _) h.good _) hb.frm.1 hb.frm.2 hb.n.1 hb.n.2 hb.bs hb.fit hb.big hb.off).mono ?_
 rintro e w' ⟨r,hs',s',S',D',he,hd,st,ho,hq⟩
 exact ⟨r,hs',s',S',D',he,h.next hV.wk.stays i0 i1 hd st hq,st,hq,ho⟩
end
end Go.Proofs.YtogdjbhjgbnicaaGreatDoor.OpsP
namespace Go.Proofs.YtogdjbhjgbnicaaGreatDoor.OpsC
open Go.RowKit
open Byte Lst Chg OpsR
open FileKd
open Own hiding keeps lower
def o7E : Enc Op20 := ⟨fun x => [.int .u8 x.kind,.string x.path,.string x.other,.int .i64 x.hn,.int .i64 x.frm,.int .i64 x.n,.slice x.da x.dn x.dc],7,fun _ => rfl,fun x u hu => by
 simp only [List.mem_cons,List.mem_nil_iff,or_false] at hu
 rcases hu with rfl | rfl | rfl | rfl | rfl | rfl | rfl <;> rfl,by decide⟩
theorem cut_calls (A : Option Addr) (n c : Nat) (L : List Op20) (w : World) (hl : Sl o7E w A n L) (hn : n ≤ c) (hc : c ≤ maxLen) :
 Calls Tryz.prog 13 #[.slice A n c] w fun e w' => ∃ m,e = .returned (.slice A m c) ∧ m ≤ n ∧ m ≤ 60 ∧ (∀ i o,i < m → L[i]? = some o → great o = false) ∧ Below w.heap.size w w' := by
 unfold maxLen at hc
 have HL := hQ_ hl
 clear hl
 go_enter Tryz.func13,Tryz.ntmps13
 go_wp2
 go_loopw [7] (fun i wr => ∃ k : Nat,k ≤ n ∧ k ≤ 60 ∧ (∀ i o,i < k → L[i]? = some o → great o = false) ∧ i = .int .i64 k ∧ Below w.heap.size w wr) (fun i _ => n - (intOf i).toNat)
 case atStart => exact ⟨0,Nat.zero_le _,Nat.zero_le _,fun i o hi => by omega,rfl,Below.refl _ _⟩
 case round =>
  obtain ⟨k,hk,hk2,hgr,rfl,hbel⟩ := hrel
  have HGR := hQ_ hgr
  clear hgr
  by_cases hlt : k < n
  ·obtain ⟨x,g,o,hx,rfl,hg,hcl⟩ := (HL.out.below hbel).get k hlt
   have HX := hQ_ hx
   have hgc := great_calls x
   obtain ⟨gr,hgrx⟩ : ∃ gr,great x = gr := ⟨_,rfl⟩
   rw [hgrx] at hgc
   have HG := hQ_ hgrx
   clear hgrx
   obtain ⟨kind,path,other,hn',frm,m,da,dn,dc⟩ := x
   have HGC := hQ_ hgc
   have HC : Hid (wr.rangeAt g (o + k * 7) [.int .u8 kind,.string path,.string other,.int .i64 hn',.int .i64 frm,.int .i64 m,.slice da dn dc]) := hQ_ hcl
   have hbs := hbel.size
   have hkc : k ≤ c := by omega
   have hb1 : Below w.heap.size w (wr.alloc (.cells #[.int .u8 kind,.string path,.string other,.int .i64 hn',.int .i64 frm,.int .i64 m,.slice da dn dc] 41)) := hbel.alloc hbs _
   have HB1 := hQ_ hb1
   clear hcl hx hbel hb1 hgc
   by_cases q : 60 ≤ k
   ·have d1 : decide ((k : Int) ≥ 60) = true := decide_eq_true (by omega)
    go_wp2_with ((with_reducible refine pick (some 11) ?_); refine wpList_load_mid rfl 41 _ rfl g (o + k * 7) rfl _ _ HC.out Tryz.underlying41 rfl info_op20 ?_)
    go_ret
    exact ⟨k,rfl,hk,hk2,HGR.out,HB1.out⟩
   ·have d1 : decide ((k : Int) ≥ 60) = false := decide_eq_false (by omega)
    go_wp2_with ((with_reducible refine pick (some 11) ?_); refine wpList_load_mid rfl 41 _ rfl g (o + k * 7) rfl _ _ HC.out Tryz.underlying41 rfl info_op20 ?_)
    refine (HGC.out _).mono ?_
    rintro e w2 ⟨rfl,hb2⟩
    have HB2 := hQ_ (Own.keeps HB1.out hb2)
    clear hb2
    cases gr with
    | true =>
      go_wp2_with fail
      go_ret
      exact ⟨k,rfl,hk,hk2,HGR.out,HB2.out⟩
    | false =>
      go_wp2_with fail
      go_roundw
      case rel =>
       refine ⟨k + 1,by omega,by omega,fun i o hi ho => ?_,by go_num,HB2.out⟩
       by_cases e : i = k
       ·subst e
        rw [HX.out] at ho
        injection ho with ho
        rw [← ho]
        exact HG.out
       ·exact HGR.out i o (by omega) ho
      case measure => simp [intOf]; omega
  ·obtain rfl : k = n := by omega
   have HBL := hQ_ hbel
   clear hbel
   go_wp2
   go_ret
   exact ⟨k,rfl,Nat.le_refl _,hk2,HGR.out,HBL.out⟩
theorem sl_bs {w : World} {A : Option Addr} {n : Nat} {L : List Int} (h : Sl u8E w A n L) (hb : ∀ x ∈ L,0 ≤ x ∧ x ≤ 255) : Bs w A n L := by
 refine ⟨h.1,hb,fun k hk => ?_⟩
 obtain ⟨x,b,o,hx,e,hlt,hc⟩ := h.get k hk
 refine ⟨b,o,e,hlt,?_⟩
 have h0 := hc 0 _ rfl
 rw [List.getD_eq_getElem?_getD,hx]
 have e2 : o + k * u8E.size + 0 = o + k := by show o + k * 1 + 0 = o + k; omega
 rw [e2] at h0
 exact h0
theorem bs_sl {w : World} {A : Option Addr} {n : Nat} {L : List Int} (h : Bs w A n L) : Sl u8E w A n L := by
 refine ⟨h.1,fun j x hj => ?_⟩
 have hjl := (List.getElem?_eq_some_iff.1 hj).1
 obtain ⟨b,o,e,hlt,hc⟩ := h.2.2 j (by rw [← h.1]; exact hjl)
 rw [List.getD_eq_getElem?_getD,hj] at hc
 refine ⟨b,o,e,hlt,fun i u hu => ?_⟩
 cases i with
 | zero =>
   have hu2 : u = .int .u8 x := by
    have : some (Value.int .u8 x) = some u := hu
    injection this with this
    exact this.symm
   rw [hu2,show o + j * u8E.size + 0 = o + j by show o + j * 1 + 0 = o + j; omega]
   exact hc
 | succ i => have : (none : Option Value) = some u := hu; cases this
theorem own_some {w : World} {base n g0 g1 : Nat} {x : Value} {L : List Int} (ho : So u8E 5 w base x n L) (hat : x.ownBlock = some g0 ∨ x.ownBlock = some g1) : ∃ g cap,x = .slice (some ⟨g,0,none⟩) n cap ∧ base ≤ g ∧ g < w.heap.size ∧ n ≤ cap ∧ cap ≤ maxLen := by
 rcases ho.form with ⟨e1,e2⟩ | ⟨g,cap,e1,h1,h2,h3,h4⟩
 ·rw [e1] at hat
  rcases hat with q | q <;> cases q
 ·exact ⟨g,cap,e1,h1,h2,h3,h4⟩
abbrev withD (o : Op20) (g c : Nat) : Op20 := ⟨o.kind,o.path,o.other,o.hn,o.frm,o.n,some ⟨g,0,none⟩,o.dn,c⟩
theorem own_calls (o : Op20) (w : World) {xs : List Int} (hbs : Bs w o.da o.dn xs) (hnil : o.da = none → o.dc = 0) (hsz : o.dn ≤ 9000) :
 Calls Tryz.prog 14 #[o.val] w fun e w' => ∃ g c,e = .returned (withD o g c).val ∧ So u8E 5 w' w.heap.size (.slice (some ⟨g,0,none⟩) o.dn c) o.dn xs ∧ w.heap.size ≤ g ∧ g < w'.heap.size ∧ o.dn ≤ c ∧ c ≤ maxLen ∧ Below w.heap.size w w' := by
 obtain ⟨kind,path,other,hn,frm,n,da,dn,dc⟩ := o
 dsimp only [withD,Op20.val,Op20.cells] at *
 obtain ⟨W,hW⟩ : ∃ W,(w.alloc (.cells #[.int .u8 kind,.string path,.string other,.int .i64 hn,.int .i64 frm,.int .i64 n,.slice da dn dc] 41)).alloc (.cells #[.int .u8 0,.string ⟨#[]⟩,.string ⟨#[]⟩,.int .i64 0,.int .i64 0,.int .i64 0,.slice none 0 0] 41) = W := ⟨_,rfl⟩
 have hs1 : (w.alloc (.cells #[.int .u8 kind,.string path,.string other,.int .i64 hn,.int .i64 frm,.int .i64 n,.slice da dn dc] 41)).heap.size = w.heap.size + 1 := by simp
 have hB : Blk W (w.heap.size + 1) #[.int .u8 0,.string ⟨#[]⟩,.string ⟨#[]⟩,.int .i64 0,.int .i64 0,.int .i64 0,.slice none 0 0] 41 := by rw [← hW,← hs1]; exact Blk.new_ _ _ _
 have hO : Blk W w.heap.size #[.int .u8 kind,.string path,.string other,.int .i64 hn,.int .i64 frm,.int .i64 n,.slice da dn dc] 41 := by rw [← hW]; exact (Blk.new_ _ _ _).alloc _
 have hbW : Below w.heap.size w W := by rw [← hW]; exact (bW_).alloc (by rw [hs1]; omega) _
 have hsW : W.heap.size = w.heap.size + 2 := by rw [← hW]; simp
 have hbA := bN_ W (.cells #[] 5)
 have BS1 := hQ_ (hbs.below (Own.keeps hbW hbA))
 have hoA := hO.below hbA
 have V_6 := cZ6 hoA
 have HW := hQ_ hW
 have HB := hQ_ hB
 have HO := hQ_ hO
 have HBW := hQ_ hbW
 have HSW := hQ_ hsW
 have HBA := hQ_ hbA
 clear hW hs1 hB hO hbW hsW hbA hbs hoA
 go_enter Tryz.func14,Tryz.ntmps14
 go_upto_region 1 with (fail)
 rw [HW.out]
 go_wp2_with (first | ((with_reducible refine pick (some 6) ?_); refine Tx.wpList_append_any u8E 5 rfl _ _ _ rfl Tryz.underlying39 FileKd.info_u8 rfl W.heap.size _ 0 [] rfl (So.new_ u8E 5 W (Nat.le_refl _)) da dn dc xs rfl (bs_sl BS1.out) hnil dn (by omega) xs rfl (by unfold maxLen; omega) (by omega) (by simp) ?_; intro v3 w3 hown3 hg3 hat3; obtain ⟨g3,c3,rfl,hlo3,hhi3,hfit3,hmax3⟩ := own_some hown3 hat3; have hb3 : Below W.heap.size W w3 := HBA.out.grown hg3 HBA.out.size (fun k hk => by cases hk; exact Nat.le_refl _); have O3 := hQ_ (HO.out.below hb3); have B3 := hQ_ (HB.out.below hb3); have S3 := hQ_ hown3; have K3 := hQ_ (And.intro hlo3 (And.intro hhi3 (And.intro hfit3 hmax3))); have BB3 := hQ_ (Own.keeps HBW.out hb3); have fr : w3.frozen? ⟨w.heap.size,6,none⟩ = false := O3.out.frozen _; have c6 : w3.cell? ⟨w.heap.size,6,none⟩ = some (.slice da dn dc) := O3.out.cell 6; have O4 : Hid (Blk (w3.setCell ⟨w.heap.size,6,none⟩ (.slice (some ⟨g3,0,none⟩) dn c3)) w.heap.size #[.int .u8 kind,.string path,.string other,.int .i64 hn,.int .i64 frm,.int .i64 n,.slice (some ⟨g3,0,none⟩) dn c3] 41) := hQ_ (O3.out.set_ 6 _); have B4 := hQ_ (B3.out.far (p := ⟨w.heap.size,6,none⟩) (by show w.heap.size + 1 ≠ w.heap.size; omega) (.slice (some ⟨g3,0,none⟩) dn c3)); clear V_6 hg3 hat3 hown3 hb3 hlo3 hhi3 hfit3 hmax3) | ((with_reducible refine pick (some 8) ?_); refine load_blk rfl 41 _ rfl w.heap.size rfl 41 _ _ O4.out Tryz.underlying41 rfl info_op20 ?_) | ((with_reducible refine pick none ?_); refine store_blk rfl 41 _ _ rfl (w.heap.size + 1) #[.int .u8 kind,.string path,.string other,.int .i64 hn,.int .i64 frm,.int .i64 n,.slice (some ⟨g3,0,none⟩) dn c3] rfl rfl 41 _ B4.out info_op20 rfl (by simp [Value.oneCell']) ?_; intro w8 hk8 hg8))
 have hc8 : Chg (fun k => k = w.heap.size ∨ k = w.heap.size + 1) w3 w8 := ((Chg.refl (fun k => k = w.heap.size ∨ k = w.heap.size + 1) w3).setCell (p := ⟨w.heap.size,6,none⟩) (.inl (.inl rfl)) _).trans (Chg.of_grown hg8 (fun k hk => .inl (.inr (Option.some.inj hk).symm)))
 have hs8 := hc8.size
 have h1 := K3.out.1
 have h2 := K3.out.2.1
 have hsw := HSW.out
 exact bodyPost_ret (v := .agg #[.int .u8 kind,.string path,.string other,.int .i64 hn,.int .i64 frm,.int .i64 n,.slice (some ⟨g3,0,none⟩) dn c3]) (results_cell_row rfl _ _ (w.heap.size + 1) 41 _ (0,0) _ rfl hk8 Tryz.underlying41 rfl info_op20) rfl ⟨g3,c3,rfl,So.lower (FileKd.so_chg S3.out hc8 (fun b hb e => by have hb' : g3 = b := Option.some.inj hb; rcases e with e | e <;> (have e' : b = _ := e; omega))) (by omega),by omega,by omega,K3.out.2.2.1,K3.out.2.2.2,(BB3.out.setCell (p := ⟨w.heap.size,6,none⟩) (Nat.le_refl _) _).grown hg8 (BB3.out.setCell (p := ⟨w.heap.size,6,none⟩) (Nat.le_refl _) _).size (fun k hk => by injection hk with hk; omega)⟩
end Go.Proofs.YtogdjbhjgbnicaaGreatDoor.OpsC
namespace Go.Proofs.YtogdjbhjgbnicaaGreatDoor.OpsFm
open Go.RowKit
open Byte KeysM ViewM NodeM WalkM WalkF WalkKm DirsV DirsKc FileM FileV OpsI OpsK OpsS OpsW
def pa : ByteArray := ⟨#[47,97]⟩
def h0 : List Int := [0,0,0,0,0,0,0,0,0,0,0,0,0,0,0,0]
def h1 : List Int := [2,0,0,0,0,0,0,0,0,0,0,0,0,0,0,0]
def s0 : Vs := ⟨[],[],[],[]⟩
def s1 : Vs := (goW s0 (makV s0.shown pa 1 2).2).1
theorem f1 : (makV s0.shown pa 1 2).1 = 0 ∧ (goW s0 (makV s0.shown pa 1 2).2).2 = true := by decide +kernel
theorem f2 : opnV s1.shown h0 pa = (0,0,h1) := by decide +kernel
theorem f3 : inoD h1 0 = (2,0) := by decide +kernel
def s2 : Vs := (goW s1 (wriV s1.shown 2 0 [120,121]).2).1
theorem f4 : (wriV s1.shown 2 0 [120,121]).1 = 0 ∧ (goW s1 (wriV s1.shown 2 0 [120,121]).2).2 = true := by decide +kernel
theorem f5 : reaV s2.shown 2 0 9 = ([120,121],0) := by decide +kernel
end Go.Proofs.YtogdjbhjgbnicaaGreatDoor.OpsFm
namespace Go.Proofs.YtogdjbhjgbnicaaGreatDoor.OpsL
open Go.RowKit
open Byte Lst Ho NamesL OpsR
open Own hiding keeps
def FixOk : Prop := ∀ w : World,Mx w → Calls Tryz.prog 16 #[] w fun e w' => e = .returned (.bool true) ∧ Below w.heap.size w w'
end Go.Proofs.YtogdjbhjgbnicaaGreatDoor.OpsL
namespace Go.Proofs.YtogdjbhjgbnicaaGreatDoor.OpsF
open Go.RowKit
open Byte KeysM TreeM ViewM NodeM NamesL WalkM WalkF DirsV Lst Chg TreeL ViewL WalkL WalkV Vat DirsK DirsKa DirsKc FileM FileV FileKd FileKe OpsR OpsD OpsE OpsI OpsJ OpsK OpsS OpsW OpsT OpsFm
open Own hiding lower
variable {Rep : RepT}
theorem get_mem {k : ByteArray} {L : List Pr} {p : Pr} (h : getL k L = some p) : p ∈ L := List.mem_of_find?_eq_some h
theorem v64_all {L : List Pr} (h : ∀ p ∈ L,p.value.size ≤ 64) (ino : Int) : V64 L ino := fun q q0 q1 => by
 cases hg : getL (kD ino q) L with
 | none => exact Nat.zero_le _
 | some p =>
   have := h p (get_mem hg)
   show (valL (some p.value)).length ≤ 64
   unfold valL
   simpa [txt] using this
theorem small1 : ∀ p ∈ s1.shown,p.value.size ≤ 64 := by decide +kernel
theorem small2 : ∀ p ∈ s2.shown,p.value.size ≤ 64 := by decide +kernel
theorem new_desk (B : Option Addr) (w : World) : Calls Tryz.prog 8 #[.pointer B] w fun e w' => e = .returned (.pointer (some ⟨w.heap.size,0,none⟩)) ∧ Dsk w' w.heap.size (.pointer B) h0 ∧ Below w.heap.size w w' := by
 have HB : Hid (Blk (w.alloc (.cells (#[.pointer B,.int .u32 0,.int .u32 0,.int .u32 0,.int .u32 0,.int .u32 0,.int .u32 0,.int .u32 0,.int .u32 0,.int .u32 0,.int .u32 0,.int .u32 0,.int .u32 0,.int .u32 0,.int .u32 0,.int .u32 0,.int .u32 0]) 70)) w.heap.size (#[.pointer B,.int .u32 0,.int .u32 0,.int .u32 0,.int .u32 0,.int .u32 0,.int .u32 0,.int .u32 0,.int .u32 0,.int .u32 0,.int .u32 0,.int .u32 0,.int .u32 0,.int .u32 0,.int .u32 0,.int .u32 0,.int .u32 0]) 70) := hQ_ (Blk.new_ _ _ _)
 have HL : Hid (Below w.heap.size w (w.alloc (.cells (#[.pointer B,.int .u32 0,.int .u32 0,.int .u32 0,.int .u32 0,.int .u32 0,.int .u32 0,.int .u32 0,.int .u32 0,.int .u32 0,.int .u32 0,.int .u32 0,.int .u32 0,.int .u32 0,.int .u32 0,.int .u32 0,.int .u32 0]) 70))) := hQ_ (bW_)
 go_enter Tryz.func8,Tryz.ntmps8
 go_wp2_with fail
 go_ret
 exact ⟨rfl,⟨HB.out,rfl,by decide⟩,HL.out⟩
theorem sl_bs {w : World} {A : Option Addr} {n : Nat} {L : List Int} (h : Sl u8E w A n L) (hb : ∀ x ∈ L,0 ≤ x ∧ x ≤ 255) : Bs w A n L := by
 refine ⟨h.1,hb,fun k hk => ?_⟩
 obtain ⟨x,b,o,hx,e,hlt,hc⟩ := h.get k hk
 refine ⟨b,o,e,hlt,?_⟩
 have h0 := hc 0 _ rfl
 rw [List.getD_eq_getElem?_getD,hx]
 have e2 : o + k * u8E.size + 0 = o + k := by show o + k * 1 + 0 = o + k; omega
 rw [e2] at h0
 exact h0
theorem conv_so {w : World} {base m : Nat} {u : Value} {L : List Int} (h : So u8E 5 w base u m L) (hb : ∀ x ∈ L,0 ≤ x ∧ x ≤ 255) : (convert 39 9 u).run Tryz.prog w = .ok (.string (str L)) w := by
 obtain ⟨A,c,rfl⟩ : ∃ A c,u = .slice A m c := by
  rcases h.form with ⟨e1,e2⟩ | ⟨g,cap,e1,_⟩
  ·exact ⟨none,0,by rw [e1,e2]⟩
  ·exact ⟨_,cap,e1⟩
 have q := sl_bs h.sl hb
 exact q.str_ (P := Tryz.prog) 39 9 Tryz.underlying39 Tryz.underlying5 Tryz.underlying9
theorem lim_sm {s : Vs} (h1 : s.base = []) (h2 : s.rd.length ≤ 500) (h3 : s.rg.length ≤ 50) : Lim s := ⟨by rw [h1]; exact Nat.zero_le _,by omega,by omega⟩
section
variable {w w' : World} {g : Nat} {v : Value} {hs : List Int} {s t : Vs} {S D : Nat → Prop} {e : Ending}
theorem step_n {er N : Int} {ps : List Wrt} {k m : Nat} (h : DoE Rep (QN hs s er N ps k m) g v S D w e w') (hsm : Sm s t) (hg : (goW t ps).2 = true) (he : er = 0) :
 ∃ s' S' D',e = .returned (.agg #[.int .i64 0,.int .i64 N,.slice none 0 0,.slice none 0 0,.int .u8 0,.int .u32 0,.int .u32 0,.int .u32 0]) ∧ Dst Rep w' g v hs s' S' D' ∧ Dstp S D S' D' g w w' ∧ Sm s' (goW t ps).1 ∧ s'.rd.length ≤ s.rd.length + k ∧ s'.rg.length ≤ s.rg.length + m := by
 obtain ⟨r,hs',s',S',D',rfl,hd,st,_,rfl,J,hJ,rfl,ha⟩ := h
 have h1 := goW_sm ps hsm
 rw [h1.2,if_pos hg,he] at hJ
 subst hJ
 exact ⟨s',S',D',rfl,hd,st,ha.sm.trans h1.1,ha.rd,ha.rg⟩
theorem step_o {path : ByteArray} {x : Int × Int × List Int} (h : DoE Rep (QO s path x) g v S D w e w') (hsm : Sm s t) :
 ∃ s' S' D',e = .returned (.agg #[.int .i64 x.1,.int .i64 x.2.1,.slice none 0 0,.slice none 0 0,.int .u8 0,.int .u32 0,.int .u32 0,.int .u32 0]) ∧ Dst Rep w' g v x.2.2 s' S' D' ∧ Dstp S D S' D' g w w' ∧ Sm s' t ∧ s'.rd.length ≤ s.rd.length + 40 ∧ s'.rg.length ≤ s.rg.length := by
 obtain ⟨r,hs',s',S',D',rfl,hd,st,_,rfl,rfl,hf⟩ := h
 exact ⟨s',S',D',rfl,hd,st,(Sm.of_find hf).trans hsm,hf.len,by rw [hf.rg]; exact Nat.le_refl _⟩
end
theorem mxs_step {w w' : World} {g : Nat} {S D S' D' : Nat → Prop} (h : Mxs w S) (hg : 0 ≠ g) (st : Dstp S D S' D' g w w') : Mxs w' S' := by
 refine ⟨?_,fun hs => ?_⟩
 ·obtain ⟨m,hm⟩ := h.1
  exact ⟨m,st.chg.cell hm (fun e => e.elim h.2 (fun e => hg e))⟩
 ·rcases st.own _ hs with h1 | h1
  ·exact h.2 h1
  ·have := h.lt
   omega
theorem bel_dst {w0 w w' : World} {g : Nat} {S D S' D' : Nat → Prop} (hb : Below w0.heap.size w0 w) (lo : ∀ b,S b → w0.heap.size ≤ b) (hg : w0.heap.size ≤ g) (st : Dstp S D S' D' g w w') : Below w0.heap.size w0 w' ∧ ∀ b,S' b → w0.heap.size ≤ b :=
 ⟨below_chg hb st.chg (fun b h => h.elim (lo b) (fun e => by have e' : b = g := e; omega)) (Nat.le_refl _),new_own lo hb.size st.own⟩
theorem b120 : ∀ x ∈ ([120,121] : List Int),0 ≤ x ∧ x ≤ 255 := by decide
theorem fixed_calls (hW : Wk Rep) (hLk : LookOk Rep) (hSt : SetOk Rep) (hN : NewB Rep) (hPt : ∀ (w : World) (v : Value) (s : Vs) (S D : Nat → Prop),Rep w v s S D → ∃ A,v = .pointer A) (w : World) (hmx : Mx w) : Calls Tryz.prog 16 #[] w fun e w' => e = .returned (.bool true) ∧ Below w.heap.size w w' := by
 have HMX := hQ_ hmx
 have HN := hQ_ hN
 have HW := hQ_ hW
 have HLK := hQ_ hLk
 have HST := hQ_ hSt
 have HPT := hQ_ hPt
 clear hN hmx hW hLk hSt hPt
 go_enter Tryz.func16,Tryz.ntmps16
 go_wp2_with fail
 refine (TreeG.new_calls _).mono ?_
 rintro e w1 ⟨v0,hh0,rfl,hr0,hb1⟩
 have HB1 := hQ_ hb1
 have HR0 := hQ_ hr0
 clear hb1 hr0
 go_wp2_with fail
 refine (HN.out HR0.out (Nat.zero_le _) (fun p hp => by cases hp)).mono ?_
 rintro e w2 ⟨v,S,D,rfl,hr2,hS2,hD2,hb2⟩
 obtain ⟨A,rfl⟩ := HPT.out _ _ _ _ _ hr2
 have HB2 := hQ_ (Own.keeps HB1.out hb2)
 have hS0 : ∀ b,S b → w.heap.size ≤ b := fun b hb => Nat.le_trans HB1.out.size (hS2 b hb)
 have HR2 := hQ_ hr2
 have HS2 := hQ_ hS0
 clear hb2 hr2 hS2 hD2 hS0
 go_wp2_with fail
 refine (new_desk A _).mono ?_
 rintro e w3 ⟨rfl,hd3,hb3⟩
 obtain ⟨g,hg⟩ : ∃ g,w2.heap.size = g := ⟨_,rfl⟩
 rw [hg] at hd3 ⊢
 have hgw : w.heap.size ≤ g := by have := HB2.out.size; omega
 have HB3 := hQ_ (Own.keeps HB2.out hb3)
 have D3 : Dst Rep w3 g (.pointer A) h0 s0 S D := ⟨HW.out.stays.below HR2.out hb3,hd3,fun e => by have := HW.out.stays.lt HR2.out g e; omega⟩
 have hmg : 0 ≠ g := by
  obtain ⟨m,hm⟩ := HMX.out
  have h1 := World.block_lt_of_cell? w ⟨0,0,none⟩ hm
  dsimp only at h1
  omega
 have M3 : Mxs w3 S := ⟨HMX.out.below HB3.out,fun hs => by
  obtain ⟨m,hm⟩ := HMX.out
  have h1 := World.block_lt_of_cell? w ⟨0,0,none⟩ hm
  have h2 := HS2.out _ hs
  dsimp only at h1
  omega⟩
 have c1 := do_create HW.out ⟨4,pa,⟨#[]⟩,0,0,0,none,0,0⟩ 2 rfl D3 (lim_sm (s := s0) rfl (Nat.zero_le _) (Nat.zero_le _)) (Nat.zero_le _) (Nat.zero_le _) M3 (by decide) (by decide) (by decide)
 dsimp only [Op20.val,Op20.cells,pa] at c1
 have C1 := hQ_ c1
 have MG := hQ_ hmg
 have GW := hQ_ hgw
 have HM3 := hQ_ M3
 have FA := field_0 (.int .i64 0) (.int .i64 0) (.slice none 0 0) (.slice none 0 0) (.int .u8 0) (.int .u32 0) (.int .u32 0) (.int .u32 0)
 have FB := field_1 (.int .i64 0) (.int .i64 0) (.slice none 0 0) (.slice none 0 0) (.int .u8 0) (.int .u32 0) (.int .u32 0) (.int .u32 0)
 have FC := field_1 (.int .i64 0) (.int .i64 2) (.slice none 0 0) (.slice none 0 0) (.int .u8 0) (.int .u32 0) (.int .u32 0) (.int .u32 0)
 clear hg hd3 hb3 D3 hmg hgw M3 c1
 go_wp2_with fail
 refine C1.out.mono ?_
 intro e w4 h4
 obtain ⟨t4,S4,D4,rfl,d4,st4,sm4,rd4,rg4⟩ := step_n h4 (Sm.refl s0) f1.2 f1.1
 obtain ⟨B4,L4⟩ := bel_dst HB3.out HS2.out GW.out st4
 have M4 := mxs_step HM3.out MG.out st4
 have sh4 : t4.shown = s1.shown := sm4.shown
 have hb4 : t4.base = [] := by rw [sm4.base,goW_base]; rfl
 have r4 : t4.rd.length ≤ 41 := by simpa [s0] using rd4
 have g4 : t4.rg.length ≤ 0 := by simpa [s0] using rg4
 have c2 := do_open HW.out ⟨6,pa,⟨#[]⟩,0,0,0,none,0,0⟩ 0 rfl d4 (lim_sm hb4 (by omega) (by omega)) (by omega) (by omega) M4 (by decide)
 dsimp only [Op20.val,Op20.cells] at c2
 rw [sh4,f2] at c2
 dsimp only [pa] at c2
 have C2 := hQ_ c2
 have HB4 := hQ_ (And.intro B4 L4)
 have HM4 := hQ_ M4
 have SM4 : Hid (Sm t4 s1) := hQ_ sm4
 have HD4 := hQ_ (And.intro hb4 (And.intro r4 g4))
 clear h4 d4 st4 sm4 rd4 rg4 B4 L4 M4 sh4 hb4 r4 g4 c2 C1
 go_wp2_with fail
 refine C2.out.mono ?_
 intro e w5 h5
 obtain ⟨t5,S5,D5,rfl,d5,st5,sm5,rd5,rg5⟩ := step_o h5 SM4.out
 dsimp only
 obtain ⟨B5,L5⟩ := bel_dst HB4.out.1 HB4.out.2 GW.out st5
 have M5 := mxs_step HM4.out MG.out st5
 have sh5 : t5.shown = s1.shown := sm5.shown
 have hb5 : t5.base = [] := by rw [sm5.base,← SM4.out.base]; exact HD4.out.1
 have hr4 := HD4.out.2
 have hba := bN_ w5 (.cells #[.int .u8 120,.int .u8 121] 5 (2,3))
 have hx : Bs (w5.alloc (.cells #[.int .u8 120,.int .u8 121] 5 (2,3))) (some ⟨w5.heap.size,0,none⟩) 2 [120,121] := Bs.new_ w5 5 (2,3) [120,121] b120
 have c3 := do_write HW.out HLK.out HST.out ⟨9,⟨#[]⟩,⟨#[]⟩,0,0,0,some ⟨w5.heap.size,0,none⟩,2,2⟩ 0 rfl (d5.below HW.out.stays hba) (lim_sm hb5 (by omega) (by omega)) (by omega) (show (-9223372036854775808 : Int) ≤ 0 by decide) (show (0 : Int) ≤ 9223372036854775807 by decide) hx (Nat.le_refl 2) (show 2 ≤ 9223372036854775807 by decide) (fun _ b of e => by
  injection e with e
  injection e with e _
  subst e
  exact ⟨fun q => Nat.lt_irrefl _ (HW.out.stays.lt d5.rep _ (HW.out.stays.sub d5.rep _ q)),by simp⟩) (v64_all (by rw [sh5]; exact small1) _)
 have e3 : wrtD t5.shown h1 0 0 [120,121] = wriV s1.shown 2 0 [120,121] := by rw [sh5]; unfold wrtD; rw [f3]; rfl
 dsimp only [Op20.val,Op20.cells] at c3
 rw [e3] at c3
 have C3 := hQ_ c3
 have cvS : (convert 39 39 (.slice (some ⟨w5.heap.size,0,none⟩) 2 2)).run Tryz.prog (w5.alloc (.cells #[.int .u8 120,.int .u8 121] 5)) = .ok (.slice (some ⟨w5.heap.size,0,none⟩) 2 2) (w5.alloc (.cells #[.int .u8 120,.int .u8 121] 5 (2,3))) :=
  Lib.run_convert_bytes_const (P := Tryz.prog) w5 39 5 #[.int .u8 120,.int .u8 121] 2 2 Tryz.underlying39 Tryz.underlying5
 have HB5 := hQ_ (And.intro (Own.keeps B5 hba) L5)
 have SM5 : Hid (Sm t5 s1) := hQ_ sm5
 have HD5 := hQ_ (And.intro hb5 (show t5.rd.length ≤ 100 ∧ t5.rg.length ≤ 10 by omega))
 clear h5 d5 st5 sm5 rd5 rg5 B5 L5 M5 sh5 hb5 hr4 hba hx c3 e3 C2
 go_wp2_with fail
 refine C3.out.mono ?_
 intro e w6 h6
 obtain ⟨t6,S6,D6,rfl,d6,st6,sm6,rd6,rg6⟩ := step_n h6 SM5.out f4.2 f4.1
 obtain ⟨B6,L6⟩ := bel_dst HB5.out.1 HB5.out.2 GW.out st6
 have sh6 : t6.shown = s2.shown := sm6.shown
 have hb6 : t6.base = [] := by rw [sm6.base,goW_base,← SM5.out.base]; exact HD5.out.1
 have hr5 := HD5.out.2
 have c4 := do_read HW.out HLK.out ⟨8,⟨#[]⟩,⟨#[]⟩,0,0,9,none,0,0⟩ 0 rfl d6 (lim_sm hb6 (by omega) (by omega)) (by omega) (by decide) (by decide) (by decide) (by decide) (v64_all (by rw [sh6]; exact small2) _)
 dsimp only [Op20.val,Op20.cells] at c4
 have C4 := hQ_ c4
 have HB6 := hQ_ (And.intro B6 L6)
 have SH6 := hQ_ sh6
 clear h6 d6 st6 sm6 rd6 rg6 B6 L6 sh6 hb6 hr5 c4 C3 cvS
 go_wp2_with fail
 refine C4.out.mono ?_
 rintro e w7 ⟨r,hs7,t7,S7,D7,rfl,d7,st7,_,rfl,hq⟩
 have HB7 := hQ_ (bel_dst HB6.out.1 HB6.out.2 GW.out st7).1
 obtain ⟨a,m,c,rfl,hso⟩ : ∃ (a : Option Addr) (m c : Nat),r = ⟨0,(m : Int),a,m,c,none,0,0,0,0,0,0⟩ ∧ So u8E 5 w7 w6.heap.size (.slice a m c) m [120,121] := by
  have e3 : (inoD h1 0).1 = 2 := by rw [f3]
  rcases hq with ⟨_,_,a,m,c,h1,h2⟩ | ⟨h1,_⟩
  ·rw [SH6.out,e3,f5] at h1 h2
   exact ⟨a,m,c,h1,h2⟩
  ·exact absurd (by rw [f3]) h1
 have cv := conv_so hso b120
 have e5 : str [120,121] = (⟨#[120,121]⟩ : ByteArray) := rfl
 rw [e5] at cv
 have FD := field_2 (.int .i64 0) (.int .i64 (m : Int)) (.slice a m c) (.slice none 0 0) (.int .u8 0) (.int .u32 0) (.int .u32 0) (.int .u32 0)
 clear hq hso d7 st7 e5
 dsimp only [Res20.val,Res20.cells]
 go_wp2_with fail
 go_ret
 exact ⟨rfl,HB7.out⟩
theorem form_n (w : World) (v : Value) (s : Vs) (S D : Nat → Prop) (h : WalkK.VRep w v s S D) : ∃ A,v = .pointer A := by
 obtain ⟨⟨g,_,_,_,_,_,rfl,_⟩,_⟩ := h
 exact ⟨_,rfl⟩
theorem look_n : LookOk WalkK.VRep := look_b ViewK.look_ok
theorem newb : NewB WalkK.VRep := new_b ViewK.new_ok
theorem set_n : SetOk WalkK.VRep := set_b ViewK.set_ok
theorem fix_ok : OpsL.FixOk := fun w hmx => fixed_calls DirsK.wk look_n set_n newb form_n w hmx
end Go.Proofs.YtogdjbhjgbnicaaGreatDoor.OpsF
namespace Go.Proofs.YtogdjbhjgbnicaaGreatDoor.OpsGw
open Go.RowKit
open Byte Lst TreeM ViewM ViewL WalkL WalkV ViewKs ViewKw OpsR OpsI
open Own hiding lower
open ViewR (Sh)
open TreeR (prE)
theorem view_calls {g : Nat} {v : Value} {hs : List Int} {w : World} (h : Dsk w g v hs) : Calls Tryz.prog 22 #[.pointer (some ⟨g,0,none⟩)] w fun e w' => e = .returned v ∧ w = w' := by
 have hv := h.view
 clear h
 go_enter Tryz.func22,Tryz.ntmps22
 go_wp2_with fail
 go_ret
 exact ⟨rfl,rfl⟩
end Go.Proofs.YtogdjbhjgbnicaaGreatDoor.OpsGw
namespace Go.Proofs.YtogdjbhjgbnicaaGreatDoor.OpsGh
open Go.RowKit
open Ho Byte KeysM TreeM ViewM NamesL WalkM DirsV Lst Chg TreeL ViewL WalkL WalkV Vat DirsK DirsKa DirsKc FileKd OpsR OpsE OpsI OpsS OpsT OpsTa OpsM OpsN OpsP OpsC OpsX
open Own hiding keeps lower
variable {Rep : RepT}
section
variable {k : Nat} {w w' : World} {g : Nat} {v : Value} {hs : List Int} {s : Vs} {S D : Nat → Prop}
theorem not_great {o : Op20} (h : great o = false) : o.path.size ≤ 600 ∧ o.other.size ≤ 600 ∧ o.dn ≤ 1500 := by
 unfold great at h
 simp only [Bool.or_eq_false_iff,decide_eq_false_iff_not] at h
 omega
theorem op_own (hV : Stays Rep) {w1 : World} (h : Pk Rep k w g v hs s S D) {o : Op20} (ho : Op20G w1 o) (hg : great o = false) {q c : Nat} {xs : List Int} (hx : ∀ x ∈ xs,0 ≤ x ∧ x ≤ 255) (hso : So u8E 5 w' w.heap.size (.slice (some ⟨q,0,none⟩) o.dn c) o.dn xs) (h1 : w.heap.size ≤ q) (h2 : q < w'.heap.size) (h3 : o.dn ≤ c) (h4 : c ≤ maxLen) : OpB w' S (withD o q c) xs := by
 have hs := not_great hg
 refine ⟨?_,?_,ho.frm,ho.n,sl_bs hso.sl hx,h3,?_,fun _ b of e => ?_⟩
 ·show o.path.size ≤ 100000
  omega
 ·show o.other.size ≤ 100000
  omega
 ·show c ≤ 9223372036854775807
  unfold maxLen at h4
  exact h4
 ·have e' : q = b := by
   injection e with e
   injection e with e _
  subst e'
  exact ⟨fun hS => by have := hV.lt h.dst.rep q (hV.sub h.dst.rep q hS); omega,h2⟩
end
theorem eqpr (k v : ByteArray) (g : Bool) (w : World) : (Op.equalIn 10000 64 (.agg #[.string k,.string v,.bool g]) (.agg #[.string k,.string v,.bool g])).run Tryz.prog w = .ok true w := by
 have u1 := Tryz.underlying9
 have u2 := Tryz.underlying4
 rw [show (10000 : Nat) = 9999 + 1 from rfl,run_equalIn_struct w 9999 64 _ _ (by kernel_rfl) (by kernel_rfl)]
 have hfs : Tryz.prog.fieldsOf 64 = (match Tryz.prog.underlying 64 with | some (.struct fs) => fs | _ => #[]) := rfl
 rw [hfs,Tryz.underlying64]
 go_simp
end Go.Proofs.YtogdjbhjgbnicaaGreatDoor.OpsGh
namespace Go.Proofs.YtogdjbhjgbnicaaGreatDoor.OpsGx
open Go.RowKit Go.ChangeShapes Go.WideShapes Go.Deep Go.Maps
open Lst Byte Nest TreeM ViewM ViewL WalkL WalkV ViewKs ViewKw OpsR OpsX OpsC
section
variable {H : Type} {enc : TypeId × Value → H} {w : World} {base fuel : Nat}
theorem ops_of {cs : List Value} {x : DataW H × List MemPlace} (h : DataW.trod enc Tryz.prog w base (fun _ => true) true fuel 22 cs = some x) :
 ∃ A m c,∃ L : List Op20,cs = [.slice A m c] ∧ m ≤ c ∧ c ≤ maxLen ∧ Sl o7E w A m L ∧ ∀ p ∈ L,Op20G w p := by
 haveI : Inhabited Op20 := ⟨⟨0,⟨#[]⟩,⟨#[]⟩,0,0,0,none,0,0⟩⟩
 obtain ⟨A,m,c,L,h1,h2,h3,h4,h5,_⟩ := sl_deep o7E (Op20G w) Tryz.underlying22 (by kernel_rfl) (fun es n z hl hs => by
  obtain ⟨o,e,hg⟩ := cells_of hs
  exact ⟨o,e,hg⟩) h
 exact ⟨A,m,c,L,h1,h2,h3,h4,h5⟩
end
theorem copy_v : FileKf.CpN ViewK.VRep := by
 rintro w v s S D ⟨g,b,sh,wt,rd,rg,rfl,hv,h1,h2,rfl,rfl⟩ hl
 obtain ⟨l1,l2,l3,l4,l5,l6⟩ := ViewK.lens hl h1
 refine (copy_calls hv l6).mono ?_
 rintro e w' ⟨c,rg',rfl,hc,hn,hv',hb⟩
 refine ⟨_,_,_,rfl,⟨c,b,sh,wt,rd,rg',rfl,hv',h1,h2,rfl,rfl⟩,fun q hq => ?_,hb⟩
 rcases hq with rfl | hq
 ·exact hc
 ·exact hn q hq
theorem copy_n : FileKf.CpN WalkK.VRep := fun _ _ _ _ _ r hl => (copy_v r.1 hl).mono fun _ _ ⟨v',S',D',e,hr,h1,h2⟩ => ⟨v',S',D',e,⟨hr,r.2⟩,h1,h2⟩
theorem vw : OpsP.Vw20 WalkK.VRep := ⟨DirsK.wk,OpsF.look_n,OpsF.set_n,copy_n,RgN.range_n,DirsBl.list_n⟩
end Go.Proofs.YtogdjbhjgbnicaaGreatDoor.OpsGx
namespace Go.Proofs.YtogdjbhjgbnicaaGreatDoor.DirsY
open Byte PackM KeysM TreeM ViewM ViewKm NamesM WalkM WalkF WalkKm DirsM DirsV DirsX
open NodeM hiding gk
open FileM
section
variable {F : Fs} {π : Int → Int} {g : Gf} {L : List Pr}
theorem load_put {k l z p : Int} (hm : may k l z p = true) (k0 : 0 ≤ k) (k1 : k ≤ 255) (l0 : 0 ≤ l) (l1 : l ≤ 4294967295) (s0 : 0 ≤ z) (s1 : z ≤ 4294967295) (p0 : 0 ≤ p) (p1 : p ≤ 4294967295) {i : Int} (h : g (kI i) = some (nput k l z p)) : loadG g i = (⟨k,l,z,p⟩,true) := by
 unfold loadG
 rw [h]
 dsimp only
 rw [gok_put k0 k1 l0 l1 s0 s1 p0 p1,if_pos hm]
 show ((⟨NodeM.gk (nput k l z p),gl (nput k l z p),gs (nput k l z p),gp (nput k l z p)⟩ : Ino),true) = _
 rw [NodeM.gk_put k0 k1,gl_put k0 k1 l0 l1,gs_put k0 k1 s0 s1,gp_put k0 k1 p0 p1]
end
end Go.Proofs.YtogdjbhjgbnicaaGreatDoor.DirsY
namespace Go.Proofs.YtogdjbhjgbnicaaGreatDoor.DirsS
open Byte PackM KeysM TreeM ViewM ViewKm NamesM WalkM WalkF WalkKm DirsM DirsV DirsX
open DirsY
open NodeM hiding gk
section
variable {F : Fs} {π : Int → Int} {g : Gf} {L : List Pr}
theorem rise_out : ∀ (ps : List Wrt) {L : List Pr},Rise L → Rise (outW L ps)
 | [],L,h => h
 | p :: ps,L,h => rise_out ps (rise_done h _)
theorem out_app : ∀ (ps qs : List Wrt) (L : List Pr),outW L (ps ++ qs) = outW (outW L ps) qs
 | [],qs,L => rfl
 | p :: ps,qs,L => out_app ps qs _
end
end Go.Proofs.YtogdjbhjgbnicaaGreatDoor.DirsS
namespace Go.Proofs.YtogdjbhjgbnicaaGreatDoor.FileO
open Byte PackM KeysM TreeM ViewM ViewKm WalkM WalkF WalkKm DirsM DirsV DirsX DirsY DirsS FileM FileV FileN
open NodeM hiding gk
section
variable {F : Fs} {π δ ε : Int → Int} {x : Int} {L : List Pr}
theorem saved {g : Gf} (hr : Rise L) {ino k l z p : Int} : DirsX.gk (doneW L (saveP ino k l z p L)) = setG (DirsX.gk L) ⟨kI ino,nput k l z p,false⟩ := by
 rw [gk_done hr]; rfl
end
end Go.Proofs.YtogdjbhjgbnicaaGreatDoor.FileO
namespace Go.Proofs.YtogdjbhjgbnicaaGreatDoor.OpsY
open Byte KeysM TreeM ViewKm WalkM WalkF WalkKm DirsV DirsX DirsY DirsS FileM FileV FileO
open FileN (pf pf_far take_get drop_get app_get bfun bfun_len bfun_get bfun_congr bG bG_congr Byt byt_pf bfun_bd val_fun pad_self putF putF_nil putF_app byt_putF setB_fun)
open NodeM hiding gk
open ViewM hiding putP
def psi (L : List Pr) (ino : Int) : Nat → Int := fun i => (getB L ino ((i / 64 : Nat) : Int)).getD (i % 64) 0
theorem psi_byt (L : List Pr) (ino : Int) : Byt (psi L ino) := fun i => byt_pf (FileKe.getB_bd L ino _) (i % 64)
theorem bfun_psi (L : List Pr) (ino : Int) {q : Int} (h : 0 ≤ q) : bfun (psi L ino) q.toNat = getB L ino q := by
 have e := getB_len L ino q
 refine List.ext_getElem (by rw [bfun_len,e]) (fun i h1 h2 => ?_)
 have hi : i < 64 := by rw [bfun_len] at h1; exact h1
 have a1 : (bfun (psi L ino) q.toNat).getD i 0 = (bfun (psi L ino) q.toNat)[i] := by rw [List.getD_eq_getElem?_getD,List.getElem?_eq_getElem h1]; rfl
 have a2 : (getB L ino q).getD i 0 = (getB L ino q)[i] := by rw [List.getD_eq_getElem?_getD,List.getElem?_eq_getElem h2]; rfl
 refine a1.symm.trans (Eq.trans ?_ a2)
 rw [bfun_get,if_pos hi]
 unfold psi
 rw [show (64 * q.toNat + i) / 64 = q.toNat by omega,show (64 * q.toNat + i) % 64 = i by omega,Int.toNat_of_nonneg h]
theorem psi_bfun {L : List Pr} {ino : Int} {φ : Nat → Int} {i : Nat} (h : getB L ino ((i / 64 : Nat) : Int) = bfun φ (i / 64)) : psi L ino i = φ i := by
 unfold psi
 rw [h,bfun_get,if_pos (by omega)]
 congr 1
 omega
theorem psi_eq {L M : List Pr} {ino : Int} {i : Nat} (h : getB L ino ((i / 64 : Nat) : Int) = getB M ino ((i / 64 : Nat) : Int)) : psi L ino i = psi M ino i := by
 unfold psi
 rw [h]
theorem getB_gk {L M : List Pr} {ino q : Int} (h : DirsX.gk L (kD ino q) = DirsX.gk M (kD ino q)) : getB L ino q = getB M ino q := by
 unfold DirsX.gk at h
 unfold getB
 rw [h]
theorem getB_bG {L : List Pr} {ino q : Int} {φ : Nat → Int} (hb : Byt φ) (h : DirsX.gk L (kD ino q) = bG φ q) : getB L ino q = bfun φ q.toNat := by
 unfold DirsX.gk at h
 unfold getB
 rw [h,val_fun hb,pad_cut0,pad_self (bfun_len _ _)]
section
variable {L : List Pr} {ino : Int}
theorem one_t (hr : Rise L) (i0 : 0 ≤ ino) (i1 : ino ≤ 4294967295) {q f m : Int} (hq : 0 ≤ q ∧ q ≤ 65535) (f0 : 0 ≤ f) {ys : List Int} (hy : ∀ x ∈ ys,0 ≤ x ∧ x ≤ 255) (hm : f.toNat + ys.length ≤ 64) :
 DirsX.gk (doneW L (wrP ino (q,f,m) ys L)) (kD ino q) = bG (putF (psi L ino) (64 * q.toNat + f.toNat) ys) q ∧ (∀ k,k ≠ kD ino q → DirsX.gk (doneW L (wrP ino (q,f,m) ys L)) k = DirsX.gk L k) ∧ ∀ i,i < 4194304 → psi (doneW L (wrP ino (q,f,m) ys L)) ino i = putF (psi L ino) (64 * q.toNat + f.toNat) ys i := by
 have A : DirsX.gk (doneW L (wrP ino (q,f,m) ys L)) (kD ino q) = bG (putF (psi L ino) (64 * q.toNat + f.toNat) ys) q := by
  rw [gk_done hr]
  unfold wrP putP
  dsimp only
  rw [← bfun_psi L ino hq.1,setB_fun _ _ _ _ hm]
  rw [show kD ino q = (⟨kD ino q,str (cut0 (bfun (putF (psi L ino) (64 * q.toNat + f.toNat) ys) q.toNat)),decide (cut0 (bfun (putF (psi L ino) (64 * q.toNat + f.toNat) ys) q.toNat) = [])⟩ : Pr).key from rfl,setG_same]
  unfold bG
  dsimp only
  by_cases hz : cut0 (bfun (putF (psi L ino) (64 * q.toNat + f.toNat) ys) q.toNat) = []
  ·rw [if_pos hz,if_pos (by rw [decide_eq_true hz])]
  ·rw [if_neg hz,if_neg (by rw [decide_eq_false hz]; decide)]
 have B : ∀ k,k ≠ kD ino q → DirsX.gk (doneW L (wrP ino (q,f,m) ys L)) k = DirsX.gk L k := fun k hk => by
  rw [gk_done hr]
  exact setG_ne _ hk
 refine ⟨A,B,fun i hi => ?_⟩
 by_cases e : ((i / 64 : Nat) : Int) = q
 ·refine psi_bfun ?_
  rw [e,getB_bG (byt_putF (psi_byt L ino) hy) A]
  congr 1
  omega
 ·rw [psi_eq (getB_gk (B _ (fun e2 => e (kD_inj i0 i1 i0 i1 (by omega) hq e2).2)))]
  unfold putF
  rw [if_neg (by omega)]
def T (a n w : Int) : Prop := 0 < n ∧ w * 64 < a + n ∧ a < w * 64 + 64
theorem putF_congr {φ ψ : Nat → Int} {a : Nat} {xs : List Int} {i : Nat} (h : φ i = ψ i) : putF φ a xs i = putF ψ a xs i := by
 unfold putF
 rw [h]
theorem rows_t (i0 : 0 ≤ ino) (i1 : ino ≤ 4294967295) : ∀ (fu : Nat) {a n : Int} {xs : List Int} {L : List Pr},0 ≤ a → a + n ≤ 4096 → n ≤ fu → (xs.length : Int) = max n 0 → (∀ x ∈ xs,0 ≤ x ∧ x ≤ 255) → Rise L →
 (∀ w,0 ≤ w ∧ w ≤ 65535 → T a n w → DirsX.gk (outW L (wrPs ino xs (cuts fu a n))) (kD ino w) = bG (putF (psi L ino) a.toNat xs) w) ∧ (∀ k,(∀ w,0 ≤ w ∧ w ≤ 65535 → T a n w → k ≠ kD ino w) → DirsX.gk (outW L (wrPs ino xs (cuts fu a n))) k = DirsX.gk L k) ∧ ∀ i,i < 4194304 → psi (outW L (wrPs ino xs (cuts fu a n))) ino i = putF (psi L ino) a.toNat xs i := by
 intro fu
 induction fu with
 | zero =>
   intro a n xs L a0 h1 h2 hx hxb hr
   have : xs = [] := List.eq_nil_of_length_eq_zero (by omega)
   subst this
   rw [putF_nil]
   exact ⟨fun w _ ht => absurd ht.1 (by omega),fun _ _ => rfl,fun _ _ => rfl⟩
 | succ fu ih =>
   intro a n xs L a0 h1 h2 hx hxb hr
   unfold cuts
   by_cases hn : n ≤ 0
   ·have : xs = [] := List.eq_nil_of_length_eq_zero (by omega)
    subst this
    rw [if_pos hn,putF_nil]
    exact ⟨fun w _ ht => absurd ht.1 (by omega),fun _ _ => rfl,fun _ _ => rfl⟩
   ·rw [if_neg hn]
    obtain ⟨m,hm⟩ : ∃ m : Nat,min n (64 - a % 64) = m := ⟨(min n (64 - a % 64)).toNat,by omega⟩
    rw [hm]
    have e1 : (xs.take m).length = m := by rw [List.length_take]; omega
    have hq : 0 ≤ a / 64 ∧ a / 64 ≤ 65535 := by omega
    obtain ⟨A,B,C⟩ := one_t (m := (m : Int)) (f := a % 64) (ys := xs.take m) hr i0 i1 hq (by omega) (fun x hx => hxb x (List.mem_of_mem_take hx)) (by omega)
    have e2 : 64 * (a / 64).toNat + (a % 64).toNat = a.toNat := by omega
    rw [e2] at A C
    obtain ⟨P,Q,R⟩ := ih (a := a + m) (n := n - m) (xs := xs.drop m) (by omega) (by omega) (by omega) (by rw [List.length_drop]; omega) (fun x hx => hxb x (List.mem_of_mem_drop hx)) (rise_done hr (wrP ino (a / 64,a % 64,(m : Int)) (xs.take m) L))
    have e3 : (a + m).toNat = a.toNat + (xs.take m).length := by omega
    have J : ∀ i,i < 4194304 → putF (psi (doneW L (wrP ino (a / 64,a % 64,(m : Int)) (xs.take m) L)) ino) (a + m).toNat (xs.drop m) i = putF (psi L ino) a.toNat xs i := fun i hi => by
     rw [putF_congr (C i hi),e3,putF_app,List.take_append_drop]
    have e4 : wrPs ino xs ((a / 64,a % 64,(m : Int)) :: cuts fu (a + m) (n - m)) = wrP ino (a / 64,a % 64,(m : Int)) (xs.take m) :: wrPs ino (xs.drop m) (cuts fu (a + m) (n - m)) := by
     show wrP ino (a / 64,a % 64,(m : Int)) (xs.take (m : Int).toNat) :: wrPs ino (xs.drop (m : Int).toNat) _ = _
     rw [Int.toNat_natCast]
    rw [e4,show outW L (wrP ino (a / 64,a % 64,(m : Int)) (xs.take m) :: wrPs ino (xs.drop m) (cuts fu (a + m) (n - m))) = outW (doneW L (wrP ino (a / 64,a % 64,(m : Int)) (xs.take m) L)) (wrPs ino (xs.drop m) (cuts fu (a + m) (n - m))) from rfl]
    refine ⟨fun w hw ht => ?_,fun k hk => ?_,fun i hi => (R i hi).trans (J i hi)⟩
    ·by_cases h3 : T (a + m) (n - m) w
     ·rw [P w hw h3]
      exact bG_congr fun i hi => J _ (by omega)
     ·have hwq : w = a / 64 := by
       unfold T at ht h3
       omega
      subst hwq
      rw [Q _ (fun u hu hu2 e => h3 (by rw [(kD_inj i0 i1 i0 i1 hw hu e).2]; exact hu2)),A]
      refine bG_congr fun i hi => ?_
      unfold putF
      rw [e1]
      unfold T at ht h3
      by_cases h4 : a.toNat ≤ 64 * (a / 64).toNat + i ∧ 64 * (a / 64).toNat + i < a.toNat + m
      ·rw [if_pos h4,if_pos (by omega),take_get,if_pos (by omega)]
      ·rw [if_neg h4,if_neg (by omega)]
    ·rw [Q k (fun u hu hu2 => hk u hu (by unfold T at hu2 ⊢; omega)),B k (hk _ hq (by unfold T; omega))]
end
theorem ext_gk {A B : List Pr} (ra : Rise A) (rb : Rise B) (ga : ∀ p ∈ A,p.gone = false) (gb : ∀ p ∈ B,p.gone = false) (h : ∀ k,DirsX.gk A k = DirsX.gk B k) : A = B := by
 have key : ∀ {A B : List Pr},Rise A → Rise B → (∀ p ∈ A,p.gone = false) → (∀ p ∈ B,p.gone = false) → (∀ q,DirsX.gk A q = DirsX.gk B q) → ∀ p ∈ A,p ∈ B := fun {A B} ra rb ga gb hab p hp => by
  have h1 : DirsX.gk A p.key = some p.value := by unfold DirsX.gk; rw [get_mem ra hp]; rfl
  rw [hab p.key] at h1
  unfold DirsX.gk at h1
  cases hq : getL p.key B with
  | none => rw [hq] at h1; cases h1
  | some q =>
    rw [hq] at h1
    injection h1 with h1
    obtain ⟨hq1,hq2⟩ := (get_iff rb).1 hq
    have e : p = q := by
     obtain ⟨pk,pv,pg⟩ := p
     obtain ⟨qk,qv,qg⟩ := q
     have g1 := ga _ hp
     have g2 := gb _ hq1
     dsimp only at h1 hq2 g1 g2
     rw [h1,hq2,g1,g2]
    rw [e]
    exact hq1
 exact rise_ext ra rb fun p => ⟨key ra rb ga gb h p,key rb ra gb ga (fun q => (h q).symm) p⟩
theorem gone_out : ∀ (ps : List Wrt) {L : List Pr},(∀ p ∈ L,p.gone = false) → ∀ p ∈ outW L ps,p.gone = false
 | [],_,h => h
 | q :: ps,_,h => gone_out ps (gone_done h _)
section
variable {L : List Pr} {ino : Int}
theorem fil_may (h : (filV L ino).2 = 0) : ∃ l z,filV L ino = (⟨1,l,z,0⟩,0) ∧ may 1 l z 0 = true ∧ 0 < l ∧ l < 1001 ∧ 0 ≤ z ∧ z < 4097 := by
 unfold filV at h ⊢
 by_cases hc : (loadM L ino).2 = true ∧ (loadM L ino).1.k = 1
 ·rw [if_pos hc]
  obtain ⟨h1,h2⟩ := hc
  rw [load_g] at h1 h2 ⊢
  unfold loadG at h1 h2 ⊢
  cases hg : DirsX.gk L (kI ino) with
  | none =>
    rw [hg] at h1 h2
    dsimp only at h1 h2
    by_cases h3 : ino = 1
    ·rw [if_pos h3] at h2
     have h4 : (2 : Int) = 1 := h2
     omega
    ·rw [if_neg h3] at h1
     cases h1
  | some v =>
    rw [hg] at h1 h2
    dsimp only at h1 h2 ⊢
    by_cases h3 : gok v = true
    ·rw [if_pos h3] at h2 ⊢
     have h4 : NodeM.gk v = 1 := h2
     have h5 := h3
     unfold gok at h5
     rw [h4,may_file] at h5
     simp only [Bool.and_eq_true,decide_eq_true_eq] at h5
     obtain ⟨_,⟨⟨l0,l1⟩,z1⟩,p0⟩ := h5
     have z0 := (g_bd v 5).1
     refine ⟨gl v,gs v,?_,?_,l0,l1,z0,z1⟩
     ·show ((⟨NodeM.gk v,gl v,gs v,gp v⟩ : Ino),(0 : Int)) = _
      rw [h4,p0]
     ·rw [may_file,decide_eq_true l0,decide_eq_true l1,decide_eq_true z1]; rfl
    ·rw [if_neg h3] at h1
     cases h1
 ·rw [if_neg hc] at h
  have h3 : (16 : Int) = 0 := h
  omega
theorem wri_at {l z a : Int} {b : List Int} (hf : filV L ino = (⟨1,l,z,0⟩,0)) (a0 : 0 ≤ a) (h1 : b.length ≤ 1024) (h2 : a + b.length ≤ 4096) (hb : b ≠ []) : wriV L ino a b = (0,wrPs ino b (cuts b.length a b.length) ++ [saveP ino 1 l (max z (a + b.length)) 0]) := by
 have hl : 0 < b.length := List.length_pos_iff.2 hb
 unfold wriV
 rw [hf]
 dsimp only
 rw [if_neg (by decide),if_neg (by omega),if_neg (by omega),if_neg (by omega)]
 unfold cutV
 rw [if_neg (by omega),Int.toNat_natCast]
theorem wri_nil {l z a : Int} (hf : filV L ino = (⟨1,l,z,0⟩,0)) (a0 : 0 ≤ a) (h2 : a ≤ 4096) : wriV L ino a [] = (0,[]) := by
 unfold wriV
 rw [hf]
 dsimp only [List.length_nil]
 rw [if_neg (by decide),if_neg (by omega),if_neg (by omega),if_pos rfl]
theorem kI_kD (i0 : 0 ≤ ino) (i1 : ino ≤ 4294967295) {w : Int} (hw : 0 ≤ w ∧ w ≤ 65535) : kI ino ≠ kD ino w := fun e => by
 have h1 := sp_I ino i0 i1
 rw [e,sp_D ino w i0 i1 hw.1 hw.2] at h1
 have h2 := congrArg (fun x => x.letter) h1
 have h3 : (68 : Int) = 73 := h2
 omega
theorem fil_after (hr : Rise L) {M : List Pr} (hM : Rise M) {l z : Int} (hm : may 1 l z 0 = true) (l0 : 0 < l) (l1 : l < 1001) (z0 : 0 ≤ z) (z1 : z < 4097) : filV (doneW M (saveP ino 1 l z 0 M)) ino = (⟨1,l,z,0⟩,0) := by
 have h1 : loadG (DirsX.gk (doneW M (saveP ino 1 l z 0 M))) ino = (⟨1,l,z,0⟩,true) := load_put hm (by decide) (by decide) (by omega) (by omega) (by omega) (by omega) (by decide) (by decide) (by
  rw [saved (g := fun _ => none) hM]
  rw [show kI ino = (⟨kI ino,nput 1 l z 0,false⟩ : Pr).key from rfl,setG_same]
  rfl)
 unfold filV
 rw [load_g,h1,if_pos ⟨rfl,rfl⟩]
theorem parts (hr : Rise L) (i0 : 0 ≤ ino) (i1 : ino ≤ 4294967295) (hf : (filV L ino).2 = 0) {a : Int} (a0 : 0 ≤ a) {b1 b2 : List Int} (h1 : b1.length + b2.length ≤ 1024) (h2 : a + b1.length + b2.length ≤ 4096) (y1 : ∀ x ∈ b1,0 ≤ x ∧ x ≤ 255) (y2 : ∀ x ∈ b2,0 ≤ x ∧ x ≤ 255) :
 (wriV L ino a (b1 ++ b2)).1 = 0 ∧ (wriV L ino a b1).1 = 0 ∧ (wriV (outW L (wriV L ino a b1).2) ino (a + b1.length) b2).1 = 0 ∧ ∀ k,DirsX.gk (outW L (wriV L ino a (b1 ++ b2)).2) k = DirsX.gk (outW (outW L (wriV L ino a b1).2) (wriV (outW L (wriV L ino a b1).2) ino (a + b1.length) b2).2) k := by
 obtain ⟨l,z,hF,hm,l0,l1,z0,z1⟩ := fil_may hf
 by_cases e1 : b1 = []
 ·subst e1
  have hw := wri_nil hF a0 (by rw [List.length_nil] at h2; omega)
  rw [hw,List.nil_append]
  show _ ∧ _ ∧ (wriV L ino (a + ((0 : Nat) : Int)) b2).1 = 0 ∧ ∀ k,_ = DirsX.gk (outW L (wriV L ino (a + ((0 : Nat) : Int)) b2).2) k
  rw [show a + ((0 : Nat) : Int) = a by omega]
  by_cases e2 : b2 = []
  ·subst e2
   rw [hw]
   exact ⟨rfl,rfl,rfl,fun _ => rfl⟩
  ·rw [wri_at hF a0 (by omega) (by rw [List.length_nil] at h2; omega) e2]
   exact ⟨rfl,rfl,rfl,fun _ => rfl⟩
 ·have n1 : 0 < b1.length := List.length_pos_iff.2 e1
  have W1 := wri_at hF a0 (b := b1) (by omega) (by omega) e1
  have hr1 := DirsS.rise_out (wrPs ino b1 (cuts b1.length a b1.length)) hr
  have hz1 : 0 ≤ max z (a + (b1.length : Int)) ∧ max z (a + (b1.length : Int)) < 4097 := by omega
  have hm1 : may 1 l (max z (a + (b1.length : Int))) 0 = true := by rw [may_file,decide_eq_true l0,decide_eq_true l1,decide_eq_true hz1.2]; rfl
  have e3 : outW L (wriV L ino a b1).2 = doneW (outW L (wrPs ino b1 (cuts b1.length a b1.length))) (saveP ino 1 l (max z (a + (b1.length : Int))) 0 (outW L (wrPs ino b1 (cuts b1.length a b1.length)))) := by
   rw [W1]
   exact out_app _ _ _
  have hF1 := fil_after (ino := ino) hr hr1 hm1 l0 l1 hz1.1 hz1.2
  rw [e3,W1]
  have hrM := rise_done hr1 (saveP ino 1 l (max z (a + (b1.length : Int))) 0 (outW L (wrPs ino b1 (cuts b1.length a b1.length))))
  have gM := saved (g := fun _ => none) (ino := ino) (k := 1) (l := l) (z := max z (a + (b1.length : Int))) (p := 0) hr1
  obtain ⟨P1,Q1,R1⟩ := rows_t (ino := ino) i0 i1 b1.length (a := a) (n := b1.length) (xs := b1) a0 (by omega) (Int.le_refl _) (by omega) y1 hr
  obtain ⟨N1,hN1⟩ : ∃ N,outW L (wrPs ino b1 (cuts b1.length a b1.length)) = N := ⟨_,rfl⟩
  rw [hN1] at P1 Q1 R1 gM hrM hF1 hr1 ⊢
  obtain ⟨M1,hM1⟩ : ∃ M,doneW N1 (saveP ino 1 l (max z (a + (b1.length : Int))) 0 N1) = M := ⟨_,rfl⟩
  rw [hM1] at gM hrM hF1 ⊢
  by_cases e2 : b2 = []
  ·subst e2
   rw [wri_nil hF1 (by omega) (by omega),List.append_nil,W1]
   refine ⟨rfl,rfl,rfl,fun k => ?_⟩
   show DirsX.gk (outW L (_ ++ _)) k = DirsX.gk M1 k
   rw [out_app,hN1,← hM1]
   rfl
  ·have n2 : 0 < b2.length := List.length_pos_iff.2 e2
   have hl : (b1 ++ b2).length = b1.length + b2.length := List.length_append
   have W := wri_at hF a0 (b := b1 ++ b2) (by omega) (by rw [hl]; omega) (fun e => e1 (List.append_eq_nil_iff.1 e).1)
   have W2 := wri_at hF1 (a := a + b1.length) (b := b2) (by omega) (by omega) (by omega) e2
   rw [W,W2]
   refine ⟨rfl,rfl,rfl,?_⟩
   dsimp only
   rw [out_app,out_app]
   obtain ⟨P,Q,R⟩ := rows_t (ino := ino) i0 i1 (b1 ++ b2).length (a := a) (n := ((b1 ++ b2).length : Nat)) (xs := b1 ++ b2) a0 (by rw [hl]; omega) (Int.le_refl _) (by omega) (fun x hx => (List.mem_append.1 hx).elim (y1 x) (y2 x)) hr
   obtain ⟨P2,Q2,R2⟩ := rows_t (ino := ino) i0 i1 b2.length (a := a + b1.length) (n := b2.length) (xs := b2) (by omega) (by omega) (Int.le_refl _) (by omega) y2 hrM
   have hrN := DirsS.rise_out (wrPs ino (b1 ++ b2) (cuts (b1 ++ b2).length a (b1 ++ b2).length)) hr
   have hrN2 := DirsS.rise_out (wrPs ino b2 (cuts b2.length (a + b1.length) b2.length)) hrM
   have hz2 : max (max z (a + (b1.length : Int))) (a + (b1.length : Int) + (b2.length : Int)) = max z (a + ((b1 ++ b2).length : Int)) := by rw [hl]; omega
   rw [hz2]
   intro k
   rw [show outW (outW L (wrPs ino (b1 ++ b2) (cuts (b1 ++ b2).length a (b1 ++ b2).length))) [saveP ino 1 l (max z (a + ((b1 ++ b2).length : Int))) 0] = doneW (outW L (wrPs ino (b1 ++ b2) (cuts (b1 ++ b2).length a (b1 ++ b2).length))) (saveP ino 1 l (max z (a + ((b1 ++ b2).length : Int))) 0 (outW L (wrPs ino (b1 ++ b2) (cuts (b1 ++ b2).length a (b1 ++ b2).length)))) from rfl,saved (g := fun _ => none) hrN]
   rw [show outW (outW M1 (wrPs ino b2 (cuts b2.length (a + b1.length) b2.length))) [saveP ino 1 l (max z (a + ((b1 ++ b2).length : Int))) 0] = doneW (outW M1 (wrPs ino b2 (cuts b2.length (a + b1.length) b2.length))) (saveP ino 1 l (max z (a + ((b1 ++ b2).length : Int))) 0 (outW M1 (wrPs ino b2 (cuts b2.length (a + b1.length) b2.length)))) from rfl,saved (g := fun _ => none) hrN2]
   by_cases hk : k = kI ino
   ·subst hk
    unfold setG
    rw [if_pos rfl,if_pos rfl]
   ·rw [setG_ne _ hk,setG_ne _ hk]
    have gne : ∀ k,k ≠ kI ino → DirsX.gk M1 k = DirsX.gk N1 k := fun k hk => by rw [gM]; exact setG_ne _ hk
    have psM : ∀ i,i < 4194304 → psi M1 ino i = putF (psi L ino) a.toNat b1 i := fun i hi => (psi_eq (getB_gk (gne _ (fun e => kI_kD i0 i1 (w := ((i / 64 : Nat) : Int)) (by omega) e.symm)))).trans (R1 i hi)
    have e5 : (a + (b1.length : Int)).toNat = a.toNat + b1.length := by omega
    by_cases ht : ∃ w,(0 ≤ w ∧ w ≤ 65535) ∧ T a (b1 ++ b2).length w ∧ k = kD ino w
    ·obtain ⟨w,hw,hT,rfl⟩ := ht
     rw [P w hw hT]
     by_cases h3 : T (a + b1.length) b2.length w
     ·rw [P2 w hw h3]
      refine bG_congr fun i hi => ?_
      rw [putF_congr (psM _ (by omega)),e5,putF_app]
     ·have h4 : T a b1.length w := by
       unfold T at hT h3 ⊢
       rw [hl] at hT
       omega
      rw [Q2 _ (fun u hu hu2 e => h3 (by rw [(kD_inj i0 i1 i0 i1 hw hu e).2]; exact hu2)),gne _ hk,P1 w hw h4]
      refine bG_congr fun i hi => ?_
      unfold putF
      unfold T at h3 h4
      rw [hl]
      by_cases h5 : a.toNat ≤ 64 * w.toNat + i ∧ 64 * w.toNat + i < a.toNat + b1.length
      ·rw [if_pos h5,if_pos (by omega),app_get,if_pos (by omega)]
      ·rw [if_neg h5,if_neg (by omega)]
    ·rw [Q k (fun w hw hT e => ht ⟨w,hw,hT,e⟩),Q2 k (fun w hw hT e => ht ⟨w,hw,by unfold T at hT ⊢; rw [hl]; omega,e⟩),gne _ hk,Q1 k (fun w hw hT e => ht ⟨w,hw,by unfold T at hT ⊢; rw [hl]; omega,e⟩)]
theorem parts_eq (hr : Rise L) (hg : ∀ p ∈ L,p.gone = false) (i0 : 0 ≤ ino) (i1 : ino ≤ 4294967295) (hf : (filV L ino).2 = 0) {a : Int} (a0 : 0 ≤ a) {b1 b2 : List Int} (h1 : b1.length + b2.length ≤ 1024) (h2 : a + b1.length + b2.length ≤ 4096) (y1 : ∀ x ∈ b1,0 ≤ x ∧ x ≤ 255) (y2 : ∀ x ∈ b2,0 ≤ x ∧ x ≤ 255) :
 outW L (wriV L ino a (b1 ++ b2)).2 = outW (outW L (wriV L ino a b1).2) (wriV (outW L (wriV L ino a b1).2) ino (a + b1.length) b2).2 :=
 ext_gk (DirsS.rise_out _ hr) (DirsS.rise_out _ (DirsS.rise_out _ hr)) (gone_out _ hg) (gone_out _ (gone_out _ hg)) (parts hr i0 i1 hf a0 h1 h2 y1 y2).2.2.2
end
end Go.Proofs.YtogdjbhjgbnicaaGreatDoor.OpsY
namespace Go.Proofs.YtogdjbhjgbnicaaGreatDoor.OpsYa
open Go.RowKit
open Byte KeysM TreeM ViewM ViewKm NamesL WalkM DirsV DirsX Lst Chg TreeL ViewL WalkL Vat DirsK DirsKa DirsKc FileV OpsR OpsE OpsI OpsS OpsT OpsTa OpsM OpsN OpsP
open OpsW (wrtD inoD_er)
open Own hiding keeps lower
variable {Rep : RepT}
structure Ap (Rep : RepT) (k k2 : Nat) (w : World) (g : Nat) (v : Value) (g2 : Nat) (v2 : Value) (hs hs2 : List Int) (s t : Vs) (S D S2 D2 : Nat → Prop) : Prop where
 a : Pk Rep k w g v hs s S D
 b : Pk Rep k2 w g2 v2 hs2 t S2 D2
 n1 : ∀ q,S q → ¬ D2 q
 n2 : ∀ q,S2 q → ¬ D q
 g1 : ¬ D2 g
 g2n : ¬ D g2
 gg : g ≠ g2
section
variable {k k2 k' : Nat} {w w' : World} {g g2 : Nat} {v v2 : Value} {hs hs2 hs' : List Int} {s t s' : Vs} {S D S2 D2 S' D' : Nat → Prop}
theorem Pk.below_ (hV : Stays Rep) (h : Pk Rep k w g v hs s S D) (hb : Below w.heap.size w w') : Pk Rep k w' g v hs s S D := ⟨h.dst.below hV hb,h.good,h.base,h.rd,h.rg,h.mx.below hb,h.gx⟩
theorem Ap.swap (h : Ap Rep k k2 w g v g2 v2 hs hs2 s t S D S2 D2) : Ap Rep k2 k w g2 v2 g v hs2 hs t s S2 D2 S D := ⟨h.b,h.a,h.n2,h.n1,h.g2n,h.g1,fun e => h.gg e.symm⟩
theorem Ap.below (hV : Stays Rep) (h : Ap Rep k k2 w g v g2 v2 hs hs2 s t S D S2 D2) (hb : Below w.heap.size w w') : Ap Rep k k2 w' g v g2 v2 hs hs2 s t S D S2 D2 := ⟨Pk.below_ hV h.a hb,Pk.below_ hV h.b hb,h.n1,h.n2,h.g1,h.g2n,h.gg⟩
theorem Ap.first (hV : Stays Rep) (h : Ap Rep k k2 w g v g2 v2 hs hs2 s t S D S2 D2) (hp : Pk Rep k' w' g v hs' s' S' D') (st : Dstp S D S' D' g w w') : Ap Rep k' k2 w' g v g2 v2 hs' hs2 s' t S' D' S2 D2 := by
 have lt2 := hV.lt h.b.dst.rep
 have gl := h.b.dst.dsk.blk.lt
 refine ⟨hp,⟨⟨hV.stay h.b.dst.rep st.chg (fun q e hd => ?_) st.kept,Dsk.chg h.b.dst.dsk st.chg (fun e => ?_),h.b.dst.ng⟩,h.b.good,h.b.base,h.b.rd,h.b.rg,⟨?_,h.b.mx.2⟩,h.b.gx⟩,fun q hq hd => ?_,fun q hq hd => ?_,h.g1,fun hd => ?_,h.gg⟩
 ·rcases e with e | e
  ·exact h.n1 q e hd
  ·have e' : q = g := e
   rw [e'] at hd
   exact h.g1 hd
 ·rcases e with e | e
  ·exact h.g2n (hV.sub h.a.dst.rep _ e)
  ·exact h.gg e.symm
 ·obtain ⟨m,hm⟩ := h.a.mx.1
  exact ⟨m,st.chg.cell hm (fun e => by
   rcases e with e | e
   ·exact h.a.mx.2 e
   ·exact h.a.gx e.symm)⟩
 ·rcases st.own q hq with h1 | h1
  ·exact h.n1 q h1 hd
  ·have := lt2 q hd
   omega
 ·rcases st.dep q hd with h1 | h1
  ·exact h.n2 q hq h1
  ·have := lt2 q (hV.sub h.b.dst.rep q hq)
   omega
 ·rcases st.dep g2 hd with h1 | h1
  ·exact h.g2n h1
  ·omega
end
section
variable {R : Out} {s t s' t' : Vs} {r q : Res20} {b b2 : Nat} {u u2 : World} {hs' ht' : List Int}
theorem qa_two (hx : QA R s r b u hs' s') (hy : QA R t q b2 u2 ht' t') (sm : Sm t s) : Sm t' s' ∧ ht' = hs' ∧ q.er = r.er ∧ s'.base = s.base := by
 have h1 := goW_sm R.ps sm
 refine ⟨hy.aft.sm.trans (h1.1.trans hx.aft.sm.symm),hy.hs.trans hx.hs.symm,?_,by rw [hx.aft.sm.base,goW_base]⟩
 rw [hx.er,hy.er,h1.2]
end
def wop (frm : Int) (da : Option Addr) (dn dc : Nat) : Op20 := ⟨9,⟨#[]⟩,⟨#[]⟩,0,frm,0,da,dn,dc⟩
theorem out_w (L : List Pr) (hs : List Int) (frm : Int) (da : Option Addr) (dn dc : Nat) (xs : List Int) (ino : Int) : outO L hs (wop frm da dn dc) xs ino = ⟨(wrtD L hs 0 frm xs).1,dn,[],[],0,0,0,hs,(wrtD L hs 0 frm xs).2⟩ := by
 unfold outO wop
 dsimp only
 rw [if_neg (by decide),if_neg (by decide),if_neg (by decide),if_neg (by decide),if_neg (by decide),if_pos rfl]
theorem nogone {s : Vs} (ho : s.Ok) (hb : s.base = []) : ∀ p ∈ s.shown,p.gone = false := fun p hp => by
 rcases (mem_shown ho.wr).1 hp with ⟨x,_,_,e⟩ | ⟨h1,_⟩
 ·rw [e]
 ·rw [hb] at h1
  cases h1
theorem fil_no {L : List Pr} {ino : Int} (h : (filV L ino).2 ≠ 0) (a : Int) (b : List Int) : wriV L ino a b = (16,[]) := by
 unfold wriV
 rw [if_pos h]
 unfold filV at h ⊢
 split
 ·rename_i h1
  rw [if_pos h1] at h
  exact absurd rfl h
 ·rfl
section
variable {s t t1 s' t2 : Vs} {hs hs' ht1 ht2 : List Int} {r q p : Res20} {b b2 b3 : Nat} {u u2 u3 : World}
theorem parts_end {frm : Int} {A A1 A2 : Option Addr} {n c c1 c2 k : Nat} {ys : List Int} (hx : QA (outO s.shown hs (wop frm A n c) ys 99) s r b u hs' s') (hy : QA (outO t.shown hs (wop frm A1 k c1) (ys.take k) 99) t q b2 u2 ht1 t1) (hz : QA (outO t1.shown ht1 (wop (frm + k) A2 (n - k) c2) (ys.drop k) 99) t1 p b3 u3 ht2 t2)
 (sm : Sm t s) (os : s.Ok) (ot : t.Ok) (ot1 : t1.Ok) (hb : s.base = []) (bd : ∀ x ∈ hs,0 ≤ x ∧ x ≤ 4294967295) (f0 : 0 ≤ frm) (hn : n ≤ 1024) (hf : frm + n ≤ 4096) (hl : ys.length = n) (hk : k ≤ n) (hy8 : ∀ x ∈ ys,0 ≤ x ∧ x ≤ 255) (nr : r.er ≠ 21) (nq : q.er ≠ 21) (np : p.er ≠ 21) :
 q.er = r.er ∧ p.er = r.er ∧ r.n = q.n + p.n ∧ t2.shown = s'.shown := by
 have e1 : ys.take k ++ ys.drop k = ys := List.take_append_drop k ys
 have l1 : (ys.take k).length = k := by rw [List.length_take]; omega
 have l2 : (ys.drop k).length = n - k := by rw [List.length_drop]; omega
 rw [out_w] at hx hy hz
 have hh1 : ht1 = hs := hy.hs
 rw [hh1] at hz
 have xer := hx.er
 have yer := hy.er
 have zer := hz.er
 have xn := hx.n
 have yn := hy.n
 have zn := hz.n
 have xs := hx.aft.sm
 have ysm := hy.aft.sm
 have zs := hz.aft.sm
 dsimp only at xer yer zer xn yn zn xs ysm zs
 rw [sm.shown] at yer ysm
 have stay : ∀ {x y : Vs},Sm y (goW x []).1 → y.shown = x.shown := fun h => by rw [goW_nil] at h; exact h.shown
 have bad : ∀ {e : Int},e ≠ 0 → e ≠ 21 → (∀ (L : List Pr) (a : Int) (b : List Int),L = s.shown → wrtD L hs 0 a b = (e,[])) → q.er = r.er ∧ p.er = r.er ∧ r.n = q.n + p.n ∧ t2.shown = s'.shown := fun {e} h0 h2 h1 => by
  rw [h1 _ _ _ rfl] at xer yer xs ysm
  have s1 := stay ysm
  rw [sm.shown] at s1
  rw [h1 _ _ _ s1] at zer zs
  rw [goW_nil,if_pos rfl] at xer yer zer
  dsimp only at xer yer zer
  refine ⟨yer.trans xer.symm,zer.trans xer.symm,?_,?_⟩
  ·rw [xn,yn,zn,xer,yer,zer,if_neg h0,if_neg h0,if_neg h0]; rfl
  ·rw [stay zs,s1,stay xs]
 rcases inoD_er hs 0 with hi | hi
 ·by_cases hfil : (filV s.shown (inoD hs 0).1).2 = 0
  ·have bi := inoD_bd bd 0
   have hr : Rise s.shown := ViewM.rise_shown os.base _
   have hg := nogone os hb
   obtain ⟨P1,P2,P3,P4⟩ := OpsY.parts hr bi.1 bi.2 hfil (a := frm) f0 (b1 := ys.take k) (b2 := ys.drop k) (by omega) (by omega) (fun x hx => hy8 x (List.mem_of_mem_take hx)) (fun x hx => hy8 x (List.mem_of_mem_drop hx))
   have PE := OpsY.parts_eq hr hg bi.1 bi.2 hfil (a := frm) f0 (b1 := ys.take k) (b2 := ys.drop k) (by omega) (by omega) (fun x hx => hy8 x (List.mem_of_mem_take hx)) (fun x hx => hy8 x (List.mem_of_mem_drop hx))
   rw [e1] at P1 PE
   rw [l1] at P3 PE
   have W : ∀ (L : List Pr) (a : Int) (b : List Int),wrtD L hs 0 a b = wriV L (inoD hs 0).1 a b := fun L a b => by unfold wrtD; rw [if_pos hi]
   rw [W] at xer yer zer xs ysm zs
   have room : ∀ {x y : Int} {c : Bool},x = (if c = true then y else 21) → x ≠ 21 → c = true ∧ x = y := fun {x y c} h1 h2 => by
    cases c with
    | true => exact ⟨rfl,h1⟩
    | false => exact absurd h1 h2
   obtain ⟨gx,ex⟩ := room xer nr
   obtain ⟨gy,ey⟩ := room yer nq
   obtain ⟨gz,ez⟩ := room zer np
   have o1 := (go_out _ os gx).1
   have gy2 := goW_sm (wriV s.shown (inoD hs 0).1 frm (ys.take k)).2 sm
   have o2 := go_out _ os (gy2.2.symm.trans gy)
   have s2 : t1.shown = outW s.shown (wriV s.shown (inoD hs 0).1 frm (ys.take k)).2 := by rw [ysm.shown,gy2.1.shown,o2.1]
   have o3 := (go_out _ ot1 gz).1
   rw [s2] at ez
   have z0 : p.er = 0 := ez.trans P3
   have y0 : q.er = 0 := ey.trans P2
   have x0 : r.er = 0 := ex.trans P1
   refine ⟨y0.trans x0.symm,z0.trans x0.symm,?_,?_⟩
   ·rw [xn,yn,zn,if_pos x0,if_pos y0,if_pos z0]
    omega
   ·rw [zs.shown,o3,xs.shown,o1,PE,s2]
  ·refine bad (e := 16) (by decide) (by decide) (fun L a b e => ?_)
   subst e
   unfold wrtD
   rw [if_pos hi,fil_no hfil]
 ·refine bad (e := 16) (by decide) (by decide) (fun L a b e => ?_)
  unfold wrtD
  rw [if_neg (by rw [hi]; decide)]
end
end Go.Proofs.YtogdjbhjgbnicaaGreatDoor.OpsYa
namespace Go.Proofs.YtogdjbhjgbnicaaGreatDoor.OpsYb
open Go.RowKit
open Ho Byte KeysM TreeM ViewM NamesL WalkM DirsV Lst Chg TreeL ViewL WalkL WalkV Vat DirsK DirsKa DirsKc FileKd OpsR OpsE OpsI OpsS OpsT OpsTa OpsM OpsN OpsP OpsC OpsX OpsYa
open OpsGh (not_great op_own eqpr)
open Own hiding keeps lower
open RgN (RangeN)
variable {Rep : RepT}
theorem Pk.ranged (hV : Stays Rep) {k : Nat} {w w' : World} {g : Nat} {v : Value} {hs : List Int} {s : Vs} {S D S' D' : Nat → Prop} (h : Pk Rep k w g v hs s S D) (x y : ByteArray) (hr : Rep w' v (s.ranged x y) S' D') (st : Stp S D S' D' w w') : Pk Rep (k + 1) w' g v hs (s.ranged x y) S' D' ∧ Dstp S D S' D' g w w' := by
 obtain ⟨h1,h2⟩ := h.dst.step hV hr st
 obtain ⟨e1,e2,e3,e4,e5⟩ := RgN.ranged_same s x y
 have hrd := h.rd
 have hrg := h.rg
 exact ⟨⟨h1,by rw [e1]; exact h.good,by rw [e2]; exact h.base,by rw [e4]; omega,by omega,mxs_dstp h.mx h.gx h2,h.gx⟩,h2⟩
theorem range_len (s : Vs) (x y : ByteArray) : (s.rangeOf x y).length ≤ s.shown.length := by
 unfold Vs.rangeOf
 split
 ·exact List.length_filter_le _ _
 ·exact Nat.zero_le _
theorem range_eq {s t : Vs} (h : t.shown = s.shown) (x y : ByteArray) : t.rangeOf x y = s.rangeOf x y := by
 unfold Vs.rangeOf
 rw [h]
theorem bs_take {w : World} {A : Option Addr} {m q : Nat} {ys : List Int} (h : Bs w A m ys) (hq : q ≤ m) : Bs w A q (ys.take q) := by
 refine ⟨by rw [List.length_take,h.1]; omega,fun x hx => h.2.1 x (List.mem_of_mem_take hx),fun k hk => ?_⟩
 obtain ⟨b,o,e,hb,hc⟩ := h.2.2 k (by omega)
 refine ⟨b,o,e,hb,?_⟩
 rw [show (ys.take q).getD k 0 = ys.getD k 0 by rw [FileN.take_get,if_pos hk]]
 exact hc
theorem slice_lo (A : Option Addr) (m d q : Nat) (ys : List Int) (hA : A = none → d = 0) (h0 : 0 < m → ∃ b o,A = some ⟨b,o,none⟩) (h : q ≤ m) (h2 : m ≤ d) (hl : ys.length = m) : ∃ A2,(∀ w,(Instr.sliceAt 39 (.slice A m d) (some (.int .i64 (q : Int))) none none).run Tryz.prog w = .ok (.slice A2 (m - q) (d - q)) w) ∧ (∀ w,Bs w A m ys → Bs w A2 (m - q) (ys.drop q)) ∧ (∀ b o,A2 = some ⟨b,o,none⟩ → ∃ o',A = some ⟨b,o',none⟩) := by
 have ht : Tryz.prog.underlying 39 = some (.slice (Tryz.prog.elem 39)) := by kernel_rfl
 have ee : Tryz.prog.elem 39 = 5 := by kernel_rfl
 by_cases hq : q = 0
 ·subst hq
  refine ⟨A,fun w => ?_,fun w hb => by rw [List.drop_zero]; exact hb,fun b o e => ⟨o,e⟩⟩
  rw [run_sliceAt_slice w 39 _ _ _ _ ht,run_slice_l w 39 _ m d ht .i64 ((0 : Nat) : Int) (by omega) (by omega),ee,Tryz.sizeOf5]
  cases A with
  | none =>
    have e := hA rfl
    subst e
    have e1 : m = 0 := by omega
    subst e1
    rfl
  | some a => simp [sliced,Addr.add]
 ·obtain ⟨b,o,rfl⟩ := h0 (by omega)
  by_cases hm : m = q
  ·subst hm
   refine ⟨if d = m then some ⟨b,o,none⟩ else some ⟨b,o + m,none⟩,fun w => ?_,fun w hb => by rw [Nat.sub_self,List.drop_of_length_le (by omega)]; exact Bs.nil_ _ _,fun b' o' e => ?_⟩
   ·rw [run_sliceAt_slice w 39 _ _ _ _ ht,run_slice_l w 39 _ m d ht .i64 (m : Int) (by omega) (by omega),ee,Tryz.sizeOf5,Int.toNat_natCast]
    by_cases hd : d = m
    ·simp [sliced,hd]
    ·simp [sliced,Addr.add,hd]
     try omega
   ·split at e
    ·injection e with e; injection e with e _; exact ⟨o,by rw [e]⟩
    ·injection e with e; injection e with e _; exact ⟨o,by rw [e]⟩
  ·refine ⟨some ⟨b,o + q,none⟩,fun w => ?_,fun w hb => ?_,fun b' o' e => ?_⟩
   ·rw [run_sliceAt_slice w 39 _ _ _ _ ht,run_slice_l w 39 _ m d ht .i64 (q : Int) (by omega) (by omega),ee,Tryz.sizeOf5,Int.toNat_natCast]
    have hd : ¬ d = q := by omega
    simp [sliced,Addr.add,hd]
    try omega
   ·have h3 := hb.sub q (m - q) (by omega)
    rw [List.take_of_length_le (by rw [List.length_drop]; omega)] at h3
    exact h3
   ·injection e with e; injection e with e _; exact ⟨o,by rw [e]⟩
theorem parts_law (hV : Vw20 Rep) (hN : NewB Rep) (hPt : ∀ (w : World) (v : Value) (s : Vs) (S D : Nat → Prop),Rep w v s S D → ∃ A,v = .pointer A) (hF : OpsL.FixOk) (A : Option Addr) (n c : Nat) (ops : List Op20) (frm : Int) (bA : Option Addr) (bn bc : Nat) (ys : List Int) (cu : Int) (w : World) (hl : Sl o7E w A n ops) (hn : n ≤ c) (hc : c ≤ maxLen) (hops : ∀ x ∈ ops,Op20G w x) (fr0 : -9223372036854775808 ≤ frm) (fr1 : frm ≤ 9223372036854775807) (hb : Bs w bA bn ys) (hbn : bn ≤ bc) (hbc : bc ≤ maxLen) (hbA : bA = none → bc = 0) (cu0 : 0 ≤ cu) (cu1 : cu ≤ 65535) (hmx : Mx w) :
 Calls Tryz.prog 7 #[.slice A n c,.int .i64 frm,.slice bA bn bc,.int .u16 cu] w fun e w' => e = .returned (.bool true) ∧ Below w.heap.size w w' := by
 have HMX := hQ_ hmx
 have HN := hQ_ hN
 have HRN := hQ_ hV.rn
 have HV := hQ_ hV
 have HS := hQ_ hV.wk.stays
 have HPT := hQ_ hPt
 have HF := hQ_ hF
 have HL := hQ_ hl
 have HOPS := hQ_ hops
 have HBS := hQ_ hb
 have HBA := hQ_ hbA
 have HBC := hQ_ hbc
 have HCN := hQ_ (And.intro hn hc)
 have HML : Hid (0 < w.heap.size) := hQ_ (by
  obtain ⟨m,hm⟩ := HMX.out
  exact World.block_lt_of_cell? w ⟨0,0,none⟩ hm)
 clear hmx hN hV hPt hF hl hops hb hbA hbc hn hc
 go_enter Tryz.func7,Tryz.ntmps7
 by_cases q1 : 1024 < bn
 ·have d1 : decide ((bn : Int) > 1024) = true := decide_eq_true (by omega)
  go_wp2_with fail
  refine (HF.out _ HMX.out).mono ?_
  rintro e wf ⟨rfl,hbf⟩
  have HBF := hQ_ (Own.keeps (Below.refl _ _) hbf)
  clear hbf
  go_wp2_with fail
  go_ret
  exact ⟨rfl,HBF.out⟩
 have d1 : decide ((bn : Int) > 1024) = false := decide_eq_false (by omega)
 by_cases q2 : frm < 0
 ·have d2 : decide (frm < 0) = true := decide_eq_true q2
  go_wp2_with fail
  refine (HF.out _ HMX.out).mono ?_
  rintro e wf ⟨rfl,hbf⟩
  have HBF := hQ_ (Own.keeps (Below.refl _ _) hbf)
  clear hbf
  go_wp2_with fail
  go_ret
  exact ⟨rfl,HBF.out⟩
 have d2 : decide (frm < 0) = false := decide_eq_false q2
 by_cases q3 : 4096 - (bn : Int) < frm
 ·have d3 : decide (frm > 4096 - (bn : Int)) = true := decide_eq_true q3
  go_wp2_with fail
  refine (HF.out _ HMX.out).mono ?_
  rintro e wf ⟨rfl,hbf⟩
  have HBF := hQ_ (Own.keeps (Below.refl _ _) hbf)
  clear hbf
  go_wp2_with fail
  go_ret
  exact ⟨rfl,HBF.out⟩
 have d3 : decide (frm > 4096 - (bn : Int)) = false := decide_eq_false q3
 go_wp2_with fail
 clear d1 d2 d3
 refine (TreeG.new_calls _).mono ?_
 rintro e w2 ⟨v0,hh0,rfl,hr0,hb2⟩
 have HB2 := hQ_ hb2
 have HR0 := hQ_ hr0
 clear hb2 hr0
 go_wp2_with fail
 refine (HN.out HR0.out (Nat.zero_le _) (fun p hp => by cases hp)).mono ?_
 rintro e w3 ⟨v,S,D,rfl,hr3,hS3,hD3,hb3⟩
 obtain ⟨B,rfl⟩ := HPT.out _ _ _ _ _ hr3
 have HB3 := hQ_ (Own.keeps HB2.out hb3)
 have HS3 : Hid (∀ b,S b → w.heap.size ≤ b) := hQ_ (fun b hb => Nat.le_trans HB2.out.size (hS3 b hb))
 have HR3 := hQ_ hr3
 clear hb3 hr3 hS3 hD3
 go_wp2_with fail
 refine (OpsF.new_desk B _).mono ?_
 rintro e w4 ⟨rfl,hd4,hb4⟩
 obtain ⟨gd,hgd⟩ : ∃ gd,w3.heap.size = gd := ⟨_,rfl⟩
 rw [hgd] at hd4 ⊢
 have HGD : Hid (w.heap.size ≤ gd) := hQ_ (by have := HB3.out.size; omega)
 have HB4 := hQ_ (Own.keeps HB3.out hb4)
 have P4 : Hid (Pk Rep 0 w4 gd (.pointer B) OpsFm.h0 OpsFm.s0 S D) := hQ_ ⟨⟨HS.out.below HR3.out hb4,hd4,fun e => by have := HS.out.lt HR3.out gd e; omega⟩,good_nil,Nat.zero_le _,Nat.zero_le _,Nat.zero_le _,⟨HMX.out.below HB4.out,fun hs => by have h1 := HS3.out _ hs; have h2 := HML.out; omega⟩,by have h2 := HML.out; have h4 := HGD.out; omega⟩
 have HDL : Hid (∀ b,D b → b < gd) := hQ_ (fun b hb => by have := HS.out.lt HR3.out b hb; omega)
 clear hd4 hb4
 go_wp2_with fail
 refine (TreeG.new_calls _).mono ?_
 rintro e w5 ⟨v1,hh1,rfl,hr1,hb5⟩
 have HB5 := hQ_ (Own.keeps HB4.out hb5)
 have P5 := hQ_ (Pk.below_ HS.out P4.out hb5)
 have HR1 := hQ_ hr1
 have hg5 := P5.out.dst.dsk.blk.lt
 clear hb5 hr1
 go_wp2_with fail
 refine (HN.out HR1.out (Nat.zero_le _) (fun p hp => by cases hp)).mono ?_
 rintro e w6 ⟨v2,S2,D2,rfl,hr6,hS6,hD6,hb6⟩
 obtain ⟨B2,rfl⟩ := HPT.out _ _ _ _ _ hr6
 have HB6 := hQ_ (Own.keeps HB5.out hb6)
 have P6 := hQ_ (Pk.below_ HS.out P5.out hb6)
 have HS6 : Hid (∀ b,S2 b → w5.heap.size ≤ b) := hQ_ hS6
 have HD6 : Hid (∀ b,D2 b → w5.heap.size ≤ b) := hQ_ hD6
 have HR6 := hQ_ hr6
 have hs6 := hb6.size
 clear hb6 hr6 hS6 hD6
 go_wp2_with fail
 refine (OpsF.new_desk B2 _).mono ?_
 rintro e w7 ⟨rfl,hd7,hb7⟩
 obtain ⟨ge,hge⟩ : ∃ ge,w6.heap.size = ge := ⟨_,rfl⟩
 rw [hge] at hd7 ⊢
 have HGE : Hid (gd < ge) := hQ_ (by omega)
 have HB7 := hQ_ (Own.keeps HB6.out hb7)
 have A7 : Hid (Ap Rep 0 0 w7 gd (.pointer B) ge (.pointer B2) OpsFm.h0 OpsFm.h0 OpsFm.s0 OpsFm.s0 S D S2 D2) := hQ_ ⟨Pk.below_ HS.out P6.out hb7,⟨⟨HS.out.below HR6.out hb7,hd7,fun e => by have := HS.out.lt HR6.out ge e; omega⟩,good_nil,Nat.zero_le _,Nat.zero_le _,Nat.zero_le _,⟨HMX.out.below HB7.out,fun hs => by have h1 := HS6.out _ hs; have h2 := HML.out; have h3 := HGD.out; omega⟩,by have h2 := HML.out; have h4 := HGD.out; omega⟩,fun q hq hd => by have h1 := HD6.out q hd; have h2 := HDL.out q (HS.out.sub HR3.out q hq); omega,fun q hq hd => by have h1 := HS6.out q hq; have h2 := HDL.out q hd; omega,fun hd => by have h1 := HD6.out gd hd; omega,fun hd => by have h2 := HDL.out ge hd; omega,by omega⟩
 have HS7 : Hid ((∀ b,S b → w.heap.size ≤ b) ∧ ∀ b,S2 b → w.heap.size ≤ b) := hQ_ ⟨HS3.out,fun b hb => by have h1 := HS6.out b hb; have h3 := HGD.out; omega⟩
 clear hd7 hb7 hs6 hg5
 go_wp2_with fail
 refine (cut_calls A n c ops _ (HL.out.below HB7.out) HCN.out.1 HCN.out.2).mono ?_
 rintro e w8 ⟨m,rfl,hmn,hm60,hgood,hb8⟩
 have A8 := hQ_ (Ap.below HS.out A7.out hb8)
 have HB8 := hQ_ (Own.keeps HB7.out hb8)
 have HGO := hQ_ hgood
 clear hgood hb8
 go_wp2_with fail
 go_loopw [50] (fun i wr => ∃ (k : Nat) (hs : List Int) (s t : Vs) (S D S2 D2 : Nat → Prop),k ≤ m ∧ i = .int .i64 k ∧ Hid (Ap Rep k k wr gd (.pointer B) ge (.pointer B2) hs hs s t S D S2 D2) ∧ Hid (Sm t s ∧ s.base = []) ∧ Hid (Below w.heap.size w wr ∧ (∀ b,S b → w.heap.size ≤ b) ∧ ∀ b,S2 b → w.heap.size ≤ b)) (fun i _ => m - (intOf i).toNat)
 case atStart => exact ⟨0,_,_,_,S,D,S2,D2,Nat.zero_le _,rfl,A8,hQ_ ⟨Sm.refl _,rfl⟩,hQ_ ⟨HB8.out,HS7.out.1,HS7.out.2⟩⟩
 case round =>
  clear HS7 HS6 HD6 HDL HS3 HR3 HR6 P4 P5 P6 A7 A8 S D S2 D2
  obtain ⟨k,hs,s,t,S,D,S2,D2,hk,rfl,HP,HSM,HZ⟩ := hrel
  by_cases hlt : k < m
  ·obtain ⟨x,g,o,hx,rfl,hg,hcl⟩ := (HL.out.below HZ.out.1).get k (by omega)
   have HXG := hQ_ (HGO.out k x hlt hx)
   have HXO := hQ_ (HOPS.out x (List.mem_of_getElem? hx))
   obtain ⟨xs,hxs⟩ := HXO.out.bs
   have HOW := hQ_ (fun u (hb : Below w.heap.size w u) => own_calls x u (hxs.below hb) HXO.out.nil (by have := (not_great HXG.out).2.2; omega))
   have HXS := hQ_ hxs.2.1
   obtain ⟨xk,xp,xo,xh,xf,xn,xa,xl,xc⟩ := x
   dsimp only [Op20.val,Op20.cells] at HOW
   have HC : Hid (wr.rangeAt g (o + k * 7) [.int .u8 xk,.string xp,.string xo,.int .i64 xh,.int .i64 xf,.int .i64 xn,.slice xa xl xc]) := hQ_ hcl
   have O9 := hQ_ (Blk.new_ wr #[.int .u8 xk,.string xp,.string xo,.int .i64 xh,.int .i64 xf,.int .i64 xn,.slice xa xl xc] 41)
   have hb9 := bX_ O9.out
   have A9 := hQ_ (Ap.below HS.out HP.out hb9)
   have B9 := hQ_ (Own.keeps HZ.out.1 hb9)
   have HLW : Hid ((∀ b,D b → b < wr.heap.size) ∧ (∀ b,D2 b → b < wr.heap.size) ∧ gd < wr.heap.size ∧ ge < wr.heap.size) := hQ_ ⟨HS.out.lt HP.out.a.dst.rep,HS.out.lt HP.out.b.dst.rep,HP.out.a.dst.dsk.blk.lt,HP.out.b.dst.dsk.blk.lt⟩
   obtain ⟨wa,hwa⟩ : ∃ wa,wr.alloc (.cells #[.int .u8 xk,.string xp,.string xo,.int .i64 xh,.int .i64 xf,.int .i64 xn,.slice xa xl xc] 41) = wa := ⟨_,rfl⟩
   rw [hwa] at A9 B9 O9
   have HWA := hQ_ hwa
   have q60 : (2 + (k : Int)) % 4294967296 = 2 + k := by omega
   clear hcl hx hb9 hxs hwa
   go_upto_region 9 with ((with_reducible refine pick (some 54) ?_); refine wpList_load_mid rfl 41 _ rfl g (o + k * 7) rfl _ _ HC.out Tryz.underlying41 rfl info_op20 ?_)
   rw [HWA.out]
   obtain ⟨gx,hgx⟩ : ∃ gx,wr.heap.size = gx := ⟨_,rfl⟩
   rw [hgx] at O9 HLW ⊢
   go_wp2_with ((with_reducible refine pick (some 56) ?_); refine load_blk rfl 41 _ rfl gx rfl 41 _ _ O9.out Tryz.underlying41 rfl info_op20 ?_)
   refine (HOW.out _ B9.out).mono ?_
   rintro e wb ⟨q10,c10,rfl,so10,h101,h102,h103,h104,hb10⟩
   have A10 := hQ_ (Ap.below HS.out A9.out hb10)
   have B10 := hQ_ (Own.keeps B9.out hb10)
   have O10 := hQ_ (O9.out.below hb10)
   have OB10 := hQ_ (op_own HS.out A9.out.a HXO.out HXG.out HXS.out so10 h101 h102 h103 h104)
   have HDO := hQ_ (A10.out.a.do_ HV.out (by omega) _ (2 + (k : Int)) OB10.out (by omega) (by omega))
   dsimp only [Op20.val,Op20.cells,withD] at HDO
   clear so10 h101 h102 h103 h104 hb10
   go_wp2_with fail
   refine HDO.out.mono ?_
   rintro e wc ⟨⟨er,rn,rda,rdn,rdc,rna,rnn,rnc,rk,rl,rs,rp⟩,hs1,s1,S1,D1,rfl,P1,st1,qa1,of1⟩
   have A11 := hQ_ (Ap.first HS.out A10.out P1 st1)
   have B11 := hQ_ (OpsF.bel_dst B10.out HZ.out.2.1 HGD.out st1)
   have O11 : Hid (Blk wc gx #[.int .u8 xk,.string xp,.string xo,.int .i64 xh,.int .i64 xf,.int .i64 xn,.slice xa xl xc] 41) := hQ_ ((st1.chg.block gx O10.out.lt (fun e => by
    rcases e with e | e
    ·have := HLW.out.1 _ (HS.out.sub HP.out.a.dst.rep _ e)
     omega
    ·have h1 := HLW.out.2.2.1
     omega)).trans O10.out)
   have QA1 := hQ_ qa1
   have fl0 := field_0 (.int .i64 er) (.int .i64 rn) (.slice rda rdn rdc) (.slice rna rnn rnc) (.int .u8 rk) (.int .u32 rl) (.int .u32 rs) (.int .u32 rp) wc
   clear P1 st1 qa1 of1
   by_cases e21 : er = 21
   ·subst e21
    go_wp2_with fail
    refine (HF.out _ A11.out.a.mx.1).mono ?_
    rintro e wf ⟨rfl,hbf⟩
    have HBF := hQ_ (Own.keeps B11.out.1 hbf)
    clear hbf
    go_wp2_with fail
    go_ret
    exact ⟨rfl,HBF.out⟩
   ·have d21 : (er == 21) = false := by simpa using e21
    have k0 := cC7 O11.out
    go_wp2_with fail
    refine (HOW.out _ B11.out.1).mono ?_
    rintro e wd ⟨q12,c12,rfl,so12,h121,h122,h123,h124,hb12⟩
    clear k0
    have A12 := hQ_ (Ap.below HS.out A11.out hb12)
    have B12 := hQ_ (Own.keeps B11.out.1 hb12)
    have OB12 := hQ_ (op_own HS.out A11.out.b HXO.out HXG.out HXS.out so12 h121 h122 h123 h124)
    have HDO2 := hQ_ (A12.out.b.do_ HV.out (by omega) _ (2 + (k : Int)) OB12.out (by omega) (by omega))
    dsimp only [Op20.val,Op20.cells,withD] at HDO2
    clear so12 h121 h122 h123 h124 hb12
    go_wp2_with fail
    refine HDO2.out.mono ?_
    rintro e we ⟨⟨er2,rn2,rda2,rdn2,rdc2,rna2,rnn2,rnc2,rk2,rl2,rs2,rp2⟩,ht1,t1,S3,D3,rfl,P2,st2,qa2,of2⟩
    have A13 := hQ_ (Ap.first HS.out A12.out.swap P2 st2).swap
    have B13 := hQ_ (OpsF.bel_dst B12.out HZ.out.2.2 (Nat.le_of_lt (Nat.lt_of_le_of_lt HGD.out HGE.out)) st2)
    have fl1 := field_0 (.int .i64 er2) (.int .i64 rn2) (.slice rda2 rdn2 rdc2) (.slice rna2 rnn2 rnc2) (.int .u8 rk2) (.int .u32 rl2) (.int .u32 rs2) (.int .u32 rp2) we
    have hq2 := qa_two QA1.out (by rw [HSM.out.1.shown] at qa2; exact qa2) HSM.out.1
    obtain ⟨hz1,hz2,hz3,hz4⟩ := hq2
    dsimp only at hz3
    subst hz3
    subst hz2
    have HSM2 := hQ_ (And.intro hz1 (hz4.trans HSM.out.2))
    clear P2 st2 qa2 of2 hz1 hz4 e21
    go_wp2_with fail
    go_roundw
    case rel => exact ⟨k + 1,_,_,_,_,_,_,_,by omega,by go_num,A13,HSM2,hQ_ ⟨B13.out.1,B11.out.2,B13.out.2⟩⟩
    case measure => simp [intOf]; omega
  ·obtain rfl : k = m := by omega
   have hkk : k ≤ 60 := hm60
   have HKK := hQ_ hkk
   clear hkk
   obtain ⟨kk,hkm⟩ : ∃ kk : Nat,Int.tmod cu ((bn : Int) + 1) = (kk : Int) := ⟨(Int.tmod cu ((bn : Int) + 1)).toNat,by
    rw [Int.tmod_eq_emod_of_nonneg cu0]
    have := Int.emod_nonneg cu (b := (bn : Int) + 1) (by omega)
    omega⟩
   have hkb : kk ≤ bn := by
    rw [Int.tmod_eq_emod_of_nonneg cu0] at hkm
    have := Int.emod_lt_of_pos cu (b := (bn : Int) + 1) (by omega)
    omega
   have hdz : ((bn : Int) + 1 == 0) = false := by simp; omega
   have HOFB : Hid (∀ S' : Nat → Prop,(∀ b,S' b → w.heap.size ≤ b) → 0 < bn → ∀ b of,bA = some ⟨b,of,none⟩ → ¬ S' b ∧ b < w.heap.size) := hQ_ (fun S' h0 hp b of e => by
    obtain ⟨b',o',e',hlt,_⟩ := HBS.out.2.2 0 hp
    rw [e] at e'
    injection e' with e'
    injection e' with e1 e2
    subst e1
    exact ⟨fun hS => by have := h0 b hS; omega,hlt⟩)
   have OBX : Hid (OpB wr S (wop frm bA bn bc) ys) := hQ_ ⟨Nat.zero_le _,Nat.zero_le _,⟨fr0,fr1⟩,(show (-9223372036854775808 : Int) ≤ 0 ∧ (0 : Int) ≤ 9223372036854775807 by omega),HBS.out.below HZ.out.1,hbn,Nat.le_trans HBC.out (by decide),fun h b of e => ⟨(HOFB.out S HZ.out.2.1 h b of e).1,Nat.lt_of_lt_of_le (HOFB.out S HZ.out.2.1 h b of e).2 HZ.out.1.size⟩⟩
   have HDX := hQ_ (HP.out.a.do_ HV.out (by have := HKK.out; omega) (wop frm bA bn bc) 99 OBX.out (by omega) (by omega))
   dsimp only [wop,Op20.val,Op20.cells] at HDX
   go_wp2_with fail
   refine HDX.out.mono ?_
   rintro e wx ⟨⟨er,rn,rda,rdn,rdc,rna,rnn,rnc,rk,rl,rs,rp⟩,hs1,s1,S1,D1,rfl,P1,st1,qa1,of1⟩
   have A1 := hQ_ (Ap.first HS.out HP.out P1 st1)
   have B1 := hQ_ (OpsF.bel_dst HZ.out.1 HZ.out.2.1 HGD.out st1)
   have QA1 := hQ_ qa1
   have HLX : Hid ((∀ b,S2 b → b < wx.heap.size) ∧ gd < wx.heap.size ∧ ge < wx.heap.size ∧ ∀ b,S1 b → b < wx.heap.size) := hQ_ ⟨fun b hb => HS.out.lt A1.out.b.dst.rep b (HS.out.sub A1.out.b.dst.rep b hb),A1.out.a.dst.dsk.blk.lt,A1.out.b.dst.dsk.blk.lt,fun b hb => HS.out.lt A1.out.a.dst.rep b (HS.out.sub A1.out.a.dst.rep b hb)⟩
   have R1 := hQ_ (Blk.new_ wx #[.int .i64 er,.int .i64 rn,.slice rda rdn rdc,.slice rna rnn rnc,.int .u8 rk,.int .u32 rl,.int .u32 rs,.int .u32 rp] 48)
   have hbx := bX_ R1.out
   have A1b := hQ_ (Ap.below HS.out A1.out hbx)
   have B1b := hQ_ (Own.keeps B1.out.1 hbx)
   have Z1 : Hid (wx.heap.size < (wx.alloc (.cells #[.int .i64 er,.int .i64 rn,.slice rda rdn rdc,.slice rna rnn rnc,.int .u8 rk,.int .u32 rl,.int .u32 rs,.int .u32 rp] 48)).heap.size) := hQ_ (by simp)
   obtain ⟨w1,hw1⟩ : ∃ w1,wx.alloc (.cells #[.int .i64 er,.int .i64 rn,.slice rda rdn rdc,.slice rna rnn rnc,.int .u8 rk,.int .u32 rl,.int .u32 rs,.int .u32 rp] 48) = w1 := ⟨_,rfl⟩
   rw [hw1] at R1 A1b B1b Z1
   have HW1 := hQ_ hw1
   clear hw1 hbx P1 st1 qa1 of1
   go_upto_region 14 with (fail)
   rw [HW1.out]
   obtain ⟨r1,hr1⟩ : ∃ r1,wx.heap.size = r1 := ⟨_,rfl⟩
   rw [hr1] at R1 HLX Z1 ⊢
   have OBY : Hid (OpB w1 S2 (wop frm bA kk bc) (ys.take kk)) := hQ_ ⟨Nat.zero_le _,Nat.zero_le _,⟨fr0,fr1⟩,(show (-9223372036854775808 : Int) ≤ 0 ∧ (0 : Int) ≤ 9223372036854775807 by omega),bs_take (HBS.out.below B1b.out) hkb,by show kk ≤ bc; omega,Nat.le_trans HBC.out (by decide),fun h b of e => ⟨(HOFB.out S2 HZ.out.2.2 (Nat.lt_of_lt_of_le h hkb) b of e).1,Nat.lt_of_lt_of_le (HOFB.out S2 HZ.out.2.2 (Nat.lt_of_lt_of_le h hkb) b of e).2 B1b.out.size⟩⟩
   have HDY := hQ_ (A1b.out.b.do_ HV.out (by have := HKK.out; omega) (wop frm bA kk bc) 99 OBY.out (by omega) (by omega))
   dsimp only [wop,Op20.val,Op20.cells] at HDY
   have hsl := FileKe.slice_bh w1 bA bn bc kk (by omega)
   go_wp2_with ((with_reducible refine pick (some 92) ?_); refine wpList_slice rfl _ _ _ _ _ rfl _ hsl ?_)
   clear hsl
   refine HDY.out.mono ?_
   rintro e wy ⟨⟨er2,rn2,rda2,rdn2,rdc2,rna2,rnn2,rnc2,rk2,rl2,rs2,rp2⟩,ht1,t1,S3,D3,rfl,P2,st2,qa2,of2⟩
   have A2 := hQ_ (Ap.first HS.out A1b.out.swap P2 st2).swap
   have B2' := hQ_ (OpsF.bel_dst B1b.out HZ.out.2.2 (Nat.le_of_lt (Nat.lt_of_le_of_lt HGD.out HGE.out)) st2)
   have QA2 := hQ_ qa2
   have R1y := hQ_ ((st2.chg.block r1 R1.out.lt (fun e => by
    rcases e with e | e
    ·have := HLX.out.1 _ e
     omega
    ·have h1 := HLX.out.2.2.1
     omega)).trans R1.out)
   have HLY : Hid (∀ b,S3 b → b ≠ r1) := hQ_ (fun b hb e => by
    rcases st2.own b hb with h1 | h1
    ·have := HLX.out.1 b h1
     omega
    ·have := Z1.out
     omega)
   have HLY2 : Hid ((∀ b,S3 b → b < wy.heap.size) ∧ ge < wy.heap.size ∧ r1 < wy.heap.size) := hQ_ ⟨fun b hb => HS.out.lt A2.out.b.dst.rep b (HS.out.sub A2.out.b.dst.rep b hb),A2.out.b.dst.dsk.blk.lt,Nat.lt_of_lt_of_le Z1.out st2.chg.size⟩
   have R2 := hQ_ (Blk.new_ wy #[.int .i64 er2,.int .i64 rn2,.slice rda2 rdn2 rdc2,.slice rna2 rnn2 rnc2,.int .u8 rk2,.int .u32 rl2,.int .u32 rs2,.int .u32 rp2] 48)
   have hby := bX_ R2.out
   have A2b := hQ_ (Ap.below HS.out A2.out hby)
   have B2b := hQ_ (Own.keeps B2'.out.1 hby)
   have R1b : Hid (Blk _ r1 #[.int .i64 er,.int .i64 rn,.slice rda rdn rdc,.slice rna rnn rnc,.int .u8 rk,.int .u32 rl,.int .u32 rs,.int .u32 rp] 48) := hQ_ (Blk.below R1y.out hby)
   have Z2 : Hid (wy.heap.size < (wy.alloc (.cells #[.int .i64 er2,.int .i64 rn2,.slice rda2 rdn2 rdc2,.slice rna2 rnn2 rnc2,.int .u8 rk2,.int .u32 rl2,.int .u32 rs2,.int .u32 rp2] 48)).heap.size) := hQ_ (by simp)
   obtain ⟨w2',hw2⟩ : ∃ w2',wy.alloc (.cells #[.int .i64 er2,.int .i64 rn2,.slice rda2 rdn2 rdc2,.slice rna2 rnn2 rnc2,.int .u8 rk2,.int .u32 rl2,.int .u32 rs2,.int .u32 rp2] 48) = w2' := ⟨_,rfl⟩
   rw [hw2] at R2 A2b B2b R1b Z2
   have HW2 := hQ_ hw2
   clear hw2 hby P2 st2 qa2 of2
   go_upto_region 15 with (fail)
   rw [HW2.out]
   obtain ⟨r2,hr2⟩ : ∃ r2,wy.heap.size = r2 := ⟨_,rfl⟩
   rw [hr2] at R2 HLY2 Z2 ⊢
   obtain ⟨bA2,hs15,hb15,ho15⟩ := slice_lo bA bn bc kk ys HBA.out (fun h => by obtain ⟨b,o,e,_⟩ := HBS.out.2.2 0 h; exact ⟨b,o,e⟩) hkb hbn HBS.out.1
   have HB15 := hQ_ hb15
   have HO15 := hQ_ ho15
   have hsl := hs15 w2'
   clear hs15 hb15 ho15
   have OBZ : Hid (OpB w2' S3 (wop (frm + kk) bA2 (bn - kk) (bc - kk)) (ys.drop kk)) := hQ_ ⟨Nat.zero_le _,Nat.zero_le _,(by show _ ≤ frm + (kk : Int) ∧ frm + (kk : Int) ≤ _; omega),(show (-9223372036854775808 : Int) ≤ 0 ∧ (0 : Int) ≤ 9223372036854775807 by omega),HB15.out _ (HBS.out.below B2b.out),by show bn - kk ≤ bc - kk; omega,Nat.le_trans (Nat.sub_le _ _) (Nat.le_trans HBC.out (by decide)),fun h b of e => by
    obtain ⟨o',e'⟩ := HO15.out b of e
    have hp : 0 < bn := by
     have h' : 0 < bn - kk := h
     omega
    have := HOFB.out S3 B2'.out.2 hp b o' e'
    exact ⟨this.1,Nat.lt_of_lt_of_le this.2 B2b.out.size⟩⟩
   have HDZ := hQ_ (A2b.out.b.do_ HV.out (by have := HKK.out; omega) (wop (frm + kk) bA2 (bn - kk) (bc - kk)) 99 OBZ.out (by omega) (by omega))
   dsimp only [wop,Op20.val,Op20.cells] at HDZ
   go_wp2_with ((with_reducible refine pick (some 101) ?_); refine wpList_slice rfl _ _ _ _ _ rfl _ hsl ?_)
   clear hsl
   refine HDZ.out.mono ?_
   rintro e wz ⟨⟨er3,rn3,rda3,rdn3,rdc3,rna3,rnn3,rnc3,rk3,rl3,rs3,rp3⟩,ht2,t2,S4,D4,rfl,P3,st3,qa3,of3⟩
   have A3 := hQ_ (Ap.first HS.out A2b.out.swap P3 st3).swap
   have B3 := hQ_ (OpsF.bel_dst B2b.out B2'.out.2 (Nat.le_of_lt (Nat.lt_of_le_of_lt HGD.out HGE.out)) st3)
   have QA3 := hQ_ qa3
   have R1z := hQ_ ((st3.chg.block r1 R1b.out.lt (fun e => by
    rcases e with e | e
    ·exact HLY.out _ e rfl
    ·have h1 := HLX.out.2.2.1
     omega)).trans R1b.out)
   have R2z := hQ_ ((st3.chg.block r2 R2.out.lt (fun e => by
    rcases e with e | e
    ·have := HLY2.out.1 _ e
     omega
    ·have h1 := HLY2.out.2.1
     omega)).trans R2.out)
   have R3 := hQ_ (Blk.new_ wz #[.int .i64 er3,.int .i64 rn3,.slice rda3 rdn3 rdc3,.slice rna3 rnn3 rnc3,.int .u8 rk3,.int .u32 rl3,.int .u32 rs3,.int .u32 rp3] 48)
   have hbz := bX_ R3.out
   have A3b := hQ_ (Ap.below HS.out A3.out hbz)
   have B3b := hQ_ (Own.keeps B3.out.1 hbz)
   have R1c : Hid (Blk _ r1 #[.int .i64 er,.int .i64 rn,.slice rda rdn rdc,.slice rna rnn rnc,.int .u8 rk,.int .u32 rl,.int .u32 rs,.int .u32 rp] 48) := hQ_ (Blk.below R1z.out hbz)
   have R2c : Hid (Blk _ r2 #[.int .i64 er2,.int .i64 rn2,.slice rda2 rdn2 rdc2,.slice rna2 rnn2 rnc2,.int .u8 rk2,.int .u32 rl2,.int .u32 rs2,.int .u32 rp2] 48) := hQ_ (Blk.below R2z.out hbz)
   obtain ⟨w3',hw3⟩ : ∃ w3',wz.alloc (.cells #[.int .i64 er3,.int .i64 rn3,.slice rda3 rdn3 rdc3,.slice rna3 rnn3 rnc3,.int .u8 rk3,.int .u32 rl3,.int .u32 rs3,.int .u32 rp3] 48) = w3' := ⟨_,rfl⟩
   rw [hw3] at R3 A3b B3b R1c R2c
   have HW3 := hQ_ hw3
   clear hw3 hbz P3 st3 qa3 of3
   go_upto_region 16 with (fail)
   rw [HW3.out]
   obtain ⟨r3,hr3⟩ : ∃ r3,wz.heap.size = r3 := ⟨_,rfl⟩
   rw [hr3] at R3 ⊢
   obtain ⟨c10,c11⟩ := cC2 R1c.out
   have c20 := cC2 R2c.out
   have c30 := cC2 R3.out
   by_cases x1 : er = 21
   ·subst x1
    go_wp2_with fail
    refine (HF.out _ A3b.out.a.mx.1).mono ?_
    rintro e wf ⟨rfl,hbf⟩
    have HBF := hQ_ (Own.keeps B3b.out hbf)
    clear hbf
    go_wp2_with fail
    go_ret
    exact ⟨rfl,HBF.out⟩
   have y1 : (er == 21) = false := by simpa using x1
   by_cases x2 : er2 = 21
   ·subst x2
    go_wp2_with fail
    refine (HF.out _ A3b.out.a.mx.1).mono ?_
    rintro e wf ⟨rfl,hbf⟩
    have HBF := hQ_ (Own.keeps B3b.out hbf)
    clear hbf
    go_wp2_with fail
    go_ret
    exact ⟨rfl,HBF.out⟩
   have y2 : (er2 == 21) = false := by simpa using x2
   by_cases x3 : er3 = 21
   ·subst x3
    go_wp2_with fail
    refine (HF.out _ A3b.out.a.mx.1).mono ?_
    rintro e wf ⟨rfl,hbf⟩
    have HBF := hQ_ (Own.keeps B3b.out hbf)
    clear hbf
    go_wp2_with fail
    go_ret
    exact ⟨rfl,HBF.out⟩
   have y3 : (er3 == 21) = false := by simpa using x3
   have HPE := hQ_ (parts_end QA1.out QA2.out QA3.out HSM.out.1 (HS.out.ok HP.out.a.dst.rep) (HS.out.ok HP.out.b.dst.rep) (HS.out.ok A2.out.b.dst.rep) HSM.out.2 HP.out.a.dst.dsk.bd (by omega) (by omega) (by omega) HBS.out.1 hkb HBS.out.2.1 x1 x2 x3)
   have hb2 : 0 ≤ rn2 ∧ rn2 ≤ 1024 := by
    have h := QA2.out.n
    dsimp only at h
    rw [h]
    split
    ·show (0 : Int) ≤ (kk : Int) ∧ (kk : Int) ≤ 1024
     omega
    ·omega
   have hb3 : 0 ≤ rn3 ∧ rn3 ≤ 1024 := by
    have h := QA3.out.n
    dsimp only at h
    rw [h]
    split
    ·show (0 : Int) ≤ ((bn - kk : Nat) : Int) ∧ ((bn - kk : Nat) : Int) ≤ 1024
     omega
    ·omega
   obtain ⟨p1,p2,p3,p4⟩ := HPE.out
   dsimp only at p1 p2 p3
   have HSH := hQ_ p4
   clear p4 x1 x2 x3 HPE HDX HDY HDZ OBX OBY OBZ
   clear QA1 QA2 QA3
   subst p1 p2 p3
   have hne : (er3 != er3) = false := by simp
   have hnn : (rn2 + rn3 != rn2 + rn3) = false := by simp
   go_wp2_with fail
   refine (OpsGw.view_calls A3b.out.a.dst.dsk).mono ?_
   rintro e w4' ⟨rfl,rfl⟩
   have L1 : Hid (Lim s1) := hQ_ ⟨A3b.out.a.base,by have := A3b.out.a.rd; have := HKK.out; omega,by have := A3b.out.a.rg; have := HKK.out; omega⟩
   have L2 : Hid (Lim t2) := hQ_ ⟨A3b.out.b.base,by have := A3b.out.b.rd; have := HKK.out; omega,by have := A3b.out.b.rg; have := HKK.out; omega⟩
   clear c10 c11 y1 y2 y3 hne hnn c20 c30
   go_wp2_with fail
   refine (HRN.out ⟨#[]⟩ ⟨#[255]⟩ A3b.out.a.dst.rep L1.out (by decide) (by decide)).mono ?_
   rintro e w5' ⟨⟨ra,rnn1,rcc⟩,S5,D5,rfl,sl1,of1,hr5,st5⟩
   obtain ⟨P5,sd5⟩ := Pk.ranged HS.out A3b.out.a _ _ hr5 st5
   have A5 := hQ_ (Ap.first HS.out A3b.out P5 sd5)
   have B5 := hQ_ (OpsF.bel_dst B3b.out B1.out.2 HGD.out sd5)
   have SL1 := hQ_ sl1
   have HO1 : Hid (∀ b o,ra = some ⟨b,o,none⟩ → ¬ (S4 b ∨ b = ge)) := hQ_ (fun b o e h => by
    have h1 := (of1 b o e).1
    rcases h with h | h
    ·have := HS.out.lt A3b.out.b.dst.rep b (HS.out.sub A3b.out.b.dst.rep b h)
     omega
    ·have := A3b.out.b.dst.dsk.blk.lt
     omega)
   have hln1 : rnn1 ≤ 100000 := by
    have h1 := sl1.1
    dsimp only at h1
    rw [← h1]
    exact Nat.le_trans (range_len _ _ _) (HV.out.wk.shown A3b.out.a.dst.rep L1.out)
   clear sl1 of1 hr5 st5 P5 sd5
   go_wp2_with fail
   refine (OpsGw.view_calls A5.out.b.dst.dsk).mono ?_
   rintro e w6' ⟨rfl,rfl⟩
   go_wp2_with fail
   refine (HRN.out ⟨#[]⟩ ⟨#[255]⟩ A5.out.b.dst.rep L2.out (by decide) (by decide)).mono ?_
   rintro e w7' ⟨⟨rb,rnn2',rcc2⟩,S6,D6,rfl,sl2,of2,hr6,st6⟩
   obtain ⟨P6,sd6⟩ := Pk.ranged HS.out A5.out.b _ _ hr6 st6
   have A6 := hQ_ (Ap.first HS.out A5.out.swap P6 sd6).swap
   have B6 := hQ_ (OpsF.bel_dst B5.out.1 B3.out.2 (Nat.le_of_lt (Nat.lt_of_le_of_lt HGD.out HGE.out)) sd6)
   rw [range_eq HSH.out] at sl2
   have hnn : rnn1 = rnn2' := by have h1 := SL1.out.1; have h2 := sl2.1; dsimp only at h1 h2; omega
   subst hnn
   have SL11 := hQ_ (Sl.chg SL1.out sd6.chg (fun b o e => HO1.out b o e))
   have SL12 := hQ_ sl2
   clear sl2 of2 hr6 st6 P6 sd6
   have hnb : ((rnn1 : Int) != (rnn1 : Int)) = false := by simp
   go_wp2_with fail
   clear hnb
   go_loopw [153] (fun i wr => ∃ j : Nat,j ≤ rnn1 ∧ i = .int .i64 j ∧ Hid (Below w7'.heap.size w7' wr)) (fun i _ => rnn1 - (intOf i).toNat)
   case atStart => exact ⟨0,Nat.zero_le _,rfl,hQ_ (Below.refl _ _)⟩
   case round =>
    obtain ⟨j,hj,rfl,HBW⟩ := hrel
    by_cases hlt2 : j < rnn1
    ·obtain ⟨x,g,o,hx,rfl,hg,hcl⟩ := (SL11.out.below HBW.out).get j hlt2
     obtain ⟨x2,g2,o2,hx2,rfl,hg2,hcl2⟩ := (SL12.out.below HBW.out).get j hlt2
     rw [hx] at hx2
     injection hx2 with hx2
     subst hx2
     obtain ⟨kx,vx,gn⟩ := x
     have EQ := eqpr kx vx gn
     have RDD : Hid (∀ u,Below wr.heap.size wr u → Below wr.heap.size wr u ∧ u.cell? ⟨g,o + j * 3,none⟩ = some (.string kx) ∧ u.cell? ⟨g,o + j * 3 + 1,none⟩ = some (.string vx) ∧ u.cell? ⟨g,o + j * 3 + 2,none⟩ = some (.bool gn) ∧ u.cell? ⟨g2,o2 + j * 3,none⟩ = some (.string kx) ∧ u.cell? ⟨g2,o2 + j * 3 + 1,none⟩ = some (.string vx) ∧ u.cell? ⟨g2,o2 + j * 3 + 2,none⟩ = some (.bool gn)) := hQ_ (fun u hv => (by
      have z1 : ∀ i y,[Value.string kx,.string vx,.bool gn][i]? = some y → u.cell? ⟨g,o + j * 3 + i,none⟩ = some y := fun i y hy => (hv.cell (p := ⟨g,o + j * 3 + i,none⟩) hg).trans (hcl i y hy)
      have z2 : ∀ i y,[Value.string kx,.string vx,.bool gn][i]? = some y → u.cell? ⟨g2,o2 + j * 3 + i,none⟩ = some y := fun i y hy => (hv.cell (p := ⟨g2,o2 + j * 3 + i,none⟩) hg2).trans (hcl2 i y hy)
      exact ⟨hv,z1 0 _ rfl,z1 1 _ rfl,z1 2 _ rfl,z2 0 _ rfl,z2 1 _ rfl,z2 2 _ rfl⟩))
     clear hx hcl hcl2 hg hg2
     go_wp2_with fail
     refine wp_region_held_drew (S := fun u => Below wr.heap.size wr u ∧ u.cell? ⟨g,o + j * 3,none⟩ = some (.string kx) ∧ u.cell? ⟨g,o + j * 3 + 1,none⟩ = some (.string vx) ∧ u.cell? ⟨g,o + j * 3 + 2,none⟩ = some (.bool gn) ∧ u.cell? ⟨g2,o2 + j * 3,none⟩ = some (.string kx) ∧ u.cell? ⟨g2,o2 + j * 3 + 1,none⟩ = some (.string vx) ∧ u.cell? ⟨g2,o2 + j * 3 + 2,none⟩ = some (.bool gn)) (by kernel_rfl) (RDD.out _ (Below.refl _ _).drew) (fun hHeld => ?_)
     refine hw_ 0 (some 156) ?_
     refine hw_ 1 (some 157) ?_
     refine hw_ 2 (some 158) ?_
     refine hw_ 3 (some 159) ?_
     refine hw_ 4 (some 160) ?_
     refine hw_ 5 (some 161) ?_
     refine hw_ 6 (some 162) ?_
     refine hw_ 7 (some 163) ?_
     refine hw_ 8 (some 164) ?_
     refine wpAnyH_done (by kernel_rfl) ?_ _
     go_wp2_with fail
     go_roundw
     case rel => exact ⟨j + 1,by omega,by go_num,hQ_ (HBW.out.drew)⟩
     case measure => simp [intOf]; omega
    ·obtain rfl : j = rnn1 := by omega
     have BZ := hQ_ (Own.keeps B6.out.1 HBW.out)
     go_wp2_with fail
     refine (HF.out _ (A6.out.a.mx.1.below HBW.out)).mono ?_
     rintro e wf ⟨rfl,hbf⟩
     have HBF := hQ_ (Own.keeps BZ.out hbf)
     clear hbf
     go_wp2_with fail
     go_ret
     exact ⟨rfl,HBF.out⟩
end Go.Proofs.YtogdjbhjgbnicaaGreatDoor.OpsYb
namespace Go.Proofs.YtogdjbhjgbnicaaGreatDoor.OpsYx
open Go.RowKit
open Byte Lst OpsR OpsX OpsC OpsGx
theorem parts_all (A : Option Addr) (n c : Nat) (ops : List Op20) (a1 : Int) (a2 : Option Addr) (len2 cap2 : Nat) (zs : List Int) (a3 : Int) (w : World) (h : n ≤ c ∧ c ≤ maxLen ∧ Sl o7E w A n ops ∧ ∀ p ∈ ops,Op20G w p) (h1 : (Lit.int .i64 a1).wf = true)
 (h2 : (a2 = none ∧ len2 = 0 ∧ cap2 = 0 ∧ zs = []) ∨ ∃ x,a2 = some x ∧ len2 ≤ cap2 ∧ cap2 ≤ maxLen ∧ zs.length = cap2 ∧ (∀ i,i < zs.length → w.cell? (x.add i) = some (.int .u8 (zs.getD i 0))) ∧ ∀ n ∈ zs,(Lit.int .u8 n).wf = true) (h3 : (Lit.int .u16 a3).wf = true) (hmx : NamesL.Mx w) :
 Calls Tryz.prog 7 #[.slice A n c,.int .i64 a1,.slice a2 len2 cap2,.int .u16 a3] w fun e w' => e = .returned (.bool true) ∧ Below w.heap.size w w' := by
 have b1 := bounds_i64 h1
 have b3 := bounds_u16 h3
 obtain ⟨hb,_,hn2⟩ := Bs.of_row h2
 have hc2 : len2 ≤ cap2 ∧ cap2 ≤ maxLen := by
  rcases h2 with ⟨_,rfl,rfl,_⟩ | ⟨x,_,e1,e2,_⟩
  ·exact ⟨Nat.le_refl _,Nat.zero_le _⟩
  ·exact ⟨e1,e2⟩
 exact OpsYb.parts_law vw OpsF.newb OpsF.form_n OpsF.fix_ok A n c ops a1 a2 len2 cap2 _ a3 w h.2.2.1 h.1 h.2.1 h.2.2.2 b1.1 b1.2 hb hc2.1 hc2.2 hn2 b3.1 b3.2 hmx
end Go.Proofs.YtogdjbhjgbnicaaGreatDoor.OpsYx
namespace Go.Proofs.YtogdjbhjgbnicaaGreatDoor.NamesW
open Go.RowKit
open Byte Lst Tx NamesL NamesK
theorem mx_of {w : World} (h : w.ShapedOpen Tryz.prog) : Mx w := NamesY.splitLay.s1_3 w h
end Go.Proofs.YtogdjbhjgbnicaaGreatDoor.NamesW
namespace Go.Proofs.YtogdjbhjgbnicaaGreatDoor.Shap
open Go
theorem returns_shaped {H : Type} {enc : TypeId × Value → H} {a : Assume} {C : Checked} {os : Os} {f : FuncId} {fn : Func} {s : ChangeSpec} {conds : List PathCond} {apart fresh handsOn again : Bool} {X : World → Array Value → Prop}
 (keepX : ∀ (v v' : World) (xs : Array Value),v.heap = v'.heap → X v xs → X v' xs) (own : ownKnob C.prog.godebug = none) (started : os.Started) (noInit : C.prog.inits.idxOf? f = none) (hfn : C.prog.funcs[f]? = some fn)
 (wit : ∃ (v : World) (tape : Tape) (i : Input),v.os = os ∧ (v.forCall tape i).Shaped C.prog ∧ i.vars = [] ∧ Input.okWide C.prog (v.forCall tape i) .any v.heap.size f i ∧ ((s.pre enc C.prog fn conds apart (v.forCall tape i).memory i.args ∧ X (v.forCall tape i).memory i.args) ∧ sizedMet enc C.prog fn (OpenSpec.ofChange s) apart (v.forCall tape i).memory i.args) ∧ a.holds C.prog (lone (Frame.enter C.prog f i.args .normal) [] (v.forCall tape i)))
 (walked : ∀ (W : World) (base : Nat) (xs : Array Value) (ds gs : List (DataW H)) (before : List MemPlace),(∀ (j : Nat) t v,fn.params[j]? = some t → xs[j]? = some v → Value.okWide C.prog W .any base t v) → DataW.Whole enc C.prog fn.params.toList s.vars apart W xs.toList ds gs before → conds.all (PathCond.test C.prog ⟨fn.params.toList,ds,s.plain.varTypes C.prog,gs⟩) = true →
   (DataW.weightsEach C.prog (fn.params.toList ++ s.plain.varTypes C.prog) (ds ++ gs)).all (· ≤ reachBytes) = true → X W xs → W.ShapedOpen C.prog → Calls C.prog f xs W fun e W' => ∃ v,e = .returned v ∧ s.post enc C.prog fn apart fresh handsOn again W xs v W') :
 ReturnsInHanded a C os f .any (fun v xs => (s.pre enc C.prog fn conds apart v xs ∧ X v xs) ∧ sizedMet enc C.prog fn (OpenSpec.ofChange s) apart v xs) (s.post enc C.prog fn apart fresh handsOn again) := by
 refine returnsInHanded_of_calls own started noInit wit ?_
 intro v tape i _ shape _ ok pre _
 obtain ⟨_,_,_,fn',hfn',_,_,_,_,hval⟩ := ok
 obtain rfl : fn' = fn := Option.some.inj (hfn'.symm.trans hfn)
 obtain ⟨⟨⟨ds,gs,before,hw,hc⟩,hx⟩,hz⟩ := pre
 have whole := DataW.Whole.of_heap (w' := v.forCall tape i) (by rfl) hw
 refine (walked (v.forCall tape i) v.heap.size i.args ds gs before hval whole hc (hz.weights hw) (keepX _ _ _ (by rfl) hx) shape).mono fun e W' h => ?_
 obtain ⟨x,rfl,hp⟩ := h
 exact ChangeSpec.post_blind hp
end Go.Proofs.YtogdjbhjgbnicaaGreatDoor.Shap
namespace Go.Proofs.YtogdjbhjgbnicaaGreatDoor.Open
open Go.RowKit Go.WideShapes Go.ChangeShapes
section
variable {P : Program} {w : World} {r : Reach} {b : Nat}
theorem cell_int {t : TypeId} {k : IntKind} {v : Value} (ht : P.underlying t = some (.int k)) (h : Cell.okWide P w r b t v) : ∃ n,v = .int k n ∧ (Lit.int k n).wf = true := by
 unfold Cell.okWide at h
 rw [ht] at h
 cases v <;> simp [Cell.ok,ht] at h
 rename_i k' n
 obtain ⟨rfl,h1⟩ := h
 refine ⟨n,rfl,?_⟩
 simpa [Lit.wf,IntKind.has] using h1
end
end Go.Proofs.YtogdjbhjgbnicaaGreatDoor.Open