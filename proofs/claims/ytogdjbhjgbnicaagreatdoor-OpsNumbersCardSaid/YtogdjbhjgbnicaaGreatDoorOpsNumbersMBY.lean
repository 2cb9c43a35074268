import Derived.Test.YtogdjbhjgbnicaaGreatDoorSq
import Derived.Test.YtogdjbhjgbnicaaGreatDoorOpsNumbersMAG
import Derived.Test.YtogdjbhjgbnicaaGreatDoorHor
import Derived.Test.YtogdjbhjgbnicaaGreatDoorOpsNumbersMBT
import Derived.Test.YtogdjbhjgbnicaaGreatDoorOpsNumbersMBU
import Derived.Test.YtogdjbhjgbnicaaGreatDoorOpsNumbersMBV
import Derived.Test.YtogdjbhjgbnicaaGreatDoorOpsNumbersMBW
import Derived.Test.YtogdjbhjgbnicaaGreatDoorOpsNumbersMBX
import Derived.Deep.DeepCutAuto
import Derived.Deep.CutBlock
import Derived.Test.YtogdjbhjgbnicaaGreatDoorNest
import Derived.Test.YtogdjbhjgbnicaaGreatDoorTx
import Derived.Test.YtogdjbhjgbnicaaGreatDoorOpsNumbersMBQ
set_option maxHeartbeats 16000000
set_option linter.unusedVariables false
set_option linter.unusedSimpArgs false
set_option maxRecDepth 100000
namespace Go.Proofs.YtogdjbhjgbnicaaGreatDoor.OpsU
open Go.RowKit
open Byte KeysM TreeM ViewM ViewKm NodeM NodeG NamesM NamesL WalkM WalkF WalkKm DirsV Lst Chg TreeL ViewL WalkL WalkV Vat DirsK DirsKa DirsKc Ho OpsR OpsD OpsE OpsI OpsJ RgN DirsBm
open Own hiding lower
variable {Rep : RepT}
theorem unlink_deed (hW0 : Wk Rep) {w : World} {g : Nat} {v : Value} {hs : List Int} {s : Vs} {S D : Nat → Prop} (o : Op20) (ino : Int) (hd : Dsk w g v hs) (hr : Rep w v s S D) (hng : ¬ D g) (hl : Lim s) (h2 : s.rd.length ≤ 18000) (h3 : s.rg.length ≤ 900) (hx : Mxs w S) (hp : o.path.size ≤ 100000) (hk : ∀ p ∈ s.shown,(sp p.key).letter ≠ 0) (hRn : RangeN Rep) :
 Calls Tryz.prog 54 #[.pointer (some ⟨g,0,none⟩),o.val,.int .u32 ino] w (AnsO Rep v s (ulkB s.shown o.path).1 (ulkB s.shown o.path).2 41 1 S D w) := by
 obtain ⟨kind,path,other,hn,frm,n,da,dn,dc⟩ := o
 dsimp only [Op20.val,Op20.cells] at *
 have hlt := hW0.stays.lt hr
 have hsub := hW0.stays.sub hr
 obtain ⟨W,hW⟩ : ∃ W,(w.alloc (.cells #[.int .u8 kind,.string path,.string other,.int .i64 hn,.int .i64 frm,.int .i64 n,.slice da dn dc] 41)).alloc (.cells zres 48) = W := ⟨_,rfl⟩
 have hs1 : (w.alloc (.cells #[.int .u8 kind,.string path,.string other,.int .i64 hn,.int .i64 frm,.int .i64 n,.slice da dn dc] 41)).heap.size = w.heap.size + 1 := by simp
 have HB : Hid (Blk W (w.heap.size + 1) zres 48) := hQ_ (by rw [← hW,← hs1]; exact Blk.new_ _ zres _)
 have hO : Blk W w.heap.size #[.int .u8 kind,.string path,.string other,.int .i64 hn,.int .i64 frm,.int .i64 n,.slice da dn dc] 41 := by rw [← hW]; exact (Blk.new_ _ _ _).alloc _
 have hbW : Below w.heap.size w W := by rw [← hW]; exact (bW_).alloc (by rw [hs1]; omega) _
 have hsW : W.heap.size = w.heap.size + 2 := by rw [← hW]; simp
 obtain ⟨er,her⟩ : ∃ er,(ulkB s.shown path).1 = er := ⟨_,rfl⟩
 obtain ⟨ps,hps⟩ : ∃ ps,(ulkB s.shown path).2 = ps := ⟨_,rfl⟩
 have hbd : Below w.heap.size w W.drew := hbW.drew
 have hc := DirsBf.ulk_calls hW0 hRn path (hW0.stays.below hr hbd) hl h2 h3 (hx.below hbd) hp hk
 rw [her,hps] at hc
 rw [her,hps]
 obtain ⟨J,hJ⟩ : ∃ J : Int,(if (goW s ps).2 = true then er else 21) = J := ⟨_,rfl⟩
 unfold Ans at hc
 simp only [hJ] at hc
 have HC := hQ_ hc
 have RD : Hid (∀ q0,Chg (fun k => S k ∨ k = w.heap.size + 1) W q0 → Chg (fun k => S k ∨ k = w.heap.size + 1) W q0 ∧ q0.cell? ⟨g,0,none⟩ = some v ∧ q0.cell? ⟨w.heap.size,1,none⟩ = some (.string path) ∧ q0.cell? ⟨w.heap.size,2,none⟩ = some (.string other)) := hQ_ (fun q0 hq => by
  obtain ⟨c1,c2⟩ := find_cells hd hng hlt hsub hbW hO hq
  exact ⟨hq,c1,c2 1,c2 2⟩)
 have HLT := hQ_ hlt
 have HSUB := hQ_ hsub
 have HW := hQ_ hW
 have HBD := hQ_ hbd
 have HJ := hQ_ hJ
 have HSW := hQ_ hsW
 have HVS := hQ_ hW0.stays
 clear hW hs1 hO hbW hsW her hps hbd hc hJ hlt hsub hd hr hng hl h2 h3 hx hW0 hp hk hRn
 go_enter Tryz.func54,Tryz.ntmps54
 go_wp2_with fail
 rw [HW.out]
 go_wp2_with fail
 refine wp_region_held_drew (S := fun q0 => Chg (fun k => S k ∨ k = w.heap.size + 1) W q0 ∧ q0.cell? ⟨g,0,none⟩ = some v ∧ q0.cell? ⟨w.heap.size,1,none⟩ = some (.string path) ∧ q0.cell? ⟨w.heap.size,2,none⟩ = some (.string other)) (by kernel_rfl) (RD.out _ (Chg.refl _ _).drew) (fun hHeld => ?_)
 refine hw_ 0 (some 7) ?_
 refine hw_ 1 (some 8) ?_
 refine hw_ 2 (some 9) ?_
 refine hw_ 3 (some 10) ?_
 refine hw_ 4 (some 11) ?_
 refine hw_ 5 (some 12) ?_
 refine ho_step 6 (some 13) rfl rfl (by kernel_rfl) (by kernel_rfl) (fun K hK => ?_)
 go_simp
 go_at_call 87
 refine HC.out.mono ?_
 rintro e w3 ⟨s',S',D',rfl,hr3,st3,aft3⟩
 have hq3 : Chg (fun k => S k ∨ k = w.heap.size + 1) W w3 := (Chg.refl _ _).drew.trans (st3.chg.mono (fun _ _ h => .inl h))
 have hb3 : Blk w3 (w.heap.size + 1) zres 48 := (st3.chg.block _ HB.out.lt (fun h => by have := HLT.out _ (HSUB.out _ h); omega)).trans HB.out
 try go_wp2_with fail
 refine hK.out _ _ (RD.out _ hq3) (fun hHeld2 => ?_)
 clear hHeld
 have hHeld := hHeld2
 clear hHeld2
 clear hK K
 try simp only [pZ_]
 refine ho_step 7 (some 14) rfl rfl (by kernel_rfl) (by kernel_rfl) (fun K hK => ?_)
 go_simp
 go_at_call 26
 refine (only_calls J _).mono ?_
 rintro e w4 ⟨rfl,hb4⟩
 have hq4 := hq3.trans (Chg.of_below hb4)
 try go_wp2_with fail
 refine hK.out _ _ (RD.out _ hq4) (fun hHeld2 => ?_)
 clear hHeld
 have hHeld := hHeld2
 clear hHeld2
 clear hK K
 try simp only [pZ_]
 refine Hor.ho_row 8 48 _ _ (w.heap.size + 1) #[.int .i64 J,.int .i64 0,.slice none 0 0,.slice none 0 0,.int .u8 0,.int .u32 0,.int .u32 0,.int .u32 0] 48 _ rfl rfl rfl (by kernel_rfl) (by kernel_rfl) rfl rfl (hb3.below hb4) info_res rfl (by simp [Value.oneCell']) (fun w5 hk5 hg5 => RD.out _ (hq4.trans (Chg.of_grown hg5 (fun k hk => .inl (.inr (by injection hk with hk; exact hk.symm)))))) (fun w5 hk5 hg5 => ?_)
 refine wpAnyH_done (by kernel_rfl) ?_ _
 have hz := fin_view HVS.out HLT.out HSUB.out HBD.out hr3 st3 hb4 (hb3.below hb4) hg5 (Nat.le_succ _) (by show w.heap.size + 1 < W.heap.size; rw [HSW.out]; omega)
 have HZ := hQ_ hz
 have HK5 := hQ_ hk5
 have HA3 := hQ_ aft3
 clear hz hr3 st3 hb4 hg5 hk5 aft3 hq3 hq4 hb3 RD
 go_wp2_with fail
 exact bodyPost_ret (v := onlyV J) (results_cell_row rfl _ _ (w.heap.size + 1) 48 _ (0,0) _ rfl HK5.out Tryz.underlying48 rfl info_res) rfl ⟨s',S',D',by rw [HJ.out],HZ.out.1,HZ.out.2,HA3.out⟩
theorem rename_deed (hW0 : Wk Rep) {w : World} {g : Nat} {v : Value} {hs : List Int} {s : Vs} {S D : Nat → Prop} (o : Op20) (ino : Int) (hd : Dsk w g v hs) (hr : Rep w v s S D) (hng : ¬ D g) (hl : Lim s) (h2 : s.rd.length ≤ 18000) (h3 : s.rg.length ≤ 900) (hx : Mxs w S) (hp : o.path.size ≤ 100000) (hp2 : o.other.size ≤ 100000) (hk : ∀ p ∈ s.shown,(sp p.key).letter ≠ 0) (hRn : RangeN Rep) :
 Calls Tryz.prog 52 #[.pointer (some ⟨g,0,none⟩),o.val,.int .u32 ino] w (AnsO Rep v s (renB s.shown o.path o.other).1 (renB s.shown o.path o.other).2 84 1 S D w) := by
 obtain ⟨kind,path,other,hn,frm,n,da,dn,dc⟩ := o
 dsimp only [Op20.val,Op20.cells] at *
 have hlt := hW0.stays.lt hr
 have hsub := hW0.stays.sub hr
 obtain ⟨W,hW⟩ : ∃ W,(w.alloc (.cells #[.int .u8 kind,.string path,.string other,.int .i64 hn,.int .i64 frm,.int .i64 n,.slice da dn dc] 41)).alloc (.cells zres 48) = W := ⟨_,rfl⟩
 have hs1 : (w.alloc (.cells #[.int .u8 kind,.string path,.string other,.int .i64 hn,.int .i64 frm,.int .i64 n,.slice da dn dc] 41)).heap.size = w.heap.size + 1 := by simp
 have HB : Hid (Blk W (w.heap.size + 1) zres 48) := hQ_ (by rw [← hW,← hs1]; exact Blk.new_ _ zres _)
 have hO : Blk W w.heap.size #[.int .u8 kind,.string path,.string other,.int .i64 hn,.int .i64 frm,.int .i64 n,.slice da dn dc] 41 := by rw [← hW]; exact (Blk.new_ _ _ _).alloc _
 have hbW : Below w.heap.size w W := by rw [← hW]; exact (bW_).alloc (by rw [hs1]; omega) _
 have hsW : W.heap.size = w.heap.size + 2 := by rw [← hW]; simp
 obtain ⟨er,her⟩ : ∃ er,(renB s.shown path other).1 = er := ⟨_,rfl⟩
 obtain ⟨ps,hps⟩ : ∃ ps,(renB s.shown path other).2 = ps := ⟨_,rfl⟩
 have hbd : Below w.heap.size w W.drew := hbW.drew
 have hc := DirsBh.ren_calls hW0 hRn path other (hW0.stays.below hr hbd) hl h2 h3 (hx.below hbd) hp hp2 hk
 rw [her,hps] at hc
 rw [her,hps]
 obtain ⟨J,hJ⟩ : ∃ J : Int,(if (goW s ps).2 = true then er else 21) = J := ⟨_,rfl⟩
 unfold Ans at hc
 simp only [hJ] at hc
 have HC := hQ_ hc
 have RD : Hid (∀ q0,Chg (fun k => S k ∨ k = w.heap.size + 1) W q0 → Chg (fun k => S k ∨ k = w.heap.size + 1) W q0 ∧ q0.cell? ⟨g,0,none⟩ = some v ∧ q0.cell? ⟨w.heap.size,1,none⟩ = some (.string path) ∧ q0.cell? ⟨w.heap.size,2,none⟩ = some (.string other)) := hQ_ (fun q0 hq => by
  obtain ⟨c1,c2⟩ := find_cells hd hng hlt hsub hbW hO hq
  exact ⟨hq,c1,c2 1,c2 2⟩)
 have HLT := hQ_ hlt
 have HSUB := hQ_ hsub
 have HW := hQ_ hW
 have HBD := hQ_ hbd
 have HJ := hQ_ hJ
 have HSW := hQ_ hsW
 have HVS := hQ_ hW0.stays
 clear hW hs1 hO hbW hsW her hps hbd hc hJ hlt hsub hd hr hng hl h2 h3 hx hW0 hp hp2 hk hRn
 go_enter Tryz.func52,Tryz.ntmps52
 go_wp2_with fail
 rw [HW.out]
 go_wp2_with fail
 refine wp_region_held_drew (S := fun q0 => Chg (fun k => S k ∨ k = w.heap.size + 1) W q0 ∧ q0.cell? ⟨g,0,none⟩ = some v ∧ q0.cell? ⟨w.heap.size,1,none⟩ = some (.string path) ∧ q0.cell? ⟨w.heap.size,2,none⟩ = some (.string other)) (by kernel_rfl) (RD.out _ (Chg.refl _ _).drew) (fun hHeld => ?_)
 refine hw_ 0 (some 7) ?_
 refine hw_ 1 (some 8) ?_
 refine hw_ 2 (some 9) ?_
 refine hw_ 3 (some 10) ?_
 refine hw_ 4 (some 11) ?_
 refine hw_ 5 (some 12) ?_
 refine hw_ 6 (some 13) ?_
 refine hw_ 7 (some 14) ?_
 refine ho_step 8 (some 15) rfl rfl (by kernel_rfl) (by kernel_rfl) (fun K hK => ?_)
 go_simp
 go_at_call 85
 refine HC.out.mono ?_
 rintro e w3 ⟨s',S',D',rfl,hr3,st3,aft3⟩
 have hq3 : Chg (fun k => S k ∨ k = w.heap.size + 1) W w3 := (Chg.refl _ _).drew.trans (st3.chg.mono (fun _ _ h => .inl h))
 have hb3 : Blk w3 (w.heap.size + 1) zres 48 := (st3.chg.block _ HB.out.lt (fun h => by have := HLT.out _ (HSUB.out _ h); omega)).trans HB.out
 try go_wp2_with fail
 refine hK.out _ _ (RD.out _ hq3) (fun hHeld2 => ?_)
 clear hHeld
 have hHeld := hHeld2
 clear hHeld2
 clear hK K
 try simp only [pZ_]
 refine ho_step 9 (some 16) rfl rfl (by kernel_rfl) (by kernel_rfl) (fun K hK => ?_)
 go_simp
 go_at_call 26
 refine (only_calls J _).mono ?_
 rintro e w4 ⟨rfl,hb4⟩
 have hq4 := hq3.trans (Chg.of_below hb4)
 try go_wp2_with fail
 refine hK.out _ _ (RD.out _ hq4) (fun hHeld2 => ?_)
 clear hHeld
 have hHeld := hHeld2
 clear hHeld2
 clear hK K
 try simp only [pZ_]
 refine Hor.ho_row 10 48 _ _ (w.heap.size + 1) #[.int .i64 J,.int .i64 0,.slice none 0 0,.slice none 0 0,.int .u8 0,.int .u32 0,.int .u32 0,.int .u32 0] 48 _ rfl rfl rfl (by kernel_rfl) (by kernel_rfl) rfl rfl (hb3.below hb4) info_res rfl (by simp [Value.oneCell']) (fun w5 hk5 hg5 => RD.out _ (hq4.trans (Chg.of_grown hg5 (fun k hk => .inl (.inr (by injection hk with hk; exact hk.symm)))))) (fun w5 hk5 hg5 => ?_)
 refine wpAnyH_done (by kernel_rfl) ?_ _
 have hz := fin_view HVS.out HLT.out HSUB.out HBD.out hr3 st3 hb4 (hb3.below hb4) hg5 (Nat.le_succ _) (by show w.heap.size + 1 < W.heap.size; rw [HSW.out]; omega)
 have HZ := hQ_ hz
 have HK5 := hQ_ hk5
 have HA3 := hQ_ aft3
 clear hz hr3 st3 hb4 hg5 hk5 aft3 hq3 hq4 hb3 RD
 go_wp2_with fail
 exact bodyPost_ret (v := onlyV J) (results_cell_row rfl _ _ (w.heap.size + 1) 48 _ (0,0) _ rfl HK5.out Tryz.underlying48 rfl info_res) rfl ⟨s',S',D',by rw [HJ.out],HZ.out.1,HZ.out.2,HA3.out⟩
end Go.Proofs.YtogdjbhjgbnicaaGreatDoor.OpsU
namespace Go.Proofs.YtogdjbhjgbnicaaGreatDoor.FileKi
open Go.RowKit
open Byte PackM KeysM TreeR ViewM NodeM NodeG WalkM WalkF WalkKm DirsV FileM FileV FileN Lst Chg TreeL ViewL WalkL WalkV Vat WalkKa DirsK DirsKa FileK FileKd FileKe FileKf FileKg FileKh
open TreeM hiding cutL
open Own hiding keeps
variable {Rep : RepT}
theorem tru_out : ∀ (ps : List Wrt) (L : List Pr),truV.outV L ps = DirsX.outW L ps
 | [],L => rfl
 | p :: ps,L => tru_out ps _
theorem v64_dels : ∀ (ks : List ByteArray) {L : List Pr},Rise L → ∀ {ino : Int},V64 L ino → V64 (DirsX.outW L (ks.map delP)) ino
 | [],L,hr,ino,h => h
 | k :: ks,L,hr,ino,h => v64_dels ks (rise_done hr _) (v64_done hr h (show (0 : Nat) ≤ 64 from Nat.zero_le _))
theorem drop_after {s s' : Vs} {ino z : Int} (ho : s.Ok) (ha : Aft s s' (drpPs s.shown ino z) 0 0) (hg : (goW s (drpPs s.shown ino z)).2 = true) (hv : V64 s.shown ino) : s'.shown = DirsX.outW s.shown (drpPs s.shown ino z) ∧ V64 s'.shown ino := by
 have h1 : s'.shown = DirsX.outW s.shown (drpPs s.shown ino z) := by rw [ha.sm.shown]; exact (DirsX.go_out _ ho hg).1
 refine ⟨h1,?_⟩
 rw [h1,drp_map]
 exact v64_dels _ (rise_shown ho.base _) hv
theorem Truncate_calls (hW : Wk Rep) (hK : LookOk Rep) (hT : SetOk Rep) (hCp : CpN Rep) {w : World} {v : Value} {s : Vs} {S D : Nat → Prop} (ino z : Int) (hr : Rep w v s S D) (hl : Lim s) (h2 : s.rd.length ≤ 19990) (h0 : 0 ≤ ino) (h1 : ino ≤ 4294967295) (z0 : -9223372036854775808 ≤ z) (z1 : z ≤ 9223372036854775807) (hk : ∀ p ∈ s.shown,(sp p.key).letter ≠ 0) (hv : V64 s.shown ino) :
 Calls Tryz.prog 84 #[v,.int .u32 ino,.int .i64 z] w (Ans Rep v s (truV s.shown ino z).1 (truV s.shown ino z).2 1 0 S D w) := by
 have A0 := hQ_ (At.start hr)
 have HLD := hQ_ (FileK.load_calls hW ino hr hl h0 h1)
 unfold FilV at HLD
 have HS := hQ_ hW.stays
 have hl2 : Lim (s.read (kI ino)) := ⟨hl.base,by have := read_len s (kI ino); omega,hl.rg⟩
 have hsh : (s.read (kI ino)).shown = s.shown := ((Sm.refl s).read _).shown
 have HDR := hQ_ (fun (b : Int) (w1 : World) (S1 D1 : Nat → Prop) (hr1 : Rep w1 v (s.read (kI ino)) S1 D1) (b0 : 0 ≤ b) (b1 : b ≤ 65535) => drop_calls hW hCp ino b hr1 hl2 h0 h1 b0 b1 (by rw [hsh]; exact hk))
 rw [hsh] at HDR
 have HSH := hQ_ (fun (w1 : World) (s5 : Vs) (S1 D1 : Nat → Prop) (hr1 : Rep w1 v s5 S1 D1) (hl5 : Lim s5) (b0 : 0 ≤ z) (b1 : z ≤ 4096) (hv5 : V64 s5.shown ino) => FileKc.shorten_calls hW hK hT ino z hr1 hl5 h0 h1 b0 b1 (hv5 (z / 64) (by omega) (by omega)))
 have HDA := hQ_ (fun (b : Int) (s5 : Vs) (ha : Aft (s.read (kI ino)) s5 (drpPs s.shown ino b) 0 0) (hg : (goW (s.read (kI ino)) (drpPs s.shown ino b)).2 = true) (ho : (s.read (kI ino)).Ok) => by
  have q := drop_after (s := s.read (kI ino)) (s' := s5) (ino := ino) (z := b) ho (by rw [hsh]; exact ha) (by rw [hsh]; exact hg) (by rw [hsh]; exact hv)
  rw [hsh] at q
  exact q)
 have HSV := hQ_ (fun (k l z p : Int) (w1 : World) (s5 : Vs) (S1 D1 : Nat → Prop) (hr1 : Rep w1 v s5 S1 D1) (hl5 : Lim s5) (hb : InoB k l z p) => save_w hW ino k l z p hr1 hl5 h0 h1 hb)
 have HRO := hQ_ FileK.room_calls
 have HBL := hQ_ (fun w => NodeK.blocks_ok z w (by omega) (by omega))
 have HL2 := hQ_ hl2
 have C1 := hQ_ (aft_load s (kI ino))
 have hbd := fil_bd s.shown ino
 unfold truV
 rw [tru_out]
 obtain ⟨q,hfx⟩ : ∃ q,filV s.shown ino = q := ⟨_,rfl⟩
 rw [hfx] at hbd HLD ⊢
 obtain ⟨⟨xk,xl,xz,xp⟩,xe⟩ := q
 dsimp only at hbd HLD ⊢
 obtain ⟨b0,b1,b2,b3,b4,b5,b6,b7⟩ := hbd
 have HER : ∀ (er : Int) (M S' D' : Nat → Prop) (w' : World),At Rep w S D M w' v (s.read (kI ino)) S' D' → Ans Rep v s er [] 1 0 S D w (.returned (.int .i64 er)) w' := fun er M S' D' w' h => ans_err h
 have HERR := hQ_ HER
 clear HER
 generalize hs1 : s.read (kI ino) = s1 at *
 clear hr hl hv hW hK hT hCp hl2 hsh hfx hs1 hk
 by_cases he : xe = 0
 ·subst he
  rw [if_neg (by decide)]
  by_cases c1 : z < 0
  ·rw [if_pos c1]
   have d1 : decide (z < 0) = true := by simpa using c1
   go_enter Tryz.func84,Tryz.ntmps84
   go_wp2_with fail
   refine HLD.out.mono ?_
   rintro e w1 ⟨S1,D1,rfl,hr1,st1⟩
   have hbn := bN_ w1 (.cells #[.int .u8 xk,.int .u32 xl,.int .u32 xz,.int .u32 xp] 46)
   have A1 := hQ_ ((A0.out.step HS.out hr1 st1).below HS.out hbn)
   clear hr1 st1 hbn
   go_wp2_with fail
   go_ret
   exact HERR.out _ _ _ _ _ A1.out
  ·rw [if_neg c1]
   have d1 : decide (z < 0) = false := by simpa using c1
   by_cases c2 : 4096 < z
   ·rw [if_pos c2]
    have d2 : decide (z > 4096) = true := by simpa using c2
    go_enter Tryz.func84,Tryz.ntmps84
    go_wp2_with fail
    refine HLD.out.mono ?_
    rintro e w1 ⟨S1,D1,rfl,hr1,st1⟩
    have hbn := bN_ w1 (.cells #[.int .u8 xk,.int .u32 xl,.int .u32 xz,.int .u32 xp] 46)
    have A1 := hQ_ ((A0.out.step HS.out hr1 st1).below HS.out hbn)
    clear hr1 st1 hbn
    go_wp2_with fail
    go_ret
    exact HERR.out _ _ _ _ _ A1.out
   ·rw [if_neg c2]
    have d2 : decide (z > 4096) = false := by simpa using c2
    have e3 : z % 4294967296 = z := by omega
    have e4 : NodeL.blk z = blkN z := rfl
    rw [e4] at HBL
    have g0 : 0 ≤ blkN z := by unfold blkN; split <;> omega
    have g1 : blkN z ≤ 65535 := by unfold blkN; split <;> omega
    have HBM : Hid (InoB xk xl z xp) := hQ_ ⟨b0,b1,b2,b3,by omega,by omega,b6,b7⟩
    have HDR2 := hQ_ (HDR.out (blkN z))
    have HDA2 := hQ_ (HDA.out (blkN z))
    generalize blkN z = bz at *
    generalize drpPs s.shown ino bz = dps at *
    have z2 : 0 ≤ z := by omega
    have z3 : z ≤ 4096 := by omega
    clear c1 c2 e4 HDR HDA
    go_enter Tryz.func84,Tryz.ntmps84
    go_wp2_with fail
    refine HLD.out.mono ?_
    rintro e w1 ⟨S1,D1,rfl,hr1,st1⟩
    have I2 := hQ_ (Blk.new_ w1 #[.int .u8 xk,.int .u32 xl,.int .u32 z,.int .u32 xp] 46)
    have hbn := bX_ I2.out
    have A2 := hQ_ ((A0.out.step HS.out hr1 st1).own HS.out hbn (Nat.le_refl w1.heap.size) (by simp))
    clear hr1 st1 hbn
    go_wp2_with fail
    refine (HBL.out _).mono ?_
    rintro e w2 ⟨rfl,hb2⟩
    have AB := hQ_ (A2.out.below HS.out hb2)
    have IB := hQ_ (I2.out.below hb2)
    have OK := hQ_ (HS.out.ok AB.out.rep)
    clear hb2
    go_wp2_with fail
    refine (HDR2.out _ _ _ AB.out.rep g0 g1).mono ?_
    intro e w3 h3
    rcases Wrote.split h3 with ⟨s3,S3,D3,rfl,hg3,hr3,st3,af3⟩ | ⟨s3,S3,D3,rfl,hg3,hr3,st3,af3⟩
    ·have A3 := hQ_ (AB.out.step HS.out hr3 st3)
     have I3 := hQ_ (AB.out.blk HS.out IB.out (.inr rfl) st3)
     have q3 := C1.out.1.app C1.out.2 af3
     have C3 : Hid (Aft s s3 dps 1 0 ∧ (goW s dps).2 = true) := hQ_ ⟨q3.1,q3.2.trans hg3⟩
     have L3 : Hid (Lim s3) := hQ_ (lim_aft af3 HL2.out (by have := HL2.out.rd; omega) (by have := HL2.out.rg; omega))
     obtain ⟨sh3,v3⟩ := HDA2.out s3 af3 hg3 OK.out
     have V3 := hQ_ v3
     have HSH3 := hQ_ (fun (w1 : World) (S1 D1 : Nat → Prop) (hr1 : Rep w1 v s3 S1 D1) => HSH.out w1 s3 S1 D1 hr1 L3.out z2 z3 V3.out)
     rw [sh3] at HSH3
     generalize shoPs (DirsX.outW s.shown dps) ino z = sps at *
     clear h3 hr3 st3 af3 hg3 q3 sh3 v3
     go_wp2_with fail
     refine (HSH3.out _ _ _ A3.out.rep).mono ?_
     intro e w4 h4
     rcases Wrote.split h4 with ⟨s4,S4,D4,rfl,hg4,hr4,st4,af4⟩ | ⟨s4,S4,D4,rfl,hg4,hr4,st4,af4⟩
     ·have A4 := hQ_ (A3.out.step HS.out hr4 st4)
      have I4 := hQ_ (A3.out.blk HS.out I3.out (.inr rfl) st4)
      have q4 := C3.out.1.app C3.out.2 af4
      have C4 : Hid (Aft s s4 (dps ++ sps) 1 0 ∧ (goW s (dps ++ sps)).2 = true) := hQ_ ⟨q4.1,q4.2.trans hg4⟩
      have L4 : Hid (Lim s4) := hQ_ (lim_aft af4 L3.out (by have := L3.out.rd; omega) (by have := L3.out.rg; omega))
      clear h4 hr4 st4 af4 hg4 q4
      have i0 := cC4 I4.out
      go_wp2_with fail
      refine (HSV.out xk xl z xp _ _ _ _ A4.out.rep L4.out HBM.out).mono ?_
      intro e w5 h5
      rcases Wrote.split h5 with ⟨s5,S5,D5,rfl,hg5,hr5,st5,af5⟩ | ⟨s5,S5,D5,rfl,hg5,hr5,st5,af5⟩
      ·have A5 := hQ_ (A4.out.step HS.out hr5 st5)
       have q5 := C4.out.1.app C4.out.2 af5
       have q6 := And.intro q5.1 (q5.2.trans hg5)
       rw [List.append_assoc] at q6
       have C5 := hQ_ q6
       clear h5 hr5 st5 af5 hg5 q5 q6
       go_wp2_with fail
       refine (HRO.out _ _).mono ?_
       rintro e w6 ⟨rfl,rfl⟩
       go_wp2_with fail
       go_ret
       exact Ans.ok A5.out C5.out
      ·have A5 := hQ_ (A4.out.step HS.out hr5 st5)
       have q5 := C4.out.1.app C4.out.2 af5
       have q6 := And.intro q5.1 (q5.2.trans hg5)
       rw [List.append_assoc] at q6
       have C5 := hQ_ q6
       clear h5 hr5 st5 af5 hg5 q5 q6
       go_wp2_with fail
       refine (HRO.out _ _).mono ?_
       rintro e w6 ⟨rfl,rfl⟩
       go_wp2_with fail
       go_ret
       exact Ans.full A5.out C5.out
     ·have A4 := hQ_ (A3.out.step HS.out hr4 st4)
      have q4 := C3.out.1.app C3.out.2 af4
      have q5 := q4.1.stop (qs := [saveP ino xk xl z xp]) (q4.2.trans hg4)
      rw [List.append_assoc] at q5
      have C4 := hQ_ q5
      clear h4 hr4 st4 af4 hg4 q4 q5
      go_wp2_with fail
      refine (HRO.out _ _).mono ?_
      rintro e w6 ⟨rfl,rfl⟩
      go_wp2_with fail
      go_ret
      exact Ans.full A4.out C4.out
    ·have A3 := hQ_ (AB.out.step HS.out hr3 st3)
     have q3 := C1.out.1.app C1.out.2 af3
     have C3 : Hid (Aft s s3 (dps ++ (shoPs (DirsX.outW s.shown dps) ino z ++ [saveP ino xk xl z xp])) 1 0 ∧ (goW s (dps ++ (shoPs (DirsX.outW s.shown dps) ino z ++ [saveP ino xk xl z xp]))).2 = false) := hQ_ (q3.1.stop (q3.2.trans hg3))
     clear h3 hr3 st3 af3 hg3 q3
     go_wp2_with fail
     refine (HRO.out _ _).mono ?_
     rintro e w5 ⟨rfl,rfl⟩
     go_wp2_with fail
     go_ret
     exact Ans.full A3.out C3.out
 ·rw [if_pos he]
  have d1 : (xe != 0) = true := by simpa using he
  clear he
  go_enter Tryz.func84,Tryz.ntmps84
  go_wp2_with fail
  refine HLD.out.mono ?_
  rintro e w1 ⟨S1,D1,rfl,hr1,st1⟩
  have hbn := bN_ w1 (.cells #[.int .u8 xk,.int .u32 xl,.int .u32 xz,.int .u32 xp] 46)
  have A1 := hQ_ ((A0.out.step HS.out hr1 st1).below HS.out hbn)
  clear hr1 st1 hbn
  go_wp2_with fail
  go_ret
  exact HERR.out _ _ _ _ _ A1.out
end Go.Proofs.YtogdjbhjgbnicaaGreatDoor.FileKi
namespace Go.Proofs.YtogdjbhjgbnicaaGreatDoor.DirsBl
open Go.RowKit
open Byte KeysM TreeM ViewM ViewKm NodeM NodeG NamesM NamesL WalkM WalkF WalkKm DirsV Lst Chg TreeL ViewL WalkL WalkV Vat WalkKa WalkKb DirsK DirsKa DirsKb DirsKc DirsKd
open Own hiding keeps
open DirsKg hiding first_2g first_2d
variable {Rep : RepT}
def ListR2 (Rep : RepT) (v : Value) (s : Vs) (dir : Int) (S D : Nat → Prop) (w : World) (e : Ending) (w' : World) : Prop := ∃ A m c a b S' D',e = .returned (.slice A m c) ∧ So Tx.txE 9 w' w.heap.size (.slice A m c) m (listM dir s.shown) ∧ (∀ q o,A = some ⟨q,o,none⟩ → ¬ D' q) ∧ Rep w' v (s.ranged a b) S' D' ∧ Stp S D S' D' w w'
section
open Go.RowKit
open Byte PackM KeysM KeysS KeysV KeysB KeysD TreeM TreeR ViewM NodeM NodeG NamesM NamesL NamesK WalkM WalkF WalkKm Lst Tx Chg TreeL ViewL WalkL WalkV Vat WalkKa
open WalkD (blk_chg)
open Own hiding keeps
open WalkKb
theorem list2_calls (hS : Stays Rep) (hX : RangeOk Rep) {w : World} {v : Value} {s : Vs} {S D : Nat → Prop} (dir : Int) (hr : Rep w v s S D) (hl : Lim s) (h0 : 0 ≤ dir) (h1 : dir ≤ 4294967295) (hk : ∀ p ∈ s.shown,(sp p.key).letter ≠ 0) (hn : s.shown.length ≤ 100000) :
 Calls Tryz.prog 117 #[v,.int .u32 dir] w (ListR2 Rep v s dir S D w) := by
 have A0 := hQ_ (At.start hr)
 have HE := hQ_ (fun w => entries_small dir w h0 h1)
 have HK := hQ_ hk
 have HS := hQ_ hS
 have HL := hQ_ hl
 have HX := hQ_ hX
 obtain ⟨M,hM⟩ : ∃ M,s.shown.filter (entB dir) = M := ⟨_,rfl⟩
 have HMF := hQ_ hM
 have HM2 : Hid (∀ p ∈ M,entB dir p = true ∧ p.key.size ≤ 100000 ∧ (sp p.key).letter = 69) := hQ_ (fun p hp => by
  rw [← hM] at hp
  have h3 := List.mem_filter.1 hp
  have h4 := sp_key (HK.out p h3.1)
  have h5 := h3.2
  unfold entB at h5
  rw [Bool.and_eq_true,decide_eq_true_eq] at h5
  exact ⟨h3.2,by omega,h5.1⟩)
 have hLM : listM dir s.shown = M.map (fun p => (sp p.key).name) := by rw [list_ent,hM]
 unfold ListR2
 rw [hLM]
 clear hr hl hS hX hk hM hLM
 go_enter Tryz.func117,Tryz.ntmps117
 go_wp2_with fail
 refine (HE.out _).mono ?_
 rintro e w1 ⟨a,b,rfl,hrg,ha,hb,hb1⟩
 have A1 := hQ_ (A0.out.below HS.out hb1)
 have HRG : Hid (rangeL a b s.shown = s.shown.filter (entB dir)) := hQ_ (range_ent hrg.out HK.out)
 clear hb1 hrg
 go_wp2_with fail
 refine (HX.out a b A1.out.rep HL.out (by omega) (by omega)).mono ?_
 rintro e w2 ⟨⟨ra,rn,rc⟩,S2,D2,rfl,hsl,hnew,hr2,st2⟩
 rw [rangeOf_is,HRG.out,HMF.out] at hsl
 dsimp only at hsl hnew
 have A2 := hQ_ (A1.out.step HS.out hr2 st2)
 have HLR := hQ_ hsl
 have hrn : rn ≤ 100000 := by
  rw [← hsl.1]
  rw [← HMF.out]
  exact Nat.le_trans (List.length_filter_le _ _) hn
 have HZ2 := hQ_ A2.out.size
 clear hsl hnew hr2 st2 ha hb
 go_wp2_with fail
 go_loopw [5,19] (fun v i wr => ∃ (A' : Option Addr) (m c' k : Nat) (N : List ByteArray),v = .slice A' m c' ∧ i = .int .i64 k ∧ k ≤ rn ∧ m = k ∧ So txE 9 wr w2.heap.size (.slice A' m c') m N ∧ Hid (N = (M.take k).map (fun p => (sp p.key).name)) ∧ Below w2.heap.size w2 wr) (fun _ i _ => rn - (intOf i).toNat)
 case atStart => exact ⟨none,0,0,0,[],rfl,rfl,Nat.zero_le _,rfl,So.nil_ _ _ _ _,hQ_ rfl,Below.refl _ _⟩
 case round =>
  obtain ⟨A',m,c',k,N,rfl,rfl,hk,rfl,hso,HN,hbel⟩ := hrel
  by_cases hlt : m < rn
  ·obtain ⟨x,g,o,hx,rfl,hg,hcl⟩ := (HLR.out.below hbel).get m hlt
   obtain ⟨c1,c2,c3,hcc⟩ := pair_cells hcl
   have hmx := HM2.out x (List.mem_of_getElem? hx)
   have HNX := hQ_ (map_nx hx (fun p => (sp p.key).name))
   have HSP := hQ_ (fun w => split_calls x.key w hmx.2.1)
   unfold SpE at HSP
   have HSO := hQ_ hso
   have HBL := hQ_ hbel
   have hlet := hmx.2.2
   obtain ⟨xk,xv,xg⟩ := x
   dsimp only at *
   have HN2 : Hid (N ++ [(sp xk).name] = (M.take (m + 1)).map (fun p => (sp p.key).name)) := hQ_ (by rw [HNX.out,HN.out])
   rw [hlet] at HSP
   clear HNX hcl hx hso hbel hmx hlet
   generalize (sp xk).ino = X2 at *
   generalize (sp xk).name = X3 at *
   generalize (sp xk).n = X4 at *
   have hbs := HBL.out.size
   go_wp2_with ((with_reducible refine pick (some 22) ?_); refine wpList_load_mid rfl 64 _ rfl g (o + m * 3) rfl _ _ hcc Tryz.underlying64 rfl info_pair3 ?_)
   refine (HSP.out _).mono ?_
   rintro e w3 ⟨rfl,hb3⟩
   have HB3 := hQ_ (Own.keeps (HBL.out.alloc hbs (.cells #[.string xk,.string xv,.bool xg] 64)) hb3)
   have HSO3 := hQ_ ((HSO.out.below ((Below.refl _ _).alloc (Nat.le_refl _) (.cells #[.string xk,.string xv,.bool xg] 64))).below hb3)
   clear hb3
   go_wp2_with ((with_reducible refine pick (some 36) ?_); refine wpList_append_any txE 9 rfl _ _ _ rfl Tryz.underlying44 info_tx rfl w2.heap.size _ m N rfl (HSO3.out.below (bW_)) _ 1 1 [X3] rfl (Sl.new_ txE _ _ X3 _ rfl) (fun h => by cases h) (m + 1) rfl _ rfl (by unfold maxLen; omega) (by omega) (by have := HB3.out.size; simp; omega) ?_; intro v' w' hown' hg' hat'; obtain ⟨A3,c3',rfl,_⟩ := Tx.So.head hown')
   have hal := HB3.out.alloc HB3.out.size (.cells #[.string X3] 9)
   have HBB : Hid (Below w2.heap.size w2 w') := hQ_ (hal.grown hg' hal.size (fun k hk => (HSO3.out.lt hk).1))
   clear hal
   go_roundw
   case rel => exact ⟨A3,m + 1,c3',m + 1,_,rfl,by go_num,by omega,rfl,hown',HN2,HBB.out⟩
   case measure => simp [intOf]; omega
  ·obtain rfl : m = rn := by omega
   have HBL := hQ_ hbel
   have HSO := hQ_ hso
   have hML : M.take m = M := List.take_of_length_le (by rw [HLR.out.1]; exact Nat.le_refl _)
   have HNM : Hid (N = M.map (fun p => (sp p.key).name)) := hQ_ (by rw [HN.out,hML])
   have A3 := hQ_ (A2.out.below HS.out hbel)
   clear hML hbel hso
   go_wp2_with fail
   go_ret
   exact ⟨A',m,c',a,b,S2,D2,rfl,by rw [← HNM.out]; exact HSO.out.lower HZ2.out,fun q o e => (by have h1 := HSO.out.lt (g := q) (by rw [e]; rfl); intro hd; have h2 := HS.out.lt A2.out.rep q hd; omega),A3.out.rep,A3.out.st⟩
end
def ListN (Rep : RepT) : Prop := ∀ ⦃w v s S D⦄ (dir : Int),Rep w v s S D → Lim s → 0 ≤ dir → dir ≤ 4294967295 → (∀ p ∈ s.shown,(sp p.key).letter ≠ 0) → Calls Tryz.prog 117 #[v,.int .u32 dir] w (ListR2 Rep v s dir S D w)
theorem list_n : ListN WalkK.VRep := fun _ _ _ _ _ dir r hl h0 h1 hk => list2_calls WalkK.stays (WalkV.range_b ViewK.range_ok) dir r hl h0 h1 hk (WalkK.shown_len r hl)
def ListB (Rep : RepT) (v : Value) (s : Vs) (r : List ByteArray × Int) (k m : Nat) (S D : Nat → Prop) (w : World) (e : Ending) (w' : World) : Prop := ∃ A n c s' S' D',e = .returned (.tuple #[.slice A n c,.int .i64 r.2]) ∧ So Tx.txE 9 w' w.heap.size (.slice A n c) n r.1 ∧ (∀ q o,A = some ⟨q,o,none⟩ → ¬ D' q) ∧ Rep w' v s' S' D' ∧ Stp S D S' D' w w' ∧ Aft s s' [] k m
theorem ListB.none_ {v : Value} {s s' : Vs} {er : Int} {k m : Nat} {S D M S' D' : Nat → Prop} {w w' : World} (A : At Rep w S D M w' v s' S' D') (h : Aft s s' [] k m) : ListB Rep v s ([],er) k m S D w (.returned (.tuple #[.slice none 0 0,.int .i64 er])) w' := ⟨none,0,0,s',S',D',rfl,So.nil_ _ _ _ _,(fun _ _ h => by cases h),A.rep,A.st,h⟩
theorem lst_err (hW0 : Wk Rep) {w : World} {v : Value} {s : Vs} {S D : Nat → Prop} (path : ByteArray) {li lk ll lz lp er : Int} (hr : Rep w v s S D) (hl : Lim s) (h2 : s.rd.length ≤ 18000) (h3 : s.rg.length ≤ 900) (hx : Mxs w S) (hp : path.size ≤ 100000) (hL : leadM s.shown path = (li,⟨lk,ll,lz,lp⟩,er)) (he : er ≠ 0) (hk2 : lk = 0) :
 Calls Tryz.prog 89 #[v,.string path] w (ListB Rep v s ([],er) 40 1 S D w) := by
 have A0 := hQ_ (At.start hr)
 have HX := hQ_ hx
 have HS := hQ_ hW0.stays
 have HL := hQ_ hl
 have C0 := hQ_ (aft0 s)
 have HWT := hQ_ when_t
 have HWF := hQ_ when_f
 have HLE := hQ_ (fun w (S D : Nat → Prop) (t : Vs) (hr : Rep w v t S D) (hsm : Sm t s) hl h2 hx => lead_c hW0 path hL hr hsm hl h2 hp hx)
 unfold LeadC at HLE
 dsimp only at HLE
 have d1 : (lk != 2) = true := by rw [hk2]; rfl
 have d0 : (er != 0) = true := by simpa using he
 clear hr hl hp hL hx hW0 hk2
 go_enter Tryz.func89,Tryz.ntmps89
 go_wp2_with fail
 refine (HLE.out _ _ _ _ A0.out.rep (Aft.sm0 C0.out.1) (lim_aft C0.out.1 HL.out (by omega) (by omega)) (by have := C0.out.1.rd; omega) (HX.out.at_ A0.out)).mono ?_
 rintro e w1 ⟨s1,S1,D1,rfl,hr,st,hsm,hrd,hrg⟩
 have C1 := hQ_ (aftF C0.out hsm hrd hrg)
 have I1 := hQ_ (Blk.new_ w1 #[.int .u8 lk,.int .u32 ll,.int .u32 lz,.int .u32 lp] 46)
 have hbn := bX_ I1.out
 have A1 := hQ_ ((A0.out.step HS.out hr st).own HS.out hbn (Nat.le_refl w1.heap.size) (by simp))
 have f1_I0 := cC4 I1.out
 clear hr st hsm hrd hrg hbn
 have FE2 : fst_ [er,12] = er := by unfold fst_; rw [if_neg he]
 have HF2 := hQ_ (And.intro (first_2g (er) (12) (w1.alloc (.cells #[.int .u8 lk,.int .u32 ll,.int .u32 lz,.int .u32 lp] 46)) (w1.heap.size + 1) (by simp)) (first_2d (er) (12) (w1.alloc (.cells #[.int .u8 lk,.int .u32 ll,.int .u32 lz,.int .u32 lp] 46)) (w1.heap.size + 1) (by simp)))
 rw [FE2] at HF2
 clear FE2
 go_upto_region 2 with (fail)
 go_cut [9] (fun p wx => p = .int .i64 (er) ∧ BL_ (w1.alloc (.cells #[.int .u8 lk,.int .u32 ll,.int .u32 lz,.int .u32 lp] 46)) wx)
 case first =>
  go_wp2_with (first | (go_at_call 99; (with_reducible refine (HWT.out _ _).mono ?_); rintro e w9 ⟨rfl,rfl⟩) | (go_at_call 99; (with_reducible refine (HWF.out _ _).mono ?_); rintro e w9 ⟨rfl,rfl⟩) | (go_at_call 98; (with_reducible refine HF2.out.1.mono ?_); rintro e w9 ⟨rfl,rfl⟩))
  all_goals
   go_meet
   exact fB_
 case rest =>
  obtain ⟨rfl,hbc⟩ := hcut
  have A2 := hQ_ (A1.out.below HS.out hbc)
  have I2 := hQ_ (I1.out.below hbc)
  skip
  have f2_I0 := cC4 I2.out
  clear hbc f1_I0
  clear he
  go_wp2_with fail
  go_ret2
  exact ListB.none_ A2.out (C1.out.1.more (by omega) (by omega))
theorem lst_file (hW0 : Wk Rep) {w : World} {v : Value} {s : Vs} {S D : Nat → Prop} (path : ByteArray) {li lk ll lz lp er : Int} (hr : Rep w v s S D) (hl : Lim s) (h2 : s.rd.length ≤ 18000) (h3 : s.rg.length ≤ 900) (hx : Mxs w S) (hp : path.size ≤ 100000) (hL : leadM s.shown path = (li,⟨lk,ll,lz,lp⟩,er)) (he : er = 0) (hk2 : lk ≠ 2) :
 Calls Tryz.prog 89 #[v,.string path] w (ListB Rep v s ([],12) 40 1 S D w) := by
 have A0 := hQ_ (At.start hr)
 have HX := hQ_ hx
 have HS := hQ_ hW0.stays
 have HL := hQ_ hl
 have C0 := hQ_ (aft0 s)
 have HWT := hQ_ when_t
 have HWF := hQ_ when_f
 have HLE := hQ_ (fun w (S D : Nat → Prop) (t : Vs) (hr : Rep w v t S D) (hsm : Sm t s) hl h2 hx => lead_c hW0 path hL hr hsm hl h2 hp hx)
 unfold LeadC at HLE
 dsimp only at HLE
 subst he
 have d0 : (lk != 2) = true := by simpa using hk2
 clear hr hl hp hL hx hk2 hW0
 go_enter Tryz.func89,Tryz.ntmps89
 go_wp2_with fail
 refine (HLE.out _ _ _ _ A0.out.rep (Aft.sm0 C0.out.1) (lim_aft C0.out.1 HL.out (by omega) (by omega)) (by have := C0.out.1.rd; omega) (HX.out.at_ A0.out)).mono ?_
 rintro e w1 ⟨s1,S1,D1,rfl,hr,st,hsm,hrd,hrg⟩
 have C1 := hQ_ (aftF C0.out hsm hrd hrg)
 have I1 := hQ_ (Blk.new_ w1 #[.int .u8 lk,.int .u32 ll,.int .u32 lz,.int .u32 lp] 46)
 have hbn := bX_ I1.out
 have A1 := hQ_ ((A0.out.step HS.out hr st).own HS.out hbn (Nat.le_refl w1.heap.size) (by simp))
 have f1_I0 := cC4 I1.out
 clear hr st hsm hrd hrg hbn
 have FE2 : fst_ [0,12] = 12 := rfl
 have HF2 := hQ_ (And.intro (first_2g (0) (12) (w1.alloc (.cells #[.int .u8 lk,.int .u32 ll,.int .u32 lz,.int .u32 lp] 46)) (w1.heap.size + 1) (by simp)) (first_2d (0) (12) (w1.alloc (.cells #[.int .u8 lk,.int .u32 ll,.int .u32 lz,.int .u32 lp] 46)) (w1.heap.size + 1) (by simp)))
 rw [FE2] at HF2
 clear FE2
 go_upto_region 2 with (fail)
 go_cut [9] (fun p wx => p = .int .i64 (12) ∧ BL_ (w1.alloc (.cells #[.int .u8 lk,.int .u32 ll,.int .u32 lz,.int .u32 lp] 46)) wx)
 case first =>
  go_wp2_with (first | (go_at_call 99; (with_reducible refine (HWT.out _ _).mono ?_); rintro e w9 ⟨rfl,rfl⟩) | (go_at_call 99; (with_reducible refine (HWF.out _ _).mono ?_); rintro e w9 ⟨rfl,rfl⟩) | (go_at_call 98; (with_reducible refine HF2.out.1.mono ?_); rintro e w9 ⟨rfl,rfl⟩))
  all_goals
   go_meet
   exact fB_
 case rest =>
  obtain ⟨rfl,hbc⟩ := hcut
  have A2 := hQ_ (A1.out.below HS.out hbc)
  have I2 := hQ_ (I1.out.below hbc)
  skip
  have f2_I0 := cC4 I2.out
  clear hbc f1_I0
  go_wp2_with fail
  go_ret2
  exact ListB.none_ A2.out (C1.out.1.more (by omega) (by omega))
theorem lst_dir (hW0 : Wk Rep) (hLs : ListN Rep) {w : World} {v : Value} {s : Vs} {S D : Nat → Prop} (path : ByteArray) {li lk ll lz lp er : Int} (hr : Rep w v s S D) (hl : Lim s) (h2 : s.rd.length ≤ 18000) (h3 : s.rg.length ≤ 900) (hx : Mxs w S) (hp : path.size ≤ 100000) (hL : leadM s.shown path = (li,⟨lk,ll,lz,lp⟩,er)) (he : er = 0) (hk2 : lk = 2) (l0 : 0 ≤ li) (l1 : li ≤ 4294967295) (hk : ∀ p ∈ s.shown,(sp p.key).letter ≠ 0) :
 Calls Tryz.prog 89 #[v,.string path] w (ListB Rep v s (listM li s.shown,0) 40 1 S D w) := by
 have A0 := hQ_ (At.start hr)
 have HX := hQ_ hx
 have HS := hQ_ hW0.stays
 have HL := hQ_ hl
 have C0 := hQ_ (aft0 s)
 have HWT := hQ_ when_t
 have HWF := hQ_ when_f
 have HLE := hQ_ (fun w (S D : Nat → Prop) (t : Vs) (hr : Rep w v t S D) (hsm : Sm t s) hl h2 hx => lead_c hW0 path hL hr hsm hl h2 hp hx)
 unfold LeadC at HLE
 dsimp only at HLE
 have HLS := hQ_ (fun w (S D : Nat → Prop) (t : Vs) (hr : Rep w v t S D) (hsm : Sm t s) (hl : Lim t) => show Calls _ _ _ _ (fun e w' => ∃ A m c a b S' D',e = .returned (.slice A m c) ∧ So Tx.txE 9 w' w.heap.size (.slice A m c) m (listM li s.shown) ∧ (∀ q o,A = some ⟨q,o,none⟩ → ¬ D' q) ∧ Rep w' v (t.ranged a b) S' D' ∧ Stp S D S' D' w w') by rw [← hsm.shown]; exact hLs li hr hl l0 l1 (by rw [hsm.shown]; exact hk))
 subst he
 have d1 : (lk != 2) = false := by rw [hk2]; rfl
 clear hr hl hp hL hx hk hW0 hk2
 go_enter Tryz.func89,Tryz.ntmps89
 go_wp2_with fail
 refine (HLE.out _ _ _ _ A0.out.rep (Aft.sm0 C0.out.1) (lim_aft C0.out.1 HL.out (by omega) (by omega)) (by have := C0.out.1.rd; omega) (HX.out.at_ A0.out)).mono ?_
 rintro e w1 ⟨s1,S1,D1,rfl,hr,st,hsm,hrd,hrg⟩
 have C1 := hQ_ (aftF C0.out hsm hrd hrg)
 have I1 := hQ_ (Blk.new_ w1 #[.int .u8 lk,.int .u32 ll,.int .u32 lz,.int .u32 lp] 46)
 have hbn := bX_ I1.out
 have A1 := hQ_ ((A0.out.step HS.out hr st).own HS.out hbn (Nat.le_refl w1.heap.size) (by simp))
 have f1_I0 := cC4 I1.out
 clear hr st hsm hrd hrg hbn
 have FE2 : fst_ [0,0] = 0 := rfl
 have HF2 := hQ_ (And.intro (first_2g (0) (0) (w1.alloc (.cells #[.int .u8 lk,.int .u32 ll,.int .u32 lz,.int .u32 lp] 46)) (w1.heap.size + 1) (by simp)) (first_2d (0) (0) (w1.alloc (.cells #[.int .u8 lk,.int .u32 ll,.int .u32 lz,.int .u32 lp] 46)) (w1.heap.size + 1) (by simp)))
 rw [FE2] at HF2
 clear FE2
 go_upto_region 2 with (fail)
 go_cut [9] (fun p wx => p = .int .i64 (0) ∧ BL_ (w1.alloc (.cells #[.int .u8 lk,.int .u32 ll,.int .u32 lz,.int .u32 lp] 46)) wx)
 case first =>
  go_wp2_with (first | (go_at_call 99; (with_reducible refine (HWT.out _ _).mono ?_); rintro e w9 ⟨rfl,rfl⟩) | (go_at_call 99; (with_reducible refine (HWF.out _ _).mono ?_); rintro e w9 ⟨rfl,rfl⟩) | (go_at_call 98; (with_reducible refine HF2.out.1.mono ?_); rintro e w9 ⟨rfl,rfl⟩))
  all_goals
   go_meet
   exact fB_
 case rest =>
  obtain ⟨rfl,hbc⟩ := hcut
  have A2 := hQ_ (A1.out.below HS.out hbc)
  have I2 := hQ_ (I1.out.below hbc)
  skip
  have f2_I0 := cC4 I2.out
  clear hbc f1_I0
  go_wp2_with fail
  refine (HLS.out _ _ _ _ A2.out.rep (Aft.sm0 C1.out.1) (lim_aft C1.out.1 HL.out (by omega) (by omega))).mono ?_
  rintro e w7 ⟨ra,rm,rc,a,b,S7,D7,rfl,hsl,hno,hr,st⟩
  have A7 := hQ_ (A2.out.step HS.out hr st)
  have C7 := hQ_ (show Aft s (s1.ranged a b) [] 40 1 from ⟨((Sm.refl _).ranged a b).trans C1.out.1.sm,Nat.le_trans (Nat.le_of_eq (ranged_rd s1 a b)) C1.out.1.rd,Nat.le_trans (ranged_rg s1 a b) (Nat.succ_le_succ C1.out.1.rg)⟩)
  have HSL := hQ_ hsl
  have HNO := hQ_ hno
  clear hsl hr st hno
  go_wp2_with fail
  go_ret2
  exact ⟨ra,rm,rc,_,S7,D7,rfl,So.lower HSL.out A2.out.size,HNO.out,A7.out.rep,A7.out.st,C7.out⟩
theorem lst_calls (hW0 : Wk Rep) (hLs : ListN Rep) {w : World} {v : Value} {s : Vs} {S D : Nat → Prop} (path : ByteArray) (hr : Rep w v s S D) (hl : Lim s) (h2 : s.rd.length ≤ 18000) (h3 : s.rg.length ≤ 900) (hx : Mxs w S) (hp : path.size ≤ 100000) (hk : ∀ p ∈ s.shown,(sp p.key).letter ≠ 0) :
 Calls Tryz.prog 89 #[v,.string path] w (ListB Rep v s (lstV s.shown path) 40 1 S D w) := by
 obtain ⟨⟨li,⟨lk,ll,lz,lp⟩,er⟩,hL⟩ : ∃ R,leadM s.shown path = R := ⟨_,rfl⟩
 have h := hL
 unfold leadM at h
 unfold lstV
 have hsb := find_bd s.shown path
 by_cases he : (findM s.shown path).2 = 0
 ·rw [if_neg (fun h => h he)] at h ⊢
  by_cases h0 : (findM s.shown path).1.ino = 0
  ·rw [if_pos h0] at h ⊢
   injection h with h1 h
   injection h with h5 h6
   injection h5 with h5
   subst h6
   exact lst_err hW0 path hr hl h2 h3 hx hp hL (by decide) h5.symm
  ·rw [if_neg h0] at h ⊢
   injection h with h1 h
   injection h with h5 h6
   rw [h1,h5]
   by_cases hk2 : lk = 2
   ·rw [if_neg (fun h => h hk2)]
    exact lst_dir hW0 hLs path hr hl h2 h3 hx hp hL h6.symm hk2 (by rw [← h1]; exact hsb.i0) (by rw [← h1]; exact hsb.i1) hk
   ·rw [if_pos hk2]
    exact lst_file hW0 path hr hl h2 h3 hx hp hL h6.symm hk2
 ·rw [if_pos he] at h ⊢
  injection h with h1 h
  injection h with h5 h6
  injection h5 with h5
  rw [h6] at he ⊢
  exact lst_err hW0 path hr hl h2 h3 hx hp hL he h5.symm
end Go.Proofs.YtogdjbhjgbnicaaGreatDoor.DirsBl
namespace Go.Proofs.YtogdjbhjgbnicaaGreatDoor.OpsV
open Go.RowKit
open Byte KeysM ViewM NodeM WalkM WalkF WalkKm DirsV FileM FileV Lst Chg TreeL ViewL WalkL Vat Ho DirsK DirsKa DirsKc FileK FileKd Cpy FileKe FileKf OpsR OpsD OpsE OpsI OpsJ OpsK OpsS OpsO OpsW DirsBl
open TreeM hiding cutL
open Own hiding lower
variable {Rep : RepT}
def truD (L : List Pr) (hs : List Int) (hn z : Int) : Int × List Wrt := if (inoD hs hn).2 = 0 then truV L (inoD hs hn).1 z else (16,[])
def clsD (hs : List Int) (hn : Int) : Int × List Int := if (inoD hs hn).2 = 0 then (0,hs.set hn.toNat 0) else (16,hs)
def ClsD (Rep : RepT) (g : Nat) (v : Value) (s : Vs) (r : Int × List Int) (S D : Nat → Prop) (w : World) (e : Ending) (w' : World) : Prop := ∃ S' D',e = .returned (onlyV r.1) ∧ Dst Rep w' g v r.2 s S' D' ∧ Dstp S D S' D' g w w'
def LstD (Rep : RepT) (g : Nat) (v : Value) (hs : List Int) (s : Vs) (r : List ByteArray × Int) (S D : Nat → Prop) (w : World) (e : Ending) (w' : World) : Prop := ∃ (a : Option Addr) (m c : Nat) (s' : Vs) (S' D' : Nat → Prop),e = .returned (resV r.2 0 (.slice none 0 0) (.slice a m c) 0 0 0 0) ∧ So Tx.txE 9 w' w.heap.size (.slice a m c) m r.1 ∧ Dst Rep w' g v hs s' S' D' ∧ Dstp S D S' D' g w w' ∧ (∀ q o,a = some ⟨q,o,none⟩ → ¬ D' q) ∧ Aft s s' [] 40 1
theorem inoD_hn {hs : List Int} {hn : Int} (h : (inoD hs hn).2 = 0) : ∃ j : Nat,hn = j ∧ j < 16 := by
 unfold inoD at h
 by_cases h0 : hn < 0
 ·rw [if_pos h0] at h
  exact absurd h (show (16 : Int) ≠ 0 by decide)
 ·rw [if_neg h0] at h
  by_cases h1 : 16 ≤ hn
  ·rw [if_pos h1] at h
   exact absurd h (show (16 : Int) ≠ 0 by decide)
  ·exact ⟨hn.toNat,by omega,by omega⟩
theorem truncate_deed (hW0 : Wk Rep) (hLk : LookOk Rep) (hSt : SetOk Rep) (hCp : CpN Rep) {w : World} {g : Nat} {v : Value} {hs : List Int} {s : Vs} {S D : Nat → Prop} (o : Op20) (ino : Int) (hdd : Dst Rep w g v hs s S D) (hl : Lim s) (h2 : s.rd.length ≤ 18000) (n0 : -9223372036854775808 ≤ o.n) (n1 : o.n ≤ 9223372036854775807) (hk : ∀ p ∈ s.shown,(sp p.key).letter ≠ 0) (hv : V64 s.shown (inoD hs o.hn).1) :
 Calls Tryz.prog 51 #[.pointer (some ⟨g,0,none⟩),o.val,.int .u32 ino] w (AnsN Rep g v hs s (truD s.shown hs o.hn o.n).1 0 (truD s.shown hs o.hn o.n).2 1 0 S D w) := by
 obtain ⟨kind,path,other,hn,frm,n,da,dn,dc⟩ := o
 dsimp only [Op20.val,Op20.cells] at *
 obtain ⟨hr,hd,hng⟩ := hdd
 have hlt := hW0.stays.lt hr
 have hsub := hW0.stays.sub hr
 obtain ⟨W,hW⟩ : ∃ W,(w.alloc (.cells #[.int .u8 kind,.string path,.string other,.int .i64 hn,.int .i64 frm,.int .i64 n,.slice da dn dc] 41)).alloc (.cells zres 48) = W := ⟨_,rfl⟩
 have hs1 : (w.alloc (.cells #[.int .u8 kind,.string path,.string other,.int .i64 hn,.int .i64 frm,.int .i64 n,.slice da dn dc] 41)).heap.size = w.heap.size + 1 := by simp
 have hB : Blk W (w.heap.size + 1) zres 48 := by rw [← hW,← hs1]; exact Blk.new_ _ zres _
 have hO : Blk W w.heap.size #[.int .u8 kind,.string path,.string other,.int .i64 hn,.int .i64 frm,.int .i64 n,.slice da dn dc] 41 := by rw [← hW]; exact (Blk.new_ _ _ _).alloc _
 have hbW : Below w.heap.size w W := by rw [← hW]; exact (bW_).alloc (by rw [hs1]; omega) _
 have hsW : W.heap.size = w.heap.size + 2 := by rw [← hW]; simp
 have hbd : Below w.heap.size w W.drew := hbW.drew
 have HB0 : Hid (Blk W (w.heap.size + 1) zres 48) := hQ_ hB
 have HBD0 : Hid (Blk W.drew (w.heap.size + 1) zres 48) := hQ_ hB
 have HAW := hQ_ ((At.start hr).owns hW0.stays hbW (Q := fun b => b = w.heap.size ∨ b = w.heap.size + 1) (fun b h => by rw [hsW]; omega))
 have HA0 := hQ_ ((At.start hr).owns hW0.stays hbd (Q := fun b => b = w.heap.size ∨ b = w.heap.size + 1) (fun b h => by
  have e : W.drew.heap.size = W.heap.size := rfl
  rw [e,hsW]
  omega))
 have HIN := hQ_ (inode_calls (hd.below hbW) hn)
 have hib := inoD_bd hd.bd hn
 have h3 := cZ3 hO
 have RD : Hid (∀ q0,Chg (fun k => S k ∨ k = w.heap.size + 1) W q0 → Chg (fun k => S k ∨ k = w.heap.size + 1) W q0 ∧ q0.cell? ⟨g,0,none⟩ = some v ∧ q0.cell? ⟨w.heap.size,4,none⟩ = some (.int .i64 frm) ∧ q0.cell? ⟨w.heap.size,5,none⟩ = some (.int .i64 n) ∧ q0.cell? ⟨w.heap.size,6,none⟩ = some (.slice da dn dc)) := hQ_ (fun q0 hq => by
  obtain ⟨c1,c2⟩ := find_cells hd hng hlt hsub hbW hO hq
  exact ⟨hq,c1,c2 4,c2 5,c2 6⟩)
 have HW := hQ_ hW
 have HVS := hQ_ hW0.stays
 have HRW := hQ_ hr
 have HDS := hQ_ hd
 have HNG := hQ_ hng
 have hcc := FileKi.Truncate_calls hW0 hLk hSt hCp (inoD hs hn).1 n (hW0.stays.below hr hbd) hl (by omega) hib.1 hib.2 n0 n1 hk hv
 unfold truD
 obtain ⟨⟨io,ie⟩,hI⟩ : ∃ I,inoD hs hn = I := ⟨_,rfl⟩
 have hie := inoD_er hs hn
 rw [hI] at HIN hcc hie ⊢
 dsimp only at HIN hcc hie ⊢
 rcases hie with rfl | rfl
 ·rw [if_pos rfl]
  obtain ⟨er,her⟩ : ∃ er,(truV s.shown io n).1 = er := ⟨_,rfl⟩
  obtain ⟨ps,hps⟩ : ∃ ps,(truV s.shown io n).2 = ps := ⟨_,rfl⟩
  rw [her,hps] at hcc ⊢
  obtain ⟨J,hJ⟩ : ∃ J : Int,(if (goW s ps).2 = true then er else 21) = J := ⟨_,rfl⟩
  unfold Ans at hcc
  simp only [hJ] at hcc
  have HC := hQ_ hcc
  have HJ := hQ_ hJ
  clear hW hs1 hO hB hbW hsW hbd hlt hsub hd hr hng hl h2 hW0 hI hcc her hps hJ hib hk hv n0 n1 hLk hSt hCp
  go_enter Tryz.func51,Tryz.ntmps51
  go_wp2_with fail
  rw [HW.out]
  go_wp2_with fail
  refine HIN.out.mono ?_
  rintro e w2 ⟨rfl,rfl⟩
  go_wp2_with fail
  refine wp_region_held_drew (S := fun q0 => Chg (fun k => S k ∨ k = w.heap.size + 1) W q0 ∧ q0.cell? ⟨g,0,none⟩ = some v ∧ q0.cell? ⟨w.heap.size,4,none⟩ = some (.int .i64 frm) ∧ q0.cell? ⟨w.heap.size,5,none⟩ = some (.int .i64 n) ∧ q0.cell? ⟨w.heap.size,6,none⟩ = some (.slice da dn dc)) (by kernel_rfl) (RD.out _ (Chg.refl (fun k => S k ∨ k = w.heap.size + 1) W).drew) (fun hHeld => ?_)
  refine hw_ 0 (some 20) ?_
  refine hw_ 1 (some 21) ?_
  refine hw_ 2 (some 22) ?_
  refine hw_ 3 (some 23) ?_
  refine hw_ 4 (some 24) ?_
  refine hw_ 5 (some 25) ?_
  refine hw_ 6 (some 26) ?_
  refine ho_step 7 (some 27) rfl rfl (by kernel_rfl) (by kernel_rfl) (fun K hK => ?_)
  go_simp
  go_at_call 84
  refine HC.out.mono ?_
  rintro e w3 ⟨s',S',D',rfl,hr3,st3,aft3⟩
  have hq3 : Chg (fun k => S k ∨ k = w.heap.size + 1) W w3 := (Chg.refl (fun k => S k ∨ k = w.heap.size + 1) W).drew.trans (st3.chg.mono (fun _ _ h => .inl h))
  have hb3 := At.blk HVS.out HA0.out HBD0.out (.inr (.inr rfl)) st3
  try go_wp2_with fail
  refine hK.out _ _ (RD.out _ hq3) (fun hHeld2 => ?_)
  clear hHeld
  have hHeld := hHeld2
  clear hHeld2
  clear hK K
  try simp only [pZ_]
  refine ho_step 8 (some 28) rfl rfl (by kernel_rfl) (by kernel_rfl) (fun K hK => ?_)
  go_simp
  go_at_call 26
  refine (only_calls J _).mono ?_
  rintro e w4 ⟨rfl,hb4⟩
  have hq4 := hq3.trans (Chg.of_below hb4)
  try go_wp2_with fail
  refine hK.out _ _ (RD.out _ hq4) (fun hHeld2 => ?_)
  clear hHeld
  have hHeld := hHeld2
  clear hHeld2
  clear hK K
  try simp only [pZ_]
  refine Hor.ho_row 9 48 _ _ (w.heap.size + 1) #[.int .i64 J,.int .i64 0,.slice none 0 0,.slice none 0 0,.int .u8 0,.int .u32 0,.int .u32 0,.int .u32 0] 48 _ rfl rfl rfl (by kernel_rfl) (by kernel_rfl) rfl rfl (hb3.below hb4) info_res rfl (by simp [Value.oneCell']) (fun w5 hk5 hg5 => RD.out _ (hq4.trans (Chg.of_grown hg5 (fun k hk => .inl (.inr (by injection hk with hk; exact hk.symm)))))) (fun w5 hk5 hg5 => ?_)
  refine wpAnyH_done (by kernel_rfl) ?_ _
  have HA4 := hQ_ (At.below HVS.out (At.step HVS.out HA0.out hr3 st3) hb4)
  have A8 := At.stored HVS.out HA4.out (hb3.below hb4) (.inr (.inr rfl)) (by decide) hg5
  have HK5 := hQ_ hk5
  have HF5 := hQ_ aft3
  clear hHeld hq3 hq4 hr3 st3 hb3 hb4 hk5 aft3 hg5 RD
  go_wp2_with fail
  exact bodyPost_ret (v := onlyV J) (results_cell_row rfl _ _ (w.heap.size + 1) 48 _ (0,0) _ rfl HK5.out Tryz.underlying48 rfl info_res) rfl ⟨J,s',S',D',HJ.out.symm,by rw [ite_self],(Dst.step HVS.out ⟨HRW.out,HDS.out,HNG.out⟩ A8.rep A8.st).1,(Dst.step HVS.out ⟨HRW.out,HDS.out,HNG.out⟩ A8.rep A8.st).2,HF5.out⟩
 ·rw [if_neg (by decide)]
  clear hW hs1 hO hB hbW hsW hbd hlt hsub hd hr hng hl h2 hW0 hI hib RD h3 hcc hk hv n0 n1 hLk hSt hCp
  go_enter Tryz.func51,Tryz.ntmps51
  go_wp2_with fail
  rw [HW.out]
  go_wp2_with fail
  refine HIN.out.mono ?_
  rintro e w2 ⟨rfl,rfl⟩
  have HA5 := hQ_ HAW.out
  have HR5 := hQ_ HB0.out
  go_wp2_with fail
  refine (only_calls 16 _).mono ?_
  rintro e w7 ⟨rfl,hb7⟩
  have HR7 := hQ_ (HR5.out.below hb7)
  have HA7 := hQ_ (At.below HVS.out HA5.out hb7)
  clear hb7
  go_wp2_with ((with_reducible refine pick none ?_); refine store_blk rfl 48 _ _ rfl (w.heap.size + 1) #[.int .i64 16,.int .i64 0,.slice none 0 0,.slice none 0 0,.int .u8 0,.int .u32 0,.int .u32 0,.int .u32 0] rfl rfl 48 _ HR7.out info_res rfl (by simp [Value.oneCell']) ?_; intro w8 hk8 hg8)
  have A8 := At.stored HVS.out HA7.out HR7.out (.inr (.inr rfl)) (by decide) hg8
  exact bodyPost_ret (v := onlyV 16) (results_cell_row rfl _ _ (w.heap.size + 1) 48 _ (0,0) _ rfl hk8 Tryz.underlying48 rfl info_res) rfl ⟨16,s,S,D,by rw [goW_nil]; rfl,rfl,(Dst.step HVS.out ⟨HRW.out,HDS.out,HNG.out⟩ A8.rep A8.st).1,(Dst.step HVS.out ⟨HRW.out,HDS.out,HNG.out⟩ A8.rep A8.st).2,⟨by rw [goW_nil]; exact Sm.refl _,by omega,by omega⟩⟩
theorem close_deed (hW0 : Wk Rep) {w : World} {g : Nat} {v : Value} {hs : List Int} {s : Vs} {S D : Nat → Prop} (o : Op20) (ino : Int) (hdd : Dst Rep w g v hs s S D) (hl : Lim s) (h2 : s.rd.length ≤ 18000) :
 Calls Tryz.prog 48 #[.pointer (some ⟨g,0,none⟩),o.val,.int .u32 ino] w (ClsD Rep g v s (clsD hs o.hn) S D w) := by
 obtain ⟨kind,path,other,hn,frm,n,da,dn,dc⟩ := o
 dsimp only [Op20.val,Op20.cells] at *
 obtain ⟨hr,hd,hng⟩ := hdd
 have hlt := hW0.stays.lt hr
 have hsub := hW0.stays.sub hr
 obtain ⟨W,hW⟩ : ∃ W,(w.alloc (.cells #[.int .u8 kind,.string path,.string other,.int .i64 hn,.int .i64 frm,.int .i64 n,.slice da dn dc] 41)).alloc (.cells zres 48) = W := ⟨_,rfl⟩
 have hs1 : (w.alloc (.cells #[.int .u8 kind,.string path,.string other,.int .i64 hn,.int .i64 frm,.int .i64 n,.slice da dn dc] 41)).heap.size = w.heap.size + 1 := by simp
 have hB : Blk W (w.heap.size + 1) zres 48 := by rw [← hW,← hs1]; exact Blk.new_ _ zres _
 have hO : Blk W w.heap.size #[.int .u8 kind,.string path,.string other,.int .i64 hn,.int .i64 frm,.int .i64 n,.slice da dn dc] 41 := by rw [← hW]; exact (Blk.new_ _ _ _).alloc _
 have hbW : Below w.heap.size w W := by rw [← hW]; exact (bW_).alloc (by rw [hs1]; omega) _
 have hsW : W.heap.size = w.heap.size + 2 := by rw [← hW]; simp
 have hbd : Below w.heap.size w W.drew := hbW.drew
 have HB0 : Hid (Blk W (w.heap.size + 1) zres 48) := hQ_ hB
 have HBD0 : Hid (Blk W.drew (w.heap.size + 1) zres 48) := hQ_ hB
 have HAW := hQ_ ((At.start hr).owns hW0.stays hbW (Q := fun b => b = w.heap.size ∨ b = w.heap.size + 1) (fun b h => by rw [hsW]; omega))
 have HA0 := hQ_ ((At.start hr).owns hW0.stays hbd (Q := fun b => b = w.heap.size ∨ b = w.heap.size + 1) (fun b h => by
  have e : W.drew.heap.size = W.heap.size := rfl
  rw [e,hsW]
  omega))
 have HIN := hQ_ (inode_calls (hd.below hbW) hn)
 have hib := inoD_bd hd.bd hn
 have h3 := cZ3 hO
 have RD : Hid (∀ q0,Chg (fun k => S k ∨ k = w.heap.size + 1) W q0 → Chg (fun k => S k ∨ k = w.heap.size + 1) W q0 ∧ q0.cell? ⟨g,0,none⟩ = some v ∧ q0.cell? ⟨w.heap.size,4,none⟩ = some (.int .i64 frm) ∧ q0.cell? ⟨w.heap.size,5,none⟩ = some (.int .i64 n) ∧ q0.cell? ⟨w.heap.size,6,none⟩ = some (.slice da dn dc)) := hQ_ (fun q0 hq => by
  obtain ⟨c1,c2⟩ := find_cells hd hng hlt hsub hbW hO hq
  exact ⟨hq,c1,c2 4,c2 5,c2 6⟩)
 have HOW := hQ_ hO
 have HW := hQ_ hW
 have HVS := hQ_ hW0.stays
 have HRW := hQ_ hr
 have HDS := hQ_ hd
 have HNG := hQ_ hng
 have HNS : Hid (¬ S g) := hQ_ (fun e => hng (hsub g e))
 have hj0 := fun h => inoD_hn (hs := hs) (hn := hn) h
 unfold clsD
 obtain ⟨⟨io,ie⟩,hI⟩ : ∃ I,inoD hs hn = I := ⟨_,rfl⟩
 have hie := inoD_er hs hn
 rw [hI] at HIN hie hj0 ⊢
 dsimp only at HIN hie hj0 ⊢
 rcases hie with rfl | rfl
 ·rw [if_pos rfl]
  obtain ⟨j,rfl,hj⟩ := hj0 rfl
  have hji : (j : Int) < 16 := by omega
  rw [show ((j : Nat) : Int).toNat = j from Int.toNat_natCast j]
  clear hW hs1 hO hB hbW hsW hbd hlt hsub hd hr hng hl h2 hW0 hI hib hj0 RD
  go_enter Tryz.func48,Tryz.ntmps48
  go_wp2_with fail
  rw [HW.out]
  go_wp2_with fail
  refine HIN.out.mono ?_
  rintro e w2 ⟨rfl,rfl⟩
  have HD5 := hQ_ (Dsk.chg HDS.out HA0.out.st.chg HNS.out)
  have HNE : Hid (w.heap.size ≠ g) := hQ_ (by have := HDS.out.blk.lt; omega)
  have HST := hQ_ (Dst.hand (x := 0) HVS.out (Dst.step HVS.out ⟨HRW.out,HDS.out,HNG.out⟩ HA0.out.rep HA0.out.st).1 (by omega : j < 16) (by decide) (by decide))
  have HR6 : Hid (Blk (W.drew.setCell ⟨g,1 + j,none⟩ (.int .u32 0)) (w.heap.size + 1) zres 48) := hQ_ (HBD0.out.far (p := ⟨g,1 + j,none⟩) (by have := HDS.out.blk.lt; show w.heap.size + 1 ≠ g; omega) _)
  go_wp2_with fail
  refine wp_region_held_drew (S := fun q0 => q0.cell? ⟨w.heap.size,3,none⟩ = some (.int .i64 (j : Int))) (by kernel_rfl) (h3) (fun hHeld => ?_)
  refine hw_ 0 (some 20) ?_
  refine hw_ 1 (some 21) ?_
  refine hw_ 2 (some 22) ?_
  refine hw_ 3 (some 23) ?_
  refine hw_ 4 (some 24) ?_
  refine hw_ 5 (some 25) ?_
  refine ho_step 6 none rfl rfl (by kernel_rfl) (by kernel_rfl) (fun K hK => ?_)
  have fh : W.drew.frozen? ⟨g,1 + j,none⟩ = false := HD5.out.blk.frozen _
  have ch : W.drew.cell? ⟨g,1 + j,none⟩ = some (.int .u32 (hs.getD j 0)) := HD5.out.hand (by omega)
  go_simp
  refine hK.out undef _ ((Blk.far (W := W.drew) (p := ⟨g,1 + j,none⟩) HOW.out HNE.out _).cell 3) (fun hHeld2 => ?_)
  clear hHeld
  have hHeld := hHeld2
  clear hHeld2
  clear hK K
  try simp only [pZ_]
  refine wpAnyH_done (by kernel_rfl) ?_ _
  go_wp2_with ((with_reducible refine pick none ?_); refine store_blk rfl 48 _ _ rfl (w.heap.size + 1) #[.int .i64 0,.int .i64 0,.slice none 0 0,.slice none 0 0,.int .u8 0,.int .u32 0,.int .u32 0,.int .u32 0] rfl rfl 48 _ HR6.out info_res rfl (by simp [Value.oneCell']) ?_; intro w8 hk8 hg8)
  have hmn := HA0.out.mine (w.heap.size + 1) (.inr (.inr rfl))
  have hZ := Dst.stored (w0 := w) HVS.out HST.out.1 HR6.out hg8 hmn.2.2 (by have := HDS.out.blk.lt; omega) (Nat.le_succ _) ((Dst.step HVS.out ⟨HRW.out,HDS.out,HNG.out⟩ HA0.out.rep HA0.out.st).2.trans HST.out.2)
  exact bodyPost_ret (v := onlyV 0) (results_cell_row rfl _ _ (w.heap.size + 1) 48 _ (0,0) _ rfl hk8 Tryz.underlying48 rfl info_res) rfl ⟨S,D,rfl,hZ.1,hZ.2⟩
 ·rw [if_neg (by decide)]
  clear hW hs1 hO hB hbW hsW hbd hlt hsub hd hr hng hl h2 hW0 hI hib RD h3 hj0
  go_enter Tryz.func48,Tryz.ntmps48
  go_wp2_with fail
  rw [HW.out]
  go_wp2_with fail
  refine HIN.out.mono ?_
  rintro e w2 ⟨rfl,rfl⟩
  have HA5 := hQ_ HAW.out
  have HR5 := hQ_ HB0.out
  go_wp2_with fail
  refine (only_calls 16 _).mono ?_
  rintro e w7 ⟨rfl,hb7⟩
  have HR7 := hQ_ (HR5.out.below hb7)
  have HA7 := hQ_ (At.below HVS.out HA5.out hb7)
  clear hb7
  go_wp2_with ((with_reducible refine pick none ?_); refine store_blk rfl 48 _ _ rfl (w.heap.size + 1) #[.int .i64 16,.int .i64 0,.slice none 0 0,.slice none 0 0,.int .u8 0,.int .u32 0,.int .u32 0,.int .u32 0] rfl rfl 48 _ HR7.out info_res rfl (by simp [Value.oneCell']) ?_; intro w8 hk8 hg8)
  have A8 := At.stored HVS.out HA7.out HR7.out (.inr (.inr rfl)) (by decide) hg8
  exact bodyPost_ret (v := onlyV 16) (results_cell_row rfl _ _ (w.heap.size + 1) 48 _ (0,0) _ rfl hk8 Tryz.underlying48 rfl info_res) rfl ⟨S,D,rfl,(Dst.step HVS.out ⟨HRW.out,HDS.out,HNG.out⟩ A8.rep A8.st).1,(Dst.step HVS.out ⟨HRW.out,HDS.out,HNG.out⟩ A8.rep A8.st).2⟩
theorem refuse_deed (hW0 : Wk Rep) {w : World} {g : Nat} {v : Value} {hs : List Int} {s : Vs} {S D : Nat → Prop} (o : Op20) (ino : Int) (hdd : Dst Rep w g v hs s S D) (hl : Lim s) (h2 : s.rd.length ≤ 18000) (hn0 : True) :
 Calls Tryz.prog 58 #[.pointer (some ⟨g,0,none⟩),o.val,.int .u32 ino] w (AnsN Rep g v hs s 28 0 [] 1 0 S D w) := by
 obtain ⟨kind,path,other,hn,frm,n,da,dn,dc⟩ := o
 dsimp only [Op20.val,Op20.cells] at *
 obtain ⟨hr,hd,hng⟩ := hdd
 have hlt := hW0.stays.lt hr
 have hsub := hW0.stays.sub hr
 obtain ⟨W,hW⟩ : ∃ W,(w.alloc (.cells #[.int .u8 kind,.string path,.string other,.int .i64 hn,.int .i64 frm,.int .i64 n,.slice da dn dc] 41)).alloc (.cells zres 48) = W := ⟨_,rfl⟩
 have hs1 : (w.alloc (.cells #[.int .u8 kind,.string path,.string other,.int .i64 hn,.int .i64 frm,.int .i64 n,.slice da dn dc] 41)).heap.size = w.heap.size + 1 := by simp
 have hB : Blk W (w.heap.size + 1) zres 48 := by rw [← hW,← hs1]; exact Blk.new_ _ zres _
 have hO : Blk W w.heap.size #[.int .u8 kind,.string path,.string other,.int .i64 hn,.int .i64 frm,.int .i64 n,.slice da dn dc] 41 := by rw [← hW]; exact (Blk.new_ _ _ _).alloc _
 have hbW : Below w.heap.size w W := by rw [← hW]; exact (bW_).alloc (by rw [hs1]; omega) _
 have hsW : W.heap.size = w.heap.size + 2 := by rw [← hW]; simp
 have hbd : Below w.heap.size w W.drew := hbW.drew
 have HB0 : Hid (Blk W (w.heap.size + 1) zres 48) := hQ_ hB
 have HAW := hQ_ ((At.start hr).owns hW0.stays hbW (Q := fun b => b = w.heap.size ∨ b = w.heap.size + 1) (fun b h => by rw [hsW]; omega))
 have HA0 := hQ_ ((At.start hr).owns hW0.stays hbd (Q := fun b => b = w.heap.size ∨ b = w.heap.size + 1) (fun b h => by
  have e : W.drew.heap.size = W.heap.size := rfl
  rw [e,hsW]
  omega))
 have hib := inoD_bd hd.bd hn
 have h3 := cZ3 hO
 have RD : Hid (∀ q0,Chg (fun k => S k ∨ k = w.heap.size + 1) W q0 → Chg (fun k => S k ∨ k = w.heap.size + 1) W q0 ∧ q0.cell? ⟨g,0,none⟩ = some v ∧ q0.cell? ⟨w.heap.size,4,none⟩ = some (.int .i64 frm) ∧ q0.cell? ⟨w.heap.size,5,none⟩ = some (.int .i64 n) ∧ q0.cell? ⟨w.heap.size,6,none⟩ = some (.slice da dn dc)) := hQ_ (fun q0 hq => by
  obtain ⟨c1,c2⟩ := find_cells hd hng hlt hsub hbW hO hq
  exact ⟨hq,c1,c2 4,c2 5,c2 6⟩)
 have HW := hQ_ hW
 have HVS := hQ_ hW0.stays
 have HRW := hQ_ hr
 have HDS := hQ_ hd
 have HNG := hQ_ hng
 have HA5 := hQ_ HAW.out
 have HR5 := hQ_ HB0.out
 clear hW hs1 hO hB hbW hsW hbd hlt hsub hd hr hng hl h2 hW0 hib RD h3
 go_enter Tryz.func58,Tryz.ntmps58
 go_wp2_with fail
 rw [HW.out]
 go_wp2_with fail
 refine (only_calls 28 _).mono ?_
 rintro e w7 ⟨rfl,hb7⟩
 have HR7 := hQ_ (HR5.out.below hb7)
 have HA7 := hQ_ (At.below HVS.out HA5.out hb7)
 clear hb7
 go_wp2_with ((with_reducible refine pick none ?_); refine store_blk rfl 48 _ _ rfl (w.heap.size + 1) #[.int .i64 28,.int .i64 0,.slice none 0 0,.slice none 0 0,.int .u8 0,.int .u32 0,.int .u32 0,.int .u32 0] rfl rfl 48 _ HR7.out info_res rfl (by simp [Value.oneCell']) ?_; intro w8 hk8 hg8)
 have A8 := At.stored HVS.out HA7.out HR7.out (.inr (.inr rfl)) (by decide) hg8
 exact bodyPost_ret (v := onlyV 28) (results_cell_row rfl _ _ (w.heap.size + 1) 48 _ (0,0) _ rfl hk8 Tryz.underlying48 rfl info_res) rfl ⟨28,s,S,D,by rw [goW_nil]; rfl,rfl,(Dst.step HVS.out ⟨HRW.out,HDS.out,HNG.out⟩ A8.rep A8.st).1,(Dst.step HVS.out ⟨HRW.out,HDS.out,HNG.out⟩ A8.rep A8.st).2,⟨by rw [goW_nil]; exact Sm.refl _,by omega,by omega⟩⟩
end Go.Proofs.YtogdjbhjgbnicaaGreatDoor.OpsV
namespace Go.Proofs.YtogdjbhjgbnicaaGreatDoor.OpsQ
open Go.RowKit
open Byte KeysM TreeM ViewM NodeM WalkM WalkF WalkKm DirsV Lst Chg TreeL ViewL WalkL Vat Ho DirsK DirsKa DirsKc OpsR OpsD OpsE OpsI OpsJ OpsK OpsS OpsO OpsV DirsBl
open Own hiding lower
variable {Rep : RepT}
def StaD (Rep : RepT) (g : Nat) (v : Value) (hs : List Int) (s : Vs) (path : ByteArray) (r : Int × Ino × Int) (S D : Nat → Prop) (w : World) (e : Ending) (w' : World) : Prop := ∃ s' S' D',e = .returned (resV r.2.2 0 (.slice none 0 0) (.slice none 0 0) r.2.1.k r.2.1.l r.2.1.s 0) ∧ Dst Rep w' g v hs s' S' D' ∧ Dstp S D S' D' g w w' ∧ FindR s path s'
theorem readdir_deed (hW0 : Wk Rep) (hLs : ListN Rep) {w : World} {g : Nat} {v : Value} {hs : List Int} {s : Vs} {S D : Nat → Prop} (o : Op20) (ino : Int) (hdd : Dst Rep w g v hs s S D) (hl : Lim s) (h2 : s.rd.length ≤ 18000) (h4 : s.rg.length ≤ 900) (hx : Mxs w S) (hp : o.path.size ≤ 100000) (hk : ∀ p ∈ s.shown,(sp p.key).letter ≠ 0) :
 Calls Tryz.prog 56 #[.pointer (some ⟨g,0,none⟩),o.val,.int .u32 ino] w (LstD Rep g v hs s (lstV s.shown o.path) S D w) := by
 obtain ⟨kind,path,other,hn,frm,n,da,dn,dc⟩ := o
 dsimp only [Op20.val,Op20.cells] at *
 obtain ⟨hr,hd,hng⟩ := hdd
 have hlt := hW0.stays.lt hr
 have hsub := hW0.stays.sub hr
 obtain ⟨W,hW⟩ : ∃ W,(w.alloc (.cells #[.int .u8 kind,.string path,.string other,.int .i64 hn,.int .i64 frm,.int .i64 n,.slice da dn dc] 41)).alloc (.cells zres 48) = W := ⟨_,rfl⟩
 have hs1 : (w.alloc (.cells #[.int .u8 kind,.string path,.string other,.int .i64 hn,.int .i64 frm,.int .i64 n,.slice da dn dc] 41)).heap.size = w.heap.size + 1 := by simp
 have hB : Blk W (w.heap.size + 1) zres 48 := by rw [← hW,← hs1]; exact Blk.new_ _ zres _
 have hO : Blk W w.heap.size #[.int .u8 kind,.string path,.string other,.int .i64 hn,.int .i64 frm,.int .i64 n,.slice da dn dc] 41 := by rw [← hW]; exact (Blk.new_ _ _ _).alloc _
 have hbW : Below w.heap.size w W := by rw [← hW]; exact (bW_).alloc (by rw [hs1]; omega) _
 have hsW : W.heap.size = w.heap.size + 2 := by rw [← hW]; simp
 have hbd : Below w.heap.size w W.drew := hbW.drew
 have HBD0 : Hid (Blk W.drew (w.heap.size + 1) zres 48) := hQ_ hB
 have HA0 := hQ_ ((At.start hr).owns hW0.stays hbd (Q := fun b => b = w.heap.size ∨ b = w.heap.size + 1) (fun b h => by
  have e : W.drew.heap.size = W.heap.size := rfl
  rw [e,hsW]
  omega))
 have hib := inoD_bd hd.bd hn
 have h3 := cZ3 hO
 have RD : Hid (∀ q0,Chg (fun k => S k ∨ k = w.heap.size + 1) W q0 → Chg (fun k => S k ∨ k = w.heap.size + 1) W q0 ∧ q0.cell? ⟨g,0,none⟩ = some v ∧ q0.cell? ⟨w.heap.size,1,none⟩ = some (.string path) ∧ q0.cell? ⟨w.heap.size,2,none⟩ = some (.string other)) := hQ_ (fun q0 hq => by
  obtain ⟨c1,c2⟩ := find_cells hd hng hlt hsub hbW hO hq
  exact ⟨hq,c1,c2 1,c2 2⟩)
 have HW := hQ_ hW
 have HVS := hQ_ hW0.stays
 have HRW := hQ_ hr
 have HDS := hQ_ hd
 have HNG := hQ_ hng
 have hcc := DirsBl.lst_calls hW0 hLs path (hW0.stays.below hr hbd) hl h2 h4 (hx.below hbd) hp hk
 obtain ⟨⟨l,er⟩,hR⟩ : ∃ R,lstV s.shown path = R := ⟨_,rfl⟩
 rw [hR] at hcc ⊢
 unfold ListB at hcc
 have HC := hQ_ hcc
 clear hW hs1 hO hB hbW hsW hbd hlt hsub hd hr hng hl h2 h4 hx hp hk hW0 hLs hcc hR hib h3
 go_enter Tryz.func56,Tryz.ntmps56
 go_wp2_with fail
 rw [HW.out]
 go_wp2_with fail
 refine wp_region_held_drew (S := fun q0 => Chg (fun k => S k ∨ k = w.heap.size + 1) W q0 ∧ q0.cell? ⟨g,0,none⟩ = some v ∧ q0.cell? ⟨w.heap.size,1,none⟩ = some (.string path) ∧ q0.cell? ⟨w.heap.size,2,none⟩ = some (.string other)) (by kernel_rfl) (RD.out _ (Chg.refl (fun k => S k ∨ k = w.heap.size + 1) W).drew) (fun hHeld => ?_)
 refine hw_ 0 (some 10) ?_
 refine hw_ 1 (some 11) ?_
 refine hw_ 2 (some 12) ?_
 refine hw_ 3 (some 13) ?_
 refine hw_ 4 (some 14) ?_
 refine hw_ 5 (some 15) ?_
 refine ho_step 6 (some 16) rfl rfl (by kernel_rfl) (by kernel_rfl) (fun K hK => ?_)
 go_simp
 go_at_call 89
 refine HC.out.mono ?_
 rintro e w3 ⟨ua,m3,uc,s',S',D',rfl,ho3,hno3,hr3,st3,aft3⟩
 have hq3 : Chg (fun k => S k ∨ k = w.heap.size + 1) W w3 := (Chg.refl (fun k => S k ∨ k = w.heap.size + 1) W).drew.trans (st3.chg.mono (fun _ _ h => .inl h))
 try go_wp2_with fail
 refine hK.out _ _ (RD.out _ hq3) (fun hHeld2 => ?_)
 clear hHeld
 have hHeld := hHeld2
 clear hHeld2
 clear hK K
 try simp only [pZ_]
 refine hw_ 7 (some 9) ?_
 refine hw_ 8 (some 17) ?_
 refine hw_ 9 (some 18) ?_
 refine hw_ 10 (some 7) ?_
 refine hw_ 11 (some 8) ?_
 refine wpAnyH_done (by kernel_rfl) ?_ _
 have HA5 := hQ_ (At.step HVS.out HA0.out hr3 st3)
 have HR5 := hQ_ (At.blk HVS.out HA0.out HBD0.out (.inr (.inr rfl)) st3)
 have HO3 := hQ_ ho3
 have HF5 := hQ_ aft3
 have HNO := hQ_ hno3
 have HWS := hQ_ (show w.heap.size + 1 < W.drew.heap.size from HBD0.out.lt)
 clear hHeld hq3 hr3 st3 ho3 aft3 hno3
 go_wp2_with ((with_reducible refine pick none ?_); refine store_blk rfl 48 _ _ rfl (w.heap.size + 1) #[.int .i64 er,.int .i64 0,.slice none 0 0,.slice ua m3 uc,.int .u8 0,.int .u32 0,.int .u32 0,.int .u32 0] rfl rfl 48 _ HR5.out info_res rfl (by simp [Value.oneCell']) ?_; intro w8 hk8 hg8)
 have A8 := At.stored HVS.out HA5.out HR5.out (.inr (.inr rfl)) (by decide) hg8
 have ho8 := So.grown HO3.out hg8 (by
  cases hb : (Value.slice ua m3 uc).ownBlock with
  | none => exact .inl rfl
  | some q =>
    refine .inr (fun e => ?_)
    have := (HO3.out.lt hb).1
    have := HWS.out
    injection e with e
    omega)
 exact bodyPost_ret (v := resV er 0 (.slice none 0 0) (.slice ua m3 uc) 0 0 0 0) (results_cell_row rfl _ _ (w.heap.size + 1) 48 _ (0,0) _ rfl hk8 Tryz.underlying48 rfl info_res) rfl ⟨ua,m3,uc,s',S',D',rfl,So.lower ho8 (Nat.le_trans (Nat.le_succ _) (Nat.le_of_lt HWS.out)),(Dst.step HVS.out ⟨HRW.out,HDS.out,HNG.out⟩ A8.rep A8.st).1,(Dst.step HVS.out ⟨HRW.out,HDS.out,HNG.out⟩ A8.rep A8.st).2,HNO.out,HF5.out⟩
theorem stat_deed (hW0 : Wk Rep) {w : World} {g : Nat} {v : Value} {hs : List Int} {s : Vs} {S D : Nat → Prop} (o : Op20) (ino : Int) (hdd : Dst Rep w g v hs s S D) (hl : Lim s) (h2 : s.rd.length ≤ 18000) (h4 : s.rg.length ≤ 900) (hx : Mxs w S) (hp : o.path.size ≤ 100000) :
 Calls Tryz.prog 57 #[.pointer (some ⟨g,0,none⟩),o.val,.int .u32 ino] w (StaD Rep g v hs s o.path (leadM s.shown o.path) S D w) := by
 obtain ⟨kind,path,other,hn,frm,n,da,dn,dc⟩ := o
 dsimp only [Op20.val,Op20.cells] at *
 obtain ⟨hr,hd,hng⟩ := hdd
 have hlt := hW0.stays.lt hr
 have hsub := hW0.stays.sub hr
 obtain ⟨W,hW⟩ : ∃ W,(w.alloc (.cells #[.int .u8 kind,.string path,.string other,.int .i64 hn,.int .i64 frm,.int .i64 n,.slice da dn dc] 41)).alloc (.cells zres 48) = W := ⟨_,rfl⟩
 have hs1 : (w.alloc (.cells #[.int .u8 kind,.string path,.string other,.int .i64 hn,.int .i64 frm,.int .i64 n,.slice da dn dc] 41)).heap.size = w.heap.size + 1 := by simp
 have hB : Blk W (w.heap.size + 1) zres 48 := by rw [← hW,← hs1]; exact Blk.new_ _ zres _
 have hO : Blk W w.heap.size #[.int .u8 kind,.string path,.string other,.int .i64 hn,.int .i64 frm,.int .i64 n,.slice da dn dc] 41 := by rw [← hW]; exact (Blk.new_ _ _ _).alloc _
 have hbW : Below w.heap.size w W := by rw [← hW]; exact (bW_).alloc (by rw [hs1]; omega) _
 have hsW : W.heap.size = w.heap.size + 2 := by rw [← hW]; simp
 have hbd : Below w.heap.size w W.drew := hbW.drew
 have HBD0 : Hid (Blk W.drew (w.heap.size + 1) zres 48) := hQ_ hB
 have HA0 := hQ_ ((At.start hr).owns hW0.stays hbd (Q := fun b => b = w.heap.size ∨ b = w.heap.size + 1) (fun b h => by
  have e : W.drew.heap.size = W.heap.size := rfl
  rw [e,hsW]
  omega))
 have hib := inoD_bd hd.bd hn
 have h3 := cZ3 hO
 have RD : Hid (∀ q0,Chg (fun k => S k ∨ k = w.heap.size + 1) W q0 → Chg (fun k => S k ∨ k = w.heap.size + 1) W q0 ∧ q0.cell? ⟨g,0,none⟩ = some v ∧ q0.cell? ⟨w.heap.size,1,none⟩ = some (.string path) ∧ q0.cell? ⟨w.heap.size,2,none⟩ = some (.string other)) := hQ_ (fun q0 hq => by
  obtain ⟨c1,c2⟩ := find_cells hd hng hlt hsub hbW hO hq
  exact ⟨hq,c1,c2 1,c2 2⟩)
 have HW := hQ_ hW
 have HVS := hQ_ hW0.stays
 have HRW := hQ_ hr
 have HDS := hQ_ hd
 have HNG := hQ_ hng
 have HBD := hQ_ hbd
 have HSW := hQ_ hsW
 obtain ⟨⟨li,⟨lk,ll,lz,lp⟩,er⟩,hL⟩ : ∃ R,leadM s.shown path = R := ⟨_,rfl⟩
 have HC := hQ_ (fun (u : World) (hb : Below w.heap.size w u) => lead_calls hW0 path (hW0.stays.below hr hb) hl (by omega) hp (hx.below hb))
 unfold LeadR at HC
 rw [hL] at HC ⊢
 dsimp only at HC ⊢
 clear hW hs1 hO hB hbW hsW hbd hlt hsub hd hr hng hl h2 h4 hx hW0 hp hL hib h3
 go_enter Tryz.func57,Tryz.ntmps57
 go_wp2_with fail
 rw [HW.out]
 go_wp2_with fail
 refine wp_region_held_drew (S := fun q0 => Chg (fun k => S k ∨ k = w.heap.size + 1) W q0 ∧ q0.cell? ⟨g,0,none⟩ = some v ∧ q0.cell? ⟨w.heap.size,1,none⟩ = some (.string path) ∧ q0.cell? ⟨w.heap.size,2,none⟩ = some (.string other)) (by kernel_rfl) (RD.out _ (Chg.refl _ _).drew) (fun hHeld => ?_)
 refine hw_ 0 (some 11) ?_
 refine hw_ 1 (some 12) ?_
 refine hw_ 2 (some 13) ?_
 refine hw_ 3 (some 14) ?_
 refine hw_ 4 (some 15) ?_
 refine hw_ 5 (some 16) ?_
 refine ho_fork 6 11 (some 17) (some 8) rfl rfl rfl rfl (by kernel_rfl) (by kernel_rfl) (by kernel_rfl) (fun K hK => ?_) (fun K hK => ?_)
 go_simp
 go_at_call 79
 refine (HC.out _ HBD.out).mono ?_
 rintro e w3 ⟨s',S',D',rfl,hr3,st3,hf3⟩
 have A3 := At.step HVS.out HA0.out hr3 st3
 have hq3 : Chg (fun k => S k ∨ k = w.heap.size + 1) W w3 := (Chg.refl (fun k => S k ∨ k = w.heap.size + 1) W).drew.trans (st3.chg.mono (fun _ _ h => .inl h))
 try go_wp2_with fail
 refine hK.out _ _ (RD.out _ hq3) (fun hHeld2 => ?_)
 clear hHeld
 have hHeld := hHeld2
 clear hHeld2
 clear hK K
 try simp only [pZ_]
 have hR3 := At.blk HVS.out HA0.out HBD0.out (.inr (.inr rfl)) st3
 refine hw_ 7 (some 10) ?_
 refine hw_ 8 (some 18) ?_
 refine hw_ 9 (some 19) ?_
 refine hw_ 10 (some 20) ?_
 refine ho_step 11 (some 8) rfl rfl (by kernel_rfl) (by kernel_rfl) (fun K hK => ?_)
 go_simp
 refine hK.out _ _ (RD.out _ (hq3.alloc _)) (fun hHeld2 => ?_)
 clear hHeld
 have hHeld := hHeld2
 clear hHeld2
 clear hK K
 try simp only [pZ_]
 have hbn := bN_ w3 (.cells #[.int .u8 0,.int .u32 0,.int .u32 0,.int .u32 0] 46)
 have hib0 : W.heap.size ≤ w3.heap.size := hq3.size
 have A4 := At.own HVS.out A3 hbn (r := w3.heap.size) (Nat.le_refl _) (by simp)
 have hI4 := Blk.new_ w3 #[.int .u8 0,.int .u32 0,.int .u32 0,.int .u32 0] 46
 have hR4 := hR3.below hbn
 have hq4 := hq3.alloc (.cells #[.int .u8 0,.int .u32 0,.int .u32 0,.int .u32 0] 46)
 obtain ⟨w4,hw4⟩ : ∃ w4,w3.alloc (.cells #[.int .u8 0,.int .u32 0,.int .u32 0,.int .u32 0] 46) = w4 := ⟨_,rfl⟩
 obtain ⟨ib,hib⟩ : ∃ ib,w3.heap.size = ib := ⟨_,rfl⟩
 rw [hw4] at hHeld A4 hI4 hR4 hq4 ⊢
 rw [hib] at hib0 A4 hI4 ⊢
 have hrb : w.heap.size + 1 ≠ ib := by have := HSW.out; omega
 clear hR3 hw4 hib hbn hq3 A3 hr3
 rotate_left
 go_simp
 refine hK.out _ _ (RD.out _ ((Chg.refl (fun k => S k ∨ k = w.heap.size + 1) W).drew.alloc _)) (fun hHeld2 => ?_)
 clear hHeld
 have hHeld := hHeld2
 clear hHeld2
 clear hK K
 try simp only [pZ_]
 have hbn := bN_ W.drew (.cells #[.int .u8 0,.int .u32 0,.int .u32 0,.int .u32 0] 46)
 have hib0 : W.heap.size ≤ W.heap.size := Nat.le_refl _
 have A2 := At.own HVS.out HA0.out hbn (r := W.heap.size) (Nat.le_refl _) (by simp)
 have hI2 : Blk (W.drew.alloc (.cells #[.int .u8 0,.int .u32 0,.int .u32 0,.int .u32 0] 46)) W.heap.size #[.int .u8 0,.int .u32 0,.int .u32 0,.int .u32 0] 46 := Blk.new_ W.drew #[.int .u8 0,.int .u32 0,.int .u32 0,.int .u32 0] 46
 have hR2 := HBD0.out.below hbn
 have hq2 := (Chg.refl (fun k => S k ∨ k = w.heap.size + 1) W).drew.alloc (.cells #[.int .u8 0,.int .u32 0,.int .u32 0,.int .u32 0] 46)
 have hb2 := Own.keeps HBD.out hbn
 refine ho_step 6 (some 17) rfl rfl (by kernel_rfl) (by kernel_rfl) (fun K hK => ?_)
 go_simp
 go_at_call 79
 refine (HC.out _ hb2).mono ?_
 rintro e w3 ⟨s',S',D',rfl,hr3,st3,hf3⟩
 have A3 := At.step HVS.out A2 hr3 st3
 have hq3 : Chg (fun k => S k ∨ k = w.heap.size + 1) W w3 := hq2.trans (st3.chg.mono (fun _ _ h => .inl h))
 try go_wp2_with fail
 refine hK.out _ _ (RD.out _ hq3) (fun hHeld2 => ?_)
 clear hHeld
 have hHeld := hHeld2
 clear hHeld2
 clear hK K
 try simp only [pZ_]
 refine hw_ 7 (some 10) ?_
 refine hw_ 8 (some 18) ?_
 refine hw_ 9 (some 19) ?_
 refine hw_ 10 (some 20) ?_
 have hI4 := At.blk HVS.out A2 hI2 (.inr rfl) st3
 have hR4 := At.blk HVS.out A2 hR2 (.inl (.inr (.inr rfl))) st3
 have hq4 := hq3
 have A4 := A3
 obtain ⟨w4,hw4⟩ : ∃ w4,w4 = w3 := ⟨_,rfl⟩
 subst hw4
 obtain ⟨ib,hib⟩ : ∃ ib,W.heap.size = ib := ⟨_,rfl⟩
 have hib1 : W.heap.size ≤ ib := by omega
 rw [hib] at A4 hI4 ⊢
 have hrb : w.heap.size + 1 ≠ ib := by have := HSW.out; omega
 clear hR2 hI2 A2 hib hbn hq3 A3 hr3 hib0 hq2 hb2
 have hib0 := hib1
 clear hib1
 all_goals
  refine hw_ 12 (some 7) ?_
  refine Hor.ho_row 13 46 _ _ ib #[.int .u8 lk,.int .u32 ll,.int .u32 lz,.int .u32 lp] 46 _ rfl rfl rfl (by kernel_rfl) (by kernel_rfl) rfl rfl hI4 info_ino rfl (by simp [Value.oneCell']) (fun w5 hk5 hg5 => RD.out _ (hq4.then_ (Chg.of_grown hg5 (fun k hk => .inl hk)) (fun i hi e => by injection e with e; omega))) (fun w5 hk5 hg5 => ?_)
  clear hHeld
  refine hw_ 14 (some 9) ?_ (hS := RD.out _ (hq4.then_ (Chg.of_grown hg5 (fun k hk => .inl hk)) (fun i hi e => by injection e with e; omega)))
  refine wpAnyH_done (by kernel_rfl) ?_ _
  have A5 := At.stored HVS.out A4 hI4 (.inr rfl) (by decide) hg5
  have hR5 := hR4.grown hg5 hrb
  have HA5 := hQ_ A5
  have HR5 := hQ_ hR5
  have HF5 := hQ_ hf3
  have ki := cC3 hk5
  clear hI4 hR4 hq4 A4 hg5 hk5 hR5 A5 hrb hib0 st3 hf3
  go_wp2_with ((with_reducible refine pick none ?_); refine store_blk rfl 48 _ _ rfl (w.heap.size + 1) #[.int .i64 er,.int .i64 0,.slice none 0 0,.slice none 0 0,.int .u8 lk,.int .u32 ll,.int .u32 lz,.int .u32 0] rfl rfl 48 _ HR5.out info_res rfl (by simp [Value.oneCell']) ?_; intro w8 hk8 hg8)
  have A8 := At.stored HVS.out HA5.out HR5.out (.inl (.inr (.inr rfl))) (by decide) hg8
  exact bodyPost_ret (v := resV er 0 (.slice none 0 0) (.slice none 0 0) lk ll lz 0) (results_cell_row rfl _ _ (w.heap.size + 1) 48 _ (0,0) _ rfl hk8 Tryz.underlying48 rfl info_res) rfl ⟨s',S',D',rfl,(Dst.step HVS.out ⟨HRW.out,HDS.out,HNG.out⟩ A8.rep A8.st).1,(Dst.step HVS.out ⟨HRW.out,HDS.out,HNG.out⟩ A8.rep A8.st).2,HF5.out⟩
end Go.Proofs.YtogdjbhjgbnicaaGreatDoor.OpsQ
namespace Go.Proofs.YtogdjbhjgbnicaaGreatDoor.OpsTa
open Go.RowKit
open Byte KeysM TreeM ViewM NodeM WalkM WalkF WalkKm DirsV Lst Chg TreeL ViewL WalkL WalkV Vat DirsK DirsKa DirsKc FileV FileKd FileKe FileKf OpsR OpsD OpsE OpsI OpsJ OpsK OpsS OpsO OpsW OpsT OpsU OpsV OpsQ RgN DirsBl DirsBm
open Own hiding lower
variable {Rep : RepT}
structure Out where
 er : Int
 n : Int
 ys : List Int
 names : List ByteArray
 k : Int
 l : Int
 z : Int
 hs : List Int
 ps : List Wrt
abbrev Out.err (hs : List Int) (x : Int × List Wrt) : Out := ⟨x.1,0,[],[],0,0,0,hs,x.2⟩
def outO (L : List Pr) (hs : List Int) (o : Op20) (xs : List Int) (ino : Int) : Out :=
 if o.kind = 4 then .err hs (makV L o.path 1 ino) else if o.kind = 5 then .err hs (makV L o.path 2 ino)
 else if o.kind = 6 then ⟨(opnV L hs o.path).1,(opnV L hs o.path).2.1,[],[],0,0,0,(opnV L hs o.path).2.2,[]⟩
 else if o.kind = 7 then .err (clsD hs o.hn).2 ((clsD hs o.hn).1,[])
 else if o.kind = 8 then (if (inoD hs o.hn).2 = 0 then ⟨(reaV L (inoD hs o.hn).1 o.frm o.n).2,((reaV L (inoD hs o.hn).1 o.frm o.n).1.length : Int),(reaV L (inoD hs o.hn).1 o.frm o.n).1,[],0,0,0,hs,[]⟩ else .err hs (16,[]))
 else if o.kind = 9 then ⟨(wrtD L hs o.hn o.frm xs).1,o.dn,[],[],0,0,0,hs,(wrtD L hs o.hn o.frm xs).2⟩
 else if o.kind = 10 then .err hs (truD L hs o.hn o.n)
 else if o.kind = 11 then .err hs (renB L o.path o.other) else if o.kind = 12 then .err hs (lnkV L o.path o.other) else if o.kind = 13 then .err hs (ulkB L o.path) else if o.kind = 14 then .err hs (rmdV L o.path)
 else if o.kind = 15 then ⟨(lstV L o.path).2,0,[],(lstV L o.path).1,0,0,0,hs,[]⟩
 else if o.kind = 16 then ⟨(leadM L o.path).2.2,0,[],[],(leadM L o.path).2.1.k,(leadM L o.path).2.1.l,(leadM L o.path).2.1.s,hs,[]⟩
 else .err hs (28,[])
structure QA (R : Out) (s : Vs) (r : Res20) (b : Nat) (u : World) (hs' : List Int) (s' : Vs) : Prop where
 hs : hs' = R.hs
 aft : Aft s s' R.ps 84 1
 er : r.er = if (goW s R.ps).2 = true then R.er else 21
 n : r.n = if r.er = 0 then R.n else 0
 ys : So u8E 5 u b (.slice r.da r.dn r.dc) r.dn R.ys
 names : So Tx.txE 9 u b (.slice r.na r.nn r.nc) r.nn R.names
 k : r.k = R.k
 l : r.l = R.l
 z : r.s = R.z
 p : r.p = 0
theorem So.keep_ {α : Type} {e : Enc α} {T : TypeId} {w w' : World} {b c n : Nat} {v : Value} {L : List α} (h : So e T w b v n L) (hg : w.grownBy w' (some c)) (hlt : c < b) : So e T w' b v n L := So.grown h hg (by
 cases hb : v.ownBlock with
 | none => exact .inl rfl
 | some q =>
   refine .inr (fun e => ?_)
   have := (h.lt hb).1
   injection e with e
   omega)
theorem qA {R : Out} {s : Vs} : Qk (QA R s) := ⟨fun h hg hlt => ⟨h.hs,h.aft,h.er,h.n,So.keep_ h.ys hg hlt,So.keep_ h.names hg hlt,h.k,h.l,h.z,h.p⟩,fun h hb => ⟨h.hs,h.aft,h.er,h.n,h.ys.lower hb,h.names.lower hb,h.k,h.l,h.z,h.p⟩⟩
theorem qA_err {s s' : Vs} {hs : List Int} {x : Int × List Wrt} {b : Nat} {u : World} {k m : Nat} (ha : Aft s s' x.2 k m) (hk : k ≤ 84) (hm : m ≤ 1) : QA (.err hs x) s (resN (if (goW s x.2).2 = true then x.1 else 21) 0) b u hs s' := ⟨rfl,ha.more hk hm,rfl,(ite_self _).symm,So.nil_ _ _ _ _,So.nil_ _ _ _ _,rfl,rfl,rfl,rfl⟩
section
variable {w : World} {g : Nat} {v : Value} {hs : List Int} {s : Vs} {S D : Nat → Prop}
theorem any_ansO (hV : Stays Rep) {x : Int × List Wrt} {k m : Nat} (hdd : Dst Rep w g v hs s S D) (hk : k ≤ 84) (hm : m ≤ 1) {e : Ending} {w' : World} (h : AnsO Rep v s x.1 x.2 k m S D w e w') : DoE Rep (QA (.err hs x) s) g v S D w e w' := by
 obtain ⟨s',S',D',he,hr,st,ha⟩ := h
 exact ⟨resN (if (goW s x.2).2 = true then x.1 else 21) 0,hs,s',S',D',he,(hdd.step hV hr st).1,(hdd.step hV hr st).2,off_n,qA_err ha hk hm⟩
theorem any_ansN {er N : Int} {ps : List Wrt} {k m : Nat} (hk : k ≤ 84) (hm : m ≤ 1) {e : Ending} {w' : World} (h : AnsN Rep g v hs s er N ps k m S D w e w') : DoE Rep (QA ⟨er,N,[],[],0,0,0,hs,ps⟩ s) g v S D w e w' := by
 obtain ⟨J,s',S',D',hJ,he,hd,st,ha⟩ := h
 exact ⟨resN J (if J = 0 then N else 0),hs,s',S',D',he,hd,st,off_n,rfl,ha.more hk hm,hJ,rfl,So.nil_ _ _ _ _,So.nil_ _ _ _ _,rfl,rfl,rfl,rfl⟩
theorem aft_find {path : ByteArray} {s' : Vs} (hf : FindR s path s') : Aft s s' [] 84 1 := Aft.nil (Sm.of_find hf) (by have := hf.len; omega) (by rw [hf.rg]; omega)
theorem opn_er (L : List Pr) (hs : List Int) (path : ByteArray) : (opnV L hs path).1 ≠ 0 → (opnV L hs path).2.1 = 0 := by
 unfold opnV
 repeat' split
 all_goals intro h; first | rfl | exact absurd rfl h
theorem rea_er (L : List Pr) (ino a n : Int) : (reaV L ino a n).2 ≠ 0 → (reaV L ino a n).1 = [] := by
 unfold reaV
 repeat' split
 all_goals intro h; first | rfl | exact absurd rfl h
theorem any_calls (hW0 : Wk Rep) (hLk : LookOk Rep) (hSt : SetOk Rep) (hCp : CpN Rep) (hRn : RangeN Rep) (hLs : ListN Rep) (o : Op20) (ino : Int) (hdd : Dst Rep w g v hs s S D) (hl : Lim s) (h2 : s.rd.length ≤ 18000) (h3 : s.rg.length ≤ 900) (hx : Mxs w S)
 (hp : o.path.size ≤ 100000) (hp2 : o.other.size ≤ 100000) (i0 : 0 ≤ ino) (i1 : ino ≤ 4294967295) (hk : ∀ p ∈ s.shown,(sp p.key).letter ≠ 0) (hv : V64 s.shown (inoD hs o.hn).1)
 (a0 : -9223372036854775808 ≤ o.frm) (a1 : o.frm ≤ 9223372036854775807) (n0 : -9223372036854775808 ≤ o.n) (n1 : o.n ≤ 9223372036854775807) {xs : List Int} (hxs : Bs w o.da o.dn xs) (hc : o.dn ≤ o.dc) (hbig : o.dc ≤ 9223372036854775807) (hA : 0 < o.dn → ∀ b of,o.da = some ⟨b,of,none⟩ → ¬ S b ∧ b < w.heap.size) :
 Calls Tryz.prog 15 #[.pointer (some ⟨g,0,none⟩),o.val,.int .u32 ino] w (DoE Rep (QA (outO s.shown hs o xs ino) s) g v S D w) := by
 unfold outO
 by_cases c4 : o.kind = 4
 ·rw [if_pos c4]
  refine do_at hW0.stays qA o ino hdd (by rw [c4]; exact fun args w => by kernel_rfl) (fun u hb hu => ?_)
  rw [c4]
  exact (create_deed hW0 o ino hu.dsk hu.rep hu.ng hl h2 h3 (hx.below hb) hp i0 i1).mono (fun _ _ h => any_ansO hW0.stays hu (by omega) (by omega) h)
 rw [if_neg c4]
 by_cases c5 : o.kind = 5
 ·rw [if_pos c5]
  refine do_at hW0.stays qA o ino hdd (by rw [c5]; exact fun args w => by kernel_rfl) (fun u hb hu => ?_)
  rw [c5]
  exact (mkdir_deed hW0 o ino hu.dsk hu.rep hu.ng hl h2 h3 (hx.below hb) hp i0 i1).mono (fun _ _ h => any_ansO hW0.stays hu (by omega) (by omega) h)
 rw [if_neg c5]
 by_cases c6 : o.kind = 6
 ·rw [if_pos c6]
  refine do_at hW0.stays qA o ino hdd (by rw [c6]; exact fun args w => by kernel_rfl) (fun u hb hu => ?_)
  rw [c6]
  refine (open_deed hW0 o ino hu hl h2 h3 (hx.below hb) hp).mono ?_
  rintro e u' ⟨s',S',D',he,hd,st,hf⟩
  refine ⟨resN _ _,_,s',S',D',he,hd,st,off_n,rfl,aft_find hf,rfl,?_,So.nil_ _ _ _ _,So.nil_ _ _ _ _,rfl,rfl,rfl,rfl⟩
  show (opnV s.shown hs o.path).2.1 = if (opnV s.shown hs o.path).1 = 0 then (opnV s.shown hs o.path).2.1 else 0
  by_cases h0 : (opnV s.shown hs o.path).1 = 0
  ·rw [if_pos h0]
  ·rw [if_neg h0,opn_er _ _ _ h0]
 rw [if_neg c6]
 by_cases c7 : o.kind = 7
 ·rw [if_pos c7]
  refine do_at hW0.stays qA o ino hdd (by rw [c7]; exact fun args w => by kernel_rfl) (fun u hb hu => ?_)
  rw [c7]
  refine (close_deed hW0 o ino hu hl h2).mono ?_
  rintro e u' ⟨S',D',he,hd,st⟩
  exact ⟨resN (clsD hs o.hn).1 0,_,s,S',D',he,hd,st,off_n,qA_err (x := ((clsD hs o.hn).1,[])) (k := 0) (m := 0) (Aft.nil (Sm.refl s) (Nat.le_refl _) (Nat.le_refl _)) (by omega) (by omega)⟩
 rw [if_neg c7]
 by_cases c8 : o.kind = 8
 ·rw [if_pos c8]
  refine do_at hW0.stays qA o ino hdd (by rw [c8]; exact fun args w => by kernel_rfl) (fun u hb hu => ?_)
  rw [c8]
  refine (read_deed hW0 hLk o ino hu hl h2 a0 a1 n0 n1 hv).mono ?_
  intro e u' h
  by_cases h0 : (inoD hs o.hn).2 = 0
  ·rw [if_pos h0] at h ⊢
   obtain ⟨a,m,c,S',D',he,ho,hd,st,hno⟩ := h
   refine ⟨⟨_,(m : Int),a,m,c,none,0,0,0,0,0,0⟩,hs,_,S',D',he,hd,st,⟨hno,fun _ _ h => by (have h' : (none : Option Addr) = some _ := h; cases h')⟩,rfl,(FileKh.aft_load s _).1.more (by omega) (by omega),rfl,?_,ho,So.nil_ _ _ _ _,rfl,rfl,rfl,rfl⟩
   have hm : (reaV s.shown (inoD hs o.hn).1 o.frm o.n).1.length = m := ho.1
   show (m : Int) = if (reaV s.shown (inoD hs o.hn).1 o.frm o.n).2 = 0 then ((reaV s.shown (inoD hs o.hn).1 o.frm o.n).1.length : Int) else 0
   by_cases h1 : (reaV s.shown (inoD hs o.hn).1 o.frm o.n).2 = 0
   ·rw [if_pos h1,hm]
   ·rw [if_neg h1,← hm,rea_er _ _ _ _ h1]
    rfl
  ·rw [if_neg h0] at h ⊢
   exact any_ansN (by omega) (by omega) h
 rw [if_neg c8]
 by_cases c9 : o.kind = 9
 ·rw [if_pos c9]
  refine do_at hW0.stays qA o ino hdd (by rw [c9]; exact fun args w => by kernel_rfl) (fun u hb hu => ?_)
  rw [c9]
  exact (write_deed hW0 hLk hSt o ino hu hl h2 a0 a1 (hxs.below hb) hc hbig (fun h b of e => ⟨(hA h b of e).1,Nat.lt_of_lt_of_le (hA h b of e).2 hb.size⟩) hv).mono (fun _ _ h => any_ansN (by omega) (by omega) h)
 rw [if_neg c9]
 by_cases c10 : o.kind = 10
 ·rw [if_pos c10]
  refine do_at hW0.stays qA o ino hdd (by rw [c10]; exact fun args w => by kernel_rfl) (fun u hb hu => ?_)
  rw [c10]
  exact (truncate_deed hW0 hLk hSt hCp o ino hu hl h2 n0 n1 hk hv).mono (fun _ _ h => any_ansN (by omega) (by omega) h)
 rw [if_neg c10]
 by_cases c11 : o.kind = 11
 ·rw [if_pos c11]
  refine do_at hW0.stays qA o ino hdd (by rw [c11]; exact fun args w => by kernel_rfl) (fun u hb hu => ?_)
  rw [c11]
  exact (rename_deed hW0 o ino hu.dsk hu.rep hu.ng hl h2 h3 (hx.below hb) hp hp2 hk hRn).mono (fun _ _ h => any_ansO hW0.stays hu (by omega) (by omega) h)
 rw [if_neg c11]
 by_cases c12 : o.kind = 12
 ·rw [if_pos c12]
  refine do_at hW0.stays qA o ino hdd (by rw [c12]; exact fun args w => by kernel_rfl) (fun u hb hu => ?_)
  rw [c12]
  exact (link_deed hW0 o ino hu.dsk hu.rep hu.ng hl h2 h3 (hx.below hb) hp hp2).mono (fun _ _ h => any_ansO hW0.stays hu (by omega) (by omega) h)
 rw [if_neg c12]
 by_cases c13 : o.kind = 13
 ·rw [if_pos c13]
  refine do_at hW0.stays qA o ino hdd (by rw [c13]; exact fun args w => by kernel_rfl) (fun u hb hu => ?_)
  rw [c13]
  exact (unlink_deed hW0 o ino hu.dsk hu.rep hu.ng hl h2 h3 (hx.below hb) hp hk hRn).mono (fun _ _ h => any_ansO hW0.stays hu (by omega) (by omega) h)
 rw [if_neg c13]
 by_cases c14 : o.kind = 14
 ·rw [if_pos c14]
  refine do_at hW0.stays qA o ino hdd (by rw [c14]; exact fun args w => by kernel_rfl) (fun u hb hu => ?_)
  rw [c14]
  exact (rmdir_deed hW0 o ino hu.dsk hu.rep hu.ng hl h2 h3 (hx.below hb) hp hk).mono (fun _ _ h => any_ansO hW0.stays hu (by omega) (by omega) h)
 rw [if_neg c14]
 by_cases c15 : o.kind = 15
 ·rw [if_pos c15]
  refine do_at hW0.stays qA o ino hdd (by rw [c15]; exact fun args w => by kernel_rfl) (fun u hb hu => ?_)
  rw [c15]
  refine (readdir_deed hW0 hLs o ino hu hl h2 h3 (hx.below hb) hp hk).mono ?_
  rintro e u' ⟨a,m,c,s',S',D',he,ho,hd,st,hno,ha⟩
  exact ⟨⟨_,0,none,0,0,a,m,c,0,0,0,0⟩,hs,s',S',D',he,hd,st,⟨fun _ _ h => by (have h' : (none : Option Addr) = some _ := h; cases h'),hno⟩,rfl,ha.more (by omega) (by omega),rfl,(ite_self _).symm,So.nil_ _ _ _ _,ho,rfl,rfl,rfl,rfl⟩
 rw [if_neg c15]
 by_cases c16 : o.kind = 16
 ·rw [if_pos c16]
  refine do_at hW0.stays qA o ino hdd (by rw [c16]; exact fun args w => by kernel_rfl) (fun u hb hu => ?_)
  rw [c16]
  refine (stat_deed hW0 o ino hu hl h2 h3 (hx.below hb) hp).mono ?_
  rintro e u' ⟨s',S',D',he,hd,st,hf⟩
  exact ⟨⟨_,0,none,0,0,none,0,0,_,_,_,0⟩,hs,s',S',D',he,hd,st,⟨fun _ _ h => by (have h' : (none : Option Addr) = some _ := h; cases h'),fun _ _ h => by (have h' : (none : Option Addr) = some _ := h; cases h')⟩,rfl,aft_find hf,rfl,(ite_self _).symm,So.nil_ _ _ _ _,So.nil_ _ _ _ _,rfl,rfl,rfl,rfl⟩
 rw [if_neg c16]
 have hF : deedF o.kind = 58 := by
  unfold deedF
  rw [if_neg c4,if_neg c5,if_neg c6,if_neg c7,if_neg c8,if_neg c9,if_neg c10,if_neg c11,if_neg c12,if_neg c13,if_neg c14,if_neg c15,if_neg c16]
 refine do_at hW0.stays qA o ino hdd (by rw [hF]; exact fun args w => by kernel_rfl) (fun u hb hu => ?_)
 rw [hF]
 exact (refuse_deed hW0 o ino hu hl h2 trivial).mono (fun _ _ h => any_ansN (by omega) (by omega) h)
end
end Go.Proofs.YtogdjbhjgbnicaaGreatDoor.OpsTa
namespace Go.Proofs.YtogdjbhjgbnicaaGreatDoor.OpsM
open Byte PackM KeysM ViewM ViewKm NodeM NamesM WalkM WalkF WalkKm DirsV DirsBm FileM FileV FileKd FileKe OpsR OpsI OpsS OpsW OpsV OpsTa
open TreeM (Pr Rise putL getL)
def Fine (L : List Pr) : Prop := ∀ p ∈ L,(sp p.key).letter ≠ 0 ∧ p.value.size ≤ 64
def GoodP (p : Pr) : Prop := p.gone = false → (sp p.key).letter ≠ 0 ∧ p.value.size ≤ 64
def GoodW (p : Wrt) : Prop := ∀ L,GoodP (p L)
theorem good_nil : Fine [] := fun p hp => by cases hp
theorem good_done {L : List Pr} (h : Fine L) {p : Pr} (hp : GoodP p) : Fine (doneW L p) := fun q hq => by
 rcases mem_done.1 hq with ⟨h1,rfl⟩ | ⟨h1,_⟩
 ·exact hp h1
 ·exact h q h1
theorem good_write {s : Vs} (ho : s.Ok) (h : Fine s.shown) {p : Pr} (hp : GoodP p) : Fine (s.write p).shown := by
 unfold Vs.write
 split
 ·exact h
 ·show Fine (shownL s.base (writeW s.base s.wr p))
  rw [shown_write ho.base ho.wr]
  exact good_done h hp
theorem good_go : ∀ (ps : List Wrt) {s : Vs},s.Ok → Fine s.shown → (∀ p ∈ ps,GoodW p) → Fine (goW s ps).1.shown ∧ (goW s ps).1.Ok
 | [],s,ho,h,_ => ⟨h,ho⟩
 | p :: ps,s,ho,h,hp => by
   cases hf : fullW s.wr (p s.shown) with
   | true =>
     rw [goW_full hf]
     exact ⟨h,ho⟩
   | false =>
     rw [goW_room hf]
     exact good_go ps (ok_write ho _) (good_write ho h (hp p (by simp) _)) (fun q hq => hp q (by simp [hq]))
theorem good_v64 {L : List Pr} (hr : Rise L) (h : Fine L) (ino : Int) : V64 L ino := fun q q0 q1 => by
 cases hg : getL (kD ino q) L with
 | none => exact Nat.zero_le _
 | some p =>
   show (txt p.value).length ≤ 64
   rw [txt_len]
   exact (h p ((DirsX.get_iff hr).1 hg).1).2
theorem good_hk {L : List Pr} (h : Fine L) : ∀ p ∈ L,(sp p.key).letter ≠ 0 := fun p hp => (h p hp).1
theorem g_save (ino k l z p : Int) (h0 : 0 ≤ ino) (h1 : ino ≤ 4294967295) : GoodW (saveP ino k l z p) := fun L _ => ⟨by show (sp (kI ino)).letter ≠ 0; rw [sp_I ino h0 h1]; exact (by decide : (73 : Int) ≠ 0),by show (nput k l z p).size ≤ 64; rw [NodeM.nput_size]; omega⟩
theorem g_tie (d m : Int) (h0 : 0 ≤ d) (h1 : d ≤ 4294967295) : GoodW (tieP d m) := fun L h => g_save d _ _ _ _ h0 h1 L h
theorem g_adopt (p ino : Int) (h0 : 0 ≤ ino) (h1 : ino ≤ 4294967295) : GoodW (adoptP p ino) := fun L h => g_save ino _ _ _ _ h0 h1 L h
theorem g_drop (ino : Int) : GoodW (dropP ino) := fun L h => by cases h
theorem g_del (k : ByteArray) : GoodW (delP k) := fun L h => by cases h
theorem g_unhang (d : Int) (n : ByteArray) : GoodW (unhangP d n) := fun L h => by cases h
theorem g_hang (d : Int) (n : ByteArray) (ino : Int) (h0 : 0 ≤ d) (h1 : d ≤ 4294967295) (h2 : 0 < n.size) (h3 : n.size ≤ 32) : GoodW (hangP d n ino) := fun L _ => ⟨by show (sp (kE d n)).letter ≠ 0; rw [sp_E d n h0 h1 h2 h3]; exact (by decide : (69 : Int) ≠ 0),by show (hangV ino).size ≤ 64; rw [hangV_size]; omega⟩
theorem g_put (ino which : Int) (b : List Int) (h0 : 0 ≤ ino) (h1 : ino ≤ 4294967295) (w0 : 0 ≤ which) (w1 : which ≤ 65535) (hb : b.length ≤ 64) : GoodW (FileV.putP ino which b) := fun L _ => ⟨by show (sp (kD ino which)).letter ≠ 0; rw [sp_D ino which h0 h1 w0 w1]; exact (by decide : (68 : Int) ≠ 0),put_small ino which b L hb⟩
theorem g_drp (L : List Pr) (ino f : Int) : ∀ p ∈ drpPs L ino f,GoodW p := fun p hp => by
 unfold drpPs at hp
 obtain ⟨q,_,rfl⟩ := List.mem_map.1 hp
 exact g_del _
end Go.Proofs.YtogdjbhjgbnicaaGreatDoor.OpsM
namespace Go.Proofs.YtogdjbhjgbnicaaGreatDoor.OpsN
open Byte PackM KeysM ViewM ViewKm NodeM NamesM WalkM WalkF WalkKm DirsV DirsBm FileM FileV FileKd FileKe OpsR OpsI OpsS OpsW OpsV OpsTa OpsM
open TreeM (Pr Rise putL getL)
theorem spl_pos (s : ByteArray) : ∀ x ∈ (spl s).1,0 < x.size := by
 unfold spl
 split
 ·exact fun x hx => by cases hx
 ·split
  ·exact fun x hx => by cases hx
  ·split
   ·exact fun x hx => by cases hx
   ·split
    ·rename_i h
     rw [Bool.and_eq_true,decide_eq_true_eq] at h
     exact fun x hx => (name_pos (List.all_eq_true.1 h.1 x hx)).1
    ·exact fun x hx => by cases hx
theorem findL_nm (L : List Pr) : ∀ (names : List ByteArray) (x : Spot),(0 < x.name.size ∨ x.ino = 1) → (∀ y ∈ names,0 < y.size) → (findL L x names).2 = 0 → 0 < (findL L x names).1.name.size ∨ (findL L x names).1.ino = 1
 | [],x,h,_,_ => h
 | name :: r,x,h,hn,he => by
   unfold findL at he ⊢
   split at he
   ·exact absurd he (show (10 : Int) ≠ 0 by decide)
   ·rename_i a
    rw [if_neg a]
    split at he
    ·exact absurd he (show (12 : Int) ≠ 0 by decide)
    ·rename_i b
     rw [if_neg b]
     refine findL_nm L r _ (.inl ?_) (fun y hy => hn y (by simp [hy])) he
     have hp := hn name (by simp)
     unfold stepM
     split
     ·exact hp
     ·exact hp
theorem find_nm (L : List Pr) (path : ByteArray) (he : (findM L path).2 = 0) (hi : (findM L path).1.ino ≠ 1) : 0 < (findM L path).1.name.size := by
 have h : (spl path).2 = 0 → findM L path = findL L ⟨0,⟨#[]⟩,1,(loadM L 1).1⟩ (spl path).1 := fun h => by
  unfold findM
  rw [if_neg (fun h2 => h2 h)]
 by_cases hs : (spl path).2 = 0
 ·rw [h hs] at he hi ⊢
  rcases findL_nm L _ _ (.inr rfl) (spl_pos path) he with h1 | h1
  ·exact h1
  ·exact absurd h1 hi
 ·have e : findM L path = (spot0,(spl path).2) := by
   unfold findM
   rw [if_pos hs]
  rw [e] at he
  exact absurd he hs
theorem all2 {p q : Wrt} (h1 : GoodW p) (h2 : GoodW q) : ∀ x ∈ [p,q],GoodW x := fun x hx => by
 rcases List.mem_cons.1 hx with rfl | hx
 ·exact h1
 ·rw [List.mem_singleton] at hx
  rw [hx]
  exact h2
theorem all3 {p q r : Wrt} (h1 : GoodW p) (h2 : GoodW q) (h3 : GoodW r) : ∀ x ∈ [p,q,r],GoodW x := fun x hx => by
 rcases List.mem_cons.1 hx with rfl | hx
 ·exact h1
 ·exact all2 h2 h3 x hx
theorem all_app {l m : List Wrt} (h1 : ∀ x ∈ l,GoodW x) (h2 : ∀ x ∈ m,GoodW x) : ∀ x ∈ l ++ m,GoodW x := fun x hx => by
 rcases List.mem_append.1 hx with h | h
 ·exact h1 x h
 ·exact h2 x h
theorem all_nil : ∀ x ∈ ([] : List Wrt),GoodW x := fun x hx => by cases hx
theorem mak_good (L : List Pr) (path : ByteArray) (kind ino : Int) (i0 : 0 ≤ ino) (i1 : ino ≤ 4294967295) : ∀ p ∈ (makV L path kind ino).2,GoodW p := by
 unfold makV
 have hb := find_bd L path
 split
 ·exact all_nil
 ·rename_i a
  split
  ·exact all_nil
  ·rename_i b
   have hz : (findM L path).1.ino = 0 := Classical.not_not.1 b
   have hn := find_nm L path (Classical.not_not.1 a) (by rw [hz]; decide)
   split
   ·exact all2 (g_save _ _ _ _ _ i0 i1) (g_hang _ _ _ hb.d0 hb.d1 hn hb.nm)
   ·exact all3 (g_save _ _ _ _ _ i0 i1) (g_hang _ _ _ hb.d0 hb.d1 hn hb.nm) (g_tie _ _ hb.d0 hb.d1)
theorem rem_good (L : List Pr) {x : Spot} (hb : SpotB x) : ∀ p ∈ (remV L x).2,GoodW p := by
 unfold remV
 split
 ·exact all_nil
 ·split
  ·exact all_nil
  ·exact all3 (g_unhang _ _) (g_drop _) (g_tie _ _ hb.d0 hb.d1)
theorem unl_good (L : List Pr) {x : Spot} (hb : SpotB x) : ∀ p ∈ (unlB L x).2,GoodW p := by
 unfold unlB
 split
 ·exact all_nil
 ·split
  ·exact all2 (g_unhang _ _) (g_save _ _ _ _ _ hb.i0 hb.i1)
  ·refine all_app (all_app (fun x hx => ?_) (g_drp L _ _)) (fun x hx => ?_)
   ·rw [List.mem_singleton] at hx
    rw [hx]
    exact g_unhang _ _
   ·rw [List.mem_singleton] at hx
    rw [hx]
    exact g_drop _
theorem rmd_good (L : List Pr) (path : ByteArray) : ∀ p ∈ (rmdV L path).2,GoodW p := by
 unfold rmdV
 split
 ·exact all_nil
 ·split
  ·exact all_nil
  ·split
   ·exact all_nil
   ·exact rem_good L (find_bd L path)
theorem ulk_good (L : List Pr) (path : ByteArray) : ∀ p ∈ (ulkB L path).2,GoodW p := by
 unfold ulkB
 split
 ·exact all_nil
 ·split
  ·exact all_nil
  ·exact unl_good L (find_bd L path)
theorem lnk_good (L : List Pr) (old path : ByteArray) : ∀ p ∈ (lnkV L old path).2,GoodW p := by
 unfold lnkV
 have hb := find_bd L path
 have hb2 := find_bd L old
 split
 ·exact all_nil
 ·split
  ·exact all_nil
  ·split
   ·exact all_nil
   ·split
    ·exact all_nil
    ·rename_i a
     split
     ·exact all_nil
     ·rename_i b
      split
      ·exact all_nil
      ·have hz : (findM L path).1.ino = 0 := Classical.not_not.1 b
       exact all2 (g_hang _ _ _ hb.d0 hb.d1 (find_nm L path (Classical.not_not.1 a) (by rw [hz]; decide)) hb.nm) (g_save _ _ _ _ _ hb2.i0 hb2.i1)
theorem clr_good (L : List Pr) {x : Spot} (hb : SpotB x) (d : Bool) : ∀ p ∈ (clrB L x d).2,GoodW p := by
 unfold clrB
 split
 ·exact all_nil
 ·split
  ·exact rem_good L hb
  ·exact unl_good L hb
theorem mov_good {x y : Spot} (hx : SpotB x) (hy : SpotB y) (hn : 0 < y.name.size) : ∀ p ∈ movPs x y,GoodW p := by
 have hh := g_hang y.dir y.name x.ino hy.d0 hy.d1 hn hy.nm
 unfold movPs
 split
 ·exact all_app (l := [_,_]) (m := [_,_,_]) (all2 (g_unhang _ _) hh) (all3 (g_adopt _ _ hx.i0 hx.i1) (g_tie _ _ hx.d0 hx.d1) (g_tie _ _ hy.d0 hy.d1))
 ·exact all2 (g_unhang _ _) hh
theorem ren_good (L : List Pr) (old path : ByteArray) : ∀ p ∈ (renB L old path).2,GoodW p := by
 unfold renB
 split
 ·exact all_nil
 ·split
  ·exact all_nil
  ·split
   ·exact all_nil
   ·split
    ·exact all_nil
    ·rename_i a
     split
     ·exact all_nil
     ·rename_i b
      split
      ·exact all_nil
      ·split
       ·exact all_nil
       ·split
        ·exact all_nil
        ·exact all_app (clr_good L (find_bd L path) _) (mov_good (find_bd L old) (find_bd L path) (find_nm L path (Classical.not_not.1 a) b))
theorem wrp_good (ino : Int) (p : Int × Int × Int) (xs : List Int) (h0 : 0 ≤ ino) (h1 : ino ≤ 4294967295) (hp : PcOk p) (hx : xs.length ≤ p.2.2.toNat) : GoodW (wrP ino p xs) := fun L h => by
 have := hp.f0; have := hp.m0; have := hp.m1; have := hp.b0; have := hp.b1
 refine g_put ino p.1 _ h0 h1 (by omega) (by omega) ?_ L h
 rw [setB_len _ _ _ (by rw [getB_len]; omega),getB_len]
 exact Nat.le_refl _
theorem wrps_good (ino : Int) (h0 : 0 ≤ ino) (h1 : ino ≤ 4294967295) : ∀ (P : List (Int × Int × Int)) (xs : List Int),(∀ p ∈ P,PcOk p) → ∀ q ∈ wrPs ino xs P,GoodW q
 | [],xs,_,q,hq => by cases hq
 | p :: P,xs,hP,q,hq => by
   unfold wrPs at hq
   rcases List.mem_cons.1 hq with rfl | hq
   ·exact wrp_good ino p _ h0 h1 (hP p (by simp)) (by rw [List.length_take]; omega)
   ·exact wrps_good ino h0 h1 P _ (fun r hr => hP r (by simp [hr])) q hq
theorem cutV_ok (a n : Int) : ∀ p ∈ cutV a n,PcOk p := by
 unfold cutV
 split
 ·exact fun p hp => by cases hp
 ·exact cuts_ok _ (by omega) (by omega)
theorem wri_good (L : List Pr) (ino a : Int) (b : List Int) (h0 : 0 ≤ ino) (h1 : ino ≤ 4294967295) : ∀ p ∈ (wriV L ino a b).2,GoodW p := by
 unfold wriV
 split
 ·exact all_nil
 ·split
  ·exact all_nil
  ·split
   ·exact all_nil
   ·split
    ·exact all_nil
    ·refine all_app (wrps_good ino h0 h1 _ _ (cutV_ok _ _)) (fun x hx => ?_)
     rw [List.mem_singleton] at hx
     rw [hx]
     exact g_save _ _ _ _ _ h0 h1
theorem sho_good (L : List Pr) (ino z : Int) (h0 : 0 ≤ ino) (h1 : ino ≤ 4294967295) (z0 : 0 ≤ z) (z1 : z ≤ 4096) : ∀ p ∈ shoPs L ino z,GoodW p := by
 unfold shoPs
 split
 ·exact all_nil
 ·intro x hx
  rw [List.mem_singleton] at hx
  rw [hx]
  exact g_put ino _ _ h0 h1 (by omega) (by omega) (by rw [List.length_take]; omega)
theorem tru_good (L : List Pr) (ino z : Int) (h0 : 0 ≤ ino) (h1 : ino ≤ 4294967295) : ∀ p ∈ (truV L ino z).2,GoodW p := by
 unfold truV
 split
 ·exact all_nil
 ·split
  ·exact all_nil
  ·split
   ·exact all_nil
   ·refine all_app (g_drp L _ _) (all_app (sho_good _ _ _ h0 h1 (by omega) (by omega)) (fun x hx => ?_))
    rw [List.mem_singleton] at hx
    rw [hx]
    exact g_save _ _ _ _ _ h0 h1
theorem out_good (L : List Pr) {hs : List Int} (o : Op20) (xs : List Int) (ino : Int) (hh : ∀ x ∈ hs,0 ≤ x ∧ x ≤ 4294967295) (i0 : 0 ≤ ino) (i1 : ino ≤ 4294967295) : ∀ p ∈ (outO L hs o xs ino).ps,GoodW p := by
 have hib := inoD_bd hh o.hn
 unfold outO
 by_cases c4 : o.kind = 4
 ·rw [if_pos c4]
  exact mak_good L _ _ _ i0 i1
 rw [if_neg c4]
 by_cases c5 : o.kind = 5
 ·rw [if_pos c5]
  exact mak_good L _ _ _ i0 i1
 rw [if_neg c5]
 by_cases c6 : o.kind = 6
 ·rw [if_pos c6]
  exact all_nil
 rw [if_neg c6]
 by_cases c7 : o.kind = 7
 ·rw [if_pos c7]
  exact all_nil
 rw [if_neg c7]
 by_cases c8 : o.kind = 8
 ·rw [if_pos c8]
  split <;> exact all_nil
 rw [if_neg c8]
 by_cases c9 : o.kind = 9
 ·rw [if_pos c9]
  show ∀ p ∈ (wrtD L hs o.hn o.frm xs).2,GoodW p
  unfold wrtD
  split
  ·exact wri_good L _ _ _ hib.1 hib.2
  ·exact all_nil
 rw [if_neg c9]
 by_cases c10 : o.kind = 10
 ·rw [if_pos c10]
  show ∀ p ∈ (truD L hs o.hn o.n).2,GoodW p
  unfold truD
  split
  ·exact tru_good L _ _ hib.1 hib.2
  ·exact all_nil
 rw [if_neg c10]
 by_cases c11 : o.kind = 11
 ·rw [if_pos c11]
  exact ren_good L _ _
 rw [if_neg c11]
 by_cases c12 : o.kind = 12
 ·rw [if_pos c12]
  exact lnk_good L _ _
 rw [if_neg c12]
 by_cases c13 : o.kind = 13
 ·rw [if_pos c13]
  exact ulk_good L _
 rw [if_neg c13]
 by_cases c14 : o.kind = 14
 ·rw [if_pos c14]
  exact rmd_good L _
 rw [if_neg c14]
 by_cases c15 : o.kind = 15
 ·rw [if_pos c15]
  exact all_nil
 rw [if_neg c15]
 by_cases c16 : o.kind = 16
 ·rw [if_pos c16]
  exact all_nil
 rw [if_neg c16]
 exact all_nil
end Go.Proofs.YtogdjbhjgbnicaaGreatDoor.OpsN
namespace Go.Proofs.YtogdjbhjgbnicaaGreatDoor.OpsP
open Go.RowKit
open Byte KeysM ViewM DirsV Lst Chg ViewL WalkL Vat DirsK DirsKa DirsKc FileKe FileKf OpsR OpsE OpsI OpsS OpsT OpsTa OpsM OpsN RgN DirsBl
open TreeM (Pr Rise)
open TreeL (Kept)
open Own hiding lower
variable {Rep : RepT}
structure Vw20 (Rep : RepT) : Prop where
 wk : Wk Rep
 look : LookOk Rep
 set_ : SetOk Rep
 cp : CpN Rep
 rn : RangeN Rep
 ls : ListN Rep
structure OpB (w : World) (S : Nat → Prop) (o : Op20) (xs : List Int) : Prop where
 path : o.path.size ≤ 100000
 other : o.other.size ≤ 100000
 frm : -9223372036854775808 ≤ o.frm ∧ o.frm ≤ 9223372036854775807
 n : -9223372036854775808 ≤ o.n ∧ o.n ≤ 9223372036854775807
 bs : Bs w o.da o.dn xs
 fit : o.dn ≤ o.dc
 big : o.dc ≤ 9223372036854775807
 off : 0 < o.dn → ∀ b of,o.da = some ⟨b,of,none⟩ → ¬ S b ∧ b < w.heap.size
structure Pk (Rep : RepT) (k : Nat) (w : World) (g : Nat) (v : Value) (hs : List Int) (s : Vs) (S D : Nat → Prop) : Prop where
 dst : Dst Rep w g v hs s S D
 good : Fine s.shown
 base : s.base.length ≤ 1000
 rd : s.rd.length ≤ 84 * k
 rg : s.rg.length ≤ k
 mx : Mxs w S
 gx : g ≠ 0
section
variable {k : Nat} {w w' : World} {g : Nat} {v : Value} {hs hs' : List Int} {s s' : Vs} {S D S' D' : Nat → Prop}
theorem mxs_dstp (h : Mxs w S) (hg : g ≠ 0) (st : Dstp S D S' D' g w w') : Mxs w' S' := by
 refine ⟨?_,fun hq => ?_⟩
 ·obtain ⟨m,hm⟩ := h.1
  exact ⟨m,st.chg.cell hm (fun e => by
   rcases e with e | e
   ·exact h.2 e
   ·exact hg e.symm)⟩
 ·rcases st.own _ hq with h1 | h1
  ·exact h.2 h1
  ·have := h.lt
   omega
theorem good_aft {ps : List Wrt} {a b : Nat} (ho : s.Ok) (h : Fine s.shown) (hp : ∀ p ∈ ps,GoodW p) (ha : Aft s s' ps a b) : Fine s'.shown := by
 rw [ha.sm.shown]
 exact (good_go ps ho h hp).1
theorem Pk.next (hV : Stays Rep) (h : Pk Rep k w g v hs s S D) {o : Op20} {xs : List Int} {ino : Int} {r : Res20} {b : Nat} (i0 : 0 ≤ ino) (i1 : ino ≤ 4294967295) (hd : Dst Rep w' g v hs' s' S' D') (st : Dstp S D S' D' g w w') (hq : QA (outO s.shown hs o xs ino) s r b w' hs' s') : Pk Rep (k + 1) w' g v hs' s' S' D' := by
 have ha := hq.aft
 refine ⟨hd,good_aft (hV.ok h.dst.rep) h.good (out_good _ o xs ino h.dst.dsk.bd i0 i1) ha,?_,?_,?_,mxs_dstp h.mx h.gx st,h.gx⟩
 ·rw [ha.sm.base,goW_base]
  exact h.base
 ·have := ha.rd
  have := h.rd
  omega
 ·have := ha.rg
  have := h.rg
  omega
theorem Pk.do_ (hV : Vw20 Rep) (h : Pk Rep k w g v hs s S D) (hk : k ≤ 200) (o : Op20) {xs : List Int} (ino : Int) (hb : OpB w S o xs) (i0 : 0 ≤ ino) (i1 : ino ≤ 4294967295) :
 Calls Tryz.prog 15 #[.pointer (some ⟨g,0,none⟩),o.val,.int .u32 ino] w fun e w' => ∃ (r : Res20) (hs' : List Int) (s' : Vs) (S' D' : Nat → Prop),e = .returned r.val ∧ Pk Rep (k + 1) w' g v hs' s' S' D' ∧ Dstp S D S' D' g w w' ∧ QA (outO s.shown hs o xs ino) s r w.heap.size w' hs' s' ∧ Off r D' := by
 have hrd := h.rd
 have hrg := h.rg
 have hl : Lim s := ⟨h.base,by omega,by omega⟩
 refine (any_calls hV.wk hV.look hV.set_ hV.cp hV.rn hV.ls o ino h.dst hl (by omega) (by omega) h.mx hb.path hb.other i0 i1 (good_hk h.good) (good_v64 (ViewM.rise_shown (hV.wk.stays.ok h.dst.rep).base _) h.good _) hb.frm.1 hb.frm.2 hb.n.1 hb.n.2 hb.bs hb.fit hb.big hb.off).mono ?_
 rintro e w' ⟨r,hs',s',S',D',he,hd,st,ho,hq⟩
 exact ⟨r,hs',s',S',D',he,h.next hV.wk.stays i0 i1 hd st hq,st,hq,ho⟩
end
end Go.Proofs.YtogdjbhjgbnicaaGreatDoor.OpsP
namespace Go.Proofs.YtogdjbhjgbnicaaGreatDoor.OpsC
open Go.RowKit
open Byte Lst Chg OpsR
open FileKd
open Own hiding keeps lower
def o7E : Enc Op20 := ⟨fun x => [.int .u8 x.kind,.string x.path,.string x.other,.int .i64 x.hn,.int .i64 x.frm,.int .i64 x.n,.slice x.da x.dn x.dc],7,fun _ => rfl,fun x u hu => by
 simp only [List.mem_cons,List.mem_nil_iff,or_false] at hu
 rcases hu with rfl | rfl | rfl | rfl | rfl | rfl | rfl <;> rfl,by decide⟩
theorem cut_calls (A : Option Addr) (n c : Nat) (L : List Op20) (w : World) (hl : Sl o7E w A n L) (hn : n ≤ c) (hc : c ≤ maxLen) :
 Calls Tryz.prog 13 #[.slice A n c] w fun e w' => ∃ m,e = .returned (.slice A m c) ∧ m ≤ n ∧ m ≤ 60 ∧ (∀ i o,i < m → L[i]? = some o → great o = false) ∧ Below w.heap.size w w' := by
 unfold maxLen at hc
 have HL := hQ_ hl
 clear hl
 go_enter Tryz.func13,Tryz.ntmps13
 go_wp2
 go_loopw [7] (fun i wr => ∃ k : Nat,k ≤ n ∧ k ≤ 60 ∧ (∀ i o,i < k → L[i]? = some o → great o = false) ∧ i = .int .i64 k ∧ Below w.heap.size w wr) (fun i _ => n - (intOf i).toNat)
 case atStart => exact ⟨0,Nat.zero_le _,Nat.zero_le _,fun i o hi => by omega,rfl,Below.refl _ _⟩
 case round =>
  obtain ⟨k,hk,hk2,hgr,rfl,hbel⟩ := hrel
  have HGR := hQ_ hgr
  clear hgr
  by_cases hlt : k < n
  ·obtain ⟨x,g,o,hx,rfl,hg,hcl⟩ := (HL.out.below hbel).get k hlt
   have HX := hQ_ hx
   have hgc := great_calls x
   obtain ⟨gr,hgrx⟩ : ∃ gr,great x = gr := ⟨_,rfl⟩
   rw [hgrx] at hgc
   have HG := hQ_ hgrx
   clear hgrx
   obtain ⟨kind,path,other,hn',frm,m,da,dn,dc⟩ := x
   have HGC := hQ_ hgc
   have HC : Hid (wr.rangeAt g (o + k * 7) [.int .u8 kind,.string path,.string other,.int .i64 hn',.int .i64 frm,.int .i64 m,.slice da dn dc]) := hQ_ hcl
   have hbs := hbel.size
   have hkc : k ≤ c := by omega
   have hb1 : Below w.heap.size w (wr.alloc (.cells #[.int .u8 kind,.string path,.string other,.int .i64 hn',.int .i64 frm,.int .i64 m,.slice da dn dc] 41)) := hbel.alloc hbs _
   have HB1 := hQ_ hb1
   clear hcl hx hbel hb1 hgc
   by_cases q : 60 ≤ k
   ·have d1 : decide ((k : Int) ≥ 60) = true := decide_eq_true (by omega)
    go_wp2_with ((with_reducible refine pick (some 11) ?_); refine wpList_load_mid rfl 41 _ rfl g (o + k * 7) rfl _ _ HC.out Tryz.underlying41 rfl info_op20 ?_)
    go_ret
    exact ⟨k,rfl,hk,hk2,HGR.out,HB1.out⟩
   ·have d1 : decide ((k : Int) ≥ 60) = false := decide_eq_false (by omega)
    go_wp2_with ((with_reducible refine pick (some 11) ?_); refine wpList_load_mid rfl 41 _ rfl g (o + k * 7) rfl _ _ HC.out Tryz.underlying41 rfl info_op20 ?_)
    refine (HGC.out _).mono ?_
    rintro e w2 ⟨rfl,hb2⟩
    have HB2 := hQ_ (Own.keeps HB1.out hb2)
    clear hb2
    cases gr with
    | true =>
      go_wp2_with fail
      go_ret
      exact ⟨k,rfl,hk,hk2,HGR.out,HB2.out⟩
    | false =>
      go_wp2_with fail
      go_roundw
      case rel =>
       refine ⟨k + 1,by omega,by omega,fun i o hi ho => ?_,by go_num,HB2.out⟩
       by_cases e : i = k
       ·subst e
        rw [HX.out] at ho
        injection ho with ho
        rw [← ho]
        exact HG.out
       ·exact HGR.out i o (by omega) ho
      case measure => simp [intOf]; omega
  ·obtain rfl : k = n := by omega
   have HBL := hQ_ hbel
   clear hbel
   go_wp2
   go_ret
   exact ⟨k,rfl,Nat.le_refl _,hk2,HGR.out,HBL.out⟩
theorem sl_bs {w : World} {A : Option Addr} {n : Nat} {L : List Int} (h : Sl u8E w A n L) (hb : ∀ x ∈ L,0 ≤ x ∧ x ≤ 255) : Bs w A n L := by
 refine ⟨h.1,hb,fun k hk => ?_⟩
 obtain ⟨x,b,o,hx,e,hlt,hc⟩ := h.get k hk
 refine ⟨b,o,e,hlt,?_⟩
 have h0 := hc 0 _ rfl
 rw [List.getD_eq_getElem?_getD,hx]
 have e2 : o + k * u8E.size + 0 = o + k := by show o + k * 1 + 0 = o + k; omega
 rw [e2] at h0
 exact h0
theorem bs_sl {w : World} {A : Option Addr} {n : Nat} {L : List Int} (h : Bs w A n L) : Sl u8E w A n L := by
 refine ⟨h.1,fun j x hj => ?_⟩
 have hjl := (List.getElem?_eq_some_iff.1 hj).1
 obtain ⟨b,o,e,hlt,hc⟩ := h.2.2 j (by rw [← h.1]; exact hjl)
 rw [List.getD_eq_getElem?_getD,hj] at hc
 refine ⟨b,o,e,hlt,fun i u hu => ?_⟩
 cases i with
 | zero =>
   have hu2 : u = .int .u8 x := by
    have : some (Value.int .u8 x) = some u := hu
    injection this with this
    exact this.symm
   rw [hu2,show o + j * u8E.size + 0 = o + j by show o + j * 1 + 0 = o + j; omega]
   exact hc
 | succ i => have : (none : Option Value) = some u := hu; cases this
theorem own_some {w : World} {base n g0 g1 : Nat} {x : Value} {L : List Int} (ho : So u8E 5 w base x n L) (hat : x.ownBlock = some g0 ∨ x.ownBlock = some g1) : ∃ g cap,x = .slice (some ⟨g,0,none⟩) n cap ∧ base ≤ g ∧ g < w.heap.size ∧ n ≤ cap ∧ cap ≤ maxLen := by
 rcases ho.form with ⟨e1,e2⟩ | ⟨g,cap,e1,h1,h2,h3,h4⟩
 ·rw [e1] at hat
  rcases hat with q | q <;> cases q
 ·exact ⟨g,cap,e1,h1,h2,h3,h4⟩
abbrev withD (o : Op20) (g c : Nat) : Op20 := ⟨o.kind,o.path,o.other,o.hn,o.frm,o.n,some ⟨g,0,none⟩,o.dn,c⟩
theorem own_calls (o : Op20) (w : World) {xs : List Int} (hbs : Bs w o.da o.dn xs) (hnil : o.da = none → o.dc = 0) (hsz : o.dn ≤ 9000) :
 Calls Tryz.prog 14 #[o.val] w fun e w' => ∃ g c,e = .returned (withD o g c).val ∧ So u8E 5 w' w.heap.size (.slice (some ⟨g,0,none⟩) o.dn c) o.dn xs ∧ w.heap.size ≤ g ∧ g < w'.heap.size ∧ o.dn ≤ c ∧ c ≤ maxLen ∧ Below w.heap.size w w' := by
 obtain ⟨kind,path,other,hn,frm,n,da,dn,dc⟩ := o
 dsimp only [withD,Op20.val,Op20.cells] at *
 obtain ⟨W,hW⟩ : ∃ W,(w.alloc (.cells #[.int .u8 kind,.string path,.string other,.int .i64 hn,.int .i64 frm,.int .i64 n,.slice da dn dc] 41)).alloc (.cells #[.int .u8 0,.string ⟨#[]⟩,.string ⟨#[]⟩,.int .i64 0,.int .i64 0,.int .i64 0,.slice none 0 0] 41) = W := ⟨_,rfl⟩
 have hs1 : (w.alloc (.cells #[.int .u8 kind,.string path,.string other,.int .i64 hn,.int .i64 frm,.int .i64 n,.slice da dn dc] 41)).heap.size = w.heap.size + 1 := by simp
 have hB : Blk W (w.heap.size + 1) #[.int .u8 0,.string ⟨#[]⟩,.string ⟨#[]⟩,.int .i64 0,.int .i64 0,.int .i64 0,.slice none 0 0] 41 := by rw [← hW,← hs1]; exact Blk.new_ _ _ _
 have hO : Blk W w.heap.size #[.int .u8 kind,.string path,.string other,.int .i64 hn,.int .i64 frm,.int .i64 n,.slice da dn dc] 41 := by rw [← hW]; exact (Blk.new_ _ _ _).alloc _
 have hbW : Below w.heap.size w W := by rw [← hW]; exact (bW_).alloc (by rw [hs1]; omega) _
 have hsW : W.heap.size = w.heap.size + 2 := by rw [← hW]; simp
 have hbA := bN_ W (.cells #[] 5)
 have BS1 := hQ_ (hbs.below (Own.keeps hbW hbA))
 have hoA := hO.below hbA
 have V_6 := cZ6 hoA
 have HW := hQ_ hW
 have HB := hQ_ hB
 have HO := hQ_ hO
 have HBW := hQ_ hbW
 have HSW := hQ_ hsW
 have HBA := hQ_ hbA
 clear hW hs1 hB hO hbW hsW hbA hbs hoA
 go_enter Tryz.func14,Tryz.ntmps14
 go_upto_region 1 with (fail)
 rw [HW.out]
 go_wp2_with (first | ((with_reducible refine pick (some 6) ?_); refine Tx.wpList_append_any u8E 5 rfl _ _ _ rfl Tryz.underlying39 FileKd.info_u8 rfl W.heap.size _ 0 [] rfl (So.new_ u8E 5 W (Nat.le_refl _)) da dn dc xs rfl (bs_sl BS1.out) hnil dn (by omega) xs rfl (by unfold maxLen; omega) (by omega) (by simp) ?_; intro v3 w3 hown3 hg3 hat3; obtain ⟨g3,c3,rfl,hlo3,hhi3,hfit3,hmax3⟩ := own_some hown3 hat3; have hb3 : Below W.heap.size W w3 := HBA.out.grown hg3 HBA.out.size (fun k hk => by cases hk; exact Nat.le_refl _); have O3 := hQ_ (HO.out.below hb3); have B3 := hQ_ (HB.out.below hb3); have S3 := hQ_ hown3; have K3 := hQ_ (And.intro hlo3 (And.intro hhi3 (And.intro hfit3 hmax3))); have BB3 := hQ_ (Own.keeps HBW.out hb3); have fr : w3.frozen? ⟨w.heap.size,6,none⟩ = false := O3.out.frozen _; have c6 : w3.cell? ⟨w.heap.size,6,none⟩ = some (.slice da dn dc) := O3.out.cell 6; have O4 : Hid (Blk (w3.setCell ⟨w.heap.size,6,none⟩ (.slice (some ⟨g3,0,none⟩) dn c3)) w.heap.size #[.int .u8 kind,.string path,.string other,.int .i64 hn,.int .i64 frm,.int .i64 n,.slice (some ⟨g3,0,none⟩) dn c3] 41) := hQ_ (O3.out.set_ 6 _); have B4 := hQ_ (B3.out.far (p := ⟨w.heap.size,6,none⟩) (by show w.heap.size + 1 ≠ w.heap.size; omega) (.slice (some ⟨g3,0,none⟩) dn c3)); clear V_6 hg3 hat3 hown3 hb3 hlo3 hhi3 hfit3 hmax3) | ((with_reducible refine pick (some 8) ?_); refine load_blk rfl 41 _ rfl w.heap.size rfl 41 _ _ O4.out Tryz.underlying41 rfl info_op20 ?_) | ((with_reducible refine pick none ?_); refine store_blk rfl 41 _ _ rfl (w.heap.size + 1) #[.int .u8 kind,.string path,.string other,.int .i64 hn,.int .i64 frm,.int .i64 n,.slice (some ⟨g3,0,none⟩) dn c3] rfl rfl 41 _ B4.out info_op20 rfl (by simp [Value.oneCell']) ?_; intro w8 hk8 hg8))
 have hc8 : Chg (fun k => k = w.heap.size ∨ k = w.heap.size + 1) w3 w8 := ((Chg.refl (fun k => k = w.heap.size ∨ k = w.heap.size + 1) w3).setCell (p := ⟨w.heap.size,6,none⟩) (.inl (.inl rfl)) _).trans (Chg.of_grown hg8 (fun k hk => .inl (.inr (Option.some.inj hk).symm)))
 have hs8 := hc8.size
 have h1 := K3.out.1
 have h2 := K3.out.2.1
 have hsw := HSW.out
 exact bodyPost_ret (v := .agg #[.int .u8 kind,.string path,.string other,.int .i64 hn,.int .i64 frm,.int .i64 n,.slice (some ⟨g3,0,none⟩) dn c3]) (results_cell_row rfl _ _ (w.heap.size + 1) 41 _ (0,0) _ rfl hk8 Tryz.underlying41 rfl info_op20) rfl ⟨g3,c3,rfl,So.lower (FileKd.so_chg S3.out hc8 (fun b hb e => by have hb' : g3 = b := Option.some.inj hb; rcases e with e | e <;> (have e' : b = _ := e; omega))) (by omega),by omega,by omega,K3.out.2.2.1,K3.out.2.2.2,(BB3.out.setCell (p := ⟨w.heap.size,6,none⟩) (Nat.le_refl _) _).grown hg8 (BB3.out.setCell (p := ⟨w.heap.size,6,none⟩) (Nat.le_refl _) _).size (fun k hk => by injection hk with hk; omega)⟩
end Go.Proofs.YtogdjbhjgbnicaaGreatDoor.OpsC
namespace Go.Proofs.YtogdjbhjgbnicaaGreatDoor.OpsA
open Go.RowKit
open Byte Lst Chg OpsR OpsE
open Own hiding keeps lower
theorem same_calls (er n k l z p : Int) (da ea : Option Addr) (dn en dc ec : Nat) (na ma : Option Addr) (nn nc mc : Nat) (w : World) {ys : List Int} {names : List ByteArray} (h1 : Bs w da dn ys) (h2 : Bs w ea en ys) (h3 : Sl Tx.txE w na nn names) (h4 : Sl Tx.txE w ma nn names) (hn : nn ≤ 100000) :
 Calls Tryz.prog 18 #[(⟨er,n,da,dn,dc,na,nn,nc,k,l,z,p⟩ : Res20).val,(⟨er,n,ea,en,ec,ma,nn,mc,k,l,z,p⟩ : Res20).val] w fun e w' => e = .returned (.bool true) ∧ Below w.heap.size w w' := by
 dsimp only [Res20.val,Res20.cells]
 obtain ⟨W,hW⟩ : ∃ W,(w.alloc (.cells #[.int .i64 er,.int .i64 n,.slice da dn dc,.slice na nn nc,.int .u8 k,.int .u32 l,.int .u32 z,.int .u32 p] 48)).alloc (.cells #[.int .i64 er,.int .i64 n,.slice ea en ec,.slice ma nn mc,.int .u8 k,.int .u32 l,.int .u32 z,.int .u32 p] 48) = W := ⟨_,rfl⟩
 have hs1 : (w.alloc (.cells #[.int .i64 er,.int .i64 n,.slice da dn dc,.slice na nn nc,.int .u8 k,.int .u32 l,.int .u32 z,.int .u32 p] 48)).heap.size = w.heap.size + 1 := by simp
 have hB : Blk W (w.heap.size + 1) #[.int .i64 er,.int .i64 n,.slice ea en ec,.slice ma nn mc,.int .u8 k,.int .u32 l,.int .u32 z,.int .u32 p] 48 := by rw [← hW,← hs1]; exact Blk.new_ _ _ _
 have hO : Blk W w.heap.size #[.int .i64 er,.int .i64 n,.slice da dn dc,.slice na nn nc,.int .u8 k,.int .u32 l,.int .u32 z,.int .u32 p] 48 := by rw [← hW]; exact (Blk.new_ _ _ _).alloc _
 have hbW : Below w.heap.size w W := by rw [← hW]; exact (bW_).alloc (by rw [hs1]; omega) _
 have V0 := hO.cell 0
 have V1 := hO.cell 1
 have V2 := hO.cell 2
 have V3 := hO.cell 3
 have U0 := hB.cell 0
 have U1 := hB.cell 1
 have U2 := hB.cell 2
 have U3 := hB.cell 3
 have cv1 := (h1.below hbW).str_ (P := Tryz.prog) (c := dc) 39 9 Tryz.underlying39 Tryz.underlying5 Tryz.underlying9
 have cv2 := (h2.below hbW).str_ (P := Tryz.prog) (c := ec) 39 9 Tryz.underlying39 Tryz.underlying5 Tryz.underlying9
 have HW := hQ_ hW
 have HB := hQ_ hB
 have HO := hQ_ hO
 have HBW := hQ_ hbW
 have H3 := hQ_ (h3.below hbW)
 have H4 := hQ_ (h4.below hbW)
 clear hW hs1 hB hO hbW h1 h2 h3 h4
 go_enter Tryz.func18,Tryz.ntmps18
 go_upto_region 1 with (fail)
 rw [HW.out]
 go_wp2_with fail
 refine (NamesS.same_calls na ma nn nc mc names _ H3.out H4.out hn).mono ?_
 rintro e w3 ⟨rfl,hb3⟩
 have O3 := HO.out.below hb3
 have B3 := HB.out.below hb3
 have v4 := O3.cell 4
 have v5 := O3.cell 5
 have v6 := O3.cell 6
 have v7 := O3.cell 7
 have u4 := B3.cell 4
 have u5 := B3.cell 5
 have u6 := B3.cell 6
 have u7 := B3.cell 7
 have HE := hQ_ (Own.keeps HBW.out hb3)
 clear O3 B3 hb3 V0 V1 V2 V3 U0 U1 U2 U3 cv1 cv2
 go_wp2_with fail
 go_ret
 exact ⟨rfl,HE.out⟩
end Go.Proofs.YtogdjbhjgbnicaaGreatDoor.OpsA
namespace Go.Proofs.YtogdjbhjgbnicaaGreatDoor.OpsFm
open Go.RowKit
open Byte KeysM ViewM NodeM WalkM WalkF WalkKm DirsV DirsKc FileM FileV OpsI OpsK OpsS OpsW
def pa : ByteArray := ⟨#[47,97]⟩
def h0 : List Int := [0,0,0,0,0,0,0,0,0,0,0,0,0,0,0,0]
def h1 : List Int := [2,0,0,0,0,0,0,0,0,0,0,0,0,0,0,0]
def s0 : Vs := ⟨[],[],[],[]⟩
def s1 : Vs := (goW s0 (makV s0.shown pa 1 2).2).1
theorem f1 : (makV s0.shown pa 1 2).1 = 0 ∧ (goW s0 (makV s0.shown pa 1 2).2).2 = true := by decide +kernel
theorem f2 : opnV s1.shown h0 pa = (0,0,h1) := by decide +kernel
theorem f3 : inoD h1 0 = (2,0) := by decide +kernel
def s2 : Vs := (goW s1 (wriV s1.shown 2 0 [120,121]).2).1
theorem f4 : (wriV s1.shown 2 0 [120,121]).1 = 0 ∧ (goW s1 (wriV s1.shown 2 0 [120,121]).2).2 = true := by decide +kernel
theorem f5 : reaV s2.shown 2 0 9 = ([120,121],0) := by decide +kernel
end Go.Proofs.YtogdjbhjgbnicaaGreatDoor.OpsFm