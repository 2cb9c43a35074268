import Derived.Test.YtogdjbhjgbnicaaGreatDoorSq
import Derived.Test.YtogdjbhjgbnicaaGreatDoorOpsNumbersMAG
import Derived.Test.YtogdjbhjgbnicaaGreatDoorHor
import Derived.Test.YtogdjbhjgbnicaaGreatDoorOpsNumbersMBT
import Derived.Test.YtogdjbhjgbnicaaGreatDoorOpsNumbersMBU
import Derived.Test.YtogdjbhjgbnicaaGreatDoorChg
import Derived.Test.YtogdjbhjgbnicaaGreatDoorNodeM
set_option maxHeartbeats 16000000
set_option linter.unusedVariables false
set_option linter.unusedSimpArgs false
set_option maxRecDepth 100000
namespace Go.Proofs.YtogdjbhjgbnicaaGreatDoor.OpsJ
open Go.RowKit
open Byte KeysM TreeM ViewM ViewKm NodeM NodeG NamesM NamesL WalkM WalkF WalkKm DirsV Lst Chg TreeL ViewL WalkL WalkV Vat DirsK DirsKa DirsKc Ho OpsR OpsD OpsE OpsI
open Own hiding lower
variable {Rep : RepT}
def AnsO (Rep : RepT) (v : Value) (s : Vs) (er : Int) (ps : List Wrt) (k m : Nat) (S D : Nat → Prop) (w : World) (e : Ending) (w' : World) : Prop := ∃ s' S' D',e = .returned (onlyV (if (goW s ps).2 = true then er else 21)) ∧ Rep w' v s' S' D' ∧ Stp S D S' D' w w' ∧ Aft s s' ps k m
theorem kept_row {w w' : World} {g : Nat} {cs : Array Value} {T : TypeId} (h : Blk w g cs T) (hg : w.grownBy w' (some g)) (hne : 76 ≠ T ∧ 125 ≠ T) : Kept w w' := fun b cs' U fr hU hb => by
 have hlt : b < w.heap.size := (Array.getElem?_eq_some_iff.1 hb).1
 by_cases e : b = g
 ·subst e
  unfold Blk at h
  rw [h] at hb
  injection hb with hb
  injection hb with _ hT _
  subst hT
  rcases hU with h1 | h1
  ·exact absurd h1.symm hne.1
  ·exact absurd h1.symm hne.2
 ·exact (hg.block b hlt (fun x => e (Option.some.inj x))).trans hb
theorem fin_view (hV : Stays Rep) {w W3 w3 w4 w5 : World} {v : Value} {s' : Vs} {S D S' D' : Nat → Prop} {g : Nat} {old : Array Value} (hlt : ∀ b,D b → b < w.heap.size) (hsub : ∀ b,S b → D b) (h0 : Below w.heap.size w W3) (hr : Rep w3 v s' S' D') (st : Stp S D S' D' W3 w3) (h4 : Below w3.heap.size w3 w4) (hb : Blk w4 g old 48) (hg5 : w4.grownBy w5 (some g)) (h1 : w.heap.size ≤ g) (h2 : g < W3.heap.size) : Rep w5 v s' S' D' ∧ Stp S D S' D' w w5 := by
 have hk : Kept w4 w5 := kept_row hb hg5 (by decide)
 have hc : Chg (fun k => k = g) w4 w5 := Chg.of_grown hg5 (fun k hk => .inl (by injection hk with hk; exact hk.symm))
 have hnd : ∀ b,b = g → ¬ D' b := fun b e hd => by
  subst e
  rcases st.dep b hd with h | h
  ·have := hlt b h
   omega
  ·omega
 refine ⟨hV.stay (hV.below hr h4) hc hnd hk,⟨?_,?_,?_,?_⟩⟩
 ·have c1 : Chg S w w3 := (Chg.of_below h0 : Chg S w W3).trans st.chg
  have c2 : Chg S w w4 := c1.trans (Chg.of_below h4)
  exact c2.then_ hc (fun i hi e => by have e' : i = g := e; omega)
 ·exact ViewD.Kept.trans (Kept.of_below h0) (ViewD.Kept.trans st.kept (ViewD.Kept.trans (Kept.of_below h4) hk))
 ·intro b hb
  rcases st.own b hb with h | h
  ·exact .inl h
  ·exact .inr (Nat.le_trans h0.size h)
 ·intro b hb
  rcases st.dep b hb with h | h
  ·exact .inl h
  ·exact .inr (Nat.le_trans h0.size h)
theorem find_cells {w W q0 : World} {S D : Nat → Prop} {g : Nat} {v : Value} {hs : List Int} {cs : Array Value} {T : TypeId} (hd : Dsk w g v hs) (hng : ¬ D g) (hlt : ∀ b,D b → b < w.heap.size) (hsub : ∀ b,S b → D b) (hb : Below w.heap.size w W) (hO : Blk W w.heap.size cs T) (hq : Chg (fun k => S k ∨ k = w.heap.size + 1) W q0) : q0.cell? ⟨g,0,none⟩ = some v ∧ ∀ i,q0.cell? ⟨w.heap.size,i,none⟩ = cs[i]? := by
 have h1 : q0.heap[g]? = W.heap[g]? := hq.block g (hd.below hb).blk.lt (fun h => by
  rcases h with h | h
  ·exact hng (hsub g h)
  ·have := hd.blk.lt
   omega)
 have h2 : q0.heap[w.heap.size]? = W.heap[w.heap.size]? := hq.block w.heap.size hO.lt (fun h => by
  rcases h with h | h
  ·have := hlt _ (hsub _ h)
   omega
  ·omega)
 refine ⟨?_,fun i => ?_⟩
 ·have hb2 : Dsk q0 g v hs := ⟨h1.trans (hd.below hb).blk,hd.len,hd.bd⟩
  exact hb2.view
 ·have hb2 : Blk q0 w.heap.size cs T := h2.trans hO
  exact hb2.cell i
theorem create_deed (hW0 : Wk Rep) {w : World} {g : Nat} {v : Value} {hs : List Int} {s : Vs} {S D : Nat → Prop} (o : Op20) (ino : Int) (hd : Dsk w g v hs) (hr : Rep w v s S D) (hng : ¬ D g) (hl : Lim s) (h2 : s.rd.length ≤ 18000) (h3 : s.rg.length ≤ 900) (hx : Mxs w S) (hp : o.path.size ≤ 100000) (i0 : 0 ≤ ino) (i1 : ino ≤ 4294967295) :
 Calls Tryz.prog 45 #[.pointer (some ⟨g,0,none⟩),o.val,.int .u32 ino] w (AnsO Rep v s (makV s.shown o.path 1 ino).1 (makV s.shown o.path 1 ino).2 41 0 S D w) := by
 obtain ⟨kind,path,other,hn,frm,n,da,dn,dc⟩ := o
 dsimp only [Op20.val,Op20.cells] at *
 have hlt := hW0.stays.lt hr
 have hsub := hW0.stays.sub hr
 obtain ⟨W,hW⟩ : ∃ W,(w.alloc (.cells #[.int .u8 kind,.string path,.string other,.int .i64 hn,.int .i64 frm,.int .i64 n,.slice da dn dc] 41)).alloc (.cells zres 48) = W := ⟨_,rfl⟩
 have hs1 : (w.alloc (.cells #[.int .u8 kind,.string path,.string other,.int .i64 hn,.int .i64 frm,.int .i64 n,.slice da dn dc] 41)).heap.size = w.heap.size + 1 := by simp
 have HB : Hid (Blk W (w.heap.size + 1) zres 48) := hQ_ (by rw [← hW,← hs1]; exact Blk.new_ _ zres _)
 have hO : Blk W w.heap.size #[.int .u8 kind,.string path,.string other,.int .i64 hn,.int .i64 frm,.int .i64 n,.slice da dn dc] 41 := by rw [← hW]; exact (Blk.new_ _ _ _).alloc _
 have hbW : Below w.heap.size w W := by rw [← hW]; exact (bW_).alloc (by rw [hs1]; omega) _
 have hsW : W.heap.size = w.heap.size + 2 := by rw [← hW]; simp
 obtain ⟨er,her⟩ : ∃ er,(makV s.shown path 1 ino).1 = er := ⟨_,rfl⟩
 obtain ⟨ps,hps⟩ : ∃ ps,(makV s.shown path 1 ino).2 = ps := ⟨_,rfl⟩
 have hbd : Below w.heap.size w W.drew := hbW.drew
 have hc := DirsKe.make_calls hW0 path 1 ino (hW0.stays.below hr hbd) hl h2 h3 (hx.below hbd) hp (by omega) (by omega) i0 i1
 rw [her,hps] at hc
 rw [her,hps]
 obtain ⟨J,hJ⟩ : ∃ J : Int,(if (goW s ps).2 = true then er else 21) = J := ⟨_,rfl⟩
 unfold Ans at hc
 simp only [hJ] at hc
 have HC := hQ_ hc
 have RD : Hid (∀ q0,Chg (fun k => S k ∨ k = w.heap.size + 1) W q0 → Chg (fun k => S k ∨ k = w.heap.size + 1) W q0 ∧ q0.cell? ⟨g,0,none⟩ = some v ∧ q0.cell? ⟨w.heap.size,1,none⟩ = some (.string path) ∧ q0.cell? ⟨w.heap.size,2,none⟩ = some (.string other)) := hQ_ (fun q0 hq => by
  obtain ⟨c1,c2⟩ := find_cells hd hng hlt hsub hbW hO hq
  exact ⟨hq,c1,c2 1,c2 2⟩)
 have HLT := hQ_ hlt
 have HSUB := hQ_ hsub
 have HW := hQ_ hW
 have HBD := hQ_ hbd
 have HJ := hQ_ hJ
 have HSW := hQ_ hsW
 have HVS := hQ_ hW0.stays
 clear hW hs1 hO hbW hsW her hps hbd hc hJ hlt hsub hd hr hng hl h2 h3 hx hW0 hp i0 i1
 go_enter Tryz.func45,Tryz.ntmps45
 go_wp2_with fail
 rw [HW.out]
 go_wp2_with fail
 refine wp_region_held_drew (S := fun q0 => Chg (fun k => S k ∨ k = w.heap.size + 1) W q0 ∧ q0.cell? ⟨g,0,none⟩ = some v ∧ q0.cell? ⟨w.heap.size,1,none⟩ = some (.string path) ∧ q0.cell? ⟨w.heap.size,2,none⟩ = some (.string other)) (by kernel_rfl) (RD.out _ (Chg.refl _ _).drew) (fun hHeld => ?_)
 refine hw_ 0 (some 7) ?_
 refine hw_ 1 (some 8) ?_
 refine hw_ 2 (some 9) ?_
 refine hw_ 3 (some 10) ?_
 refine hw_ 4 (some 11) ?_
 refine hw_ 5 (some 12) ?_
 refine hw_ 6 (some 13) ?_
 refine ho_step 7 (some 14) rfl rfl (by kernel_rfl) (by kernel_rfl) (fun K hK => ?_)
 go_simp
 go_at_call 78
 refine HC.out.mono ?_
 rintro e w3 ⟨s',S',D',rfl,hr3,st3,aft3⟩
 have hq3 : Chg (fun k => S k ∨ k = w.heap.size + 1) W w3 := (Chg.refl _ _).drew.trans (st3.chg.mono (fun _ _ h => .inl h))
 have hb3 : Blk w3 (w.heap.size + 1) zres 48 := (st3.chg.block _ HB.out.lt (fun h => by have := HLT.out _ (HSUB.out _ h); omega)).trans HB.out
 try go_wp2_with fail
 refine hK.out _ _ (RD.out _ hq3) (fun hHeld2 => ?_)
 clear hHeld
 have hHeld := hHeld2
 clear hHeld2
 clear hK K
 try simp only [pZ_]
 refine ho_step 8 (some 15) rfl rfl (by kernel_rfl) (by kernel_rfl) (fun K hK => ?_)
 go_simp
 go_at_call 26
 refine (only_calls J _).mono ?_
 rintro e w4 ⟨rfl,hb4⟩
 have hq4 := hq3.trans (Chg.of_below hb4)
 try go_wp2_with fail
 refine hK.out _ _ (RD.out _ hq4) (fun hHeld2 => ?_)
 clear hHeld
 have hHeld := hHeld2
 clear hHeld2
 clear hK K
 try simp only [pZ_]
 refine Hor.ho_row 9 48 _ _ (w.heap.size + 1) #[.int .i64 J,.int .i64 0,.slice none 0 0,.slice none 0 0,.int .u8 0,.int .u32 0,.int .u32 0,.int .u32 0] 48 _ rfl rfl rfl (by kernel_rfl) (by kernel_rfl) rfl rfl (hb3.below hb4) info_res rfl (by simp [Value.oneCell']) (fun w5 hk5 hg5 => RD.out _ (hq4.trans (Chg.of_grown hg5 (fun k hk => .inl (.inr (by injection hk with hk; exact hk.symm)))))) (fun w5 hk5 hg5 => ?_)
 refine wpAnyH_done (by kernel_rfl) ?_ _
 have hz := fin_view HVS.out HLT.out HSUB.out HBD.out hr3 st3 hb4 (hb3.below hb4) hg5 (Nat.le_succ _) (by show w.heap.size + 1 < W.heap.size; rw [HSW.out]; omega)
 have HZ := hQ_ hz
 have HK5 := hQ_ hk5
 have HA3 := hQ_ aft3
 clear hz hr3 st3 hb4 hg5 hk5 aft3 hq3 hq4 hb3 RD
 go_wp2_with fail
 exact bodyPost_ret (v := onlyV J) (results_cell_row rfl _ _ (w.heap.size + 1) 48 _ (0,0) _ rfl HK5.out Tryz.underlying48 rfl info_res) rfl ⟨s',S',D',by rw [HJ.out],HZ.out.1,HZ.out.2,HA3.out⟩
theorem mkdir_deed (hW0 : Wk Rep) {w : World} {g : Nat} {v : Value} {hs : List Int} {s : Vs} {S D : Nat → Prop} (o : Op20) (ino : Int) (hd : Dsk w g v hs) (hr : Rep w v s S D) (hng : ¬ D g) (hl : Lim s) (h2 : s.rd.length ≤ 18000) (h3 : s.rg.length ≤ 900) (hx : Mxs w S) (hp : o.path.size ≤ 100000) (i0 : 0 ≤ ino) (i1 : ino ≤ 4294967295) :
 Calls Tryz.prog 46 #[.pointer (some ⟨g,0,none⟩),o.val,.int .u32 ino] w (AnsO Rep v s (makV s.shown o.path 2 ino).1 (makV s.shown o.path 2 ino).2 41 0 S D w) := by
 obtain ⟨kind,path,other,hn,frm,n,da,dn,dc⟩ := o
 dsimp only [Op20.val,Op20.cells] at *
 have hlt := hW0.stays.lt hr
 have hsub := hW0.stays.sub hr
 obtain ⟨W,hW⟩ : ∃ W,(w.alloc (.cells #[.int .u8 kind,.string path,.string other,.int .i64 hn,.int .i64 frm,.int .i64 n,.slice da dn dc] 41)).alloc (.cells zres 48) = W := ⟨_,rfl⟩
 have hs1 : (w.alloc (.cells #[.int .u8 kind,.string path,.string other,.int .i64 hn,.int .i64 frm,.int .i64 n,.slice da dn dc] 41)).heap.size = w.heap.size + 1 := by simp
 have HB : Hid (Blk W (w.heap.size + 1) zres 48) := hQ_ (by rw [← hW,← hs1]; exact Blk.new_ _ zres _)
 have hO : Blk W w.heap.size #[.int .u8 kind,.string path,.string other,.int .i64 hn,.int .i64 frm,.int .i64 n,.slice da dn dc] 41 := by rw [← hW]; exact (Blk.new_ _ _ _).alloc _
 have hbW : Below w.heap.size w W := by rw [← hW]; exact (bW_).alloc (by rw [hs1]; omega) _
 have hsW : W.heap.size = w.heap.size + 2 := by rw [← hW]; simp
 obtain ⟨er,her⟩ : ∃ er,(makV s.shown path 2 ino).1 = er := ⟨_,rfl⟩
 obtain ⟨ps,hps⟩ : ∃ ps,(makV s.shown path 2 ino).2 = ps := ⟨_,rfl⟩
 have hbd : Below w.heap.size w W.drew := hbW.drew
 have hc := DirsKe.make_calls hW0 path 2 ino (hW0.stays.below hr hbd) hl h2 h3 (hx.below hbd) hp (by omega) (by omega) i0 i1
 rw [her,hps] at hc
 rw [her,hps]
 obtain ⟨J,hJ⟩ : ∃ J : Int,(if (goW s ps).2 = true then er else 21) = J := ⟨_,rfl⟩
 unfold Ans at hc
 simp only [hJ] at hc
 have HC := hQ_ hc
 have RD : Hid (∀ q0,Chg (fun k => S k ∨ k = w.heap.size + 1) W q0 → Chg (fun k => S k ∨ k = w.heap.size + 1) W q0 ∧ q0.cell? ⟨g,0,none⟩ = some v ∧ q0.cell? ⟨w.heap.size,1,none⟩ = some (.string path) ∧ q0.cell? ⟨w.heap.size,2,none⟩ = some (.string other)) := hQ_ (fun q0 hq => by
  obtain ⟨c1,c2⟩ := find_cells hd hng hlt hsub hbW hO hq
  exact ⟨hq,c1,c2 1,c2 2⟩)
 have HLT := hQ_ hlt
 have HSUB := hQ_ hsub
 have HW := hQ_ hW
 have HBD := hQ_ hbd
 have HJ := hQ_ hJ
 have HSW := hQ_ hsW
 have HVS := hQ_ hW0.stays
 clear hW hs1 hO hbW hsW her hps hbd hc hJ hlt hsub hd hr hng hl h2 h3 hx hW0 hp i0 i1
 go_enter Tryz.func46,Tryz.ntmps46
 go_wp2_with fail
 rw [HW.out]
 go_wp2_with fail
 refine wp_region_held_drew (S := fun q0 => Chg (fun k => S k ∨ k = w.heap.size + 1) W q0 ∧ q0.cell? ⟨g,0,none⟩ = some v ∧ q0.cell? ⟨w.heap.size,1,none⟩ = some (.string path) ∧ q0.cell? ⟨w.heap.size,2,none⟩ = some (.string other)) (by kernel_rfl) (RD.out _ (Chg.refl _ _).drew) (fun hHeld => ?_)
 refine hw_ 0 (some 7) ?_
 refine hw_ 1 (some 8) ?_
 refine hw_ 2 (some 9) ?_
 refine hw_ 3 (some 10) ?_
 refine hw_ 4 (some 11) ?_
 refine hw_ 5 (some 12) ?_
 refine hw_ 6 (some 13) ?_
 refine ho_step 7 (some 14) rfl rfl (by kernel_rfl) (by kernel_rfl) (fun K hK => ?_)
 go_simp
 go_at_call 78
 refine HC.out.mono ?_
 rintro e w3 ⟨s',S',D',rfl,hr3,st3,aft3⟩
 have hq3 : Chg (fun k => S k ∨ k = w.heap.size + 1) W w3 := (Chg.refl _ _).drew.trans (st3.chg.mono (fun _ _ h => .inl h))
 have hb3 : Blk w3 (w.heap.size + 1) zres 48 := (st3.chg.block _ HB.out.lt (fun h => by have := HLT.out _ (HSUB.out _ h); omega)).trans HB.out
 try go_wp2_with fail
 refine hK.out _ _ (RD.out _ hq3) (fun hHeld2 => ?_)
 clear hHeld
 have hHeld := hHeld2
 clear hHeld2
 clear hK K
 try simp only [pZ_]
 refine ho_step 8 (some 15) rfl rfl (by kernel_rfl) (by kernel_rfl) (fun K hK => ?_)
 go_simp
 go_at_call 26
 refine (only_calls J _).mono ?_
 rintro e w4 ⟨rfl,hb4⟩
 have hq4 := hq3.trans (Chg.of_below hb4)
 try go_wp2_with fail
 refine hK.out _ _ (RD.out _ hq4) (fun hHeld2 => ?_)
 clear hHeld
 have hHeld := hHeld2
 clear hHeld2
 clear hK K
 try simp only [pZ_]
 refine Hor.ho_row 9 48 _ _ (w.heap.size + 1) #[.int .i64 J,.int .i64 0,.slice none 0 0,.slice none 0 0,.int .u8 0,.int .u32 0,.int .u32 0,.int .u32 0] 48 _ rfl rfl rfl (by kernel_rfl) (by kernel_rfl) rfl rfl (hb3.below hb4) info_res rfl (by simp [Value.oneCell']) (fun w5 hk5 hg5 => RD.out _ (hq4.trans (Chg.of_grown hg5 (fun k hk => .inl (.inr (by injection hk with hk; exact hk.symm)))))) (fun w5 hk5 hg5 => ?_)
 refine wpAnyH_done (by kernel_rfl) ?_ _
 have hz := fin_view HVS.out HLT.out HSUB.out HBD.out hr3 st3 hb4 (hb3.below hb4) hg5 (Nat.le_succ _) (by show w.heap.size + 1 < W.heap.size; rw [HSW.out]; omega)
 have HZ := hQ_ hz
 have HK5 := hQ_ hk5
 have HA3 := hQ_ aft3
 clear hz hr3 st3 hb4 hg5 hk5 aft3 hq3 hq4 hb3 RD
 go_wp2_with fail
 exact bodyPost_ret (v := onlyV J) (results_cell_row rfl _ _ (w.heap.size + 1) 48 _ (0,0) _ rfl HK5.out Tryz.underlying48 rfl info_res) rfl ⟨s',S',D',by rw [HJ.out],HZ.out.1,HZ.out.2,HA3.out⟩
theorem link_deed (hW0 : Wk Rep) {w : World} {g : Nat} {v : Value} {hs : List Int} {s : Vs} {S D : Nat → Prop} (o : Op20) (ino : Int) (hd : Dsk w g v hs) (hr : Rep w v s S D) (hng : ¬ D g) (hl : Lim s) (h2 : s.rd.length ≤ 18000) (h3 : s.rg.length ≤ 900) (hx : Mxs w S) (hp : o.path.size ≤ 100000) (hp2 : o.other.size ≤ 100000) :
 Calls Tryz.prog 53 #[.pointer (some ⟨g,0,none⟩),o.val,.int .u32 ino] w (AnsO Rep v s (lnkV s.shown o.path o.other).1 (lnkV s.shown o.path o.other).2 81 0 S D w) := by
 obtain ⟨kind,path,other,hn,frm,n,da,dn,dc⟩ := o
 dsimp only [Op20.val,Op20.cells] at *
 have hlt := hW0.stays.lt hr
 have hsub := hW0.stays.sub hr
 obtain ⟨W,hW⟩ : ∃ W,(w.alloc (.cells #[.int .u8 kind,.string path,.string other,.int .i64 hn,.int .i64 frm,.int .i64 n,.slice da dn dc] 41)).alloc (.cells zres 48) = W := ⟨_,rfl⟩
 have hs1 : (w.alloc (.cells #[.int .u8 kind,.string path,.string other,.int .i64 hn,.int .i64 frm,.int .i64 n,.slice da dn dc] 41)).heap.size = w.heap.size + 1 := by simp
 have HB : Hid (Blk W (w.heap.size + 1) zres 48) := hQ_ (by rw [← hW,← hs1]; exact Blk.new_ _ zres _)
 have hO : Blk W w.heap.size #[.int .u8 kind,.string path,.string other,.int .i64 hn,.int .i64 frm,.int .i64 n,.slice da dn dc] 41 := by rw [← hW]; exact (Blk.new_ _ _ _).alloc _
 have hbW : Below w.heap.size w W := by rw [← hW]; exact (bW_).alloc (by rw [hs1]; omega) _
 have hsW : W.heap.size = w.heap.size + 2 := by rw [← hW]; simp
 obtain ⟨er,her⟩ : ∃ er,(lnkV s.shown path other).1 = er := ⟨_,rfl⟩
 obtain ⟨ps,hps⟩ : ∃ ps,(lnkV s.shown path other).2 = ps := ⟨_,rfl⟩
 have hbd : Below w.heap.size w W.drew := hbW.drew
 have hc := DirsKg.lnk_calls hW0 path other (hW0.stays.below hr hbd) hl h2 h3 (hx.below hbd) hp hp2
 rw [her,hps] at hc
 rw [her,hps]
 obtain ⟨J,hJ⟩ : ∃ J : Int,(if (goW s ps).2 = true then er else 21) = J := ⟨_,rfl⟩
 unfold Ans at hc
 simp only [hJ] at hc
 have HC := hQ_ hc
 have RD : Hid (∀ q0,Chg (fun k => S k ∨ k = w.heap.size + 1) W q0 → Chg (fun k => S k ∨ k = w.heap.size + 1) W q0 ∧ q0.cell? ⟨g,0,none⟩ = some v ∧ q0.cell? ⟨w.heap.size,1,none⟩ = some (.string path) ∧ q0.cell? ⟨w.heap.size,2,none⟩ = some (.string other)) := hQ_ (fun q0 hq => by
  obtain ⟨c1,c2⟩ := find_cells hd hng hlt hsub hbW hO hq
  exact ⟨hq,c1,c2 1,c2 2⟩)
 have HLT := hQ_ hlt
 have HSUB := hQ_ hsub
 have HW := hQ_ hW
 have HBD := hQ_ hbd
 have HJ := hQ_ hJ
 have HSW := hQ_ hsW
 have HVS := hQ_ hW0.stays
 clear hW hs1 hO hbW hsW her hps hbd hc hJ hlt hsub hd hr hng hl h2 h3 hx hW0 hp hp2
 go_enter Tryz.func53,Tryz.ntmps53
 go_wp2_with fail
 rw [HW.out]
 go_wp2_with fail
 refine wp_region_held_drew (S := fun q0 => Chg (fun k => S k ∨ k = w.heap.size + 1) W q0 ∧ q0.cell? ⟨g,0,none⟩ = some v ∧ q0.cell? ⟨w.heap.size,1,none⟩ = some (.string path) ∧ q0.cell? ⟨w.heap.size,2,none⟩ = some (.string other)) (by kernel_rfl) (RD.out _ (Chg.refl _ _).drew) (fun hHeld => ?_)
 refine hw_ 0 (some 7) ?_
 refine hw_ 1 (some 8) ?_
 refine hw_ 2 (some 9) ?_
 refine hw_ 3 (some 10) ?_
 refine hw_ 4 (some 11) ?_
 refine hw_ 5 (some 12) ?_
 refine hw_ 6 (some 13) ?_
 refine hw_ 7 (some 14) ?_
 refine ho_step 8 (some 15) rfl rfl (by kernel_rfl) (by kernel_rfl) (fun K hK => ?_)
 go_simp
 go_at_call 86
 refine HC.out.mono ?_
 rintro e w3 ⟨s',S',D',rfl,hr3,st3,aft3⟩
 have hq3 : Chg (fun k => S k ∨ k = w.heap.size + 1) W w3 := (Chg.refl _ _).drew.trans (st3.chg.mono (fun _ _ h => .inl h))
 have hb3 : Blk w3 (w.heap.size + 1) zres 48 := (st3.chg.block _ HB.out.lt (fun h => by have := HLT.out _ (HSUB.out _ h); omega)).trans HB.out
 try go_wp2_with fail
 refine hK.out _ _ (RD.out _ hq3) (fun hHeld2 => ?_)
 clear hHeld
 have hHeld := hHeld2
 clear hHeld2
 clear hK K
 try simp only [pZ_]
 refine ho_step 9 (some 16) rfl rfl (by kernel_rfl) (by kernel_rfl) (fun K hK => ?_)
 go_simp
 go_at_call 26
 refine (only_calls J _).mono ?_
 rintro e w4 ⟨rfl,hb4⟩
 have hq4 := hq3.trans (Chg.of_below hb4)
 try go_wp2_with fail
 refine hK.out _ _ (RD.out _ hq4) (fun hHeld2 => ?_)
 clear hHeld
 have hHeld := hHeld2
 clear hHeld2
 clear hK K
 try simp only [pZ_]
 refine Hor.ho_row 10 48 _ _ (w.heap.size + 1) #[.int .i64 J,.int .i64 0,.slice none 0 0,.slice none 0 0,.int .u8 0,.int .u32 0,.int .u32 0,.int .u32 0] 48 _ rfl rfl rfl (by kernel_rfl) (by kernel_rfl) rfl rfl (hb3.below hb4) info_res rfl (by simp [Value.oneCell']) (fun w5 hk5 hg5 => RD.out _ (hq4.trans (Chg.of_grown hg5 (fun k hk => .inl (.inr (by injection hk with hk; exact hk.symm)))))) (fun w5 hk5 hg5 => ?_)
 refine wpAnyH_done (by kernel_rfl) ?_ _
 have hz := fin_view HVS.out HLT.out HSUB.out HBD.out hr3 st3 hb4 (hb3.below hb4) hg5 (Nat.le_succ _) (by show w.heap.size + 1 < W.heap.size; rw [HSW.out]; omega)
 have HZ := hQ_ hz
 have HK5 := hQ_ hk5
 have HA3 := hQ_ aft3
 clear hz hr3 st3 hb4 hg5 hk5 aft3 hq3 hq4 hb3 RD
 go_wp2_with fail
 exact bodyPost_ret (v := onlyV J) (results_cell_row rfl _ _ (w.heap.size + 1) 48 _ (0,0) _ rfl HK5.out Tryz.underlying48 rfl info_res) rfl ⟨s',S',D',by rw [HJ.out],HZ.out.1,HZ.out.2,HA3.out⟩
theorem rmdir_deed (hW0 : Wk Rep) {w : World} {g : Nat} {v : Value} {hs : List Int} {s : Vs} {S D : Nat → Prop} (o : Op20) (ino : Int) (hd : Dsk w g v hs) (hr : Rep w v s S D) (hng : ¬ D g) (hl : Lim s) (h2 : s.rd.length ≤ 18000) (h3 : s.rg.length ≤ 900) (hx : Mxs w S) (hp : o.path.size ≤ 100000) (hk : ∀ p ∈ s.shown,(sp p.key).letter ≠ 0) :
 Calls Tryz.prog 55 #[.pointer (some ⟨g,0,none⟩),o.val,.int .u32 ino] w (AnsO Rep v s (rmdV s.shown o.path).1 (rmdV s.shown o.path).2 41 1 S D w) := by
 obtain ⟨kind,path,other,hn,frm,n,da,dn,dc⟩ := o
 dsimp only [Op20.val,Op20.cells] at *
 have hlt := hW0.stays.lt hr
 have hsub := hW0.stays.sub hr
 obtain ⟨W,hW⟩ : ∃ W,(w.alloc (.cells #[.int .u8 kind,.string path,.string other,.int .i64 hn,.int .i64 frm,.int .i64 n,.slice da dn dc] 41)).alloc (.cells zres 48) = W := ⟨_,rfl⟩
 have hs1 : (w.alloc (.cells #[.int .u8 kind,.string path,.string other,.int .i64 hn,.int .i64 frm,.int .i64 n,.slice da dn dc] 41)).heap.size = w.heap.size + 1 := by simp
 have HB : Hid (Blk W (w.heap.size + 1) zres 48) := hQ_ (by rw [← hW,← hs1]; exact Blk.new_ _ zres _)
 have hO : Blk W w.heap.size #[.int .u8 kind,.string path,.string other,.int .i64 hn,.int .i64 frm,.int .i64 n,.slice da dn dc] 41 := by rw [← hW]; exact (Blk.new_ _ _ _).alloc _
 have hbW : Below w.heap.size w W := by rw [← hW]; exact (bW_).alloc (by rw [hs1]; omega) _
 have hsW : W.heap.size = w.heap.size + 2 := by rw [← hW]; simp
 obtain ⟨er,her⟩ : ∃ er,(rmdV s.shown path).1 = er := ⟨_,rfl⟩
 obtain ⟨ps,hps⟩ : ∃ ps,(rmdV s.shown path).2 = ps := ⟨_,rfl⟩
 have hbd : Below w.heap.size w W.drew := hbW.drew
 have hc := DirsKf.rmd_calls hW0 path (hW0.stays.below hr hbd) hl h2 h3 (hx.below hbd) hp hk
 rw [her,hps] at hc
 rw [her,hps]
 obtain ⟨J,hJ⟩ : ∃ J : Int,(if (goW s ps).2 = true then er else 21) = J := ⟨_,rfl⟩
 unfold Ans at hc
 simp only [hJ] at hc
 have HC := hQ_ hc
 have RD : Hid (∀ q0,Chg (fun k => S k ∨ k = w.heap.size + 1) W q0 → Chg (fun k => S k ∨ k = w.heap.size + 1) W q0 ∧ q0.cell? ⟨g,0,none⟩ = some v ∧ q0.cell? ⟨w.heap.size,1,none⟩ = some (.string path) ∧ q0.cell? ⟨w.heap.size,2,none⟩ = some (.string other)) := hQ_ (fun q0 hq => by
  obtain ⟨c1,c2⟩ := find_cells hd hng hlt hsub hbW hO hq
  exact ⟨hq,c1,c2 1,c2 2⟩)
 have HLT := hQ_ hlt
 have HSUB := hQ_ hsub
 have HW := hQ_ hW
 have HBD := hQ_ hbd
 have HJ := hQ_ hJ
 have HSW := hQ_ hsW
 have HVS := hQ_ hW0.stays
 clear hW hs1 hO hbW hsW her hps hbd hc hJ hlt hsub hd hr hng hl h2 h3 hx hW0 hp hk
 go_enter Tryz.func55,Tryz.ntmps55
 go_wp2_with fail
 rw [HW.out]
 go_wp2_with fail
 refine wp_region_held_drew (S := fun q0 => Chg (fun k => S k ∨ k = w.heap.size + 1) W q0 ∧ q0.cell? ⟨g,0,none⟩ = some v ∧ q0.cell? ⟨w.heap.size,1,none⟩ = some (.string path) ∧ q0.cell? ⟨w.heap.size,2,none⟩ = some (.string other)) (by kernel_rfl) (RD.out _ (Chg.refl _ _).drew) (fun hHeld => ?_)
 refine hw_ 0 (some 7) ?_
 refine hw_ 1 (some 8) ?_
 refine hw_ 2 (some 9) ?_
 refine hw_ 3 (some 10) ?_
 refine hw_ 4 (some 11) ?_
 refine hw_ 5 (some 12) ?_
 refine ho_step 6 (some 13) rfl rfl (by kernel_rfl) (by kernel_rfl) (fun K hK => ?_)
 go_simp
 go_at_call 88
 refine HC.out.mono ?_
 rintro e w3 ⟨s',S',D',rfl,hr3,st3,aft3⟩
 have hq3 : Chg (fun k => S k ∨ k = w.heap.size + 1) W w3 := (Chg.refl _ _).drew.trans (st3.chg.mono (fun _ _ h => .inl h))
 have hb3 : Blk w3 (w.heap.size + 1) zres 48 := (st3.chg.block _ HB.out.lt (fun h => by have := HLT.out _ (HSUB.out _ h); omega)).trans HB.out
 try go_wp2_with fail
 refine hK.out _ _ (RD.out _ hq3) (fun hHeld2 => ?_)
 clear hHeld
 have hHeld := hHeld2
 clear hHeld2
 clear hK K
 try simp only [pZ_]
 refine ho_step 7 (some 14) rfl rfl (by kernel_rfl) (by kernel_rfl) (fun K hK => ?_)
 go_simp
 go_at_call 26
 refine (only_calls J _).mono ?_
 rintro e w4 ⟨rfl,hb4⟩
 have hq4 := hq3.trans (Chg.of_below hb4)
 try go_wp2_with fail
 refine hK.out _ _ (RD.out _ hq4) (fun hHeld2 => ?_)
 clear hHeld
 have hHeld := hHeld2
 clear hHeld2
 clear hK K
 try simp only [pZ_]
 refine Hor.ho_row 8 48 _ _ (w.heap.size + 1) #[.int .i64 J,.int .i64 0,.slice none 0 0,.slice none 0 0,.int .u8 0,.int .u32 0,.int .u32 0,.int .u32 0] 48 _ rfl rfl rfl (by kernel_rfl) (by kernel_rfl) rfl rfl (hb3.below hb4) info_res rfl (by simp [Value.oneCell']) (fun w5 hk5 hg5 => RD.out _ (hq4.trans (Chg.of_grown hg5 (fun k hk => .inl (.inr (by injection hk with hk; exact hk.symm)))))) (fun w5 hk5 hg5 => ?_)
 refine wpAnyH_done (by kernel_rfl) ?_ _
 have hz := fin_view HVS.out HLT.out HSUB.out HBD.out hr3 st3 hb4 (hb3.below hb4) hg5 (Nat.le_succ _) (by show w.heap.size + 1 < W.heap.size; rw [HSW.out]; omega)
 have HZ := hQ_ hz
 have HK5 := hQ_ hk5
 have HA3 := hQ_ aft3
 clear hz hr3 st3 hb4 hg5 hk5 aft3 hq3 hq4 hb3 RD
 go_wp2_with fail
 exact bodyPost_ret (v := onlyV J) (results_cell_row rfl _ _ (w.heap.size + 1) 48 _ (0,0) _ rfl HK5.out Tryz.underlying48 rfl info_res) rfl ⟨s',S',D',by rw [HJ.out],HZ.out.1,HZ.out.2,HA3.out⟩
end Go.Proofs.YtogdjbhjgbnicaaGreatDoor.OpsJ
namespace Go.Proofs.YtogdjbhjgbnicaaGreatDoor.OpsK
open Go.RowKit
open Byte Lst Chg OpsR OpsD OpsE OpsI
open Own hiding lower
def fz (hs : List Int) : Int := if hs.findIdx (fun x => x == 0) < hs.length then ((hs.findIdx (fun x => x == 0) : Nat) : Int) else -1
theorem fz_at {hs : List Int} {k : Nat} (hk : k < hs.length) (h0 : hs.getD k 0 = 0) (h1 : ∀ j,j < k → hs.getD j 0 ≠ 0) : fz hs = k := by
 have e : hs.findIdx (fun x => x == 0) = k := by
  rw [List.findIdx_eq hk]
  refine ⟨?_,fun j hj => ?_⟩
  ·rw [List.getD_eq_getElem?_getD,List.getElem?_eq_getElem hk] at h0
   simpa using h0
  ·have := h1 j hj
   rw [List.getD_eq_getElem?_getD,List.getElem?_eq_getElem (by omega)] at this
   simpa using this
 unfold fz
 rw [e,if_pos hk]
theorem fz_no {hs : List Int} (h1 : ∀ j,j < hs.length → hs.getD j 0 ≠ 0) : fz hs = -1 := by
 unfold fz
 rw [if_neg ?_]
 intro h
 have h2 := List.findIdx_getElem (w := h)
 have h3 := h1 _ h
 rw [List.getD_eq_getElem?_getD,List.getElem?_eq_getElem h] at h3
 exact h3 (by simpa using h2)
theorem fz_bd (hs : List Int) : -1 ≤ fz hs ∧ fz hs < hs.length := by
 unfold fz
 split <;> omega
theorem index_calls {g : Nat} {v : Value} {hs : List Int} {w : World} (h : Dsk w g v hs) :
 Calls Tryz.prog 80 #[.slice (some ⟨g,1,none⟩) 16 16,.int .u32 0] w fun e w' => e = .returned (.int .i64 (fz hs)) ∧ w = w' := by
 have H := hQ_ h
 have HL := hQ_ h.len
 obtain ⟨Z,hZ⟩ : ∃ Z,fz hs = Z := ⟨_,rfl⟩
 have HZ := hQ_ hZ
 rw [hZ]
 clear h hZ
 go_enter Tryz.func80,Tryz.ntmps80
 go_wp2
 go_loop [8] (fun i => ∃ k : Nat,k ≤ 16 ∧ i = .int .i64 k ∧ Hid (∀ j,j < k → hs.getD j 0 ≠ 0)) (fun i => 16 - (intOf i).toNat)
 case atStart => exact ⟨0,Nat.zero_le _,rfl,hQ_ (fun j h => by omega)⟩
 case round =>
  obtain ⟨k,hk,rfl,HK⟩ := hrel
  by_cases hlt : k < 16
  ·have c1 := H.out.hand hlt
   by_cases h0 : hs.getD k 0 = 0
   ·rw [h0] at c1
    have HQ : Hid (Z = (k : Int)) := hQ_ (by rw [← HZ.out]; exact fz_at (by rw [HL.out]; exact hlt) h0 HK.out)
    clear h0
    go_wp2
    go_ret
    exact ⟨Byte.ret_int HQ.out.symm,rfl⟩
   ·have HK5 : Hid (∀ j,j < k + 1 → hs.getD j 0 ≠ 0) := hQ_ (fun j hj => by
     by_cases e : j = k
     ·rw [e]; exact h0
     ·exact HK.out j (by omega))
    obtain ⟨y,hy⟩ : ∃ y,hs.getD k 0 = y := ⟨_,rfl⟩
    rw [hy] at c1 h0
    have d0 : ((0 : Int) == y) = false := by
     rw [beq_eq_false_iff_ne]
     exact fun e => h0 e.symm
    clear h0 hy
    go_wp2
    go_round
    case rel => exact ⟨k + 1,by omega,by go_num,HK5⟩
    case measure => simp [intOf]; omega
  ·obtain rfl : k = 16 := by omega
   have HQ : Hid (Z = -1) := hQ_ (by rw [← HZ.out]; exact fz_no (fun j hj => HK.out j (by rw [HL.out] at hj; exact hj)))
   go_wp2
   go_ret
   exact ⟨Byte.ret_int HQ.out.symm,rfl⟩
end Go.Proofs.YtogdjbhjgbnicaaGreatDoor.OpsK
namespace Go.Proofs.YtogdjbhjgbnicaaGreatDoor.OpsS
open Go.RowKit
open Byte KeysM TreeM ViewM DirsV Lst Chg TreeL ViewL WalkL Vat DirsKc OpsR OpsD OpsE OpsI OpsJ OpsK
open Own hiding lower
variable {Rep : RepT}
structure Dst (Rep : RepT) (w : World) (g : Nat) (v : Value) (hs : List Int) (s : Vs) (S D : Nat → Prop) : Prop where
 rep : Rep w v s S D
 dsk : Dsk w g v hs
 ng : ¬ D g
structure Dstp (S D S' D' : Nat → Prop) (g : Nat) (w w' : World) : Prop where
 chg : Chg (fun k => S k ∨ k = g) w w'
 kept : Kept w w'
 own : Grow w S S'
 dep : Grow w D D'
section
variable {w w' : World} {g : Nat} {v : Value} {hs hs' : List Int} {s s' : Vs} {S D S' D' : Nat → Prop}
theorem Dsk.chg {Q : Nat → Prop} (h : Dsk w g v hs) (k : Chg Q w w') (hn : ¬ Q g) : Dsk w' g v hs := ⟨(k.block g h.blk.lt hn).trans h.blk,h.len,h.bd⟩
theorem Dst.below (hV : Stays Rep) (h : Dst Rep w g v hs s S D) (hb : Below w.heap.size w w') : Dst Rep w' g v hs s S D := ⟨hV.below h.rep hb,h.dsk.below hb,h.ng⟩
theorem Dst.off (hV : Stays Rep) (h : Dst Rep w g v hs s S D) : ¬ S g := fun e => h.ng (hV.sub h.rep g e)
theorem Dst.step (hV : Stays Rep) (h : Dst Rep w g v hs s S D) (hr : Rep w' v s' S' D') (st : Stp S D S' D' w w') : Dst Rep w' g v hs s' S' D' ∧ Dstp S D S' D' g w w' :=
 ⟨⟨hr,Dsk.chg h.dsk st.chg (h.off hV),fun e => by
   rcases st.dep g e with h1 | h1
   ·exact h.ng h1
   ·have := h.dsk.blk.lt
    omega⟩,⟨st.chg.mono (fun _ _ h => .inl h),st.kept,st.own,st.dep⟩⟩
theorem Dst.hand (hV : Stays Rep) (h : Dst Rep w g v hs s S D) {j : Nat} {x : Int} (hj : j < 16) (h0 : 0 ≤ x) (h1 : x ≤ 4294967295) : Dst Rep (w.setCell ⟨g,1 + j,none⟩ (.int .u32 x)) g v (hs.set j x) s S D ∧ Dstp S D S D g w (w.setCell ⟨g,1 + j,none⟩ (.int .u32 x)) := by
 have hc : Chg (fun k => k = g) w (w.setCell ⟨g,1 + j,none⟩ (.int .u32 x)) := (Chg.refl (fun k => k = g) w).own (1 + j) _
 have hk : Kept w (w.setCell ⟨g,1 + j,none⟩ (.int .u32 x)) := ViewD.kept_set h.dsk.blk (by decide) (1 + j) _
 refine ⟨⟨hV.stay h.rep hc (fun b e hd => by have e' : b = g := e; rw [e'] at hd; exact h.ng hd) hk,⟨?_,by rw [List.length_set]; exact h.dsk.len,fun y hy => ?_⟩,h.ng⟩,⟨hc.mono (fun _ _ h => .inr h),hk,Grow.refl _ _,Grow.refl _ _⟩⟩
 ·have hb := h.dsk.blk.set_ (1 + j) (.int .u32 x)
  have e : (dskA v hs).setIfInBounds (1 + j) (.int .u32 x) = dskA v (hs.set j x) := by
   unfold dskA
   rw [List.setIfInBounds_toArray,show 1 + j = j + 1 by omega,List.set_cons_succ,List.map_set]
  rw [← e]
  exact hb
 ·rcases List.mem_or_eq_of_mem_set hy with h2 | h2
  ·exact h.dsk.bd y h2
  ·rw [h2]
   exact ⟨h0,h1⟩
theorem Dstp.trans {w'' : World} {S2 D2 : Nat → Prop} (h : Dstp S D S' D' g w w') (k : Dstp S' D' S2 D2 g w' w'') : Dstp S D S2 D2 g w w'' :=
 ⟨h.chg.then_ k.chg (fun i hi e => by
   rcases e with e | e
   ·rcases h.own i e with h1 | h1
    ·exact .inl h1
    ·omega
   ·exact .inr e),ViewD.Kept.trans h.kept k.kept,h.own.trans k.own h.chg.size,h.dep.trans k.dep h.chg.size⟩
theorem Dst.stored (hV : Stays Rep) {w0 : World} (h : Dst Rep w g v hs s S D) {r : Nat} {old : Array Value} (hB : Blk w r old 48) (hg : w.grownBy w' (some r)) (nd : ¬ D r) (hr : g ≠ r) (h0 : w0.heap.size ≤ r) {S0 D0 : Nat → Prop} (st : Dstp S0 D0 S D g w0 w) : Dst Rep w' g v hs s S D ∧ Dstp S0 D0 S D g w0 w' := by
 have hc : Chg (fun k => k = r) w w' := Chg.of_grown hg (fun k hk => .inl (Option.some.inj hk).symm)
 have hk : Kept w w' := kept_row hB hg (by decide)
 refine ⟨⟨hV.stay h.rep hc (fun b e hd => by have e' : b = r := e; rw [e'] at hd; exact nd hd) hk,Dsk.chg h.dsk hc (fun e => hr e),h.ng⟩,⟨st.chg.then_ hc (fun i hi e => by have e' : i = r := e; omega),ViewD.Kept.trans st.kept hk,st.own,st.dep⟩⟩
end
def opnV (L : List Pr) (hs : List Int) (path : ByteArray) : Int × Int × List Int :=
 if (leadM L path).2.2 ≠ 0 then ((leadM L path).2.2,0,hs) else if (leadM L path).2.1.k ≠ 1 then (13,0,hs) else if fz hs < 0 then (20,0,hs) else (0,fz hs,hs.set (fz hs).toNat (leadM L path).1)
end Go.Proofs.YtogdjbhjgbnicaaGreatDoor.OpsS
namespace Go.Proofs.YtogdjbhjgbnicaaGreatDoor.OpsO
open Go.RowKit
open Byte KeysM TreeM ViewM NodeM WalkM WalkF DirsV Lst Chg TreeL ViewL WalkL Vat Ho DirsK DirsKa DirsKc OpsR OpsD OpsE OpsI OpsJ OpsK OpsS
open Own hiding lower
variable {Rep : RepT}
theorem info_ino : (Tryz.prog.info? 46).map (·.size) = some 4 := by kernel_rfl
def OpenE (Rep : RepT) (g : Nat) (v : Value) (hs : List Int) (s : Vs) (path : ByteArray) (r : Int × Int × List Int) (S D : Nat → Prop) (w : World) (e : Ending) (w' : World) : Prop := ∃ s' S' D',e = .returned (resV r.1 r.2.1 (.slice none 0 0) (.slice none 0 0) 0 0 0 0) ∧ Dst Rep w' g v r.2.2 s' S' D' ∧ Dstp S D S' D' g w w' ∧ FindR s path s'
theorem lead_bd (L : List Pr) (path : ByteArray) : 0 ≤ (leadM L path).1 ∧ (leadM L path).1 ≤ 4294967295 := by
 have h := find_bd L path
 unfold leadM
 split
 ·exact ⟨Int.le_refl 0,(by decide : (0 : Int) ≤ 4294967295)⟩
 ·split
  ·exact ⟨Int.le_refl 0,(by decide : (0 : Int) ≤ 4294967295)⟩
  ·exact ⟨h.i0,h.i1⟩
theorem open_deed (hW0 : Wk Rep) {w : World} {g : Nat} {v : Value} {hs : List Int} {s : Vs} {S D : Nat → Prop} (o : Op20) (ino : Int) (hdd : Dst Rep w g v hs s S D) (hl : Lim s) (h2 : s.rd.length ≤ 18000) (h3 : s.rg.length ≤ 900) (hx : Mxs w S) (hp : o.path.size ≤ 100000) :
 Calls Tryz.prog 47 #[.pointer (some ⟨g,0,none⟩),o.val,.int .u32 ino] w (OpenE Rep g v hs s o.path (opnV s.shown hs o.path) S D w) := by
 obtain ⟨kind,path,other,hn,frm,n,da,dn,dc⟩ := o
 dsimp only [Op20.val,Op20.cells] at *
 obtain ⟨hr,hd,hng⟩ := hdd
 have hlt := hW0.stays.lt hr
 have hsub := hW0.stays.sub hr
 obtain ⟨W,hW⟩ : ∃ W,(w.alloc (.cells #[.int .u8 kind,.string path,.string other,.int .i64 hn,.int .i64 frm,.int .i64 n,.slice da dn dc] 41)).alloc (.cells zres 48) = W := ⟨_,rfl⟩
 have hs1 : (w.alloc (.cells #[.int .u8 kind,.string path,.string other,.int .i64 hn,.int .i64 frm,.int .i64 n,.slice da dn dc] 41)).heap.size = w.heap.size + 1 := by simp
 have hB : Blk W (w.heap.size + 1) zres 48 := by rw [← hW,← hs1]; exact Blk.new_ _ zres _
 have hO : Blk W w.heap.size #[.int .u8 kind,.string path,.string other,.int .i64 hn,.int .i64 frm,.int .i64 n,.slice da dn dc] 41 := by rw [← hW]; exact (Blk.new_ _ _ _).alloc _
 have hbW : Below w.heap.size w W := by rw [← hW]; exact (bW_).alloc (by rw [hs1]; omega) _
 have hsW : W.heap.size = w.heap.size + 2 := by rw [← hW]; simp
 have hbd : Below w.heap.size w W.drew := hbW.drew
 have HBD := hQ_ hbd
 have HBD0 : Hid (Blk W.drew (w.heap.size + 1) zres 48) := hQ_ hB
 have HA0 := hQ_ ((At.start hr).owns hW0.stays hbd (Q := fun b => b = w.heap.size ∨ b = w.heap.size + 1) (fun b h => by
  have e : W.drew.heap.size = W.heap.size := rfl
  rw [e,hsW]
  omega))
 have hob := lead_bd s.shown path
 obtain ⟨⟨li,⟨lk,ll,lz,lp⟩,er⟩,hL⟩ : ∃ R,leadM s.shown path = R := ⟨_,rfl⟩
 have HC := hQ_ (fun (u : World) (hb : Below w.heap.size w u) => lead_calls hW0 path (hW0.stays.below hr hb) hl (by omega) hp (hx.below hb))
 unfold LeadR at HC
 obtain ⟨X,hX⟩ : ∃ X,opnV s.shown hs path = X := ⟨_,rfl⟩
 have hX2 := hX
 unfold opnV at hX2
 rw [hL] at HC hX2 hob
 dsimp only at HC hX2 hob
 rw [hX]
 obtain ⟨Z,hZ⟩ : ∃ Z,fz hs = Z := ⟨_,rfl⟩
 have hzb := fz_bd hs
 rw [hZ] at hX2 hzb
 rw [hd.len] at hzb
 have ways : (er ≠ 0 ∧ X = (er,0,hs)) ∨ (er = 0 ∧ lk ≠ 1 ∧ X = (13,0,hs)) ∨ (er = 0 ∧ lk = 1 ∧ Z < 0 ∧ X = (20,0,hs)) ∨ (er = 0 ∧ lk = 1 ∧ ∃ j : Nat,Z = j ∧ j < 16 ∧ X = (0,(j : Int),hs.set j li)) := by
  by_cases e1 : er = 0
  ·rw [if_neg (by simpa using e1)] at hX2
   by_cases e2 : lk = 1
   ·rw [if_neg (by simpa using e2)] at hX2
    by_cases e3 : Z < 0
    ·rw [if_pos e3] at hX2
     exact .inr (.inr (.inl ⟨e1,e2,e3,hX2.symm⟩))
    ·rw [if_neg e3] at hX2
     refine .inr (.inr (.inr ⟨e1,e2,Z.toNat,by omega,by omega,?_⟩))
     rw [← hX2,show ((Z.toNat : Nat) : Int) = Z by omega]
   ·rw [if_pos e2] at hX2
    exact .inr (.inl ⟨e1,e2,hX2.symm⟩)
  ·rw [if_pos e1] at hX2
   exact .inl ⟨e1,hX2.symm⟩
 have RD : Hid (∀ q0,Chg (fun k => S k ∨ k = w.heap.size + 1) W q0 → Chg (fun k => S k ∨ k = w.heap.size + 1) W q0 ∧ q0.cell? ⟨g,0,none⟩ = some v ∧ q0.cell? ⟨w.heap.size,1,none⟩ = some (.string path) ∧ q0.cell? ⟨w.heap.size,2,none⟩ = some (.string other)) := hQ_ (fun q0 hq => by
  obtain ⟨c1,c2⟩ := find_cells hd hng hlt hsub hbW hO hq
  exact ⟨hq,c1,c2 1,c2 2⟩)
 have HW := hQ_ hW
 have HSW := hQ_ hsW
 have HVS := hQ_ hW0.stays
 have HRW := hQ_ hr
 have HDS := hQ_ hd
 have HNG := hQ_ hng
 have HNS : Hid (¬ S g) := hQ_ (fun e => hng (hsub g e))
 have HZ := hQ_ hZ
 have HOB := hQ_ hob
 clear hW hs1 hO hB hbW hsW hbd hlt hsub hd hr hng hl h2 h3 hx hW0 hp hL hX hX2 hZ hob hzb
 go_enter Tryz.func47,Tryz.ntmps47
 go_wp2_with fail
 rw [HW.out]
 go_wp2_with fail
 refine wp_region_held_drew (S := fun q0 => Chg (fun k => S k ∨ k = w.heap.size + 1) W q0 ∧ q0.cell? ⟨g,0,none⟩ = some v ∧ q0.cell? ⟨w.heap.size,1,none⟩ = some (.string path) ∧ q0.cell? ⟨w.heap.size,2,none⟩ = some (.string other)) (by kernel_rfl) (RD.out _ (Chg.refl _ _).drew) (fun hHeld => ?_)
 refine hw_ 0 (some 12) ?_
 refine hw_ 1 (some 13) ?_
 refine hw_ 2 (some 14) ?_
 refine hw_ 3 (some 15) ?_
 refine hw_ 4 (some 16) ?_
 refine hw_ 5 (some 17) ?_
 refine ho_fork 6 11 (some 18) (some 8) rfl rfl rfl rfl (by kernel_rfl) (by kernel_rfl) (by kernel_rfl) (fun K hK => ?_) (fun K hK => ?_)
 go_simp
 go_at_call 79
 refine (HC.out _ HBD.out).mono ?_
 rintro e w3 ⟨s',S',D',rfl,hr3,st3,hf3⟩
 have A3 := At.step HVS.out HA0.out hr3 st3
 have hq3 : Chg (fun k => S k ∨ k = w.heap.size + 1) W w3 := (Chg.refl (fun k => S k ∨ k = w.heap.size + 1) W).drew.trans (st3.chg.mono (fun _ _ h => .inl h))
 try go_wp2_with fail
 refine hK.out _ _ (RD.out _ hq3) (fun hHeld2 => ?_)
 clear hHeld
 have hHeld := hHeld2
 clear hHeld2
 clear hK K
 try simp only [pZ_]
 have hR3 := At.blk HVS.out HA0.out HBD0.out (.inr (.inr rfl)) st3
 refine hw_ 7 (some 11) ?_
 refine hw_ 8 (some 19) ?_
 refine hw_ 9 (some 20) ?_
 refine hw_ 10 (some 21) ?_
 refine ho_step 11 (some 8) rfl rfl (by kernel_rfl) (by kernel_rfl) (fun K hK => ?_)
 go_simp
 refine hK.out _ _ (RD.out _ (hq3.alloc _)) (fun hHeld2 => ?_)
 clear hHeld
 have hHeld := hHeld2
 clear hHeld2
 clear hK K
 try simp only [pZ_]
 have hbn := bN_ w3 (.cells #[.int .u8 0,.int .u32 0,.int .u32 0,.int .u32 0] 46)
 have hib0 : W.heap.size ≤ w3.heap.size := hq3.size
 have A4 := At.own HVS.out A3 hbn (r := w3.heap.size) (Nat.le_refl _) (by simp)
 have hI4 := Blk.new_ w3 #[.int .u8 0,.int .u32 0,.int .u32 0,.int .u32 0] 46
 have hR4 := hR3.below hbn
 have hq4 := hq3.alloc (.cells #[.int .u8 0,.int .u32 0,.int .u32 0,.int .u32 0] 46)
 obtain ⟨w4,hw4⟩ : ∃ w4,w3.alloc (.cells #[.int .u8 0,.int .u32 0,.int .u32 0,.int .u32 0] 46) = w4 := ⟨_,rfl⟩
 obtain ⟨ib,hib⟩ : ∃ ib,w3.heap.size = ib := ⟨_,rfl⟩
 rw [hw4] at hHeld A4 hI4 hR4 hq4 ⊢
 rw [hib] at hib0 A4 hI4 ⊢
 have hrb : w.heap.size + 1 ≠ ib := by have := HSW.out; omega
 clear hR3 hw4 hib hbn hq3 A3 hr3
 rotate_left
 go_simp
 refine hK.out _ _ (RD.out _ ((Chg.refl (fun k => S k ∨ k = w.heap.size + 1) W).drew.alloc _)) (fun hHeld2 => ?_)
 clear hHeld
 have hHeld := hHeld2
 clear hHeld2
 clear hK K
 try simp only [pZ_]
 have hbn := bN_ W.drew (.cells #[.int .u8 0,.int .u32 0,.int .u32 0,.int .u32 0] 46)
 have hib0 : W.heap.size ≤ W.heap.size := Nat.le_refl _
 have A2 := At.own HVS.out HA0.out hbn (r := W.heap.size) (Nat.le_refl _) (by simp)
 have hI2 : Blk (W.drew.alloc (.cells #[.int .u8 0,.int .u32 0,.int .u32 0,.int .u32 0] 46)) W.heap.size #[.int .u8 0,.int .u32 0,.int .u32 0,.int .u32 0] 46 := Blk.new_ W.drew #[.int .u8 0,.int .u32 0,.int .u32 0,.int .u32 0] 46
 have hR2 := HBD0.out.below hbn
 have hq2 := (Chg.refl (fun k => S k ∨ k = w.heap.size + 1) W).drew.alloc (.cells #[.int .u8 0,.int .u32 0,.int .u32 0,.int .u32 0] 46)
 have hb2 := Own.keeps HBD.out hbn
 refine ho_step 6 (some 18) rfl rfl (by kernel_rfl) (by kernel_rfl) (fun K hK => ?_)
 go_simp
 go_at_call 79
 refine (HC.out _ hb2).mono ?_
 rintro e w3 ⟨s',S',D',rfl,hr3,st3,hf3⟩
 have A3 := At.step HVS.out A2 hr3 st3
 have hq3 : Chg (fun k => S k ∨ k = w.heap.size + 1) W w3 := hq2.trans (st3.chg.mono (fun _ _ h => .inl h))
 try go_wp2_with fail
 refine hK.out _ _ (RD.out _ hq3) (fun hHeld2 => ?_)
 clear hHeld
 have hHeld := hHeld2
 clear hHeld2
 clear hK K
 try simp only [pZ_]
 refine hw_ 7 (some 11) ?_
 refine hw_ 8 (some 19) ?_
 refine hw_ 9 (some 20) ?_
 refine hw_ 10 (some 21) ?_
 have hI4 := At.blk HVS.out A2 hI2 (.inr rfl) st3
 have hR4 := At.blk HVS.out A2 hR2 (.inl (.inr (.inr rfl))) st3
 have hq4 := hq3
 have A4 := A3
 obtain ⟨w4,hw4⟩ : ∃ w4,w4 = w3 := ⟨_,rfl⟩
 subst hw4
 obtain ⟨ib,hib⟩ : ∃ ib,W.heap.size = ib := ⟨_,rfl⟩
 have hib1 : W.heap.size ≤ ib := by omega
 rw [hib] at A4 hI4 ⊢
 have hrb : w.heap.size + 1 ≠ ib := by have := HSW.out; omega
 clear hR2 hI2 A2 hib hbn hq3 A3 hr3 hib0 hq2 hb2
 have hib0 := hib1
 clear hib1
 all_goals
  refine hw_ 12 (some 7) ?_
  refine Hor.ho_row 13 46 _ _ ib #[.int .u8 lk,.int .u32 ll,.int .u32 lz,.int .u32 lp] 46 _ rfl rfl rfl (by kernel_rfl) (by kernel_rfl) rfl rfl hI4 info_ino rfl (by simp [Value.oneCell']) (fun w5 hk5 hg5 => RD.out _ (hq4.then_ (Chg.of_grown hg5 (fun k hk => .inl hk)) (fun i hi e => by injection e with e; omega))) (fun w5 hk5 hg5 => ?_)
  clear hHeld
  refine hw_ 14 (some 9) ?_ (hS := RD.out _ (hq4.then_ (Chg.of_grown hg5 (fun k hk => .inl hk)) (fun i hi e => by injection e with e; omega)))
  refine wpAnyH_done (by kernel_rfl) ?_ _
  have A5 := At.stored HVS.out A4 hI4 (.inr rfl) (by decide) hg5
  have hR5 := hR4.grown hg5 hrb
  have HD5 := hQ_ (Dsk.chg HDS.out A5.st.chg HNS.out)
  have HA5 := hQ_ A5
  have HR5 := hQ_ hR5
  have HF5 := hQ_ hf3
  have ki := cZ0 hk5
  clear hI4 hR4 hq4 A4 hg5 hk5 hR5 A5 hrb hib0 st3 hf3
  rcases ways with ⟨e1,ex⟩ | ⟨rfl,e2,ex⟩ | ⟨rfl,rfl,e3,ex⟩ | ⟨rfl,rfl,j,ez,hj,ex⟩
  ·have d1 : (er == 0) = false := by simpa using e1
   have HX := hQ_ ex
   clear e1 ex
   go_wp2_with fail
   refine (index_calls HD5.out).mono ?_
   rintro e w6 ⟨rfl,rfl⟩
   go_wp2_with fail
   refine (only_calls er _).mono ?_
   rintro e w7 ⟨rfl,hb7⟩
   have HR7 := hQ_ (HR5.out.below hb7)
   have HA7 := hQ_ (At.below HVS.out HA5.out hb7)
   clear hb7
   go_wp2_with ((with_reducible refine pick none ?_); refine store_blk rfl 48 _ _ rfl (w.heap.size + 1) #[.int .i64 er,.int .i64 0,.slice none 0 0,.slice none 0 0,.int .u8 0,.int .u32 0,.int .u32 0,.int .u32 0] rfl rfl 48 _ HR7.out info_res rfl (by simp [Value.oneCell']) ?_; intro w8 hk8 hg8)
   have A8 := At.stored HVS.out HA7.out HR7.out (.inl (.inr (.inr rfl))) (by decide) hg8
   exact bodyPost_ret (v := onlyV er) (results_cell_row rfl _ _ (w.heap.size + 1) 48 _ (0,0) _ rfl hk8 Tryz.underlying48 rfl info_res) rfl ⟨s',S',D',by rw [HX.out],by rw [HX.out]; exact (Dst.step HVS.out ⟨HRW.out,HDS.out,HNG.out⟩ A8.rep A8.st).1,(Dst.step HVS.out ⟨HRW.out,HDS.out,HNG.out⟩ A8.rep A8.st).2,HF5.out⟩
  ·have d2 : (lk == 1) = false := by simpa using e2
   have HX := hQ_ ex
   clear e2 ex
   go_wp2_with fail
   refine (index_calls HD5.out).mono ?_
   rintro e w6 ⟨rfl,rfl⟩
   go_wp2_with fail
   refine (only_calls 13 _).mono ?_
   rintro e w7 ⟨rfl,hb7⟩
   have HR7 := hQ_ (HR5.out.below hb7)
   have HA7 := hQ_ (At.below HVS.out HA5.out hb7)
   clear hb7
   go_wp2_with ((with_reducible refine pick none ?_); refine store_blk rfl 48 _ _ rfl (w.heap.size + 1) #[.int .i64 13,.int .i64 0,.slice none 0 0,.slice none 0 0,.int .u8 0,.int .u32 0,.int .u32 0,.int .u32 0] rfl rfl 48 _ HR7.out info_res rfl (by simp [Value.oneCell']) ?_; intro w8 hk8 hg8)
   have A8 := At.stored HVS.out HA7.out HR7.out (.inl (.inr (.inr rfl))) (by decide) hg8
   exact bodyPost_ret (v := onlyV 13) (results_cell_row rfl _ _ (w.heap.size + 1) 48 _ (0,0) _ rfl hk8 Tryz.underlying48 rfl info_res) rfl ⟨s',S',D',by rw [HX.out],by rw [HX.out]; exact (Dst.step HVS.out ⟨HRW.out,HDS.out,HNG.out⟩ A8.rep A8.st).1,(Dst.step HVS.out ⟨HRW.out,HDS.out,HNG.out⟩ A8.rep A8.st).2,HF5.out⟩
  ·have d3 : decide (Z < 0) = true := decide_eq_true e3
   have HX := hQ_ ex
   clear e3 ex
   go_wp2_with fail
   refine (index_calls HD5.out).mono ?_
   rintro e w6 ⟨rfl,rfl⟩
   rw [HZ.out]
   go_wp2_with fail
   refine (only_calls 20 _).mono ?_
   rintro e w7 ⟨rfl,hb7⟩
   have HR7 := hQ_ (HR5.out.below hb7)
   have HA7 := hQ_ (At.below HVS.out HA5.out hb7)
   clear hb7
   go_wp2_with ((with_reducible refine pick none ?_); refine store_blk rfl 48 _ _ rfl (w.heap.size + 1) #[.int .i64 20,.int .i64 0,.slice none 0 0,.slice none 0 0,.int .u8 0,.int .u32 0,.int .u32 0,.int .u32 0] rfl rfl 48 _ HR7.out info_res rfl (by simp [Value.oneCell']) ?_; intro w8 hk8 hg8)
   have A8 := At.stored HVS.out HA7.out HR7.out (.inl (.inr (.inr rfl))) (by decide) hg8
   exact bodyPost_ret (v := onlyV 20) (results_cell_row rfl _ _ (w.heap.size + 1) 48 _ (0,0) _ rfl hk8 Tryz.underlying48 rfl info_res) rfl ⟨s',S',D',by rw [HX.out],by rw [HX.out]; exact (Dst.step HVS.out ⟨HRW.out,HDS.out,HNG.out⟩ A8.rep A8.st).1,(Dst.step HVS.out ⟨HRW.out,HDS.out,HNG.out⟩ A8.rep A8.st).2,HF5.out⟩
  ·have d3 : decide ((j : Int) < 0) = false := decide_eq_false (by omega)
   have HX := hQ_ ex
   have hji : (j : Int) < 16 := by omega
   have HEZ := hQ_ ez
   clear ex ez
   go_wp2_with fail
   refine (index_calls HD5.out).mono ?_
   rintro e w6 ⟨rfl,rfl⟩
   rw [HZ.out,HEZ.out]
   have fh : w5.frozen? ⟨g,1 + j,none⟩ = false := HD5.out.blk.frozen _
   have ch : w5.cell? ⟨g,1 + j,none⟩ = some (.int .u32 (hs.getD j 0)) := HD5.out.hand (by omega)
   have HST := hQ_ (Dst.hand (x := li) HVS.out (Dst.step HVS.out ⟨HRW.out,HDS.out,HNG.out⟩ HA5.out.rep HA5.out.st).1 (by omega : j < 16) HOB.out.1 HOB.out.2)
   have HR6 : Hid (Blk (w5.setCell ⟨g,1 + j,none⟩ (.int .u32 li)) (w.heap.size + 1) zres 48) := hQ_ (HR5.out.far (p := ⟨g,1 + j,none⟩) (by have := HDS.out.blk.lt; show w.heap.size + 1 ≠ g; omega) _)
   go_wp2_with ((with_reducible refine pick none ?_); refine store_blk rfl 48 _ _ rfl (w.heap.size + 1) #[.int .i64 0,.int .i64 (j : Int),.slice none 0 0,.slice none 0 0,.int .u8 0,.int .u32 0,.int .u32 0,.int .u32 0] rfl rfl 48 _ HR6.out info_res rfl (by simp [Value.oneCell']) ?_; intro w8 hk8 hg8)
   have hmn := HA5.out.mine (w.heap.size + 1) (.inl (.inr (.inr rfl)))
   have hZ := Dst.stored (w0 := w) HVS.out HST.out.1 HR6.out hg8 hmn.2.2 (by have := HDS.out.blk.lt; omega) (Nat.le_succ _) ((Dst.step HVS.out ⟨HRW.out,HDS.out,HNG.out⟩ HA5.out.rep HA5.out.st).2.trans HST.out.2)
   exact bodyPost_ret (v := resV 0 (j : Int) (.slice none 0 0) (.slice none 0 0) 0 0 0 0) (results_cell_row rfl _ _ (w.heap.size + 1) 48 _ (0,0) _ rfl hk8 Tryz.underlying48 rfl info_res) rfl ⟨s',S',D',by rw [HX.out],by rw [HX.out]; exact hZ.1,hZ.2,HF5.out⟩
end Go.Proofs.YtogdjbhjgbnicaaGreatDoor.OpsO
namespace Go.Proofs.YtogdjbhjgbnicaaGreatDoor.FileM
open Byte PackM KeysM
def cut0 : List Int → List Int
 | [] => []
 | x :: r => match cut0 r with
   | [] => if x = 0 then [] else [x]
   | y :: q => x :: y :: q
theorem cut0_nil_iff : ∀ {l : List Int},cut0 l = [] ↔ ∀ x ∈ l,x = 0
 | [] => by simp [cut0]
 | x :: r => by
   have ih := cut0_nil_iff (l := r)
   unfold cut0
   cases h : cut0 r with
   | nil =>
     have h1 := ih.1 h
     by_cases hx : x = 0
     ·simpa [hx] using h1
     ·simp [hx]
   | cons y q =>
     have : ¬ ∀ x ∈ r,x = 0 := fun k => by rw [ih.2 k] at h; cases h
     simp only [reduceCtorEq,false_iff,List.mem_cons,forall_eq_or_imp]
     exact fun k => this k.2
theorem cut0_spec : ∀ (l : List Int),∃ k,l = cut0 l ++ List.replicate k 0
 | [] => ⟨0,rfl⟩
 | x :: r => by
   obtain ⟨k,hk⟩ := cut0_spec r
   cases h : cut0 r with
   | nil =>
     rw [h] at hk
     by_cases hx : x = 0
     ·refine ⟨k + 1,?_⟩
      unfold cut0
      rw [h,hx]
      dsimp only
      rw [if_pos rfl,List.replicate_succ]
      exact congrArg (List.cons 0) hk
     ·refine ⟨k,?_⟩
      unfold cut0
      rw [h]
      dsimp only
      rw [if_neg hx]
      exact congrArg (List.cons x) hk
   | cons y q =>
     refine ⟨k,?_⟩
     rw [h] at hk
     unfold cut0
     rw [h]
     exact congrArg (List.cons x) hk
theorem cut0_len (l : List Int) : (cut0 l).length ≤ l.length := by
 obtain ⟨k,hk⟩ := cut0_spec l
 have := congrArg List.length hk
 rw [List.length_append] at this
 omega
theorem cut0_app0 : ∀ (l : List Int) (k : Nat),cut0 (l ++ List.replicate k 0) = cut0 l
 | [],k => cut0_nil_iff.2 fun x hx => List.eq_of_mem_replicate (by simpa using hx)
 | x :: r,k => by
   rw [List.cons_append,cut0,cut0_app0 r k]
   rfl
theorem cut0_mem {l : List Int} {x : Int} (h : x ∈ cut0 l) : x ∈ l := by
 obtain ⟨k,hk⟩ := cut0_spec l
 rw [hk]
 exact List.mem_append_left _ h
def pad (n : Nat) (l : List Int) : List Int := (l ++ List.replicate n 0).take n
theorem pad_len (n : Nat) (l : List Int) : (pad n l).length = n := by
 unfold pad
 rw [List.length_take,List.length_append,List.length_replicate]
 omega
theorem pad_cut0 (n : Nat) (l : List Int) : pad n (cut0 l) = pad n l := by
 obtain ⟨k,hk⟩ := cut0_spec l
 have h : ∀ (m : List Int),pad n (m ++ List.replicate k 0) = pad n m := fun m => by
  apply List.ext_getElem?
  intro i
  unfold pad
  rw [List.getElem?_take,List.getElem?_take]
  by_cases hi : i < n
  ·rw [if_pos hi,if_pos hi,List.append_assoc,List.replicate_append_replicate]
   by_cases hm : i < m.length
   ·rw [List.getElem?_append_left hm,List.getElem?_append_left hm]
   ·rw [List.getElem?_append_right (by omega),List.getElem?_append_right (by omega),List.getElem?_replicate,List.getElem?_replicate,if_pos (by omega),if_pos (by omega)]
  ·rw [if_neg hi,if_neg hi]
 conv => rhs; rw [hk]
 exact (h _).symm
def blkL (d : ByteArray) (w : Nat) : List Int := cut0 (((txt d).drop (64 * w)).take 64)
def blkG (d : ByteArray) (w : Int) : Option ByteArray := if blkL d w.toNat = [] then none else some (str (blkL d w.toNat))
theorem blkG_nil (w : Int) : blkG ⟨#[]⟩ w = none := by
 have h : blkL ⟨#[]⟩ w.toNat = [] := by
  unfold blkL
  rw [show txt ⟨#[]⟩ = [] from rfl,List.drop_nil,List.take_nil]
  rfl
 unfold blkG
 rw [if_pos h]
def valL (v : Option ByteArray) : List Int := match v with
 | some b => txt b
 | none => []
end Go.Proofs.YtogdjbhjgbnicaaGreatDoor.FileM