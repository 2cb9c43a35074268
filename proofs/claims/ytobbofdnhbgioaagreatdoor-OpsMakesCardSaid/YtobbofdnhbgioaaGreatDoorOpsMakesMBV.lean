import Derived.Deep.DeepCutAuto
import Derived.Deep.CutBlock
import Derived.Test.YtobbofdnhbgioaaGreatDoorSq
import Derived.Test.YtobbofdnhbgioaaGreatDoorOpsMakesMAG
import Derived.Test.YtobbofdnhbgioaaGreatDoorHor
import Derived.Test.YtobbofdnhbgioaaGreatDoorOpsMakesMBU
set_option maxHeartbeats 16000000
set_option linter.unusedVariables false
set_option linter.unusedSimpArgs false
set_option maxRecDepth 100000
namespace Go.Proofs.YtobbofdnhbgioaaGreatDoor.OpsJ
open Go.RowKit
open Byte KeysM TreeM ViewM ViewKm NodeM NodeG NamesM NamesL WalkM WalkF WalkKm DirsV Lst Chg TreeL ViewL WalkL WalkV Vat DirsK DirsKa DirsKc Ho OpsR OpsD OpsE OpsI
open Own hiding lower
variable {Rep : RepT}
def AnsO (Rep : RepT) (v : Value) (s : Vs) (er : Int) (ps : List Wrt) (k m : Nat) (S D : Nat → Prop) (w : World) (e : Ending) (w' : World) : Prop := ∃ s' S' D',e = .returned (onlyV (if (goW s ps).2 = true then er else 21)) ∧ Rep w' v s' S' D' ∧ Stp S D S' D' w w' ∧ Aft s s' ps k m
theorem kept_row {w w' : World} {g : Nat} {cs : Array Value} {T : TypeId} (h : Blk w g cs T) (hg : w.grownBy w' (some g)) (hne : 76 ≠ T ∧ 125 ≠ T) : Kept w w' := fun b cs' U fr hU hb => by
 have hlt : b < w.heap.size := (Array.getElem?_eq_some_iff.1 hb).1
 by_cases e : b = g
 ·subst e
  unfold Blk at h
  rw [h] at hb
  injection hb with hb
  injection hb with _ hT _
  subst hT
  rcases hU with h1 | h1
  ·exact absurd h1.symm hne.1
  ·exact absurd h1.symm hne.2
 ·exact (hg.block b hlt (fun x => e (Option.some.inj x))).trans hb
theorem fin_view (hV : Stays Rep) {w W3 w3 w4 w5 : World} {v : Value} {s' : Vs} {S D S' D' : Nat → Prop} {g : Nat} {old : Array Value} (hlt : ∀ b,D b → b < w.heap.size) (hsub : ∀ b,S b → D b) (h0 : Below w.heap.size w W3) (hr : Rep w3 v s' S' D') (st : Stp S D S' D' W3 w3) (h4 : Below w3.heap.size w3 w4) (hb : Blk w4 g old 48) (hg5 : w4.grownBy w5 (some g)) (h1 : w.heap.size ≤ g) (h2 : g < W3.heap.size) : Rep w5 v s' S' D' ∧ Stp S D S' D' w w5 := by
 have hk : Kept w4 w5 := kept_row hb hg5 (by decide)
 have hc : Chg (fun k => k = g) w4 w5 := Chg.of_grown hg5 (fun k hk => .inl (by injection hk with hk; exact hk.symm))
 have hnd : ∀ b,b = g → ¬ D' b := fun b e hd => by
  subst e
  rcases st.dep b hd with h | h
  ·have := hlt b h
   omega
  ·omega
 refine ⟨hV.stay (hV.below hr h4) hc hnd hk,⟨?_,?_,?_,?_⟩⟩
 ·have c1 : Chg S w w3 := (Chg.of_below h0 : Chg S w W3).trans st.chg
  have c2 : Chg S w w4 := c1.trans (Chg.of_below h4)
  exact c2.then_ hc (fun i hi e => by have e' : i = g := e; omega)
 ·exact ViewD.Kept.trans (Kept.of_below h0) (ViewD.Kept.trans st.kept (ViewD.Kept.trans (Kept.of_below h4) hk))
 ·intro b hb
  rcases st.own b hb with h | h
  ·exact .inl h
  ·exact .inr (Nat.le_trans h0.size h)
 ·intro b hb
  rcases st.dep b hb with h | h
  ·exact .inl h
  ·exact .inr (Nat.le_trans h0.size h)
theorem find_cells {w W q0 : World} {S D : Nat → Prop} {g : Nat} {v : Value} {hs : List Int} {cs : Array Value} {T : TypeId} (hd : Dsk w g v hs) (hng : ¬ D g) (hlt : ∀ b,D b → b < w.heap.size) (hsub : ∀ b,S b → D b) (hb : Below w.heap.size w W) (hO : Blk W w.heap.size cs T) (hq : Chg (fun k => S k ∨ k = w.heap.size + 1) W q0) : q0.cell? ⟨g,0,none⟩ = some v ∧ ∀ i,q0.cell? ⟨w.heap.size,i,none⟩ = cs[i]? := by
 have h1 : q0.heap[g]? = W.heap[g]? := hq.block g (hd.below hb).blk.lt (fun h => by
  rcases h with h | h
  ·exact hng (hsub g h)
  ·have := hd.blk.lt
   omega)
 have h2 : q0.heap[w.heap.size]? = W.heap[w.heap.size]? := hq.block w.heap.size hO.lt (fun h => by
  rcases h with h | h
  ·have := hlt _ (hsub _ h)
   omega
  ·omega)
 refine ⟨?_,fun i => ?_⟩
 ·have hb2 : Dsk q0 g v hs := ⟨h1.trans (hd.below hb).blk,hd.len,hd.bd⟩
  exact hb2.view
 ·have hb2 : Blk q0 w.heap.size cs T := h2.trans hO
  exact hb2.cell i
theorem create_deed (hW0 : Wk Rep) {w : World} {g : Nat} {v : Value} {hs : List Int} {s : Vs} {S D : Nat → Prop} (o : Op20) (ino : Int) (hd : Dsk w g v hs) (hr : Rep w v s S D) (hng : ¬ D g) (hl : Lim s) (h2 : s.rd.length ≤ 18000) (h3 : s.rg.length ≤ 900) (hx : Mxs w S) (hp : o.path.size ≤ 100000) (i0 : 0 ≤ ino) (i1 : ino ≤ 4294967295) :
 Calls Tryz.prog 45 #[.pointer (some ⟨g,0,none⟩),o.val,.int .u32 ino] w (AnsO Rep v s (makV s.shown o.path 1 ino).1 (makV s.shown o.path 1 ino).2 41 0 S D w) := by
 obtain ⟨kind,path,other,hn,frm,n,da,dn,dc⟩ := o
 dsimp only [Op20.val,Op20.cells] at *
 have hlt := hW0.stays.lt hr
 have hsub := hW0.stays.sub hr
 obtain ⟨W,hW⟩ : ∃ W,(w.alloc (.cells #[.int .u8 kind,.string path,.string other,.int .i64 hn,.int .i64 frm,.int .i64 n,.slice da dn dc] 41)).alloc (.cells zres 48) = W := ⟨_,rfl⟩
 have hs1 : (w.alloc (.cells #[.int .u8 kind,.string path,.string other,.int .i64 hn,.int .i64 frm,.int .i64 n,.slice da dn dc] 41)).heap.size = w.heap.size + 1 := by simp
 have HB : Hid (Blk W (w.heap.size + 1) zres 48) := hQ_ (by rw [← hW,← hs1]; exact Blk.new_ _ zres _)
 have hO : Blk W w.heap.size #[.int .u8 kind,.string path,.string other,.int .i64 hn,.int .i64 frm,.int .i64 n,.slice da dn dc] 41 := by rw [← hW]; exact (Blk.new_ _ _ _).alloc _
 have hbW : Below w.heap.size w W := by rw [← hW]; exact (bW_).alloc (by rw [hs1]; omega) _
 have hsW : W.heap.size = w.heap.size + 2 := by rw [← hW]; simp
 obtain ⟨er,her⟩ : ∃ er,(makV s.shown path 1 ino).1 = er := ⟨_,rfl⟩
 obtain ⟨ps,hps⟩ : ∃ ps,(makV s.shown path 1 ino).2 = ps := ⟨_,rfl⟩
 have hbd : Below w.heap.size w W.drew := hbW.drew
 have hc := DirsKe.make_calls hW0 path 1 ino (hW0.stays.below hr hbd) hl h2 h3 (hx.below hbd) hp (by omega) (by omega) i0 i1
 rw [her,hps] at hc
 rw [her,hps]
 obtain ⟨J,hJ⟩ : ∃ J : Int,(if (goW s ps).2 = true then er else 21) = J := ⟨_,rfl⟩
 unfold Ans at hc
 simp only [hJ] at hc
 have HC := hQ_ hc
 have RD : Hid (∀ q0,Chg (fun k => S k ∨ k = w.heap.size + 1) W q0 → Chg (fun k => S k ∨ k = w.heap.size + 1) W q0 ∧ q0.cell? ⟨g,0,none⟩ = some v ∧ q0.cell? ⟨w.heap.size,1,none⟩ = some (.string path) ∧ q0.cell? ⟨w.heap.size,2,none⟩ = some (.string other)) := hQ_ (fun q0 hq => by
  obtain ⟨c1,c2⟩ := find_cells hd hng hlt hsub hbW hO hq
  exact ⟨hq,c1,c2 1,c2 2⟩)
 have HLT := hQ_ hlt
 have HSUB := hQ_ hsub
 have HW := hQ_ hW
 have HBD := hQ_ hbd
 have HJ := hQ_ hJ
 have HSW := hQ_ hsW
 have HVS := hQ_ hW0.stays
 clear hW hs1 hO hbW hsW her hps hbd hc hJ hlt hsub hd hr hng hl h2 h3 hx hW0 hp i0 i1
 go_enter Tryz.func45,Tryz.ntmps45
 go_wp2_with fail
 rw [HW.out]
 go_wp2_with fail
 refine wp_region_held_drew (S := fun q0 => Chg (fun k => S k ∨ k = w.heap.size + 1) W q0 ∧ q0.cell? ⟨g,0,none⟩ = some v ∧ q0.cell? ⟨w.heap.size,1,none⟩ = some (.string path) ∧ q0.cell? ⟨w.heap.size,2,none⟩ = some (.string other)) (by kernel_rfl) (RD.out _ (Chg.refl _ _).drew) (fun hHeld => ?_)
 refine hw_ 0 (some 7) ?_
 refine hw_ 1 (some 8) ?_
 refine hw_ 2 (some 9) ?_
 refine hw_ 3 (some 10) ?_
 refine hw_ 4 (some 11) ?_
 refine hw_ 5 (some 12) ?_
 refine hw_ 6 (some 13) ?_
 refine ho_step 7 (some 14) rfl rfl (by kernel_rfl) (by kernel_rfl) (fun K hK => ?_)
 go_simp
 go_at_call 78
 refine HC.out.mono ?_
 rintro e w3 ⟨s',S',D',rfl,hr3,st3,aft3⟩
 have hq3 : Chg (fun k => S k ∨ k = w.heap.size + 1) W w3 := (Chg.refl _ _).drew.trans (st3.chg.mono (fun _ _ h => .inl h))
 have hb3 : Blk w3 (w.heap.size + 1) zres 48 := (st3.chg.block _ HB.out.lt (fun h => by have := HLT.out _ (HSUB.out _ h); omega)).trans HB.out
 try go_wp2_with fail
 refine hK.out _ _ (RD.out _ hq3) (fun hHeld2 => ?_)
 clear hHeld
 have hHeld := hHeld2
 clear hHeld2
 clear hK K
 try simp only [pZ_]
 refine ho_step 8 (some 15) rfl rfl (by kernel_rfl) (by kernel_rfl) (fun K hK => ?_)
 go_simp
 go_at_call 26
 refine (only_calls J _).mono ?_
 rintro e w4 ⟨rfl,hb4⟩
 have hq4 := hq3.trans (Chg.of_below hb4)
 try go_wp2_with fail
 refine hK.out _ _ (RD.out _ hq4) (fun hHeld2 => ?_)
 clear hHeld
 have hHeld := hHeld2
 clear hHeld2
 clear hK K
 try simp only [pZ_]
 refine Hor.ho_row 9 48 _ _ (w.heap.size + 1) #[.int .i64 J,.int .i64 0,.slice none 0 0,.slice none 0 0,.int .u8 0,.int .u32 0,.int .u32 0,.int .u32 0] 48 _ rfl rfl rfl (by kernel_rfl) (by kernel_rfl) rfl rfl (hb3.below hb4) info_res rfl (by simp [Value.oneCell']) (fun w5 hk5 hg5 => RD.out _ (hq4.trans (Chg.of_grown hg5 (fun k hk => .inl (.inr (by injection hk with hk; exact hk.symm)))))) (fun w5 hk5 hg5 => ?_)
 refine wpAnyH_done (by kernel_rfl) ?_ _
 have hz := fin_view HVS.out HLT.out HSUB.out HBD.out hr3 st3 hb4 (hb3.below hb4) hg5 (Nat.le_succ _) (by show w.heap.size + 1 < W.heap.size; rw [HSW.out]; omega)
 have HZ := hQ_ hz
 have HK5 := hQ_ hk5
 have HA3 := hQ_ aft3
 clear hz hr3 st3 hb4 hg5 hk5 aft3 hq3 hq4 hb3 RD
 go_wp2_with fail
 exact bodyPost_ret (v := onlyV J) (results_cell_row rfl _ _ (w.heap.size + 1) 48 _ (0,0) _ rfl HK5.out Tryz.underlying48 rfl info_res) rfl ⟨s',S',D',by rw [HJ.out],HZ.out.1,HZ.out.2,HA3.out⟩
end Go.Proofs.YtobbofdnhbgioaaGreatDoor.OpsJ