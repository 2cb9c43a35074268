import Derived.Test.YtfalhnomhidkcaaGreatDoorSq
import Derived.Test.YtfalhnomhidkcaaGreatDoorFilesKeysMBX
import Derived.Test.YtfalhnomhidkcaaGreatDoorNest
import Derived.Test.YtfalhnomhidkcaaGreatDoorFilesKeysMBY
import Derived.Test.YtfalhnomhidkcaaGreatDoorLst
import Derived.Test.YtfalhnomhidkcaaGreatDoorByteS
import Derived.Lib.SlBytesConst
import Derived.ChangeSlices
import Derived.Test.YtfalhnomhidkcaaGreatDoorTx
import Derived.Test.YtfalhnomhidkcaaGreatDoorKeysS
import Derived.Handed
import Derived.SizedLaws
set_option maxHeartbeats 16000000
set_option linter.unusedVariables false
set_option linter.unusedSimpArgs false
set_option maxRecDepth 100000
namespace Go.Proofs.YtfalhnomhidkcaaGreatDoor.FileL
open Go.RowKit
open Byte KeysM TreeM TreeR ViewM ViewKm Lst Nest Chg TreeL TreeG TreeH ViewL WalkL WalkV Vat DirsK
open WalkKm WalkM WalkF
open DirsLd (range_all put_next info_pr take_nx)
open Own hiding keeps
open ViewR (Sh NewA)
variable {Rep : RepT}
structure Op19 where
 kind : Int
 ino : Int
 frm : Int
 n : Int
 h : Hd
instance : Inhabited Op19 := ⟨⟨0,0,0,0,default⟩⟩
def opE : Enc Op19 := ⟨fun x => [.int .i64 x.kind,.int .u32 x.ino,.int .i64 x.frm,.int .i64 x.n,.slice x.h.a x.h.n x.h.c],5,fun _ => rfl,fun x u hu => by
 simp only [List.mem_cons,List.mem_nil_iff,or_false] at hu
 rcases hu with rfl | rfl | rfl | rfl | rfl <;> rfl,by decide⟩
theorem info_op : (Tryz.prog.info? 79).map (·.size) = some 5 := by kernel_rfl
structure OpG (w : World) (x : Op19) : Prop where
 i0 : 0 ≤ x.ino
 i1 : x.ino ≤ 4294967295
 f0 : -9223372036854775808 ≤ x.frm
 f1 : x.frm ≤ 9223372036854775807
 n0 : -9223372036854775808 ≤ x.n
 n1 : x.n ≤ 9223372036854775807
 fit : x.h.n ≤ x.h.c
 big : x.h.c ≤ 140737488351232
 nil : x.h.a = none → x.h.c = 0
 bs : ∃ bs,Bs w x.h.a x.h.n bs
theorem OpG.off {w : World} {x : Op19} (h : OpG w x) (hp : 0 < x.h.n) (b o : Nat) (e : x.h.a = some ⟨b,o,none⟩) : b < w.heap.size := by
 obtain ⟨bs,q⟩ := h.bs
 obtain ⟨b',o',e',hlt,_⟩ := q.2.2 0 hp
 rw [e] at e'
 injection e' with e'
 injection e' with e' _
 rw [e']; exact hlt
theorem OpG.below {w w' : World} {x : Op19} (h : OpG w x) (hb : Below w.heap.size w w') : OpG w' x := by
 obtain ⟨bs,q⟩ := h.bs
 exact ⟨h.i0,h.i1,h.f0,h.f1,h.n0,h.n1,h.fit,h.big,h.nil,bs,q.below hb⟩
theorem cut_calls (A : Option Addr) (n c : Nat) (L : List Op19) (w : World) (hl : Sl opE w A n L) (hn : n ≤ c) (hc : c ≤ maxLen) (hf : ∀ p ∈ L,p.h.n ≤ 140737488351232) :
 Calls Tryz.prog 34 #[.slice A n c] w fun e w' => ∃ m,e = .returned (.slice A m c) ∧ m ≤ n ∧ m ≤ 60 ∧ Below w.heap.size w w' := by
 unfold maxLen at hc
 have HL := hQ_ hl
 have HF := hQ_ hf
 clear hl hf
 go_enter Tryz.func34,Tryz.ntmps34
 go_wp2
 go_loopw [3,8] (fun t i wr => ∃ (k : Nat) (z : Int),k ≤ n ∧ k ≤ 60 ∧ 0 ≤ z ∧ z ≤ 9000 * k ∧ t = .int .i64 z ∧ i = .int .i64 k ∧ Below w.heap.size w wr) (fun _ i _ => n - (intOf i).toNat)
 case atStart => exact ⟨0,0,Nat.zero_le _,Nat.zero_le _,Int.le_refl _,by omega,rfl,rfl,Below.refl _ _⟩
 case round =>
  obtain ⟨k,z,hk,hk2,hz0,hz,rfl,rfl,hbel⟩ := hrel
  by_cases hlt : k < n
  ·obtain ⟨x,g,o,hx,rfl,hg,hcl⟩ := (HL.out.below hbel).get k hlt
   have hfx := HF.out x (List.mem_of_getElem? hx)
   obtain ⟨kind,ino,frm,m,⟨ba,bn,bc⟩⟩ := x
   have hbn : bn ≤ 140737488351232 := hfx
   have HC : Hid (wr.rangeAt g (o + k * 5) [.int .i64 kind,.int .u32 ino,.int .i64 frm,.int .i64 m,.slice ba bn bc]) := hQ_ hcl
   have hbs := hbel.size
   have hkc : k ≤ c := by omega
   have hb1 : Below w.heap.size w (wr.alloc (.cells #[.int .i64 kind,.int .u32 ino,.int .i64 frm,.int .i64 m,.slice ba bn bc] 79)) := hbel.alloc hbs _
   have f4 : (wr.alloc (.cells #[.int .i64 kind,.int .u32 ino,.int .i64 frm,.int .i64 m,.slice ba bn bc] 79)).cell? ⟨wr.heap.size,4,none⟩ = some (.slice ba bn bc) := (Blk.new_ wr #[.int .i64 kind,.int .u32 ino,.int .i64 frm,.int .i64 m,.slice ba bn bc] 79).cell 4
   have HB1 := hQ_ hb1
   obtain ⟨y,hy⟩ : ∃ y : Int,min (bn : Int) 9000 = y := ⟨_,rfl⟩
   have hy0 : 0 ≤ y := by omega
   have hy1 : y ≤ 9000 := by omega
   have e1 : wrap64 (z + y) = z + y := by unfold wrap64; omega
   clear hcl hfx hx hbel hb1
   rcases (show 60 ≤ k ∨ (k < 60 ∧ 20000 < z + y) ∨ (k < 60 ∧ z + y ≤ 20000) by omega) with q | ⟨q,q1⟩ | ⟨q,q1⟩
   ·have d1 : decide ((k : Int) ≥ 60) = true := decide_eq_true (by omega)
    go_wp2_with ((with_reducible refine pick (some 12) ?_); refine wpList_load_mid rfl 79 _ rfl g (o + k * 5) rfl _ _ HC.out Tryz.underlying79 rfl info_op ?_)
    go_ret
    exact ⟨k,rfl,hk,hk2,HB1.out⟩
   ·have d1 : decide ((k : Int) ≥ 60) = false := decide_eq_false (by omega)
    have d2 : decide (z + y > 20000) = true := decide_eq_true (by omega)
    go_wp2_with ((with_reducible refine pick (some 12) ?_); refine wpList_load_mid rfl 79 _ rfl g (o + k * 5) rfl _ _ HC.out Tryz.underlying79 rfl info_op ?_)
    go_ret
    exact ⟨k,rfl,hk,hk2,HB1.out⟩
   ·have d1 : decide ((k : Int) ≥ 60) = false := decide_eq_false (by omega)
    have d2 : decide (z + y > 20000) = false := decide_eq_false (by omega)
    go_wp2_with ((with_reducible refine pick (some 12) ?_); refine wpList_load_mid rfl 79 _ rfl g (o + k * 5) rfl _ _ HC.out Tryz.underlying79 rfl info_op ?_)
    go_roundw
    case rel => exact ⟨k + 1,z + y,by omega,by omega,by omega,by omega,rfl,by go_num,HB1.out⟩
    case measure => simp [intOf]; omega
  ·obtain rfl : k = n := by omega
   have HBL := hQ_ hbel
   clear hbel
   go_wp2
   go_ret
   exact ⟨k,rfl,Nat.le_refl _,hk2,HBL.out⟩
theorem based_calls (hW : Wk Rep) (hN : NewB Rep) {w : World} {v : Value} {s : Vs} {S D : Nat → Prop} (hr : Rep w v s S D) (hl : Lim s) (hlt : ∀ p ∈ s.shown,(sp p.key).letter ≠ 0) (hg : ∀ p ∈ s.shown,p.gone = false) (hri : Rise s.shown) (hlen : s.shown.length ≤ 1000) :
 Calls Tryz.prog 37 #[v] w fun e w' => ∃ v' S' D',e = .returned v' ∧ Rep w' v' ⟨s.shown,[],[],[]⟩ S' D' ∧ Stp S D S' D' w w' := by
 have hvb := fun q hq => (hW.small hr).shown (hW.stays.ok hr) (q := q) hq
 have A0 := hQ_ (At.start hr)
 have HS := hQ_ hW.stays
 have HR := hQ_ (fun (u : World) (S D : Nat → Prop) (h : Rep u v s S D) => hW.range ⟨#[]⟩ ⟨#[255]⟩ h hl (by decide) (by decide))
 rw [rangeOf_is,range_all hlt] at HR
 have HN := hQ_ hN
 have HP := hQ_ (fun (k : Nat) (p : Pr) (h : s.shown[k]? = some p) => put_next hri hg h)
 have HV := hQ_ hvb
 generalize s.shown = L at *
 clear hr hl hlt hg hri hW hN hvb
 go_enter Tryz.func37,Tryz.ntmps37
 go_wp2_with fail
 refine (TreeG.new_calls _).mono ?_
 rintro e w1 ⟨t0,h0,rfl,hr0,hb1⟩
 have A1 := hQ_ (A0.out.below HS.out hb1)
 have T1 := hQ_ hr0
 clear hb1 hr0
 go_wp2_with fail
 refine (HR.out _ _ _ A1.out.rep).mono ?_
 rintro e w2 ⟨⟨ra,rn,rc⟩,S2,D2,rfl,hs2,_,hr2,st2⟩
 dsimp only at hs2
 have A2 := hQ_ (A1.out.step HS.out hr2 st2)
 have T2 := hQ_ (tkeep T1.out st2.kept)
 have L2 := hQ_ hs2
 have hn : L.length = rn := hs2.1
 clear hr2 st2 hs2
 go_wp2_with fail
 go_loopw [3,10] (fun t i wr => ∃ (k : Nat) (h : Nat),k ≤ rn ∧ i = .int .i64 k ∧ Hid (TRep wr t (L.take k) h) ∧ Hid (Below w2.heap.size w2 wr)) (fun _ i _ => rn - (intOf i).toNat)
 case atStart => exact ⟨0,h0,Nat.zero_le _,rfl,T2,hQ_ (Below.refl _ _)⟩
 case round =>
  obtain ⟨k,h,hk,rfl,HT,HB⟩ := hrel
  by_cases hlt : k < rn
  ·obtain ⟨x,g,o,hx,rfl,hg,hcl⟩ := (L2.out.below HB.out).get k hlt
   have hpu := HP.out k x hx
   obtain ⟨key,value,gone⟩ := x
   dsimp only at hpu
   have HC : Hid (wr.rangeAt g (o + k * 3) [.string key,.string value,.bool gone]) := hQ_ hcl
   have hb1 := bN_ wr (.cells #[.string key,.string value,.bool gone] 46)
   have HB1 := hQ_ hb1
   have HPU := hQ_ hpu
   have hlk : (L.take k).length ≤ 50000 := by rw [List.length_take]; omega
   have HSE := hQ_ (tset key value (tbelow HT.out hb1) hlk)
   clear hcl hx hb1 hpu hlk
   go_wp2_with ((with_reducible refine pick (some 13) ?_); refine wpList_load_mid rfl 46 _ rfl g (o + k * 3) rfl _ _ HC.out Tryz.underlying46 rfl info_pr ?_)
   refine HSE.out.mono ?_
   rintro e w4 ⟨t',h',rfl,hr4,hb4⟩
   rw [HPU.out] at hr4
   have HT4 := hQ_ hr4
   have HB4 := hQ_ (Own.keeps HB.out (Own.keeps HB1.out hb4))
   clear hr4 hb4
   go_wp2_with fail
   go_roundw
   case rel => exact ⟨k + 1,h',by omega,by go_num,HT4,HB4⟩
   case measure => simp [intOf]; omega
  ·obtain rfl : k = rn := by omega
   have hfin := HT.out
   rw [List.take_of_length_le (by omega)] at hfin
   have HNE := hQ_ (HN.out hfin hlen HV.out)
   have A4 := hQ_ (A2.out.below HS.out HB.out)
   clear hfin
   go_wp2_with fail
   refine HNE.out.mono ?_
   rintro e w5 ⟨v',S',D',rfl,hr5,hS5,hD5,hb5⟩
   have A5 := hQ_ (A4.out.below HS.out hb5)
   have HR5 := hQ_ hr5
   have HS5 := hQ_ hS5
   have HD5 := hQ_ hD5
   clear hr5 hb5 hS5 hD5
   go_wp2_with fail
   go_ret
   have hz := A4.out.st.chg.size
   exact ⟨v',S',D',rfl,HR5.out,⟨A5.out.st.chg,A5.out.st.kept,fun b hb => .inr (Nat.le_trans hz (HS5.out b hb)),fun b hb => .inr (Nat.le_trans hz (HD5.out b hb))⟩⟩
end Go.Proofs.YtfalhnomhidkcaaGreatDoor.FileL
namespace Go.Proofs.YtfalhnomhidkcaaGreatDoor.FileLa
open Go.RowKit
open Byte PackM KeysM TreeM ViewM ViewKm WalkM WalkF WalkKm NamesM NamesL Lst Chg TreeL ViewL WalkL WalkV Vat DirsM DirsV DirsR DirsW DirsX DirsY DirsS DirsK DirsKa DirsKc FileM FileV FileN FileO FileKe
open Own hiding keeps
open ViewR (Sh)
variable {Rep : RepT}
section
variable {F : Fs} {π : Int → Int} {L : List Pr}
theorem gk_mem (hr : Rise L) {p : Pr} (hp : p ∈ L) : DirsX.gk L p.key ≠ none := by
 unfold DirsX.gk
 rw [(get_iff hr).2 ⟨hp,rfl⟩]; simp
theorem let_of (h : RG F π (DirsX.gk L)) (b : DirsX.Bs F) (hr : Rise L) : ∀ p ∈ L,(sp p.key).letter ≠ 0 := fun p hp => by
 rcases h.keys _ (gk_mem hr hp) with ⟨n,h3,h4⟩ | ⟨n,h3,e,h4,h5⟩ | ⟨n,h3,w,h4,h5,_⟩
 ·have q := b.ino n h3
  rw [h4,sp_I n.ino (by omega) q.2]; exact (by decide : (73 : Int) ≠ 0)
 ·have q := b.ino n h3
  have hn := b.name n h3 e h4
  rw [h5,sp_E n.ino e.name (by omega) q.2 hn.1 hn.2]; exact (by decide : (69 : Int) ≠ 0)
 ·have q := b.ino n h3
  rw [h5,sp_D n.ino w (by omega) q.2 h4.1 h4.2]; exact (by decide : (68 : Int) ≠ 0)
theorem v64_of (h : RG F π (DirsX.gk L)) (b : DirsX.Bs F) {ino : Int} (h0 : 0 ≤ ino) (h1 : ino ≤ 4294967295) : V64 L ino := fun q q0 q1 => by
 show (valL (DirsX.gk L (kD ino q))).length ≤ 64
 cases hn : nodeM F ino with
 | some n =>
   have hm := node_mem hn
   have e := h.blks n hm.1 q ⟨q0,q1⟩
   rw [hm.2] at e
   rw [e,val_blk]
   exact blkL_len _ _
 | none =>
   cases hg : DirsX.gk L (kD ino q) with
   | none => exact Nat.zero_le _
   | some t =>
     exfalso
     rcases h.keys (kD ino q) (by rw [hg]; simp) with ⟨n,h3,h4⟩ | ⟨n,h3,e,h4,h5⟩ | ⟨n,h3,w,h4,h5,_⟩
     ·have z := b.ino n h3
      exact kID (by omega) z.2 h0 h1 ⟨q0,q1⟩ h4.symm
     ·have z := b.ino n h3
      exact kED (by omega) z.2 h0 h1 (b.name n h3 e h4) ⟨q0,q1⟩ h5.symm
     ·have z := b.ino n h3
      exact node_none hn n h3 (kD_inj h0 h1 (by omega) z.2 ⟨q0,q1⟩ h4 h5).1.symm
theorem nodup_len : ∀ (l m : List ByteArray),l.Nodup → (∀ x ∈ l,x ∈ m) → l.length ≤ m.length
 | [],m,_,_ => Nat.zero_le _
 | x :: l,m,hn,h => by
   obtain ⟨h1,h2⟩ := List.nodup_cons.1 hn
   have ih := nodup_len l (m.filter fun y => !decide (y = x)) h2 (fun y hy => List.mem_filter.2 ⟨h y (List.mem_cons_of_mem _ hy),by
    have : y ≠ x := fun e => h1 (by rw [← e]; exact hy)
    simpa using this⟩)
   have hlt : (m.filter fun y => !decide (y = x)).length < m.length := List.length_filter_lt_length_iff_exists.2 ⟨x,h x (List.mem_cons_self ..),by simp⟩
   rw [List.length_cons]
   omega
theorem rise_nodup (hr : Rise L) : (L.map (·.key)).Nodup := by
 unfold List.Nodup
 rw [List.pairwise_map]
 exact hr.imp fun {p q} h e => by rw [e,kl_irr] at h; cases h
end
def nd : ByteArray := ⟨#[100]⟩
def nf : ByteArray := ⟨#[102]⟩
def ng : ByteArray := ⟨#[103]⟩
def N3 (d : ByteArray) : Nd := ⟨3,1,1,d,[]⟩
def N4 (d : ByteArray) : Nd := ⟨4,1,1,d,[]⟩
def FF (d3 d4 : ByteArray) : Fs := [⟨1,2,3,NE,[⟨nd,2⟩,⟨nf,3⟩,⟨ng,4⟩]⟩,⟨2,2,2,NE,[]⟩,N3 d3,N4 d4]
section
variable {d3 d4 : ByteArray} {π : Int → Int}
theorem fil_ff (d3 d4 : ByteArray) (j : Int) : filM (FF d3 d4) j = if j = 3 then some (N3 d3) else if j = 4 then some (N4 d4) else none := by
 unfold filM nodeM FF N3 N4
 by_cases h1 : j = 1
 ·subst h1; rfl
 by_cases h2 : j = 2
 ·subst h2; rfl
 by_cases h3 : j = 3
 ·subst h3; rfl
 by_cases h4 : j = 4
 ·subst h4; rfl
 rw [if_neg h3,if_neg h4]
 have e : ∀ (n : Int),j ≠ n → decide (n = j) = false := fun n h => decide_eq_false (fun e => h e.symm)
 simp only [List.find?_cons,e 1 h1,e 2 h2,e 3 h3,e 4 h4,List.find?_nil]
 rfl
theorem mem_ff {n : Nd} (h : n ∈ FF d3 d4) : n = ⟨1,2,3,NE,[⟨nd,2⟩,⟨nf,3⟩,⟨ng,4⟩]⟩ ∨ n = ⟨2,2,2,NE,[]⟩ ∨ n = N3 d3 ∨ n = N4 d4 := by
 unfold FF at h
 simpa using h
theorem m3 (d3 d4 : ByteArray) : N3 d3 ∈ FF d3 d4 := by unfold FF; simp
theorem m4 (d3 d4 : ByteArray) : N4 d4 ∈ FF d3 d4 := by unfold FF; simp
theorem wri_ff (ino a : Int) (b : List Int) : ∃ e3 e4,(wriM (FF d3 d4) ino a b).2 = FF e3 e4 := by
 unfold wriM
 rw [fil_ff]
 by_cases h3 : ino = 3
 ·rw [if_pos h3]
  dsimp only
  repeat' split
  all_goals exact ⟨_,_,rfl⟩
 ·rw [if_neg h3]
  by_cases h4 : ino = 4
  ·rw [if_pos h4]
   dsimp only
   repeat' split
   all_goals exact ⟨_,_,rfl⟩
  ·rw [if_neg h4]
   exact ⟨_,_,rfl⟩
theorem tru_ff (ino z : Int) : ∃ e3 e4,(truM (FF d3 d4) ino z).2 = FF e3 e4 := by
 unfold truM
 rw [fil_ff]
 by_cases h3 : ino = 3
 ·rw [if_pos h3]
  dsimp only
  repeat' split
  all_goals exact ⟨_,_,rfl⟩
 ·rw [if_neg h3]
  by_cases h4 : ino = 4
  ·rw [if_pos h4]
   dsimp only
   repeat' split
   all_goals exact ⟨_,_,rfl⟩
  ·rw [if_neg h4]
   exact ⟨_,_,rfl⟩
theorem sz3 {g : Gf} (h : Sim (FF d3 d4) π g) : d3.size ≤ 4096 := (h.wf.data _ (m3 d3 d4)).1
theorem sz4 {g : Gf} (h : Sim (FF d3 d4) π g) : d4.size ≤ 4096 := (h.wf.data _ (m4 d3 d4)).1
theorem smf_ff (h3 : d3.size ≤ 4096) (h4 : d4.size ≤ 4096) : SmF (FF d3 d4) := by
 refine ⟨by show (4 : Nat) ≤ 1000; omega,fun n hn => ?_⟩
 rcases mem_ff hn with rfl | rfl | rfl | rfl
 ·refine ⟨by show (0 : Int) ≤ 1; omega,by show (1 : Int) ≤ 4294967295; omega,by show (0 : Int) ≤ 2; omega,by show (2 : Int) ≤ 255; omega,by show (-1000000 : Int) ≤ 3; omega,by show (3 : Int) ≤ 1000000; omega,Nat.zero_le _,by show (3 : Nat) ≤ 1000; omega,fun e he => ?_⟩
  have he' : e = ⟨nd,2⟩ ∨ e = ⟨nf,3⟩ ∨ e = ⟨ng,4⟩ := by simpa using he
  rcases he' with rfl | rfl | rfl <;> exact ⟨by decide,by decide,by decide⟩
 ·exact ⟨by show (0 : Int) ≤ 2; omega,by show (2 : Int) ≤ 4294967295; omega,by show (0 : Int) ≤ 2; omega,by show (2 : Int) ≤ 255; omega,by show (-1000000 : Int) ≤ 2; omega,by show (2 : Int) ≤ 1000000; omega,Nat.zero_le _,Nat.zero_le _,fun e he => by cases he⟩
 ·exact ⟨by show (0 : Int) ≤ 3; omega,by show (3 : Int) ≤ 4294967295; omega,by show (0 : Int) ≤ 1; omega,by show (1 : Int) ≤ 255; omega,by show (-1000000 : Int) ≤ 1; omega,by show (1 : Int) ≤ 1000000; omega,by show d3.size ≤ 100000; omega,Nat.zero_le _,fun e he => by cases he⟩
 ·exact ⟨by show (0 : Int) ≤ 4; omega,by show (4 : Int) ≤ 4294967295; omega,by show (0 : Int) ≤ 1; omega,by show (1 : Int) ≤ 255; omega,by show (-1000000 : Int) ≤ 1; omega,by show (1 : Int) ≤ 1000000; omega,by show d4.size ≤ 100000; omega,Nat.zero_le _,fun e he => by cases he⟩
def KS : List ByteArray := [kI 1,kI 2,kI 3,kI 4,kE 1 nd,kE 1 nf,kE 1 ng] ++ ((List.range 64).map (fun i : Nat => kD 3 i) ++ (List.range 64).map (fun i : Nat => kD 4 i))
theorem len_ff {L : List Pr} (h : Sim (FF d3 d4) π (DirsX.gk L)) (hr : Rise L) : L.length ≤ 200 := by
 have h1 := nodup_len (L.map (·.key)) KS (rise_nodup hr) (fun k hk => by
  obtain ⟨p,hp,rfl⟩ := List.mem_map.1 hk
  have hD : ∀ (d : ByteArray) (w : Int),d.size ≤ 4096 → 0 ≤ w → blkG d w ≠ none → w.toNat < 64 ∧ (w.toNat : Int) = w := fun d w hd hw hb => by
   have : ¬ (d.size : Int) ≤ 64 * w := fun e => hb (blkG_far e)
   omega
  unfold KS
  rcases h.rg.keys _ (gk_mem hr hp) with ⟨n,h3,h4⟩ | ⟨n,h3,e,h4,h5⟩ | ⟨n,h3,w,h4,h5,h6⟩
  ·rw [h4]
   refine List.mem_append_left _ ?_
   rcases mem_ff h3 with rfl | rfl | rfl | rfl <;> simp [N3,N4]
  ·rw [h5]
   refine List.mem_append_left _ ?_
   rcases mem_ff h3 with rfl | rfl | rfl | rfl
   ·have he' : e = ⟨nd,2⟩ ∨ e = ⟨nf,3⟩ ∨ e = ⟨ng,4⟩ := by simpa using h4
    rcases he' with rfl | rfl | rfl <;> simp
   ·cases h4
   ·cases h4
   ·cases h4
  ·rw [h5]
   refine List.mem_append_right _ ?_
   rcases mem_ff h3 with rfl | rfl | rfl | rfl
   ·exact absurd (blkG_nil w) h6
   ·exact absurd (blkG_nil w) h6
   ·have q := hD d3 w (sz3 h) h4.1 h6
    exact List.mem_append_left _ (List.mem_map.2 ⟨w.toNat,List.mem_range.2 q.1,by show kD 3 (w.toNat : Int) = kD 3 w; rw [q.2]⟩)
   ·have q := hD d4 w (sz4 h) h4.1 h6
    exact List.mem_append_right _ (List.mem_map.2 ⟨w.toNat,List.mem_range.2 q.1,by show kD 4 (w.toNat : Int) = kD 4 w; rw [q.2]⟩))
 have h2 : KS.length = 135 := by unfold KS; simp
 rw [List.length_map] at h1
 omega
end
structure Fu (Rep : RepT) (Q : Nat → Prop) (w : World) (v : Value) (s : Vs) (S D : Nat → Prop) (h : Sh) (d3 d4 : ByteArray) (k : Nat) : Prop where
 rep : Rep w v s S D
 fs : FsA (fun b => ¬ S b ∧ Q b) w h (FF d3 d4)
 mx : Mxs w S
 sim : ∃ π,Sim (FF d3 d4) π (DirsX.gk s.shown)
 gone : ∀ p ∈ s.shown,p.gone = false
 base : s.base.length ≤ 200
 rd : s.rd.length ≤ k
 rg : s.rg.length ≤ k
section
variable {Q : Nat → Prop} {w w' : World} {v v' : Value} {s s' : Vs} {S D S' D' : Nat → Prop} {h h' : Sh} {d3 d4 : ByteArray} {k : Nat}
theorem Fu.rise (hS : Stays Rep) (f : Fu Rep Q w v s S D h d3 d4 k) : Rise s.shown := rise_shown (hS.ok f.rep).base _
theorem Fu.lim (f : Fu Rep Q w v s S D h d3 d4 k) (hk : k ≤ 900) : Lim s := ⟨by have := f.base; omega,by have := f.rd; omega,by have := f.rg; omega⟩
theorem Fu.v64 (f : Fu Rep Q w v s S D h d3 d4 k) {ino : Int} (h0 : 0 ≤ ino) (h1 : ino ≤ 4294967295) : V64 s.shown ino := by
 obtain ⟨π,q⟩ := f.sim
 exact v64_of q.rg q.bs h0 h1
theorem Fu.letters (hS : Stays Rep) (f : Fu Rep Q w v s S D h d3 d4 k) : ∀ p ∈ s.shown,(sp p.key).letter ≠ 0 := by
 obtain ⟨π,q⟩ := f.sim
 exact let_of q.rg q.bs (f.rise hS)
theorem Fu.len (hS : Stays Rep) (f : Fu Rep Q w v s S D h d3 d4 k) : s.shown.length ≤ 200 := by
 obtain ⟨π,q⟩ := f.sim
 exact len_ff q (f.rise hS)
theorem Fu.smf (f : Fu Rep Q w v s S D h d3 d4 k) : SmF (FF d3 d4) := by
 obtain ⟨π,q⟩ := f.sim
 exact smf_ff (sz3 q) (sz4 q)
theorem Fu.below (hS : Stays Rep) (f : Fu Rep Q w v s S D h d3 d4 k) (hb : Below w.heap.size w w') : Fu Rep Q w' v s S D h d3 d4 k :=
 ⟨hS.below f.rep hb,f.fs.below hb,f.mx.below hb,f.sim,f.gone,f.base,f.rd,f.rg⟩
theorem Fu.next (hS : Stays Rep) (f : Fu Rep Q w v s S D h d3 d4 k) {V : Int × List Wrt} {M : Int × Fs} {e3 e4 : ByteArray} (hd : ∀ π,Sim (FF d3 d4) π (DirsX.gk s.shown) → Dit s.shown π V M) (hM : M.2 = FF e3 e4) (hr : Rep w' v s' S' D') (st : Stp S D S' D' w w') (ha : Aft s s' V.2 1 0) (hg : (goW s V.2).2 = true) (hf : FsA (fun b => ¬ S' b ∧ Q b) w' h' (FF e3 e4)) : Fu Rep Q w' v s' S' D' h' e3 e4 (k + 1) := by
 have ho := hS.ok f.rep
 have hsh : s'.shown = outW s.shown V.2 := by rw [ha.sm.shown]; exact (go_out V.2 ho hg).1
 obtain ⟨π,q⟩ := f.sim
 refine ⟨hr,hf,f.mx.step st,⟨π,?_⟩,?_,?_,?_,?_⟩
 ·have := (hd π q).sim
  rw [hM] at this
  rw [hsh]
  exact this
 ·rw [hsh]; exact gone_out V.2 f.gone
 ·rw [ha.sm.base,goW_base]; exact f.base
 ·have := ha.rd; have := f.rd; omega
 ·have := ha.rg; have := f.rg; omega
theorem Fu.fsStep (f : Fu Rep Q w v s S D h d3 d4 k) (st : Stp S D S' D' w w') : FsA (fun b => ¬ S' b ∧ Q b) w' h (FF d3 d4) :=
 f.fs.chg st.chg (fun b hb hlt => ⟨hb.1,fun hs => by
  rcases st.own b hs with q | q
  ·exact hb.1 q
  ·omega,hb.2⟩)
theorem Fu.anew (hS : Stays Rep) (f : Fu Rep Q w v s S D h d3 d4 k) (hr : Rep w' v' ⟨s.shown,[],[],[]⟩ S' D') (st : Stp S D S' D' w w') : Fu Rep Q w' v' ⟨s.shown,[],[],[]⟩ S' D' h d3 d4 k :=
 ⟨hr,f.fsStep st,f.mx.step st,f.sim,f.gone,f.len hS,Nat.zero_le _,Nat.zero_le _⟩
end
end Go.Proofs.YtfalhnomhidkcaaGreatDoor.FileLa
namespace Go.Proofs.YtfalhnomhidkcaaGreatDoor.Owc
open Go.RowKit
open Byte Lst
section
variable {P : Program} {w : World}
theorem zero_len (z : Array Value) (n : Nat) : (Builtin.zeroCells z n).toList.length = n * z.size := by simp [Builtin.zeroCells]
theorem zero_one (z : Array Value) (n : Nat) (hz : 0 < z.size) (h1 : ∀ i (h : i < z.size),z[i].oneCell' = true) : ∀ v ∈ (Builtin.zeroCells z n).toList,v.oneCell' = true := by
 intro v hv
 simp only [Builtin.zeroCells,Array.toList_map,List.mem_map] at hv
 obtain ⟨i,_,rfl⟩ := hv
 have hm := Nat.mod_lt i hz
 rw [getElem!_pos z (i % z.size) hm]
 exact h1 _ hm
theorem wpList_clear_own {α : Type} (e : Enc α) (T : TypeId) {ops : Array Oper} {rest : List Oper} {o : Oper} {a : Act} {Q : Exit → Act → World → Prop} (hgd : o.guard = none) (s : Operand) (t : TypeId)
 (ho : o.op = .call { callee := .builtin .clear,args := #[s],argTypes := #[t] })
 (base : Nat) (ht : P.underlying t = some (.slice T)) (z : Value) (hzero : ∀ w,(zeroValue T).run P w = .ok z w) (hsz : z.cells.size = e.size) (h1 : ∀ i (h : i < z.cells.size),z.cells[i].oneCell' = true)
 (g n cap : Nat) (L : List α) (hs : a.eval s = .slice (some ⟨g,0,none⟩) n cap) (hown : So e T w base (.slice (some ⟨g,0,none⟩) n cap) n L)
 (h : ∀ w',w.grownBy w' (some g) → wpList P ops Q rest (a.put o.dst (.tuple #[])) w') :
 wpList P ops Q (o :: rest) a w := by
 refine wpList_plain hgd fun K hK => ?_
 rcases Nat.eq_zero_or_pos n with h0 | h0
 ·subst h0
  have hr : (Builtin.clear_ #[t] o.type #[.slice (some ⟨g,0,none⟩) 0 cap]).run P w = .ok (.tuple #[]) w := by simp [Builtin.clear_,run_underlying ht]
  unfold Oper.wp execOp
  simp only [ho,resolve,invoke,builtin,Sem.run_bind,Sem.run_pure,Result.andThen_ok,List.map_toArray,List.map_cons,List.map_nil,hs,hr]
  exact hK _ _ (h w (World.grownBy.refl w _))
 ·have hlen := zero_len z.cells n
  rw [hsz] at hlen
  have hst := run_storeCells_cells (P := P) g 0 (Builtin.zeroCells z.cells n).toList 0 w
   (fun j hj => by
     rw [hlen] at hj
     rw [Nat.zero_add,hown.2.cellAt j hj,List.getElem?_eq_getElem (by rw [flat_len,hown.1]; exact hj)]
     rfl)
   (fun j _ => by rw [Nat.zero_add]; exact hown.2.frozenAt j)
   (zero_one z.cells n (by rw [hsz]; exact e.pos) h1)
  simp only [Nat.add_zero] at hst
  have hr : (Builtin.clear_ #[t] o.type #[.slice (some ⟨g,0,none⟩) n cap]).run P w = .ok (.tuple #[]) (w.setCells g 0 (Builtin.zeroCells z.cells n).toList) := by
   obtain ⟨m,rfl⟩ : ∃ m,n = m + 1 := ⟨n - 1,by omega⟩
   simp [Builtin.clear_,run_underlying ht,hzero,hst]
  unfold Oper.wp execOp
  simp only [ho,resolve,invoke,builtin,Sem.run_bind,Sem.run_pure,Result.andThen_ok,List.map_toArray,List.map_cons,List.map_nil,hs,hr]
  exact hK _ _ (h _ (grown_setCells g _ 0 w))
end
end Go.Proofs.YtfalhnomhidkcaaGreatDoor.Owc
namespace Go.Proofs.YtfalhnomhidkcaaGreatDoor.FileLb
open Go.RowKit
open Byte PackM KeysM TreeM ViewM NamesM NamesL Lst Ho Tx WalkF Chg TreeL ViewL WalkL WalkV Vat DirsM DirsV DirsR DirsRe DirsK DirsKa DirsKc FileM FileV FileO FileKd FileKe FileKg FileLa
open DirsL (Mine DoE DoE.ok DoE.full results_row3)
open Own hiding keeps
open ViewR (Sh)
variable {Rep : RepT}
structure InvG (Rep : RepT) (w0 : World) (S0 D0 : Nat → Prop) (Q : Nat → Prop) (cs : Array Value) (h0 hn : Sh) (u : World) (v : Value) (s : Vs) (S D : Nat → Prop) (h : Sh) (F : Fs) : Prop where
 A : At Rep w0 S0 D0 (Mine w0) u v s S D
 fs : Blk u w0.heap.size #[.slice h0.a h0.n h0.c] 29
 op : Blk u (w0.heap.size + 1) cs 79
 res : Blk u (w0.heap.size + 1 + 1) #[.slice none 0 0] 29
 lies : FsA (fun b => ¬ S b ∧ ¬ Mine w0 b ∧ Q b) u h F
 mx : Mxs u S
 ml : 0 < w0.heap.size
 nx : Blk u (w0.heap.size + 1 + 1 + 1) #[.slice hn.a hn.n hn.c] 29
section
variable {w0 u u' : World} {S0 D0 S D S' D' : Nat → Prop} {Q : Nat → Prop} {cs : Array Value} {h0 hn h h' : Sh} {v : Value} {s s' : Vs} {F F' : Fs}
theorem InvG.below (hS : Stays Rep) (I : InvG Rep w0 S0 D0 Q cs h0 hn u v s S D h F) (hb : Below u.heap.size u u') : InvG Rep w0 S0 D0 Q cs h0 hn u' v s S D h F :=
 ⟨I.A.below hS hb,I.fs.below hb,I.op.below hb,I.res.below hb,I.lies.below hb,I.mx.below hb,I.ml,I.nx.below hb⟩
theorem InvG.view (hS : Stays Rep) (I : InvG Rep w0 S0 D0 Q cs h0 hn u v s S D h F) (hr : Rep u' v s' S' D') (st : Stp S D S' D' u u') : InvG Rep w0 S0 D0 Q cs h0 hn u' v s' S' D' h F := by
 refine ⟨I.A.step hS hr st,I.A.blk hS I.fs ⟨Nat.le_refl _,by omega⟩ st,I.A.blk hS I.op ⟨by omega,by omega⟩ st,I.A.blk hS I.res ⟨by omega,by omega⟩ st,I.lies.chg st.chg (fun b hb hlt => ⟨hb.1,fun hs => ?_,hb.2⟩),I.mx.step st,I.ml,I.A.blk hS I.nx ⟨by omega,by omega⟩ st⟩
 rcases st.own b hs with h1 | h1
 ·exact hb.1 h1
 ·omega
theorem InvG.start (hS : Stays Rep) {w : World} (hr : Rep w v s S D) (hf : FsA (fun b => ¬ S b ∧ Q b) w h F) (hx : Mxs w S) (cs : Array Value) {W0 : World} (hW : ((w.alloc (.cells #[.slice h.a h.n h.c] 29)).alloc (.cells cs 79)).alloc (.cells #[.slice none 0 0] 29) = W0) :
 Hid (InvG Rep w S D Q cs h h (W0.alloc (.cells #[.slice h.a h.n h.c] 29)) v s S D h F) ∧ W0.cell? ⟨w.heap.size,0,none⟩ = some (.slice h.a h.n h.c) := by
 have b1 := bN_ w (.cells #[.slice h.a h.n h.c] 29)
 have hsz : W0.heap.size = w.heap.size + 3 := by rw [← hW]; simp
 have k1 : Blk W0 w.heap.size #[.slice h.a h.n h.c] 29 := by rw [← hW]; exact ((Blk.new_ w _ _).alloc _).alloc _
 have k2 : Blk W0 (w.heap.size + 1) cs 79 := by
  rw [← hW]
  have := (Blk.new_ (w.alloc (.cells #[.slice h.a h.n h.c] 29)) cs 79).alloc (.cells #[.slice none 0 0] 29)
  simpa using this
 have k3 : Blk W0 (w.heap.size + 2) #[.slice none 0 0] 29 := by
  rw [← hW]
  have := Blk.new_ ((w.alloc (.cells #[.slice h.a h.n h.c] 29)).alloc (.cells cs 79)) #[.slice none 0 0] 29
  simpa using this
 have hb : Below w.heap.size w W0 := by rw [← hW]; exact (b1.alloc (by simp) _).alloc (by simp; omega) _
 have hb2 := nW_ hb (.cells #[.slice h.a h.n h.c] 29)
 have a1 := (At.start hr).owns hS hb2 (Q := Mine w) (fun b hb => ⟨hb.1,by have := hb.2; simp [hsz]; omega⟩)
 refine ⟨hQ_ ⟨a1.less (fun b hb => .inr hb),k1.alloc _,k2.alloc _,k3.alloc _,?_,hx.below hb2,hx.lt,by have := Blk.new_ W0 #[.slice h.a h.n h.c] 29; rw [hsz] at this; exact this⟩,k1.cell 0⟩
 exact (hf.chg (S := fun _ => False) (Chg.refl _ w) (fun b hb hlt => ⟨fun h => h,hb.1,fun hm => by have := hm.1; omega,hb.2⟩)).below hb2
theorem InvG.next (hS : Stays Rep) (I : InvG Rep w0 S0 D0 Q cs h0 hn u v s S D h F) {G : Fs} (hf : FsA (fun b => ¬ S b ∧ ¬ Mine w0 b ∧ Q b) u h' G) (hg : u.grownBy u' (some (w0.heap.size + 1 + 1 + 1))) (hk : Blk u' (w0.heap.size + 1 + 1 + 1) #[.slice h'.a h'.n h'.c] 29) :
 InvG Rep w0 S0 D0 Q cs h0 h' u' v s S D h F ∧ FsA (fun b => ¬ S b ∧ ¬ Mine w0 b ∧ Q b) u' h' G := by
 have hc : Chg (fun b => b = w0.heap.size + 1 + 1 + 1) u u' := Chg.of_grown hg (fun k e => .inl (by injection e with e; exact e.symm))
 have hm : ∀ b,(¬ S b ∧ ¬ Mine w0 b ∧ Q b) → b < u.heap.size → ¬ (b = w0.heap.size + 1 + 1 + 1) ∧ (¬ S b ∧ ¬ Mine w0 b ∧ Q b) := fun b hb _ => ⟨fun e => hb.2.1 (by rw [e]; exact ⟨by omega,by omega⟩),hb⟩
 refine ⟨⟨I.A.stored hS I.nx ⟨by omega,by omega⟩ (by decide) hg,I.fs.grown hg (by omega),I.op.grown hg (by omega),I.res.grown hg (by omega),I.lies.chg hc hm,⟨?_,I.mx.2⟩,I.ml,hk⟩,hf.chg hc hm⟩
 obtain ⟨m,hm2⟩ := I.mx.1
 exact ⟨m,hc.cell hm2 (by have := I.ml; show ¬ 0 = _; omega)⟩
theorem InvG.ret (hS : Stays Rep) (I : InvG Rep w0 S0 D0 Q cs h0 hn u v s S D h F) {G : Fs} (hf : FsA (fun b => ¬ S b ∧ ¬ Mine w0 b ∧ Q b) u h' G) :
 At Rep w0 S0 D0 (Mine w0) (u.setCell ⟨w0.heap.size + 1 + 1,0,none⟩ (.slice h'.a h'.n h'.c)) v s S D ∧ FsA (fun b => ¬ S b ∧ Q b) (u.setCell ⟨w0.heap.size + 1 + 1,0,none⟩ (.slice h'.a h'.n h'.c)) h' G ∧ Blk (u.setCell ⟨w0.heap.size + 1 + 1,0,none⟩ (.slice h'.a h'.n h'.c)) (w0.heap.size + 1 + 1) #[.slice h'.a h'.n h'.c] 29 :=
 ⟨I.A.set hS I.res ⟨by omega,by omega⟩ (by decide) 0 _,hf.chg (S := fun b => b = w0.heap.size + 1 + 1) ((Chg.refl (fun b => b = w0.heap.size + 1 + 1) u).setCell (p := ⟨w0.heap.size + 1 + 1,0,none⟩) (.inl rfl) _) (fun b hb _ => ⟨fun e => hb.2.1 (by rw [e]; exact ⟨by omega,by omega⟩),hb.1,hb.2.2⟩),I.res.set_ 0 _⟩
end
theorem do_tru (hS : Stays Rep) {w : World} {v : Value} {s : Vs} {S D : Nat → Prop} {h : Sh} {F F' : Fs} (ino frm n : Int) (ba : Option Addr) (bn bc : Nat) {er : Int} {ps : List Wrt} {kk m : Nat} (hr : Rep w v s S D) {Q : Nat → Prop} (hf : FsA (fun b => ¬ S b ∧ Q b) w h F) (hQ : ∀ b,w.heap.size ≤ b → Q b) (hx : Mxs w S) (h21 : er ≠ 21)
 (hV : ∀ u S D,Rep u v s S D → Mxs u S → Calls Tryz.prog 42 #[v,.int .u32 ino,.int .i64 n] u (Ans Rep v s er ps kk m S D u))
 (hM : ∀ T u,FsA T u h F → (∀ b,u.heap.size ≤ b → T b) → Calls Tryz.prog 83 #[.agg #[.slice h.a h.n h.c],.int .u32 ino,.int .i64 n] u (AnsE T (er,F') u)) :
 Calls Tryz.prog 35 #[v,.agg #[.slice h.a h.n h.c],.agg #[.int .i64 2,.int .u32 ino,.int .i64 frm,.int .i64 n,.slice ba bn bc]] w (DoE Rep Q v s ps kk m S D h F F' w) := by
 obtain ⟨W,hW⟩ : ∃ W,((w.alloc (.cells #[.slice h.a h.n h.c] 29)).alloc (.cells #[.int .i64 2,.int .u32 ino,.int .i64 frm,.int .i64 n,.slice ba bn bc] 79)).alloc (.cells #[.slice none 0 0] 29) = W := ⟨_,rfl⟩
 obtain ⟨I0,W_0⟩ := InvG.start hS hr hf hx #[.int .i64 2,.int .u32 ino,.int .i64 frm,.int .i64 n,.slice ba bn bc] hW
 have HW := hQ_ hW
 have HS := hQ_ hS
 have HV := hQ_ hV
 have HM := hQ_ hM
 have HQ := hQ_ hQ
 have d21 : (er == 21) = false := by simpa using h21
 have V_0 := cZ0 I0.out.fs
 have V_1 := cZ0 I0.out.op
 have V_2 := cZ1 I0.out.op
 have V_3 := cZ3 I0.out.op
 clear hr hf hx hV hM hW hS h21 hQ
 go_enter Tryz.func35,Tryz.ntmps35
 go_wp2_with fail
 rw [HW.out]
 go_wp2_with fail
 refine (HV.out _ _ _ I0.out.A.rep I0.out.mx).mono ?_
 intro e u1 ha
 rcases ha.split with ⟨s',S',D',rfl,hgo,hr1,st1,aft⟩ | ⟨s',S',D',rfl,hgo,hr1,st1,aft⟩
 ·have I1 := hQ_ (I0.out.view HS.out hr1 st1)
  have HA := hQ_ (And.intro hgo aft)
  have f1_0 := cZ0 I1.out.fs
  have f1_2 := cZ1 I1.out.op
  have f1_3 := cZ3 I1.out.op
  clear W_0 V_0 V_1 V_2 V_3 hgo hr1 st1 aft ha
  go_wp2_with fail
  refine (HM.out _ _ I1.out.lies (fun b hb => ⟨fun q => by have h1 := HS.out.lt I1.out.A.rep b (HS.out.sub I1.out.A.rep b q); omega,fun q => by have h1 := I1.out.nx.lt; have h2 := q.2; omega,HQ.out b (Nat.le_trans I1.out.A.size hb)⟩)).mono ?_
  rintro e u2 ⟨h2,rfl,hf2,hb2⟩
  have I2 := hQ_ (I1.out.below HS.out hb2)
  have HF2 := hQ_ hf2
  have f2_0 := cZ0 I2.out.fs
  have d22 : (er == er) = true := by simp
  clear f1_0 f1_2 f1_3 hf2 hb2
  go_wp2_with ((with_reducible refine pick none ?_); refine store_blk rfl 29 _ _ rfl (w.heap.size + 1 + 1 + 1) #[.slice h2.a h2.n h2.c] rfl rfl 29 _ I2.out.nx info_fs rfl (by simp [Value.oneCell']) ?_; intro u3 hk3 hg3; obtain ⟨i3,l3⟩ := I2.out.next HS.out HF2.out hg3 hk3; have I3 := hQ_ i3; have L3 := hQ_ l3; have f3_0 : u3.cell? ⟨w.heap.size,0,none⟩ = some (.slice h.a h.n h.c) := I3.out.fs.cell 0; have f3_n : u3.cell? ⟨w.heap.size + 1 + 1 + 1,0,none⟩ = some (.slice h2.a h2.n h2.c) := I3.out.nx.cell 0; clear hk3 hg3 f2_0 i3 l3)
  have r1 := cZ0 I3.out.res
  have r2 : u3.frozen? ⟨w.heap.size + 1 + 1,0,none⟩ = false := I3.out.res.frozen 0
  go_region_law (fail)
  all_goals
   obtain ⟨f1,f2,f3⟩ := I3.out.ret HS.out L3.out
   have HF1 := hQ_ (And.intro f1 f2)
   have HF3 := hQ_ f3
   clear f1 f2 f3
   go_wp2_with fail
   first
    | exact bodyPost_ret (v := .tuple #[.bool true,.agg #[.slice h2.a h2.n h2.c],.bool false]) (results_row3 rfl _ _ (w.heap.size + 1 + 1) 29 _ (0,0) _ rfl _ _ rfl rfl HF3.out Tryz.underlying29 rfl info_fs) rfl (DoE.ok HF1.out.1 HF1.out.2 HA.out.1 HA.out.2)
    | exact bodyPost_ret (v := .tuple #[.bool true,.agg #[.slice h2.a h2.n h2.c],.bool false]) (results_row3 rfl _ _ (w.heap.size + 1 + 1) 29 _ (0,0) _ rfl _ _ rfl rfl HF3.out.drew Tryz.underlying29 rfl info_fs) rfl (DoE.ok (HF1.out.1.below HS.out ((Below.refl _ _).drew)) (HF1.out.2.below ((Below.refl _ _).drew)) HA.out.1 HA.out.2)
 ·have I1 := hQ_ (I0.out.view HS.out hr1 st1)
  have HA := hQ_ (And.intro hgo aft)
  have f1_0 := cZ0 I1.out.fs
  have f1_2 := cZ1 I1.out.op
  have f1_3 := cZ3 I1.out.op
  clear W_0 V_0 V_1 V_2 V_3 hgo hr1 st1 aft ha
  go_wp2_with fail
  refine (HM.out _ _ I1.out.lies (fun b hb => ⟨fun q => by have h1 := HS.out.lt I1.out.A.rep b (HS.out.sub I1.out.A.rep b q); omega,fun q => by have h1 := I1.out.nx.lt; have h2 := q.2; omega,HQ.out b (Nat.le_trans I1.out.A.size hb)⟩)).mono ?_
  rintro e u2 ⟨h2,rfl,hf2,hb2⟩
  have I2 := hQ_ (I1.out.below HS.out hb2)
  have HF2 := hQ_ hf2
  have f2_0 := cZ0 I2.out.fs
  have d22 : (er == er) = true := by simp
  clear f1_0 f1_2 f1_3 hf2 hb2
  go_wp2_with ((with_reducible refine pick none ?_); refine store_blk rfl 29 _ _ rfl (w.heap.size + 1 + 1 + 1) #[.slice h2.a h2.n h2.c] rfl rfl 29 _ I2.out.nx info_fs rfl (by simp [Value.oneCell']) ?_; intro u3 hk3 hg3; obtain ⟨i3,l3⟩ := I2.out.next HS.out HF2.out hg3 hk3; have I3 := hQ_ i3; have L3 := hQ_ l3; have f3_0 : u3.cell? ⟨w.heap.size,0,none⟩ = some (.slice h.a h.n h.c) := I3.out.fs.cell 0; have f3_n : u3.cell? ⟨w.heap.size + 1 + 1 + 1,0,none⟩ = some (.slice h2.a h2.n h2.c) := I3.out.nx.cell 0; clear hk3 hg3 f2_0 i3 l3)
  have r1 := cZ0 I3.out.res
  have r2 : u3.frozen? ⟨w.heap.size + 1 + 1,0,none⟩ = false := I3.out.res.frozen 0
  go_region_law (fail)
  all_goals
   obtain ⟨f1,f2,f3⟩ := I3.out.ret HS.out I3.out.lies
   have HF1 := hQ_ (And.intro f1 f2)
   have HF3 := hQ_ f3
   clear f1 f2 f3
   go_wp2_with fail
   first
    | exact bodyPost_ret (v := .tuple #[.bool true,.agg #[.slice h.a h.n h.c],.bool true]) (results_row3 rfl _ _ (w.heap.size + 1 + 1) 29 _ (0,0) _ rfl _ _ rfl rfl HF3.out Tryz.underlying29 rfl info_fs) rfl (DoE.full HF1.out.1 HF1.out.2 HA.out.1 HA.out.2)
    | exact bodyPost_ret (v := .tuple #[.bool true,.agg #[.slice h.a h.n h.c],.bool true]) (results_row3 rfl _ _ (w.heap.size + 1 + 1) 29 _ (0,0) _ rfl _ _ rfl rfl HF3.out.drew Tryz.underlying29 rfl info_fs) rfl (DoE.full (HF1.out.1.below HS.out ((Below.refl _ _).drew)) (HF1.out.2.below ((Below.refl _ _).drew)) HA.out.1 HA.out.2)
theorem sl_bs {w : World} {A : Option Addr} {n : Nat} {L : List Int} (h : Sl u8E w A n L) (hb : ∀ x ∈ L,0 ≤ x ∧ x ≤ 255) : Bs w A n L := by
 refine ⟨h.1,hb,fun k hk => ?_⟩
 obtain ⟨x,b,o,hx,e,hlt,hc⟩ := h.get k hk
 refine ⟨b,o,e,hlt,?_⟩
 have h0 := hc 0 _ rfl
 rw [List.getD_eq_getElem?_getD,hx]
 have e2 : o + k * u8E.size + 0 = o + k := by show o + k * 1 + 0 = o + k; omega
 rw [e2] at h0
 exact h0
theorem bs_sl {w : World} {A : Option Addr} {n : Nat} {L : List Int} (h : Bs w A n L) : Sl u8E w A n L := by
 refine ⟨h.1,fun j x hj => ?_⟩
 have hjl := (List.getElem?_eq_some_iff.1 hj).1
 obtain ⟨b,o,e,hlt,hc⟩ := h.2.2 j (by rw [← h.1]; exact hjl)
 rw [List.getD_eq_getElem?_getD,hj] at hc
 refine ⟨b,o,e,hlt,fun i u hu => ?_⟩
 cases i with
 | zero =>
   have hu2 : u = .int .u8 x := by
    have : some (Value.int .u8 x) = some u := hu
    injection this with this
    exact this.symm
   rw [hu2,show o + j * u8E.size + 0 = o + j by show o + j * 1 + 0 = o + j; omega]
   exact hc
 | succ i => have : (none : Option Value) = some u := hu; cases this
theorem conv_so {w : World} {base m : Nat} {u : Value} {L : List Int} (h : So u8E 5 w base u m L) (hb : ∀ x ∈ L,0 ≤ x ∧ x ≤ 255) : ∃ A c,u = .slice A m c ∧ Bs w A m L ∧ (convert 77 9 u).run Tryz.prog w = .ok (.string (str L)) w := by
 obtain ⟨A,c,rfl⟩ : ∃ A c,u = .slice A m c := by
  rcases h.form with ⟨e1,e2⟩ | ⟨g,cap,e1,_⟩
  ·exact ⟨none,0,by rw [e1,e2]⟩
  ·exact ⟨_,cap,e1⟩
 have q := sl_bs h.sl hb
 exact ⟨A,c,rfl,q,q.str_ (P := Tryz.prog) 77 9 Tryz.underlying77 Tryz.underlying5 Tryz.underlying9⟩
theorem do_rea (hS : Stays Rep) {w : World} {v : Value} {s s1 : Vs} {S D : Nat → Prop} {h : Sh} {F : Fs} (ino frm n : Int) (ba : Option Addr) (bn bc : Nat) {er : Int} {bs : List Int} {kk m : Nat} (hr : Rep w v s S D) {Q : Nat → Prop} (hf : FsA (fun b => ¬ S b ∧ Q b) w h F) (hx : Mxs w S) (hbs : ∀ x ∈ bs,0 ≤ x ∧ x ≤ 255) (ha : Aft s s1 [] kk m)
 (hV : ∀ u S D,Rep u v s S D → Calls Tryz.prog 41 #[v,.int .u32 ino,.int .i64 frm,.int .i64 n] u (ReadE Rep v s1 (bs,er) S D u))
 (hM : ∀ T u,FsA T u h F → Calls Tryz.prog 81 #[.agg #[.slice h.a h.n h.c],.int .u32 ino,.int .i64 frm,.int .i64 n] u fun e w' => e = .returned (.tuple #[.string (str bs),.int .i64 er]) ∧ Below u.heap.size u w') :
 Calls Tryz.prog 35 #[v,.agg #[.slice h.a h.n h.c],.agg #[.int .i64 0,.int .u32 ino,.int .i64 frm,.int .i64 n,.slice ba bn bc]] w (DoE Rep Q v s [] kk m S D h F F w) := by
 obtain ⟨W,hW⟩ : ∃ W,((w.alloc (.cells #[.slice h.a h.n h.c] 29)).alloc (.cells #[.int .i64 0,.int .u32 ino,.int .i64 frm,.int .i64 n,.slice ba bn bc] 79)).alloc (.cells #[.slice none 0 0] 29) = W := ⟨_,rfl⟩
 obtain ⟨I0,W_0⟩ := InvG.start hS hr hf hx #[.int .i64 0,.int .u32 ino,.int .i64 frm,.int .i64 n,.slice ba bn bc] hW
 have HW := hQ_ hW
 have HS := hQ_ hS
 have HV := hQ_ hV
 have HM := hQ_ hM
 have HB := hQ_ hbs
 have HA := hQ_ ha
 have V_0 := cZ0 I0.out.fs
 have V_1 := cC4 I0.out.op
 clear hr hf hx hV hM hW hS hbs ha
 go_enter Tryz.func35,Tryz.ntmps35
 go_wp2_with fail
 rw [HW.out]
 go_wp2_with fail
 refine (HV.out _ _ _ I0.out.A.rep).mono ?_
 rintro e u1 ⟨u,mm,S',D',rfl,hso,hr1,st1,_⟩
 dsimp only at hso ⊢
 have I1 := hQ_ (I0.out.view HS.out hr1 st1)
 have SO1 := hQ_ hso
 have f1_0 := cZ0 I1.out.fs
 have f1_2 := cZ1 I1.out.op
 have f1_3 := cZ2 I1.out.op
 have f1_4 := cZ3 I1.out.op
 clear W_0 V_0 hr1 st1 hso V_1
 go_wp2_with fail
 refine (HM.out _ _ I1.out.lies).mono ?_
 rintro e u2 ⟨rfl,hb2⟩
 have I2 := hQ_ (I1.out.below HS.out hb2)
 obtain ⟨A',c',rfl,BS,cv1⟩ := conv_so (SO1.out.below hb2) HB.out
 have cv2 : (convert 77 9 (.slice A' mm c')).run Tryz.prog u2.drew = .ok (.string (str bs)) u2.drew := (BS.below ((Below.refl _ _).drew)).str_ (P := Tryz.prog) 77 9 Tryz.underlying77 Tryz.underlying5 Tryz.underlying9
 generalize str bs = t at *
 have f2_0 := cZ0 I2.out.fs
 have r1 := cZ0 I2.out.res
 have r2 : u2.frozen? ⟨w.heap.size + 1 + 1,0,none⟩ = false := I2.out.res.frozen 0
 have d6 : (er == er) = true := by simp
 clear f1_0 f1_2 f1_3 f1_4 hb2 BS
 go_wp2_with fail
 go_region_law (fail)
 all_goals
  obtain ⟨f1,f2,f3⟩ := I2.out.ret HS.out I2.out.lies
  have HF1 := hQ_ (And.intro f1 f2)
  have HF3 := hQ_ f3
  clear f1 f2 f3
  go_wp2_with fail
  first
   | exact bodyPost_ret (v := .tuple #[.bool true,.agg #[.slice h.a h.n h.c],.bool false]) (results_row3 rfl _ _ (w.heap.size + 1 + 1) 29 _ (0,0) _ rfl _ _ rfl rfl HF3.out Tryz.underlying29 rfl info_fs) rfl (DoE.ok HF1.out.1 HF1.out.2 rfl HA.out)
   | exact bodyPost_ret (v := .tuple #[.bool true,.agg #[.slice h.a h.n h.c],.bool false]) (results_row3 rfl _ _ (w.heap.size + 1 + 1) 29 _ (0,0) _ rfl _ _ rfl rfl HF3.out.drew Tryz.underlying29 rfl info_fs) rfl (DoE.ok (HF1.out.1.below HS.out ((Below.refl _ _).drew)) (HF1.out.2.below ((Below.refl _ _).drew)) rfl HA.out)
theorem do_else (hS : Stays Rep) {w : World} {v : Value} {s : Vs} {S D : Nat → Prop} {h : Sh} {F : Fs} (kind ino frm n : Int) (ba : Option Addr) (bn bc : Nat) (hr : Rep w v s S D) {Q : Nat → Prop} (hf : FsA (fun b => ¬ S b ∧ Q b) w h F) (hx : Mxs w S) (hk : kind < 0 ∨ 2 < kind) :
 Calls Tryz.prog 35 #[v,.agg #[.slice h.a h.n h.c],.agg #[.int .i64 kind,.int .u32 ino,.int .i64 frm,.int .i64 n,.slice ba bn bc]] w (DoE Rep Q v s [] 1 0 S D h F F w) := by
 obtain ⟨W,hW⟩ : ∃ W,((w.alloc (.cells #[.slice h.a h.n h.c] 29)).alloc (.cells #[.int .i64 kind,.int .u32 ino,.int .i64 frm,.int .i64 n,.slice ba bn bc] 79)).alloc (.cells #[.slice none 0 0] 29) = W := ⟨_,rfl⟩
 obtain ⟨I0,W_0⟩ := InvG.start hS hr hf hx #[.int .i64 kind,.int .u32 ino,.int .i64 frm,.int .i64 n,.slice ba bn bc] hW
 have HW := hQ_ hW
 have HS := hQ_ hS
 have d0 : (kind == 0) = false := by simp; omega
 have d1 : (kind == 1) = false := by simp; omega
 have d2 : (kind == 2) = false := by simp; omega
 have V_0 := cZ0 I0.out.fs
 have V_1 := cZ0 I0.out.op
 have V_n := cZ0 I0.out.nx
 have r1 := cZ0 I0.out.res
 have r2 : (W.alloc (.cells #[.slice h.a h.n h.c] 29)).frozen? ⟨w.heap.size + 1 + 1,0,none⟩ = false := I0.out.res.frozen 0
 clear hr hf hx hW hS hk
 go_enter Tryz.func35,Tryz.ntmps35
 go_wp2_with fail
 rw [HW.out]
 go_wp2_with fail
 go_region_law (fail)
 all_goals
  obtain ⟨f1,f2,f3⟩ := I0.out.ret HS.out I0.out.lies
  have HF1 := hQ_ (And.intro f1 f2)
  have HF3 := hQ_ f3
  clear f1 f2 f3
  go_wp2_with fail
  first
   | exact bodyPost_ret (v := .tuple #[.bool true,.agg #[.slice h.a h.n h.c],.bool false]) (results_row3 rfl _ _ (w.heap.size + 1 + 1) 29 _ (0,0) _ rfl _ _ rfl rfl HF3.out Tryz.underlying29 rfl info_fs) rfl (DoE.ok HF1.out.1 HF1.out.2 rfl (Aft.nil (Sm.refl s) (by omega) (Nat.le_refl _)))
   | exact bodyPost_ret (v := .tuple #[.bool true,.agg #[.slice h.a h.n h.c],.bool false]) (results_row3 rfl _ _ (w.heap.size + 1 + 1) 29 _ (0,0) _ rfl _ _ rfl rfl HF3.out.drew Tryz.underlying29 rfl info_fs) rfl (DoE.ok (HF1.out.1.below HS.out ((Below.refl _ _).drew)) (HF1.out.2.below ((Below.refl _ _).drew)) rfl (Aft.nil (Sm.refl s) (by omega) (Nat.le_refl _)))
end Go.Proofs.YtfalhnomhidkcaaGreatDoor.FileLb
namespace Go.Proofs.YtfalhnomhidkcaaGreatDoor.FileLc
open Go.RowKit
open Byte PackM KeysM TreeM ViewM NamesM NamesL Lst Ho Tx WalkF Chg TreeL ViewL WalkL WalkV Vat DirsM DirsV DirsR DirsRe DirsK DirsKa DirsKc FileM FileV FileO FileKd FileKe FileKg FileLa FileLb Owc
open DirsL (Mine DoE DoE.ok DoE.full results_row3)
open Own hiding keeps
open ViewR (Sh)
variable {Rep : RepT}
theorem zero_u8 (w : World) : (zeroValue 5).run Tryz.prog w = .ok (.int .u8 0) w := by kernel_rfl
theorem own_some {w : World} {base n g0 g1 : Nat} {x : Value} {L : List Int} (ho : So u8E 5 w base x n L) (hat : x.ownBlock = some g0 ∨ x.ownBlock = some g1) : ∃ g cap,x = .slice (some ⟨g,0,none⟩) n cap ∧ base ≤ g ∧ g < w.heap.size ∧ n ≤ cap ∧ cap ≤ maxLen := by
 rcases ho.form with ⟨e1,e2⟩ | ⟨g,cap,e1,h1,h2,h3,h4⟩
 ·rw [e1] at hat
  rcases hat with q | q <;> cases q
 ·exact ⟨g,cap,e1,h1,h2,h3,h4⟩
section
variable {w0 u u' : World} {S0 D0 S D S' D' : Nat → Prop} {Q : Nat → Prop} {cs : Array Value} {h0 hn h h' : Sh} {v : Value} {s s' : Vs} {F F' : Fs} {g : Nat}
theorem aim_ (I : InvG Rep w0 S0 D0 Q cs h0 hn u v s S D h F) (hg : u.heap.size ≤ g) : InvG Rep w0 S0 D0 (fun b => b ≠ g ∧ Q b) cs h0 hn u v s S D h F :=
 ⟨I.A,I.fs,I.op,I.res,I.lies.chg (S := fun _ => False) (Chg.refl _ u) (fun b hb hlt => ⟨fun h => h,hb.1,hb.2.1,by omega,hb.2.2⟩),I.mx,I.ml,I.nx⟩
theorem aside_ (hS : Stays Rep) (I : InvG Rep w0 S0 D0 (fun b => b ≠ g ∧ Q b) cs h0 hn u v s S D h F) (A2 : At Rep w0 S0 D0 (fun b => Mine w0 b ∨ b = g) u v s S D) (h4 : w0.heap.size + 4 ≤ g) {k base : Nat} {L : List Int} {x : Value} (ho : So u8E 5 u base x k L) (hx : x.ownBlock = some g) (hgr : u.grownBy u' (some g)) : InvG Rep w0 S0 D0 (fun b => b ≠ g ∧ Q b) cs h0 hn u' v s S D h F := by
 have hc : Chg (fun b => b = g) u u' := Chg.of_grown hgr (fun k e => .inl (by injection e with e; exact e.symm))
 have q := A2.grown hS ho (fun r hr => by rw [hx] at hr; injection hr with hr; exact .inr hr.symm) (by decide) (by rw [hx]; exact hgr)
 refine ⟨q.less (fun b hb => .inl hb),I.fs.grown hgr (by omega),I.op.grown hgr (by omega),I.res.grown hgr (by omega),I.lies.chg hc (fun b hb _ => ⟨hb.2.2.1,hb⟩),⟨?_,I.mx.2⟩,I.ml,I.nx.grown hgr (by omega)⟩
 obtain ⟨m,hm2⟩ := I.mx.1
 exact ⟨m,hc.cell hm2 (by have := I.ml; show ¬ 0 = g; omega)⟩
theorem fs_loose {S' : Nat → Prop} {w' : World} {h' : Sh} {G : Fs} (hf : FsA (fun b => ¬ S' b ∧ b ≠ g ∧ Q b) w' h' G) : FsA (fun b => ¬ S' b ∧ Q b) w' h' G :=
 hf.chg (S := fun _ => False) (Chg.refl _ w') (fun b hb _ => ⟨fun h => h,hb.1,hb.2.2⟩)
end
theorem do_wri (hS : Stays Rep) {w : World} {v : Value} {s : Vs} {S D : Nat → Prop} {h : Sh} {F F' : Fs} (ino frm n : Int) (ba : Option Addr) (bn bc : Nat) {bs : List Int} {er : Int} {ps : List Wrt} {kk m : Nat} (hr : Rep w v s S D) {Q : Nat → Prop} (hf : FsA (fun b => ¬ S b ∧ Q b) w h F) (hQ : ∀ b,w.heap.size ≤ b → Q b) (hx : Mxs w S) (h21 : er ≠ 21)
 (hbs : Bs w ba bn bs) (hoff : 0 < bn → ∀ b o,ba = some ⟨b,o,none⟩ → ¬ S b ∧ b < w.heap.size) (hfit : bn ≤ bc) (hbig : bc ≤ 140737488351232) (hnil : ba = none → bc = 0)
 (hV : ∀ u S D A c,Rep u v s S D → Bs u A bn bs → bn ≤ c → c ≤ 9223372036854775807 → (∀ b o,A = some ⟨b,o,none⟩ → ¬ S b ∧ b < u.heap.size) → Calls Tryz.prog 40 #[v,.int .u32 ino,.int .i64 frm,.slice A bn c] u (Ans Rep v s er ps kk m S D u))
 (hM : ∀ T u,FsA T u h F → (∀ b,u.heap.size ≤ b → T b) → Calls Tryz.prog 82 #[.agg #[.slice h.a h.n h.c],.int .u32 ino,.int .i64 frm,.string (str bs)] u (AnsE T (er,F') u)) :
 Calls Tryz.prog 35 #[v,.agg #[.slice h.a h.n h.c],.agg #[.int .i64 1,.int .u32 ino,.int .i64 frm,.int .i64 n,.slice ba bn bc]] w (DoE Rep Q v s ps kk m S D h F F' w) := by
 obtain ⟨W,hW⟩ : ∃ W,((w.alloc (.cells #[.slice h.a h.n h.c] 29)).alloc (.cells #[.int .i64 1,.int .u32 ino,.int .i64 frm,.int .i64 n,.slice ba bn bc] 79)).alloc (.cells #[.slice none 0 0] 29) = W := ⟨_,rfl⟩
 obtain ⟨I0,W_0⟩ := InvG.start hS hr hf hx #[.int .i64 1,.int .u32 ino,.int .i64 frm,.int .i64 n,.slice ba bn bc] hW
 have hbw : Below w.heap.size w W := by rw [← hW]; exact ((bW_).alloc (by simp) _).alloc (by simp; omega) _
 have hWz : W.heap.size = w.heap.size + 3 := by rw [← hW]; simp
 obtain ⟨W1,hW1⟩ : ∃ W1,W.alloc (.cells #[.slice h.a h.n h.c] 29) = W1 := ⟨_,rfl⟩
 have hbw1 : Below w.heap.size w W1 := by rw [← hW1]; exact hbw.alloc hbw.size _
 have hz1 : W1.heap.size = w.heap.size + 4 := by rw [← hW1]; simp [hWz]
 rw [hW1] at I0
 have HW := hQ_ hW
 have HW1 := hQ_ hW1
 have HS := hQ_ hS
 have HV := hQ_ hV
 have HM := hQ_ hM
 have HQ := hQ_ hQ
 have BS1 := hQ_ (hbs.below hbw1)
 have HOFF := hQ_ hoff
 have d21 : (er == 21) = false := by simpa using h21
 have V_0 := cZ0 I0.out.fs
 have V_1 := cZ0 I0.out.op
 have V_2 := cZ1 I0.out.op
 have V_3 := cZ2 I0.out.op
 have V_4 := cZ4 I0.out.op
 have HZ1 := hQ_ hz1
 have hlt1 : w.heap.size + 1 < W1.heap.size := by omega
 clear hr hf hx hV hM hW hW1 hS h21 hQ hbs hoff hz1 hWz hbw hbw1
 go_enter Tryz.func35,Tryz.ntmps35
 go_upto_region 9 with (fail)
 rw [HW.out,HW1.out]
 have hbA := bN_ W1 (.cells #[] 5)
 have V_4a : (W1.alloc (.cells #[] 5)).cell? ⟨w.heap.size + 1,4,none⟩ = some (.slice ba bn bc) := (I0.out.op.below hbA).cell 4
 go_wp2_with ((with_reducible refine pick (some 59) ?_); refine wpList_append_any u8E 5 rfl _ _ _ rfl Tryz.underlying77 info_u8 rfl W1.heap.size _ 0 [] rfl (So.new_ u8E 5 W1 (Nat.le_refl _)) ba bn bc bs rfl (bs_sl (BS1.out.below hbA)) hnil bn (by omega) bs rfl (by unfold maxLen; omega) (by omega) (by simp) ?_; intro v3 w3 hown3 hg3 hat3; obtain ⟨g3,c3,rfl,hlo3,hhi3,hfit3,hmax3⟩ := own_some hown3 hat3; have hb3 : Below W1.heap.size W1 w3 := hbA.grown hg3 hbA.size (fun k hk => by cases hk; exact Nat.le_refl _); have I3 := hQ_ ((aim_ I0.out hlo3).below HS.out hb3); have A3 := hQ_ (I0.out.A.own HS.out hb3 hlo3 hhi3); have SO3 := hQ_ hown3; have BS3 := hQ_ (BS1.out.below hb3); have f3_0 : w3.cell? ⟨w.heap.size,0,none⟩ = some (.slice h.a h.n h.c) := I3.out.fs.cell 0; have f3_1 : w3.cell? ⟨w.heap.size + 1,1,none⟩ = some (.int .u32 ino) := I3.out.op.cell 1; have f3_2 : w3.cell? ⟨w.heap.size + 1,2,none⟩ = some (.int .i64 frm) := I3.out.op.cell 2; have f3_4 : w3.cell? ⟨w.heap.size + 1,4,none⟩ = some (.slice ba bn bc) := I3.out.op.cell 4; clear V_0 V_1 V_2 V_3 V_4 V_4a hbA hg3 hat3 hown3 hb3)
 refine (HV.out _ _ _ (some ⟨g3,0,none⟩) c3 I3.out.A.rep (sl_bs SO3.out.sl BS3.out.2.1) hfit3 (by unfold maxLen at hmax3; exact hmax3) (fun b o e => by
  injection e with e
  injection e with e _
  subst e
  exact ⟨A3.out.apart HS.out (.inr rfl),hhi3⟩)).mono ?_
 intro e u4 ha
 rcases ha.split with ⟨s',S',D',rfl,hgo,hr4,st4,aft⟩ | ⟨s',S',D',rfl,hgo,hr4,st4,aft⟩
 ·have I4 := hQ_ (I3.out.view HS.out hr4 st4)
  have A4 := hQ_ (A3.out.step HS.out hr4 st4)
  have SO4 := hQ_ (so_chg SO3.out st4.chg (fun b hb => by cases hb; exact A3.out.apart HS.out (.inr rfl)))
  have BS4 := hQ_ (bs_stp0 BS3.out st4.chg (fun hp b o e => (HOFF.out hp b o e).1))
  have HA := hQ_ (And.intro hgo aft)
  clear f3_0 f3_1 f3_2 f3_4 hgo hr4 st4 aft ha
  go_wp2_with ((with_reducible refine pick none ?_); refine wpList_clear_own u8E 5 rfl _ _ rfl W1.heap.size Tryz.underlying77 _ zero_u8 rfl (by decide +kernel) g3 bn c3 bs rfl SO4.out ?_; intro u5 hg5; have I5 := hQ_ (aside_ HS.out I4.out A4.out (by have := HZ1.out; omega) SO4.out rfl hg5); have BS5 := hQ_ (bs_grown0 BS4.out hg5 (fun hp b o e => by have := (HOFF.out hp b o e).2; have := HZ1.out; omega)); have f5_0 : u5.cell? ⟨w.heap.size,0,none⟩ = some (.slice h.a h.n h.c) := I5.out.fs.cell 0; have f5_1 : u5.cell? ⟨w.heap.size + 1,1,none⟩ = some (.int .u32 ino) := I5.out.op.cell 1; have f5_2 : u5.cell? ⟨w.heap.size + 1,2,none⟩ = some (.int .i64 frm) := I5.out.op.cell 2; have f5_4 : u5.cell? ⟨w.heap.size + 1,4,none⟩ = some (.slice ba bn bc) := I5.out.op.cell 4; have cv5 := BS5.out.str_ (P := Tryz.prog) (c := bc) 77 9 Tryz.underlying77 Tryz.underlying5 Tryz.underlying9; have hg45 := hg5.size; clear hg5)
  refine (HM.out _ _ I5.out.lies (fun b hb => ⟨fun q => by have h1 := HS.out.lt I5.out.A.rep b (HS.out.sub I5.out.A.rep b q); omega,fun q => by have h1 := I5.out.nx.lt; have h2 := q.2; omega,fun e => by have h1 := A4.out.mine g3 (.inr rfl); have h2 := hg45; omega,HQ.out b (Nat.le_trans I5.out.A.size hb)⟩)).mono ?_
  rintro e u6 ⟨h6,rfl,hf6,hb6⟩
  have I6 := hQ_ (I5.out.below HS.out hb6)
  have HF6 := hQ_ hf6
  have f6_0 := cZ0 I6.out.fs
  have d22 : (er == er) = true := by simp
  clear f5_0 f5_1 f5_2 f5_4 cv5 hf6 hb6
  go_wp2_with ((with_reducible refine pick none ?_); refine store_blk rfl 29 _ _ rfl (w.heap.size + 1 + 1 + 1) #[.slice h6.a h6.n h6.c] rfl rfl 29 _ I6.out.nx info_fs rfl (by simp [Value.oneCell']) ?_; intro u7 hk7 hg7; obtain ⟨i7,l7⟩ := I6.out.next HS.out HF6.out hg7 hk7; have I7 := hQ_ i7; have L7 := hQ_ l7; have f7_0 : u7.cell? ⟨w.heap.size,0,none⟩ = some (.slice h.a h.n h.c) := I7.out.fs.cell 0; have f7_n : u7.cell? ⟨w.heap.size + 1 + 1 + 1,0,none⟩ = some (.slice h6.a h6.n h6.c) := I7.out.nx.cell 0; clear hk7 hg7 f6_0 i7 l7)
  have r1 := cZ0 I7.out.res
  have r2 : u7.frozen? ⟨w.heap.size + 1 + 1,0,none⟩ = false := I7.out.res.frozen 0
  go_region_law (fail)
  all_goals
   obtain ⟨f1,f2,f3⟩ := I7.out.ret HS.out L7.out
   have HF1 := hQ_ (And.intro f1 (fs_loose f2))
   have HF3 := hQ_ f3
   clear f1 f2 f3
   go_wp2_with fail
   first
    | exact bodyPost_ret (v := .tuple #[.bool true,.agg #[.slice h6.a h6.n h6.c],.bool false]) (results_row3 rfl _ _ (w.heap.size + 1 + 1) 29 _ (0,0) _ rfl _ _ rfl rfl HF3.out Tryz.underlying29 rfl info_fs) rfl (DoE.ok HF1.out.1 HF1.out.2 HA.out.1 HA.out.2)
    | exact bodyPost_ret (v := .tuple #[.bool true,.agg #[.slice h6.a h6.n h6.c],.bool false]) (results_row3 rfl _ _ (w.heap.size + 1 + 1) 29 _ (0,0) _ rfl _ _ rfl rfl HF3.out.drew Tryz.underlying29 rfl info_fs) rfl (DoE.ok (HF1.out.1.below HS.out ((Below.refl _ _).drew)) (HF1.out.2.below ((Below.refl _ _).drew)) HA.out.1 HA.out.2)
 ·have I4 := hQ_ (I3.out.view HS.out hr4 st4)
  have A4 := hQ_ (A3.out.step HS.out hr4 st4)
  have SO4 := hQ_ (so_chg SO3.out st4.chg (fun b hb => by cases hb; exact A3.out.apart HS.out (.inr rfl)))
  have BS4 := hQ_ (bs_stp0 BS3.out st4.chg (fun hp b o e => (HOFF.out hp b o e).1))
  have HA := hQ_ (And.intro hgo aft)
  clear f3_0 f3_1 f3_2 f3_4 hgo hr4 st4 aft ha
  go_wp2_with ((with_reducible refine pick none ?_); refine wpList_clear_own u8E 5 rfl _ _ rfl W1.heap.size Tryz.underlying77 _ zero_u8 rfl (by decide +kernel) g3 bn c3 bs rfl SO4.out ?_; intro u5 hg5; have I5 := hQ_ (aside_ HS.out I4.out A4.out (by have := HZ1.out; omega) SO4.out rfl hg5); have BS5 := hQ_ (bs_grown0 BS4.out hg5 (fun hp b o e => by have := (HOFF.out hp b o e).2; have := HZ1.out; omega)); have f5_0 : u5.cell? ⟨w.heap.size,0,none⟩ = some (.slice h.a h.n h.c) := I5.out.fs.cell 0; have f5_1 : u5.cell? ⟨w.heap.size + 1,1,none⟩ = some (.int .u32 ino) := I5.out.op.cell 1; have f5_2 : u5.cell? ⟨w.heap.size + 1,2,none⟩ = some (.int .i64 frm) := I5.out.op.cell 2; have f5_4 : u5.cell? ⟨w.heap.size + 1,4,none⟩ = some (.slice ba bn bc) := I5.out.op.cell 4; have cv5 := BS5.out.str_ (P := Tryz.prog) (c := bc) 77 9 Tryz.underlying77 Tryz.underlying5 Tryz.underlying9; have hg45 := hg5.size; clear hg5)
  refine (HM.out _ _ I5.out.lies (fun b hb => ⟨fun q => by have h1 := HS.out.lt I5.out.A.rep b (HS.out.sub I5.out.A.rep b q); omega,fun q => by have h1 := I5.out.nx.lt; have h2 := q.2; omega,fun e => by have h1 := A4.out.mine g3 (.inr rfl); have h2 := hg45; omega,HQ.out b (Nat.le_trans I5.out.A.size hb)⟩)).mono ?_
  rintro e u6 ⟨h6,rfl,hf6,hb6⟩
  have I6 := hQ_ (I5.out.below HS.out hb6)
  have HF6 := hQ_ hf6
  have f6_0 := cZ0 I6.out.fs
  have d22 : (er == er) = true := by simp
  clear f5_0 f5_1 f5_2 f5_4 cv5 hf6 hb6
  go_wp2_with ((with_reducible refine pick none ?_); refine store_blk rfl 29 _ _ rfl (w.heap.size + 1 + 1 + 1) #[.slice h6.a h6.n h6.c] rfl rfl 29 _ I6.out.nx info_fs rfl (by simp [Value.oneCell']) ?_; intro u7 hk7 hg7; obtain ⟨i7,l7⟩ := I6.out.next HS.out HF6.out hg7 hk7; have I7 := hQ_ i7; have L7 := hQ_ l7; have f7_0 : u7.cell? ⟨w.heap.size,0,none⟩ = some (.slice h.a h.n h.c) := I7.out.fs.cell 0; have f7_n : u7.cell? ⟨w.heap.size + 1 + 1 + 1,0,none⟩ = some (.slice h6.a h6.n h6.c) := I7.out.nx.cell 0; clear hk7 hg7 f6_0 i7 l7)
  have r1 := cZ0 I7.out.res
  have r2 : u7.frozen? ⟨w.heap.size + 1 + 1,0,none⟩ = false := I7.out.res.frozen 0
  go_region_law (fail)
  all_goals
   obtain ⟨f1,f2,f3⟩ := I7.out.ret HS.out I7.out.lies
   have HF1 := hQ_ (And.intro f1 (fs_loose f2))
   have HF3 := hQ_ f3
   clear f1 f2 f3
   go_wp2_with fail
   first
    | exact bodyPost_ret (v := .tuple #[.bool true,.agg #[.slice h.a h.n h.c],.bool true]) (results_row3 rfl _ _ (w.heap.size + 1 + 1) 29 _ (0,0) _ rfl _ _ rfl rfl HF3.out Tryz.underlying29 rfl info_fs) rfl (DoE.full HF1.out.1 HF1.out.2 HA.out.1 HA.out.2)
    | exact bodyPost_ret (v := .tuple #[.bool true,.agg #[.slice h.a h.n h.c],.bool true]) (results_row3 rfl _ _ (w.heap.size + 1 + 1) 29 _ (0,0) _ rfl _ _ rfl rfl HF3.out.drew Tryz.underlying29 rfl info_fs) rfl (DoE.full (HF1.out.1.below HS.out ((Below.refl _ _).drew)) (HF1.out.2.below ((Below.refl _ _).drew)) HA.out.1 HA.out.2)
end Go.Proofs.YtfalhnomhidkcaaGreatDoor.FileLc
namespace Go.Proofs.YtfalhnomhidkcaaGreatDoor.FileLd
open Go.RowKit
open Byte PackM KeysM TreeM ViewM NamesM NamesL Lst Nest WalkF Chg TreeL ViewL WalkL WalkV Vat DirsM DirsV DirsR DirsRe DirsY DirsK DirsKa DirsKc FileM FileV FileO FileKf FileKg FileKh FileKi FileL FileLa FileLb FileLc
open DirsL (DoE)
open Own hiding keeps
open ViewR (Sh)
variable {Rep : RepT}
structure Wq (Rep : RepT) : Prop where
 wk : Wk Rep
 look : LookOk Rep
 set : ViewL.SetOk Rep
 copy : CpN Rep
 new : NewB Rep
def DoP (Rep : RepT) (Q : Nat → Prop) (v : Value) (S D : Nat → Prop) (k : Nat) (w : World) (e : Ending) (w' : World) : Prop := ∃ (s' : Vs) (S' D' : Nat → Prop) (h' : Sh),Rep w' v s' S' D' ∧ Stp S D S' D' w w' ∧ Mxs w' S' ∧ ((e = .returned (.tuple #[.bool true,.agg #[.slice h'.a h'.n h'.c],.bool true])) ∨ (∃ e3 e4,e = .returned (.tuple #[.bool true,.agg #[.slice h'.a h'.n h'.c],.bool false]) ∧ Fu Rep Q w' v s' S' D' h' e3 e4 (k + 1)))
theorem wri_er (L : List Pr) (ino a : Int) (b : List Int) : (wriV L ino a b).1 ≠ 21 := by
 unfold wriV
 rcases fil_er L ino with q | q <;> rw [q] <;> repeat' split
 all_goals (dsimp only; omega)
theorem tru_er (L : List Pr) (ino z : Int) : (truV L ino z).1 ≠ 21 := by
 unfold truV
 rcases fil_er L ino with q | q <;> rw [q] <;> repeat' split
 all_goals (dsimp only; omega)
theorem rea_bd (F : Fs) (ino a n : Int) : ∀ x ∈ (reaM F ino a n).1,0 ≤ x ∧ x ≤ 255 := fun x hx => by
 unfold reaM at hx
 split at hx
 ·cases hx
 ·split at hx
  ·cases hx
  ·exact txt_bd _ x (List.mem_of_mem_drop (List.mem_of_mem_take hx))
section
variable {Q : Nat → Prop} {w : World} {v : Value} {s : Vs} {S D : Nat → Prop} {h : Sh} {d3 d4 : ByteArray} {k : Nat}
theorem dop_of (hS : Stays Rep) (f : Fu Rep Q w v s S D h d3 d4 k) {V : Int × List Wrt} {M : Int × Fs} {e : Ending} {w' : World} (hd : ∀ π,Sim (FF d3 d4) π (DirsX.gk s.shown) → Dit s.shown π V M) (hM : ∃ e3 e4,M.2 = FF e3 e4) (he : DoE Rep Q v s V.2 1 0 S D h (FF d3 d4) M.2 w e w') : DoP Rep Q v S D k w e w' := by
 obtain ⟨s',S',D',h',rfl,hr,st,ha,hf⟩ := he
 obtain ⟨e3,e4,hM⟩ := hM
 refine ⟨s',S',D',h',hr,st,f.mx.step st,?_⟩
 cases hg : (goW s V.2).2 with
 | false => exact .inl rfl
 | true =>
   rw [if_pos hg,hM] at hf
   exact .inr ⟨e3,e4,rfl,f.next hS hd hM hr st ha hg hf⟩
theorem do_calls (hW : Wq Rep) (hQ : ∀ b,w.heap.size ≤ b → Q b) (f : Fu Rep Q w v s S D h d3 d4 k) (hk : k ≤ 800) (x : Op19) (g : OpG w x) (hoff : 0 < x.h.n → ∀ b o,x.h.a = some ⟨b,o,none⟩ → ¬ S b ∧ b < w.heap.size) :
 Calls Tryz.prog 35 #[v,.agg #[.slice h.a h.n h.c],.agg #[.int .i64 x.kind,.int .u32 x.ino,.int .i64 x.frm,.int .i64 x.n,.slice x.h.a x.h.n x.h.c]] w (DoP Rep Q v S D k w) := by
 obtain ⟨kind,ino,frm,n,⟨ba,bn,bc⟩⟩ := x
 obtain ⟨i0,i1,f0,f1,n0,n1,fit,big,nil,bs,hbs⟩ := g
 dsimp only at i0 i1 f0 f1 n0 n1 fit big nil hbs hoff ⊢
 have hS := hW.wk.stays
 have hl := f.lim (by omega)
 have hrd : s.rd.length ≤ 19990 := by have := f.rd; omega
 have hv := f.v64 i0 i1
 have hri := f.rise hS
 have hsm := f.smf
 have hrf : ∀ π,Sim (FF d3 d4) π (DirsX.gk s.shown) → Dit s.shown π (0,[]) (0,FF d3 d4) := fun π q => ⟨rfl,q,fun _ => rfl⟩
 obtain ⟨π0,q0⟩ := f.sim
 by_cases k0 : kind = 0
 ·subst k0
  have hrs := rea_same q0 i0 i1 frm n
  exact (do_rea (er := (reaM (FF d3 d4) ino frm n).2) hS ino frm n ba bn bc f.rep f.fs f.mx (rea_bd (FF d3 d4) ino frm n) (aft_load s (kI ino)).1 (fun u S D hr => by
   have q := Read_calls hW.wk hW.look ino frm n hr hl hrd i0 i1 f0 f1 n0 n1 hv
   rw [hrs] at q
   exact q) (fun T u hf => FileR.read_calls h (FF d3 d4) ino frm n u hf hsm f0 f1 n0 n1)).mono fun e w' he => dop_of hS f (V := (0,[])) (M := (0,FF d3 d4)) hrf ⟨_,_,rfl⟩ he
 by_cases k1 : kind = 1
 ·subst k1
  have hdt := fun π (q : Sim (FF d3 d4) π (DirsX.gk s.shown)) => wri_same q hri i0 i1 frm bs hbs.2.1
  have hme := (hdt π0 q0).er
  exact (do_wri hS ino frm n ba bn bc f.rep f.fs hQ f.mx (wri_er s.shown ino frm bs) hbs hoff fit big nil (fun u S D A c hr hb hc hc2 hA => Write_calls hW.wk hW.look hW.set ino frm hr hl hrd i0 i1 f0 f1 hb hc hc2 (fun _ => hA) hv) (by
   intro T u hf hT
   have q := FileRa.write_calls h (FF d3 d4) ino frm (str bs) u hf hsm f0 f1 (by rw [str_size,hbs.1]; omega) hT
   rw [txt_str bs hbs.2.1] at q
   rw [hme]
   exact q)).mono fun e w' he => dop_of hS f hdt (wri_ff ino frm bs) he
 by_cases k2 : kind = 2
 ·subst k2
  have hdt := fun π (q : Sim (FF d3 d4) π (DirsX.gk s.shown)) => tru_same q hri i0 i1 n
  have hme := (hdt π0 q0).er
  exact (do_tru hS ino frm n ba bn bc f.rep f.fs hQ f.mx (tru_er s.shown ino n) (fun u S D hr hx => Truncate_calls hW.wk hW.look hW.set hW.copy ino n hr hl hrd i0 i1 n0 n1 (f.letters hS) hv) (by
   intro T u hf hT
   rw [hme]
   exact FileRa.truncate_calls h (FF d3 d4) ino n u hf hsm n0 n1 hT)).mono fun e w' he => dop_of hS f hdt (tru_ff ino n) he
 ·exact (do_else hS kind ino frm n ba bn bc f.rep f.fs f.mx (by omega)).mono fun e w' he => dop_of hS f (V := (0,[])) (M := (0,FF d3 d4)) hrf ⟨_,_,rfl⟩ he
end
end Go.Proofs.YtfalhnomhidkcaaGreatDoor.FileLd
namespace Go.Proofs.YtfalhnomhidkcaaGreatDoor.FileLe
open Go.RowKit
open Byte PackM KeysM TreeM ViewM NamesM NamesL Lst Nest WalkF Chg TreeL ViewL WalkL WalkV Vat DirsM DirsV DirsR DirsRe DirsW DirsY DirsS DirsZ DirsK DirsKa DirsKc DirsLe DirsLf FileM FileV FileO FileLa FileLd
open DirsLb (ref_make)
open Own hiding keeps
open ViewR (Sh)
variable {Rep : RepT}
def pf_ : ByteArray := ⟨#[47,102]⟩
def pg_ : ByteArray := ⟨#[47,103]⟩
def z1 : Vs := (goW s0 (makV s0.shown pd 2 2).2).1
def z2 : Vs := (goW z1 (makV z1.shown pf_ 1 3).2).1
def z3 : Vs := (goW z2 (makV z2.shown pg_ 1 4).2).1
theorem gx1 : (makV s0.shown pd 2 2).1 = 0 ∧ (goW s0 (makV s0.shown pd 2 2).2).2 = true := by decide +kernel
theorem gx2 : (makV z1.shown pf_ 1 3).1 = 0 ∧ (goW z1 (makV z1.shown pf_ 1 3).2).2 = true := by decide +kernel
theorem gx3 : (makV z2.shown pg_ 1 4).1 = 0 ∧ (goW z2 (makV z2.shown pg_ 1 4).2).2 = true := by decide +kernel
def F1 : Fs := [⟨1,2,3,NE,[⟨nd,2⟩]⟩,⟨2,2,2,NE,[]⟩]
def F2 : Fs := [⟨1,2,3,NE,[⟨nd,2⟩,⟨nf,3⟩]⟩,⟨2,2,2,NE,[]⟩,⟨3,1,1,NE,[]⟩]
theorem mk1 : makeM F0 pd 2 2 = (0,F1) := by kernel_rfl
theorem mk2 : makeM F1 pf_ 1 3 = (0,F2) := by kernel_rfl
theorem mk3 : makeM F2 pg_ 1 4 = (0,FF NE NE) := by kernel_rfl
theorem ok0 : s0.Ok := ⟨List.Pairwise.nil,List.Pairwise.nil,List.Pairwise.nil,Nat.zero_le _⟩
theorem st1 : ∃ π,St F1 π z1.shown 1 := by
 have d := make_did st0 (by omega) pd (kind := 2) (ino := 2) (by omega) (by omega) rfl
 obtain ⟨π,q⟩ := d.st
 rw [mk1] at q
 exact ⟨π,by unfold z1; rw [(DirsX.go_out _ ok0 gx1.2).1]; exact q⟩
theorem ok1 : z1.Ok := by unfold z1; exact (DirsX.go_out _ ok0 gx1.2).2
theorem st2 : ∃ π,St F2 π z2.shown 2 := by
 obtain ⟨π,p⟩ := st1
 have d := make_did p (by omega) pf_ (kind := 1) (ino := 3) (by omega) (by omega) rfl
 obtain ⟨π,q⟩ := d.st
 rw [mk2] at q
 exact ⟨π,by unfold z2; rw [(DirsX.go_out _ ok1 gx2.2).1]; exact q⟩
theorem ok2 : z2.Ok := by unfold z2; exact (DirsX.go_out _ ok1 gx2.2).2
theorem st3 : ∃ π,St (FF NE NE) π z3.shown 3 := by
 obtain ⟨π,p⟩ := st2
 have d := make_did p (by omega) pg_ (kind := 1) (ino := 4) (by omega) (by omega) rfl
 obtain ⟨π,q⟩ := d.st
 rw [mk3] at q
 exact ⟨π,by unfold z3; rw [(DirsX.go_out _ ok2 gx3.2).1]; exact q⟩
structure Bg (Rep : RepT) (w2 : World) (S2 D2 : Nat → Prop) (r g : Nat) (u : World) (v : Value) (s : Vs) (S D : Nat → Prop) (h : Sh) (F : Fs) : Prop where
 A : At Rep w2 S2 D2 (fun b => b = g) u v s S D
 G : Blk u g #[.slice h.a h.n h.c] 29
 R : Blk u r #[.slice none 0 0] 29
 L : FsA (fun b => ¬ S b ∧ b ≠ r ∧ b ≠ g) u h F
 X : Mxs u S
 lo : r < w2.heap.size
 hi : w2.heap.size ≤ g
 ml : 0 < r
 off : ∀ b,S b → b ≠ r
section
variable {w2 u u' : World} {S2 D2 S D S' D' : Nat → Prop} {r g : Nat} {v : Value} {s s' : Vs} {h h' : Sh} {F F' : Fs}
theorem Bg.below (hS : Stays Rep) (p : Bg Rep w2 S2 D2 r g u v s S D h F) (hb : Below u.heap.size u u') : Bg Rep w2 S2 D2 r g u' v s S D h F :=
 ⟨p.A.below hS hb,p.G.below hb,p.R.below hb,p.L.below hb,p.X.below hb,p.lo,p.hi,p.ml,p.off⟩
theorem Bg.view (hS : Stays Rep) (p : Bg Rep w2 S2 D2 r g u v s S D h F) {v' : Value} (hr : Rep u' v' s' S' D') (st : Stp S D S' D' u u') : Bg Rep w2 S2 D2 r g u' v' s' S' D' h F := by
 have hlt := p.R.lt
 refine ⟨at_new p.A hr st,p.A.blk hS p.G rfl st,(st.chg.block r p.R.lt (fun hs => p.off r hs rfl)).trans p.R,p.L.chg st.chg (fun b hb hlt => ⟨hb.1,fun hs => ?_,hb.2⟩),p.X.step st,p.lo,p.hi,p.ml,fun b hs e => ?_⟩
 ·rcases st.own b hs with q | q
  ·exact hb.1 q
  ·omega
 ·rcases st.own b hs with q | q
  ·exact p.off b q e
  ·omega
theorem Bg.put (hS : Stays Rep) (p : Bg Rep w2 S2 D2 r g u v s S D h F) (hf : FsA (fun b => ¬ S b ∧ b ≠ r ∧ b ≠ g) u h' F') (hg : u.grownBy u' (some g)) (hk : Blk u' g #[.slice h'.a h'.n h'.c] 29) : Bg Rep w2 S2 D2 r g u' v s S D h' F' := by
 have hc : Chg (fun b => b = g) u u' := Chg.of_grown hg (fun k e => .inl (by injection e with e; exact e.symm))
 have h1 := p.lo
 have h2 := p.hi
 refine ⟨p.A.stored hS p.G rfl (by decide) hg,hk,p.R.grown hg (by omega),hf.chg hc (fun b hb _ => ⟨hb.2.2,hb⟩),⟨?_,p.X.2⟩,p.lo,p.hi,p.ml,p.off⟩
 obtain ⟨m,hm2⟩ := p.X.1
 exact ⟨m,hc.cell hm2 (by have := p.ml; show ¬ 0 = g; omega)⟩
theorem Bg.room (hS : Stays Rep) (p : Bg Rep w2 S2 D2 r g u v s S D h F) : ∀ b,u.heap.size ≤ b → ¬ S b ∧ b ≠ r ∧ b ≠ g := fun b hb => by
 have h1 := p.R.lt
 have h2 := p.G.lt
 exact ⟨fun q => by have := hS.lt p.A.rep b (hS.sub p.A.rep b q); omega,by omega,by omega⟩
theorem Bg.fin (hS : Stays Rep) {L : List Pr} {w0 : World} (p : Bg Rep w2 S2 D2 r g u v ⟨L,[],[],[]⟩ S D h (FF NE NE)) (h2 : (∀ b,S2 b → r < b) ∧ ∀ b,D2 b → r < b) (hb : Below r w0 w2) (hr0 : r ≤ w0.heap.size) (hsim : ∃ π,Sim (FF NE NE) π (DirsX.gk L)) (hg : ∀ p ∈ L,p.gone = false) (hl : L.length ≤ 200) :
 Fu Rep (fun _ => True) (u.setCell ⟨r,0,none⟩ (.slice h.a h.n h.c)) v ⟨L,[],[],[]⟩ S D h NE NE 0 ∧ (∀ b,S b → r ≤ b) ∧ (∀ b,D b → r ≤ b) ∧ Blk (u.setCell ⟨r,0,none⟩ (.slice h.a h.n h.c)) r #[.slice h.a h.n h.c] 29 ∧ Below r w0 (u.setCell ⟨r,0,none⟩ (.slice h.a h.n h.c)) := by
 have hlo := p.lo
 have hSb : ∀ b,S b → r < b := fun b hb => by
  rcases p.A.st.own b hb with q | q
  ·exact h2.1 b q
  ·omega
 have hDb : ∀ b,D b → r < b := fun b hb => by
  rcases p.A.st.dep b hb with q | q
  ·exact h2.2 b q
  ·omega
 have hc : Chg (fun b => b = r) u (u.setCell ⟨r,0,none⟩ (.slice h.a h.n h.c)) := (Chg.refl (fun b => b = r) u).setCell (p := ⟨r,0,none⟩) (.inl rfl) _
 refine ⟨⟨hS.stay p.A.rep hc (fun b e hd => by have := hDb b hd; omega) (ViewD.kept_set p.R (by decide) 0 _),p.L.chg hc (fun b hb _ => ⟨hb.2.1,hb.1,trivial⟩),⟨?_,p.X.2⟩,hsim,hg,hl,Nat.zero_le _,Nat.zero_le _⟩,fun b hb => Nat.le_of_lt (hSb b hb),fun b hb => Nat.le_of_lt (hDb b hb),p.R.set_ 0 _,(below_chg hb p.A.st.chg (fun b hb => Nat.le_of_lt (h2.1 b hb)) hr0).setCell (p := ⟨r,0,none⟩) (Nat.le_refl _) _⟩
 obtain ⟨m,hm2⟩ := p.X.1
 exact ⟨m,hc.cell hm2 (by have := p.ml; show ¬ 0 = r; omega)⟩
end
theorem sim3 : ∃ π,Sim (FF NE NE) π (DirsX.gk z3.shown) := by
 obtain ⟨π,q⟩ := st3
 exact ⟨π,q.sim⟩
theorem zfacts : (∀ p ∈ z3.shown,(sp p.key).letter ≠ 0) ∧ (∀ p ∈ z3.shown,p.gone = false) ∧ Rise z3.shown ∧ z3.shown.length ≤ 200 := by
 obtain ⟨π,q⟩ := st3
 exact ⟨let_of q.sim.rg q.sim.bs q.rise,q.gone,q.rise,len_ff q.sim q.rise⟩
theorem lim_z {s z : Vs} (h : Sm s z) (hb : z.base = []) (h1 : s.rd.length ≤ 500) (h2 : s.rg.length ≤ 50) : Lim s := lim_sm (by rw [h.base,hb]) h1 h2
theorem zb1 : z1.base = [] := by unfold z1; rw [goW_base]; rfl
theorem zb2 : z2.base = [] := by unfold z2; rw [goW_base]; exact zb1
theorem zb3 : z3.base = [] := by unfold z3; rw [goW_base]; exact zb2
def BeginE (Rep : RepT) (w : World) (e : Ending) (w' : World) : Prop := ∃ v s S D h,e = .returned (.tuple #[v,.agg #[.slice h.a h.n h.c]]) ∧ Fu Rep (fun _ => True) w' v s S D h NE NE 0 ∧ (∀ b,S b → w.heap.size ≤ b) ∧ (∀ b,D b → w.heap.size ≤ b) ∧ Below w.heap.size w w' ∧ s.wr = []
theorem begin_calls (hW : Wq Rep) (w : World) (hmx : Mx w) : Calls Tryz.prog 33 #[] w (BeginE Rep w) := by
 have HMX := hQ_ hmx
 have HW := hQ_ hW
 have HS := hQ_ hW.wk.stays
 have ML : Hid (0 < w.heap.size) := hQ_ (by
  obtain ⟨m,hm⟩ := hmx
  exact World.block_lt_of_cell? w ⟨0,0,none⟩ hm)
 clear hmx hW
 go_enter Tryz.func33,Tryz.ntmps33
 go_wp2_with fail
 refine (TreeG.new_calls _).mono ?_
 rintro e w1 ⟨v0,h0,rfl,hr0,hb1⟩
 have hb0 := bN_ w (.cells #[.slice none 0 0] 29)
 have HB1 := hQ_ (Own.keeps hb0 hb1)
 have R1 := hQ_ ((Blk.new_ w #[.slice none 0 0] 29).below hb1)
 have HR0 := hQ_ hr0
 clear hb0 hb1 hr0
 go_wp2_with fail
 refine (HW.out.new HR0.out (Nat.zero_le _) (fun p hp => by cases hp)).mono ?_
 rintro e w2 ⟨v,S,D,rfl,hr2,hS2,hD2,hb2⟩
 have HB2 := hQ_ (Own.keeps HB1.out hb2)
 have R2 := hQ_ (R1.out.below hb2)
 have HSD : Hid ((∀ b,S b → w.heap.size < b) ∧ (∀ b,D b → w.heap.size < b)) := hQ_ ⟨fun b hb => Nat.lt_of_lt_of_le R1.out.lt (hS2 b hb),fun b hb => Nat.lt_of_lt_of_le R1.out.lt (hD2 b hb)⟩
 have A2 := hQ_ (At.start hr2)
 clear hb2 hr2 hS2 hD2
 go_wp2_with fail
 refine (DirsRc.new_calls (T := fun b => w2.heap.size ≤ b) _ (fun b hb => hb)).mono ?_
 rintro e w3 ⟨hh,rfl,hf3,hb3⟩
 have hb4 := bN_ w3 (.cells #[.slice hh.a hh.n hh.c] 29)
 have B0 : Hid (Bg Rep w2 S D w.heap.size w3.heap.size (w3.alloc (.cells #[.slice hh.a hh.n hh.c] 29)) v s0 S D hh F0) := hQ_ (by
  have a4 := ((A2.out.below HS.out hb3).own HS.out hb4 (Nat.le_refl _) (by simp)).less (M' := fun b => b = w3.heap.size) (fun b hb => .inr hb)
  refine ⟨a4,Blk.new_ _ _ _,(R2.out.below hb3).below hb4,?_,⟨((HMX.out.below HB2.out).below hb3).below hb4,fun hs => by have h1 := HSD.out.1 _ hs; have h2 := ML.out; omega⟩,R2.out.lt,hb3.size,ML.out,fun b hs e => by have h1 := HSD.out.1 _ hs; omega⟩
  exact (hf3.chg (S := fun _ => False) (Chg.refl _ w3) (fun b hb hlt => ⟨fun h => h,fun hs => by have := HS.out.lt A2.out.rep b (HS.out.sub A2.out.rep b hs); omega,by have := R2.out.lt; omega,by omega⟩)).below hb4)
 have C1 := hQ_ (DirsKe.make_calls HW.out.wk pd 2 2 B0.out.A.rep (lim_sm (s := s0) rfl (Nat.zero_le _) (Nat.zero_le _)) (Nat.zero_le _) (Nat.zero_le _) B0.out.X (by decide) (by decide) (by decide) (by decide) (by decide))
 clear hf3 hb3 hb4
 go_wp2_with fail
 refine C1.out.mono ?_
 intro e u1 h5
 obtain ⟨t1,S1,D1,rfl,hr5,st5,sm5,rd5,rg5⟩ := step_ h5 (Sm.refl s0) gx1.2
 rw [gx1.1]
 have B1 := hQ_ (B0.out.view HS.out hr5 st5)
 have rd1 : t1.rd.length ≤ 41 := rd5
 have rg1 : t1.rg.length ≤ 0 := rg5
 have SM1 : Hid (Sm t1 z1) := hQ_ sm5
 have c2 := DirsKe.make_calls HW.out.wk pf_ 1 3 hr5 (lim_z (z := z1) sm5 zb1 (by omega) (by omega)) (by omega) (by omega) B1.out.X (by decide) (by decide) (by decide) (by decide) (by decide)
 rw [show t1.shown = z1.shown from sm5.shown] at c2
 have C2 := hQ_ c2
 clear h5 hr5 st5 sm5 rd5 rg5 c2 C1
 go_wp2_with fail
 refine C2.out.mono ?_
 intro e u2 h5
 obtain ⟨t2,S2,D2,rfl,hr5,st5,sm5,rd5,rg5⟩ := step_ h5 SM1.out gx2.2
 rw [gx2.1]
 have B2 := hQ_ (B1.out.view HS.out hr5 st5)
 have rd2 : t2.rd.length ≤ 82 := by omega
 have rg2 : t2.rg.length ≤ 0 := by omega
 have SM2 : Hid (Sm t2 z2) := hQ_ sm5
 have c3 := DirsKe.make_calls HW.out.wk pg_ 1 4 hr5 (lim_z (z := z2) sm5 zb2 (by omega) (by omega)) (by omega) (by omega) B2.out.X (by decide) (by decide) (by decide) (by decide) (by decide)
 rw [show t2.shown = z2.shown from sm5.shown] at c3
 have C3 := hQ_ c3
 clear h5 hr5 st5 sm5 rd5 rg5 c3 C2
 go_wp2_with fail
 refine C3.out.mono ?_
 intro e u3 h5
 obtain ⟨t3,S3,D3,rfl,hr5,st5,sm5,rd5,rg5⟩ := step_ h5 SM2.out gx3.2
 rw [gx3.1]
 have B3 := hQ_ (B2.out.view HS.out hr5 st5)
 have rd3 : t3.rd.length ≤ 123 := by omega
 have rg3 : t3.rg.length ≤ 0 := by omega
 have SM3 : Hid (Sm t3 z3) := hQ_ sm5
 have f3 := cZ0 B3.out.G
 have q1 := ref_make st0 pd (kind := 2) (ino := 2) (by decide) (by omega) (by omega) rfl (hh := hh) _ u3 B3.out.L (B3.out.room HS.out)
 rw [mk1] at q1
 have Q1 := hQ_ q1
 clear h5 hr5 st5 sm5 rd5 rg5 C3 q1 rd1 rd2 rg1 rg2
 go_wp2_with fail
 refine Q1.out.mono ?_
 rintro e u4 ⟨h4,rfl,hf4,hb4⟩
 have B4 := hQ_ (B3.out.below HS.out hb4)
 have HF4 := hQ_ hf4
 obtain ⟨π1,p1⟩ := st1
 have P1 := hQ_ p1
 clear hf4 hb4 f3 Q1 p1
 dsimp only
 go_wp2_with ((with_reducible refine pick none ?_); refine store_blk rfl 29 _ _ rfl w3.heap.size #[.slice h4.a h4.n h4.c] rfl rfl 29 _ B4.out.G info_fs rfl (by simp [Value.oneCell']) ?_; intro u5 hk5 hg5; have B5 := hQ_ (B4.out.put HS.out HF4.out hg5 hk5); have f5 : u5.cell? ⟨w3.heap.size,0,none⟩ = some (.slice h4.a h4.n h4.c) := B5.out.G.cell 0; clear hk5 hg5)
 have q2 := ref_make P1.out pf_ (kind := 1) (ino := 3) (by decide) (by omega) (by omega) rfl (hh := h4) _ u5 B5.out.L (B5.out.room HS.out)
 rw [mk2] at q2
 refine q2.mono ?_
 rintro e u6 ⟨h6,rfl,hf6,hb6⟩
 have B6 := hQ_ (B5.out.below HS.out hb6)
 have HF6 := hQ_ hf6
 obtain ⟨π2,p2⟩ := st2
 have P2 := hQ_ p2
 clear hf6 hb6 f5 q2 p2
 dsimp only
 go_wp2_with ((with_reducible refine pick none ?_); refine store_blk rfl 29 _ _ rfl w3.heap.size #[.slice h6.a h6.n h6.c] rfl rfl 29 _ B6.out.G info_fs rfl (by simp [Value.oneCell']) ?_; intro u7 hk7 hg7; have B7 := hQ_ (B6.out.put HS.out HF6.out hg7 hk7); have f7 : u7.cell? ⟨w3.heap.size,0,none⟩ = some (.slice h6.a h6.n h6.c) := B7.out.G.cell 0; clear hk7 hg7)
 have q3 := ref_make P2.out pg_ (kind := 1) (ino := 4) (by decide) (by omega) (by omega) rfl (hh := h6) _ u7 B7.out.L (B7.out.room HS.out)
 rw [mk3] at q3
 refine q3.mono ?_
 rintro e u8 ⟨h8,rfl,hf8,hb8⟩
 have B8 := hQ_ (B7.out.below HS.out hb8)
 have HF8 := hQ_ hf8
 clear hf8 hb8 f7 q3
 dsimp only
 go_wp2_with ((with_reducible refine pick none ?_); refine store_blk rfl 29 _ _ rfl w3.heap.size #[.slice h8.a h8.n h8.c] rfl rfl 29 _ B8.out.G info_fs rfl (by simp [Value.oneCell']) ?_; intro u9 hk9 hg9; have B9 := hQ_ (B8.out.put HS.out HF8.out hg9 hk9); have f9 : u9.cell? ⟨w3.heap.size,0,none⟩ = some (.slice h8.a h8.n h8.c) := B9.out.G.cell 0; clear hk9 hg9)
 have zf := zfacts
 have HBA := hQ_ (fun (u : World) (S D : Nat → Prop) (hr : Rep u v t3 S D) => FileL.based_calls HW.out.wk HW.out.new hr (lim_z (z := z3) SM3.out zb3 (by omega) (by omega)) (by rw [SM3.out.shown]; exact zf.1) (by rw [SM3.out.shown]; exact zf.2.1) (by rw [SM3.out.shown]; exact zf.2.2.1) (by rw [SM3.out.shown]; have := zf.2.2.2; omega))
 rw [SM3.out.shown] at HBA
 have BD := hQ_ (B9.out.below HS.out ((Below.refl _ _).drew))
 have f9d := cZ0 BD.out.G
 clear zf
 go_region_with (first | (go_at_call 37; refine (HBA.out _ _ _ BD.out.A.rep).mono ?_; rintro e ua ⟨va,Sa,Da,rfl,hra,sta⟩; have BA := hQ_ (BD.out.view HS.out hra sta); have fa : ua.cell? ⟨w3.heap.size,0,none⟩ = some (.slice h8.a h8.n h8.c) := BA.out.G.cell 0; have ra1 : ua.cell? ⟨w.heap.size,0,none⟩ = some (.slice none 0 0) := BA.out.R.cell 0; have ra2 : ua.frozen? ⟨w.heap.size,0,none⟩ = false := BA.out.R.frozen 0; clear hra sta))
 all_goals
  obtain ⟨f1,f2,f3,f4,f5⟩ := BA.out.fin HS.out HSD.out HB2.out (Nat.le_refl _) sim3 zfacts.2.1 zfacts.2.2.2
  have HF := hQ_ (And.intro f1 (And.intro f2 (And.intro f3 f5)))
  have HF4 := hQ_ f4
  clear f1 f2 f3 f4 f5
  go_wp2_with fail
  exact bodyPost_ret (v := .tuple #[va,.agg #[.slice h8.a h8.n h8.c]]) (results_tmp_row rfl _ _ w.heap.size 29 _ (0,0) _ rfl _ rfl HF4.out Tryz.underlying29 rfl info_fs) rfl ⟨va,_,Sa,Da,h8,rfl,HF.out.1,HF.out.2.1,HF.out.2.2.1,HF.out.2.2.2,rfl⟩
end Go.Proofs.YtfalhnomhidkcaaGreatDoor.FileLe
namespace Go.Proofs.YtfalhnomhidkcaaGreatDoor.DirsTb
open Byte PackM KeysM TreeM ViewM ViewKm NamesM WalkM WalkF WalkKm DirsM DirsV DirsW DirsX DirsY DirsS DirsZ
open NodeM hiding gk
section
variable {F : Fs} {π : Int → Int} {L : List Pr} {k : Nat}
theorem go_room : ∀ (ps : List Wrt) {s : Vs},s.wr.length + ps.length ≤ 48 → (goW s ps).2 = true ∧ (goW s ps).1.wr.length ≤ s.wr.length + ps.length
 | [],s,_ => ⟨rfl,Nat.le_refl _⟩
 | p :: ps,s,h => by
   rw [List.length_cons] at h
   have hf : fullW s.wr (p s.shown) = false := by
    unfold fullW
    rw [decide_eq_false (by omega)]
    simp
   rw [goW_room hf]
   have hw : (s.write (p s.shown)).wr.length ≤ s.wr.length + 1 := by
    unfold Vs.write
    rw [if_neg (by rw [hf]; decide)]
    show (writeW s.base s.wr (p s.shown)).length ≤ _
    unfold writeW
    split
    ·exact Nat.le_succ_of_le (List.length_filter_le _ _)
    ·exact putP_len _ _
   have := go_room ps (s := s.write (p s.shown)) (by omega)
   rw [List.length_cons]
   exact ⟨this.1,by omega⟩
end
end Go.Proofs.YtfalhnomhidkcaaGreatDoor.DirsTb
namespace Go.Proofs.YtfalhnomhidkcaaGreatDoor.FileLf
open Go.RowKit
open Byte PackM KeysM TreeM ViewM NamesM NamesL Lst Nest WalkF Chg TreeL ViewL WalkL WalkV Vat DirsM DirsV DirsR DirsRe DirsW DirsY DirsS DirsK DirsKa DirsKc FileM FileV FileN FileO FileKe FileKg FileKh FileKi FileLa FileLb FileLd FileLe
open Own hiding keeps
open WalkM WalkKm
open NodeM hiding gk
open ViewR (Sh)
variable {Rep : RepT}
structure Fv (Rep : RepT) (w : World) (v : Value) (s : Vs) (S D : Nat → Prop) (d3 d4 : ByteArray) (k : Nat) : Prop where
 rep : Rep w v s S D
 mx : Mxs w S
 sim : ∃ π,Sim (FF d3 d4) π (DirsX.gk s.shown)
 gone : ∀ p ∈ s.shown,p.gone = false
 base : s.base.length ≤ 200
 rd : s.rd.length ≤ k
 rg : s.rg.length ≤ k
section
variable {Q : Nat → Prop} {w w' : World} {v v' : Value} {s s' : Vs} {S D S' D' : Nat → Prop} {h h' : Sh} {d3 d4 : ByteArray} {k : Nat}
theorem _root_.Go.Proofs.YtfalhnomhidkcaaGreatDoor.FileLa.Fu.fv (f : Fu Rep Q w v s S D h d3 d4 k) : Fv Rep w v s S D d3 d4 k := ⟨f.rep,f.mx,f.sim,f.gone,f.base,f.rd,f.rg⟩
theorem Fv.rise (hS : Stays Rep) (f : Fv Rep w v s S D d3 d4 k) : Rise s.shown := rise_shown (hS.ok f.rep).base _
theorem Fv.lim (f : Fv Rep w v s S D d3 d4 k) (hk : k ≤ 900) : Lim s := ⟨by have := f.base; omega,by have := f.rd; omega,by have := f.rg; omega⟩
theorem Fv.v64 (f : Fv Rep w v s S D d3 d4 k) {ino : Int} (h0 : 0 ≤ ino) (h1 : ino ≤ 4294967295) : V64 s.shown ino := by
 obtain ⟨π,q⟩ := f.sim
 exact v64_of q.rg q.bs h0 h1
theorem Fv.sizes (f : Fv Rep w v s S D d3 d4 k) : d3.size ≤ 4096 ∧ d4.size ≤ 4096 := by
 obtain ⟨π,q⟩ := f.sim
 exact ⟨sz3 q,sz4 q⟩
theorem Fv.below (hS : Stays Rep) (f : Fv Rep w v s S D d3 d4 k) (hb : Below w.heap.size w w') : Fv Rep w' v s S D d3 d4 k :=
 ⟨hS.below f.rep hb,f.mx.below hb,f.sim,f.gone,f.base,f.rd,f.rg⟩
theorem Fv.next (hS : Stays Rep) (f : Fv Rep w v s S D d3 d4 k) {V : Int × List Wrt} {M : Int × Fs} {e3 e4 : ByteArray} (hd : ∀ π,Sim (FF d3 d4) π (DirsX.gk s.shown) → Dit s.shown π V M) (hM : M.2 = FF e3 e4) (hr : Rep w' v s' S' D') (st : Stp S D S' D' w w') (ha : Aft s s' V.2 1 0) (hg : (goW s V.2).2 = true) : Fv Rep w' v s' S' D' e3 e4 (k + 1) := by
 have ho := hS.ok f.rep
 have hsh : s'.shown = DirsX.outW s.shown V.2 := by rw [ha.sm.shown]; exact (DirsX.go_out V.2 ho hg).1
 obtain ⟨π,q⟩ := f.sim
 refine ⟨hr,f.mx.step st,⟨π,?_⟩,?_,?_,?_,?_⟩
 ·have := (hd π q).sim
  rw [hM] at this
  rw [hsh]
  exact this
 ·rw [hsh]; exact gone_out V.2 f.gone
 ·rw [ha.sm.base,goW_base]; exact f.base
 ·have := ha.rd; have := f.rd; omega
 ·have := ha.rg; have := f.rg; omega
theorem Fv.looked (f : Fv Rep w v s S D d3 d4 k) (key : ByteArray) (hr : Rep w' v (s.read key) S' D') (st : Stp S D S' D' w w') : Fv Rep w' v (s.read key) S' D' d3 d4 (k + 1) :=
 ⟨hr,f.mx.step st,by rw [((Sm.refl s).read key).shown]; exact f.sim,by rw [((Sm.refl s).read key).shown]; exact f.gone,f.base,by have := read_len s key; have := f.rd; omega,by have := f.rg; show s.rg.length ≤ k + 1; omega⟩
theorem Fv.write (hW : Wq Rep) (f : Fv Rep w v s S D d3 d4 k) (hk : k ≤ 800) {ino a : Int} {A : Option Addr} {n c : Nat} {xs : List Int} (i0 : 0 ≤ ino) (i1 : ino ≤ 4294967295) (a0 : -9223372036854775808 ≤ a) (a1 : a ≤ 9223372036854775807) (hx : Bs w A n xs) (hc : n ≤ c) (hbig : c ≤ 9223372036854775807) (hA : 0 < n → ∀ b o,A = some ⟨b,o,none⟩ → ¬ S b ∧ b < w.heap.size) (hroom : (goW s (wriV s.shown ino a xs).2).2 = true) {e3 e4 : ByteArray} (hM : (wriM (FF d3 d4) ino a xs).2 = FF e3 e4) :
 Calls Tryz.prog 40 #[v,.int .u32 ino,.int .i64 a,.slice A n c] w fun e w' => ∃ s' S' D',e = .returned (.int .i64 (wriM (FF d3 d4) ino a xs).1) ∧ Fv Rep w' v s' S' D' e3 e4 (k + 1) ∧ Stp S D S' D' w w' := by
 obtain ⟨π0,q0⟩ := f.sim
 have hS := hW.wk.stays
 have hdt := fun π (q : Sim (FF d3 d4) π (DirsX.gk s.shown)) => wri_same q (f.rise hS) i0 i1 a xs hx.2.1
 refine (Write_calls hW.wk hW.look hW.set ino a f.rep (f.lim (by omega)) (by have := f.rd; omega) i0 i1 a0 a1 hx hc hbig hA (f.v64 i0 i1)).mono ?_
 rintro e w' ⟨s',S',D',rfl,hr,st,ha⟩
 refine ⟨s',S',D',by rw [if_pos hroom,(hdt π0 q0).er],f.next hS hdt hM hr st ha hroom,st⟩
theorem Fv.all (hW : Wq Rep) (f : Fv Rep w v s S D d3 d4 k) (hk : k ≤ 800) {ino : Int} (i0 : 0 ≤ ino) (i1 : ino ≤ 4294967295) :
 Calls Tryz.prog 38 #[v,.int .u32 ino] w fun e w' => ∃ u m s' S' D',e = .returned (.tuple #[u,.int .i64 (allM (FF d3 d4) ino).2]) ∧ So FileKd.u8E 5 w' w.heap.size u m (allM (FF d3 d4) ino).1 ∧ Fv Rep w' v s' S' D' d3 d4 (k + 1) ∧ s'.shown = s.shown ∧ Stp S D S' D' w w' ∧ s'.wr = s.wr ∧ ∀ b,u.ownBlock = some b → ¬ D' b := by
 obtain ⟨π0,q0⟩ := f.sim
 refine (All_calls hW.wk hW.look ino f.rep (f.lim (by omega)) (by have := f.rd; omega) i0 i1 (f.v64 i0 i1)).mono ?_
 rintro e w' ⟨u,m,S',D',rfl,hso,hr,st,hn⟩
 rw [all_same q0 i0 i1] at hso ⊢
 exact ⟨u,m,_,S',D',rfl,hso,f.looked _ hr st,((Sm.refl s).read _).shown,st,rfl,hn⟩
end
theorem cuts_few : ∀ (f : Nat) {a n : Int} (m : Nat),0 ≤ a → (n ≤ 0 ∨ n ≤ 64 * m - a % 64) → (cuts f a n).length ≤ m
 | 0,a,n,m,_,_ => Nat.zero_le _
 | f + 1,a,n,m,ha,h => by
   unfold NodeM.cuts
   split
   ·exact Nat.zero_le _
   ·obtain ⟨m,rfl⟩ : ∃ m' : Nat,m = m' + 1 := ⟨m - 1,by omega⟩
    rw [List.length_cons]
    have := cuts_few f (a := a + min n (64 - a % 64)) (n := n - min n (64 - a % 64)) m (by omega) (by omega)
    omega
theorem wrPs_len (ino : Int) : ∀ (P : List (Int × Int × Int)) (xs : List Int),(wrPs ino xs P).length = P.length
 | [],xs => rfl
 | p :: P,xs => by
   show (wrPs ino _ P).length + 1 = _
   rw [wrPs_len ino P]; rfl
theorem wri_few (L : List Pr) (ino a : Int) (b : List Int) : (wriV L ino a b).2.length ≤ 18 := by
 unfold wriV
 repeat' split
 all_goals try exact Nat.zero_le _
 rename_i h1 h2 h3 h4
 rw [List.length_append,wrPs_len]
 have : (cutV a (b.length : Int)).length ≤ 17 := by
  unfold cutV
  split
  ·exact Nat.zero_le _
  ·exact cuts_few (b.length : Int).toNat (a := a) (n := (b.length : Int)) 17 (by omega) (.inr (by omega))
 show _ + 1 ≤ 18
 omega
end Go.Proofs.YtfalhnomhidkcaaGreatDoor.FileLf
namespace Go.Proofs.YtfalhnomhidkcaaGreatDoor.FileLg
open Go.RowKit
open Byte PackM KeysM TreeM ViewM NamesM NamesL Lst Nest WalkF Chg TreeL ViewL WalkL WalkV Vat DirsM DirsV DirsR DirsK DirsKa DirsKc FileM FileV FileO FileKd FileLa FileLb FileLd FileLe FileLf
open DirsTb (go_room)
open Own hiding keeps
open ViewR (Sh)
variable {Rep : RepT}
theorem bel_step {w0 w w' : World} {S D S' D' : Nat → Prop} (hb : Below w0.heap.size w0 w) (lo : ∀ b,S b → w0.heap.size ≤ b) (st : Stp S D S' D' w w') : Below w0.heap.size w0 w' ∧ ∀ b,S' b → w0.heap.size ≤ b := ⟨below_chg hb st.chg lo (Nat.le_refl _),new_own lo hb.size st.own⟩
theorem b97 : ∀ x ∈ ([97,98] : List Int),0 ≤ x ∧ x ≤ 255 := by decide
theorem b05 : ∀ x ∈ ([0,0,0,97,98] : List Int),0 ≤ x ∧ x ≤ 255 := by decide
theorem fixw : wriM (FF NE NE) 3 3 [97,98] = (0,FF ⟨#[0,0,0,97,98]⟩ NE) := by kernel_rfl
theorem fixa : allM (FF ⟨#[0,0,0,97,98]⟩ NE) 3 = ([0,0,0,97,98],0) := by kernel_rfl
theorem fixed_calls (hW : Wq Rep) (w : World) (hmx : Mx w) : Calls Tryz.prog 36 #[] w fun e w' => e = .returned (.bool true) ∧ Below w.heap.size w w' := by
 have HW := hQ_ hW
 have HS := hQ_ hW.wk.stays
 have HBE := hQ_ (begin_calls hW w hmx)
 clear hW hmx
 go_enter Tryz.func36,Tryz.ntmps36
 go_wp2_with fail
 refine HBE.out.mono ?_
 rintro e w1 ⟨v,s,S,D,h,rfl,fu,hS,hD,hb1,hwr⟩
 have hba : Below w1.heap.size w1 ((w1.alloc (.cells #[.slice h.a h.n h.c] 29)).alloc (.cells #[.int .u8 97,.int .u8 98] 5 (2,3))) := (bW_).alloc (by simp) _
 have hx : Bs ((w1.alloc (.cells #[.slice h.a h.n h.c] 29)).alloc (.cells #[.int .u8 97,.int .u8 98] 5 (2,3))) (some ⟨w1.heap.size + 1,0,none⟩) 2 [97,98] := by
  have := Bs.new_ (w1.alloc (.cells #[.slice h.a h.n h.c] 29)) 5 (2,3) [97,98] b97
  simpa using this
 have hoff : ∀ b o,(some ⟨w1.heap.size + 1,0,none⟩ : Option Addr) = some ⟨b,o,none⟩ → ¬ S b ∧ b < ((w1.alloc (.cells #[.slice h.a h.n h.c] 29)).alloc (.cells #[.int .u8 97,.int .u8 98] 5 (2,3))).heap.size := fun b o e => by
  injection e with e
  injection e with e _
  subst e
  exact ⟨fun q => by have := HS.out.lt fu.rep _ (HS.out.sub fu.rep _ q); omega,by simp⟩
 have HWR := hQ_ ((fu.fv.below HS.out hba).write HW.out (by omega) (ino := 3) (a := 3) (A := some ⟨w1.heap.size + 1,0,none⟩) (n := 2) (c := 2) (xs := [97,98]) (by omega) (by omega) (by omega) (by omega) hx (by omega) (by omega) (fun _ => hoff) (go_room _ (by rw [hwr]; have := wri_few s.shown 3 3 [97,98]; simp; omega)).1 (e3 := ⟨#[0,0,0,97,98]⟩) (e4 := NE) (by rw [fixw]))
 rw [fixw] at HWR
 have HB := hQ_ (And.intro (Own.keeps hb1 hba) hS)
 have cvS : (convert 77 77 (.slice (some ⟨w1.heap.size + 1,0,none⟩) 2 2)).run Tryz.prog ((w1.alloc (.cells #[.slice h.a h.n h.c] 29)).alloc (.cells #[.int .u8 97,.int .u8 98] 5)) = .ok (.slice (some ⟨w1.heap.size + 1,0,none⟩) 2 2) ((w1.alloc (.cells #[.slice h.a h.n h.c] 29)).alloc (.cells #[.int .u8 97,.int .u8 98] 5 (2,3))) := by
  have := Lib.run_convert_bytes_const (P := Tryz.prog) (w1.alloc (.cells #[.slice h.a h.n h.c] 29)) 77 5 #[.int .u8 97,.int .u8 98] 2 2 Tryz.underlying77 Tryz.underlying5
  rw [show (w1.alloc (.cells #[.slice h.a h.n h.c] 29)).heap.size = w1.heap.size + 1 by simp] at this
  exact this
 clear fu hS hD hb1 hwr hba hx hoff
 go_wp2_with fail
 refine HWR.out.mono ?_
 rintro e w2 ⟨s2,S2,D2,rfl,f2,st2⟩
 have HB2 := hQ_ (bel_step HB.out.1 HB.out.2 st2)
 have HAL := hQ_ (f2.all HW.out (by omega) (ino := 3) (by omega) (by omega))
 rw [fixa] at HAL
 clear f2 st2
 go_wp2_with fail
 refine HAL.out.mono ?_
 rintro e w3 ⟨u,m,s3,S3,D3,rfl,hso,_,_,st3,_⟩
 have HB3 := hQ_ (bel_step HB2.out.1 HB2.out.2 st3)
 obtain ⟨A',c',rfl,_,cv⟩ := conv_so hso b05
 have e5 : str [0,0,0,97,98] = (⟨#[0,0,0,97,98]⟩ : ByteArray) := rfl
 rw [e5] at cv
 clear hso st3 e5
 go_wp2_with fail
 go_ret
 exact ⟨rfl,HB3.out.1⟩
end Go.Proofs.YtfalhnomhidkcaaGreatDoor.FileLg
namespace Go.Proofs.YtfalhnomhidkcaaGreatDoor.FileLh
open Go.RowKit
open Byte PackM KeysM TreeM ViewM NamesM NamesL Lst Nest WalkF Chg TreeL ViewL WalkL WalkV Vat DirsM DirsV DirsR DirsK DirsKa DirsKc FileM FileV FileO FileKd FileLa FileLb FileLd FileLe FileLf FileLg
open Own hiding keeps
open ViewR (Sh)
variable {Rep : RepT}
structure Pl (Rep : RepT) (w0 : World) (g : Nat) (w : World) (v : Value) (s : Vs) (S D : Nat → Prop) (hv h : Sh) (d3 d4 : ByteArray) (k : Nat) : Prop where
 B : Fu Rep (fun b => b ≠ g) w v s S D h d3 d4 k
 M : Blk w g #[.slice hv.a hv.n hv.c] 29
 lo : ∀ b,S b → w0.heap.size ≤ b
 bel : Below w0.heap.size w0 w
 gd : ¬ D g
 g0 : w0.heap.size ≤ g
 ml : 0 < w0.heap.size
section
variable {w0 w w' : World} {g : Nat} {v v' : Value} {s s' : Vs} {S D S' D' : Nat → Prop} {hv h h' : Sh} {d3 d4 e3 e4 : ByteArray} {k k' : Nat}
theorem Pl.start (hS : Stays Rep) (f : Fu Rep (fun _ => True) w v s S D h d3 d4 k) (hlo : ∀ b,S b → w0.heap.size ≤ b) (hb : Below w0.heap.size w0 w) (hml : 0 < w0.heap.size) : Pl Rep w0 w.heap.size (w.alloc (.cells #[.slice h.a h.n h.c] 29)) v s S D h h d3 d4 k := by
 have hba := bN_ w (.cells #[.slice h.a h.n h.c] 29)
 have f2 : Fu Rep (fun b => b ≠ w.heap.size) w v s S D h d3 d4 k := ⟨f.rep,f.fs.chg (S := fun _ => False) (Chg.refl _ w) (fun b hb hlt => ⟨fun h => h,hb.1,by omega⟩),f.mx,f.sim,f.gone,f.base,f.rd,f.rg⟩
 exact ⟨f2.below hS hba,Blk.new_ _ _ _,hlo,Own.keeps hb hba,fun hd => by have := hS.lt f.rep _ hd; omega,hb.size,hml⟩
theorem Pl.below (hS : Stays Rep) (p : Pl Rep w0 g w v s S D hv h d3 d4 k) (hb : Below w.heap.size w w') : Pl Rep w0 g w' v s S D hv h d3 d4 k :=
 ⟨p.B.below hS hb,p.M.below hb,p.lo,Own.keeps p.bel hb,p.gd,p.g0,p.ml⟩
theorem Pl.view (hS : Stays Rep) (p : Pl Rep w0 g w v s S D hv h d3 d4 k) (hf : Fu Rep (fun b => b ≠ g) w' v' s' S' D' h' e3 e4 k') (st : Stp S D S' D' w w') : Pl Rep w0 g w' v' s' S' D' hv h' e3 e4 k' := by
 have q := bel_step p.bel p.lo st
 have hlt := p.M.lt
 refine ⟨hf,(st.chg.block g p.M.lt (fun hs => p.gd (hS.sub p.B.rep g hs))).trans p.M,q.2,q.1,fun hd => ?_,p.g0,p.ml⟩
 rcases st.dep g hd with r | r
 ·exact p.gd r
 ·omega
theorem Pl.put (hS : Stays Rep) (p : Pl Rep w0 g w v s S D hv h d3 d4 k) (hg : w.grownBy w' (some g)) (hk : Blk w' g #[.slice h.a h.n h.c] 29) : Pl Rep w0 g w' v s S D h h d3 d4 k := by
 have hc : Chg (fun b => b = g) w w' := Chg.of_grown hg (fun k e => .inl (by injection e with e; exact e.symm))
 refine ⟨⟨hS.stay p.B.rep hc (fun b e hd => p.gd (by rw [← e]; exact hd)) (ViewP.kept_grown p.M (by decide) hg),p.B.fs.chg hc (fun b hb _ => ⟨hb.2,hb⟩),⟨?_,p.B.mx.2⟩,p.B.sim,p.B.gone,p.B.base,p.B.rd,p.B.rg⟩,hk,p.lo,p.bel.grown hg p.bel.size (fun k hk => by injection hk with hk; have := p.g0; omega),p.gd,p.g0,p.ml⟩
 obtain ⟨m,hm2⟩ := p.B.mx.1
 exact ⟨m,hc.cell hm2 (by have := p.ml; have := p.g0; show ¬ 0 = g; omega)⟩
theorem Pl.anew (hS : Stays Rep) (p : Pl Rep w0 g w v s S D hv h d3 d4 k) (hr : Rep w' v' ⟨s.shown,[],[],[]⟩ S' D') (st : Stp S D S' D' w w') : Pl Rep w0 g w' v' ⟨s.shown,[],[],[]⟩ S' D' hv h d3 d4 k := p.view hS (p.B.anew hS hr st) st
theorem Pl.done (hS : Stays Rep) (p : Pl Rep w0 g w v s S D hv h d3 d4 k) (hf : Fu Rep (fun b => b ≠ g) w' v s' S' D' h' e3 e4 (k + 1)) (st : Stp S D S' D' w w') : Pl Rep w0 g w' v s' S' D' hv h' e3 e4 (k + 1) := p.view hS hf st
theorem Pl.loose (p : Pl Rep w0 g w v s S D hv h d3 d4 k) (hr : Rep w' v s' S' D') (hm : Mxs w' S') (st : Stp S D S' D' w w') : Mx w' ∧ Below w0.heap.size w0 w' := ⟨hm.1,(bel_step p.bel p.lo st).1⟩
end
end Go.Proofs.YtfalhnomhidkcaaGreatDoor.FileLh
namespace Go.Proofs.YtfalhnomhidkcaaGreatDoor.FileLi
open Go.RowKit
open Byte PackM KeysM TreeM ViewM NamesM NamesL Lst Ho Nest WalkF Chg TreeL ViewL WalkV Vat DirsM DirsV DirsR DirsK DirsKa DirsKc FileM FileV FileO FileKd FileL FileLa FileLb FileLd FileLe FileLf FileLg FileLh
open DirsLd (take_nx)
open WalkL
open Own hiding keeps
open ViewR (Sh)
variable {Rep : RepT}
theorem at3 {T : Nat → Prop} (h : Sh) (d3 d4 : ByteArray) (w : World) (hf : FsA T w h (FF d3 d4)) : Calls Tryz.prog 39 #[.agg #[.slice h.a h.n h.c],.int .u32 3] w fun e w' => e = .returned (.int .i64 2) ∧ Below w.heap.size w w' := at_calls h (FF d3 d4) 3 (N3 d3) w hf rfl (by show (4 : Nat) ≤ 1000; omega)
theorem at4 {T : Nat → Prop} (h : Sh) (d3 d4 : ByteArray) (w : World) (hf : FsA T w h (FF d3 d4)) : Calls Tryz.prog 39 #[.agg #[.slice h.a h.n h.c],.int .u32 4] w fun e w' => e = .returned (.int .i64 3) ∧ Below w.heap.size w w' := at_calls h (FF d3 d4) 4 (N4 d4) w hf rfl (by show (4 : Nat) ≤ 1000; omega)
theorem get3 {T : Nat → Prop} {h : Sh} {d3 d4 : ByteArray} {w : World} (hf : FsA T w h (FF d3 d4)) : ∃ b o c,h = ⟨some ⟨b,o,none⟩,4,c⟩ ∧ w.cell? ⟨b,o + 2 * 5 + 3,none⟩ = some (.string d3) ∧ w.cell? ⟨b,o + 3 * 5 + 3,none⟩ = some (.string d4) ∧ b < w.heap.size := by
 obtain ⟨ha,hn,hc⟩ := h
 obtain ⟨b,o,he,rfl,hb,hk,hcl,_⟩ := hf.get (k := 2) (n := N3 d3) rfl
 obtain ⟨b2,o2,he2,e2,_,_,hcl2,_⟩ := hf.get (k := 3) (n := N4 d4) rfl
 injection e2 with e2
 injection e2 with e2 e3
 subst e2 e3
 have hl : (FF d3 d4).length = hn := hf.len
 have hl4 : hn = 4 := hl.symm
 subst hl4
 exact ⟨b,o,hc,rfl,hcl 3 _ rfl,hcl2 3 _ rfl,hb⟩
end Go.Proofs.YtfalhnomhidkcaaGreatDoor.FileLi
namespace Go.Proofs.YtfalhnomhidkcaaGreatDoor.FileX
open Go.RowKit Go.ChangeShapes Go.WideShapes Go.Deep Go.Maps
open Lst Byte Nest FileL
section
variable {H : Type} {enc : TypeId × Value → H} {w : World} {base fuel : Nat}
theorem weights_part {P : Program} : ∀ {ts : List TypeId} {ds : List (DataW H)} {i : Nat} {t : TypeId} {d : DataW H},ts[i]? = some t → ds[i]? = some d → ∀ n ∈ d.weights P t,n ∈ DataW.weightsEach P ts ds
 | [],_,i,_,_,h,_,_,_ => by simp at h
 | t :: ts,[],i,_,_,_,h,_,_ => by simp at h
 | t :: ts,d :: ds,0,_,_,h1,h2,n,hn => by
   simp at h1 h2
   subst h1 h2
   simp only [DataW.weightsEach,List.mem_append]
   exact .inl hn
 | t :: ts,d :: ds,i + 1,_,_,h1,h2,n,hn => by
   simp only [DataW.weightsEach,List.mem_append]
   exact .inr (weights_part (by simpa using h1) (by simpa using h2) n hn)
theorem five {α : Type} {l : List α} (h : l.length = 5) : ∃ a b c d e,l = [a,b,c,d,e] := by
 match l,h with
 | [a,b,c,d,e],_ => exact ⟨a,b,c,d,e,rfl⟩
theorem int_of {cs : List Value} {x : DataW H × List MemPlace} (h : DataW.trod enc Tryz.prog w base (fun _ => true) true fuel 3 cs = some x) : ∃ n,cs = [.int .i64 n] ∧ -9223372036854775808 ≤ n ∧ n ≤ 9223372036854775807 := by
 obtain ⟨n,h1,_,h2⟩ := DataW.trod_int Tryz.underlying3 h
 have := bounds_i64 h2
 exact ⟨n,h1,this.1,this.2⟩
theorem u32_of {cs : List Value} {x : DataW H × List MemPlace} (h : DataW.trod enc Tryz.prog w base (fun _ => true) true fuel 36 cs = some x) : ∃ n,cs = [.int .u32 n] ∧ 0 ≤ n ∧ n ≤ 4294967295 := by
 obtain ⟨n,h1,_,h2⟩ := DataW.trod_int Tryz.underlying36 h
 have := bounds_u32 h2
 exact ⟨n,h1,this.1,this.2⟩
theorem bytes_of {cs : List Value} {x : DataW H × List MemPlace} (h : DataW.trod enc Tryz.prog w base (fun _ => true) true fuel 77 cs = some x) (hw : ∀ n ∈ x.1.weights Tryz.prog 77,n ≤ reachBytes) :
 ∃ A len cap,cs = [.slice A len cap] ∧ (∃ bs,Bs w A len bs) ∧ (A = none → cap = 0) ∧ len ≤ cap ∧ cap ≤ 140737488351232 := by
 rcases open_ints Tryz.underlying77 Tryz.underlying5 (by kernel_rfl) h with ⟨hcs,_⟩ | ⟨a,l,c,zs,hcs,_,hl,hm,hz,hx,hcell,hwz⟩
 ·exact ⟨none,0,0,hcs,⟨[],Bs.nil_ _ _⟩,fun _ => rfl,Nat.le_refl _,Nat.zero_le _⟩
 ·have := Bs.of_row (w := w) (a := some a) (len := l) (cap := c) (zs := zs) (.inr ⟨a,rfl,hl,hm,by simpa using hz,hcell,hwz⟩)
  have hz2 : zs.length = c := by simpa using hz
  have h5 := hw c (by
   rw [hx]
   simp only [DataW.weights,Tryz.underlying77]
   refine List.mem_cons.2 (.inl ?_)
   rw [show Tryz.prog.bytesOf 5 = 1 by kernel_rfl]
   simp [lits]
   omega)
  unfold reachBytes at h5
  exact ⟨some a,l,c,hcs,⟨_,this.1⟩,this.2.2,hl,by omega⟩
theorem op_of {cs : List Value} {x : DataW H × List MemPlace} (h : DataW.trod enc Tryz.prog w base (fun _ => true) true fuel 79 cs = some x) (hw : ∀ n ∈ x.1.weights Tryz.prog 79,n ≤ reachBytes) :
 ∃ p : Op19,cs = opE.cells p ∧ OpG w p := by
 obtain ⟨xs,n,_,hxe,hlen,hxl,hg⟩ := DataW.trod_struct Tryz.underlying79 h
 have h5 : Tryz.prog.cellsOf 79 = 5 := by kernel_rfl
 have hi : Tryz.prog.cellsOf 3 = 1 := by kernel_rfl
 have hu : Tryz.prog.cellsOf 36 = 1 := by kernel_rfl
 have hs : Tryz.prog.cellsOf 77 = 1 := by kernel_rfl
 rw [h5] at hlen
 have hxl : xs.length = 5 := hxl
 obtain ⟨c0,c1,c2,c3,c4,rfl⟩ := five hlen
 obtain ⟨x0,x1,x2,x3,x4,rfl⟩ := five hxl
 have g0 : DataW.trod enc Tryz.prog w base (fun _ => true) true n 3 (([c0,c1,c2,c3,c4].drop 0).take (Tryz.prog.cellsOf 3)) = some x0 := hg 0 _ rfl
 have g1 : DataW.trod enc Tryz.prog w base (fun _ => true) true n 36 (([c0,c1,c2,c3,c4].drop 1).take (Tryz.prog.cellsOf 36)) = some x1 := hg 1 _ rfl
 have g2 : DataW.trod enc Tryz.prog w base (fun _ => true) true n 3 (([c0,c1,c2,c3,c4].drop 2).take (Tryz.prog.cellsOf 3)) = some x2 := hg 2 _ rfl
 have g3 : DataW.trod enc Tryz.prog w base (fun _ => true) true n 3 (([c0,c1,c2,c3,c4].drop 3).take (Tryz.prog.cellsOf 3)) = some x3 := hg 3 _ rfl
 have g4 : DataW.trod enc Tryz.prog w base (fun _ => true) true n 77 (([c0,c1,c2,c3,c4].drop 4).take (Tryz.prog.cellsOf 77)) = some x4 := hg 4 _ rfl
 rw [hi] at g0 g2 g3
 rw [hu] at g1
 rw [hs] at g4
 have hw4 : ∀ n ∈ x4.1.weights Tryz.prog 77,n ≤ reachBytes := fun n hn => hw n (by
  rw [hxe]
  simp only [DataW.weights,Tryz.underlying79]
  exact weights_part (i := 4) (t := 77) (d := x4.1) rfl rfl n hn)
 obtain ⟨n0,e0,_⟩ := int_of g0
 obtain ⟨n1,e1,k1,k1'⟩ := u32_of g1
 obtain ⟨n2,e2,k2,k2'⟩ := int_of g2
 obtain ⟨n3,e3,k3,k3'⟩ := int_of g3
 obtain ⟨A,l,c,e4,k4,k4',k5,k6⟩ := bytes_of g4 hw4
 simp at e0 e1 e2 e3 e4
 subst e0 e1 e2 e3 e4
 exact ⟨⟨n0,n1,n2,n3,⟨A,l,c⟩⟩,rfl,⟨k1,k1',k2,k2',k3,k3',k5,k6,k4',k4⟩⟩
theorem ops_of {cs : List Value} {x : DataW H × List MemPlace} (h : DataW.trod enc Tryz.prog w base (fun _ => true) true fuel 73 cs = some x) (hw : ∀ n ∈ x.1.weights Tryz.prog 73,n ≤ reachBytes) :
 ∃ A m c,∃ L : List Op19,cs = [.slice A m c] ∧ m ≤ c ∧ c ≤ maxLen ∧ Sl opE w A m L ∧ ∀ p ∈ L,OpG w p := by
 have h5 : Tryz.prog.cellsOf 79 = 5 := by kernel_rfl
 rcases open_slice Tryz.underlying73 h with ⟨hcs,_⟩ | ⟨a,len,cap,m,n,D,Pl,hcs,_,hl,hm,hmm,hxe,hx⟩
 ·exact ⟨none,0,0,[],hcs,Nat.le_refl _,by decide,⟨rfl,fun j y hy => by simp at hy⟩,fun p hp => by cases hp⟩
 ·have hmc : m = cap := by simpa using hmm
  subst hmc
  rw [h5] at hx
  have hspot : 0 < len → a.spot = none ∧ a.block < w.heap.size := fun hi => by
   obtain ⟨es,h1,_⟩ := hx 0 (by omega)
   obtain ⟨_,hlen,hc⟩ := World.cells?_some h1
   have h0 := hc 0 (by decide)
   rw [List.getElem?_eq_getElem (by omega)] at h0
   have h2 := World.cell?_spot h0
   have h1 := World.block_lt_of_cell? w _ h0
   simp [Addr.add] at h1 h2
   exact ⟨h2,h1⟩
  obtain ⟨b,o,spot⟩ := a
  have hadd2 : spot = none → ∀ k i,((⟨b,o,spot⟩ : Addr).add k).add i = ⟨b,o + k + i,none⟩ := fun e k i => by
   subst e
   unfold Addr.add
   by_cases h0 : k = 0 <;> by_cases h1 : i = 0 <;> simp [h0,h1]
  obtain ⟨f,hf⟩ := choose_lt (α := Op19) (n := len) (p := fun j y => (∃ b' o',some (⟨b,o,spot⟩ : Addr) = some ⟨b',o',none⟩ ∧ b' < w.heap.size ∧ w.rangeAt b' (o' + j * opE.size) (opE.cells y)) ∧ OpG w y) (fun j hj => by
   obtain ⟨es,h1,h2⟩ := hx j (by omega)
   obtain ⟨_,hlen,hc⟩ := World.cells?_some h1
   obtain ⟨s1,s2⟩ := hspot (by omega)
   have s1 : spot = none := s1
   obtain ⟨y,rfl,hg⟩ := op_of h2 (fun n hn => hw n (by
    rw [hxe]
    simp only [DataW.weights,Tryz.underlying73]
    refine List.mem_cons.2 (.inr (List.mem_append.2 (.inl (Tx.weights_all (d := D j) (List.mem_map.2 ⟨j,List.mem_range.2 hj,rfl⟩) n hn)))))
   )
   refine ⟨y,⟨b,o,by rw [s1],s2,fun i v hv => ?_⟩,hg⟩
   have hi : i < (opE.cells y).length := (List.getElem?_eq_some_iff.1 hv).1
   have h3 := hc i (by rw [hlen] at hi; exact hi)
   rw [hadd2 s1] at h3
   exact h3.trans hv)
  have hL : ∀ j y,((List.range len).map f)[j]? = some y → j < len ∧ y = f j := fun j y hy => by
   rw [List.getElem?_map] at hy
   obtain ⟨i,hi,rfl⟩ := Option.map_eq_some_iff.1 hy
   obtain ⟨h1,h2⟩ := List.getElem?_eq_some_iff.1 hi
   rw [List.length_range] at h1
   rw [List.getElem_range] at h2
   subst h2
   exact ⟨h1,rfl⟩
  refine ⟨_,len,m,(List.range len).map f,hcs,hl,hm,⟨by simp,fun j y hy => ?_⟩,fun y hy => ?_⟩
  ·obtain ⟨h1,rfl⟩ := hL j y hy
   exact (hf j h1).1
  ·obtain ⟨j,hj⟩ := List.mem_iff_getElem?.1 hy
   obtain ⟨h1,rfl⟩ := hL j y hj
   exact (hf j h1).2
end
theorem wq : FileLd.Wq WalkK.VRep := ⟨DirsK.wk,DirsPx.look_n,WalkV.set_b ViewK.set_ok,fun _ _ _ _ _ r hl => DirsPx.copy_n r hl,DirsLx.newb⟩
end Go.Proofs.YtfalhnomhidkcaaGreatDoor.FileX
namespace Go.Proofs.YtfalhnomhidkcaaGreatDoor.FileLp
open Go.RowKit
open Byte PackM KeysM TreeM ViewM DirsM DirsV DirsR DirsW DirsX DirsY FileM FileV FileN FileO FileLa
theorem key_68 {k : ByteArray} (h : (sp k).letter ≠ 0) (h2 : kl k ⟨#[69]⟩ = true) : (txt k).getD 0 0 = 68 := by
 have hx : ∀ c : Int,(txt k).getD 0 0 = c → 69 ≤ c → 0 < k.size → False := fun c hc hge hs => by
  have hl := txt_len k
  rw [kl_lt] at h2
  cases ht : txt k with
  | nil => rw [ht] at hl; simp at hl; omega
  | cons a r =>
    rw [ht] at hc
    have ha : a = c := by simpa using hc
    rw [ht,show txt (⟨#[69]⟩ : ByteArray) = [69] by decide] at h2
    unfold lt at h2
    rw [decide_eq_false (show ¬ a < 69 by omega),KeysV.lt_nil] at h2
    simp at h2
 rcases sp_ways k with q | q | q | q
 ·rw [q] at h; exact absurd rfl h
 ·exact absurd (hx 73 q.1 (by decide) (by omega)) id
 ·exact absurd (hx 69 q.1 (by decide) (by omega)) id
 ·exact q.1
theorem blk_val {d v : ByteArray} {q : Nat} (hv : str (blkL d q) = v) (hne : blkL d q ≠ []) :
 0 < v.size ∧ 64 * q + v.size ≤ d.size ∧ d.extract (64 * q) (64 * q + v.size) = v ∧ (txt v).getD (v.size - 1) 0 ≠ 0 := by
 have hs : v.size = (blkL d q).length := by rw [← hv,str_size]
 have hpos : 0 < (blkL d q).length := List.length_pos_iff.2 hne
 have ht : txt v = blkL d q := by rw [← hv,txt_str _ (blkL_bd _ _)]
 have h64 := blkL_len d q
 have hl : (blkL d q).length ≤ d.size - 64 * q := by
  have := cut0_len (((txt d).drop (64 * q)).take 64)
  rw [List.length_take,List.length_drop,txt_len] at this
  unfold blkL
  omega
 refine ⟨by omega,by omega,?_,?_⟩
 ·rw [FileR.ext_eq,show 64 * q + v.size - 64 * q = v.size by omega,← hv,str_size]
  congr 1
  have h1 : blkL d q = (((txt d).drop (64 * q)).take 64).take (blkL d q).length := (FileY.cut0_take _).symm
  rw [List.take_take,Nat.min_eq_left h64] at h1
  exact h1.symm
 ·rw [ht,hs]
  have this : (blkL d q).getLast hne ≠ 0 := cut0_last (l := ((txt d).drop (64 * q)).take 64) hne
  rw [List.getD_eq_getElem?_getD,List.getElem?_eq_getElem (by omega)]
  rw [List.getLast_eq_getElem hne] at this
  exact this
theorem kD_sz (ino n : Int) : (kD ino n).size ≤ 100000 := by
 unfold kD
 split
 ·decide
 ·rw [ByteArray.size_append,ks_size,str_size]; show 5 + 2 ≤ 100000; omega
structure Pk (d3 d4 : ByteArray) (p : Pr) (ino : Int) (q : Nat) (d : ByteArray) : Prop where
 way : (ino = 3 ∧ d = d3) ∨ (ino = 4 ∧ d = d4)
 sp : sp p.key = ⟨68,ino,E0,(q : Int)⟩
 small : p.key.size ≤ 100000
 q1 : q ≤ 65535
 pos : 0 < p.value.size
 fit : 64 * q + p.value.size ≤ d.size
 same : d.extract (64 * q) (64 * q + p.value.size) = p.value
 last : (txt p.value).getD (p.value.size - 1) 0 ≠ 0
theorem keys_math {L : List Pr} {π : Int → Int} {d3 d4 : ByteArray} (h : Sim (FF d3 d4) π (DirsX.gk L)) (hr : Rise L) {p : Pr} (hp : p ∈ rangeL ⟨#[68]⟩ ⟨#[69]⟩ L) : ∃ ino q d,Pk d3 d4 p ino q d := by
 unfold rangeL at hp
 obtain ⟨hp,hin⟩ := List.mem_filter.1 hp
 rw [Bool.and_eq_true] at hin
 have hlet := let_of h.rg h.bs hr p hp
 have h68 := key_68 hlet hin.2
 have hgk : DirsX.gk L p.key = some p.value := by
  unfold DirsX.gk
  rw [(get_iff hr).2 ⟨hp,rfl⟩]; rfl
 rcases h.rg.keys _ (gk_mem hr hp) with ⟨n,h3,h4⟩ | ⟨n,h3,e,h4,h5⟩ | ⟨n,h3,w,h4,h5,h6⟩
 ·exfalso
  rw [h4] at h68
  unfold kI at h68
  rw [ks_txt (by decide) (by decide)] at h68
  exact absurd (show (73 : Int) = 68 from h68) (by decide)
 ·have q := h.bs.ino n h3
  have hn := h.bs.name n h3 e h4
  exfalso
  rw [h5,DirsY.kE_txt hn.2] at h68
  exact absurd (show (69 : Int) = 68 from h68) (by decide)
 ·have q := h.bs.ino n h3
  have hs := sp_D n.ino w (by omega) q.2 h4.1 h4.2
  obtain ⟨q',rfl⟩ : ∃ q' : Nat,w = (q' : Int) := ⟨w.toNat,by omega⟩
  have hb := h.rg.blks n h3 (q' : Int) h4
  rw [← h5,hgk] at hb
  unfold blkG at hb
  rw [Int.toNat_natCast] at hb
  by_cases hne : blkL n.data q' = []
  ·rw [if_pos hne] at hb; cases hb
  ·rw [if_neg hne] at hb
   have hv := blk_val (Option.some.inj hb).symm hne
   refine ⟨n.ino,q',n.data,⟨?_,by rw [h5]; exact hs,by rw [h5]; exact kD_sz _ _,by omega,hv.1,hv.2.1,hv.2.2.1,hv.2.2.2⟩⟩
   rcases mem_ff h3 with rfl | rfl | rfl | rfl
   ·exact absurd (blkG_nil _) h6
   ·exact absurd (blkG_nil _) h6
   ·exact .inl ⟨rfl,rfl⟩
   ·exact .inr ⟨rfl,rfl⟩
end Go.Proofs.YtfalhnomhidkcaaGreatDoor.FileLp
namespace Go.Proofs.YtfalhnomhidkcaaGreatDoor.FileLq
open Go.RowKit
open Byte PackM KeysM TreeM ViewM NamesM NamesL Lst Ho Nest WalkF Chg TreeL ViewL WalkV Vat DirsM DirsV DirsR DirsK DirsKa DirsKc FileM FileV FileO FileKd FileL FileLa FileLb FileLd FileLe FileLf FileLg FileLh
open DirsLd (take_nx)
open WalkL
open Own hiding keeps
open ViewR (Sh)
variable {Rep : RepT}
open FileLf FileN
open FileLi
open FileLp WalkKm ViewKm TreeR KeysS
open DirsLd (info_pr)
theorem get3b {T : Nat → Prop} {b o c : Nat} {d3 d4 : ByteArray} {w : World} (hf : FsA T w ⟨some ⟨b,o,none⟩,4,c⟩ (FF d3 d4)) : w.cell? ⟨b,o + 2 * 5 + 3,none⟩ = some (.string d3) ∧ w.cell? ⟨b,o + 3 * 5 + 3,none⟩ = some (.string d4) := by
 obtain ⟨b2,o2,c2,e,h3,h4,_⟩ := get3 hf
 injection e with e1 e2 e3
 injection e1 with e1
 injection e1 with e1 e4
 subst e1 e4
 exact ⟨h3,h4⟩
structure Kx (T : Nat → Prop) (w0 : World) (g : Nat) (b o c : Nat) (d3 d4 : ByteArray) (A : Option Addr) (n : Nat) (L : List Pr) (w : World) : Prop where
 fs : FsA T w ⟨some ⟨b,o,none⟩,4,c⟩ (FF d3 d4)
 M : Blk w g #[.slice (some ⟨b,o,none⟩) 4 c] 29
 bel : Below w0.heap.size w0 w
 mx : Mx w
 sl : Sl prE w A n L
theorem Kx.below {T : Nat → Prop} {w0 : World} {g b o c : Nat} {d3 d4 : ByteArray} {A : Option Addr} {n : Nat} {L : List Pr} {w w' : World} (k : Kx T w0 g b o c d3 d4 A n L w) (hb : Below w.heap.size w w') : Kx T w0 g b o c d3 d4 A n L w' :=
 ⟨k.fs.below hb,k.M.below hb,Own.keeps k.bel hb,k.mx.below hb,k.sl.below hb⟩
theorem keys_law (hW : Wq Rep) (A : Option Addr) (n c : Nat) (ops : List Op19) (w : World) (hl : Sl opE w A n ops) (hn : n ≤ c) (hc : c ≤ maxLen) (hf : ∀ p ∈ ops,OpG w p) (hmx : Mx w) :
 Calls Tryz.prog 8 #[.slice A n c] w fun e w' => e = .returned (.bool true) ∧ Below w.heap.size w w' := by
 have HW := hQ_ hW
 have HS := hQ_ hW.wk.stays
 have HL := hQ_ hl
 have HOB := hQ_ hf
 have ML : Hid (0 < w.heap.size) := hQ_ (by
  obtain ⟨m,hm⟩ := hmx
  exact World.block_lt_of_cell? w ⟨0,0,none⟩ hm)
 have HFX := hQ_ (fun (u : World) (hm : Mx u) => fixed_calls hW u hm)
 have HBE := hQ_ (begin_calls hW w hmx)
 have HCU := hQ_ (fun (u : World) (h : Sl opE u A n ops) => cut_calls A n c ops u h hn hc (fun p hp => by have := (hf p hp).fit; have := (hf p hp).big; omega))
 clear hmx hW hl hf
 go_enter Tryz.func8,Tryz.ntmps8
 go_wp2_with fail
 refine HBE.out.mono ?_
 rintro e w1 ⟨v,s,S,D,h,rfl,fu,hS1,hD1,hb1,_⟩
 have P2 := hQ_ (Pl.start HS.out fu hS1 hb1 ML.out)
 clear fu hS1 hD1 hb1
 go_wp2_with fail
 refine (HCU.out _ (HL.out.below P2.out.bel)).mono ?_
 rintro e w3 ⟨m,rfl,hmn,hm60,hb3⟩
 have P3 := hQ_ (P2.out.below HS.out hb3)
 clear hb3
 go_wp2_with fail
 generalize hgm : w1.heap.size = gm at *
 go_loopw [3,25] (fun vv i wr => ∃ (k : Nat) (s : Vs) (S D : Nat → Prop) (h : Sh) (d3 d4 : ByteArray),k ≤ m ∧ i = .int .i64 k ∧ Hid (Pl Rep w gm wr vv s S D h h d3 d4 k)) (fun _ i _ => m - (intOf i).toNat)
 case atStart => exact ⟨0,s,S,D,h,NE,NE,Nat.zero_le _,rfl,P3⟩
 case round =>
  obtain ⟨k,s,S,D,h,d3,d4,hk,rfl,HP⟩ := hrel
  by_cases hlt : k < m
  ·obtain ⟨x,g,o,hx,rfl,hg,hcl⟩ := (HL.out.below HP.out.bel).get k (by omega)
   have hgx := HOB.out x (List.mem_of_getElem? hx)
   have hb6 := bN_ wr (.cells #[.int .i64 x.kind,.int .u32 x.ino,.int .i64 x.frm,.int .i64 x.n,.slice x.h.a x.h.n x.h.c] 79)
   have P6 := hQ_ (HP.out.below HS.out hb6)
   have HDO := hQ_ (do_calls HW.out (fun b hb e => by have := P6.out.M.lt; omega) P6.out.B (by omega) x (hgx.below P6.out.bel) (fun hp b o e => by
    have h1 := hgx.off hp b o e
    exact ⟨fun hs => by have := P6.out.lo b hs; omega,by have := P6.out.bel.size; omega⟩))
   obtain ⟨kind,ino,frm,nn,⟨ba,bn,bc⟩⟩ := x
   dsimp only at HDO P6 hb6
   have HC : Hid (wr.rangeAt g (o + k * 5) [.int .i64 kind,.int .u32 ino,.int .i64 frm,.int .i64 nn,.slice ba bn bc]) := hQ_ hcl
   have m6 := cZ0 P6.out.M
   clear hcl hx hgx hb6
   go_wp2_with ((with_reducible refine pick (some 28) ?_); refine wpList_load_mid rfl 79 _ rfl g (o + k * 5) rfl _ _ HC.out Tryz.underlying79 rfl info_op ?_)
   refine HDO.out.mono ?_
   rintro e w7 ⟨s',S',D',h',hr7,st7,mx7,hway⟩
   rcases hway with rfl | ⟨e3,e4,rfl,hB7⟩
   ·have HLO := hQ_ (P6.out.loose hr7 mx7 st7)
    clear hr7 st7 mx7 m6
    go_wp2_with fail
    have hb8 := bN_ w7 (.cells #[.slice h'.a h'.n h'.c] 29)
    refine (HFX.out _ (HLO.out.1.below hb8)).mono ?_
    rintro e w9 ⟨rfl,hb9⟩
    have HB9 := hQ_ (Own.keeps HLO.out.2 (Own.keeps hb8 hb9))
    clear hb8 hb9
    go_wp2_with fail
    go_ret
    exact ⟨rfl,HB9.out⟩
   ·have P7 := hQ_ (P6.out.done HS.out hB7 st7)
    have hb8 := bN_ w7 (.cells #[.slice h'.a h'.n h'.c] 29)
    have P8 := hQ_ (P7.out.below HS.out hb8)
    clear hr7 st7 mx7 hB7 hb8 m6
    go_wp2_with ((with_reducible refine pick none ?_); refine store_blk rfl 29 _ _ rfl gm #[.slice h'.a h'.n h'.c] rfl rfl 29 _ P8.out.M info_fs rfl (by simp [Value.oneCell']) ?_; intro w9 hk9 hg9; have P9 := hQ_ (P8.out.put HS.out hg9 hk9); clear hk9 hg9)
    refine (based_calls HW.out.wk HW.out.new P9.out.B.rep (P9.out.B.lim (by omega)) (P9.out.B.letters HS.out) P9.out.B.gone (P9.out.B.rise HS.out) (by have := P9.out.B.len HS.out; omega)).mono ?_
    rintro e w10 ⟨va,Sa,Da,rfl,hra,sta⟩
    have P10 := hQ_ (P9.out.anew HS.out hra sta)
    clear hra sta
    go_wp2_with fail
    go_roundw
    case rel => exact ⟨k + 1,_,Sa,Da,h',e3,e4,by omega,by go_num,P10⟩
    case measure => simp [intOf]; omega
  ·obtain rfl : k = m := by omega
   have HR := hQ_ (HW.out.wk.range ⟨#[68]⟩ ⟨#[69]⟩ HP.out.B.rep (HP.out.B.lim (by omega)) (by decide) (by decide))
   rw [rangeOf_is] at HR
   have HKM : Hid (∀ p ∈ rangeL ⟨#[68]⟩ ⟨#[69]⟩ s.shown,∃ ino q d,Pk d3 d4 p ino q d) := hQ_ (fun p hp => by
    obtain ⟨π,z⟩ := HP.out.B.sim
    exact keys_math z (HP.out.B.rise HS.out) hp)
   have hsz := HP.out.B.fv.sizes
   have hlp : (rangeL ⟨#[68]⟩ ⟨#[69]⟩ s.shown).length ≤ 200 := Nat.le_trans (List.length_filter_le _ _) (HP.out.B.len HS.out)
   generalize rangeL ⟨#[68]⟩ ⟨#[69]⟩ s.shown = LP at *
   go_wp2_with fail
   refine HR.out.mono ?_
   rintro e u2 ⟨⟨ra,rn,rc⟩,S2,D2,rfl,hs2,_,hr2,st2⟩
   dsimp only at hs2
   obtain ⟨b,o,hc,rfl,_⟩ := get3 HP.out.B.fs
   have hrn : rn ≤ 200 := by rw [← hs2.1]; exact hlp
   obtain ⟨T,hT⟩ : ∃ T : Nat → Prop,(fun b => ¬ S2 b ∧ b ≠ gm) = T := ⟨_,rfl⟩
   have fs2 := HP.out.B.fsStep st2
   rw [hT] at fs2
   have KX : Hid (Kx T w gm b o hc d3 d4 ra rn LP u2) := hQ_ ⟨fs2,(st2.chg.block gm HP.out.M.lt (fun hs => HP.out.gd (HS.out.sub HP.out.B.rep gm hs))).trans HP.out.M,(bel_step HP.out.bel HP.out.lo st2).1,(HP.out.B.mx.step st2).1,hs2⟩
   clear HP HR hs2 hr2 st2 fs2 hT
   go_wp2_with fail
   go_loopw [46] (fun i wr2 => ∃ j : Nat,j ≤ rn ∧ i = .int .i64 j ∧ Hid (Kx T w gm b o hc d3 d4 ra rn LP wr2)) (fun i _ => rn - (intOf i).toNat)
   case atStart => exact ⟨0,Nat.zero_le _,rfl,KX⟩
   case round =>
    obtain ⟨j,hj,rfl,HK⟩ := hrel
    by_cases hlt3 : j < rn
    ·obtain ⟨x,g9,o9,hx,rfl,hg,hcl⟩ := HK.out.sl.get j hlt3
     obtain ⟨ino,q,d,pk⟩ := HKM.out x (List.mem_of_getElem? hx)
     obtain ⟨key,value,gone⟩ := x
     obtain ⟨way,hsp,hks,q1,hpos,hfit,hsame,hlast⟩ := pk
     dsimp only at hsp hks hpos hfit hsame hlast
     have HC : Hid (wr.rangeAt g9 (o9 + j * 3) [.string key,.string value,.bool gone]) := hQ_ hcl
     have hb1 := bN_ wr (.cells #[.string key,.string value,.bool gone] 46)
     have K1 := hQ_ (HK.out.below hb1)
     have BP : Hid (Blk (wr.alloc (.cells #[.string key,.string value,.bool gone] 46)) wr.heap.size #[.string key,.string value,.bool gone] 46) := hQ_ (Blk.new_ _ _ _)
     have HSP := hQ_ (fun (u : World) => refsplit_calls key u (by omega))
     obtain ⟨Q,hQ⟩ : ∃ Q : Int,(q : Int) = Q := ⟨_,rfl⟩
     obtain ⟨V,hV⟩ : ∃ V : Int,(value.size : Int) = V := ⟨_,rfl⟩
     rw [hsp,hQ] at HSP
     have q0 : 0 ≤ Q := by omega
     have qv : 64 * Q + V ≤ (d.size : Int) := by omega
     have vp : 0 < V := by omega
     have hdz : d.size ≤ 4096 := by rcases way with ⟨_,rfl⟩ | ⟨_,rfl⟩ <;> omega
     have HV := hQ_ hV
     obtain ⟨z,hz⟩ : ∃ z : Nat,64 * q = z := ⟨_,rfl⟩
     obtain ⟨y,hy⟩ : ∃ y : Nat,z + value.size = y := ⟨_,rfl⟩
     obtain ⟨i,hi⟩ : ∃ i : Nat,value.size = i + 1 := ⟨value.size - 1,by omega⟩
     have hiv : i < value.size := by omega
     have HBB : Hid ((((value[i]'hiv).toNat : Int) == 0) = false ∧ value.toList.isEmpty = false ∧ d.extract z y = value) := by
      refine hQ_ ⟨?_,?_,by rw [← hy,← hz]; exact hsame⟩
      ·rw [hi,Nat.add_sub_cancel,key_at value i hiv] at hlast
       exact beq_eq_false_iff_ne.2 hlast
      ·rw [show value.toList = value.data.toList from ByteArray.toList_eq value]
       have e8 : 0 < value.data.toList.length := hpos
       cases e7 : value.data.toList with
       | nil => rw [e7] at e8; exact absurd e8 (by decide)
       | cons x r => rfl
     unfold SpE at HSP
     dsimp only at HSP
     clear hsame hlast
     clear hcl hx hb1 hsp hks
     rcases way with ⟨rfl,hd9⟩ | ⟨rfl,hd9⟩
     ·have hd9 := hd9.symm
      subst hd9
      have HAT := hQ_ (fun (u : World) (hf : FsA T u ⟨some ⟨b,o,none⟩,4,hc⟩ (FF d3 d4)) => at3 ⟨some ⟨b,o,none⟩,4,hc⟩ d3 d4 u hf)
      go_wp2_with ((with_reducible refine pick (some 49) ?_); refine wpList_load_mid rfl 46 _ rfl g9 (o9 + j * 3) rfl _ _ HC.out Tryz.underlying46 rfl info_pr ?_)
      refine (HSP.out _).mono ?_
      rintro e w2 ⟨rfl,hb2⟩
      have K2 := hQ_ (K1.out.below hb2)
      have B2 := hQ_ (BP.out.below hb2)
      have m2 := cZ0 K2.out.M
      clear hb2
      go_wp2_with fail
      refine (HAT.out _ K2.out.fs).mono ?_
      rintro e w3 ⟨rfl,hb3⟩
      have K3 := hQ_ (K2.out.below hb3)
      have m3 := cZ0 K3.out.M
      have x3 : w3.cell? ⟨b,o + 2 * 5 + 3,none⟩ = some (.string d3) := (get3b K3.out.fs).1
      have v3 : w3.cell? ⟨wr.heap.size,1,none⟩ = some (.string value) := (B2.out.below hb3).cell 1
      have KD := hQ_ (K3.out.below ((Below.refl _ w3).drew))
      have hb3' := hb3
      clear hb3 m2
      have e1 : wrap64 (64 * Q) = (z : Int) := by unfold wrap64; omega
      have e2 : wrap64 (V - 1) = (i : Int) := by unfold wrap64; omega
      have e3 : wrap64 ((z : Int) + V) = (y : Int) := by unfold wrap64; omega
      have w1' : IntKind.i64.wrap (64 * Q) = (z : Int) := (IntWalk.i64_left _).trans e1
      have w2' : IntKind.i64.wrap (V - 1) = (i : Int) := (IntWalk.i64_left _).trans e2
      have w3' : IntKind.i64.wrap ((z : Int) + V) = (y : Int) := (IntWalk.i64_left _).trans e3
      have hiV : (i : Int) < V := by omega
      have c1 : decide ((z : Int) ≥ (d3.size : Int)) = false := decide_eq_false (by omega)
      have c4 : decide ((y : Int) > (d3.size : Int)) = false := decide_eq_false (by omega)
      have hzy : z ≤ y := by omega
      have hyd : y ≤ d3.size := by omega
      have c3 := HBB.out.1
      have c2 := HBB.out.2.1
      have HX := HBB.out.2.2
      have c1' : decide (d3.size ≤ z) = false := decide_eq_false (by omega)
      have c4' : decide (d3.size < y) = false := decide_eq_false (by omega)
      clear hQ hV hz hy hi q0 qv vp
      have hV := HV.out
      have RD : Hid (∀ q0,Below w3.heap.size w3 q0 → q0.cell? ⟨wr.heap.size,1,none⟩ = some (.string value)) := hQ_ (fun q0 hb => ((B2.out.below hb3').below hb).cell 1)
      clear hb3'
      go_wp2_with fail
      refine wp_region_held_drew (S := fun v => v.cell? ⟨wr.heap.size,1,none⟩ = some (.string value)) (by kernel_rfl) (RD.out _ (Below.refl _ _).drew) (fun hHeld => ?_)
      refine hw_ 0 (some 69) ?_
      refine hw_ 1 (some 70) ?_
      refine hw_ 2 (some 71) ?_
      refine hw_ 3 (some 72) ?_
      refine hw_ 4 (some 73) ?_
      refine hw_ 5 (some 74) ?_
      refine hw_ 6 (some 75) ?_
      refine hw_ 7 (some 76) ?_
      refine hw_ 8 (some 77) ?_
      refine hw_ 9 (some 78) ?_
      refine hw_ 10 (some 79) ?_
      refine hw_ 11 (some 80) ?_
      refine hw_ 12 (some 81) ?_
      refine hw_ 13 (some 82) ?_
      refine hw_ 14 (some 83) ?_
      refine hw_ 15 (some 84) ?_
      refine hw_ 16 (some 85) ?_
      refine hw_ 17 (some 86) ?_
      refine hw_ 18 (some 87) ?_
      refine hw_ 19 (some 88) ?_
      refine hw_ 20 (some 89) ?_
      refine hw_ 21 (some 90) ?_
      refine hw_ 22 (some 91) ?_
      refine hw_ 23 (some 92) ?_
      refine hw_ 24 (some 93) ?_
      refine hw_ 25 (some 94) ?_
      refine hw_ 26 (some 95) ?_
      refine hw_ 27 (some 96) ?_
      refine hw_ 28 (some 97) ?_
      refine hw_ 29 (some 98) ?_
      refine hw_ 30 (some 99) ?_
      refine hw_ 31 (some 100) ?_
      refine hw_ 32 (some 101) ?_
      refine hw_ 33 (some 102) ?_
      refine hw_ 34 (some 103) ?_
      refine hw_ 35 (some 104) ?_
      refine hw_ 36 (some 105) ?_
      refine hw_ 37 (some 106) ?_
      refine hw_ 38 (some 107) ?_
      refine hw_ 39 (some 108) ?_
      refine hw_ 40 (some 109) ?_
      refine hw_ 41 (some 110) ?_
      refine hw_ 42 (some 111) ?_
      refine hw_ 43 (some 112) ?_
      refine hw_ 44 (some 113) ?_
      refine hw_ 45 (some 114) ?_
      refine hw_ 46 (some 115) ?_
      refine hw_ 47 (some 116) ?_
      refine hw_ 48 (some 117) ?_
      refine hw_ 49 (some 118) ?_
      refine wpAnyH_done (by kernel_rfl) ?_ _
      clear hHeld x3 v3 m3
      go_wp2_with fail
      go_round
      case rel => exact ⟨j + 1,by omega,by go_num,KD⟩
      case measure => simp [intOf]; omega
     ·have hd9 := hd9.symm
      subst hd9
      have HAT := hQ_ (fun (u : World) (hf : FsA T u ⟨some ⟨b,o,none⟩,4,hc⟩ (FF d3 d4)) => at4 ⟨some ⟨b,o,none⟩,4,hc⟩ d3 d4 u hf)
      go_wp2_with ((with_reducible refine pick (some 49) ?_); refine wpList_load_mid rfl 46 _ rfl g9 (o9 + j * 3) rfl _ _ HC.out Tryz.underlying46 rfl info_pr ?_)
      refine (HSP.out _).mono ?_
      rintro e w2 ⟨rfl,hb2⟩
      have K2 := hQ_ (K1.out.below hb2)
      have B2 := hQ_ (BP.out.below hb2)
      have m2 := cZ0 K2.out.M
      clear hb2
      go_wp2_with fail
      refine (HAT.out _ K2.out.fs).mono ?_
      rintro e w3 ⟨rfl,hb3⟩
      have K3 := hQ_ (K2.out.below hb3)
      have m3 := cZ0 K3.out.M
      have x3 : w3.cell? ⟨b,o + 3 * 5 + 3,none⟩ = some (.string d4) := (get3b K3.out.fs).2
      have v3 : w3.cell? ⟨wr.heap.size,1,none⟩ = some (.string value) := (B2.out.below hb3).cell 1
      have KD := hQ_ (K3.out.below ((Below.refl _ w3).drew))
      have hb3' := hb3
      clear hb3 m2
      have e1 : wrap64 (64 * Q) = (z : Int) := by unfold wrap64; omega
      have e2 : wrap64 (V - 1) = (i : Int) := by unfold wrap64; omega
      have e3 : wrap64 ((z : Int) + V) = (y : Int) := by unfold wrap64; omega
      have w1' : IntKind.i64.wrap (64 * Q) = (z : Int) := (IntWalk.i64_left _).trans e1
      have w2' : IntKind.i64.wrap (V - 1) = (i : Int) := (IntWalk.i64_left _).trans e2
      have w3' : IntKind.i64.wrap ((z : Int) + V) = (y : Int) := (IntWalk.i64_left _).trans e3
      have hiV : (i : Int) < V := by omega
      have c1 : decide ((z : Int) ≥ (d4.size : Int)) = false := decide_eq_false (by omega)
      have c4 : decide ((y : Int) > (d4.size : Int)) = false := decide_eq_false (by omega)
      have hzy : z ≤ y := by omega
      have hyd : y ≤ d4.size := by omega
      have c3 := HBB.out.1
      have c2 := HBB.out.2.1
      have HX := HBB.out.2.2
      have c1' : decide (d4.size ≤ z) = false := decide_eq_false (by omega)
      have c4' : decide (d4.size < y) = false := decide_eq_false (by omega)
      clear hQ hV hz hy hi q0 qv vp
      have hV := HV.out
      have RD : Hid (∀ q0,Below w3.heap.size w3 q0 → q0.cell? ⟨wr.heap.size,1,none⟩ = some (.string value)) := hQ_ (fun q0 hb => ((B2.out.below hb3').below hb).cell 1)
      clear hb3'
      go_wp2_with fail
      refine wp_region_held_drew (S := fun v => v.cell? ⟨wr.heap.size,1,none⟩ = some (.string value)) (by kernel_rfl) (RD.out _ (Below.refl _ _).drew) (fun hHeld => ?_)
      refine hw_ 0 (some 69) ?_
      refine hw_ 1 (some 70) ?_
      refine hw_ 2 (some 71) ?_
      refine hw_ 3 (some 72) ?_
      refine hw_ 4 (some 73) ?_
      refine hw_ 5 (some 74) ?_
      refine hw_ 6 (some 75) ?_
      refine hw_ 7 (some 76) ?_
      refine hw_ 8 (some 77) ?_
      refine hw_ 9 (some 78) ?_
      refine hw_ 10 (some 79) ?_
      refine hw_ 11 (some 80) ?_
      refine hw_ 12 (some 81) ?_
      refine hw_ 13 (some 82) ?_
      refine hw_ 14 (some 83) ?_
      refine hw_ 15 (some 84) ?_
      refine hw_ 16 (some 85) ?_
      refine hw_ 17 (some 86) ?_
      refine hw_ 18 (some 87) ?_
      refine hw_ 19 (some 88) ?_
      refine hw_ 20 (some 89) ?_
      refine hw_ 21 (some 90) ?_
      refine hw_ 22 (some 91) ?_
      refine hw_ 23 (some 92) ?_
      refine hw_ 24 (some 93) ?_
      refine hw_ 25 (some 94) ?_
      refine hw_ 26 (some 95) ?_
      refine hw_ 27 (some 96) ?_
      refine hw_ 28 (some 97) ?_
      refine hw_ 29 (some 98) ?_
      refine hw_ 30 (some 99) ?_
      refine hw_ 31 (some 100) ?_
      refine hw_ 32 (some 101) ?_
      refine hw_ 33 (some 102) ?_
      refine hw_ 34 (some 103) ?_
      refine hw_ 35 (some 104) ?_
      refine hw_ 36 (some 105) ?_
      refine hw_ 37 (some 106) ?_
      refine hw_ 38 (some 107) ?_
      refine hw_ 39 (some 108) ?_
      refine hw_ 40 (some 109) ?_
      refine hw_ 41 (some 110) ?_
      refine hw_ 42 (some 111) ?_
      refine hw_ 43 (some 112) ?_
      refine hw_ 44 (some 113) ?_
      refine hw_ 45 (some 114) ?_
      refine hw_ 46 (some 115) ?_
      refine hw_ 47 (some 116) ?_
      refine hw_ 48 (some 117) ?_
      refine hw_ 49 (some 118) ?_
      refine wpAnyH_done (by kernel_rfl) ?_ _
      clear hHeld x3 v3 m3
      go_wp2_with fail
      go_round
      case rel => exact ⟨j + 1,by omega,by go_num,KD⟩
      case measure => simp [intOf]; omega
    ·obtain rfl : j = rn := by omega
     go_wp2_with fail
     refine (HFX.out _ HK.out.mx).mono ?_
     rintro e w9 ⟨rfl,hb9⟩
     have HB9 := hQ_ (Own.keeps HK.out.bel hb9)
     clear hb9
     go_wp2_with fail
     go_ret
     exact ⟨rfl,HB9.out⟩
end Go.Proofs.YtfalhnomhidkcaaGreatDoor.FileLq
namespace Go.Proofs.YtfalhnomhidkcaaGreatDoor.FileXk
open Go.RowKit
open Lst FileL FileX
theorem keys_all (A : Option Addr) (n c : Nat) (ops : List Op19) (w : World) (h : n ≤ c ∧ c ≤ maxLen ∧ Sl opE w A n ops ∧ ∀ p ∈ ops,OpG w p) (hmx : NamesL.Mx w) :
 Calls Tryz.prog 8 #[.slice A n c] w fun e w' => e = .returned (.bool true) ∧ Below w.heap.size w w' :=
 FileLq.keys_law wq A n c ops w h.2.2.1 h.1 h.2.1 h.2.2.2 hmx
end Go.Proofs.YtfalhnomhidkcaaGreatDoor.FileXk
namespace Go.Proofs.YtfalhnomhidkcaaGreatDoor.Shap
open Go
theorem returns_shaped {H : Type} {enc : TypeId × Value → H} {a : Assume} {C : Checked} {os : Os} {f : FuncId} {fn : Func} {s : ChangeSpec} {conds : List PathCond} {apart fresh handsOn again : Bool} {X : World → Array Value → Prop}
 (keepX : ∀ (v v' : World) (xs : Array Value),v.heap = v'.heap → X v xs → X v' xs) (own : ownKnob C.prog.godebug = none) (started : os.Started) (noInit : C.prog.inits.idxOf? f = none) (hfn : C.prog.funcs[f]? = some fn)
 (wit : ∃ (v : World) (tape : Tape) (i : Input),v.os = os ∧ (v.forCall tape i).Shaped C.prog ∧ i.vars = [] ∧ Input.okWide C.prog (v.forCall tape i) .any v.heap.size f i ∧ ((s.pre enc C.prog fn conds apart (v.forCall tape i).memory i.args ∧ X (v.forCall tape i).memory i.args) ∧ sizedMet enc C.prog fn (OpenSpec.ofChange s) apart (v.forCall tape i).memory i.args) ∧ a.holds C.prog (lone (Frame.enter C.prog f i.args .normal) [] (v.forCall tape i)))
 (walked : ∀ (W : World) (base : Nat) (xs : Array Value) (ds gs : List (DataW H)) (before : List MemPlace),(∀ (j : Nat) t v,fn.params[j]? = some t → xs[j]? = some v → Value.okWide C.prog W .any base t v) → DataW.Whole enc C.prog fn.params.toList s.vars apart W xs.toList ds gs before → conds.all (PathCond.test C.prog ⟨fn.params.toList,ds,s.plain.varTypes C.prog,gs⟩) = true →
   (DataW.weightsEach C.prog (fn.params.toList ++ s.plain.varTypes C.prog) (ds ++ gs)).all (· ≤ reachBytes) = true → X W xs → W.ShapedOpen C.prog → Calls C.prog f xs W fun e W' => ∃ v,e = .returned v ∧ s.post enc C.prog fn apart fresh handsOn again W xs v W') :
 ReturnsInHanded a C os f .any (fun v xs => (s.pre enc C.prog fn conds apart v xs ∧ X v xs) ∧ sizedMet enc C.prog fn (OpenSpec.ofChange s) apart v xs) (s.post enc C.prog fn apart fresh handsOn again) := by
 refine returnsInHanded_of_calls own started noInit wit ?_
 intro v tape i _ shape _ ok pre _
 obtain ⟨_,_,_,fn',hfn',_,_,_,_,hval⟩ := ok
 obtain rfl : fn' = fn := Option.some.inj (hfn'.symm.trans hfn)
 obtain ⟨⟨⟨ds,gs,before,hw,hc⟩,hx⟩,hz⟩ := pre
 have whole := DataW.Whole.of_heap (w' := v.forCall tape i) (by rfl) hw
 refine (walked (v.forCall tape i) v.heap.size i.args ds gs before hval whole hc (hz.weights hw) (keepX _ _ _ (by rfl) hx) shape).mono fun e W' h => ?_
 obtain ⟨x,rfl,hp⟩ := h
 exact ChangeSpec.post_blind hp
end Go.Proofs.YtfalhnomhidkcaaGreatDoor.Shap