import Derived.WalkSpells
import Derived.Test.YtogdjbhjgbnicaaGreatDoorOpsNumbersMBS
import Derived.Test.YtogdjbhjgbnicaaGreatDoorOpsNumbersMBE
import Derived.Test.YtogdjbhjgbnicaaGreatDoorProg
import Derived.StringKeys
import Derived.Maps.Own
import Derived.Maps.OwnOps
import Derived.Maps.OwnSet
import Derived.Maps.Views
import Derived.Test.YtogdjbhjgbnicaaGreatDoorOpsNumbersMBQ
import Derived.Test.YtogdjbhjgbnicaaGreatDoorOwn
import Derived.Test.YtogdjbhjgbnicaaGreatDoorSq
import Derived.Test.YtogdjbhjgbnicaaGreatDoorOpsNumbersMAP
import Derived.Deep.RegionLaw
import Derived.Deep.DeepCutAuto
import Derived.Deep.CutBlock
set_option linter.unusedVariables false
set_option linter.unusedSimpArgs false
namespace Go.Proofs.YtogdjbhjgbnicaaGreatDoor.ViewK
open Go.RowKit
open Byte KeysM TreeM ViewM ViewKm ViewKn ViewKr ViewKs ViewKw Own Lst Chg TreeR TreeL TreeG TreeH Ho ViewR ViewL ViewP
def VRep (w : World) (v : Value) (s : Vs) (S D : Nat → Prop) : Prop := ∃ (g : Nat) (b sh wt rd rg : Value),v = .pointer (some ⟨g,0,none⟩) ∧ VC w g b sh wt rd rg s.base s.shown (kys s.wr) s.rd s.rg ∧ s.Ok ∧ Bare s.wr ∧ S = own g rg ∧ D = own g rg
theorem stays : Stays VRep where
 stay := by
  rintro w w' v s S D T ⟨g,b,sh,wt,rd,rg,rfl,hv,h1,h2,rfl,rfl⟩ hc hT hk
  exact ⟨g,b,sh,wt,rd,rg,rfl,hv.stay hc hk (fun h => hT g h (.inl rfl)) (fun k hk' h => hT k h (.inr hk')),h1,h2,rfl,rfl⟩
 ok := by
  rintro w v s S D ⟨g,b,sh,wt,rd,rg,rfl,hv,h1,h2,rfl,rfl⟩
  exact h1
 lt := by
  rintro w v s S D ⟨g,b,sh,wt,rd,rg,rfl,hv,h1,h2,rfl,rfl⟩ q hq
  rcases hq with rfl | hq
  ·exact hv.lt
  ·exact (hv.rgs.lt hq).2
 sub := by
  rintro w v s S D ⟨g,b,sh,wt,rd,rg,rfl,hv,h1,h2,rfl,rfl⟩ q hq
  exact hq
theorem lens {s : Vs} (h : Lim s) (ho : s.Ok) : s.base.length ≤ 2000 ∧ s.shown.length ≤ 50000 ∧ s.wr.length ≤ 2000 ∧ (kys s.wr).length ≤ 50000 ∧ s.rd.length ≤ 30000 ∧ s.rg.length ≤ 2000 := by
 have h1 := h.base
 have h2 := h.rd
 have h3 := h.rg
 have h4 := ho.lw
 have h5 : s.shown.length ≤ s.base.length + s.wr.length := shown_len s.base s.wr
 refine ⟨by omega,by omega,by omega,by rw [kys_len]; omega,by omega,by omega⟩
theorem room_full (s : Vs) (k x : ByteArray) (gn : Bool) : roomB k (kys s.wr) = !fullW s.wr ⟨k,x,gn⟩ := by
 unfold roomB fullW
 rw [kys_in,kys_len]
 dsimp only
 cases inW k s.wr with
 | true => rfl
 | false =>
   by_cases h : s.wr.length < 48
   ·rw [decide_eq_true h,decide_eq_false (by omega)]
    rfl
   ·rw [decide_eq_false h,decide_eq_true (by omega)]
    rfl
theorem stp {g : Nat} {rg : Value} {w w' : World} (d : Did g rg w w') : Stp (own g rg) (own g rg) (own g rg) (own g rg) w w' := ⟨d.chg,d.kept,Grow.refl _ _,Grow.refl _ _⟩
theorem own_new {w : World} {g : Nat} {rg rg' : Value} (h : RgTo w rg rg') : Grow w (own g rg) (own g rg') := fun b hb => by
 rcases hb with rfl | hb
 ·exact .inl (.inl rfl)
 ·rcases h with h | ⟨k,h1,h2⟩
  ·exact .inl (.inr (by rw [← h]; exact hb))
  ·rw [h1] at hb
   injection hb with hb
   exact .inr (by omega)
theorem sh_of {α : Type} {e : Enc α} {T : TypeId} {w : World} {base : Nat} {v : Value} {L : List α} (h : So e T w base v L.length L) : ∃ r : Sh,v = .slice r.a r.n r.c ∧ Sl e w r.a r.n L ∧ ∀ b o,r.a = some ⟨b,o,none⟩ → base ≤ b := by
 rcases h.form with ⟨rfl,h0⟩ | ⟨g,cap,rfl,h1,_⟩
 ·refine ⟨⟨none,0,0⟩,rfl,?_,fun b o e => by cases e⟩
  have := List.eq_nil_of_length_eq_zero h0
  subst this
  exact Sl.nil_ _ _ _
 ·exact ⟨⟨some ⟨g,0,none⟩,L.length,cap⟩,rfl,So.sl h,fun b o e => by injection e with e; injection e with e; omega⟩
theorem new_ok : NewOk VRep := by
 intro w t L h hr hl
 refine (new_calls t w (TN.of hr)).mono ?_
 rintro e w' ⟨rfl,hv,hb⟩
 have hw : ∀ q,own w.heap.size (.slice none 0 0) q → w.heap.size ≤ q := fun q hq => by
  rcases hq with rfl | hq
  ·exact Nat.le_refl _
  ·cases hq
 exact ⟨_,_,_,rfl,⟨_,_,_,_,_,_,rfl,hv,⟨trise hr,List.Pairwise.nil,List.Pairwise.nil,Nat.zero_le _⟩,Bare.nil,rfl,rfl⟩,hw,hw,hb⟩
theorem get_ok : GetOk VRep := by
 rintro w v s S D k ⟨g,b,sh,wt,rd,rg,rfl,hv,h1,h2,rfl,rfl⟩ hl hk
 obtain ⟨l1,l2,l3,l4,l5,l6⟩ := lens hl h1
 refine (get_calls k hv l2 (by omega)).mono ?_
 rintro e w' ⟨rd',rfl,hv',hd⟩
 exact ⟨_,_,rfl,⟨g,b,sh,wt,rd',rg,rfl,by rw [put_putP] at hv'; exact hv',ok_read h1 k,h2,rfl,rfl⟩,stp hd⟩
theorem look_ok : LookOk VRep := by
 rintro w v s S D k ⟨g,b,sh,wt,rd,rg,rfl,hv,h1,h2,rfl,rfl⟩ hl hk
 obtain ⟨l1,l2,l3,l4,l5,l6⟩ := lens hl h1
 refine (look_calls k hv l2).mono ?_
 rintro e w' ⟨rfl,rfl⟩
 exact ⟨_,_,rfl,⟨g,b,sh,wt,rd,rg,rfl,hv,h1,h2,rfl,rfl⟩,stp (Did.refl _ _ _)⟩
theorem range_ok : RangeOk VRep := by
 rintro w v s S D x y ⟨g,b,sh,wt,rd,rg,rfl,hv,h1,h2,rfl,rfl⟩ hl hx hy
 obtain ⟨l1,l2,l3,l4,l5,l6⟩ := lens hl h1
 have key : ∀ (G : List (ByteArray × ByteArray)) (L : List Pr),(s.ranged x y).rg = G → s.rangeOf x y = L → Calls Tryz.prog 25 #[.pointer (some ⟨g,0,none⟩),.string x,.string y] w (RangeR g b sh wt rd rg s.base s.shown (kys s.wr) s.rd G L w) → Calls Tryz.prog 25 #[.pointer (some ⟨g,0,none⟩),.string x,.string y] w fun e w' => ∃ (r : Sh) (S' D' : Nat → Prop),e = .returned (.slice r.a r.n r.c) ∧ Sl prE w' r.a r.n (s.rangeOf x y) ∧ (0 < r.n → NewA w r) ∧ VRep w' (.pointer (some ⟨g,0,none⟩)) (s.ranged x y) S' D' ∧ Stp (own g rg) (own g rg) S' D' w w' := by
  intro G L hG hL hc
  refine hc.mono ?_
  rintro e w' ⟨u,rg',rfl,ho,hv',hd,hto⟩
  obtain ⟨r,rfl,hsl,hnew⟩ := sh_of ho
  refine ⟨r,_,_,rfl,by rw [hL]; exact hsl,fun _ => fun b o e => hnew b o e,⟨g,b,sh,wt,rd,rg',rfl,?_,ok_ranged h1 x y,?_,rfl,rfl⟩,hd.chg,hd.kept,own_new hto,own_new hto⟩
  ·rw [hG]
   have e1 : (s.ranged x y).base = s.base ∧ (s.ranged x y).shown = s.shown ∧ (s.ranged x y).wr = s.wr ∧ (s.ranged x y).rd = s.rd := by
    unfold Vs.ranged
    split <;> exact ⟨rfl,rfl,rfl,rfl⟩
   rw [e1.1,e1.2.1,e1.2.2.1,e1.2.2.2]
   exact hv'
  ·have e1 : (s.ranged x y).wr = s.wr := by
    unfold Vs.ranged
    split <;> rfl
   rw [e1]
   exact h2
 cases hk : kl x y with
 | false =>
   refine key s.rg [] ?_ ?_ (range_none x y hv hk)
   ·unfold Vs.ranged
    rw [hk]
    rfl
   ·unfold Vs.rangeOf
    rw [hk]
    rfl
 | true =>
   cases hh : hasR x y s.rg with
   | true =>
     refine key s.rg (rangeL x y s.shown) ?_ ?_ (range_old x y hv l2 (by omega) hk hh)
     ·unfold Vs.ranged addR
      rw [hk,hh]
      rfl
     ·unfold Vs.rangeOf
      rw [hk]
      rfl
   | false =>
     refine key (s.rg ++ [(x,y)]) (rangeL x y s.shown) ?_ ?_ (range_new x y hv l2 (by omega) hk hh)
     ·unfold Vs.ranged addR
      rw [hk,hh]
      rfl
     ·unfold Vs.rangeOf
      rw [hk]
      rfl
theorem set_ok : SetOk VRep := by
 rintro w v s S D k x ⟨g,b,sh,wt,rd,rg,rfl,hv,h1,h2,rfl,rfl⟩ hl hk hx
 obtain ⟨l1,l2,l3,l4,l5,l6⟩ := lens hl h1
 have hrf := room_full s k x false
 cases hf : fullW s.wr ⟨k,x,false⟩ with
 | true =>
   rw [hf] at hrf
   refine (set_no k x hv l4 hrf).mono ?_
   rintro e w' ⟨rfl,rfl⟩
   have e1 : s.write ⟨k,x,false⟩ = s := by
    unfold Vs.write
    rw [hf]
    rfl
   rw [e1]
   exact ⟨_,_,rfl,⟨g,b,sh,wt,rd,rg,rfl,hv,h1,h2,rfl,rfl⟩,stp (Did.refl _ _ _)⟩
 | false =>
   rw [hf] at hrf
   refine (set_yes k x hv l2 l4 hrf).mono ?_
   rintro e w' ⟨sh',wt',rfl,hv',hd⟩
   have e1 : s.write ⟨k,x,false⟩ = { s with wr := writeW s.base s.wr ⟨k,x,false⟩ } := by
    unfold Vs.write
    rw [hf]
    rfl
   have hok := ok_write h1 ⟨k,x,false⟩
   rw [e1] at hok ⊢
   refine ⟨_,_,rfl,⟨g,b,sh',wt',rd,rg,rfl,?_,hok,h2.write (B := s.base) (p := ⟨k,x,false⟩) (fun h => by cases h),rfl,rfl⟩,stp hd⟩
   have e2 : shownL s.base (writeW s.base s.wr ⟨k,x,false⟩) = putL k x s.shown := shown_write h1.base h1.wr ⟨k,x,false⟩
   have e3 : kys (writeW s.base s.wr ⟨k,x,false⟩) = putL k ⟨#[]⟩ (kys s.wr) := by rw [put_is,kys_put]
   show VC w' g b sh' wt' rd rg s.base (shownL s.base (writeW s.base s.wr ⟨k,x,false⟩)) (kys (writeW s.base s.wr ⟨k,x,false⟩)) s.rd s.rg
   rw [e2,e3]
   exact hv'
theorem cut_ok : CutOk VRep := by
 rintro w v s S D k ⟨g,b,sh,wt,rd,rg,rfl,hv,h1,h2,rfl,rfl⟩ hl hk
 obtain ⟨l1,l2,l3,l4,l5,l6⟩ := lens hl h1
 have hrf := room_full s k ⟨#[]⟩ true
 cases hf : fullW s.wr ⟨k,⟨#[]⟩,true⟩ with
 | true =>
   rw [hf] at hrf
   refine (cut_no k hv l4 hrf).mono ?_
   rintro e w' ⟨rfl,rfl⟩
   have e1 : s.write ⟨k,⟨#[]⟩,true⟩ = s := by
    unfold Vs.write
    rw [hf]
    rfl
   rw [e1]
   exact ⟨_,_,rfl,⟨g,b,sh,wt,rd,rg,rfl,hv,h1,h2,rfl,rfl⟩,stp (Did.refl _ _ _)⟩
 | false =>
   rw [hf] at hrf
   have e1 : s.write ⟨k,⟨#[]⟩,true⟩ = { s with wr := writeW s.base s.wr ⟨k,⟨#[]⟩,true⟩ } := by
    unfold Vs.write
    rw [hf]
    rfl
   have hok := ok_write h1 ⟨k,⟨#[]⟩,true⟩
   have e2 : shownL s.base (writeW s.base s.wr ⟨k,⟨#[]⟩,true⟩) = cutL k s.shown := shown_write h1.base h1.wr ⟨k,⟨#[]⟩,true⟩
   rw [e1] at hok ⊢
   cases hB : getL k s.base with
   | some p =>
     refine (cut_yes k p hB hv (by omega) l2 l4 hrf).mono ?_
     rintro e w' ⟨sh',wt',rfl,hv',hd⟩
     refine ⟨_,_,rfl,⟨g,b,sh',wt',rd,rg,rfl,?_,hok,h2.write (B := s.base) (p := ⟨k,⟨#[]⟩,true⟩) (fun _ => rfl),rfl,rfl⟩,stp hd⟩
     have e3 : kys (writeW s.base s.wr ⟨k,⟨#[]⟩,true⟩) = putL k ⟨#[]⟩ (kys s.wr) := by rw [ViewKm.cut_is,hB]; exact kys_put ⟨k,⟨#[]⟩,true⟩ s.wr
     show VC w' g b sh' wt' rd rg s.base (shownL s.base (writeW s.base s.wr ⟨k,⟨#[]⟩,true⟩)) (kys (writeW s.base s.wr ⟨k,⟨#[]⟩,true⟩)) s.rd s.rg
     rw [e2,e3]
     exact hv'
   | none =>
     refine (cut_new k hB hv (by omega) l2 l4 hrf).mono ?_
     rintro e w' ⟨sh',wt',rfl,hv',hd⟩
     refine ⟨_,_,rfl,⟨g,b,sh',wt',rd,rg,rfl,?_,hok,h2.write (B := s.base) (p := ⟨k,⟨#[]⟩,true⟩) (fun _ => rfl),rfl,rfl⟩,stp hd⟩
     have e3 : kys (writeW s.base s.wr ⟨k,⟨#[]⟩,true⟩) = cutL k (kys s.wr) := by rw [ViewKm.cut_is,hB]; exact kys_cut k s.wr
     show VC w' g b sh' wt' rd rg s.base (shownL s.base (writeW s.base s.wr ⟨k,⟨#[]⟩,true⟩)) (kys (writeW s.base s.wr ⟨k,⟨#[]⟩,true⟩)) s.rd s.rg
     rw [e2,e3]
     exact hv'
end Go.Proofs.YtogdjbhjgbnicaaGreatDoor.ViewK
namespace Go.Proofs.YtogdjbhjgbnicaaGreatDoor.WalkK
open ViewM ViewL WalkL WalkD WalkE WalkV WalkKa WalkKb
def VRep : RepT := VB ViewK.VRep
theorem small : Small VRep := fun _ _ _ _ _ r => r.2
theorem stays : Stays VRep := stays_b ViewK.stays
theorem shown_len ⦃w : World⦄ ⦃v : Value⦄ ⦃s : Vs⦄ ⦃S D : Nat → Prop⦄ (r : VRep w v s S D) (h : Lim s) : s.shown.length ≤ 100000 := by
 have := (ViewK.lens h (stays.ok r)).2.1
 omega
theorem wks : Wks VRep := ⟨save_ok stays (set_b ViewK.set_ok),drop_ok stays (cut_b ViewK.cut_ok),hang_ok stays (set_b ViewK.set_ok),unhang_ok stays (cut_b ViewK.cut_ok),child_ok stays (get_b ViewK.get_ok) small,list_ok stays (range_b ViewK.range_ok) shown_len⟩
theorem find_ok : FindOk VRep := by
 intro w v s S D path hr hl h2 hn hx
 by_cases hs : (NamesM.spl path).2 = 0
 ·refine (find_yes_calls stays (get_b ViewK.get_ok) small path hr hl h2 hn hx hs (WalkF.findM s.shown path).1 (WalkF.findM s.shown path).2 rfl).mono ?_
  rintro e w' ⟨s',S',D',he,h3,h4,h5⟩
  exact ⟨s',S',D',he,h3,h4,h5⟩
 ·have hf := WalkKm.find_no (L := s.shown) hs
  refine (find_no_calls stays path hr hn hx hs).mono ?_
  rintro e w' ⟨s',S',D',he,h3,h4,h5⟩
  rw [hf]
  exact ⟨s',S',D',he,h3,h4,h5⟩
end Go.Proofs.YtogdjbhjgbnicaaGreatDoor.WalkK
set_option maxHeartbeats 16000000
set_option maxRecDepth 100000
namespace Go.Proofs.YtogdjbhjgbnicaaGreatDoor.DirsK
open Go.RowKit
open Byte KeysM TreeM ViewM NodeM NamesM NamesL WalkM WalkF WalkKm DirsV Lst Chg TreeL ViewL WalkL WalkV Vat WalkKa WalkKb
open Own hiding keeps
variable {Rep : RepT} {w : World} {v : Value} {s : Vs} {S D : Nat → Prop}
structure Wk (Rep : RepT) : Prop where
 stays : Stays Rep
 get : GetOk Rep
 range : RangeOk Rep
 cut : CutOk Rep
 small : Small Rep
 save : SaveOk Rep
 drop : DropOk Rep
 hang : HangOk Rep
 unhang : UnhangOk Rep
 list : ListOk Rep
 find : WalkE.FindOk Rep
 shown : ∀ ⦃w v s S D⦄,Rep w v s S D → Lim s → s.shown.length ≤ 100000
theorem wk : Wk WalkK.VRep := ⟨WalkK.stays,get_b ViewK.get_ok,range_b ViewK.range_ok,cut_b ViewK.cut_ok,WalkK.small,WalkK.wks.save,WalkK.wks.drop,WalkK.wks.hang,WalkK.wks.unhang,WalkK.wks.list,WalkK.find_ok,WalkK.shown_len⟩
def Wrote (Rep : RepT) (v : Value) (s : Vs) (ps : List Wrt) (k m : Nat) (S D : Nat → Prop) (w : World) (e : Ending) (w' : World) : Prop := ∃ s' S' D',e = .returned (.bool (goW s ps).2) ∧ Rep w' v s' S' D' ∧ Stp S D S' D' w w' ∧ Aft s s' ps k m
theorem lim_aft {s s' : Vs} {ps : List Wrt} {k m : Nat} (h : Aft s s' ps k m) (hl : Lim s) (h1 : s.rd.length + k ≤ 20000) (h2 : s.rg.length + m ≤ 1000) : Lim s' :=
 ⟨by rw [h.sm.base,goW_base]; exact hl.base,Nat.le_trans h.rd h1,Nat.le_trans h.rg h2⟩
theorem wrote_one {v : Value} {s t : Vs} {p : Wrt} {q : Pr} {k : Nat} {S D S' D' : Nat → Prop} {w w' : World} (hq : p s.shown = q) (ht : Sm t s) (h1 : t.rd.length ≤ s.rd.length + k) (h2 : t.rg.length ≤ s.rg.length) (hr : Rep w' v (t.write q) S' D') (st : Stp S D S' D' w w') : Wrote Rep v s [p] k 0 S D w (.returned (.bool (!fullW t.wr q))) w' := by
 subst hq
 have h3 := write_rd t (p s.shown)
 exact ⟨_,S',D',by rw [one_ok,ht.wr],hr,st,Aft.one (ht.write _) (by rw [h3.1]; exact h1) (by rw [h3.2]; exact h2)⟩
theorem tie_calls (hW : Wk Rep) {w : World} {v : Value} {s : Vs} {S D : Nat → Prop} (dir more : Int) (hr : Rep w v s S D) (hl : Lim s) (h2 : s.rd.length ≤ 19990) (h0 : 0 ≤ dir) (h1 : dir ≤ 4294967295) (hm0 : -1 ≤ more) (hm1 : more ≤ 1) :
 Calls Tryz.prog 103 #[v,.int .u32 dir,.int .i64 more] w (Wrote Rep v s [tieP dir more] 1 0 S D w) := by
 have A0 := hQ_ (At.start hr)
 have HLD := hQ_ (load_calls hW.stays hW.get hW.small dir hr hl h0 h1)
 unfold LoadV at HLD
 have HS := hQ_ hW.stays
 have hbd := load_k s.shown dir
 have hl2 : Lim (s.read (kI dir)) := ⟨hl.base,by have := read_len s (kI dir); omega,hl.rg⟩
 have HSV := hQ_ (fun (l : Int) (w1 : World) (S D : Nat → Prop) (hr1 : Rep w1 v (s.read (kI dir)) S D) (b0 : 0 ≤ l) (b1 : l ≤ 4294967295) => hW.save dir (loadM s.shown dir).1.k l (loadM s.shown dir).1.s (loadM s.shown dir).1.p hr1 hl2 h0 h1 ⟨hbd.1,hbd.2.1,b0,b1,hbd.2.2.2.2.1,hbd.2.2.2.2.2.1,hbd.2.2.2.2.2.2.1,hbd.2.2.2.2.2.2.2⟩)
 have HFIN : Hid (∀ l,l = u32 ((loadM s.shown dir).1.l + more) → (tieP dir more s.shown) = ⟨kI dir,nput (loadM s.shown dir).1.k l (loadM s.shown dir).1.s (loadM s.shown dir).1.p,false⟩) := hQ_ (fun l hl => by rw [hl]; rfl)
 have hrl := hQ_ (read_len s (kI dir))
 generalize (loadM s.shown dir).2 = bb at *
 generalize (loadM s.shown dir).1 = xx at *
 obtain ⟨xk,xl,xz,xp⟩ := xx
 dsimp only at HLD HSV HFIN hbd
 obtain ⟨b0,b1,b2,b3,b4,b5,b6,b7⟩ := hbd
 clear hr hl hl2 h2
 go_enter Tryz.func103,Tryz.ntmps103
 go_wp2_with fail
 refine HLD.out.mono ?_
 rintro e w2 ⟨S2,D2,rfl,hr2,st2⟩
 have hbn := bN_ w2 (.cells #[.int .u8 xk,.int .u32 ((xl + more) % 4294967296),.int .u32 xz,.int .u32 xp] 46)
 have A2 := hQ_ ((A0.out.step HS.out hr2 st2).below HS.out hbn)
 clear hr2 st2 hbn
 go_wp2_with fail
 refine (HSV.out ((xl + more) % 4294967296) _ _ _ A2.out.rep (by omega) (by omega)).mono ?_
 rintro e w3 ⟨S3,D3,rfl,hr3,st3⟩
 have A3 := hQ_ (A2.out.step HS.out hr3 st3)
 clear st3 hr3
 go_wp2_with fail
 go_ret
 exact wrote_one (HFIN.out _ rfl) ((Sm.refl s).read _) hrl.out (Nat.le_refl _) A3.out.rep A3.out.st
theorem adopt_calls (hW : Wk Rep) {w : World} {v : Value} {s : Vs} {S D : Nat → Prop} (parent ino : Int) (hr : Rep w v s S D) (hl : Lim s) (h2 : s.rd.length ≤ 19990) (h0 : 0 ≤ ino) (h1 : ino ≤ 4294967295) (p0 : 0 ≤ parent) (p1 : parent ≤ 4294967295) :
 Calls Tryz.prog 138 #[v,.int .u32 parent,.int .u32 ino] w (Wrote Rep v s [adoptP parent ino] 1 0 S D w) := by
 have A0 := hQ_ (At.start hr)
 have HLD := hQ_ (load_calls hW.stays hW.get hW.small ino hr hl h0 h1)
 unfold LoadV at HLD
 have HS := hQ_ hW.stays
 have hbd := load_k s.shown ino
 have hl2 : Lim (s.read (kI ino)) := ⟨hl.base,by have := read_len s (kI ino); omega,hl.rg⟩
 have HSV := hQ_ (fun (w1 : World) (S D : Nat → Prop) (hr1 : Rep w1 v (s.read (kI ino)) S D) => hW.save ino (loadM s.shown ino).1.k (loadM s.shown ino).1.l (loadM s.shown ino).1.s parent hr1 hl2 h0 h1 ⟨hbd.1,hbd.2.1,hbd.2.2.1,hbd.2.2.2.1,hbd.2.2.2.2.1,hbd.2.2.2.2.2.1,p0,p1⟩)
 have HFIN : Hid ((adoptP parent ino s.shown) = ⟨kI ino,nput (loadM s.shown ino).1.k (loadM s.shown ino).1.l (loadM s.shown ino).1.s parent,false⟩) := hQ_ rfl
 have hrl := hQ_ (read_len s (kI ino))
 generalize (loadM s.shown ino).2 = bb at *
 generalize (loadM s.shown ino).1 = xx at *
 obtain ⟨xk,xl,xz,xp⟩ := xx
 dsimp only at HLD HSV HFIN
 clear hr hl hl2 h2 hbd
 go_enter Tryz.func138,Tryz.ntmps138
 go_wp2_with fail
 refine HLD.out.mono ?_
 rintro e w2 ⟨S2,D2,rfl,hr2,st2⟩
 have hbn := bN_ w2 (.cells #[.int .u8 xk,.int .u32 xl,.int .u32 xz,.int .u32 parent] 46)
 have A2 := hQ_ ((A0.out.step HS.out hr2 st2).below HS.out hbn)
 clear hr2 st2 hbn
 go_wp2_with fail
 refine (HSV.out _ _ _ A2.out.rep).mono ?_
 rintro e w3 ⟨S3,D3,rfl,hr3,st3⟩
 have A3 := hQ_ (A2.out.step HS.out hr3 st3)
 clear st3 hr3
 go_wp2_with fail
 go_ret
 exact wrote_one HFIN.out ((Sm.refl s).read _) hrl.out (Nat.le_refl _) A3.out.rep A3.out.st
theorem when_calls (b : Bool) (er : Int) (w : World) : Calls Tryz.prog 99 #[.bool b,.int .i64 er] w fun e w' => e = .returned (.int .i64 (if b then er else 0)) ∧ w = w' := by
 cases b
 all_goals
  go_enter Tryz.func99,Tryz.ntmps99
  go_wp2_with fail
  go_ret
  exact ⟨rfl,rfl⟩
theorem room_calls (b : Bool) (w : World) : Calls Tryz.prog 104 #[.bool b] w fun e w' => e = .returned (.int .i64 (if b then 0 else 21)) ∧ w = w' := by
 have H := hQ_ (fun b w => when_calls b 21 w)
 cases b
 all_goals
  go_enter Tryz.func104,Tryz.ntmps104
  go_wp2_with (go_at_call 99; refine (H.out _ _).mono ?_; rintro e w' ⟨rfl,rfl⟩)
  go_ret
  exact ⟨rfl,rfl⟩
end Go.Proofs.YtogdjbhjgbnicaaGreatDoor.DirsK
namespace Go.Proofs.YtogdjbhjgbnicaaGreatDoor.DirsKa
open Go.RowKit
open Byte KeysM KeysS KeysV KeysB KeysD TreeM TreeR ViewM NodeM NamesM NamesR NamesL NamesK WalkM WalkF WalkKm DirsV Lst Chg TreeL ViewL WalkL WalkV Vat WalkKa WalkKb DirsK
open Own hiding keeps
variable {Rep : RepT} {w : World} {v : Value} {s : Vs} {S D : Nat → Prop}
def erE : Enc Int := ⟨fun x => [.int .i64 x],1,fun _ => rfl,fun x u hu => by
 rw [List.mem_singleton.1 hu]; rfl,by decide⟩
def fst_ : List Int → Int
 | [] => 0
 | x :: r => if x = 0 then fst_ r else x
theorem er_cell {w : World} {b o k : Nat} {x : Int} (h : w.rangeAt b (o + k * erE.size) (erE.cells x)) : w.cell? ⟨b,o + k,none⟩ = some (.int .i64 x) := by
 have := h 0 _ rfl
 simpa [erE] using this
theorem first_calls (A : Option Addr) (n c : Nat) (L : List Int) (w : World) (hl : Sl erE w A n L) (hn : n ≤ 100) : Calls Tryz.prog 98 #[.slice A n c] w fun e w' => e = .returned (.int .i64 (fst_ L)) ∧ w = w' := by
 have HL := hQ_ hl
 have HLN := hQ_ hl.1
 clear hl
 go_enter Tryz.func98,Tryz.ntmps98
 go_wp2_with fail
 go_loop [7] (fun i => ∃ k : Nat,k ≤ n ∧ i = .int .i64 k ∧ Hid (fst_ (L.drop k) = fst_ L)) (fun i => n - (intOf i).toNat)
 case atStart => exact ⟨0,Nat.zero_le _,rfl,hQ_ rfl⟩
 case round =>
  obtain ⟨k,hk,rfl,HR⟩ := hrel
  by_cases hlt : k < n
  ·obtain ⟨x,g,o,hx,rfl,hg,hcl⟩ := HL.out.get k hlt
   have c1 := er_cell hcl
   have hr := HR.out
   rw [show L.drop k = x :: L.drop (k + 1) by
    obtain ⟨hk,he⟩ := List.getElem?_eq_some_iff.1 hx
    rw [List.drop_eq_getElem_cons hk,he]] at hr
   unfold fst_ at hr
   clear hcl hx
   by_cases h0 : x = 0
   ·rw [if_pos h0] at hr
    have d1 : (x != 0) = false := by simpa using h0
    have HR2 : Hid (fst_ (L.drop (k + 1)) = fst_ L) := hQ_ (by rw [hr]; cases L <;> rfl)
    clear hr HR h0
    go_wp2_with fail
    go_round
    case rel => exact ⟨k + 1,by omega,by go_num,HR2⟩
    case measure => simp [intOf]; omega
   ·rw [if_neg h0] at hr
    have d1 : (x != 0) = true := by simpa using h0
    have HE : Hid (x = fst_ L) := hQ_ (by rw [hr]; cases L <;> rfl)
    clear hr HR h0
    go_wp2_with fail
    go_ret
    exact ⟨by rw [HE.out]; rfl,rfl⟩
  ·have hr := HR.out
   rw [List.drop_eq_nil_of_le (by rw [HLN.out]; omega)] at hr
   have HE : Hid (0 = fst_ L) := hQ_ hr
   clear hr HR
   go_wp2_with fail
   go_ret
   exact ⟨by rw [HE.out]; rfl,rfl⟩
theorem first_2 (a b : Int) (w : World) : Calls Tryz.prog 98 #[.slice (some ⟨w.heap.size,0,none⟩) 2 2] (w.alloc (.cells #[.int .i64 a,.int .i64 b] 43)) fun e w' => e = .returned (.int .i64 (fst_ [a,b])) ∧ (w.alloc (.cells #[.int .i64 a,.int .i64 b] 43)) = w' :=
 first_calls _ 2 2 [a,b] _ (So.lit erE 43 w (base := w.heap.size) [a,b] #[.int .i64 a,.int .i64 b] 2 rfl rfl (Nat.le_refl _) (by decide)).sl (by decide)
theorem first_3 (a b c : Int) (w : World) : Calls Tryz.prog 98 #[.slice (some ⟨w.heap.size,0,none⟩) 3 3] (w.alloc (.cells #[.int .i64 a,.int .i64 b,.int .i64 c] 43)) fun e w' => e = .returned (.int .i64 (fst_ [a,b,c])) ∧ (w.alloc (.cells #[.int .i64 a,.int .i64 b,.int .i64 c] 43)) = w' :=
 first_calls _ 3 3 [a,b,c] _ (So.lit erE 43 w (base := w.heap.size) [a,b,c] #[.int .i64 a,.int .i64 b,.int .i64 c] 3 rfl rfl (Nat.le_refl _) (by decide)).sl (by decide)
theorem within_calls (old path : ByteArray) (w : World) (h1 : old.size ≤ 100000) (h2 : path.size ≤ 100000) (hx : Mx w) : Calls Tryz.prog 112 #[.string old,.string path] w fun e w' => e = .returned (.bool (under (spl old).1 (spl path).1)) ∧ Below w.heap.size w w' := by
 have HA := hQ_ (split_ok old w h1 hx)
 have HB := hQ_ (fun w (h : Mx w) => split_ok path w h2 h)
 unfold SplE at HA HB
 have hsa := (spl_small old).1
 have hsb := (spl_small path).1
 have HX := hQ_ hx
 generalize (spl old).1 = L at *
 generalize (spl path).1 = M at *
 generalize (spl old).2 = ea at *
 generalize (spl path).2 = eb at *
 clear hx
 go_enter Tryz.func112,Tryz.ntmps112
 go_wp2_with fail
 refine HA.out.mono ?_
 rintro e w1 ⟨A,m,c,rfl,hso,hb1⟩
 have HL1 := hQ_ hso.sl
 have HB1 := hQ_ hb1
 have HR1 := hQ_ (room_of hso)
 have hm16 : m ≤ 16 := by rw [← hso.1]; exact hsa
 clear hso hb1 hsa
 go_wp2_with fail
 refine (HB.out _ (HX.out.below HB1.out)).mono ?_
 rintro e w2 ⟨A2,m2,c2,rfl,hso,hb2⟩
 have HL := hQ_ (HL1.out.below hb2)
 have HL2 := hQ_ hso.sl
 have HB2 := hQ_ (Own.keeps HB1.out hb2)
 have HR2 := hQ_ (room_of hso)
 have hm216 : m2 ≤ 16 := by rw [← hso.1]; exact hsb
 clear hso hb2 hsb
 go_wp2_with fail
 refine (under_ok A A2 m c m2 c2 L M w2 HL.out HL2.out HR1.out HR2.out (by omega) (by omega)).mono ?_
 rintro e w3 ⟨rfl,hb3⟩
 have HB3 := hQ_ (Own.keeps HB2.out hb3)
 clear hb3
 go_wp2_with fail
 go_ret
 exact ⟨rfl,HB3.out⟩
theorem save_w (hW : Wk Rep) (ino k l z p : Int) (hr : Rep w v s S D) (hl : Lim s) (h0 : 0 ≤ ino) (h1 : ino ≤ 4294967295) (hb : InoB k l z p) : Calls Tryz.prog 101 #[v,.int .u32 ino,.agg #[.int .u8 k,.int .u32 l,.int .u32 z,.int .u32 p]] w (Wrote Rep v s [saveP ino k l z p] 0 0 S D w) :=
 (hW.save ino k l z p hr hl h0 h1 hb).mono fun e w' ⟨S',D',he,h,st⟩ => by subst he; exact wrote_one (p := saveP ino k l z p) rfl (Sm.refl s) (Nat.le_refl _) (Nat.le_refl _) h st
theorem drop_w (hW : Wk Rep) (ino : Int) (hr : Rep w v s S D) (hl : Lim s) (h0 : 0 ≤ ino) (h1 : ino ≤ 4294967295) : Calls Tryz.prog 140 #[v,.int .u32 ino] w (Wrote Rep v s [dropP ino] 0 0 S D w) :=
 (hW.drop ino hr hl h0 h1).mono fun e w' ⟨S',D',he,h,st⟩ => by subst he; exact wrote_one (p := dropP ino) rfl (Sm.refl s) (Nat.le_refl _) (Nat.le_refl _) h st
theorem hang_w (hW : Wk Rep) (dir : Int) (name : ByteArray) (ino : Int) (hr : Rep w v s S D) (hl : Lim s) (h0 : 0 ≤ dir) (h1 : dir ≤ 4294967295) (i0 : 0 ≤ ino) (i1 : ino ≤ 4294967295) (hn : name.size ≤ 100000) : Calls Tryz.prog 102 #[v,.int .u32 dir,.string name,.int .u32 ino] w (Wrote Rep v s [hangP dir name ino] 0 0 S D w) :=
 (hW.hang dir name ino hr hl h0 h1 i0 i1 hn).mono fun e w' ⟨S',D',he,h,st⟩ => by subst he; exact wrote_one (p := hangP dir name ino) rfl (Sm.refl s) (Nat.le_refl _) (Nat.le_refl _) h st
theorem unhang_w (hW : Wk Rep) (dir : Int) (name : ByteArray) (hr : Rep w v s S D) (hl : Lim s) (h0 : 0 ≤ dir) (h1 : dir ≤ 4294967295) (hn : name.size ≤ 100000) : Calls Tryz.prog 137 #[v,.int .u32 dir,.string name] w (Wrote Rep v s [unhangP dir name] 0 0 S D w) :=
 (hW.unhang dir name hr hl h0 h1 hn).mono fun e w' ⟨S',D',he,h,st⟩ => by subst he; exact wrote_one (p := unhangP dir name) rfl (Sm.refl s) (Nat.le_refl _) (Nat.le_refl _) h st
def cutP (k : ByteArray) : Wrt := fun _ => ⟨k,⟨#[]⟩,true⟩
theorem cut_w (hW : Wk Rep) (k : ByteArray) (hr : Rep w v s S D) (hl : Lim s) (hk : k.size ≤ 100000) : Calls Tryz.prog 133 #[v,.string k] w (Wrote Rep v s [cutP k] 0 0 S D w) :=
 (hW.cut k hr hl (by omega)).mono fun e w' ⟨S',D',he,h,st⟩ => by subst he; exact wrote_one (p := cutP k) rfl (Sm.refl s) (Nat.le_refl _) (Nat.le_refl _) h st
theorem Wrote.split {v : Value} {s : Vs} {ps : List Wrt} {k m : Nat} {S D : Nat → Prop} {w : World} {e : Ending} {w' : World} (h : Wrote Rep v s ps k m S D w e w') :
 (∃ s' S' D',e = .returned (.bool true) ∧ (goW s ps).2 = true ∧ Rep w' v s' S' D' ∧ Stp S D S' D' w w' ∧ Aft s s' ps k m) ∨ (∃ s' S' D',e = .returned (.bool false) ∧ (goW s ps).2 = false ∧ Rep w' v s' S' D' ∧ Stp S D S' D' w w' ∧ Aft s s' ps k m) := by
 obtain ⟨s',S',D',he,hr,st,ha⟩ := h
 cases ho : (goW s ps).2 with
 | true => rw [ho] at he; exact .inl ⟨s',S',D',he,rfl,hr,st,ha⟩
 | false => rw [ho] at he; exact .inr ⟨s',S',D',he,rfl,hr,st,ha⟩
def Ans (Rep : RepT) (v : Value) (s : Vs) (er : Int) (ps : List Wrt) (k m : Nat) (S D : Nat → Prop) (w : World) (e : Ending) (w' : World) : Prop := ∃ s' S' D',e = .returned (.int .i64 (if (goW s ps).2 = true then er else 21)) ∧ Rep w' v s' S' D' ∧ Stp S D S' D' w w' ∧ Aft s s' ps k m
theorem Ans.ok {v : Value} {s s' : Vs} {er : Int} {ps : List Wrt} {k m : Nat} {S D M S' D' : Nat → Prop} {w w' : World} (A : At Rep w S D M w' v s' S' D') (h : Aft s s' ps k m ∧ (goW s ps).2 = true) : Ans Rep v s er ps k m S D w (.returned (.int .i64 er)) w' := ⟨s',S',D',by rw [h.2]; rfl,A.rep,A.st,h.1⟩
theorem Ans.full {v : Value} {s s' : Vs} {er : Int} {ps : List Wrt} {k m : Nat} {S D M S' D' : Nat → Prop} {w w' : World} (A : At Rep w S D M w' v s' S' D') (h : Aft s s' ps k m ∧ (goW s ps).2 = false) : Ans Rep v s er ps k m S D w (.returned (.int .i64 21)) w' := ⟨s',S',D',by rw [h.2]; rfl,A.rep,A.st,h.1⟩
theorem Ans.split {v : Value} {s : Vs} {er : Int} {ps : List Wrt} {k m : Nat} {S D : Nat → Prop} {w : World} {e : Ending} {w' : World} (h : Ans Rep v s er ps k m S D w e w') :
 (∃ s' S' D',e = .returned (.int .i64 er) ∧ (goW s ps).2 = true ∧ Rep w' v s' S' D' ∧ Stp S D S' D' w w' ∧ Aft s s' ps k m) ∨ (∃ s' S' D',e = .returned (.int .i64 21) ∧ (goW s ps).2 = false ∧ Rep w' v s' S' D' ∧ Stp S D S' D' w w' ∧ Aft s s' ps k m) := by
 obtain ⟨s',S',D',he,hr,st,ha⟩ := h
 cases ho : (goW s ps).2 with
 | true => rw [ho] at he; exact .inl ⟨s',S',D',he,rfl,hr,st,ha⟩
 | false => rw [ho] at he; exact .inr ⟨s',S',D',he,rfl,hr,st,ha⟩
end Go.Proofs.YtogdjbhjgbnicaaGreatDoor.DirsKa
namespace Go.Proofs.YtogdjbhjgbnicaaGreatDoor.DirsKb
open Go.RowKit
open Byte KeysM TreeM ViewM ViewKm NodeM NamesM NamesL WalkM WalkF WalkKm DirsV Lst Chg TreeL ViewL WalkL WalkV Vat WalkKa WalkKb DirsK DirsKa
open Own hiding keeps
variable {Rep : RepT} {w : World} {v : Value} {s : Vs} {S D : Nat → Prop}
theorem ranged_rd (s : Vs) (a b : ByteArray) : (s.ranged a b).rd.length = s.rd.length := by
 unfold Vs.ranged
 split <;> rfl
theorem ranged_rg (s : Vs) (a b : ByteArray) : (s.ranged a b).rg.length ≤ s.rg.length + 1 := by
 unfold Vs.ranged
 split
 ·show (addR a b s.rg).length ≤ _
  unfold addR
  split
  ·omega
  ·simp
 ·omega
theorem Wrote.of_ok {v : Value} {s s' : Vs} {ps : List Wrt} {k m : Nat} {S D M S' D' : Nat → Prop} {w w' : World} (A : At Rep w S D M w' v s' S' D') (h : Aft s s' ps k m ∧ (goW s ps).2 = true) : Wrote Rep v s ps k m S D w (.returned (.bool true)) w' := ⟨s',S',D',by rw [h.2],A.rep,A.st,h.1⟩
theorem Wrote.of_bad {v : Value} {s s' : Vs} {ps : List Wrt} {k m : Nat} {S D M S' D' : Nat → Prop} {w w' : World} (A : At Rep w S D M w' v s' S' D') (h : Aft s s' ps k m ∧ (goW s ps).2 = false) : Wrote Rep v s ps k m S D w (.returned (.bool false)) w' := ⟨s',S',D',by rw [h.2],A.rep,A.st,h.1⟩
theorem cut_sub {s : Vs} (ho : s.Ok) (k : ByteArray) : ∀ p ∈ (s.write ⟨k,⟨#[]⟩,true⟩).shown,p ∈ s.shown := fun p hp => by
 unfold Vs.write at hp
 split at hp
 ·exact hp
 ·have h1 : p ∈ shownL s.base (writeW s.base s.wr ⟨k,⟨#[]⟩,true⟩) := hp
  rw [shown_write ho.base ho.wr,mem_done] at h1
  rcases h1 with ⟨h2,_⟩ | ⟨h2,_⟩
  ·cases h2
  ·exact h2
theorem unh_sm {s s' : Vs} {d : Int} {n : ByteArray} {k m : Nat} (h : Aft s s' ([] ++ [unhangP d n]) k m) : s'.shown = (s.write ⟨kE d n,⟨#[]⟩,true⟩).shown := by
 rw [h.sm.shown,List.nil_append]
 unfold goW
 split
 ·rename_i hf
  rw [write_room (p := ⟨kE d n,⟨#[]⟩,true⟩) hf]
 ·rfl
theorem remove_calls (hW0 : Wk Rep) (xd xi xk xl xz xp : Int) (xn : ByteArray) (hr : Rep w v s S D) (hl : Lim s) (h2 : s.rd.length ≤ 19900) (h3 : s.rg.length ≤ 990) (hd0 : 0 ≤ xd) (hd1 : xd ≤ 4294967295) (hi0 : 0 ≤ xi) (hi1 : xi ≤ 4294967295) (hn0 : xn.size ≤ 100000) (hk : ∀ p ∈ s.shown,(sp p.key).letter ≠ 0) :
 Calls Tryz.prog 116 #[v,.agg #[.int .u32 xd,.string xn,.int .u32 xi,.int .u8 xk,.int .u32 xl,.int .u32 xz,.int .u32 xp]] w (Ans Rep v s (remV s.shown ⟨xd,xn,xi,⟨xk,xl,xz,xp⟩⟩).1 (remV s.shown ⟨xd,xn,xi,⟨xk,xl,xz,xp⟩⟩).2 1 1 S D w) := by
 obtain ⟨W,hW⟩ : ∃ W,w.alloc (.cells #[.int .u32 xd,.string xn,.int .u32 xi,.int .u8 xk,.int .u32 xl,.int .u32 xz,.int .u32 xp] 150) = W := ⟨_,rfl⟩
 have hbW : Below w.heap.size w W := by rw [← hW]; exact bW_
 have A0 := hQ_ ((At.start hr).own hW0.stays hbW (Nat.le_refl w.heap.size) (by rw [← hW]; simp))
 have X0 := hQ_ (show Blk W w.heap.size #[.int .u32 xd,.string xn,.int .u32 xi,.int .u8 xk,.int .u32 xl,.int .u32 xz,.int .u32 xp] 150 from hW ▸ Blk.new_ w _ _)
 have HW := hQ_ hW
 have HS := hQ_ hW0.stays
 have HWK := hQ_ hW0
 have HL := hQ_ hl
 have HRO := hQ_ room_calls
 have C0 := hQ_ (aft0 s)
 have HLS := hQ_ (fun w (S D : Nat → Prop) (hr : Rep w v s S D) => hW0.list xi hr hl hi0 hi1 hk)
 have HV : Hid (remV s.shown ⟨xd,xn,xi,⟨xk,xl,xz,xp⟩⟩ = if xk ≠ 2 then (12,[]) else if (listM xi s.shown).length ≠ 0 then (14,[]) else (0,[unhangP xd xn,dropP xi,tieP xd (-1)])) := hQ_ rfl
 rw [HV.out]
 clear hr hl hk hW hbW HV
 have f0_X0 := cC7 X0.out
 by_cases hk : xk = 2
 ·rw [if_neg (fun h => h hk)]
  have d1 : (xk != 2) = false := by simpa using hk
  clear hk
  by_cases hl : (listM xi s.shown).length = 0
  ·rw [if_neg (fun h => h hl)]
   dsimp only
   go_enter Tryz.func116,Tryz.ntmps116
   go_wp2_with fail
   rw [HW.out]
   go_wp2_with fail
   refine (HLS.out _ _ _ A0.out.rep).mono ?_
   rintro e w1 ⟨ra,rm,rc,a,b,S1,D1,rfl,hsl,hr,st⟩
   have hz := hsl.1
   have C1 : Hid (Aft s (s.ranged a b) [] 0 1 ∧ (goW s []).2 = true) := hQ_ ⟨Aft.nil ((Sm.refl s).ranged a b) (Nat.le_of_eq (ranged_rd s a b)) (ranged_rg s a b),rfl⟩
   have A1 := hQ_ (A0.out.step HS.out hr st)
   have X1 := hQ_ (A0.out.blk HS.out X0.out (.inr rfl) st)
   have f1_X0 := cC7 X1.out
   clear st hr f0_X0
   have q1 : decide ((0 : Int) < (rm : Int)) = false := by simp; omega
   have q2 : decide (0 < rm) = false := by simp; omega
   clear hsl hz hl
   go_wp2_with fail
   refine (unhang_w HWK.out xd xn A1.out.rep (lim_aft C1.out.1 HL.out (by omega) (by omega)) (by omega) (by omega) (by omega)).mono ?_
   intro e w2 hh
   rcases Wrote.split hh with ⟨s2,S2,D2,rfl,ho,hr,st,ha⟩ | ⟨s2,S2,D2,rfl,ho,hr,st,ha⟩
   ·obtain ⟨x1,x2⟩ := C1.out.1.app C1.out.2 ha
    have C2 := hQ_ (And.intro x1 (x2.trans ho))
    clear x1 x2 ho ha
    have A2 := hQ_ (A1.out.step HS.out hr st)
    have X2 := hQ_ (A1.out.blk HS.out X1.out (.inr rfl) st)
    obtain ⟨f2_X0,f2_X1,f2_X2,f2_X3,f2_X4,f2_X5,f2_X6⟩ := cC7 X2.out
    clear st hr f1_X0
    go_wp2_with fail
    refine (drop_w HWK.out xi A2.out.rep (lim_aft C2.out.1 HL.out (by omega) (by omega)) (by omega) (by omega)).mono ?_
    intro e w3 hh
    rcases Wrote.split hh with ⟨s3,S3,D3,rfl,ho,hr,st,ha⟩ | ⟨s3,S3,D3,rfl,ho,hr,st,ha⟩
    ·obtain ⟨x1,x2⟩ := C2.out.1.app C2.out.2 ha
     have C3 := hQ_ (And.intro x1 (x2.trans ho))
     clear x1 x2 ho ha
     have A3 := hQ_ (A2.out.step HS.out hr st)
     have X3 := hQ_ (A2.out.blk HS.out X2.out (.inr rfl) st)
     obtain ⟨f3_X0,f3_X1,f3_X2,f3_X3,f3_X4,f3_X5,f3_X6⟩ := cC7 X3.out
     clear st hr f2_X0 f2_X1 f2_X2 f2_X3 f2_X4 f2_X5 f2_X6
     go_wp2_with fail
     refine (tie_calls HWK.out xd (-1) A3.out.rep (lim_aft C3.out.1 HL.out (by omega) (by omega)) (by have := C3.out.1.rd; omega) (by omega) (by omega) (by omega) (by omega)).mono ?_
     intro e w4 hh
     rcases Wrote.split hh with ⟨s4,S4,D4,rfl,ho,hr,st,ha⟩ | ⟨s4,S4,D4,rfl,ho,hr,st,ha⟩
     ·obtain ⟨x1,x2⟩ := C3.out.1.app C3.out.2 ha
      have C4 := hQ_ (And.intro x1 (x2.trans ho))
      clear x1 x2 ho ha
      have A4 := hQ_ (A3.out.step HS.out hr st)
      have X4 := hQ_ (A3.out.blk HS.out X3.out (.inr rfl) st)
      obtain ⟨f4_X0,f4_X1,f4_X2,f4_X3,f4_X4,f4_X5,f4_X6⟩ := cC7 X4.out
      clear st hr f3_X0 f3_X1 f3_X2 f3_X3 f3_X4 f3_X5 f3_X6
      go_wp2_with (go_at_call 104; refine (HRO.out _ _).mono ?_; rintro e w9 ⟨rfl,rfl⟩)
      go_ret
      exact Ans.ok A4.out ⟨C4.out.1.more (by omega) (by omega),C4.out.2⟩
     ·obtain ⟨x1,x2⟩ := C3.out.1.app C3.out.2 ha
      have C4 := hQ_ (And.intro x1 (x2.trans ho))
      clear x1 x2 ho ha
      have A4 := hQ_ (A3.out.step HS.out hr st)
      have X4 := hQ_ (A3.out.blk HS.out X3.out (.inr rfl) st)
      obtain ⟨f4_X0,f4_X1,f4_X2,f4_X3,f4_X4,f4_X5,f4_X6⟩ := cC7 X4.out
      clear st hr f3_X0 f3_X1 f3_X2 f3_X3 f3_X4 f3_X5 f3_X6
      go_wp2_with (go_at_call 104; refine (HRO.out _ _).mono ?_; rintro e w9 ⟨rfl,rfl⟩)
      go_ret
      exact Ans.full A4.out ⟨(Aft.stop (qs := []) C4.out.1 C4.out.2).1.more (by omega) (by omega),(Aft.stop (qs := []) C4.out.1 C4.out.2).2⟩
    ·obtain ⟨x1,x2⟩ := C2.out.1.app C2.out.2 ha
     have C3 := hQ_ (And.intro x1 (x2.trans ho))
     clear x1 x2 ho ha
     have A3 := hQ_ (A2.out.step HS.out hr st)
     have X3 := hQ_ (A2.out.blk HS.out X2.out (.inr rfl) st)
     obtain ⟨f3_X0,f3_X1,f3_X2,f3_X3,f3_X4,f3_X5,f3_X6⟩ := cC7 X3.out
     clear st hr f2_X0 f2_X1 f2_X2 f2_X3 f2_X4 f2_X5 f2_X6
     go_wp2_with (go_at_call 104; refine (HRO.out _ _).mono ?_; rintro e w9 ⟨rfl,rfl⟩)
     go_ret
     exact Ans.full A3.out ⟨(Aft.stop (qs := [tieP xd (-1)]) C3.out.1 C3.out.2).1.more (by omega) (by omega),(Aft.stop (qs := [tieP xd (-1)]) C3.out.1 C3.out.2).2⟩
   ·obtain ⟨x1,x2⟩ := C1.out.1.app C1.out.2 ha
    have C2 := hQ_ (And.intro x1 (x2.trans ho))
    clear x1 x2 ho ha
    have A2 := hQ_ (A1.out.step HS.out hr st)
    have X2 := hQ_ (A1.out.blk HS.out X1.out (.inr rfl) st)
    obtain ⟨f2_X0,f2_X1,f2_X2,f2_X3,f2_X4,f2_X5,f2_X6⟩ := cC7 X2.out
    clear st hr f1_X0
    go_wp2_with (go_at_call 104; refine (HRO.out _ _).mono ?_; rintro e w9 ⟨rfl,rfl⟩)
    go_ret
    exact Ans.full A2.out ⟨(Aft.stop (qs := [dropP xi,tieP xd (-1)]) C2.out.1 C2.out.2).1.more (by omega) (by omega),(Aft.stop (qs := [dropP xi,tieP xd (-1)]) C2.out.1 C2.out.2).2⟩
  ·rw [if_pos hl]
   dsimp only
   go_enter Tryz.func116,Tryz.ntmps116
   go_wp2_with fail
   rw [HW.out]
   go_wp2_with fail
   refine (HLS.out _ _ _ A0.out.rep).mono ?_
   rintro e w5 ⟨ra,rm,rc,a,b,S5,D5,rfl,hsl,hr,st⟩
   have hz := hsl.1
   have C5 : Hid (Aft s (s.ranged a b) [] 0 1 ∧ (goW s []).2 = true) := hQ_ ⟨Aft.nil ((Sm.refl s).ranged a b) (Nat.le_of_eq (ranged_rd s a b)) (ranged_rg s a b),rfl⟩
   have A5 := hQ_ (A0.out.step HS.out hr st)
   have X5 := hQ_ (A0.out.blk HS.out X0.out (.inr rfl) st)
   have f5_X0 := cC7 X5.out
   clear st hr f0_X0
   have q1 : decide ((0 : Int) < (rm : Int)) = true := by simp; omega
   have q2 : decide (0 < rm) = true := by simp; omega
   clear hsl hz hl
   go_wp2_with fail
   go_ret
   exact Ans.ok A5.out ⟨C5.out.1.more (by omega) (by omega),C5.out.2⟩
 ·rw [if_pos hk]
  have d1 : (xk != 2) = true := by simpa using hk
  clear hk
  dsimp only
  go_enter Tryz.func116,Tryz.ntmps116
  go_wp2_with fail
  rw [HW.out]
  go_wp2_with fail
  go_ret
  exact Ans.ok A0.out ⟨C0.out.1.more (by omega) (by omega),C0.out.2⟩
theorem move_far (hW0 : Wk Rep) (xd xi xk xl xz xp : Int) (xn : ByteArray) (yd yi yk yl yz yp : Int) (yn : ByteArray) (hr : Rep w v s S D) (hl : Lim s) (h2 : s.rd.length ≤ 19900) (h3 : s.rg.length ≤ 990) (hd0 : 0 ≤ xd) (hd1 : xd ≤ 4294967295) (hi0 : 0 ≤ xi) (hi1 : xi ≤ 4294967295) (hn0 : xn.size ≤ 100000) (jd0 : 0 ≤ yd) (jd1 : yd ≤ 4294967295) (ji0 : 0 ≤ yi) (ji1 : yi ≤ 4294967295) (jn0 : yn.size ≤ 100000) (hk : xk = 2) (hne : xd ≠ yd) :
 Calls Tryz.prog 114 #[v,.agg #[.int .u32 xd,.string xn,.int .u32 xi,.int .u8 xk,.int .u32 xl,.int .u32 xz,.int .u32 xp],.agg #[.int .u32 yd,.string yn,.int .u32 yi,.int .u8 yk,.int .u32 yl,.int .u32 yz,.int .u32 yp]] w (Wrote Rep v s [unhangP xd xn,hangP yd yn xi,adoptP yd xi,tieP xd (-1),tieP yd 1] 3 0 S D w) := by
 obtain ⟨W,hW⟩ : ∃ W,(w.alloc (.cells #[.int .u32 xd,.string xn,.int .u32 xi,.int .u8 xk,.int .u32 xl,.int .u32 xz,.int .u32 xp] 150)).alloc (.cells #[.int .u32 yd,.string yn,.int .u32 yi,.int .u8 yk,.int .u32 yl,.int .u32 yz,.int .u32 yp] 150) = W := ⟨_,rfl⟩
 have hb1 := bN_ w (.cells #[.int .u32 xd,.string xn,.int .u32 xi,.int .u8 xk,.int .u32 xl,.int .u32 xz,.int .u32 xp] 150)
 have A0 : Hid (At Rep w S D (fun b => (False ∨ b = w.heap.size) ∨ b = w.heap.size + 1) W v s S D) := hQ_ (by
  rw [← hW]
  exact ((At.start hr).own hW0.stays hb1 (Nat.le_refl w.heap.size) (by simp)).own hW0.stays (bW_) (by simp) (by simp))
 have X0 := hQ_ (show Blk W w.heap.size #[.int .u32 xd,.string xn,.int .u32 xi,.int .u8 xk,.int .u32 xl,.int .u32 xz,.int .u32 xp] 150 from hW ▸ (Blk.new_ w _ _).alloc _)
 have Y0 : Hid (Blk W (w.heap.size + 1) #[.int .u32 yd,.string yn,.int .u32 yi,.int .u8 yk,.int .u32 yl,.int .u32 yz,.int .u32 yp] 150) := hQ_ (by
  rw [← hW]
  have := Blk.new_ (w.alloc (.cells #[.int .u32 xd,.string xn,.int .u32 xi,.int .u8 xk,.int .u32 xl,.int .u32 xz,.int .u32 xp] 150)) #[.int .u32 yd,.string yn,.int .u32 yi,.int .u8 yk,.int .u32 yl,.int .u32 yz,.int .u32 yp] 150
  simpa using this)
 have HW := hQ_ hW
 have HS := hQ_ hW0.stays
 have HWK := hQ_ hW0
 have HL := hQ_ hl
 have C0 := hQ_ (aft0 s)
 have f0_X0 := cC7 X0.out
 have f0_Y0 := cC7 Y0.out
 have e1 : (xk != 2) = false := by simpa using hk
 have e2 : (xd == yd) = false := by simpa using hne
 clear hk hne hr hl hW hb1
 go_enter Tryz.func114,Tryz.ntmps114
 go_wp2_with fail
 rw [HW.out]
 go_wp2_with fail
 refine (unhang_w HWK.out xd xn A0.out.rep (lim_aft C0.out.1 HL.out (by omega) (by omega)) (by omega) (by omega) (by omega)).mono ?_
 intro e w1 hh
 rcases Wrote.split hh with ⟨s1,S1,D1,rfl,ho,hr,st,ha⟩ | ⟨s1,S1,D1,rfl,ho,hr,st,ha⟩
 ·obtain ⟨x1,x2⟩ := C0.out.1.app C0.out.2 ha
  have C1 := hQ_ (And.intro x1 (x2.trans ho))
  clear x1 x2 ho ha
  have A1 := hQ_ (A0.out.step HS.out hr st)
  have X1 := hQ_ (A0.out.blk HS.out X0.out (.inl (.inr rfl)) st)
  have Y1 := hQ_ (A0.out.blk HS.out Y0.out (.inr rfl) st)
  obtain ⟨f1_X0,f1_X1,f1_X2,f1_X3,f1_X4,f1_X5,f1_X6⟩ := cC7 X1.out
  obtain ⟨f1_Y0,f1_Y1,f1_Y2,f1_Y3,f1_Y4,f1_Y5,f1_Y6⟩ := cC7 Y1.out
  clear st hr f0_X0 f0_Y0
  go_wp2_with fail
  refine (hang_w HWK.out yd yn xi A1.out.rep (lim_aft C1.out.1 HL.out (by omega) (by omega)) (by omega) (by omega) (by omega) (by omega) (by omega)).mono ?_
  intro e w2 hh
  rcases Wrote.split hh with ⟨s2,S2,D2,rfl,ho,hr,st,ha⟩ | ⟨s2,S2,D2,rfl,ho,hr,st,ha⟩
  ·obtain ⟨x1,x2⟩ := C1.out.1.app C1.out.2 ha
   have C2 := hQ_ (And.intro x1 (x2.trans ho))
   clear x1 x2 ho ha
   have A2 := hQ_ (A1.out.step HS.out hr st)
   have X2 := hQ_ (A1.out.blk HS.out X1.out (.inl (.inr rfl)) st)
   have Y2 := hQ_ (A1.out.blk HS.out Y1.out (.inr rfl) st)
   obtain ⟨f2_X0,f2_X1,f2_X2,f2_X3,f2_X4,f2_X5,f2_X6⟩ := cC7 X2.out
   obtain ⟨f2_Y0,f2_Y1,f2_Y2,f2_Y3,f2_Y4,f2_Y5,f2_Y6⟩ := cC7 Y2.out
   clear st hr f1_X0 f1_X1 f1_X2 f1_X3 f1_X4 f1_X5 f1_X6 f1_Y0 f1_Y1 f1_Y2 f1_Y3 f1_Y4 f1_Y5 f1_Y6
   go_wp2_with fail
   refine (adopt_calls HWK.out yd xi A2.out.rep (lim_aft C2.out.1 HL.out (by omega) (by omega)) (by have := C2.out.1.rd; omega) (by omega) (by omega) (by omega) (by omega)).mono ?_
   intro e w3 hh
   rcases Wrote.split hh with ⟨s3,S3,D3,rfl,ho,hr,st,ha⟩ | ⟨s3,S3,D3,rfl,ho,hr,st,ha⟩
   ·obtain ⟨x1,x2⟩ := C2.out.1.app C2.out.2 ha
    have C3 := hQ_ (And.intro x1 (x2.trans ho))
    clear x1 x2 ho ha
    have A3 := hQ_ (A2.out.step HS.out hr st)
    have X3 := hQ_ (A2.out.blk HS.out X2.out (.inl (.inr rfl)) st)
    have Y3 := hQ_ (A2.out.blk HS.out Y2.out (.inr rfl) st)
    obtain ⟨f3_X0,f3_X1,f3_X2,f3_X3,f3_X4,f3_X5,f3_X6⟩ := cC7 X3.out
    obtain ⟨f3_Y0,f3_Y1,f3_Y2,f3_Y3,f3_Y4,f3_Y5,f3_Y6⟩ := cC7 Y3.out
    clear st hr f2_X0 f2_X1 f2_X2 f2_X3 f2_X4 f2_X5 f2_X6 f2_Y0 f2_Y1 f2_Y2 f2_Y3 f2_Y4 f2_Y5 f2_Y6
    go_wp2_with fail
    refine (tie_calls HWK.out xd (-1) A3.out.rep (lim_aft C3.out.1 HL.out (by omega) (by omega)) (by have := C3.out.1.rd; omega) (by omega) (by omega) (by omega) (by omega)).mono ?_
    intro e w4 hh
    rcases Wrote.split hh with ⟨s4,S4,D4,rfl,ho,hr,st,ha⟩ | ⟨s4,S4,D4,rfl,ho,hr,st,ha⟩
    ·obtain ⟨x1,x2⟩ := C3.out.1.app C3.out.2 ha
     have C4 := hQ_ (And.intro x1 (x2.trans ho))
     clear x1 x2 ho ha
     have A4 := hQ_ (A3.out.step HS.out hr st)
     have X4 := hQ_ (A3.out.blk HS.out X3.out (.inl (.inr rfl)) st)
     have Y4 := hQ_ (A3.out.blk HS.out Y3.out (.inr rfl) st)
     obtain ⟨f4_X0,f4_X1,f4_X2,f4_X3,f4_X4,f4_X5,f4_X6⟩ := cC7 X4.out
     obtain ⟨f4_Y0,f4_Y1,f4_Y2,f4_Y3,f4_Y4,f4_Y5,f4_Y6⟩ := cC7 Y4.out
     clear st hr f3_X0 f3_X1 f3_X2 f3_X3 f3_X4 f3_X5 f3_X6 f3_Y0 f3_Y1 f3_Y2 f3_Y3 f3_Y4 f3_Y5 f3_Y6
     go_wp2_with fail
     refine (tie_calls HWK.out yd (1) A4.out.rep (lim_aft C4.out.1 HL.out (by omega) (by omega)) (by have := C4.out.1.rd; omega) (by omega) (by omega) (by omega) (by omega)).mono ?_
     intro e w5 hh
     rcases Wrote.split hh with ⟨s5,S5,D5,rfl,ho,hr,st,ha⟩ | ⟨s5,S5,D5,rfl,ho,hr,st,ha⟩
     ·obtain ⟨x1,x2⟩ := C4.out.1.app C4.out.2 ha
      have C5 := hQ_ (And.intro x1 (x2.trans ho))
      clear x1 x2 ho ha
      have A5 := hQ_ (A4.out.step HS.out hr st)
      have X5 := hQ_ (A4.out.blk HS.out X4.out (.inl (.inr rfl)) st)
      have Y5 := hQ_ (A4.out.blk HS.out Y4.out (.inr rfl) st)
      obtain ⟨f5_X0,f5_X1,f5_X2,f5_X3,f5_X4,f5_X5,f5_X6⟩ := cC7 X5.out
      obtain ⟨f5_Y0,f5_Y1,f5_Y2,f5_Y3,f5_Y4,f5_Y5,f5_Y6⟩ := cC7 Y5.out
      clear st hr f4_X0 f4_X1 f4_X2 f4_X3 f4_X4 f4_X5 f4_X6 f4_Y0 f4_Y1 f4_Y2 f4_Y3 f4_Y4 f4_Y5 f4_Y6
      go_wp2_with fail
      go_ret
      exact Wrote.of_ok A5.out ⟨C5.out.1.more (by omega) (by omega),C5.out.2⟩
     ·obtain ⟨x1,x2⟩ := C4.out.1.app C4.out.2 ha
      have C5 := hQ_ (And.intro x1 (x2.trans ho))
      clear x1 x2 ho ha
      have A5 := hQ_ (A4.out.step HS.out hr st)
      have X5 := hQ_ (A4.out.blk HS.out X4.out (.inl (.inr rfl)) st)
      have Y5 := hQ_ (A4.out.blk HS.out Y4.out (.inr rfl) st)
      obtain ⟨f5_X0,f5_X1,f5_X2,f5_X3,f5_X4,f5_X5,f5_X6⟩ := cC7 X5.out
      obtain ⟨f5_Y0,f5_Y1,f5_Y2,f5_Y3,f5_Y4,f5_Y5,f5_Y6⟩ := cC7 Y5.out
      clear st hr f4_X0 f4_X1 f4_X2 f4_X3 f4_X4 f4_X5 f4_X6 f4_Y0 f4_Y1 f4_Y2 f4_Y3 f4_Y4 f4_Y5 f4_Y6
      go_wp2_with fail
      go_ret
      exact Wrote.of_bad A5.out ⟨(Aft.stop (qs := []) C5.out.1 C5.out.2).1.more (by omega) (by omega),(Aft.stop (qs := []) C5.out.1 C5.out.2).2⟩
    ·obtain ⟨x1,x2⟩ := C3.out.1.app C3.out.2 ha
     have C4 := hQ_ (And.intro x1 (x2.trans ho))
     clear x1 x2 ho ha
     have A4 := hQ_ (A3.out.step HS.out hr st)
     have X4 := hQ_ (A3.out.blk HS.out X3.out (.inl (.inr rfl)) st)
     have Y4 := hQ_ (A3.out.blk HS.out Y3.out (.inr rfl) st)
     obtain ⟨f4_X0,f4_X1,f4_X2,f4_X3,f4_X4,f4_X5,f4_X6⟩ := cC7 X4.out
     obtain ⟨f4_Y0,f4_Y1,f4_Y2,f4_Y3,f4_Y4,f4_Y5,f4_Y6⟩ := cC7 Y4.out
     clear st hr f3_X0 f3_X1 f3_X2 f3_X3 f3_X4 f3_X5 f3_X6 f3_Y0 f3_Y1 f3_Y2 f3_Y3 f3_Y4 f3_Y5 f3_Y6
     go_wp2_with fail
     go_ret
     exact Wrote.of_bad A4.out ⟨(Aft.stop (qs := [tieP yd (1)]) C4.out.1 C4.out.2).1.more (by omega) (by omega),(Aft.stop (qs := [tieP yd (1)]) C4.out.1 C4.out.2).2⟩
   ·obtain ⟨x1,x2⟩ := C2.out.1.app C2.out.2 ha
    have C3 := hQ_ (And.intro x1 (x2.trans ho))
    clear x1 x2 ho ha
    have A3 := hQ_ (A2.out.step HS.out hr st)
    have X3 := hQ_ (A2.out.blk HS.out X2.out (.inl (.inr rfl)) st)
    have Y3 := hQ_ (A2.out.blk HS.out Y2.out (.inr rfl) st)
    obtain ⟨f3_X0,f3_X1,f3_X2,f3_X3,f3_X4,f3_X5,f3_X6⟩ := cC7 X3.out
    obtain ⟨f3_Y0,f3_Y1,f3_Y2,f3_Y3,f3_Y4,f3_Y5,f3_Y6⟩ := cC7 Y3.out
    clear st hr f2_X0 f2_X1 f2_X2 f2_X3 f2_X4 f2_X5 f2_X6 f2_Y0 f2_Y1 f2_Y2 f2_Y3 f2_Y4 f2_Y5 f2_Y6
    go_wp2_with fail
    go_ret
    exact Wrote.of_bad A3.out ⟨(Aft.stop (qs := [tieP xd (-1),tieP yd (1)]) C3.out.1 C3.out.2).1.more (by omega) (by omega),(Aft.stop (qs := [tieP xd (-1),tieP yd (1)]) C3.out.1 C3.out.2).2⟩
  ·obtain ⟨x1,x2⟩ := C1.out.1.app C1.out.2 ha
   have C2 := hQ_ (And.intro x1 (x2.trans ho))
   clear x1 x2 ho ha
   have A2 := hQ_ (A1.out.step HS.out hr st)
   have X2 := hQ_ (A1.out.blk HS.out X1.out (.inl (.inr rfl)) st)
   have Y2 := hQ_ (A1.out.blk HS.out Y1.out (.inr rfl) st)
   obtain ⟨f2_X0,f2_X1,f2_X2,f2_X3,f2_X4,f2_X5,f2_X6⟩ := cC7 X2.out
   obtain ⟨f2_Y0,f2_Y1,f2_Y2,f2_Y3,f2_Y4,f2_Y5,f2_Y6⟩ := cC7 Y2.out
   clear st hr f1_X0 f1_X1 f1_X2 f1_X3 f1_X4 f1_X5 f1_X6 f1_Y0 f1_Y1 f1_Y2 f1_Y3 f1_Y4 f1_Y5 f1_Y6
   go_wp2_with fail
   go_ret
   exact Wrote.of_bad A2.out ⟨(Aft.stop (qs := [adoptP yd xi,tieP xd (-1),tieP yd (1)]) C2.out.1 C2.out.2).1.more (by omega) (by omega),(Aft.stop (qs := [adoptP yd xi,tieP xd (-1),tieP yd (1)]) C2.out.1 C2.out.2).2⟩
 ·obtain ⟨x1,x2⟩ := C0.out.1.app C0.out.2 ha
  have C1 := hQ_ (And.intro x1 (x2.trans ho))
  clear x1 x2 ho ha
  have A1 := hQ_ (A0.out.step HS.out hr st)
  have X1 := hQ_ (A0.out.blk HS.out X0.out (.inl (.inr rfl)) st)
  have Y1 := hQ_ (A0.out.blk HS.out Y0.out (.inr rfl) st)
  obtain ⟨f1_X0,f1_X1,f1_X2,f1_X3,f1_X4,f1_X5,f1_X6⟩ := cC7 X1.out
  obtain ⟨f1_Y0,f1_Y1,f1_Y2,f1_Y3,f1_Y4,f1_Y5,f1_Y6⟩ := cC7 Y1.out
  clear st hr f0_X0 f0_Y0
  go_wp2_with fail
  go_ret
  exact Wrote.of_bad A1.out ⟨(Aft.stop (qs := [hangP yd yn xi,adoptP yd xi,tieP xd (-1),tieP yd (1)]) C1.out.1 C1.out.2).1.more (by omega) (by omega),(Aft.stop (qs := [hangP yd yn xi,adoptP yd xi,tieP xd (-1),tieP yd (1)]) C1.out.1 C1.out.2).2⟩
theorem move_near (hW0 : Wk Rep) (xd xi xk xl xz xp : Int) (xn : ByteArray) (yd yi yk yl yz yp : Int) (yn : ByteArray) (hr : Rep w v s S D) (hl : Lim s) (h2 : s.rd.length ≤ 19900) (h3 : s.rg.length ≤ 990) (hd0 : 0 ≤ xd) (hd1 : xd ≤ 4294967295) (hi0 : 0 ≤ xi) (hi1 : xi ≤ 4294967295) (hn0 : xn.size ≤ 100000) (jd0 : 0 ≤ yd) (jd1 : yd ≤ 4294967295) (ji0 : 0 ≤ yi) (ji1 : yi ≤ 4294967295) (jn0 : yn.size ≤ 100000) (hk : xk = 2 → xd = yd) :
 Calls Tryz.prog 114 #[v,.agg #[.int .u32 xd,.string xn,.int .u32 xi,.int .u8 xk,.int .u32 xl,.int .u32 xz,.int .u32 xp],.agg #[.int .u32 yd,.string yn,.int .u32 yi,.int .u8 yk,.int .u32 yl,.int .u32 yz,.int .u32 yp]] w (Wrote Rep v s [unhangP xd xn,hangP yd yn xi] 3 0 S D w) := by
 obtain ⟨W,hW⟩ : ∃ W,(w.alloc (.cells #[.int .u32 xd,.string xn,.int .u32 xi,.int .u8 xk,.int .u32 xl,.int .u32 xz,.int .u32 xp] 150)).alloc (.cells #[.int .u32 yd,.string yn,.int .u32 yi,.int .u8 yk,.int .u32 yl,.int .u32 yz,.int .u32 yp] 150) = W := ⟨_,rfl⟩
 have hb1 := bN_ w (.cells #[.int .u32 xd,.string xn,.int .u32 xi,.int .u8 xk,.int .u32 xl,.int .u32 xz,.int .u32 xp] 150)
 have A0 : Hid (At Rep w S D (fun b => (False ∨ b = w.heap.size) ∨ b = w.heap.size + 1) W v s S D) := hQ_ (by
  rw [← hW]
  exact ((At.start hr).own hW0.stays hb1 (Nat.le_refl w.heap.size) (by simp)).own hW0.stays (bW_) (by simp) (by simp))
 have X0 := hQ_ (show Blk W w.heap.size #[.int .u32 xd,.string xn,.int .u32 xi,.int .u8 xk,.int .u32 xl,.int .u32 xz,.int .u32 xp] 150 from hW ▸ (Blk.new_ w _ _).alloc _)
 have Y0 : Hid (Blk W (w.heap.size + 1) #[.int .u32 yd,.string yn,.int .u32 yi,.int .u8 yk,.int .u32 yl,.int .u32 yz,.int .u32 yp] 150) := hQ_ (by
  rw [← hW]
  have := Blk.new_ (w.alloc (.cells #[.int .u32 xd,.string xn,.int .u32 xi,.int .u8 xk,.int .u32 xl,.int .u32 xz,.int .u32 xp] 150)) #[.int .u32 yd,.string yn,.int .u32 yi,.int .u8 yk,.int .u32 yl,.int .u32 yz,.int .u32 yp] 150
  simpa using this)
 have HW := hQ_ hW
 have HS := hQ_ hW0.stays
 have HWK := hQ_ hW0
 have HL := hQ_ hl
 have C0 := hQ_ (aft0 s)
 have f0_X0 := cC7 X0.out
 have f0_Y0 := cC7 Y0.out
 clear hr hl hW hb1
 by_cases hk2 : xk = 2
 ·have e1 : (xk != 2) = false := by simpa using hk2
  have e2 : (xd == yd) = true := by simpa using hk hk2
  clear hk hk2
  go_enter Tryz.func114,Tryz.ntmps114
  go_wp2_with fail
  rw [HW.out]
  go_wp2_with fail
  refine (unhang_w HWK.out xd xn A0.out.rep (lim_aft C0.out.1 HL.out (by omega) (by omega)) (by omega) (by omega) (by omega)).mono ?_
  intro e w1 hh
  rcases Wrote.split hh with ⟨s1,S1,D1,rfl,ho,hr,st,ha⟩ | ⟨s1,S1,D1,rfl,ho,hr,st,ha⟩
  ·obtain ⟨x1,x2⟩ := C0.out.1.app C0.out.2 ha
   have C1 := hQ_ (And.intro x1 (x2.trans ho))
   clear x1 x2 ho ha
   have A1 := hQ_ (A0.out.step HS.out hr st)
   have X1 := hQ_ (A0.out.blk HS.out X0.out (.inl (.inr rfl)) st)
   have Y1 := hQ_ (A0.out.blk HS.out Y0.out (.inr rfl) st)
   obtain ⟨f1_X0,f1_X1,f1_X2,f1_X3,f1_X4,f1_X5,f1_X6⟩ := cC7 X1.out
   obtain ⟨f1_Y0,f1_Y1,f1_Y2,f1_Y3,f1_Y4,f1_Y5,f1_Y6⟩ := cC7 Y1.out
   clear st hr f0_X0 f0_Y0
   go_wp2_with fail
   refine (hang_w HWK.out yd yn xi A1.out.rep (lim_aft C1.out.1 HL.out (by omega) (by omega)) (by omega) (by omega) (by omega) (by omega) (by omega)).mono ?_
   intro e w2 hh
   rcases Wrote.split hh with ⟨s2,S2,D2,rfl,ho,hr,st,ha⟩ | ⟨s2,S2,D2,rfl,ho,hr,st,ha⟩
   ·obtain ⟨x1,x2⟩ := C1.out.1.app C1.out.2 ha
    have C2 := hQ_ (And.intro x1 (x2.trans ho))
    clear x1 x2 ho ha
    have A2 := hQ_ (A1.out.step HS.out hr st)
    have X2 := hQ_ (A1.out.blk HS.out X1.out (.inl (.inr rfl)) st)
    have Y2 := hQ_ (A1.out.blk HS.out Y1.out (.inr rfl) st)
    obtain ⟨f2_X0,f2_X1,f2_X2,f2_X3,f2_X4,f2_X5,f2_X6⟩ := cC7 X2.out
    obtain ⟨f2_Y0,f2_Y1,f2_Y2,f2_Y3,f2_Y4,f2_Y5,f2_Y6⟩ := cC7 Y2.out
    clear st hr f1_X0 f1_X1 f1_X2 f1_X3 f1_X4 f1_X5 f1_X6 f1_Y0 f1_Y1 f1_Y2 f1_Y3 f1_Y4 f1_Y5 f1_Y6
    go_wp2_with fail
    go_ret
    exact Wrote.of_ok A2.out ⟨C2.out.1.more (by omega) (by omega),C2.out.2⟩
   ·obtain ⟨x1,x2⟩ := C1.out.1.app C1.out.2 ha
    have C2 := hQ_ (And.intro x1 (x2.trans ho))
    clear x1 x2 ho ha
    have A2 := hQ_ (A1.out.step HS.out hr st)
    have X2 := hQ_ (A1.out.blk HS.out X1.out (.inl (.inr rfl)) st)
    have Y2 := hQ_ (A1.out.blk HS.out Y1.out (.inr rfl) st)
    obtain ⟨f2_X0,f2_X1,f2_X2,f2_X3,f2_X4,f2_X5,f2_X6⟩ := cC7 X2.out
    obtain ⟨f2_Y0,f2_Y1,f2_Y2,f2_Y3,f2_Y4,f2_Y5,f2_Y6⟩ := cC7 Y2.out
    clear st hr f1_X0 f1_X1 f1_X2 f1_X3 f1_X4 f1_X5 f1_X6 f1_Y0 f1_Y1 f1_Y2 f1_Y3 f1_Y4 f1_Y5 f1_Y6
    go_wp2_with fail
    go_ret
    exact Wrote.of_bad A2.out ⟨(Aft.stop (qs := []) C2.out.1 C2.out.2).1.more (by omega) (by omega),(Aft.stop (qs := []) C2.out.1 C2.out.2).2⟩
  ·obtain ⟨x1,x2⟩ := C0.out.1.app C0.out.2 ha
   have C1 := hQ_ (And.intro x1 (x2.trans ho))
   clear x1 x2 ho ha
   have A1 := hQ_ (A0.out.step HS.out hr st)
   have X1 := hQ_ (A0.out.blk HS.out X0.out (.inl (.inr rfl)) st)
   have Y1 := hQ_ (A0.out.blk HS.out Y0.out (.inr rfl) st)
   obtain ⟨f1_X0,f1_X1,f1_X2,f1_X3,f1_X4,f1_X5,f1_X6⟩ := cC7 X1.out
   obtain ⟨f1_Y0,f1_Y1,f1_Y2,f1_Y3,f1_Y4,f1_Y5,f1_Y6⟩ := cC7 Y1.out
   clear st hr f0_X0 f0_Y0
   go_wp2_with fail
   go_ret
   exact Wrote.of_bad A1.out ⟨(Aft.stop (qs := [hangP yd yn xi]) C1.out.1 C1.out.2).1.more (by omega) (by omega),(Aft.stop (qs := [hangP yd yn xi]) C1.out.1 C1.out.2).2⟩
 ·have e1 : (xk != 2) = true := by simpa using hk2
  clear hk hk2
  go_enter Tryz.func114,Tryz.ntmps114
  go_wp2_with fail
  rw [HW.out]
  go_wp2_with fail
  refine (unhang_w HWK.out xd xn A0.out.rep (lim_aft C0.out.1 HL.out (by omega) (by omega)) (by omega) (by omega) (by omega)).mono ?_
  intro e w3 hh
  rcases Wrote.split hh with ⟨s3,S3,D3,rfl,ho,hr,st,ha⟩ | ⟨s3,S3,D3,rfl,ho,hr,st,ha⟩
  ·obtain ⟨x1,x2⟩ := C0.out.1.app C0.out.2 ha
   have C3 := hQ_ (And.intro x1 (x2.trans ho))
   clear x1 x2 ho ha
   have A3 := hQ_ (A0.out.step HS.out hr st)
   have X3 := hQ_ (A0.out.blk HS.out X0.out (.inl (.inr rfl)) st)
   have Y3 := hQ_ (A0.out.blk HS.out Y0.out (.inr rfl) st)
   obtain ⟨f3_X0,f3_X1,f3_X2,f3_X3,f3_X4,f3_X5,f3_X6⟩ := cC7 X3.out
   obtain ⟨f3_Y0,f3_Y1,f3_Y2,f3_Y3,f3_Y4,f3_Y5,f3_Y6⟩ := cC7 Y3.out
   clear st hr f0_X0 f0_Y0
   go_wp2_with fail
   refine (hang_w HWK.out yd yn xi A3.out.rep (lim_aft C3.out.1 HL.out (by omega) (by omega)) (by omega) (by omega) (by omega) (by omega) (by omega)).mono ?_
   intro e w4 hh
   rcases Wrote.split hh with ⟨s4,S4,D4,rfl,ho,hr,st,ha⟩ | ⟨s4,S4,D4,rfl,ho,hr,st,ha⟩
   ·obtain ⟨x1,x2⟩ := C3.out.1.app C3.out.2 ha
    have C4 := hQ_ (And.intro x1 (x2.trans ho))
    clear x1 x2 ho ha
    have A4 := hQ_ (A3.out.step HS.out hr st)
    have X4 := hQ_ (A3.out.blk HS.out X3.out (.inl (.inr rfl)) st)
    have Y4 := hQ_ (A3.out.blk HS.out Y3.out (.inr rfl) st)
    obtain ⟨f4_X0,f4_X1,f4_X2,f4_X3,f4_X4,f4_X5,f4_X6⟩ := cC7 X4.out
    obtain ⟨f4_Y0,f4_Y1,f4_Y2,f4_Y3,f4_Y4,f4_Y5,f4_Y6⟩ := cC7 Y4.out
    clear st hr f3_X0 f3_X1 f3_X2 f3_X3 f3_X4 f3_X5 f3_X6 f3_Y0 f3_Y1 f3_Y2 f3_Y3 f3_Y4 f3_Y5 f3_Y6
    go_wp2_with fail
    go_ret
    exact Wrote.of_ok A4.out ⟨C4.out.1.more (by omega) (by omega),C4.out.2⟩
   ·obtain ⟨x1,x2⟩ := C3.out.1.app C3.out.2 ha
    have C4 := hQ_ (And.intro x1 (x2.trans ho))
    clear x1 x2 ho ha
    have A4 := hQ_ (A3.out.step HS.out hr st)
    have X4 := hQ_ (A3.out.blk HS.out X3.out (.inl (.inr rfl)) st)
    have Y4 := hQ_ (A3.out.blk HS.out Y3.out (.inr rfl) st)
    obtain ⟨f4_X0,f4_X1,f4_X2,f4_X3,f4_X4,f4_X5,f4_X6⟩ := cC7 X4.out
    obtain ⟨f4_Y0,f4_Y1,f4_Y2,f4_Y3,f4_Y4,f4_Y5,f4_Y6⟩ := cC7 Y4.out
    clear st hr f3_X0 f3_X1 f3_X2 f3_X3 f3_X4 f3_X5 f3_X6 f3_Y0 f3_Y1 f3_Y2 f3_Y3 f3_Y4 f3_Y5 f3_Y6
    go_wp2_with fail
    go_ret
    exact Wrote.of_bad A4.out ⟨(Aft.stop (qs := []) C4.out.1 C4.out.2).1.more (by omega) (by omega),(Aft.stop (qs := []) C4.out.1 C4.out.2).2⟩
  ·obtain ⟨x1,x2⟩ := C0.out.1.app C0.out.2 ha
   have C3 := hQ_ (And.intro x1 (x2.trans ho))
   clear x1 x2 ho ha
   have A3 := hQ_ (A0.out.step HS.out hr st)
   have X3 := hQ_ (A0.out.blk HS.out X0.out (.inl (.inr rfl)) st)
   have Y3 := hQ_ (A0.out.blk HS.out Y0.out (.inr rfl) st)
   obtain ⟨f3_X0,f3_X1,f3_X2,f3_X3,f3_X4,f3_X5,f3_X6⟩ := cC7 X3.out
   obtain ⟨f3_Y0,f3_Y1,f3_Y2,f3_Y3,f3_Y4,f3_Y5,f3_Y6⟩ := cC7 Y3.out
   clear st hr f0_X0 f0_Y0
   go_wp2_with fail
   go_ret
   exact Wrote.of_bad A3.out ⟨(Aft.stop (qs := [hangP yd yn xi]) C3.out.1 C3.out.2).1.more (by omega) (by omega),(Aft.stop (qs := [hangP yd yn xi]) C3.out.1 C3.out.2).2⟩
end Go.Proofs.YtogdjbhjgbnicaaGreatDoor.DirsKb
namespace Go.Proofs.YtogdjbhjgbnicaaGreatDoor.DirsKc
open Go.RowKit
open Byte KeysM TreeM ViewM ViewKm NodeM NodeG NamesM NamesL WalkM WalkF WalkKm DirsV Lst Chg TreeL ViewL WalkL WalkV Vat WalkKa WalkKb DirsK DirsKa DirsKb
open Own hiding keeps
variable {Rep : RepT} {w : World} {v : Value} {s : Vs} {S D : Nat → Prop}
def Mxs (w : World) (S : Nat → Prop) : Prop := Mx w ∧ ¬ S 0
theorem Mxs.lt {w : World} {S : Nat → Prop} (h : Mxs w S) : 0 < w.heap.size := by
 obtain ⟨⟨m,hm⟩,_⟩ := h
 exact World.block_lt_of_cell? w ⟨0,0,none⟩ hm
theorem Mxs.step {w w' : World} {S D S' D' : Nat → Prop} (h : Mxs w S) (st : Stp S D S' D' w w') : Mxs w' S' := by
 refine ⟨?_,fun hs => ?_⟩
 ·obtain ⟨m,hm⟩ := h.1
  exact ⟨m,st.chg.cell hm h.2⟩
 ·rcases st.own _ hs with h1 | h1
  ·exact h.2 h1
  ·have := h.lt
   omega
theorem Mxs.below {w w' : World} {S : Nat → Prop} (h : Mxs w S) (hb : Below w.heap.size w w') : Mxs w' S := ⟨h.1.below hb,h.2⟩
theorem Mxs.at_ {w0 w : World} {S0 D0 M S D : Nat → Prop} {v : Value} {s : Vs} (h : Mxs w0 S0) (A : At Rep w0 S0 D0 M w v s S D) : Mxs w S := h.step A.st
theorem results_tct {P : Program} {fn : Func} {u p q : Tmp} {ty : TypeId} (h : fn.results = #[.tmp u,.cell p ty,.tmp q]) (tmps : Array Value) (w : World) (g : Nat) (t : TypeId) (cs : Array Value) (fr : Nat × Nat) (d : TypeDesc)
 (hp : tmps.getD p undef = .pointer (some ⟨g,0,none⟩)) (v : Value) (hv : tmps.getD u undef = v) (x : Value) (hx : tmps.getD q undef = x) (hg : w.heap[g]? = some (.cells cs t fr)) (hu : P.underlying ty = some d) (hd : (match d with | .struct _ | .array _ _ => true | _ => false) = true) (hi : (P.info? ty).map (·.size) = some cs.size) :
 (results fn tmps).run P w = .ok (.tuple #[v,.agg cs,x]) w := by
 subst hv
 subst hx
 have hp' : tmps[p]?.getD undef = .pointer (some ⟨g,0,none⟩) := by simpa using hp
 simp [results,h,hp',asAddr,run_loadVar_row w g t ty cs fr d hg hu hd hi]
def leadM (L : List Pr) (path : ByteArray) : Int × Ino × Int := if (findM L path).2 ≠ 0 then (0,ino0,(findM L path).2) else if (findM L path).1.ino = 0 then (0,ino0,10) else ((findM L path).1.ino,(findM L path).1.node,0)
def LeadR (Rep : RepT) (v : Value) (s : Vs) (path : ByteArray) (S D : Nat → Prop) (w : World) (r : Int × Ino × Int) (e : Ending) (w' : World) : Prop := ∃ s' S' D',e = .returned (.tuple #[.int .u32 r.1,.agg #[.int .u8 r.2.1.k,.int .u32 r.2.1.l,.int .u32 r.2.1.s,.int .u32 r.2.1.p],.int .i64 r.2.2]) ∧ Rep w' v s' S' D' ∧ Stp S D S' D' w w' ∧ FindR s path s'
theorem set4 {v1 : World} {g : Nat} {z0 z1 z2 z3 : Value} {U : TypeId} (K : Blk v1 g #[z0,z1,z2,z3] U) (a b c d : Value) : Blk ((((v1.setCell ⟨g,0,none⟩ a).setCell ⟨g,1,none⟩ b).setCell ⟨g,2,none⟩ c).setCell ⟨g,3,none⟩ d) g #[a,b,c,d] U := by
 have h1 := K.set_ 0 a
 have h2 := h1.set_ 1 b
 have h3 := h2.set_ 2 c
 have h4 := h3.set_ 3 d
 exact h4
theorem at4 (hS : Stays Rep) {w0 w : World} {S0 D0 M S D : Nat → Prop} {v : Value} {s : Vs} (A : At Rep w0 S0 D0 M w v s S D) {r : Nat} {z0 z1 z2 z3 : Value} {T : TypeId} (h : Blk w r #[z0,z1,z2,z3] T) (hr : M r) (hne : 76 ≠ T ∧ 125 ≠ T) (a b c d : Value) : At Rep w0 S0 D0 M ((((w.setCell ⟨r,0,none⟩ a).setCell ⟨r,1,none⟩ b).setCell ⟨r,2,none⟩ c).setCell ⟨r,3,none⟩ d) v s S D := by
 have h1 := h.set_ 0 a
 have h2 := h1.set_ 1 b
 have h3 := h2.set_ 2 c
 exact (((A.set hS h hr hne 0 a).set hS h1 hr hne 1 b).set hS h2 hr hne 2 c).set hS h3 hr hne 3 d
theorem lead_calls (hW : Wk Rep) {w : World} {v : Value} {s : Vs} {S D : Nat → Prop} (path : ByteArray) (hr : Rep w v s S D) (hl : Lim s) (h2 : s.rd.length ≤ 19000) (hp : path.size ≤ 100000) (hx : Mxs w S) :
 Calls Tryz.prog 79 #[v,.string path] w (LeadR Rep v s path S D w (leadM s.shown path)) := by
 obtain ⟨W,hW0⟩ : ∃ W,w.alloc (.cells #[.int .u8 0,.int .u32 0,.int .u32 0,.int .u32 0] 46) = W := ⟨_,rfl⟩
 have hbW : Below w.heap.size w W := by rw [← hW0]; exact bW_
 have A0 := hQ_ ((At.start hr).own hW.stays hbW (Nat.le_refl w.heap.size) (by rw [← hW0]; simp))
 have R0 := hQ_ (show Blk W w.heap.size #[.int .u8 0,.int .u32 0,.int .u32 0,.int .u32 0] 46 from hW0 ▸ Blk.new_ w _ _)
 have HW := hQ_ hW0
 have HS := hQ_ hW.stays
 have HFI := hQ_ (fun w (S D : Nat → Prop) (hr : Rep w v s S D) (hx : Mx w) => hW.find path hr hl h2 hp hx)
 have HX := hQ_ (hx.below hbW).1
 unfold leadM
 obtain ⟨⟨⟨sd,sn,si,⟨sk,sl,sz,sp⟩⟩,er⟩,hR⟩ : ∃ R,findM s.shown path = R := ⟨_,rfl⟩
 rw [hR] at HFI ⊢
 dsimp only at HFI ⊢
 clear hr hl h2 hp hx hW0 hbW hR
 by_cases he : er = 0
 ·subst he
  rw [if_neg (fun h => h rfl)]
  by_cases h0 : si = 0
  ·rw [if_pos h0]
   have d0 : (si == 0) = true := by simpa using h0
   clear h0
   go_enter Tryz.func79,Tryz.ntmps79
   go_wp2_with fail
   rw [HW.out]
   go_wp2_with fail
   refine (HFI.out _ _ _ A0.out.rep HX.out).mono ?_
   rintro e w2 ⟨s2,S2,D2,rfl,hr2,st2,hf⟩
   have hbn := bN_ w2 (.cells #[.int .u32 sd,.string sn,.int .u32 si,.int .u8 sk,.int .u32 sl,.int .u32 sz,.int .u32 sp] 150)
   have A2 := hQ_ ((A0.out.step HS.out hr2 st2).below HS.out hbn)
   have R2 := hQ_ ((A0.out.blk HS.out R0.out (.inr rfl) st2).below hbn)
   have HF := hQ_ hf
   clear hr2 st2 hf hbn
   go_wp2_with ((with_reducible refine pick none ?_); refine store_blk rfl 46 _ _ rfl w.heap.size #[.int .u8 0,.int .u32 0,.int .u32 0,.int .u32 0] rfl rfl 46 _ R2.out info_ino rfl (by simp [Value.oneCell']) ?_; intro w5 hk5 hg5)
   have A5 := A2.out.stored HS.out R2.out (.inr rfl) (by decide) hg5
   exact bodyPost_ret (v := .tuple #[.int .u32 0,.agg #[.int .u8 0,.int .u32 0,.int .u32 0,.int .u32 0],.int .i64 10]) (results_tct rfl _ _ w.heap.size 46 _ (0,0) _ rfl (.int .u32 0) rfl (.int .i64 10) rfl hk5 Tryz.underlying46 rfl info_ino) rfl ⟨s2,S2,D2,rfl,A5.rep,A5.st,HF.out⟩
  ·rw [if_neg h0]
   have d0 : (si == 0) = false := by simpa using h0
   clear h0
   go_enter Tryz.func79,Tryz.ntmps79
   go_wp2_with fail
   rw [HW.out]
   go_wp2_with fail
   refine (HFI.out _ _ _ A0.out.rep HX.out).mono ?_
   rintro e w2 ⟨s2,S2,D2,rfl,hr2,st2,hf⟩
   obtain ⟨U,hU⟩ : ∃ U,w2.alloc (.cells #[.int .u32 sd,.string sn,.int .u32 si,.int .u8 sk,.int .u32 sl,.int .u32 sz,.int .u32 sp] 150) = U := ⟨_,rfl⟩
   have hbn : Below w2.heap.size w2 U := by rw [← hU]; exact bW_
   have A2 := hQ_ ((A0.out.step HS.out hr2 st2).below HS.out hbn)
   have R2 := hQ_ ((A0.out.blk HS.out R0.out (.inr rfl) st2).below hbn)
   have X2 := hQ_ (show Blk U w2.heap.size #[.int .u32 sd,.string sn,.int .u32 si,.int .u8 sk,.int .u32 sl,.int .u32 sz,.int .u32 sp] 150 from hU ▸ Blk.new_ w2 _ _)
   have HF := hQ_ hf
   have HU := hQ_ hU
   have hlt : w.heap.size < w2.heap.size := (A0.out.blk HS.out R0.out (.inr rfl) st2).lt
   obtain ⟨x2,x3,x4,x5,x6⟩ : U.cell? ⟨w2.heap.size,2,none⟩ = some (.int .u32 si) ∧ U.cell? ⟨w2.heap.size,3,none⟩ = some (.int .u8 sk) ∧ U.cell? ⟨w2.heap.size,4,none⟩ = some (.int .u32 sl) ∧ U.cell? ⟨w2.heap.size,5,none⟩ = some (.int .u32 sz) ∧ U.cell? ⟨w2.heap.size,6,none⟩ = some (.int .u32 sp) := ⟨X2.out.cell 2,X2.out.cell 3,X2.out.cell 4,X2.out.cell 5,X2.out.cell 6⟩
   obtain ⟨r0,r1,r2,r3⟩ : U.cell? ⟨w.heap.size,0,none⟩ = some (.int .u8 0) ∧ U.cell? ⟨w.heap.size,1,none⟩ = some (.int .u32 0) ∧ U.cell? ⟨w.heap.size,2,none⟩ = some (.int .u32 0) ∧ U.cell? ⟨w.heap.size,3,none⟩ = some (.int .u32 0) := ⟨R2.out.cell 0,R2.out.cell 1,R2.out.cell 2,R2.out.cell 3⟩
   obtain ⟨q0,q1,q2,q3⟩ : U.frozen? ⟨w.heap.size,0,none⟩ = false ∧ U.frozen? ⟨w.heap.size,1,none⟩ = false ∧ U.frozen? ⟨w.heap.size,2,none⟩ = false ∧ U.frozen? ⟨w.heap.size,3,none⟩ = false := ⟨R2.out.frozen 0,R2.out.frozen 1,R2.out.frozen 2,R2.out.frozen 3⟩
   have hne1 : ¬ w2.heap.size = w.heap.size := by omega
   have hne2 : ¬ w.heap.size = w2.heap.size := by omega
   have y2 : (w2.alloc (.cells #[.int .u32 sd,.string sn,.int .u32 si,.int .u8 sk,.int .u32 sl,.int .u32 sz,.int .u32 sp] 150)).cell? ⟨w2.heap.size,2,none⟩ = some (.int .u32 si) := by rw [hU]; exact x2
   clear hr2 st2 hf hbn hU
   go_wp2_with fail
   rw [HU.out]
   go_region_law (fail)
   all_goals
    have A5 := hQ_ ((at4 HS.out A2.out R2.out (.inr rfl) (by decide) (.int .u8 sk) (.int .u32 sl) (.int .u32 sz) (.int .u32 sp)).below HS.out ((Below.refl _ _).drew))
    have R5 := hQ_ (set4 R2.out (.int .u8 sk) (.int .u32 sl) (.int .u32 sz) (.int .u32 sp)).drew
    go_wp2_with fail
    exact bodyPost_ret (v := .tuple #[.int .u32 si,.agg #[.int .u8 sk,.int .u32 sl,.int .u32 sz,.int .u32 sp],.int .i64 0]) (results_tct rfl _ _ w.heap.size 46 _ (0,0) _ rfl (.int .u32 si) rfl (.int .i64 0) rfl R5.out Tryz.underlying46 rfl info_ino) rfl ⟨s2,S2,D2,rfl,A5.out.rep,A5.out.st,HF.out⟩
 ·rw [if_pos he]
  have d0 : (er != 0) = true := by simpa using he
  clear he
  go_enter Tryz.func79,Tryz.ntmps79
  go_wp2_with fail
  rw [HW.out]
  go_wp2_with fail
  refine (HFI.out _ _ _ A0.out.rep HX.out).mono ?_
  rintro e w2 ⟨s2,S2,D2,rfl,hr2,st2,hf⟩
  have hbn := bN_ w2 (.cells #[.int .u32 sd,.string sn,.int .u32 si,.int .u8 sk,.int .u32 sl,.int .u32 sz,.int .u32 sp] 150)
  have A2 := hQ_ ((A0.out.step HS.out hr2 st2).below HS.out hbn)
  have R2 := hQ_ ((A0.out.blk HS.out R0.out (.inr rfl) st2).below hbn)
  have HF := hQ_ hf
  clear hr2 st2 hf hbn
  go_wp2_with ((with_reducible refine pick none ?_); refine store_blk rfl 46 _ _ rfl w.heap.size #[.int .u8 0,.int .u32 0,.int .u32 0,.int .u32 0] rfl rfl 46 _ R2.out info_ino rfl (by simp [Value.oneCell']) ?_; intro w5 hk5 hg5)
  have A5 := A2.out.stored HS.out R2.out (.inr rfl) (by decide) hg5
  exact bodyPost_ret (v := .tuple #[.int .u32 0,.agg #[.int .u8 0,.int .u32 0,.int .u32 0,.int .u32 0],.int .i64 er]) (results_tct rfl _ _ w.heap.size 46 _ (0,0) _ rfl (.int .u32 0) rfl (.int .i64 er) rfl hk5 Tryz.underlying46 rfl info_ino) rfl ⟨s2,S2,D2,rfl,A5.rep,A5.st,HF.out⟩
end Go.Proofs.YtogdjbhjgbnicaaGreatDoor.DirsKc
namespace Go.Proofs.YtogdjbhjgbnicaaGreatDoor.DirsKd
open Go.RowKit
open Byte KeysM TreeM ViewM ViewKm NodeM NodeG NamesM NamesL WalkM WalkF WalkKm DirsV Lst Chg TreeL ViewL WalkL WalkV Vat WalkKa WalkKb DirsK DirsKa DirsKb DirsKc
open Own hiding keeps
variable {Rep : RepT} {w : World} {v : Value} {s : Vs} {S D : Nat → Prop}
theorem first_2g (a b : Int) (w : World) (g : Nat) (hg : w.heap.size = g) : Calls Tryz.prog 98 #[.slice (some ⟨g,0,none⟩) 2 2] (w.alloc (.cells #[.int .i64 a,.int .i64 b] 43)) fun e w' => e = .returned (.int .i64 (fst_ [a,b])) ∧ (w.alloc (.cells #[.int .i64 a,.int .i64 b] 43)) = w' := by
 subst hg
 exact first_2 a b w
theorem first_2d (a b : Int) (w : World) (g : Nat) (hg : w.heap.size = g) : Calls Tryz.prog 98 #[.slice (some ⟨g,0,none⟩) 2 2] (w.alloc (.cells #[.int .i64 a,.int .i64 b] 43)).drew fun e w' => e = .returned (.int .i64 (fst_ [a,b])) ∧ (w.alloc (.cells #[.int .i64 a,.int .i64 b] 43)).drew = w' := by
 subst hg
 exact first_calls _ 2 2 [a,b] _ ((So.lit erE 43 w (base := w.heap.size) [a,b] #[.int .i64 a,.int .i64 b] 2 rfl rfl (Nat.le_refl _) (by decide)).sl.below ((Below.refl _ _).drew)) (by decide)
theorem when_t (er : Int) (w : World) : Calls Tryz.prog 99 #[.bool true,.int .i64 er] w fun e w' => e = .returned (.int .i64 er) ∧ w = w' := when_calls true er w
theorem when_f (er : Int) (w : World) : Calls Tryz.prog 99 #[.bool false,.int .i64 er] w fun e w' => e = .returned (.int .i64 0) ∧ w = w' := when_calls false er w
def FndC (Rep : RepT) (v : Value) (s t : Vs) (y : Spot) (er : Int) (S D : Nat → Prop) (w : World) (e : Ending) (w' : World) : Prop := ∃ s' S' D',e = .returned (.tuple #[.agg #[.int .u32 y.dir,.string y.name,.int .u32 y.ino,.int .u8 y.node.k,.int .u32 y.node.l,.int .u32 y.node.s,.int .u32 y.node.p],.int .i64 er]) ∧ Rep w' v s' S' D' ∧ Stp S D S' D' w w' ∧ Sm s' t ∧ s'.rd.length ≤ t.rd.length + 40 ∧ s'.rg.length ≤ t.rg.length
theorem find_c (hW : Wk Rep) {w : World} {v : Value} {s t : Vs} {S D : Nat → Prop} (path : ByteArray) {y : Spot} {er : Int} (hy : findM s.shown path = (y,er)) (hr : Rep w v t S D) (hsm : Sm t s) (hl : Lim t) (h2 : t.rd.length ≤ 19000) (hp : path.size ≤ 100000) (hx : Mx w) : Calls Tryz.prog 97 #[v,.string path] w (FndC Rep v s t y er S D w) := by
 refine (hW.find path hr hl h2 hp hx).mono ?_
 rw [hsm.shown,hy]
 rintro e w' ⟨s',S',D',he,hr',st,hf⟩
 exact ⟨s',S',D',he,hr',st,Sm.of_find hf,hf.len,Nat.le_of_eq (by rw [hf.rg])⟩
def LeadC (Rep : RepT) (v : Value) (s t : Vs) (i : Int) (n : Ino) (er : Int) (S D : Nat → Prop) (w : World) (e : Ending) (w' : World) : Prop := ∃ s' S' D',e = .returned (.tuple #[.int .u32 i,.agg #[.int .u8 n.k,.int .u32 n.l,.int .u32 n.s,.int .u32 n.p],.int .i64 er]) ∧ Rep w' v s' S' D' ∧ Stp S D S' D' w w' ∧ Sm s' t ∧ s'.rd.length ≤ t.rd.length + 40 ∧ s'.rg.length ≤ t.rg.length
theorem lead_c (hW : Wk Rep) {w : World} {v : Value} {s t : Vs} {S D : Nat → Prop} (path : ByteArray) {i : Int} {n : Ino} {er : Int} (hy : leadM s.shown path = (i,n,er)) (hr : Rep w v t S D) (hsm : Sm t s) (hl : Lim t) (h2 : t.rd.length ≤ 19000) (hp : path.size ≤ 100000) (hx : Mxs w S) : Calls Tryz.prog 79 #[v,.string path] w (LeadC Rep v s t i n er S D w) := by
 refine (lead_calls hW path hr hl h2 hp hx).mono ?_
 rw [hsm.shown,hy]
 rintro e w' ⟨s',S',D',he,hr',st,hf⟩
 exact ⟨s',S',D',he,hr',st,Sm.of_find hf,hf.len,Nat.le_of_eq (by rw [hf.rg])⟩
theorem Aft.found {s t t' : Vs} {ps : List Wrt} {k m : Nat} (h : Aft s t ps k m) (hs : Sm t' t) (h1 : t'.rd.length ≤ t.rd.length + 40) (h2 : t'.rg.length ≤ t.rg.length) : Aft s t' ps (k + 40) m := ⟨hs.trans h.sm,by have := h.rd; omega,by have := h.rg; omega⟩
theorem Aft.sm0 {s t : Vs} {k m : Nat} (h : Aft s t [] k m) : Sm t s := h.sm
theorem Aft.thru {s t s' : Vs} {ps : List Wrt} {a b k m : Nat} {x : Bool} (C : Aft s t [] a b ∧ (goW s []).2 = true) (h : Aft t s' ps k m ∧ (goW t ps).2 = x) : Aft s s' ps (a + k) (b + m) ∧ (goW s ps).2 = x := by
 have h1 := h.1.from_ (Aft.sm0 C.1) C.1.rd C.1.rg
 exact ⟨h1.1,h1.2.trans h.2⟩
theorem find_ib (L : List Pr) (path : ByteArray) : InoB (findM L path).1.node.k (findM L path).1.node.l (findM L path).1.node.s (findM L path).1.node.p := by
 have hz : InoB 0 0 0 0 := ⟨by decide,by decide,by decide,by decide,by decide,by decide,by decide,by decide⟩
 have hl : ∀ i,InoB (loadM L i).1.k (loadM L i).1.l (loadM L i).1.s (loadM L i).1.p := fun i => by
  have := load_k L i
  exact ⟨this.1,this.2.1,this.2.2.1,this.2.2.2.1,this.2.2.2.2.1,this.2.2.2.2.2.1,this.2.2.2.2.2.2.1,this.2.2.2.2.2.2.2⟩
 unfold findM
 split
 ·exact hz
 ·suffices H : ∀ (l : List ByteArray) (x : Spot),InoB x.node.k x.node.l x.node.s x.node.p → InoB (findL L x l).1.node.k (findL L x l).1.node.l (findL L x l).1.node.s (findL L x l).1.node.p from H _ _ (hl 1)
  intro l
  induction l with
  | nil => intro x h; exact h
  | cons n r ih =>
    intro x h
    unfold findL
    split
    ·exact hz
    ·split
     ·exact hz
     ·refine ih _ ?_
      unfold stepM
      split
      ·exact hl _
      ·exact hz
theorem move_calls (hW0 : Wk Rep) {w : World} {v : Value} {s : Vs} {S D : Nat → Prop} (xd xi xk xl xz xp : Int) (xn : ByteArray) (yd yi yk yl yz yp : Int) (yn : ByteArray) (hr : Rep w v s S D) (hl : Lim s) (h2 : s.rd.length ≤ 19900) (h3 : s.rg.length ≤ 990) (hd0 : 0 ≤ xd) (hd1 : xd ≤ 4294967295) (hi0 : 0 ≤ xi) (hi1 : xi ≤ 4294967295) (hn0 : xn.size ≤ 100000) (jd0 : 0 ≤ yd) (jd1 : yd ≤ 4294967295) (ji0 : 0 ≤ yi) (ji1 : yi ≤ 4294967295) (jn0 : yn.size ≤ 100000) :
 Calls Tryz.prog 114 #[v,.agg #[.int .u32 xd,.string xn,.int .u32 xi,.int .u8 xk,.int .u32 xl,.int .u32 xz,.int .u32 xp],.agg #[.int .u32 yd,.string yn,.int .u32 yi,.int .u8 yk,.int .u32 yl,.int .u32 yz,.int .u32 yp]] w (Wrote Rep v s (movPs ⟨xd,xn,xi,⟨xk,xl,xz,xp⟩⟩ ⟨yd,yn,yi,⟨yk,yl,yz,yp⟩⟩) 3 0 S D w) := by
 unfold movPs
 dsimp only
 by_cases h : xk = 2 ∧ xd ≠ yd
 ·rw [if_pos h]
  exact move_far hW0 xd xi xk xl xz xp xn yd yi yk yl yz yp yn hr hl h2 h3 hd0 hd1 hi0 hi1 hn0 jd0 jd1 ji0 ji1 jn0 h.1 h.2
 ·rw [if_neg h]
  exact move_near hW0 xd xi xk xl xz xp xn yd yi yk yl yz yp yn hr hl h2 h3 hd0 hd1 hi0 hi1 hn0 jd0 jd1 ji0 ji1 jn0 (fun hk => Classical.byContradiction fun hne => h ⟨hk,hne⟩)
theorem aftF {s t t' : Vs} {k m : Nat} (C : Aft s t [] k m ∧ (goW s []).2 = true) (hs : Sm t' t) (h1 : t'.rd.length ≤ t.rd.length + 40) (h2 : t'.rg.length ≤ t.rg.length) : Aft s t' [] (k + 40) m ∧ (goW s []).2 = true := ⟨Aft.found C.1 hs h1 h2,rfl⟩
end Go.Proofs.YtogdjbhjgbnicaaGreatDoor.DirsKd
namespace Go.Proofs.YtogdjbhjgbnicaaGreatDoor.DirsKe
open Go.RowKit
open Byte KeysM TreeM ViewM ViewKm NodeM NodeG NamesM NamesL WalkM WalkF WalkKm DirsV Lst Chg TreeL ViewL WalkL WalkV Vat WalkKa WalkKb DirsK DirsKa DirsKb DirsKc DirsKd
open Own hiding keeps
variable {Rep : RepT} {w : World} {v : Value} {s : Vs} {S D : Nat → Prop}
theorem first_2g (a b : Int) (w : World) (g : Nat) (hg : w.heap.size = g) : Calls Tryz.prog 98 #[.slice (some ⟨g,0,none⟩) 2 2] (w.alloc (.cells #[.int .i64 a,.int .i64 b] 43)) fun e w' => e = .returned (.int .i64 (fst_ [a,b])) ∧ (w.alloc (.cells #[.int .i64 a,.int .i64 b] 43)) = w' := by
 subst hg
 exact first_2 a b w
theorem first_2d (a b : Int) (w : World) (g : Nat) (hg : w.heap.size = g) : Calls Tryz.prog 98 #[.slice (some ⟨g,0,none⟩) 2 2] (w.alloc (.cells #[.int .i64 a,.int .i64 b] 43)).drew fun e w' => e = .returned (.int .i64 (fst_ [a,b])) ∧ (w.alloc (.cells #[.int .i64 a,.int .i64 b] 43)).drew = w' := by
 subst hg
 exact first_calls _ 2 2 [a,b] _ ((So.lit erE 43 w (base := w.heap.size) [a,b] #[.int .i64 a,.int .i64 b] 2 rfl rfl (Nat.le_refl _) (by decide)).sl.below ((Below.refl _ _).drew)) (by decide)
theorem first_2b (a b : Int) (w : World) (g : Nat) (hg : w.heap.size = g) : (Calls Tryz.prog 98 #[.slice (some ⟨g,0,none⟩) 2 2] (w.alloc (.cells #[.int .i64 a,.int .i64 b] 43)) fun e w' => e = .returned (.int .i64 (fst_ [a,b])) ∧ (w.alloc (.cells #[.int .i64 a,.int .i64 b] 43)) = w') ∧ (Calls Tryz.prog 98 #[.slice (some ⟨g,0,none⟩) 2 2] (w.alloc (.cells #[.int .i64 a,.int .i64 b] 43)).drew fun e w' => e = .returned (.int .i64 (fst_ [a,b])) ∧ (w.alloc (.cells #[.int .i64 a,.int .i64 b] 43)).drew = w') := ⟨first_2g a b w g hg,first_2d a b w g hg⟩
theorem make_err (hW0 : Wk Rep) (path : ByteArray) (kind ino : Int) {xd xi xk xl xz xp er : Int} {xn : ByteArray} (hr : Rep w v s S D) (hl : Lim s) (h2 : s.rd.length ≤ 18000) (h3 : s.rg.length ≤ 900) (hx : Mxs w S) (hp : path.size ≤ 100000) (k0 : 0 ≤ kind) (k1 : kind ≤ 255) (i0 : 0 ≤ ino) (i1 : ino ≤ 4294967295) (hR : findM s.shown path = (⟨xd,xn,xi,⟨xk,xl,xz,xp⟩⟩,er)) (he : er ≠ 0) :
 Calls Tryz.prog 78 #[v,.string path,.int .u8 kind,.int .u32 ino] w (Ans Rep v s er [] 41 0 S D w) := by
 have A0 := hQ_ (At.start hr)
 have HX := hQ_ hx
 have HS := hQ_ hW0.stays
 have HL := hQ_ hl
 have C0 := hQ_ (aft0 s)
 have HWT := hQ_ when_t
 have HWF := hQ_ when_f
 have HFI := hQ_ (fun w (S D : Nat → Prop) (t : Vs) (hr : Rep w v t S D) (hsm : Sm t s) hl h2 hx => find_c hW0 path hR hr hsm hl h2 hp hx)
 unfold FndC at HFI
 have hsb := find_bd s.shown path
 rw [hR] at hsb
 obtain ⟨hd0,hd1,hi0,hi1,hn0⟩ := hsb
 dsimp only at hd0 hd1 hi0 hi1 hn0 HFI
 have d0 : (er != 0) = true := by simpa using he
 clear hr hl hp hR hx hW0
 by_cases h0 : xi = 0
 ·have d1 : (xi != 0) = false := by simpa using h0
  clear h0
  go_enter Tryz.func78,Tryz.ntmps78
  go_wp2_with fail
  refine (HFI.out _ _ _ _ A0.out.rep (Aft.sm0 C0.out.1) (lim_aft C0.out.1 HL.out (by omega) (by omega)) (by have := C0.out.1.rd; omega) (HX.out.at_ A0.out).1).mono ?_
  rintro e w1 ⟨s1,S1,D1,rfl,hr,st,hsm,hrd,hrg⟩
  have C1 := hQ_ (aftF C0.out hsm hrd hrg)
  have X1 := hQ_ (Blk.new_ w1 #[.int .u32 xd,.string xn,.int .u32 xi,.int .u8 xk,.int .u32 xl,.int .u32 xz,.int .u32 xp] 150)
  have hbn := bX_ X1.out
  have AQ := A0.out.step HS.out hr st
  have A1 := hQ_ (AQ.own HS.out hbn (Nat.le_refl w1.heap.size) (by simp))
  have f1_X0 := cC7 X1.out
  clear hr st hsm hrd hrg hbn AQ
  have FE2 : fst_ [er,0] = er := by unfold fst_; rw [if_neg he]
  have HF2 := hQ_ (first_2b (er) (0) (w1.alloc (.cells #[.int .u32 xd,.string xn,.int .u32 xi,.int .u8 xk,.int .u32 xl,.int .u32 xz,.int .u32 xp] 150)) (w1.heap.size + 1) (by simp))
  rw [FE2] at HF2
  clear FE2
  go_upto_region 2 with (fail)
  go_cut [11] (fun p wx => p = .int .i64 (er) ∧ BL_ (w1.alloc (.cells #[.int .u32 xd,.string xn,.int .u32 xi,.int .u8 xk,.int .u32 xl,.int .u32 xz,.int .u32 xp] 150)) wx)
  case first =>
   go_wp2_with (first | (go_at_call 99; (with_reducible refine (HWT.out _ _).mono ?_); rintro e w9 ⟨rfl,rfl⟩) | (go_at_call 99; (with_reducible refine (HWF.out _ _).mono ?_); rintro e w9 ⟨rfl,rfl⟩) | (go_at_call 98; (with_reducible refine HF2.out.1.mono ?_); rintro e w9 ⟨rfl,rfl⟩))
   all_goals
    go_meet
    exact fB_
  case rest =>
   obtain ⟨rfl,hbc⟩ := hcut
   have A2 := hQ_ (A1.out.below HS.out hbc)
   have X2 := hQ_ (X1.out.below hbc)
   skip
   have f2_X0 := cC7 X2.out
   clear hbc f1_X0
   clear he
   go_wp2_with fail
   go_ret
   exact Ans.ok A2.out ⟨C1.out.1.more (by omega) (by omega),C1.out.2⟩
 ·have d1 : (xi != 0) = true := by simpa using h0
  clear h0
  go_enter Tryz.func78,Tryz.ntmps78
  go_wp2_with fail
  refine (HFI.out _ _ _ _ A0.out.rep (Aft.sm0 C0.out.1) (lim_aft C0.out.1 HL.out (by omega) (by omega)) (by have := C0.out.1.rd; omega) (HX.out.at_ A0.out).1).mono ?_
  rintro e w3 ⟨s3,S3,D3,rfl,hr,st,hsm,hrd,hrg⟩
  have C3 := hQ_ (aftF C0.out hsm hrd hrg)
  have X3 := hQ_ (Blk.new_ w3 #[.int .u32 xd,.string xn,.int .u32 xi,.int .u8 xk,.int .u32 xl,.int .u32 xz,.int .u32 xp] 150)
  have hbn := bX_ X3.out
  have AQ := A0.out.step HS.out hr st
  have A3 := hQ_ (AQ.own HS.out hbn (Nat.le_refl w3.heap.size) (by simp))
  have f3_X0 := cC7 X3.out
  clear hr st hsm hrd hrg hbn AQ
  have FE4 : fst_ [er,11] = er := by unfold fst_; rw [if_neg he]
  have HF4 := hQ_ (first_2b (er) (11) (w3.alloc (.cells #[.int .u32 xd,.string xn,.int .u32 xi,.int .u8 xk,.int .u32 xl,.int .u32 xz,.int .u32 xp] 150)) (w3.heap.size + 1) (by simp))
  rw [FE4] at HF4
  clear FE4
  go_upto_region 2 with (fail)
  go_cut [11] (fun p wx => p = .int .i64 (er) ∧ BL_ (w3.alloc (.cells #[.int .u32 xd,.string xn,.int .u32 xi,.int .u8 xk,.int .u32 xl,.int .u32 xz,.int .u32 xp] 150)) wx)
  case first =>
   go_wp2_with (first | (go_at_call 99; (with_reducible refine (HWT.out _ _).mono ?_); rintro e w9 ⟨rfl,rfl⟩) | (go_at_call 99; (with_reducible refine (HWF.out _ _).mono ?_); rintro e w9 ⟨rfl,rfl⟩) | (go_at_call 98; (with_reducible refine HF4.out.1.mono ?_); rintro e w9 ⟨rfl,rfl⟩))
   all_goals
    go_meet
    exact fB_
  case rest =>
   obtain ⟨rfl,hbc⟩ := hcut
   have A4 := hQ_ (A3.out.below HS.out hbc)
   have X4 := hQ_ (X3.out.below hbc)
   skip
   have f4_X0 := cC7 X4.out
   clear hbc f3_X0
   clear he
   go_wp2_with fail
   go_ret
   exact Ans.ok A4.out ⟨C3.out.1.more (by omega) (by omega),C3.out.2⟩
theorem make_there (hW0 : Wk Rep) (path : ByteArray) (kind ino : Int) {xd xi xk xl xz xp er : Int} {xn : ByteArray} (hr : Rep w v s S D) (hl : Lim s) (h2 : s.rd.length ≤ 18000) (h3 : s.rg.length ≤ 900) (hx : Mxs w S) (hp : path.size ≤ 100000) (k0 : 0 ≤ kind) (k1 : kind ≤ 255) (i0 : 0 ≤ ino) (i1 : ino ≤ 4294967295) (hR : findM s.shown path = (⟨xd,xn,xi,⟨xk,xl,xz,xp⟩⟩,er)) (he : er = 0) (h0 : xi ≠ 0) :
 Calls Tryz.prog 78 #[v,.string path,.int .u8 kind,.int .u32 ino] w (Ans Rep v s 11 [] 41 0 S D w) := by
 have A0 := hQ_ (At.start hr)
 have HX := hQ_ hx
 have HS := hQ_ hW0.stays
 have HL := hQ_ hl
 have C0 := hQ_ (aft0 s)
 have HWT := hQ_ when_t
 have HWF := hQ_ when_f
 have HFI := hQ_ (fun w (S D : Nat → Prop) (t : Vs) (hr : Rep w v t S D) (hsm : Sm t s) hl h2 hx => find_c hW0 path hR hr hsm hl h2 hp hx)
 unfold FndC at HFI
 have hsb := find_bd s.shown path
 rw [hR] at hsb
 obtain ⟨hd0,hd1,hi0,hi1,hn0⟩ := hsb
 dsimp only at hd0 hd1 hi0 hi1 hn0 HFI
 subst he
 have d1 : (xi != 0) = true := by simpa using h0
 clear hr hl hp hR hx hW0 h0
 go_enter Tryz.func78,Tryz.ntmps78
 go_wp2_with fail
 refine (HFI.out _ _ _ _ A0.out.rep (Aft.sm0 C0.out.1) (lim_aft C0.out.1 HL.out (by omega) (by omega)) (by have := C0.out.1.rd; omega) (HX.out.at_ A0.out).1).mono ?_
 rintro e w1 ⟨s1,S1,D1,rfl,hr,st,hsm,hrd,hrg⟩
 have C1 := hQ_ (aftF C0.out hsm hrd hrg)
 have X1 := hQ_ (Blk.new_ w1 #[.int .u32 xd,.string xn,.int .u32 xi,.int .u8 xk,.int .u32 xl,.int .u32 xz,.int .u32 xp] 150)
 have hbn := bX_ X1.out
 have AQ := A0.out.step HS.out hr st
 have A1 := hQ_ (AQ.own HS.out hbn (Nat.le_refl w1.heap.size) (by simp))
 have f1_X0 := cC7 X1.out
 clear hr st hsm hrd hrg hbn AQ
 have FE2 : fst_ [0,11] = 11 := rfl
 have HF2 := hQ_ (first_2b (0) (11) (w1.alloc (.cells #[.int .u32 xd,.string xn,.int .u32 xi,.int .u8 xk,.int .u32 xl,.int .u32 xz,.int .u32 xp] 150)) (w1.heap.size + 1) (by simp))
 rw [FE2] at HF2
 clear FE2
 go_upto_region 2 with (fail)
 go_cut [11] (fun p wx => p = .int .i64 (11) ∧ BL_ (w1.alloc (.cells #[.int .u32 xd,.string xn,.int .u32 xi,.int .u8 xk,.int .u32 xl,.int .u32 xz,.int .u32 xp] 150)) wx)
 case first =>
  go_wp2_with (first | (go_at_call 99; (with_reducible refine (HWT.out _ _).mono ?_); rintro e w9 ⟨rfl,rfl⟩) | (go_at_call 99; (with_reducible refine (HWF.out _ _).mono ?_); rintro e w9 ⟨rfl,rfl⟩) | (go_at_call 98; (with_reducible refine HF2.out.1.mono ?_); rintro e w9 ⟨rfl,rfl⟩))
  all_goals
   go_meet
   exact fB_
 case rest =>
  obtain ⟨rfl,hbc⟩ := hcut
  have A2 := hQ_ (A1.out.below HS.out hbc)
  have X2 := hQ_ (X1.out.below hbc)
  skip
  have f2_X0 := cC7 X2.out
  clear hbc f1_X0
  go_wp2_with fail
  go_ret
  exact Ans.ok A2.out ⟨C1.out.1.more (by omega) (by omega),C1.out.2⟩
theorem make_file (hW0 : Wk Rep) (path : ByteArray) (kind ino : Int) {xd xi xk xl xz xp er : Int} {xn : ByteArray} (hr : Rep w v s S D) (hl : Lim s) (h2 : s.rd.length ≤ 18000) (h3 : s.rg.length ≤ 900) (hx : Mxs w S) (hp : path.size ≤ 100000) (k0 : 0 ≤ kind) (k1 : kind ≤ 255) (i0 : 0 ≤ ino) (i1 : ino ≤ 4294967295) (hR : findM s.shown path = (⟨xd,xn,xi,⟨xk,xl,xz,xp⟩⟩,er)) (he : er = 0) (h0 : xi = 0) (hkd : kind = 1) :
 Calls Tryz.prog 78 #[v,.string path,.int .u8 kind,.int .u32 ino] w (Ans Rep v s 0 [saveP ino 1 1 0 0,hangP xd xn ino] 41 0 S D w) := by
 have A0 := hQ_ (At.start hr)
 have HX := hQ_ hx
 have HS := hQ_ hW0.stays
 have HWK := hQ_ hW0
 have HL := hQ_ hl
 have HRO := hQ_ room_calls
 have C0 := hQ_ (aft0 s)
 have HWT := hQ_ when_t
 have HWF := hQ_ when_f
 have HFI := hQ_ (fun w (S D : Nat → Prop) (t : Vs) (hr : Rep w v t S D) (hsm : Sm t s) hl h2 hx => find_c hW0 path hR hr hsm hl h2 hp hx)
 unfold FndC at HFI
 have HNW := hQ_ (fun w => NodeK.new_ok kind xd w k0 k1 (by have := (find_bd s.shown path).d0; rw [hR] at this; exact this) (by have := (find_bd s.shown path).d1; rw [hR] at this; exact this))
 have hsb := find_bd s.shown path
 rw [hR] at hsb
 obtain ⟨hd0,hd1,hi0,hi1,hn0⟩ := hsb
 dsimp only at hd0 hd1 hi0 hi1 hn0 HFI
 subst he
 have d1 : (xi != 0) = false := by simpa using h0
 unfold NodeL.newV at HNW
 rw [if_pos hkd] at HNW
 clear hr hl hp hR hx hW0 h0 hkd
 go_enter Tryz.func78,Tryz.ntmps78
 go_wp2_with fail
 refine (HFI.out _ _ _ _ A0.out.rep (Aft.sm0 C0.out.1) (lim_aft C0.out.1 HL.out (by omega) (by omega)) (by have := C0.out.1.rd; omega) (HX.out.at_ A0.out).1).mono ?_
 rintro e w1 ⟨s1,S1,D1,rfl,hr,st,hsm,hrd,hrg⟩
 have C1 := hQ_ (aftF C0.out hsm hrd hrg)
 have X1 := hQ_ (Blk.new_ w1 #[.int .u32 xd,.string xn,.int .u32 xi,.int .u8 xk,.int .u32 xl,.int .u32 xz,.int .u32 xp] 150)
 have hbn := bX_ X1.out
 have AQ := A0.out.step HS.out hr st
 have A1 := hQ_ (AQ.own HS.out hbn (Nat.le_refl w1.heap.size) (by simp))
 have f1_X0 := cC7 X1.out
 clear hr st hsm hrd hrg hbn AQ
 have FE2 : fst_ [0,0] = 0 := rfl
 have HF2 := hQ_ (first_2b (0) (0) (w1.alloc (.cells #[.int .u32 xd,.string xn,.int .u32 xi,.int .u8 xk,.int .u32 xl,.int .u32 xz,.int .u32 xp] 150)) (w1.heap.size + 1) (by simp))
 rw [FE2] at HF2
 clear FE2
 go_upto_region 2 with (fail)
 go_cut [11] (fun p wx => p = .int .i64 (0) ∧ BL_ (w1.alloc (.cells #[.int .u32 xd,.string xn,.int .u32 xi,.int .u8 xk,.int .u32 xl,.int .u32 xz,.int .u32 xp] 150)) wx)
 case first =>
  go_wp2_with (first | (go_at_call 99; (with_reducible refine (HWT.out _ _).mono ?_); rintro e w9 ⟨rfl,rfl⟩) | (go_at_call 99; (with_reducible refine (HWF.out _ _).mono ?_); rintro e w9 ⟨rfl,rfl⟩) | (go_at_call 98; (with_reducible refine HF2.out.1.mono ?_); rintro e w9 ⟨rfl,rfl⟩))
  all_goals
   go_meet
   exact fB_
 case rest =>
  obtain ⟨rfl,hbc⟩ := hcut
  have A2 := hQ_ (A1.out.below HS.out hbc)
  have X2 := hQ_ (X1.out.below hbc)
  skip
  have f2_X0 := cC7 X2.out
  clear hbc f1_X0
  go_wp2_with fail
  refine (HNW.out _).mono ?_
  rintro e w3 ⟨rfl,hbw⟩
  have hbn := nW_ hbw (.cells #[.int .u8 1,.int .u32 1,.int .u32 0,.int .u32 0] 46)
  have A3 := hQ_ (A2.out.own HS.out hbn hbw.size (by simp))
  have X3 := hQ_ (X2.out.below hbn)
  have I3 := hQ_ (Blk.new_ w3 #[.int .u8 1,.int .u32 1,.int .u32 0,.int .u32 0] 46)
  have f3_X0 := cC7 X3.out
  have f3_I0 := cC4 I3.out
  clear hbw hbn f2_X0
  go_wp2_with fail
  refine (save_w HWK.out ino 1 (1) 0 0 A3.out.rep (lim_aft C1.out.1 HL.out (by omega) (by omega)) (by omega) (by omega) ⟨by omega,by omega,by omega,by omega,by omega,by omega,by omega,by omega⟩).mono ?_
  intro e w4 hh
  rcases Wrote.split hh with ⟨s4,S4,D4,rfl,ho,hr,st,ha⟩ | ⟨s4,S4,D4,rfl,ho,hr,st,ha⟩
  ·obtain ⟨x1,x2⟩ := C1.out.1.app C1.out.2 ha
   have C4 := hQ_ (And.intro x1 (x2.trans ho))
   clear x1 x2 ho ha
   have A4 := hQ_ (A3.out.step HS.out hr st)
   have X4 := hQ_ (A3.out.blk HS.out X3.out (.inl (.inr rfl)) st)
   have I4 := hQ_ (A3.out.blk HS.out I3.out (.inr rfl) st)
   obtain ⟨f4_X0,f4_X1,f4_X2,f4_X3,f4_X4,f4_X5,f4_X6⟩ := cC7 X4.out
   obtain ⟨f4_I0,f4_I1,f4_I2,f4_I3⟩ := cC4 I4.out
   clear st hr f3_X0 f3_I0
   go_wp2_with fail
   refine (hang_w HWK.out xd xn ino A4.out.rep (lim_aft C4.out.1 HL.out (by omega) (by omega)) (by omega) (by omega) (by omega) (by omega) (by omega)).mono ?_
   intro e w5 hh
   rcases Wrote.split hh with ⟨s5,S5,D5,rfl,ho,hr,st,ha⟩ | ⟨s5,S5,D5,rfl,ho,hr,st,ha⟩
   ·obtain ⟨x1,x2⟩ := C4.out.1.app C4.out.2 ha
    have C5 := hQ_ (And.intro x1 (x2.trans ho))
    clear x1 x2 ho ha
    have A5 := hQ_ (A4.out.step HS.out hr st)
    have X5 := hQ_ (A4.out.blk HS.out X4.out (.inl (.inr rfl)) st)
    have I5 := hQ_ (A4.out.blk HS.out I4.out (.inr rfl) st)
    obtain ⟨f5_X0,f5_X1,f5_X2,f5_X3,f5_X4,f5_X5,f5_X6⟩ := cC7 X5.out
    obtain ⟨f5_I0,f5_I1,f5_I2,f5_I3⟩ := cC4 I5.out
    clear st hr f4_X0 f4_X1 f4_X2 f4_X3 f4_X4 f4_X5 f4_X6 f4_I0 f4_I1 f4_I2 f4_I3
    go_wp2_with (go_at_call 104; refine (HRO.out _ _).mono ?_; rintro e w9 ⟨rfl,rfl⟩)
    go_ret
    exact Ans.ok A5.out ⟨C5.out.1.more (by omega) (by omega),C5.out.2⟩
   ·obtain ⟨x1,x2⟩ := C4.out.1.app C4.out.2 ha
    have C5 := hQ_ (And.intro x1 (x2.trans ho))
    clear x1 x2 ho ha
    have A5 := hQ_ (A4.out.step HS.out hr st)
    have X5 := hQ_ (A4.out.blk HS.out X4.out (.inl (.inr rfl)) st)
    have I5 := hQ_ (A4.out.blk HS.out I4.out (.inr rfl) st)
    obtain ⟨f5_X0,f5_X1,f5_X2,f5_X3,f5_X4,f5_X5,f5_X6⟩ := cC7 X5.out
    obtain ⟨f5_I0,f5_I1,f5_I2,f5_I3⟩ := cC4 I5.out
    clear st hr f4_X0 f4_X1 f4_X2 f4_X3 f4_X4 f4_X5 f4_X6 f4_I0 f4_I1 f4_I2 f4_I3
    go_wp2_with (go_at_call 104; refine (HRO.out _ _).mono ?_; rintro e w9 ⟨rfl,rfl⟩)
    go_ret
    exact Ans.full A5.out ⟨(Aft.stop (qs := []) C5.out.1 C5.out.2).1.more (by omega) (by omega),(Aft.stop (qs := []) C5.out.1 C5.out.2).2⟩
  ·obtain ⟨x1,x2⟩ := C1.out.1.app C1.out.2 ha
   have C4 := hQ_ (And.intro x1 (x2.trans ho))
   clear x1 x2 ho ha
   have A4 := hQ_ (A3.out.step HS.out hr st)
   have X4 := hQ_ (A3.out.blk HS.out X3.out (.inl (.inr rfl)) st)
   have I4 := hQ_ (A3.out.blk HS.out I3.out (.inr rfl) st)
   obtain ⟨f4_X0,f4_X1,f4_X2,f4_X3,f4_X4,f4_X5,f4_X6⟩ := cC7 X4.out
   obtain ⟨f4_I0,f4_I1,f4_I2,f4_I3⟩ := cC4 I4.out
   clear st hr f3_X0 f3_I0
   go_wp2_with (go_at_call 104; refine (HRO.out _ _).mono ?_; rintro e w9 ⟨rfl,rfl⟩)
   go_ret
   exact Ans.full A4.out ⟨(Aft.stop (qs := [hangP xd xn ino]) C4.out.1 C4.out.2).1.more (by omega) (by omega),(Aft.stop (qs := [hangP xd xn ino]) C4.out.1 C4.out.2).2⟩
theorem make_dir (hW0 : Wk Rep) (path : ByteArray) (kind ino : Int) {xd xi xk xl xz xp er : Int} {xn : ByteArray} (hr : Rep w v s S D) (hl : Lim s) (h2 : s.rd.length ≤ 18000) (h3 : s.rg.length ≤ 900) (hx : Mxs w S) (hp : path.size ≤ 100000) (k0 : 0 ≤ kind) (k1 : kind ≤ 255) (i0 : 0 ≤ ino) (i1 : ino ≤ 4294967295) (hR : findM s.shown path = (⟨xd,xn,xi,⟨xk,xl,xz,xp⟩⟩,er)) (he : er = 0) (h0 : xi = 0) (hkd : kind ≠ 1) :
 Calls Tryz.prog 78 #[v,.string path,.int .u8 kind,.int .u32 ino] w (Ans Rep v s 0 [saveP ino 2 2 0 xd,hangP xd xn ino,tieP xd 1] 41 0 S D w) := by
 have A0 := hQ_ (At.start hr)
 have HX := hQ_ hx
 have HS := hQ_ hW0.stays
 have HWK := hQ_ hW0
 have HL := hQ_ hl
 have HRO := hQ_ room_calls
 have C0 := hQ_ (aft0 s)
 have HWT := hQ_ when_t
 have HWF := hQ_ when_f
 have HFI := hQ_ (fun w (S D : Nat → Prop) (t : Vs) (hr : Rep w v t S D) (hsm : Sm t s) hl h2 hx => find_c hW0 path hR hr hsm hl h2 hp hx)
 unfold FndC at HFI
 have HNW := hQ_ (fun w => NodeK.new_ok kind xd w k0 k1 (by have := (find_bd s.shown path).d0; rw [hR] at this; exact this) (by have := (find_bd s.shown path).d1; rw [hR] at this; exact this))
 have hsb := find_bd s.shown path
 rw [hR] at hsb
 obtain ⟨hd0,hd1,hi0,hi1,hn0⟩ := hsb
 dsimp only at hd0 hd1 hi0 hi1 hn0 HFI
 subst he
 have d1 : (xi != 0) = false := by simpa using h0
 unfold NodeL.newV at HNW
 rw [if_neg hkd] at HNW
 clear hr hl hp hR hx hW0 h0 hkd
 go_enter Tryz.func78,Tryz.ntmps78
 go_wp2_with fail
 refine (HFI.out _ _ _ _ A0.out.rep (Aft.sm0 C0.out.1) (lim_aft C0.out.1 HL.out (by omega) (by omega)) (by have := C0.out.1.rd; omega) (HX.out.at_ A0.out).1).mono ?_
 rintro e w1 ⟨s1,S1,D1,rfl,hr,st,hsm,hrd,hrg⟩
 have C1 := hQ_ (aftF C0.out hsm hrd hrg)
 have X1 := hQ_ (Blk.new_ w1 #[.int .u32 xd,.string xn,.int .u32 xi,.int .u8 xk,.int .u32 xl,.int .u32 xz,.int .u32 xp] 150)
 have hbn := bX_ X1.out
 have AQ := A0.out.step HS.out hr st
 have A1 := hQ_ (AQ.own HS.out hbn (Nat.le_refl w1.heap.size) (by simp))
 have f1_X0 := cC7 X1.out
 clear hr st hsm hrd hrg hbn AQ
 have FE2 : fst_ [0,0] = 0 := rfl
 have HF2 := hQ_ (first_2b (0) (0) (w1.alloc (.cells #[.int .u32 xd,.string xn,.int .u32 xi,.int .u8 xk,.int .u32 xl,.int .u32 xz,.int .u32 xp] 150)) (w1.heap.size + 1) (by simp))
 rw [FE2] at HF2
 clear FE2
 go_upto_region 2 with (fail)
 go_cut [11] (fun p wx => p = .int .i64 (0) ∧ BL_ (w1.alloc (.cells #[.int .u32 xd,.string xn,.int .u32 xi,.int .u8 xk,.int .u32 xl,.int .u32 xz,.int .u32 xp] 150)) wx)
 case first =>
  go_wp2_with (first | (go_at_call 99; (with_reducible refine (HWT.out _ _).mono ?_); rintro e w9 ⟨rfl,rfl⟩) | (go_at_call 99; (with_reducible refine (HWF.out _ _).mono ?_); rintro e w9 ⟨rfl,rfl⟩) | (go_at_call 98; (with_reducible refine HF2.out.1.mono ?_); rintro e w9 ⟨rfl,rfl⟩))
  all_goals
   go_meet
   exact fB_
 case rest =>
  obtain ⟨rfl,hbc⟩ := hcut
  have A2 := hQ_ (A1.out.below HS.out hbc)
  have X2 := hQ_ (X1.out.below hbc)
  skip
  have f2_X0 := cC7 X2.out
  clear hbc f1_X0
  go_wp2_with fail
  refine (HNW.out _).mono ?_
  rintro e w3 ⟨rfl,hbw⟩
  have hbn := nW_ hbw (.cells #[.int .u8 2,.int .u32 2,.int .u32 0,.int .u32 xd] 46)
  have A3 := hQ_ (A2.out.own HS.out hbn hbw.size (by simp))
  have X3 := hQ_ (X2.out.below hbn)
  have I3 := hQ_ (Blk.new_ w3 #[.int .u8 2,.int .u32 2,.int .u32 0,.int .u32 xd] 46)
  have f3_X0 := cC7 X3.out
  have f3_I0 := cC4 I3.out
  clear hbw hbn f2_X0
  go_wp2_with fail
  refine (save_w HWK.out ino 2 (2) 0 xd A3.out.rep (lim_aft C1.out.1 HL.out (by omega) (by omega)) (by omega) (by omega) ⟨by omega,by omega,by omega,by omega,by omega,by omega,by omega,by omega⟩).mono ?_
  intro e w4 hh
  rcases Wrote.split hh with ⟨s4,S4,D4,rfl,ho,hr,st,ha⟩ | ⟨s4,S4,D4,rfl,ho,hr,st,ha⟩
  ·obtain ⟨x1,x2⟩ := C1.out.1.app C1.out.2 ha
   have C4 := hQ_ (And.intro x1 (x2.trans ho))
   clear x1 x2 ho ha
   have A4 := hQ_ (A3.out.step HS.out hr st)
   have X4 := hQ_ (A3.out.blk HS.out X3.out (.inl (.inr rfl)) st)
   have I4 := hQ_ (A3.out.blk HS.out I3.out (.inr rfl) st)
   obtain ⟨f4_X0,f4_X1,f4_X2,f4_X3,f4_X4,f4_X5,f4_X6⟩ := cC7 X4.out
   obtain ⟨f4_I0,f4_I1,f4_I2,f4_I3⟩ := cC4 I4.out
   clear st hr f3_X0 f3_I0
   go_wp2_with fail
   refine (hang_w HWK.out xd xn ino A4.out.rep (lim_aft C4.out.1 HL.out (by omega) (by omega)) (by omega) (by omega) (by omega) (by omega) (by omega)).mono ?_
   intro e w5 hh
   rcases Wrote.split hh with ⟨s5,S5,D5,rfl,ho,hr,st,ha⟩ | ⟨s5,S5,D5,rfl,ho,hr,st,ha⟩
   ·obtain ⟨x1,x2⟩ := C4.out.1.app C4.out.2 ha
    have C5 := hQ_ (And.intro x1 (x2.trans ho))
    clear x1 x2 ho ha
    have A5 := hQ_ (A4.out.step HS.out hr st)
    have X5 := hQ_ (A4.out.blk HS.out X4.out (.inl (.inr rfl)) st)
    have I5 := hQ_ (A4.out.blk HS.out I4.out (.inr rfl) st)
    obtain ⟨f5_X0,f5_X1,f5_X2,f5_X3,f5_X4,f5_X5,f5_X6⟩ := cC7 X5.out
    obtain ⟨f5_I0,f5_I1,f5_I2,f5_I3⟩ := cC4 I5.out
    clear st hr f4_X0 f4_X1 f4_X2 f4_X3 f4_X4 f4_X5 f4_X6 f4_I0 f4_I1 f4_I2 f4_I3
    go_wp2_with fail
    refine (tie_calls HWK.out xd (1) A5.out.rep (lim_aft C5.out.1 HL.out (by omega) (by omega)) (by have := C5.out.1.rd; omega) (by omega) (by omega) (by omega) (by omega)).mono ?_
    intro e w6 hh
    rcases Wrote.split hh with ⟨s6,S6,D6,rfl,ho,hr,st,ha⟩ | ⟨s6,S6,D6,rfl,ho,hr,st,ha⟩
    ·obtain ⟨x1,x2⟩ := C5.out.1.app C5.out.2 ha
     have C6 := hQ_ (And.intro x1 (x2.trans ho))
     clear x1 x2 ho ha
     have A6 := hQ_ (A5.out.step HS.out hr st)
     have X6 := hQ_ (A5.out.blk HS.out X5.out (.inl (.inr rfl)) st)
     have I6 := hQ_ (A5.out.blk HS.out I5.out (.inr rfl) st)
     obtain ⟨f6_X0,f6_X1,f6_X2,f6_X3,f6_X4,f6_X5,f6_X6⟩ := cC7 X6.out
     obtain ⟨f6_I0,f6_I1,f6_I2,f6_I3⟩ := cC4 I6.out
     clear st hr f5_X0 f5_X1 f5_X2 f5_X3 f5_X4 f5_X5 f5_X6 f5_I0 f5_I1 f5_I2 f5_I3
     go_wp2_with (go_at_call 104; refine (HRO.out _ _).mono ?_; rintro e w9 ⟨rfl,rfl⟩)
     go_ret
     exact Ans.ok A6.out ⟨C6.out.1.more (by omega) (by omega),C6.out.2⟩
    ·obtain ⟨x1,x2⟩ := C5.out.1.app C5.out.2 ha
     have C6 := hQ_ (And.intro x1 (x2.trans ho))
     clear x1 x2 ho ha
     have A6 := hQ_ (A5.out.step HS.out hr st)
     have X6 := hQ_ (A5.out.blk HS.out X5.out (.inl (.inr rfl)) st)
     have I6 := hQ_ (A5.out.blk HS.out I5.out (.inr rfl) st)
     obtain ⟨f6_X0,f6_X1,f6_X2,f6_X3,f6_X4,f6_X5,f6_X6⟩ := cC7 X6.out
     obtain ⟨f6_I0,f6_I1,f6_I2,f6_I3⟩ := cC4 I6.out
     clear st hr f5_X0 f5_X1 f5_X2 f5_X3 f5_X4 f5_X5 f5_X6 f5_I0 f5_I1 f5_I2 f5_I3
     go_wp2_with (go_at_call 104; refine (HRO.out _ _).mono ?_; rintro e w9 ⟨rfl,rfl⟩)
     go_ret
     exact Ans.full A6.out ⟨(Aft.stop (qs := []) C6.out.1 C6.out.2).1.more (by omega) (by omega),(Aft.stop (qs := []) C6.out.1 C6.out.2).2⟩
   ·obtain ⟨x1,x2⟩ := C4.out.1.app C4.out.2 ha
    have C5 := hQ_ (And.intro x1 (x2.trans ho))
    clear x1 x2 ho ha
    have A5 := hQ_ (A4.out.step HS.out hr st)
    have X5 := hQ_ (A4.out.blk HS.out X4.out (.inl (.inr rfl)) st)
    have I5 := hQ_ (A4.out.blk HS.out I4.out (.inr rfl) st)
    obtain ⟨f5_X0,f5_X1,f5_X2,f5_X3,f5_X4,f5_X5,f5_X6⟩ := cC7 X5.out
    obtain ⟨f5_I0,f5_I1,f5_I2,f5_I3⟩ := cC4 I5.out
    clear st hr f4_X0 f4_X1 f4_X2 f4_X3 f4_X4 f4_X5 f4_X6 f4_I0 f4_I1 f4_I2 f4_I3
    go_wp2_with (go_at_call 104; refine (HRO.out _ _).mono ?_; rintro e w9 ⟨rfl,rfl⟩)
    go_ret
    exact Ans.full A5.out ⟨(Aft.stop (qs := [tieP xd (1)]) C5.out.1 C5.out.2).1.more (by omega) (by omega),(Aft.stop (qs := [tieP xd (1)]) C5.out.1 C5.out.2).2⟩
  ·obtain ⟨x1,x2⟩ := C1.out.1.app C1.out.2 ha
   have C4 := hQ_ (And.intro x1 (x2.trans ho))
   clear x1 x2 ho ha
   have A4 := hQ_ (A3.out.step HS.out hr st)
   have X4 := hQ_ (A3.out.blk HS.out X3.out (.inl (.inr rfl)) st)
   have I4 := hQ_ (A3.out.blk HS.out I3.out (.inr rfl) st)
   obtain ⟨f4_X0,f4_X1,f4_X2,f4_X3,f4_X4,f4_X5,f4_X6⟩ := cC7 X4.out
   obtain ⟨f4_I0,f4_I1,f4_I2,f4_I3⟩ := cC4 I4.out
   clear st hr f3_X0 f3_I0
   go_wp2_with (go_at_call 104; refine (HRO.out _ _).mono ?_; rintro e w9 ⟨rfl,rfl⟩)
   go_ret
   exact Ans.full A4.out ⟨(Aft.stop (qs := [hangP xd xn ino,tieP xd (1)]) C4.out.1 C4.out.2).1.more (by omega) (by omega),(Aft.stop (qs := [hangP xd xn ino,tieP xd (1)]) C4.out.1 C4.out.2).2⟩
theorem make_calls (hW0 : Wk Rep) (path : ByteArray) (kind ino : Int) (hr : Rep w v s S D) (hl : Lim s) (h2 : s.rd.length ≤ 18000) (h3 : s.rg.length ≤ 900) (hx : Mxs w S) (hp : path.size ≤ 100000) (k0 : 0 ≤ kind) (k1 : kind ≤ 255) (i0 : 0 ≤ ino) (i1 : ino ≤ 4294967295) :
 Calls Tryz.prog 78 #[v,.string path,.int .u8 kind,.int .u32 ino] w (Ans Rep v s (makV s.shown path kind ino).1 (makV s.shown path kind ino).2 41 0 S D w) := by
 unfold makV
 obtain ⟨⟨⟨xd,xn,xi,⟨xk,xl,xz,xp⟩⟩,er⟩,hR⟩ : ∃ R,findM s.shown path = R := ⟨_,rfl⟩
 have h := hR
 rw [hR]
 dsimp only
 by_cases he : er = 0
 ·rw [if_neg (fun h => h he)]
  by_cases h0 : xi = 0
  ·rw [if_neg (fun h => h h0)]
   by_cases hkd : kind = 1
   ·rw [if_pos hkd]
    exact make_file hW0 path kind ino hr hl h2 h3 hx hp k0 k1 i0 i1 h he h0 hkd
   ·rw [if_neg hkd]
    exact make_dir hW0 path kind ino hr hl h2 h3 hx hp k0 k1 i0 i1 h he h0 hkd
  ·rw [if_pos h0]
   exact make_there hW0 path kind ino hr hl h2 h3 hx hp k0 k1 i0 i1 h he h0
 ·rw [if_pos he]
  exact make_err hW0 path kind ino hr hl h2 h3 hx hp k0 k1 i0 i1 h he
end Go.Proofs.YtogdjbhjgbnicaaGreatDoor.DirsKe
namespace Go.Proofs.YtogdjbhjgbnicaaGreatDoor.DirsKf
open Go.RowKit
open Byte KeysM TreeM ViewM ViewKm NodeM NodeG NamesM NamesL WalkM WalkF WalkKm DirsV Lst Chg TreeL ViewL WalkL WalkV Vat WalkKa WalkKb DirsK DirsKa DirsKb DirsKc DirsKd
open Own hiding keeps
variable {Rep : RepT} {w : World} {v : Value} {s : Vs} {S D : Nat → Prop}
theorem first_3g (a b c : Int) (w : World) (g : Nat) (hg : w.heap.size = g) : Calls Tryz.prog 98 #[.slice (some ⟨g,0,none⟩) 3 3] (w.alloc (.cells #[.int .i64 a,.int .i64 b,.int .i64 c] 43)) fun e w' => e = .returned (.int .i64 (fst_ [a,b,c])) ∧ (w.alloc (.cells #[.int .i64 a,.int .i64 b,.int .i64 c] 43)) = w' := by
 subst hg
 exact first_3 a b c w
theorem first_3d (a b c : Int) (w : World) (g : Nat) (hg : w.heap.size = g) : Calls Tryz.prog 98 #[.slice (some ⟨g,0,none⟩) 3 3] (w.alloc (.cells #[.int .i64 a,.int .i64 b,.int .i64 c] 43)).drew fun e w' => e = .returned (.int .i64 (fst_ [a,b,c])) ∧ (w.alloc (.cells #[.int .i64 a,.int .i64 b,.int .i64 c] 43)).drew = w' := by
 subst hg
 exact first_calls _ 3 3 [a,b,c] _ ((So.lit erE 43 w (base := w.heap.size) [a,b,c] #[.int .i64 a,.int .i64 b,.int .i64 c] 3 rfl rfl (Nat.le_refl _) (by decide)).sl.below ((Below.refl _ _).drew)) (by decide)
theorem first_3b (a b c : Int) (w : World) (g : Nat) (hg : w.heap.size = g) : (Calls Tryz.prog 98 #[.slice (some ⟨g,0,none⟩) 3 3] (w.alloc (.cells #[.int .i64 a,.int .i64 b,.int .i64 c] 43)) fun e w' => e = .returned (.int .i64 (fst_ [a,b,c])) ∧ (w.alloc (.cells #[.int .i64 a,.int .i64 b,.int .i64 c] 43)) = w') ∧ (Calls Tryz.prog 98 #[.slice (some ⟨g,0,none⟩) 3 3] (w.alloc (.cells #[.int .i64 a,.int .i64 b,.int .i64 c] 43)).drew fun e w' => e = .returned (.int .i64 (fst_ [a,b,c])) ∧ (w.alloc (.cells #[.int .i64 a,.int .i64 b,.int .i64 c] 43)).drew = w') := ⟨first_3g a b c w g hg,first_3d a b c w g hg⟩
theorem rmd_err (hW0 : Wk Rep) (path : ByteArray) {xd xi xk xl xz xp er : Int} {xn : ByteArray} (hr : Rep w v s S D) (hl : Lim s) (h2 : s.rd.length ≤ 18000) (h3 : s.rg.length ≤ 900) (hx : Mxs w S) (hp : path.size ≤ 100000) (hR : findM s.shown path = (⟨xd,xn,xi,⟨xk,xl,xz,xp⟩⟩,er)) (hk : ∀ p ∈ s.shown,(sp p.key).letter ≠ 0) (he : er ≠ 0) :
 Calls Tryz.prog 88 #[v,.string path] w (Ans Rep v s er [] 41 1 S D w) := by
 have A0 := hQ_ (At.start hr)
 have HX := hQ_ hx
 have HS := hQ_ hW0.stays
 have HL := hQ_ hl
 have C0 := hQ_ (aft0 s)
 have HWT := hQ_ when_t
 have HWF := hQ_ when_f
 have HFI := hQ_ (fun w (S D : Nat → Prop) (t : Vs) (hr : Rep w v t S D) (hsm : Sm t s) hl h2 hx => find_c hW0 path hR hr hsm hl h2 hp hx)
 unfold FndC at HFI
 have hsbx := find_bd s.shown path
 have hibx := find_ib s.shown path
 rw [hR] at hsbx hibx
 obtain ⟨x0,x1,x2,x3,x4⟩ := hsbx
 dsimp only at x0 x1 x2 x3 x4 HFI hibx
 have d0 : (er != 0) = true := by simpa using he
 clear hr hl hp hR hx hW0 hk
 rcases (show (xi ≠ 1 ∧ xi ≠ 0) ∨ (xi ≠ 1 ∧ xi = 0) ∨ xi = 1 by omega) with h0 | h0 | h0
 ·have d1 : (xi == 1) = false := by simp; omega
  have d2 : (xi == 0) = false := by simp; omega
  clear h0
  go_enter Tryz.func88,Tryz.ntmps88
  go_wp2_with fail
  refine (HFI.out _ _ _ _ A0.out.rep (Aft.sm0 C0.out.1) (lim_aft C0.out.1 HL.out (by omega) (by omega)) (by have := C0.out.1.rd; omega) (HX.out.at_ A0.out).1).mono ?_
  rintro e w1 ⟨s1,S1,D1,rfl,hr,st,hsm,hrd,hrg⟩
  have C1 := hQ_ (aftF C0.out hsm hrd hrg)
  have X1 := hQ_ (Blk.new_ w1 #[.int .u32 xd,.string xn,.int .u32 xi,.int .u8 xk,.int .u32 xl,.int .u32 xz,.int .u32 xp] 150)
  have hbn := bX_ X1.out
  have AQ := A0.out.step HS.out hr st
  have A1 := hQ_ (AQ.own HS.out hbn (Nat.le_refl w1.heap.size) (by simp))
  have f1_X0 := cC7 X1.out
  clear hr st hsm hrd hrg hbn AQ
  have FE2 : fst_ [er,0,0] = er := by unfold fst_; rw [if_neg he]
  have HF2 := hQ_ (first_3b (er) (0) (0) (w1.alloc (.cells #[.int .u32 xd,.string xn,.int .u32 xi,.int .u8 xk,.int .u32 xl,.int .u32 xz,.int .u32 xp] 150)) (w1.heap.size + 1) (by simp))
  rw [FE2] at HF2
  clear FE2
  go_upto_region 2 with (fail)
  go_cut [7] (fun p wx => p = .int .i64 (er) ∧ BL_ (w1.alloc (.cells #[.int .u32 xd,.string xn,.int .u32 xi,.int .u8 xk,.int .u32 xl,.int .u32 xz,.int .u32 xp] 150)) wx)
  case first =>
   go_region_law (first | (go_simp; go_at_call 99; (with_reducible refine (HWT.out _ _).mono ?_); rintro e w9 ⟨rfl,rfl⟩) | (go_simp; go_at_call 99; (with_reducible refine (HWF.out _ _).mono ?_); rintro e w9 ⟨rfl,rfl⟩) | (go_simp; go_at_call 98; (first | (with_reducible refine HF2.out.1.mono ?_) | (with_reducible refine HF2.out.2.mono ?_)); rintro e w9 ⟨rfl,rfl⟩))
   all_goals
    go_wp2_with fail
    go_meet
    exact fB_
  case rest =>
   obtain ⟨rfl,hbc⟩ := hcut
   have A2 := hQ_ (A1.out.below HS.out hbc)
   have X2 := hQ_ (X1.out.below hbc)
   skip
   have f2_X0 := cC7 X2.out
   clear hbc f1_X0
   clear he
   go_wp2_with fail
   go_ret
   exact Ans.ok A2.out ⟨C1.out.1.more (by omega) (by omega),C1.out.2⟩
 ·have d1 : (xi == 1) = false := by simp; omega
  have d2 : (xi == 0) = true := by simp; omega
  clear h0
  go_enter Tryz.func88,Tryz.ntmps88
  go_wp2_with fail
  refine (HFI.out _ _ _ _ A0.out.rep (Aft.sm0 C0.out.1) (lim_aft C0.out.1 HL.out (by omega) (by omega)) (by have := C0.out.1.rd; omega) (HX.out.at_ A0.out).1).mono ?_
  rintro e w3 ⟨s3,S3,D3,rfl,hr,st,hsm,hrd,hrg⟩
  have C3 := hQ_ (aftF C0.out hsm hrd hrg)
  have X3 := hQ_ (Blk.new_ w3 #[.int .u32 xd,.string xn,.int .u32 xi,.int .u8 xk,.int .u32 xl,.int .u32 xz,.int .u32 xp] 150)
  have hbn := bX_ X3.out
  have AQ := A0.out.step HS.out hr st
  have A3 := hQ_ (AQ.own HS.out hbn (Nat.le_refl w3.heap.size) (by simp))
  have f3_X0 := cC7 X3.out
  clear hr st hsm hrd hrg hbn AQ
  have FE4 : fst_ [er,0,10] = er := by unfold fst_; rw [if_neg he]
  have HF4 := hQ_ (first_3b (er) (0) (10) (w3.alloc (.cells #[.int .u32 xd,.string xn,.int .u32 xi,.int .u8 xk,.int .u32 xl,.int .u32 xz,.int .u32 xp] 150)) (w3.heap.size + 1) (by simp))
  rw [FE4] at HF4
  clear FE4
  go_upto_region 2 with (fail)
  go_cut [7] (fun p wx => p = .int .i64 (er) ∧ BL_ (w3.alloc (.cells #[.int .u32 xd,.string xn,.int .u32 xi,.int .u8 xk,.int .u32 xl,.int .u32 xz,.int .u32 xp] 150)) wx)
  case first =>
   go_region_law (first | (go_simp; go_at_call 99; (with_reducible refine (HWT.out _ _).mono ?_); rintro e w9 ⟨rfl,rfl⟩) | (go_simp; go_at_call 99; (with_reducible refine (HWF.out _ _).mono ?_); rintro e w9 ⟨rfl,rfl⟩) | (go_simp; go_at_call 98; (first | (with_reducible refine HF4.out.1.mono ?_) | (with_reducible refine HF4.out.2.mono ?_)); rintro e w9 ⟨rfl,rfl⟩))
   all_goals
    go_wp2_with fail
    go_meet
    exact fB_
  case rest =>
   obtain ⟨rfl,hbc⟩ := hcut
   have A4 := hQ_ (A3.out.below HS.out hbc)
   have X4 := hQ_ (X3.out.below hbc)
   skip
   have f4_X0 := cC7 X4.out
   clear hbc f3_X0
   clear he
   go_wp2_with fail
   go_ret
   exact Ans.ok A4.out ⟨C3.out.1.more (by omega) (by omega),C3.out.2⟩
 ·have d1 : (xi == 1) = true := by simp; omega
  have d2 : (xi == 0) = false := by simp; omega
  clear h0
  go_enter Tryz.func88,Tryz.ntmps88
  go_wp2_with fail
  refine (HFI.out _ _ _ _ A0.out.rep (Aft.sm0 C0.out.1) (lim_aft C0.out.1 HL.out (by omega) (by omega)) (by have := C0.out.1.rd; omega) (HX.out.at_ A0.out).1).mono ?_
  rintro e w5 ⟨s5,S5,D5,rfl,hr,st,hsm,hrd,hrg⟩
  have C5 := hQ_ (aftF C0.out hsm hrd hrg)
  have X5 := hQ_ (Blk.new_ w5 #[.int .u32 xd,.string xn,.int .u32 xi,.int .u8 xk,.int .u32 xl,.int .u32 xz,.int .u32 xp] 150)
  have hbn := bX_ X5.out
  have AQ := A0.out.step HS.out hr st
  have A5 := hQ_ (AQ.own HS.out hbn (Nat.le_refl w5.heap.size) (by simp))
  have f5_X0 := cC7 X5.out
  clear hr st hsm hrd hrg hbn AQ
  have FE6 : fst_ [er,29,0] = er := by unfold fst_; rw [if_neg he]
  have HF6 := hQ_ (first_3b (er) (29) (0) (w5.alloc (.cells #[.int .u32 xd,.string xn,.int .u32 xi,.int .u8 xk,.int .u32 xl,.int .u32 xz,.int .u32 xp] 150)) (w5.heap.size + 1) (by simp))
  rw [FE6] at HF6
  clear FE6
  go_upto_region 2 with (fail)
  go_cut [7] (fun p wx => p = .int .i64 (er) ∧ BL_ (w5.alloc (.cells #[.int .u32 xd,.string xn,.int .u32 xi,.int .u8 xk,.int .u32 xl,.int .u32 xz,.int .u32 xp] 150)) wx)
  case first =>
   go_region_law (first | (go_simp; go_at_call 99; (with_reducible refine (HWT.out _ _).mono ?_); rintro e w9 ⟨rfl,rfl⟩) | (go_simp; go_at_call 99; (with_reducible refine (HWF.out _ _).mono ?_); rintro e w9 ⟨rfl,rfl⟩) | (go_simp; go_at_call 98; (first | (with_reducible refine HF6.out.1.mono ?_) | (with_reducible refine HF6.out.2.mono ?_)); rintro e w9 ⟨rfl,rfl⟩))
   all_goals
    go_wp2_with fail
    go_meet
    exact fB_
  case rest =>
   obtain ⟨rfl,hbc⟩ := hcut
   have A6 := hQ_ (A5.out.below HS.out hbc)
   have X6 := hQ_ (X5.out.below hbc)
   skip
   have f6_X0 := cC7 X6.out
   clear hbc f5_X0
   clear he
   go_wp2_with fail
   go_ret
   exact Ans.ok A6.out ⟨C5.out.1.more (by omega) (by omega),C5.out.2⟩
theorem rmd_root (hW0 : Wk Rep) (path : ByteArray) {xd xi xk xl xz xp er : Int} {xn : ByteArray} (hr : Rep w v s S D) (hl : Lim s) (h2 : s.rd.length ≤ 18000) (h3 : s.rg.length ≤ 900) (hx : Mxs w S) (hp : path.size ≤ 100000) (hR : findM s.shown path = (⟨xd,xn,xi,⟨xk,xl,xz,xp⟩⟩,er)) (hk : ∀ p ∈ s.shown,(sp p.key).letter ≠ 0) (he : er = 0) (h1 : xi = 1) :
 Calls Tryz.prog 88 #[v,.string path] w (Ans Rep v s 29 [] 41 1 S D w) := by
 have A0 := hQ_ (At.start hr)
 have HX := hQ_ hx
 have HS := hQ_ hW0.stays
 have HL := hQ_ hl
 have C0 := hQ_ (aft0 s)
 have HWT := hQ_ when_t
 have HWF := hQ_ when_f
 have HFI := hQ_ (fun w (S D : Nat → Prop) (t : Vs) (hr : Rep w v t S D) (hsm : Sm t s) hl h2 hx => find_c hW0 path hR hr hsm hl h2 hp hx)
 unfold FndC at HFI
 have hsbx := find_bd s.shown path
 have hibx := find_ib s.shown path
 rw [hR] at hsbx hibx
 obtain ⟨x0,x1,x2,x3,x4⟩ := hsbx
 dsimp only at x0 x1 x2 x3 x4 HFI hibx
 subst he
 have d1 : (xi == 1) = true := by simpa using h1
 have d2 : (xi == 0) = false := by simp; omega
 clear hr hl hp hR hx hW0 hk h1
 go_enter Tryz.func88,Tryz.ntmps88
 go_wp2_with fail
 refine (HFI.out _ _ _ _ A0.out.rep (Aft.sm0 C0.out.1) (lim_aft C0.out.1 HL.out (by omega) (by omega)) (by have := C0.out.1.rd; omega) (HX.out.at_ A0.out).1).mono ?_
 rintro e w1 ⟨s1,S1,D1,rfl,hr,st,hsm,hrd,hrg⟩
 have C1 := hQ_ (aftF C0.out hsm hrd hrg)
 have X1 := hQ_ (Blk.new_ w1 #[.int .u32 xd,.string xn,.int .u32 xi,.int .u8 xk,.int .u32 xl,.int .u32 xz,.int .u32 xp] 150)
 have hbn := bX_ X1.out
 have AQ := A0.out.step HS.out hr st
 have A1 := hQ_ (AQ.own HS.out hbn (Nat.le_refl w1.heap.size) (by simp))
 have f1_X0 := cC7 X1.out
 clear hr st hsm hrd hrg hbn AQ
 have FE2 : fst_ [0,29,0] = 29 := rfl
 have HF2 := hQ_ (first_3b (0) (29) (0) (w1.alloc (.cells #[.int .u32 xd,.string xn,.int .u32 xi,.int .u8 xk,.int .u32 xl,.int .u32 xz,.int .u32 xp] 150)) (w1.heap.size + 1) (by simp))
 rw [FE2] at HF2
 clear FE2
 go_upto_region 2 with (fail)
 go_cut [7] (fun p wx => p = .int .i64 (29) ∧ BL_ (w1.alloc (.cells #[.int .u32 xd,.string xn,.int .u32 xi,.int .u8 xk,.int .u32 xl,.int .u32 xz,.int .u32 xp] 150)) wx)
 case first =>
  go_region_law (first | (go_simp; go_at_call 99; (with_reducible refine (HWT.out _ _).mono ?_); rintro e w9 ⟨rfl,rfl⟩) | (go_simp; go_at_call 99; (with_reducible refine (HWF.out _ _).mono ?_); rintro e w9 ⟨rfl,rfl⟩) | (go_simp; go_at_call 98; (first | (with_reducible refine HF2.out.1.mono ?_) | (with_reducible refine HF2.out.2.mono ?_)); rintro e w9 ⟨rfl,rfl⟩))
  all_goals
   go_wp2_with fail
   go_meet
   exact fB_
 case rest =>
  obtain ⟨rfl,hbc⟩ := hcut
  have A2 := hQ_ (A1.out.below HS.out hbc)
  have X2 := hQ_ (X1.out.below hbc)
  skip
  have f2_X0 := cC7 X2.out
  clear hbc f1_X0
  go_wp2_with fail
  go_ret
  exact Ans.ok A2.out ⟨C1.out.1.more (by omega) (by omega),C1.out.2⟩
theorem rmd_none (hW0 : Wk Rep) (path : ByteArray) {xd xi xk xl xz xp er : Int} {xn : ByteArray} (hr : Rep w v s S D) (hl : Lim s) (h2 : s.rd.length ≤ 18000) (h3 : s.rg.length ≤ 900) (hx : Mxs w S) (hp : path.size ≤ 100000) (hR : findM s.shown path = (⟨xd,xn,xi,⟨xk,xl,xz,xp⟩⟩,er)) (hk : ∀ p ∈ s.shown,(sp p.key).letter ≠ 0) (he : er = 0) (h0 : xi = 0) :
 Calls Tryz.prog 88 #[v,.string path] w (Ans Rep v s 10 [] 41 1 S D w) := by
 have A0 := hQ_ (At.start hr)
 have HX := hQ_ hx
 have HS := hQ_ hW0.stays
 have HL := hQ_ hl
 have C0 := hQ_ (aft0 s)
 have HWT := hQ_ when_t
 have HWF := hQ_ when_f
 have HFI := hQ_ (fun w (S D : Nat → Prop) (t : Vs) (hr : Rep w v t S D) (hsm : Sm t s) hl h2 hx => find_c hW0 path hR hr hsm hl h2 hp hx)
 unfold FndC at HFI
 have hsbx := find_bd s.shown path
 have hibx := find_ib s.shown path
 rw [hR] at hsbx hibx
 obtain ⟨x0,x1,x2,x3,x4⟩ := hsbx
 dsimp only at x0 x1 x2 x3 x4 HFI hibx
 subst he
 have d1 : (xi == 1) = false := by simp; omega
 have d2 : (xi == 0) = true := by simpa using h0
 clear hr hl hp hR hx hW0 hk h0
 go_enter Tryz.func88,Tryz.ntmps88
 go_wp2_with fail
 refine (HFI.out _ _ _ _ A0.out.rep (Aft.sm0 C0.out.1) (lim_aft C0.out.1 HL.out (by omega) (by omega)) (by have := C0.out.1.rd; omega) (HX.out.at_ A0.out).1).mono ?_
 rintro e w1 ⟨s1,S1,D1,rfl,hr,st,hsm,hrd,hrg⟩
 have C1 := hQ_ (aftF C0.out hsm hrd hrg)
 have X1 := hQ_ (Blk.new_ w1 #[.int .u32 xd,.string xn,.int .u32 xi,.int .u8 xk,.int .u32 xl,.int .u32 xz,.int .u32 xp] 150)
 have hbn := bX_ X1.out
 have AQ := A0.out.step HS.out hr st
 have A1 := hQ_ (AQ.own HS.out hbn (Nat.le_refl w1.heap.size) (by simp))
 have f1_X0 := cC7 X1.out
 clear hr st hsm hrd hrg hbn AQ
 have FE2 : fst_ [0,0,10] = 10 := rfl
 have HF2 := hQ_ (first_3b (0) (0) (10) (w1.alloc (.cells #[.int .u32 xd,.string xn,.int .u32 xi,.int .u8 xk,.int .u32 xl,.int .u32 xz,.int .u32 xp] 150)) (w1.heap.size + 1) (by simp))
 rw [FE2] at HF2
 clear FE2
 go_upto_region 2 with (fail)
 go_cut [7] (fun p wx => p = .int .i64 (10) ∧ BL_ (w1.alloc (.cells #[.int .u32 xd,.string xn,.int .u32 xi,.int .u8 xk,.int .u32 xl,.int .u32 xz,.int .u32 xp] 150)) wx)
 case first =>
  go_region_law (first | (go_simp; go_at_call 99; (with_reducible refine (HWT.out _ _).mono ?_); rintro e w9 ⟨rfl,rfl⟩) | (go_simp; go_at_call 99; (with_reducible refine (HWF.out _ _).mono ?_); rintro e w9 ⟨rfl,rfl⟩) | (go_simp; go_at_call 98; (first | (with_reducible refine HF2.out.1.mono ?_) | (with_reducible refine HF2.out.2.mono ?_)); rintro e w9 ⟨rfl,rfl⟩))
  all_goals
   go_wp2_with fail
   go_meet
   exact fB_
 case rest =>
  obtain ⟨rfl,hbc⟩ := hcut
  have A2 := hQ_ (A1.out.below HS.out hbc)
  have X2 := hQ_ (X1.out.below hbc)
  skip
  have f2_X0 := cC7 X2.out
  clear hbc f1_X0
  go_wp2_with fail
  go_ret
  exact Ans.ok A2.out ⟨C1.out.1.more (by omega) (by omega),C1.out.2⟩
theorem rmd_there (hW0 : Wk Rep) (path : ByteArray) {xd xi xk xl xz xp er : Int} {xn : ByteArray} (hr : Rep w v s S D) (hl : Lim s) (h2 : s.rd.length ≤ 18000) (h3 : s.rg.length ≤ 900) (hx : Mxs w S) (hp : path.size ≤ 100000) (hR : findM s.shown path = (⟨xd,xn,xi,⟨xk,xl,xz,xp⟩⟩,er)) (hk : ∀ p ∈ s.shown,(sp p.key).letter ≠ 0) (he : er = 0) (h0 : xi ≠ 0) (h1 : xi ≠ 1) :
 Calls Tryz.prog 88 #[v,.string path] w (Ans Rep v s (remV s.shown ⟨xd,xn,xi,⟨xk,xl,xz,xp⟩⟩).1 (remV s.shown ⟨xd,xn,xi,⟨xk,xl,xz,xp⟩⟩).2 41 1 S D w) := by
 have A0 := hQ_ (At.start hr)
 have HX := hQ_ hx
 have HS := hQ_ hW0.stays
 have HL := hQ_ hl
 have C0 := hQ_ (aft0 s)
 have HWT := hQ_ when_t
 have HWF := hQ_ when_f
 have HFI := hQ_ (fun w (S D : Nat → Prop) (t : Vs) (hr : Rep w v t S D) (hsm : Sm t s) hl h2 hx => find_c hW0 path hR hr hsm hl h2 hp hx)
 unfold FndC at HFI
 have hsbx := find_bd s.shown path
 have hibx := find_ib s.shown path
 rw [hR] at hsbx hibx
 obtain ⟨x0,x1,x2,x3,x4⟩ := hsbx
 dsimp only at x0 x1 x2 x3 x4 HFI hibx
 subst he
 have d1 : (xi == 1) = false := by simpa using h1
 have d2 : (xi == 0) = false := by simpa using h0
 have HC := hQ_ (fun w (S D : Nat → Prop) (t : Vs) (hr : Rep w v t S D) (hsm : Sm t s) hl h2 h3 => show Calls _ _ _ _ (Ans Rep v t (remV s.shown ⟨xd,xn,xi,⟨xk,xl,xz,xp⟩⟩).1 (remV s.shown ⟨xd,xn,xi,⟨xk,xl,xz,xp⟩⟩).2 1 1 S D w) by rw [← hsm.shown]; exact remove_calls hW0 xd xi xk xl xz xp xn hr hl h2 h3 x0 x1 x2 x3 (by omega) (by rw [hsm.shown]; exact hk))
 obtain ⟨⟨rx,ps⟩,hrx⟩ : ∃ r,remV s.shown ⟨xd,xn,xi,⟨xk,xl,xz,xp⟩⟩ = r := ⟨_,rfl⟩
 rw [hrx] at HC ⊢
 dsimp only at HC ⊢
 clear hrx h0 h1
 clear hr hl hp hR hx hW0 hk
 go_enter Tryz.func88,Tryz.ntmps88
 go_wp2_with fail
 refine (HFI.out _ _ _ _ A0.out.rep (Aft.sm0 C0.out.1) (lim_aft C0.out.1 HL.out (by omega) (by omega)) (by have := C0.out.1.rd; omega) (HX.out.at_ A0.out).1).mono ?_
 rintro e w1 ⟨s1,S1,D1,rfl,hr,st,hsm,hrd,hrg⟩
 have C1 := hQ_ (aftF C0.out hsm hrd hrg)
 have X1 := hQ_ (Blk.new_ w1 #[.int .u32 xd,.string xn,.int .u32 xi,.int .u8 xk,.int .u32 xl,.int .u32 xz,.int .u32 xp] 150)
 have hbn := bX_ X1.out
 have AQ := A0.out.step HS.out hr st
 have A1 := hQ_ (AQ.own HS.out hbn (Nat.le_refl w1.heap.size) (by simp))
 have f1_X0 := cC7 X1.out
 clear hr st hsm hrd hrg hbn AQ
 have FE2 : fst_ [0,0,0] = 0 := rfl
 have HF2 := hQ_ (first_3b (0) (0) (0) (w1.alloc (.cells #[.int .u32 xd,.string xn,.int .u32 xi,.int .u8 xk,.int .u32 xl,.int .u32 xz,.int .u32 xp] 150)) (w1.heap.size + 1) (by simp))
 rw [FE2] at HF2
 clear FE2
 go_upto_region 2 with (fail)
 go_cut [7] (fun p wx => p = .int .i64 (0) ∧ BL_ (w1.alloc (.cells #[.int .u32 xd,.string xn,.int .u32 xi,.int .u8 xk,.int .u32 xl,.int .u32 xz,.int .u32 xp] 150)) wx)
 case first =>
  go_region_law (first | (go_simp; go_at_call 99; (with_reducible refine (HWT.out _ _).mono ?_); rintro e w9 ⟨rfl,rfl⟩) | (go_simp; go_at_call 99; (with_reducible refine (HWF.out _ _).mono ?_); rintro e w9 ⟨rfl,rfl⟩) | (go_simp; go_at_call 98; (first | (with_reducible refine HF2.out.1.mono ?_) | (with_reducible refine HF2.out.2.mono ?_)); rintro e w9 ⟨rfl,rfl⟩))
  all_goals
   go_wp2_with fail
   go_meet
   exact fB_
 case rest =>
  obtain ⟨rfl,hbc⟩ := hcut
  have A2 := hQ_ (A1.out.below HS.out hbc)
  have X2 := hQ_ (X1.out.below hbc)
  skip
  have f2_X0 := cC7 X2.out
  clear hbc f1_X0
  go_wp2_with fail
  refine (HC.out _ _ _ _ A2.out.rep (Aft.sm0 C1.out.1) (lim_aft C1.out.1 HL.out (by omega) (by omega)) (by have := C1.out.1.rd; omega) (by have := C1.out.1.rg; omega)).mono ?_
  intro e w3 hh
  rcases Ans.split hh with ⟨s3,S3,D3,rfl,ho,hr,st,ha⟩ | ⟨s3,S3,D3,rfl,ho,hr,st,ha⟩
  ·have A3 := hQ_ (A2.out.step HS.out hr st)
   have C3 := hQ_ (Aft.thru C1.out (And.intro ha ho))
   clear hr st ha ho
   go_wp2_with fail
   go_ret
   exact Ans.ok A3.out ⟨C3.out.1.more (by omega) (by omega),C3.out.2⟩
  ·have A3 := hQ_ (A2.out.step HS.out hr st)
   have C3 := hQ_ (Aft.thru C1.out (And.intro ha ho))
   clear hr st ha ho
   go_wp2_with fail
   go_ret
   exact Ans.full A3.out ⟨C3.out.1.more (by omega) (by omega),C3.out.2⟩
theorem rmd_calls (hW0 : Wk Rep) (path : ByteArray) (hr : Rep w v s S D) (hl : Lim s) (h2 : s.rd.length ≤ 18000) (h3 : s.rg.length ≤ 900) (hx : Mxs w S) (hp : path.size ≤ 100000) (hk : ∀ p ∈ s.shown,(sp p.key).letter ≠ 0) :
 Calls Tryz.prog 88 #[v,.string path] w (Ans Rep v s (rmdV s.shown path).1 (rmdV s.shown path).2 41 1 S D w) := by
 unfold rmdV
 obtain ⟨⟨⟨xd,xn,xi,⟨xk,xl,xz,xp⟩⟩,er⟩,hR⟩ : ∃ R,findM s.shown path = R := ⟨_,rfl⟩
 have h := hR
 rw [hR]
 dsimp only
 by_cases he : er = 0
 ·rw [if_neg (fun h => h he)]
  by_cases h1 : xi = 1
  ·rw [if_pos h1]
   exact rmd_root hW0 path hr hl h2 h3 hx hp h hk he h1
  ·rw [if_neg h1]
   by_cases h0 : xi = 0
   ·rw [if_pos h0]
    exact rmd_none hW0 path hr hl h2 h3 hx hp h hk he h0
   ·rw [if_neg h0]
    exact rmd_there hW0 path hr hl h2 h3 hx hp h hk he h0 h1
 ·rw [if_pos he]
  exact rmd_err hW0 path hr hl h2 h3 hx hp h hk he
end Go.Proofs.YtogdjbhjgbnicaaGreatDoor.DirsKf