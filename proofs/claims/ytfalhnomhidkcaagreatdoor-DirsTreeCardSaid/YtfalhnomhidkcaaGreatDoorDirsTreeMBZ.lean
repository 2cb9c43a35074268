import Derived.Test.YtfalhnomhidkcaaGreatDoorDirsTreeMBY
import Derived.Test.YtfalhnomhidkcaaGreatDoorSq
import Derived.Test.YtfalhnomhidkcaaGreatDoorDirsRc
import Derived.Test.YtfalhnomhidkcaaGreatDoorDirsTreeMBV
import Derived.Test.YtfalhnomhidkcaaGreatDoorArgs
import Derived.Test.YtfalhnomhidkcaaGreatDoorDirsRa
import Derived.Test.YtfalhnomhidkcaaGreatDoorProg
import Derived.Maps.Own
import Derived.Maps.OwnOps
import Derived.Maps.Views
import Derived.Test.YtfalhnomhidkcaaGreatDoorOwn
import Derived.Test.YtfalhnomhidkcaaGreatDoorChg
import Derived.Test.YtfalhnomhidkcaaGreatDoorNodeR
import Derived.Handed
import Derived.SizedLaws
set_option linter.unusedVariables false
set_option linter.unusedSimpArgs false
namespace Go.Proofs.YtfalhnomhidkcaaGreatDoor.DirsLc
open Go.RowKit
open Byte KeysM TreeM ViewM NamesM Lst Tx WalkM WalkF WalkKm Chg ViewL WalkL DirsM DirsV DirsR DirsK DirsKa DirsKc DirsL DirsLa DirsLb DirsY DirsS DirsZ DirsZa DirsZb
open DirsX hiding gk
open DirsT (Ac)
open DirsTa
open ViewR (Sh)
variable {Rep : RepT}
def InB (b : Int) (F : Fs) : Prop := ∀ n ∈ F,n.ino ≤ b
section
variable {F : Fs} {b : Int}
theorem mem_withL (n : Nd) : ∀ (f : Fs) (d : Bool) {x : Nd},x ∈ withL n d f → x = n ∨ x ∈ f
 | [],d,x,h => by
   unfold withL at h
   split at h
   ·cases h
   ·exact .inl (List.mem_singleton.1 h)
 | y :: r,d,x,h => by
   unfold withL at h
   split at h
   ·rcases List.mem_cons.1 h with h | h
    ·exact .inl h
    ·rcases mem_withL n r true h with h | h
     ·exact .inl h
     ·exact .inr (List.mem_cons_of_mem _ h)
   ·rcases List.mem_cons.1 h with h | h
    ·exact .inr (by rw [h]; exact List.mem_cons_self)
    ·rcases mem_withL n r d h with h | h
     ·exact .inl h
     ·exact .inr (List.mem_cons_of_mem _ h)
theorem InB.with_ (h : InB b F) {n : Nd} (hn : n.ino ≤ b) : InB b (withM F n) := fun x hx => by
 rcases mem_withL n F false hx with rfl | hx
 ·exact hn
 ·exact h x hx
theorem InB.wo (h : InB b F) (i : Int) : InB b (withoutM F i) := fun x hx => h x (mem_wo.1 hx).1
theorem InB.named (h : InB b F) (d : Int) (nm : ByteArray) (i : Int) : InB b (namedM F d nm i) := by
 unfold namedM
 split
 ·rename_i n hn
  exact h.with_ (h n (node_mem hn).1)
 ·exact h
theorem InB.linked (h : InB b F) (i y : Int) : InB b (linkedM F i y) := by
 unfold linkedM
 split
 ·rename_i n hn
  exact h.with_ (h n (node_mem hn).1)
 ·exact h
theorem InB.make (h : InB b F) (path : ByteArray) (kind : Int) {ino : Int} (hi : ino ≤ b) : InB b (makeM F path kind ino).2 := by
 unfold makeM
 split
 ·exact h
 ·split
  ·exact h
  ·unfold makeAt
   refine InB.named ?_ _ _ _
   split
   ·exact h.with_ hi
   ·exact (h.with_ (n := ⟨ino,2,2,NE,[]⟩) hi).linked _ _
theorem InB.remAt (h : InB b F) (s : Spt) : InB b (removeAt F s).2 := by
 unfold removeAt
 split
 ·exact h
 ·split
  ·exact h
  ·split
   ·exact h
   ·exact ((h.wo _).linked _ _).named _ _ _
theorem InB.unlAt (h : InB b F) (s : Spt) : InB b (unlinkAt F s).2 := by
 unfold unlinkAt
 split
 ·exact h
 ·split
  ·exact h
  ·refine InB.named ?_ _ _ _
   split
   ·exact h.wo _
   ·exact h.linked _ _
theorem InB.rem (h : InB b F) (path : ByteArray) : InB b (removeM F path).2 := by
 unfold removeM
 split
 ·exact h
 ·split
  ·exact h
  ·split
   ·exact h
   ·exact h.remAt _
theorem InB.unl (h : InB b F) (path : ByteArray) : InB b (unlinkM F path).2 := by
 unfold unlinkM
 split
 ·exact h
 ·split
  ·exact h
  ·exact h.unlAt _
theorem InB.lnk (h : InB b F) (old path : ByteArray) : InB b (linkM F old path).2 := by
 unfold linkM
 split
 ·exact h
 ·split
  ·exact h
  ·split
   ·exact h
   ·split
    ·exact h
    ·split
     ·exact h
     ·split
      ·exact h
      ·split
       ·exact h
       ·exact (h.linked _ _).named _ _ _
theorem InB.clr (h : InB b F) (t : Spt) (dir : Bool) : InB b (clearAt F t dir).2 := by
 unfold clearAt
 split
 ·exact h
 ·split
  ·exact h.remAt _
  ·exact h.unlAt _
theorem InB.mov (h : InB b F) (s t : Spt) (dir : Bool) : InB b (moveAt F s t dir) := by
 unfold moveAt
 split
 ·exact (((h.named _ _ _).named _ _ _).linked _ _).linked _ _
 ·exact (h.named _ _ _).named _ _ _
theorem InB.ren (h : InB b F) (old path : ByteArray) : InB b (renameM F old path).2 := by
 unfold renameM
 split
 ·exact h
 ·split
  ·exact h
  ·split
   ·exact h
   ·split
    ·exact h
    ·split
     ·exact h
     ·split
      ·exact h
      ·split
       ·exact h
       ·split
        ·exact h
        ·split
         ·exact h
         ·exact (h.clr _ _).mov _ _ _
end
theorem findl_er (L : List Pr) : ∀ (l : List ByteArray) (x : Spot),(findL L x l).2 ≠ 21
 | [],x => (by decide : (0 : Int) ≠ 21)
 | nm :: r,x => by
   unfold findL
   split
   ·decide
   ·split
    ·decide
    ·exact findl_er L r _
theorem find_er (L : List Pr) (p : ByteArray) : (findM L p).2 ≠ 21 := by
 unfold findM
 split
 ·rcases spl_err p with h | h | h <;> rw [h] <;> decide
 ·exact findl_er L _ _
theorem rem_er (L : List Pr) (x : Spot) : (remV L x).1 ≠ 21 ∧ (remV L x).2.length ≤ 3 := by
 unfold remV
 split
 ·exact ⟨by decide,by decide⟩
 ·split
  ·exact ⟨by decide,by decide⟩
  ·exact ⟨(by decide : (0 : Int) ≠ 21),Nat.le_refl 3⟩
theorem unl_er (x : Spot) : (unlV x).1 ≠ 21 ∧ (unlV x).2.length ≤ 3 := by
 unfold unlV
 split
 ·exact ⟨by decide,by decide⟩
 ·split
  ·exact ⟨(by decide : (0 : Int) ≠ 21),Nat.le_succ 2⟩
  ·exact ⟨(by decide : (0 : Int) ≠ 21),Nat.le_succ 2⟩
theorem clr_er (L : List Pr) (x : Spot) (d : Bool) : (clrV L x d).1 ≠ 21 ∧ (clrV L x d).2.length ≤ 3 := by
 unfold clrV
 split
 ·exact ⟨by decide,by decide⟩
 ·split
  ·exact rem_er L x
  ·exact unl_er x
theorem mak_er (L : List Pr) (p : ByteArray) (k i : Int) : (makV L p k i).1 ≠ 21 ∧ (makV L p k i).2.length ≤ 8 := by
 unfold makV
 split
 ·exact ⟨find_er L p,Nat.zero_le 8⟩
 ·split
  ·exact ⟨by decide,by decide⟩
  ·split
   ·exact ⟨(by decide : (0 : Int) ≠ 21),by show 2 ≤ 8; decide⟩
   ·exact ⟨(by decide : (0 : Int) ≠ 21),by show 3 ≤ 8; decide⟩
theorem rmd_er (L : List Pr) (p : ByteArray) : (rmdV L p).1 ≠ 21 ∧ (rmdV L p).2.length ≤ 8 := by
 unfold rmdV
 split
 ·exact ⟨find_er L p,Nat.zero_le 8⟩
 ·split
  ·exact ⟨by decide,by decide⟩
  ·split
   ·exact ⟨by decide,by decide⟩
   ·have := rem_er L (findM L p).1
    exact ⟨this.1,by omega⟩
theorem ulk_er (L : List Pr) (p : ByteArray) : (ulkV L p).1 ≠ 21 ∧ (ulkV L p).2.length ≤ 8 := by
 unfold ulkV
 split
 ·exact ⟨find_er L p,Nat.zero_le 8⟩
 ·split
  ·exact ⟨by decide,by decide⟩
  ·have := unl_er (findM L p).1
   exact ⟨this.1,by omega⟩
theorem lnk_er (L : List Pr) (o p : ByteArray) : (lnkV L o p).1 ≠ 21 ∧ (lnkV L o p).2.length ≤ 8 := by
 unfold lnkV
 split
 ·exact ⟨find_er L o,Nat.zero_le 8⟩
 ·split
  ·exact ⟨by decide,by decide⟩
  ·split
   ·exact ⟨by decide,by decide⟩
   ·split
    ·exact ⟨find_er L p,Nat.zero_le 8⟩
    ·split
     ·exact ⟨by decide,by decide⟩
     ·split
      ·exact ⟨by decide,by decide⟩
      ·exact ⟨(by decide : (0 : Int) ≠ 21),by show 2 ≤ 8; decide⟩
theorem mov_len (x y : Spot) : (movPs x y).length ≤ 5 := by
 unfold movPs
 split
 ·exact Nat.le_refl 5
 ·show 2 ≤ 5; decide
theorem ren_er (L : List Pr) (o p : ByteArray) : (renV L o p).1 ≠ 21 ∧ (renV L o p).2.length ≤ 8 := by
 unfold renV
 split
 ·exact ⟨find_er L o,Nat.zero_le 8⟩
 ·split
  ·exact ⟨by decide,by decide⟩
  ·split
   ·exact ⟨by decide,by decide⟩
   ·split
    ·exact ⟨find_er L p,Nat.zero_le 8⟩
    ·split
     ·exact ⟨by decide,by decide⟩
     ·split
      ·exact ⟨by decide,by decide⟩
      ·split
       ·exact ⟨by decide,by decide⟩
       ·have h1 := clr_er L (findM L p).1 (decide ((findM L o).1.node.k = 2))
        split
        ·exact ⟨h1.1,Nat.zero_le 8⟩
        ·refine ⟨(by decide : (0 : Int) ≠ 21),?_⟩
         have h2 := mov_len (findM L o).1 (findM L p).1
         rw [List.length_append]
         omega
theorem done_len (L : List Pr) (p : Pr) : (doneW L p).length ≤ L.length + 1 := by
 unfold doneW
 split
 ·unfold cutL
  have := List.length_filter_le (fun q => !decide (q.key = p.key)) L
  omega
 ·exact put_len _ _ _
theorem out_len : ∀ (ps : List Wrt) (L : List Pr),(outW L ps).length ≤ L.length + ps.length
 | [],L => Nat.le_refl _
 | p :: ps,L => by
   have h1 := out_len ps (doneW L (p L))
   have h2 := done_len L (p L)
   show (outW (doneW L (p L)) ps).length ≤ L.length + (ps.length + 1)
   omega
structure Bu (Rep : RepT) (Q : Nat → Prop) (w : World) (v : Value) (s : Vs) (S D : Nat → Prop) (h : Sh) (F : Fs) (k : Nat) : Prop where
 rep : Rep w v s S D
 fs : FsA (fun b => ¬ S b ∧ Q b) w h F
 mx : Mxs w S
 st : ∃ π,St F π s.shown k
 base : s.base.length ≤ 8 * k
 rd : s.rd.length ≤ 100 * k
 rg : s.rg.length ≤ 2 * k
 len : s.shown.length ≤ 8 * k
 ac : Ac F
structure Bt (Rep : RepT) (Q : Nat → Prop) (w : World) (v : Value) (s : Vs) (S D : Nat → Prop) (h : Sh) (F : Fs) (k : Nat) : Prop extends Bu Rep Q w v s S D h F k where
 inos : InB (k + 1) F
def Gl (s : Vs) : Prop := s.base = [] ∧ ∀ p ∈ s.wr,p.gone = false
theorem gl_write {s : Vs} (h : Gl s) (p : Pr) : Gl (s.write p) := by
 unfold Vs.write
 split
 ·exact h
 ·refine ⟨h.1,fun q hq => ?_⟩
  have hq2 : q ∈ writeW s.base s.wr p := hq
  unfold writeW at hq2
  split at hq2
  ·exact h.2 q (List.mem_filter.1 hq2).1
  ·rename_i hn
   rcases mem_putP hq2 with rfl | hq3
   ·rw [h.1] at hn
    simpa [getL] using hn
   ·exact h.2 q hq3.1
theorem gl_go : ∀ (ps : List Wrt) {s : Vs},Gl s → Gl (goW s ps).1
 | [],s,h => h
 | p :: ps,s,h => by
   cases hf : fullW s.wr (p s.shown) with
   | true => rw [goW_full hf]; exact h
   | false => rw [goW_room hf]; exact gl_go ps (gl_write h _)
def DoQ (Rep : RepT) (Q : Nat → Prop) (v : Value) (s : Vs) (F : Fs) (ino : Int) (S D : Nat → Prop) (k : Nat) (w : World) (e : Ending) (w' : World) : Prop := ∃ (s' : Vs) (S' D' : Nat → Prop) (h' : Sh),Rep w' v s' S' D' ∧ Stp S D S' D' w w' ∧ ((e = .returned (.tuple #[.bool true,.agg #[.slice h'.a h'.n h'.c],.bool true])) ∨ (∃ F',e = .returned (.tuple #[.bool true,.agg #[.slice h'.a h'.n h'.c],.bool false]) ∧ Bu Rep Q w' v s' S' D' h' F' (k + 1) ∧ (InB (k + 1) F → ino = 2 + k → InB (k + 1 + 1 : Nat) F') ∧ (s'.shown = s.shown ∨ ∃ l,¬ (Rea F l ↔ Rea F' l)) ∧ (Gl s → Gl s')))
def DoP (Rep : RepT) (Q : Nat → Prop) (v : Value) (s : Vs) (S D : Nat → Prop) (k : Nat) (w : World) (e : Ending) (w' : World) : Prop := ∃ (s' : Vs) (S' D' : Nat → Prop) (h' : Sh),Rep w' v s' S' D' ∧ Stp S D S' D' w w' ∧ ((e = .returned (.tuple #[.bool true,.agg #[.slice h'.a h'.n h'.c],.bool true])) ∨ (∃ F',e = .returned (.tuple #[.bool true,.agg #[.slice h'.a h'.n h'.c],.bool false]) ∧ Bt Rep Q w' v s' S' D' h' F' (k + 1) ∧ (Gl s → Gl s')))
section
variable {Q : Nat → Prop} {w w' : World} {v : Value} {s : Vs} {S D : Nat → Prop} {h : Sh} {F : Fs} {k : Nat}
theorem dop_of (hS : Stays Rep) (b : Bu Rep Q w v s S D h F k) {V : Int × List Wrt} {M : Int × Fs} {kk m : Nat} {e : Ending} {ino : Int} (dd : Did s.shown V M (k + 1)) (hac : Acs F V M) (hi : InB (k + 1) F → ino = 2 + k → InB (k + 1 + 1 : Nat) M.2) (hl : V.2.length ≤ 8) (h1 : kk ≤ 100) (h2 : m ≤ 2) (he : DoE Rep Q v s V.2 kk m S D h F M.2 w e w') : DoQ Rep Q v s F ino S D k w e w' := by
 obtain ⟨s',S',D',h',rfl,hr,st,ha,hf⟩ := he
 refine ⟨s',S',D',h',hr,st,?_⟩
 cases hg : (goW s V.2).2 with
 | false => exact .inl rfl
 | true =>
   rw [if_pos hg] at hf
   right
   have ho := hS.ok b.rep
   have hsh : s'.shown = outW s.shown V.2 := by rw [ha.sm.shown]; exact (go_out V.2 ho hg).1
   refine ⟨M.2,rfl,⟨hr,hf,b.mx.step st,by rw [hsh]; exact dd.st,?_,?_,?_,?_,hac.1⟩,hi,?_,?_⟩
   ·rw [ha.sm.base,goW_base]; have := b.base; omega
   ·have := ha.rd; have := b.rd; omega
   ·have := ha.rg; have := b.rg; omega
   ·rw [hsh]; have := out_len V.2 s.shown; have := b.len; omega
   ·rcases hac.2 with q | q
    ·exact .inl (by rw [hsh,q]; rfl)
    ·exact .inr q
   ·intro hgl
    have := gl_go V.2 hgl
    unfold Gl at this ⊢
    rw [ha.sm.base,ha.sm.wr]
    exact this
theorem Bu.lim (b : Bu Rep Q w v s S D h F k) (hk : k ≤ 62) : Lim s := ⟨by have := b.base; omega,by have := b.rd; omega,by have := b.rg; omega⟩
theorem Bu.letters (hS : Stays Rep) (b : Bu Rep Q w v s S D h F k) : (∀ p ∈ s.shown,(sp p.key).letter ≠ 0) ∧ ∀ p ∈ s.shown,∀ i,blkB i p = false := by
 obtain ⟨π,st⟩ := b.st
 have hl := fun p hp => st.sim.letter st.rise st.ws.data (p := p) hp
 refine ⟨fun p hp => ?_,fun p hp i => ?_⟩
 ·rcases hl p hp with q | q <;> rw [q] <;> decide
 ·unfold blkB
  rcases hl p hp with q | q <;> rw [q] <;> simp
theorem Bt.free (b : Bt Rep Q w v s S D h F k) : nodeM F (2 + k) = none := node_no fun x hx e => by
 have := b.inos x hx
 omega
theorem do_any (hW : Wk Rep) (hQ : ∀ b,w.heap.size ≤ b → Q b) (b : Bu Rep Q w v s S D h F k) (hk : k ≤ 60) {ino : Int} (i2 : 2 ≤ ino) (i9 : ino ≤ 1000) (hfree : nodeM F ino = none) (kind : Int) (path other : ByteArray) (hp : path.size ≤ 100000) (hp2 : other.size ≤ 100000) :
 Calls Tryz.prog 15 #[v,.agg #[.slice h.a h.n h.c],.agg #[.int .i64 kind,.string path,.string other],.int .u32 ino] w (DoQ Rep Q v s F ino S D k w) := by
 obtain ⟨π,st⟩ := b.st
 have hS := hW.stays
 have hl := b.lim (by omega)
 have h1 : s.rd.length ≤ 18000 := by have := b.rd; omega
 have h2 : s.rg.length ≤ 900 := by have := b.rg; omega
 have hlt := b.letters hS
 have hin : InB (k + 1) F → InB (k + 1 + 1 : Nat) F := fun q n hn => by have := q n hn; omega
 have hk9 : k + 1 ≤ 900 := by omega
 by_cases k0 : kind = 0
 ·subst k0
  have dd := make_did st hk9 path (kind := 1) (ino := ino) (by omega) (by omega) hfree
  have er := mak_er s.shown path 1 ino
  exact (do_mk1 hS path other ino b.rep b.fs hQ b.mx er.1 (fun u S D hr hx => DirsKe.make_calls hW path 1 ino hr hl h1 h2 hx hp (by decide) (by decide) (by omega) (by omega)) (by rw [dd.er]; exact ref_make st path hp (by omega) (by omega) hfree)).mono fun e w' he => dop_of hS b dd (make_ac st b.ac path i2 hfree) (fun q1 q2 => (hin q1).make path 1 (by omega)) er.2 (by decide) (by decide) he
 by_cases k1 : kind = 1
 ·subst k1
  have dd := make_did st hk9 path (kind := 2) (ino := ino) (by omega) (by omega) hfree
  have er := mak_er s.shown path 2 ino
  exact (do_mk2 hS path other ino b.rep b.fs hQ b.mx er.1 (fun u S D hr hx => DirsKe.make_calls hW path 2 ino hr hl h1 h2 hx hp (by decide) (by decide) (by omega) (by omega)) (by rw [dd.er]; exact ref_make st path hp (by omega) (by omega) hfree)).mono fun e w' he => dop_of hS b dd (make_ac st b.ac path i2 hfree) (fun q1 q2 => (hin q1).make path 2 (by omega)) er.2 (by decide) (by decide) he
 by_cases k2 : kind = 2
 ·subst k2
  have dd := rmd_did st hk9 path
  have er := rmd_er s.shown path
  exact (do_rmd hS path other ino b.rep b.fs hQ b.mx er.1 (fun u S D hr hx => DirsKf.rmd_calls hW path hr hl h1 h2 hx hp hlt.1) (by rw [dd.er]; exact ref_rmd st path hp)).mono fun e w' he => dop_of hS b dd (rmd_ac st b.ac path) (fun q1 q2 => (hin q1).rem path) er.2 (by decide) (by decide) he
 by_cases k3 : kind = 3
 ·subst k3
  have hq : (lstV s.shown path).1.length ≤ 100000 := by
   rw [lst_same st path]
   unfold listF
   split
   ·exact Nat.zero_le _
   ·split
    ·exact Nat.zero_le _
    ·split
     ·exact Nat.zero_le _
     ·rename_i n hn
      split
      ·exact Nat.zero_le _
      ·rw [List.length_map]
       have := st.ws.small (node_mem hn).1
       omega
  exact (do_lst hS path other ino b.rep b.fs b.mx hq (fun u S D hr hx => DirsKg.lst_calls hW path hr hl h1 h2 hx hp hlt.1) (by rw [lst_same st path]; exact ref_lst st path hp)).mono fun e w' he => dop_of hS b (V := (0,[])) (M := (0,F)) (Did.err st hk9) (Acs.err b.ac) (fun q1 q2 => hin q1) (by decide) (by decide) (by decide) he
 by_cases k4 : kind = 4
 ·subst k4
  have dd := lnk_did st hk9 path other
  have er := lnk_er s.shown path other
  exact (do_lnk hS path other ino b.rep b.fs hQ b.mx er.1 (fun u S D hr hx => DirsKg.lnk_calls hW path other hr hl h1 h2 hx hp hp2) (by rw [dd.er]; exact ref_lnk st path other hp hp2)).mono fun e w' he => dop_of hS b dd (lnk_ac st b.ac path other) (fun q1 q2 => (hin q1).lnk path other) er.2 (by decide) (by decide) he
 by_cases k5 : kind = 5
 ·subst k5
  have dd := ulk_did st hk9 path
  have er := ulk_er s.shown path
  exact (do_ulk hS path other ino b.rep b.fs hQ b.mx er.1 (fun u S D hr hx => DirsKf.ulk_calls hW path hr hl h1 h2 hx hp hlt.1 hlt.2) (by rw [dd.er]; exact ref_ulk st path hp)).mono fun e w' he => dop_of hS b dd (ulk_ac st b.ac path) (fun q1 q2 => (hin q1).unl path) er.2 (by decide) (by decide) he
 by_cases k6 : kind = 6
 ·subst k6
  have dd := ren_did st hk9 path other
  have er := ren_er s.shown path other
  exact (do_ren hS path other ino b.rep b.fs hQ b.mx er.1 (fun u S D hr hx => DirsKh.ren_calls hW path other hr hl h1 h2 hx hp hp2 hlt.1 hlt.2) (by rw [dd.er]; exact ref_ren st path other hp hp2)).mono fun e w' he => dop_of hS b dd (ren_ac st b.ac path other) (fun q1 q2 => (hin q1).ren path other) er.2 (by decide) (by decide) he
 ·exact (do_else hS kind path other ino b.rep b.fs b.mx (by omega)).mono fun e w' he => dop_of hS b (V := (0,[])) (M := (0,F)) (Did.err st hk9) (Acs.err b.ac) (fun q1 q2 => hin q1) (by decide) (by decide) (by decide) he
theorem do_calls (hW : Wk Rep) (hQ : ∀ b,w.heap.size ≤ b → Q b) (b : Bt Rep Q w v s S D h F k) (hk : k ≤ 60) (kind : Int) (path other : ByteArray) (hp : path.size ≤ 100000) (hp2 : other.size ≤ 100000) :
 Calls Tryz.prog 15 #[v,.agg #[.slice h.a h.n h.c],.agg #[.int .i64 kind,.string path,.string other],.int .u32 (2 + k)] w (DoP Rep Q v s S D k w) :=
 (do_any hW hQ b.toBu hk (by omega) (by omega) b.free kind path other hp hp2).mono fun e w' ⟨s',S',D',h',hr,st,hw⟩ => ⟨s',S',D',h',hr,st,hw.elim .inl fun ⟨F',he,hu,hi,_,hg⟩ => .inr ⟨F',he,⟨hu,hi b.inos rfl⟩,hg⟩⟩
end
end Go.Proofs.YtfalhnomhidkcaaGreatDoor.DirsLc
set_option maxHeartbeats 16000000
set_option maxRecDepth 100000
namespace Go.Proofs.YtfalhnomhidkcaaGreatDoor.DirsLd
open Go.RowKit
open Byte KeysM TreeM TreeR ViewM ViewKm NamesM Lst Tx WalkM WalkF WalkKm Chg TreeL TreeG TreeH ViewL WalkL WalkV Vat DirsK
open Own hiding keeps
open ViewR (Sh NewA)
variable {Rep : RepT}
structure Op18 where
 kind : Int
 path : ByteArray
 other : ByteArray
def opE : Enc Op18 := ⟨fun x => [.int .i64 x.kind,.string x.path,.string x.other],3,fun _ => rfl,fun x u hu => by
 simp only [List.mem_cons,List.mem_nil_iff,or_false] at hu
 rcases hu with rfl | rfl | rfl <;> rfl,by decide⟩
theorem info_op : (Tryz.prog.info? 33).map (·.size) = some 3 := by kernel_rfl
structure OpB (x : Op18) : Prop where
 path : x.path.size ≤ 9223372036854775807
 other : x.other.size ≤ 9223372036854775807
def FrontQ (A : Option Addr) (n c : Nat) (L : List Op18) (w : World) (e : Ending) (w' : World) : Prop := ∃ m,e = .returned (.slice A m c) ∧ m ≤ n ∧ m ≤ 60 ∧ (∀ p ∈ L.take m,p.path.size ≤ 1000 ∧ p.other.size ≤ 1000) ∧ Below w.heap.size w w'
theorem take_nx {α : Type} {L : List α} {k : Nat} {x : α} (h : L[k]? = some x) : L.take (k + 1) = L.take k ++ [x] := by
 obtain ⟨hk,he⟩ := List.getElem?_eq_some_iff.1 h
 rw [List.take_succ_eq_append_getElem hk,he]
theorem cut_calls (A : Option Addr) (n c : Nat) (L : List Op18) (w : World) (hl : Sl opE w A n L) (hn : n ≤ c) (hc : c ≤ maxLen) (hf : ∀ p ∈ L,OpB p) :
 Calls Tryz.prog 14 #[.slice A n c] w (FrontQ A n c L w) := by
 unfold maxLen at hc
 have HL := hQ_ hl
 have HF := hQ_ hf
 clear hl hf
 go_enter Tryz.func14,Tryz.ntmps14
 go_wp2
 go_loopw [7] (fun i wr => ∃ k : Nat,k ≤ n ∧ k ≤ 60 ∧ i = .int .i64 k ∧ Hid (∀ p ∈ L.take k,p.path.size ≤ 1000 ∧ p.other.size ≤ 1000) ∧ Below w.heap.size w wr) (fun i _ => n - (intOf i).toNat)
 case atStart => exact ⟨0,Nat.zero_le _,Nat.zero_le _,rfl,hQ_ (fun p hp => by simp at hp),Below.refl _ _⟩
 case round =>
  obtain ⟨k,hk,hk2,rfl,HK,hbel⟩ := hrel
  by_cases hlt : k < n
  ·obtain ⟨x,g,o,hx,rfl,hg,hcl⟩ := (HL.out.below hbel).get k hlt
   have hfx := HF.out x (List.mem_of_getElem? hx)
   obtain ⟨kind,path,other⟩ := x
   have hp1 : path.size ≤ 9223372036854775807 := hfx.path
   have hp2 : other.size ≤ 9223372036854775807 := hfx.other
   have HC : Hid (wr.rangeAt g (o + k * 3) [.int .i64 kind,.string path,.string other]) := hQ_ hcl
   have HX := hQ_ hx
   have hbs := hbel.size
   have hkc : k ≤ c := by omega
   have hb1 : Below w.heap.size w (wr.alloc (.cells #[.int .i64 kind,.string path,.string other] 33)) := hbel.alloc hbs _
   have HB1 := hQ_ hb1
   clear hcl hfx hx hbel hb1
   rcases (show 60 ≤ k ∨ (k < 60 ∧ 1000 < path.size) ∨ (k < 60 ∧ path.size ≤ 1000 ∧ 1000 < other.size) ∨ (k < 60 ∧ path.size ≤ 1000 ∧ other.size ≤ 1000) by omega) with q | ⟨q,q1⟩ | ⟨q,q1,q2⟩ | ⟨q,q1,q2⟩
   ·have d1 : decide ((60 : Int) ≤ (k : Int)) = true := decide_eq_true (by omega)
    go_wp2_with ((with_reducible refine pick (some 11) ?_); refine wpList_load_mid rfl 33 _ rfl g (o + k * 3) rfl _ _ HC.out Tryz.underlying33 rfl info_op ?_)
    go_ret
    exact ⟨k,rfl,hk,hk2,HK.out,HB1.out⟩
   ·have d1 : decide ((60 : Int) ≤ (k : Int)) = false := decide_eq_false (by omega)
    have d2 : decide ((1000 : Int) < (path.size : Int)) = true := decide_eq_true (by omega)
    go_wp2_with ((with_reducible refine pick (some 11) ?_); refine wpList_load_mid rfl 33 _ rfl g (o + k * 3) rfl _ _ HC.out Tryz.underlying33 rfl info_op ?_)
    go_ret
    exact ⟨k,rfl,hk,hk2,HK.out,HB1.out⟩
   ·have d1 : decide ((60 : Int) ≤ (k : Int)) = false := decide_eq_false (by omega)
    have d2 : decide ((1000 : Int) < (path.size : Int)) = false := decide_eq_false (by omega)
    have d3 : decide ((1000 : Int) < (other.size : Int)) = true := decide_eq_true (by omega)
    go_wp2_with ((with_reducible refine pick (some 11) ?_); refine wpList_load_mid rfl 33 _ rfl g (o + k * 3) rfl _ _ HC.out Tryz.underlying33 rfl info_op ?_)
    go_ret
    exact ⟨k,rfl,hk,hk2,HK.out,HB1.out⟩
   ·have d1 : decide ((60 : Int) ≤ (k : Int)) = false := decide_eq_false (by omega)
    have d2 : decide ((1000 : Int) < (path.size : Int)) = false := decide_eq_false (by omega)
    have d3 : decide ((1000 : Int) < (other.size : Int)) = false := decide_eq_false (by omega)
    go_wp2_with ((with_reducible refine pick (some 11) ?_); refine wpList_load_mid rfl 33 _ rfl g (o + k * 3) rfl _ _ HC.out Tryz.underlying33 rfl info_op ?_)
    go_roundw
    case rel => exact ⟨k + 1,by omega,by omega,by go_num,hQ_ (fun p hp => (by
     rw [take_nx HX.out] at hp
     rcases List.mem_append.1 hp with h | h
     ·exact HK.out p h
     ·rw [List.mem_singleton] at h
      subst h
      exact ⟨q1,q2⟩)),HB1.out⟩
    case measure => simp [intOf]; omega
  ·obtain rfl : k = n := by omega
   have HBL := hQ_ hbel
   clear hbel
   go_wp2
   go_ret
   exact ⟨k,rfl,Nat.le_refl _,hk2,HK.out,HBL.out⟩
theorem info_pr : (Tryz.prog.info? 46).map (·.size) = some 3 := by kernel_rfl
theorem key_in {p : Pr} (h : (sp p.key).letter ≠ 0) : kl p.key ⟨#[]⟩ = false ∧ kl p.key ⟨#[255]⟩ = true := by
 have hx : ∀ c : Int,(txt p.key).getD 0 0 = c → c < 255 → 0 < p.key.size → kl p.key ⟨#[]⟩ = false ∧ kl p.key ⟨#[255]⟩ = true := fun c hc hlt hs => by
  have hl := txt_len p.key
  rw [kl_lt,kl_lt]
  cases ht : txt p.key with
  | nil => rw [ht] at hl; simp at hl; omega
  | cons a r =>
    rw [ht] at hc
    have ha : a = c := by simpa using hc
    refine ⟨KeysV.lt_nil _,?_⟩
    rw [show txt (⟨#[255]⟩ : ByteArray) = [255] by decide]
    unfold lt
    rw [decide_eq_true (show a < 255 by omega)]
    simp
 rcases sp_ways p.key with q | q | q | q
 ·rw [q] at h; exact absurd rfl h
 ·exact hx 73 q.1 (by decide) (by omega)
 ·exact hx 69 q.1 (by decide) (by omega)
 ·exact hx 68 q.1 (by decide) (by omega)
theorem range_all {L : List Pr} (h : ∀ p ∈ L,(sp p.key).letter ≠ 0) : rangeL ⟨#[]⟩ ⟨#[255]⟩ L = L := by
 unfold rangeL
 refine List.filter_eq_self.2 fun p hp => ?_
 have := key_in (h p hp)
 rw [this.1,this.2]
 rfl
end Go.Proofs.YtfalhnomhidkcaaGreatDoor.DirsLd
namespace Go.Proofs.YtfalhnomhidkcaaGreatDoor.DirsLe
open Go.RowKit
open Byte KeysM TreeM ViewM NamesM NamesL Lst WalkM WalkF WalkKm Chg TreeL ViewL WalkL WalkV Vat DirsV DirsK DirsKa DirsKc
open Own hiding keeps
variable {Rep : RepT}
def pd : ByteArray := ⟨#[47,100]⟩
def pdf : ByteArray := ⟨#[47,100,47,102]⟩
def s0 : Vs := ⟨[],[],[],[]⟩
def s1 : Vs := (goW s0 (makV s0.shown pd 2 2).2).1
def s2 : Vs := (goW s1 (makV s1.shown pdf 1 3).2).1
theorem fx1 : (makV s0.shown pd 2 2).1 = 0 ∧ (goW s0 (makV s0.shown pd 2 2).2).2 = true := by decide +kernel
theorem fx2 : (makV s1.shown pdf 1 3).1 = 0 ∧ (goW s1 (makV s1.shown pdf 1 3).2).2 = true := by decide +kernel
theorem fx3 : (rmdV s2.shown pd).1 = 14 ∧ (rmdV s2.shown pd).2.length = 0 := by decide +kernel
theorem fx4 : ∀ p ∈ s2.shown,(sp p.key).letter ≠ 0 := by decide +kernel
theorem step_ {v : Value} {s t : Vs} {er : Int} {ps : List Wrt} {k m : Nat} {S D : Nat → Prop} {w : World} {e : Ending} {w' : World} (h : Ans Rep v s er ps k m S D w e w') (hs : Sm s t) (hg : (goW t ps).2 = true) :
 ∃ s' S' D',e = .returned (.int .i64 er) ∧ Rep w' v s' S' D' ∧ Stp S D S' D' w w' ∧ Sm s' (goW t ps).1 ∧ s'.rd.length ≤ s.rd.length + k ∧ s'.rg.length ≤ s.rg.length + m := by
 obtain ⟨s',S',D',he,hr,st,ha⟩ := h
 have h1 := goW_sm ps hs
 rw [h1.2,if_pos hg] at he
 exact ⟨s',S',D',he,hr,st,ha.sm.trans h1.1,ha.rd,ha.rg⟩
theorem lim_sm {s : Vs} (h1 : s.base = []) (h2 : s.rd.length ≤ 500) (h3 : s.rg.length ≤ 50) : Lim s := ⟨by rw [h1]; exact Nat.zero_le _,by omega,by omega⟩
theorem fixed_calls (hW : Wk Rep) (hN : NewB Rep) (w : World) (hmx : Mx w) : Calls Tryz.prog 16 #[] w fun e w' => e = .returned (.bool true) ∧ Below w.heap.size w w' := by
 have HMX := hQ_ hmx
 have HN := hQ_ hN
 have HW := hQ_ hW
 clear hN hmx hW
 go_enter Tryz.func16,Tryz.ntmps16
 go_wp2_with fail
 refine (TreeG.new_calls _).mono ?_
 rintro e w1 ⟨v0,h0,rfl,hr0,hb1⟩
 have HB1 := hQ_ hb1
 have HR0 := hQ_ hr0
 clear hb1 hr0
 go_wp2_with fail
 refine (HN.out HR0.out (Nat.zero_le _) (fun p hp => by cases hp)).mono ?_
 rintro e w2 ⟨v,S,D,rfl,hr2,hS2,hD2,hb2⟩
 have HB2 := hQ_ (Own.keeps HB1.out hb2)
 have HS2 : Hid (∀ b,S b → w.heap.size ≤ b) := hQ_ (fun b hb => Nat.le_trans HB1.out.size (hS2 b hb))
 have A2 := hQ_ (At.start hr2)
 have M2 : Hid (Mxs w2 S) := hQ_ ⟨HMX.out.below HB2.out,fun hs => by
  obtain ⟨m,hm⟩ := HMX.out
  have h1 := World.block_lt_of_cell? w ⟨0,0,none⟩ hm
  have h2 := HS2.out _ hs
  dsimp only at h1
  omega⟩
 have C1 := hQ_ (DirsKe.make_calls HW.out pd 2 2 hr2 (lim_sm (s := ⟨[],[],[],[]⟩) rfl (Nat.zero_le _) (Nat.zero_le _)) (Nat.zero_le _) (Nat.zero_le _) M2.out (by decide) (by decide) (by decide) (by decide) (by decide))
 clear hb2 hr2 hS2 hD2
 go_wp2_with fail
 refine C1.out.mono ?_
 intro e w3 h3
 obtain ⟨t1,S3,D3,rfl,hr3,st3,sm3,rd3,rg3⟩ := step_ h3 (Sm.refl s0) fx1.2
 have e1 : (makV (⟨[],[],[],[]⟩ : Vs).shown pd 2 2).1 = 0 := fx1.1
 rw [e1]
 have A3 := hQ_ (A2.out.step HW.out.stays hr3 st3)
 have M3 := hQ_ (M2.out.step st3)
 have sh1 : t1.shown = s1.shown := sm3.shown
 have rd3' : t1.rd.length ≤ 41 := by simpa using rd3
 have rg3' : t1.rg.length ≤ 0 := by simpa using rg3
 have hbs1 : t1.base = [] := by rw [sm3.base,goW_base]; rfl
 have c2 := DirsKe.make_calls HW.out pdf 1 3 hr3 (lim_sm hbs1 (by omega) (by omega)) (by omega) (by omega) M3.out (by decide) (by decide) (by decide) (by decide) (by decide)
 rw [sh1] at c2
 have C2 := hQ_ c2
 have SM3 : Hid (Sm t1 s1) := hQ_ sm3
 clear h3 hr3 st3 sm3 rd3 rg3 sh1 c2 e1 C1
 go_wp2_with fail
 refine C2.out.mono ?_
 intro e w4 h4
 obtain ⟨t2,S4,D4,rfl,hr4,st4,sm4,rd4,rg4⟩ := step_ h4 SM3.out fx2.2
 rw [fx2.1]
 have A4 := hQ_ (A3.out.step HW.out.stays hr4 st4)
 have M4 := hQ_ (M3.out.step st4)
 have sh2 : t2.shown = s2.shown := sm4.shown
 have hbs2 : t2.base = [] := by rw [sm4.base,goW_base,← SM3.out.base]; exact hbs1
 have c3 := DirsKf.rmd_calls HW.out pd hr4 (lim_sm hbs2 (by omega) (by omega)) (by omega) (by omega) M4.out (by decide) (by rw [sh2]; exact fx4)
 rw [sh2,fx3.1,List.length_eq_zero_iff.1 fx3.2] at c3
 have C3 := hQ_ c3
 clear h4 hr4 st4 sm4 rd4 rg4 sh2 c3 hbs1 hbs2 rd3' rg3' C2
 go_wp2_with fail
 refine C3.out.mono ?_
 rintro e w5 ⟨t3,S5,D5,rfl,hr5,st5,_⟩
 have A5 := hQ_ (A4.out.step HW.out.stays hr5 st5)
 rw [goW_nil]
 clear hr5 st5 C3
 go_wp2_with fail
 go_ret
 exact ⟨rfl,below_chg HB2.out A5.out.st.chg HS2.out (Nat.le_refl _)⟩
end Go.Proofs.YtfalhnomhidkcaaGreatDoor.DirsLe
namespace Go.Proofs.YtfalhnomhidkcaaGreatDoor.DirsLf
open Go.RowKit
open Byte KeysM TreeM ViewM NamesM NamesL Lst Ho WalkM WalkF Chg TreeL ViewL WalkV Vat DirsM DirsV DirsR DirsW DirsY DirsS DirsZ DirsK DirsKc DirsLc DirsLd
open DirsX hiding gk
open WalkL
open Own hiding keeps
open ViewR (Sh)
variable {Rep : RepT}
def F0 : Fs := [⟨1,2,2,NE,[]⟩]
theorem node0 (j : Int) : nodeM F0 j = if j = 1 then some ⟨1,2,2,NE,[]⟩ else none := by
 unfold nodeM F0
 by_cases h : j = 1
 ·rw [if_pos h,List.find?_cons,decide_eq_true (by show (1 : Int) = j; omega)]
 ·rw [if_neg h,List.find?_cons,decide_eq_false (by show ¬ (1 : Int) = j; omega)]
  rfl
theorem mem0 {n : Nd} (h : n ∈ F0) : n = ⟨1,2,2,NE,[]⟩ := List.mem_singleton.1 h
theorem st0 : St F0 (fun _ => 1) [] 0 := by
 have no : ∀ n ∈ F0,∀ e ∈ n.ents,False := fun n hn e he => by rw [mem0 hn] at he; cases he
 have n1 : nodeM F0 1 = some ⟨1,2,2,NE,[]⟩ := by rw [node0,if_pos rfl]
 have wf : Wf F0 (fun _ => 1) :=
  { nod := List.pairwise_singleton _ _
    root := ⟨_,n1,rfl⟩
    ino := fun n hn => by rw [mem0 hn]; exact ⟨by show (1 : Int) ≤ 1; omega,by show (1 : Int) ≤ 4294967295; omega⟩
    kind := fun n hn => by rw [mem0 hn]; exact .inl rfl
    data := fun n hn => by rw [mem0 hn]; exact ⟨by decide,fun _ => rfl⟩
    ord := fun n hn => by rw [mem0 hn]; exact List.Pairwise.nil
    name := fun n hn e he => (no n hn e he).elim
    some_ := fun n hn e he => (no n hn e he).elim
    goes := fun n hn e he => (no n hn e he).elim
    par := fun n hn e he => (no n hn e he).elim
    par1 := rfl
    cnt := fun n hn => by rw [mem0 hn]; rfl
    pos := fun n hn hk => by rw [mem0 hn] at hk; cases hk
    dl := fun n hn hk => by rw [mem0 hn]; rfl }
 have ws : Ws F0 1 0 2 :=
  { nod := wf.nod
    ino := wf.ino
    kind := fun n hn => by rw [mem0 hn]; exact .inl rfl
    data := fun n hn => by rw [mem0 hn]
    ord := wf.ord
    name := wf.name
    some_ := wf.some_
    links := fun n hn => by rw [mem0 hn]; exact ⟨by show -((2 : Nat) : Int) ≤ 2; omega,by show (2 : Int) ≤ ((2 : Nat) : Int); omega⟩
    len := Nat.le_refl 1
    tot_ := Nat.le_refl 0 }
 have rg : RG F0 (fun _ => 1) (DirsX.gk []) := ⟨fun k hk => absurd rfl hk,fun n hn => .inr (by rw [mem0 hn]; exact ⟨rfl,rfl,rfl,rfl⟩),fun n hn e he => (no n hn e he).elim,fun n hn w hw => by rw [mem0 hn,show (⟨1,2,2,NE,[]⟩ : Nd).data = NE from rfl,FileM.blkG_nil]; rfl⟩
 exact St.of wf rg (fun _ => ⟨by show (0 : Int) ≤ 1; omega,by show (1 : Int) ≤ 4294967295; omega⟩) ws (by omega) (by omega) (by omega) List.Pairwise.nil (fun p hp => by cases hp)
theorem ac0 : DirsT.Ac F0 := fun i hi => by
 obtain ⟨n,hn,_⟩ := DirsT.dir_mem hi
 have := (node_mem hn).2
 rw [mem0 (node_mem hn).1] at this
 rw [← this]
 exact ⟨[],.root⟩
structure Pl (Rep : RepT) (w2 : World) (S2 D2 : Nat → Prop) (g : Nat) (w : World) (v : Value) (s : Vs) (S D : Nat → Prop) (h : Sh) (F : Fs) (k : Nat) : Prop where
 B : Bt Rep (fun b => b ≠ g) w v s S D h F k
 A : At Rep w2 S2 D2 (fun b => b = g) w v s S D
 M : Blk w g #[.slice h.a h.n h.c] 29
 ml : 0 < g
section
variable {Q : Nat → Prop} {w2 w w' : World} {S2 D2 S D S' D' : Nat → Prop} {g : Nat} {v v' : Value} {s s' : Vs} {h h' : Sh} {F F' : Fs} {k : Nat}
theorem bt_below (hS : Stays Rep) (b : Bt Rep Q w v s S D h F k) (hb : Below w.heap.size w w') : Bt Rep Q w' v s S D h F k :=
 ⟨⟨hS.below b.rep hb,b.fs.below hb,b.mx.below hb,b.st,b.base,b.rd,b.rg,b.len,b.ac⟩,b.inos⟩
theorem Pl.below (hS : Stays Rep) (p : Pl Rep w2 S2 D2 g w v s S D h F k) (hb : Below w.heap.size w w') : Pl Rep w2 S2 D2 g w' v s S D h F k :=
 ⟨bt_below hS p.B hb,p.A.below hS hb,p.M.below hb,p.ml⟩
theorem at_new (p : At Rep w2 S2 D2 (fun b => b = g) w v s S D) (hr : Rep w' v' s' S' D') (st : Stp S D S' D' w w') : At Rep w2 S2 D2 (fun b => b = g) w' v' s' S' D' := by
 refine ⟨hr,⟨p.st.chg.then_ st.chg (fun i hi hm => ?_),kept_trans p.st.kept st.kept,p.st.own.trans st.own p.st.chg.size,p.st.dep.trans st.dep p.st.chg.size⟩,fun b hb => ?_⟩
 ·rcases p.st.own i hm with h | h
  ·exact h
  ·omega
 ·have h1 := p.mine b hb
  refine ⟨h1.1,Nat.lt_of_lt_of_le h1.2.1 st.chg.size,fun hd => ?_⟩
  rcases st.dep b hd with h | h
  ·exact h1.2.2 h
  ·omega
theorem Pl.next (hS : Stays Rep) {u : World} (a : At Rep w2 S2 D2 (fun b => b = g) u v s S D) (m : Blk u g #[.slice h.a h.n h.c] 29) (ml : 0 < g) (b : Bt Rep (fun b => b ≠ g) u v s S D h' F' k) (hg : u.grownBy w' (some g)) (hk : Blk w' g #[.slice h'.a h'.n h'.c] 29) : Pl Rep w2 S2 D2 g w' v s S D h' F' k := by
 have hc : Chg (fun b => b = g) u w' := Chg.of_grown hg (fun k e => .inl (by injection e with e; exact e.symm))
 have a2 := a.stored hS m rfl (by decide) hg
 refine ⟨⟨⟨a2.rep,b.fs.chg hc (fun b hb _ => ⟨hb.2,hb⟩),⟨?_,b.mx.2⟩,b.st,b.base,b.rd,b.rg,b.len,b.ac⟩,b.inos⟩,a2,hk,ml⟩
 obtain ⟨x,hm2⟩ := b.mx.1
 exact ⟨x,hc.cell hm2 (by show ¬ 0 = g; omega)⟩
end
end Go.Proofs.YtfalhnomhidkcaaGreatDoor.DirsLf
namespace Go.Proofs.YtfalhnomhidkcaaGreatDoor.NamesW
open Go.RowKit
open Byte Lst Tx NamesL NamesK
theorem mx_of {w : World} (h : w.ShapedOpen Tryz.prog) : Mx w := NamesY.splitLay.s1_3 w h
end Go.Proofs.YtfalhnomhidkcaaGreatDoor.NamesW
namespace Go.Proofs.YtfalhnomhidkcaaGreatDoor.DirsLx
open Go.RowKit Go.ChangeShapes Go.WideShapes Go.Deep Go.Maps
open Go.Proofs.YtfalhnomhidkcaaGreatDoor.Form Lst Args WalkV WalkD WalkE DirsLd DirsLf
instance : Inhabited Op18 := ⟨⟨0,⟨#[]⟩,⟨#[]⟩⟩⟩
theorem op_form {k : Nat} (hk : 2 ≤ k) {es : List Value} (hl : es.length = opE.size) (h : Shp Tryz.prog k 33 es) : ∃ p : Op18,es = opE.cells p ∧ OpB p := by
 obtain ⟨k,rfl⟩ : ∃ j,k = j + 2 := ⟨k - 2,by omega⟩
 match es,hl with
 | [c0,c1,c2],_ =>
   obtain ⟨kind,e0,w0⟩ := (h.field Tryz.underlying33 0 _ rfl 1 (by kernel_rfl)).int Tryz.underlying3
   obtain ⟨path,e1,w1⟩ := (h.field Tryz.underlying33 1 _ rfl 1 (by kernel_rfl)).string Tryz.underlying9
   obtain ⟨other,e2,w2⟩ := (h.field Tryz.underlying33 2 _ rfl 1 (by kernel_rfl)).string Tryz.underlying9
   simp at e0 e1 e2
   subst e0 e1 e2
   unfold maxLen at w1 w2
   exact ⟨⟨kind,path,other⟩,rfl,by show path.size ≤ _; omega,by show other.size ≤ _; omega⟩
theorem ops_of {H : Type} {enc : TypeId × Value → H} {w : World} {base fuel : Nat} {cs : List Value} {x : DataW H × List MemPlace} (h : DataW.trod enc Tryz.prog w base (fun _ => true) true fuel 22 cs = some x) :
 ∃ A m c,∃ L : List Op18,cs = [.slice A m c] ∧ m ≤ c ∧ c ≤ maxLen ∧ Sl opE w A m L ∧ ∀ p ∈ L,OpB p :=
 sl_of opE OpB 5 Tryz.underlying22 (by kernel_rfl) (fun es hl hs => op_form (by omega) hl hs) h
theorem child_ok : WalkL.ChildOk WalkK.VRep := WalkKa.child_ok WalkK.stays (get_b ViewK.get_ok) WalkK.small
theorem newb : NewB WalkK.VRep := new_b ViewK.new_ok
end Go.Proofs.YtfalhnomhidkcaaGreatDoor.DirsLx
namespace Go.Proofs.YtfalhnomhidkcaaGreatDoor.DirsP
open Go.RowKit
open Byte KeysM TreeM ViewM NamesM NamesL Lst Ho WalkM WalkF Chg TreeL ViewL WalkV Vat DirsM DirsV DirsR DirsW DirsY DirsS DirsZ DirsK DirsKc DirsLc DirsLd DirsLf
open DirsX hiding gk
open WalkL
open Own hiding keeps
open ViewR (Sh)
open TreeR (prE GotV)
variable {Rep : RepT}
open DirsTa (Rea)
theorem key_small {key : ByteArray} (h : (sp key).letter ≠ 0) : key.size ≤ 37 := by
 rcases sp_ways key with q | q | q | q
 ·rw [q] at h; exact absurd rfl h
 ·omega
 ·omega
 ·omega
end Go.Proofs.YtfalhnomhidkcaaGreatDoor.DirsP
namespace Go.Proofs.YtfalhnomhidkcaaGreatDoor.DirsQ
open Go.RowKit
open Byte KeysM TreeM ViewM NamesM NamesL Lst Ho WalkM WalkF Chg TreeL ViewL WalkV Vat DirsM DirsV DirsR DirsW DirsY DirsS DirsZ DirsK DirsKc DirsLc DirsLd DirsLf
open DirsX hiding gk
open WalkL
open Own hiding keeps
open ViewR (Sh)
open TreeR (prE GotV)
variable {Rep : RepT}
open WalkKm
open DirsKa (blkB Ans.split)
open DirsZb (ren_did)
open DirsZa (lnk_did)
def RangeN (Rep : RepT) : Prop := ∀ ⦃w v s S D⦄ (x y : ByteArray),Rep w v s S D → Lim s → x.size ≤ 200000000000000 → y.size ≤ 200000000000000 → Calls Tryz.prog 23 #[v,.string x,.string y] w fun e w' => ∃ (r : Sh) (S' D' : Nat → Prop),e = .returned (.slice r.a r.n r.c) ∧ Sl prE w' r.a r.n (s.rangeOf x y) ∧ (∀ b o,r.a = some ⟨b,o,none⟩ → w.heap.size ≤ b ∧ ¬ D' b) ∧ Rep w' v (s.ranged x y) S' D' ∧ Stp S D S' D' w w'
section
variable {w0 u u' : World} {S0 D0 S D S' D' : Nat → Prop} {ra : Option Addr} {rn : Nat} {L : List Pr} {v : Value} {s s' : Vs} {N R G N' R' G' : Nat}
end
theorem st_letters {F : Fs} {π : Int → Int} {L : List Pr} {k : Nat} (st : St F π L k) : (∀ p ∈ L,(sp p.key).letter ≠ 0) ∧ ∀ p ∈ L,∀ i,blkB i p = false := by
 have hl := fun p hp => st.sim.letter st.rise st.ws.data (p := p) hp
 refine ⟨fun p hp => ?_,fun p hp i => ?_⟩
 ·rcases hl p hp with q | q <;> rw [q] <;> decide
 ·unfold blkB
  rcases hl p hp with q | q <;> rw [q] <;> simp
theorem ranged_same (s : Vs) (a b : ByteArray) : (s.ranged a b).shown = s.shown ∧ (s.ranged a b).base = s.base ∧ (s.ranged a b).wr = s.wr ∧ (s.ranged a b).rd = s.rd ∧ (s.ranged a b).rg.length ≤ s.rg.length + 1 := by
 unfold Vs.ranged
 split
 ·exact ⟨rfl,rfl,rfl,rfl,ViewP.add_len _ _ _⟩
 ·exact ⟨rfl,rfl,rfl,rfl,Nat.le_succ _⟩
end Go.Proofs.YtfalhnomhidkcaaGreatDoor.DirsQ
namespace Go.Proofs.YtfalhnomhidkcaaGreatDoor.DirsQx
open Go.RowKit
open Lst KeysM TreeM ViewM ViewKm ViewL WalkV DirsLd DirsQ DirsLx ViewKs ViewKw
open TreeR (prE)
open ViewR (Sh)
theorem range_v : RangeN ViewK.VRep := by
 rintro w v s S D x y ⟨g,b,sh,wt,rd,rg,rfl,hv,h1,h2,rfl,rfl⟩ hl hx hy
 obtain ⟨l1,l2,l3,l4,l5,l6⟩ := ViewK.lens hl h1
 have key : ∀ (G : List (ByteArray × ByteArray)) (L : List Pr),(s.ranged x y).rg = G → s.rangeOf x y = L → Calls Tryz.prog 23 #[.pointer (some ⟨g,0,none⟩),.string x,.string y] w (RangeR g b sh wt rd rg s.base s.shown (kys s.wr) s.rd G L w) → Calls Tryz.prog 23 #[.pointer (some ⟨g,0,none⟩),.string x,.string y] w fun e w' => ∃ (r : Sh) (S' D' : Nat → Prop),e = .returned (.slice r.a r.n r.c) ∧ Sl prE w' r.a r.n (s.rangeOf x y) ∧ (∀ b o,r.a = some ⟨b,o,none⟩ → w.heap.size ≤ b ∧ ¬ D' b) ∧ ViewK.VRep w' (.pointer (some ⟨g,0,none⟩)) (s.ranged x y) S' D' ∧ Stp (fun q => q = g ∨ rg.ownBlock = some q) (fun q => q = g ∨ rg.ownBlock = some q) S' D' w w' := by
  intro G L hG hL hc
  refine hc.mono ?_
  rintro e w' ⟨u,rg',rfl,ho,hv',hd,hto⟩
  have hne := So.ne ho hv'.rgs (by decide)
  obtain ⟨r,rfl,hsl,hnew⟩ := ViewK.sh_of ho
  refine ⟨r,_,_,rfl,by rw [hL]; exact hsl,fun q o e => ⟨hnew q o e,fun hq => ?_⟩,⟨g,b,sh,wt,rd,rg',rfl,?_,ok_ranged h1 x y,?_,rfl,rfl⟩,hd.chg,hd.kept,ViewK.own_new hto,ViewK.own_new hto⟩
  ·have hob : (Value.slice r.a r.n r.c).ownBlock = some q := by rw [e]; rfl
   rcases hq with rfl | hq
   ·have := hnew q o e
    have := hv.lt
    omega
   ·rcases hne with z | z
    ·rw [hob] at z; cases z
    ·exact z (by rw [hob,hq])
  ·rw [hG]
   have e1 : (s.ranged x y).base = s.base ∧ (s.ranged x y).shown = s.shown ∧ (s.ranged x y).wr = s.wr ∧ (s.ranged x y).rd = s.rd := by
    unfold Vs.ranged
    split <;> exact ⟨rfl,rfl,rfl,rfl⟩
   rw [e1.1,e1.2.1,e1.2.2.1,e1.2.2.2]
   exact hv'
  ·have e1 : (s.ranged x y).wr = s.wr := by
    unfold Vs.ranged
    split <;> rfl
   rw [e1]
   exact h2
 cases hk : kl x y with
 | false =>
   refine key s.rg [] ?_ ?_ (range_none x y hv hk)
   ·unfold Vs.ranged
    rw [hk]
    rfl
   ·unfold Vs.rangeOf
    rw [hk]
    rfl
 | true =>
   cases hh : hasR x y s.rg with
   | true =>
     refine key s.rg (rangeL x y s.shown) ?_ ?_ (range_old x y hv l2 (by omega) hk hh)
     ·unfold Vs.ranged addR
      rw [hk,hh]
      rfl
     ·unfold Vs.rangeOf
      rw [hk]
      rfl
   | false =>
     refine key (s.rg ++ [(x,y)]) (rangeL x y s.shown) ?_ ?_ (range_new x y hv l2 (by omega) hk hh)
     ·unfold Vs.ranged addR
      rw [hk,hh]
      rfl
     ·unfold Vs.rangeOf
      rw [hk]
      rfl
theorem range_n : RangeN WalkK.VRep := fun _ _ _ _ _ x y r hl hx hy => (range_v x y r.1 hl hx hy).mono fun _ _ ⟨q,S',D',e,h1,h2,hr,st⟩ => ⟨q,S',D',e,h1,h2,⟨hr,r.2.ranged x y⟩,st⟩
end Go.Proofs.YtfalhnomhidkcaaGreatDoor.DirsQx
namespace Go.Proofs.YtfalhnomhidkcaaGreatDoor.DirsTc
open Byte PackM KeysM TreeM ViewM ViewKm NamesM WalkM WalkF WalkKm DirsM DirsV DirsW DirsX DirsY DirsS DirsZ DirsZa DirsZb DirsT DirsTa
open NodeM hiding gk
def isE (p : Pr) : Bool := decide ((sp p.key).letter = 69)
def isI (p : Pr) : Bool := decide ((sp p.key).letter = 73)
def chd (p : Pr) : Int := PackM.getn (txt p.value) 0 4
def ofD (p : Pr) : Int := (sp p.key).ino
def fE (l : List Pr) (k : Int) : Int := l.countP fun p => isE p && decide (chd p = k)
def fB (F : Fs) (l : List Pr) (d : Int) : Int := l.countP fun p => isE p && (decide (ofD p = d) && dirB F (chd p))
def stepP (F : Fs) (f : Int → Int) (p : Pr) : Int → Int := if isE p && dirB F (chd p) then upd f (chd p) (ofD p) else f
def fP (F : Fs) (l : List Pr) : Int → Int := l.foldl (stepP F) (fun _ => 0)
def fI (l : List Pr) : List Int := (l.filter isI).map ofD
section
variable {F : Fs} {π : Int → Int} {L : List Pr} {k : Nat}
theorem fE_next (l : List Pr) (p : Pr) (j : Int) : fE (l ++ [p]) j = fE l j + if isE p = true ∧ chd p = j then 1 else 0 := by
 unfold fE
 rw [List.countP_append,List.countP_singleton]
 by_cases h : isE p = true
 ·by_cases h2 : chd p = j <;> simp [h,h2]
 ·simp [h]
theorem fB_next (l : List Pr) (p : Pr) (j : Int) : fB F (l ++ [p]) j = fB F l j + if isE p = true ∧ ofD p = j ∧ dirB F (chd p) = true then 1 else 0 := by
 unfold fB
 rw [List.countP_append,List.countP_singleton]
 by_cases h : isE p = true
 ·by_cases h2 : ofD p = j
  ·by_cases h3 : dirB F (chd p) = true <;> simp [h,h2,h3]
  ·simp [h,h2]
 ·simp [h]
theorem fP_next (l : List Pr) (p : Pr) : fP F (l ++ [p]) = stepP F (fP F l) p := by
 unfold fP
 rw [List.foldl_append]
 rfl
theorem fI_next (l : List Pr) (p : Pr) : fI (l ++ [p]) = fI l ++ (if isI p then [ofD p] else []) := by
 unfold fI
 rw [List.filter_append,List.map_append]
 by_cases h : isI p = true <;> simp [h]
theorem cls (st : St F π L k) {p : Pr} (hp : p ∈ L) : (isI p = true ∧ isE p = false ∧ ∃ n ∈ F,ofD p = n.ino) ∨ (isI p = false ∧ isE p = true ∧ ∃ n ∈ F,∃ e ∈ n.ents,p.key = kE n.ino e.name ∧ ofD p = n.ino ∧ (sp p.key).name = e.name ∧ chd p = e.ino) := by
 have hv : DirsX.gk L p.key = some p.value := by unfold DirsX.gk; rw [get_mem st.rise hp]; rfl
 rcases st.sim.rg.keys p.key (by rw [hv]; simp) with ⟨m,h4,h5⟩ | ⟨m,h4,e,h5,h6⟩ | ⟨m,h4,z,_,_,h7⟩
 ·have hm := st.ws.ino m h4
  left
  unfold isI isE ofD
  rw [h5,sp_I _ (by omega) hm.2]
  exact ⟨rfl,rfl,m,h4,rfl⟩
 ·have hm := st.ws.ino m h4
  have hen := good_of (st.ws.name m h4 e h5)
  have hei := st.ws.some_ m h4 e h5
  right
  have h7 := st.sim.rg.ents m h4 e h5
  rw [← h6,hv] at h7
  injection h7 with h7
  unfold isI isE ofD chd
  rw [h6,sp_E _ _ (by omega) hm.2 hen.1 hen.2,h7]
  exact ⟨rfl,rfl,m,h4,e,h5,rfl,rfl,rfl,hangV_get (by omega) hei.2⟩
 ·rw [st.ws.data m h4,FileM.blkG_nil] at h7
  exact absurd rfl h7
theorem filter_ents (st : St F π L k) {n : Nd} (hn : n ∈ F) : (L.filter (entB n.ino)).map (fun p => (⟨(sp p.key).name,chd p⟩ : En)) = n.ents := by
 have h1 := st.sim.list st.rise st.gone (node_of st.ws.nod hn)
 unfold listM at h1
 have h2 : (L.filter (entB n.ino)).map (fun p => (⟨(sp p.key).name,chd p⟩ : En)) = (L.filter (entB n.ino)).map (fun p => (fun nm => (⟨nm,entryM n nm⟩ : En)) (sp p.key).name) := by
  refine List.map_congr_left fun p hp => ?_
  obtain ⟨hp1,hp2⟩ := List.mem_filter.1 hp
  unfold entB at hp2
  rw [Bool.and_eq_true] at hp2
  have hl : (sp p.key).letter = 69 := by simpa using hp2.1
  have hi : (sp p.key).ino = n.ino := by simpa using hp2.2
  rcases cls st hp1 with ⟨_,q,_⟩ | ⟨_,_,m,hm,e,he,q1,q2,q3,q4⟩
  ·unfold isE at q
   rw [hl] at q
   simp at q
  ·have hmn : m = n := nod_eq st.ws.nod hm hn (by rw [← q2]; exact hi)
   subst hmn
   dsimp only
   rw [q3,q4,entry_some (st.ws.ord m hm) he]
 have h3 : (L.filter (entB n.ino)).map (fun p => (fun nm => (⟨nm,entryM n nm⟩ : En)) (sp p.key).name) = ((L.filter (entB n.ino)).map (fun p => (sp p.key).name)).map (fun nm => (⟨nm,entryM n nm⟩ : En)) := by rw [List.map_map]; rfl
 rw [h2,h3,h1,List.map_map]
 have h4 : n.ents.map ((fun nm => (⟨nm,entryM n nm⟩ : En)) ∘ fun x => x.name) = n.ents.map id := by
  refine List.map_congr_left fun e he => ?_
  show (⟨e.name,entryM n e.name⟩ : En) = e
  rw [entry_some (st.ws.ord n hn) he]
 rw [h4,List.map_id]
theorem S_add (F : Fs) (g h : Nd → Nat) : S F (fun n => g n + h n) = S F g + S F h := by
 induction F with
 | nil => rfl
 | cons x r ih => rw [S_cons,S_cons,S_cons,ih]; omega
theorem S_one {F : Fs} (hF : Nod F) {m : Nd} (hm : m ∈ F) : S F (fun n => if n.ino = m.ino then 1 else 0) = 1 := by
 obtain ⟨A,B,rfl⟩ := List.append_of_mem hm
 have hp := nod_parts hF
 have z : ∀ C : Fs,(∀ x ∈ C,x.ino ≠ m.ino) → S C (fun n => if n.ino = m.ino then 1 else 0) = 0 := fun C hC => by
  induction C with
  | nil => rfl
  | cons x r ih => rw [S_cons,if_neg (hC x (by simp)),ih (fun y hy => hC y (by simp [hy]))]
 rw [S_app,S_cons,z A hp.1,z B hp.2.1,if_pos rfl]
theorem S_zero (F : Fs) : S F (fun _ => 0) = 0 := by
 induction F with
 | nil => rfl
 | cons x r ih => rw [S_cons,ih]
theorem S_congr {F : Fs} {g h : Nd → Nat} (e : ∀ n ∈ F,g n = h n) : S F g = S F h := by
 induction F with
 | nil => rfl
 | cons x r ih => rw [S_cons,S_cons,e x (by simp),ih (fun n hn => e n (by simp [hn]))]
theorem split_count (hF : Nod F) (q : Pr → Bool) : ∀ l : List Pr,(∀ p ∈ l,isE p = true → ∃ n ∈ F,ofD p = n.ino) → l.countP (fun p => isE p && q p) = S F (fun n => (l.filter (entB n.ino)).countP q)
 | [],_ => (S_zero F).symm
 | p :: l,h => by
   have ih := split_count hF q l (fun x hx => h x (by simp [hx]))
   rw [List.countP_cons,ih]
   by_cases he : isE p = true
   ·obtain ⟨m,hm,hmi⟩ := h p (by simp) he
    by_cases hq : q p = true
    ·have e1 : ∀ n ∈ F,((p :: l).filter (entB n.ino)).countP q = (l.filter (entB n.ino)).countP q + (if n.ino = m.ino then 1 else 0) := fun n hn => by
      rw [List.filter_cons]
      have e2 : entB n.ino p = decide (n.ino = m.ino) := by
       unfold entB
       unfold isE at he
       rw [he,Bool.true_and]
       unfold ofD at hmi
       rw [hmi]
       by_cases z : n.ino = m.ino
       ·rw [decide_eq_true z,decide_eq_true z.symm]
       ·rw [decide_eq_false z,decide_eq_false (fun y => z y.symm)]
      rw [e2]
      by_cases z : n.ino = m.ino
      ·simp [z,hq]
      ·simp [z]
     rw [S_congr e1,S_add,S_one hF hm,he,hq]
     simp
    ·have e1 : ∀ n ∈ F,((p :: l).filter (entB n.ino)).countP q = (l.filter (entB n.ino)).countP q := fun n hn => by
      rw [List.filter_cons]
      split
      ·rw [List.countP_cons]; simp [hq]
      ·rfl
     rw [S_congr e1]
     simp [hq]
   ·have e1 : ∀ n ∈ F,((p :: l).filter (entB n.ino)).countP q = (l.filter (entB n.ino)).countP q := fun n hn => by
     rw [List.filter_cons]
     have e2 : entB n.ino p = false := by
      unfold entB
      unfold isE at he
      have : decide ((sp p.key).letter = 69) = false := by simpa using he
      rw [this,Bool.false_and]
     rw [e2]
     rfl
    rw [S_congr e1]
    simp [he]
theorem fE_all (st : St F π L k) (j : Int) : fE L j = cnt F j := by
 unfold fE cnt
 rw [split_count st.ws.nod (fun p => decide (chd p = j)) L (fun p hp he => by
  rcases cls st hp with ⟨_,q,_⟩ | ⟨_,_,m,hm,e,_,_,q2,_⟩
  ·rw [q] at he; cases he
  ·exact ⟨m,hm,q2⟩)]
 congr 1
 refine S_congr fun n hn => ?_
 unfold toE
 conv => rhs; rw [← filter_ents st hn,List.countP_map]
 rfl
theorem fB_all (st : St F π L k) {n : Nd} (hn : n ∈ F) : fB F L n.ino = subs F n.ents := by
 unfold fB subs
 conv => rhs; rw [← filter_ents st hn,List.countP_map,List.countP_filter]
 congr 1
 refine List.countP_congr fun p _ => ?_
 unfold entB isE ofD
 show _ ↔ (dirB F (chd p) && (decide ((sp p.key).letter = 69) && decide ((sp p.key).ino = n.ino))) = true
 simp only [Bool.and_eq_true]
 constructor
 ·rintro ⟨a,b,c⟩; exact ⟨c,a,b⟩
 ·rintro ⟨c,a,b⟩; exact ⟨a,b,c⟩
theorem fP_mem (st : St F π L k) : ∀ (j : Nat) {p : Pr},p ∈ L.take j → isE p = true → dirB F (chd p) = true → fP F (L.take j) (chd p) = ofD p
 | 0,p,h,_,_ => by simp at h
 | j + 1,p,h,he,hd => by
   by_cases hlt : j < L.length
   ·have hq : L[j]? = some L[j] := List.getElem?_eq_getElem hlt
    have e1 : L.take (j + 1) = L.take j ++ [L[j]] := by rw [List.take_add_one,hq]; rfl
    rw [e1] at h ⊢
    rw [fP_next]
    unfold stepP
    by_cases hc : (isE L[j] && dirB F (chd L[j])) = true
    ·rw [if_pos hc]
     rw [Bool.and_eq_true] at hc
     by_cases hcc : chd p = chd L[j]
     ·rw [hcc,upd_same]
      have hpL : p ∈ L := by
       rcases List.mem_append.1 h with h | h
       ·exact List.mem_of_mem_take h
       ·rw [List.mem_singleton.1 h]; exact List.getElem_mem hlt
      rcases cls st hpL with ⟨_,q,_⟩ | ⟨_,_,m,hm,e,hem,q1,q2,q3,q4⟩
      ·rw [q] at he; cases he
      rcases cls st (List.getElem_mem hlt) with ⟨_,q,_⟩ | ⟨_,_,m',hm',e',hem',q1',q2',q3',q4'⟩
      ·rw [q] at hc; cases hc.1
      have a1 := entF_of (node_of st.ws.nod hm) (st.ws.ord m hm) hem
      have a2 := entF_of (node_of st.ws.nod hm') (st.ws.ord m' hm') hem'
      have hx := st.ws.some_ m hm e hem
      obtain ⟨r1,_⟩ := ent_uq st.sim.wf (i := e.ino) (by rw [← q4]; exact hd) a1 (by rw [a2,← q4',← hcc,q4]) (by omega)
      rw [q2,q2',r1]
     ·rw [upd_ne _ _ hcc]
      rcases List.mem_append.1 h with h | h
      ·exact fP_mem st j h he hd
      ·rw [List.mem_singleton.1 h] at hcc
       exact absurd rfl hcc
    ·rw [if_neg hc]
     rcases List.mem_append.1 h with h | h
     ·exact fP_mem st j h he hd
     ·rw [List.mem_singleton.1 h] at he hd
      rw [he,hd] at hc
      exact absurd rfl hc
   ·rw [List.take_of_length_le (by omega)] at h ⊢
    have := fP_mem st j (p := p) (by rw [List.take_of_length_le (by omega)]; exact h) he hd
    rwa [List.take_of_length_le (by omega)] at this
theorem fP_all (st : St F π L k) {d i : Int} {nm : ByteArray} (h : entF F d nm = i) (hi : dirB F i = true) (h0 : i ≠ 0) : fP F L i = d := by
 obtain ⟨n,e,hn,he,hnm,hei⟩ := entF_mem (F := F) (d := d) (nm := nm) (by rw [h]; exact h0)
 have hm := node_mem hn
 have hg := st.sim.rg.ents n hm.1 e he
 unfold DirsX.gk at hg
 cases hq : getL (kE n.ino e.name) L with
 | none => rw [hq] at hg; cases hg
 | some p =>
   obtain ⟨hp,hpk⟩ := (get_iff st.rise).1 hq
   rcases cls st hp with ⟨_,q,_⟩ | ⟨_,qe,m,hm',e',he',q1,q2,q3,q4⟩
   ·have hni := st.ws.ino n hm.1
    have hgn := good_of (st.ws.name n hm.1 e he)
    unfold isE at q
    rw [hpk,sp_E _ _ (by omega) hni.2 hgn.1 hgn.2] at q
    cases q
   ·rw [hpk] at q1
    have i1 := st.ws.ino n hm.1
    have i2 := st.ws.ino m hm'
    have g1 := good_of (st.ws.name n hm.1 e he)
    have g2 := good_of (st.ws.name m hm' e' he')
    obtain ⟨r1,r2⟩ := kE_inj (by omega) i1.2 (by omega) i2.2 g1 g2 q1
    have hmn : n = m := nod_eq st.ws.nod hm.1 hm' r1
    subst hmn
    have hee : e = e' := ord_eq (st.ws.ord n hm.1) he he' r2
    subst hee
    have hci : chd p = i := by rw [q4,hei,h]
    have := fP_mem st L.length (p := p) (by rw [List.take_of_length_le (Nat.le_refl _)]; exact hp) qe (by rw [hci]; exact hi)
    rw [List.take_of_length_le (Nat.le_refl _),hci] at this
    rw [this,q2,hm.2]
theorem fI_node (st : St F π L k) {i : Int} (h : i ∈ fI L) : ∃ n ∈ F,n.ino = i := by
 unfold fI at h
 obtain ⟨p,hp,rfl⟩ := List.mem_map.1 h
 obtain ⟨hp1,hp2⟩ := List.mem_filter.1 hp
 rcases cls st hp1 with ⟨_,_,n,hn,e⟩ | ⟨q,_⟩
 ·exact ⟨n,hn,e.symm⟩
 ·rw [q] at hp2; cases hp2
theorem fI_dir (st : St F π L k) {i : Int} (hi : dirB F i = true) (h1 : i ≠ 1) : i ∈ fI L := by
 obtain ⟨n,hn,hk⟩ := dir_mem hi
 have hm := node_mem hn
 have hni := st.ws.ino n hm.1
 rcases st.sim.rg.inos n hm.1 with hg | ⟨q,_⟩
 ·unfold DirsX.gk at hg
  cases hq : getL (kI n.ino) L with
  | none => rw [hq] at hg; cases hg
  | some p =>
    obtain ⟨hp,hpk⟩ := (get_iff st.rise).1 hq
    unfold fI
    refine List.mem_map.2 ⟨p,List.mem_filter.2 ⟨hp,?_⟩,?_⟩
    ·unfold isI
     rw [hpk,sp_I _ (by omega) hni.2]
     rfl
    ·unfold ofD
     rw [hpk,sp_I _ (by omega) hni.2,hm.2]
 ·rw [hm.2] at q
  exact absurd q h1
theorem nodup_le : ∀ {l m : List Int},l.Pairwise (· ≠ ·) → (∀ x ∈ l,x ∈ m) → l.length ≤ m.length
 | [],_,_,_ => Nat.zero_le _
 | x :: l,m,h,hm => by
   rw [List.pairwise_cons] at h
   have hx := hm x (by simp)
   have h1 := nodup_le (l := l) (m := m.erase x) h.2 (fun y hy => (List.mem_erase_of_ne (fun e => h.1 y hy e.symm)).2 (hm y (by simp [hy])))
   rw [List.length_erase_of_mem hx] at h1
   have := List.length_pos_of_mem hx
   rw [List.length_cons]
   omega
theorem way_dirs (w : Wf F π) {i : Int} {l : List ByteArray} (p : Pth F i l) (hi : dirB F i = true) : ∃ ds : List Int,ds.length = l.length ∧ ds.Pairwise (· ≠ ·) ∧ ∀ x ∈ ds,x ≠ 1 ∧ dirB F x = true ∧ ∃ a,Pth F x a ∧ a.length ≤ l.length := by
 induction p with
 | root => exact ⟨[],rfl,List.Pairwise.nil,fun x hx => by cases hx⟩
 | step p nm h ih =>
   rename_i d l
   obtain ⟨ds,h1,h2,h3⟩ := ih (entF_ok w h).1
   refine ⟨entF F d nm :: ds,by simp [h1],?_,fun x hx => ?_⟩
   ·rw [List.pairwise_cons]
    refine ⟨fun x hx e => ?_,h2⟩
    obtain ⟨_,_,a,pa,la⟩ := h3 x hx
    rw [← e] at pa
    have := (p.step nm h).uq w hi pa
    rw [← this,List.length_append,List.length_singleton] at la
    omega
   ·rcases List.mem_cons.1 hx with rfl | hx
    ·exact ⟨(entF_ok w h).2.2,hi,_,p.step nm h,Nat.le_refl _⟩
    ·obtain ⟨a1,a2,a,pa,la⟩ := h3 x hx
     exact ⟨a1,a2,a,pa,by rw [List.length_append]; omega⟩
theorem way_len (st : St F π L k) {i : Int} {l : List ByteArray} (p : Pth F i l) (hi : dirB F i = true) : l.length ≤ (fI L).length := by
 obtain ⟨ds,h1,h2,h3⟩ := way_dirs st.sim.wf p hi
 rw [← h1]
 exact nodup_le h2 fun x hx => fI_dir st (h3 x hx).2.1 (h3 x hx).1
end
end Go.Proofs.YtfalhnomhidkcaaGreatDoor.DirsTc
namespace Go.Proofs.YtfalhnomhidkcaaGreatDoor.Mu
open Go.RowKit Go.Maps
open Own Chg
theorem law_u32 : Keyed Tryz.prog 36 := int_keyed Tryz.underlying36
def Mu (q : IntKind) (ety : TypeId) (w : World) (b N : Nat) (f : Int → Int) : Prop := ∃ n D,n ≤ N ∧ w.ownsMap Tryz.prog 36 (plainElem (H := Unit) Tryz.prog ety) b n D ∧ IsMap D ∧ ∀ k,D.atKey (.int .u32 k) (.lit (.int q 0)) = .lit (.int q (f k))
section
variable {q : IntKind} {ety : TypeId} {w w' : World} {b N : Nat} {f : Int → Int}
theorem Mu.made (q : IntKind) (ety : TypeId) (w : World) : Mu q ety (w.alloc (.map #[] 0)) w.heap.size 0 (fun _ => 0) :=
 ⟨0,_,Nat.le_refl _,World.ownsMap_made _ _ _ _,isMap_empty,fun _ => rfl⟩
theorem Mu.lt (h : Mu q ety w b N f) : b < w.heap.size := by
 obtain ⟨n,D,_,h,_⟩ := h
 exact h.lt
theorem Mu.kept {row : Option Nat} (h : Mu q ety w b N f) (hg : w.grownBy w' row) (hne : some b ≠ row) : Mu q ety w' b N f := by
 obtain ⟨n,D,hn,h,h2⟩ := h
 exact ⟨n,D,hn,h.kept hg hne,h2⟩
theorem Mu.below (h : Mu q ety w b N f) (hb : Below w.heap.size w w') : Mu q ety w' b N f :=
 h.kept (row := none) ⟨hb.os,hb.tape,hb.output,hb.size,fun k hk _ => hb.block k hk⟩ (by simp)
theorem Mu.chg {S : Nat → Prop} (h : Mu q ety w b N f) (c : Chg S w w') (hS : ¬ S b) : Mu q ety w' b N f := by
 have hlt := h.lt
 obtain ⟨n,D,hn,⟨es,clock,hb,F,hs,hD⟩,h2⟩ := h
 exact ⟨n,D,hn,⟨es,clock,(c.block b hlt hS).trans hb,F,hs,hD⟩,h2⟩
theorem Mu.more {N' : Nat} (h : Mu q ety w b N f) (hN : N ≤ N') : Mu q ety w b N' f := by
 obtain ⟨n,D,hn,h⟩ := h
 exact ⟨n,D,by omega,h⟩
theorem Mu.ask {mt : TypeId} (hmt : Tryz.prog.underlying mt = some (.map 36 ety)) (he : Tryz.prog.underlying ety = some (.int q)) (hz : (zeroValue ety).run Tryz.prog w = .ok (.int q 0) w) (h : Mu q ety w b N f) {k : Int} (hk : (Lit.int .u32 k).wf = true) :
 (Instr.lookup mt (.map (some b)) (.int .u32 k) false).run Tryz.prog w = .ok (.int q (f k)) w := by
 obtain ⟨n,D,_,h,_,h2⟩ := h
 obtain ⟨c,hrun,hat,_⟩ := h.lookup_int law_u32 hmt he hz (keyOf_int_mk Tryz.underlying36 hk)
 rw [h2 k] at hat
 injection hat with hat
 injection hat with _ hat
 rw [hat]
 exact hrun
theorem wpList_putM {ops : Array Oper} {rest : List Oper} {o : Oper} {a : Act} {Q : Exit → Act → World → Prop} (hg : o.guard = none) (m x v : Operand) (mt : TypeId) (hop : o.op = Op.mapUpdate mt m x v)
 (hmt : Tryz.prog.underlying mt = some (.map 36 ety)) (he : Tryz.prog.underlying ety = some (.int q)) (hm : a.eval m = .map (some b)) (h : Mu q ety w b N f) (hN : N < 100000) (k z : Int) (hx : a.eval x = .int .u32 k) (hv : a.eval v = .int q z) (hk : (Lit.int .u32 k).wf = true) (hz : (Lit.int q z).wf = true)
 (hK : ∀ w',Mu q ety w' b (N + 1) (fun j => if j = k then z else f j) → w.grownBy w' (some b) → wpList Tryz.prog ops Q rest (a.put o.dst undef) w') : wpList Tryz.prog ops Q (o :: rest) a w := by
 obtain ⟨n,D,hn,h,h1,h2⟩ := h
 refine wpList_mapUpdate_own _ hg m x v mt hop 36 ety law_u32 hmt _ b n _ hm h (by unfold maxLen; omega) _ _ _ hx hv (keyOf_int_mk Tryz.underlying36 hk) _ [] (plainElem_int he hz) ?_
 intro w' h3 h4
 refine hK w' ⟨n + 1,_,by omega,h3,h1.put _ _,fun j => ?_⟩ h4
 by_cases hj : j = k
 ·show _ = DataW.lit (Lit.int q (if j = k then z else f j))
  rw [if_pos hj,hj]
  exact atKey_put_same h1 (show WideAt.IsKeyLit (.int .u32 k) from trivial) _ _
 ·show _ = DataW.lit (Lit.int q (if j = k then z else f j))
  rw [if_neg hj,atKey_put_other (fun e => hj (by injection e))]
  exact h2 j
end
end Go.Proofs.YtfalhnomhidkcaaGreatDoor.Mu
namespace Go.Proofs.YtfalhnomhidkcaaGreatDoor.DirsU
open Go.RowKit
open Byte KeysM TreeM ViewM NamesM NamesL Lst Ho WalkM WalkF Chg TreeL ViewL WalkV Vat DirsM DirsV DirsR DirsW DirsY DirsS DirsZ DirsK DirsKc DirsLc DirsLd DirsLf
open DirsX hiding gk
open WalkL
open Own hiding keeps
open ViewR (Sh)
open TreeR (prE GotV)
variable {Rep : RepT}
open DirsT DirsTa DirsTc Mu Tx
open DirsQ (RangeN st_letters ranged_same)
open NodeM (may)
open WalkKm WalkKa
def u32E : Enc Int := ⟨fun x => [.int .u32 x],1,fun _ => rfl,fun x u hu => by
 rw [List.mem_singleton.1 hu]; rfl,by decide⟩
theorem info_u32 : (Tryz.prog.info? 36).map (fun i => (i.zero,i.size,i.bytes)) = some (some (.int .u32 0),u32E.size,4) := by kernel_rfl
theorem zero_i (w : World) : (zeroValue 3).run Tryz.prog w = .ok (.int .i64 0) w := by kernel_rfl
theorem zero_u (w : World) : (zeroValue 36).run Tryz.prog w = .ok (.int .u32 0) w := by kernel_rfl
theorem so_chg {α : Type} {e : Enc α} {T : TypeId} {w w' : World} {base : Nat} {v : Value} {n : Nat} {L : List α} {Q : Nat → Prop} (h : So e T w base v n L) (k : Chg Q w w') (ho : ∀ b,v.ownBlock = some b → ¬ Q b) : So e T w' base v n L := by
 obtain ⟨h1,h2,h3⟩ := h
 refine ⟨h1,h2,?_⟩
 rcases h3 with hn | ⟨g,cap,cur,rfl,hb,hgg,rest⟩
 ·exact .inl hn
 ·refine .inr ⟨g,cap,cur,rfl,hb,?_,rest⟩
  rw [k.block g (Array.getElem?_eq_some_iff.1 hgg).1 (ho g rfl)]
  exact hgg
theorem kept_map {q : IntKind} {ety : TypeId} {w w' : World} {b N : Nat} {f : Int → Int} (h : Mu q ety w b N f) (hg : w.grownBy w' (some b)) : Kept w w' := fun c cs U fr hU hb => by
 have hlt : c < w.heap.size := by
  rcases Nat.lt_or_ge c w.heap.size with h1 | h1
  ·exact h1
  ·rw [Array.getElem?_eq_none h1] at hb; cases hb
 by_cases e : c = b
 ·subst e
  obtain ⟨n,D,_,⟨es,clock,hb2,_⟩,_⟩ := h
  have := hb2.symm.trans hb
  simp at this
 ·exact (hg.block c hlt (by simpa using e)).trans hb
def Mine (ra : Option Addr) (rn bE bB bP : Nat) (rv : Value) (b : Nat) : Prop := (0 < rn ∧ ∃ o,ra = some ⟨b,o,none⟩) ∨ b = bE ∨ b = bB ∨ b = bP ∨ rv.ownBlock = some b
structure Tw (Rep : RepT) (w0 : World) (S0 D0 : Nat → Prop) (ra : Option Addr) (rn bE bB bP : Nat) (L : List Pr) (u : World) (v : Value) (s : Vs) (S D : Nat → Prop) (rv : Value) (fe fb fp : Int → Int) (ns : List Int) (N R K : Nat) : Prop where
 A : At Rep w0 S0 D0 (Mine ra rn bE bB bP rv) u v s S D
 row : Sl prE u ra rn L
 mE : Mu .i64 3 u bE K fe
 mB : Mu .i64 3 u bB K fb
 mP : Mu .u32 36 u bP K fp
 ne : bE ≠ bB ∧ bE ≠ bP ∧ bB ≠ bP
 all : So u32E 36 u w0.heap.size rv ns.length ns
 sh : s.shown = L
 base : s.base.length ≤ 1000
 rd : s.rd.length ≤ N
 rg : s.rg.length ≤ R
 rne : ∀ b o,0 < rn → ra = some ⟨b,o,none⟩ → rv.ownBlock ≠ some b
section
variable {w0 u u' : World} {S0 D0 S D S' D' : Nat → Prop} {ra : Option Addr} {rn bE bB bP : Nat} {L : List Pr} {v rv : Value} {s s' : Vs} {fe fb fp : Int → Int} {ns : List Int} {N R K : Nat}
theorem row_keep (h : Sl prE u ra rn L) {Q : Nat → Prop} (c : Chg Q u u') (hq : ∀ b,(0 < rn ∧ ∃ o,ra = some ⟨b,o,none⟩) → ¬ Q b) : Sl prE u' ra rn L := by
 by_cases h0 : 0 < rn
 ·exact Chg.Sl.chg h c (fun b o e => hq b ⟨h0,o,e⟩)
 ·have hn : rn = 0 := by omega
  have hl : L = [] := List.eq_nil_of_length_eq_zero (by rw [← hn]; exact h.1)
  refine ⟨by rw [hl,hn]; rfl,fun k x hx => ?_⟩
  rw [hl] at hx
  simp at hx
theorem Tw.step (hS : Stays Rep) (t : Tw Rep w0 S0 D0 ra rn bE bB bP L u v s S D rv fe fb fp ns N R K) {k : ByteArray} (hr : Rep u' v (s.read k) S' D') (st : Stp S D S' D' u u') : Tw Rep w0 S0 D0 ra rn bE bB bP L u' v (s.read k) S' D' rv fe fb fp ns (N + 1) R K :=
 ⟨t.A.step hS hr st,row_keep t.row st.chg (fun b hb => t.A.apart hS (.inl hb)),t.mE.chg st.chg (t.A.apart hS (.inr (.inl rfl))),t.mB.chg st.chg (t.A.apart hS (.inr (.inr (.inl rfl)))),t.mP.chg st.chg (t.A.apart hS (.inr (.inr (.inr (.inl rfl))))),t.ne,
  so_chg t.all st.chg (fun b hb => t.A.apart hS (.inr (.inr (.inr (.inr hb))))),t.sh,t.base,by have := read_len s k; have := t.rd; omega,t.rg,t.rne⟩
theorem Tw.below (hS : Stays Rep) (t : Tw Rep w0 S0 D0 ra rn bE bB bP L u v s S D rv fe fb fp ns N R K) (hb : Below u.heap.size u u') : Tw Rep w0 S0 D0 ra rn bE bB bP L u' v s S D rv fe fb fp ns N R K :=
 ⟨t.A.below hS hb,t.row.below hb,t.mE.below hb,t.mB.below hb,t.mP.below hb,t.ne,t.all.below hb,t.sh,t.base,t.rd,t.rg,t.rne⟩
theorem Tw.lim (t : Tw Rep w0 S0 D0 ra rn bE bB bP L u v s S D rv fe fb fp ns N R K) (h1 : N ≤ 18000) (h2 : R ≤ 900) : Lim s := ⟨t.base,by have := t.rd; omega,by have := t.rg; omega⟩
theorem row_off (hS : Stays Rep) (t : Tw Rep w0 S0 D0 ra rn bE bB bP L u v s S D rv fe fb fp ns N R K) {q : IntKind} {ety : TypeId} {b M : Nat} {f : Int → Int} (h : Mu q ety u b M f) : ∀ c,(0 < rn ∧ ∃ o,ra = some ⟨c,o,none⟩) → c ≠ b := fun c hc e => by
 obtain ⟨h0,o,ho⟩ := hc
 subst e
 obtain ⟨x,hx⟩ : ∃ x,L[0]? = some x := ⟨_,List.getElem?_eq_getElem (by have := t.row.1; omega)⟩
 obtain ⟨b',o',e',hlt,hcl⟩ := t.row.2 0 x hx
 rw [ho] at e'
 injection e' with e'
 injection e' with e1 _
 subst e1
 have hc0 := hcl 0 _ (show (prE.cells x)[0]? = some (.string x.key) from rfl)
 obtain ⟨n,D,_,⟨es,clock,hb2,_⟩,_⟩ := h
 simp [World.cell?,hb2] at hc0
theorem own_off (t : Tw Rep w0 S0 D0 ra rn bE bB bP L u v s S D rv fe fb fp ns N R K) {q : IntKind} {ety : TypeId} {b M : Nat} {f : Int → Int} (h : Mu q ety u b M f) : ∀ c,rv.ownBlock = some c → c ≠ b := fun c hc e => by
 subst e
 rcases t.all.2.2 with ⟨h1,_⟩ | ⟨g,cap,cur,h1,_,hg,_⟩
 ·rw [h1] at hc; cases hc
 ·rw [h1] at hc
  injection hc with hc
  subst hc
  obtain ⟨n,D,_,⟨es,clock,hb2,_⟩,_⟩ := h
  have := hb2.symm.trans hg
  simp at this
theorem chg_map {q : IntKind} {ety : TypeId} {b M : Nat} {f : Int → Int} (h : Mu q ety u b M f) (hg : u.grownBy u' (some b)) : Chg (fun c => c = b) u u' := Chg.of_grown hg (fun k e => .inl (by injection e with e; exact e.symm))
theorem Tw.putE (hS : Stays Rep) (t : Tw Rep w0 S0 D0 ra rn bE bB bP L u v s S D rv fe fb fp ns N R K) {f : Int → Int} (h : Mu .i64 3 u' bE (K + 1) f) (hg : u.grownBy u' (some bE)) : Tw Rep w0 S0 D0 ra rn bE bB bP L u' v s S D rv f fb fp ns N R (K + 1) := by
 have c := chg_map t.mE hg
 exact ⟨t.A.chg hS c (kept_map t.mE hg) (fun b hb _ => .inr (.inl hb)),row_keep t.row c (row_off hS t t.mE),h,(t.mB.chg c (fun e => t.ne.1 e.symm)).more (Nat.le_succ _),(t.mP.chg c (fun e => t.ne.2.1 e.symm)).more (Nat.le_succ _),t.ne,so_chg t.all c (own_off t t.mE),t.sh,t.base,t.rd,t.rg,t.rne⟩
theorem Tw.putB (hS : Stays Rep) (t : Tw Rep w0 S0 D0 ra rn bE bB bP L u v s S D rv fe fb fp ns N R K) {f : Int → Int} (h : Mu .i64 3 u' bB (K + 1) f) (hg : u.grownBy u' (some bB)) : Tw Rep w0 S0 D0 ra rn bE bB bP L u' v s S D rv fe f fp ns N R (K + 1) := by
 have c := chg_map t.mB hg
 exact ⟨t.A.chg hS c (kept_map t.mB hg) (fun b hb _ => .inr (.inr (.inl hb))),row_keep t.row c (row_off hS t t.mB),(t.mE.chg c (fun e => t.ne.1 e)).more (Nat.le_succ _),h,(t.mP.chg c (fun e => t.ne.2.2 e.symm)).more (Nat.le_succ _),t.ne,so_chg t.all c (own_off t t.mB),t.sh,t.base,t.rd,t.rg,t.rne⟩
theorem Tw.putP (hS : Stays Rep) (t : Tw Rep w0 S0 D0 ra rn bE bB bP L u v s S D rv fe fb fp ns N R K) {f : Int → Int} (h : Mu .u32 36 u' bP (K + 1) f) (hg : u.grownBy u' (some bP)) : Tw Rep w0 S0 D0 ra rn bE bB bP L u' v s S D rv fe fb f ns N R (K + 1) := by
 have c := chg_map t.mP hg
 exact ⟨t.A.chg hS c (kept_map t.mP hg) (fun b hb _ => .inr (.inr (.inr (.inl hb)))),row_keep t.row c (row_off hS t t.mP),(t.mE.chg c (fun e => t.ne.2.1 e)).more (Nat.le_succ _),(t.mB.chg c (fun e => t.ne.2.2 e)).more (Nat.le_succ _),h,t.ne,so_chg t.all c (own_off t t.mP),t.sh,t.base,t.rd,t.rg,t.rne⟩
theorem Tw.more (t : Tw Rep w0 S0 D0 ra rn bE bB bP L u v s S D rv fe fb fp ns N R K) {N' K' : Nat} (h1 : N ≤ N') (h2 : K ≤ K') : Tw Rep w0 S0 D0 ra rn bE bB bP L u v s S D rv fe fb fp ns N' R K' :=
 ⟨t.A,t.row,t.mE.more h2,t.mB.more h2,t.mP.more h2,t.ne,t.all,t.sh,t.base,Nat.le_trans t.rd h1,t.rg,t.rne⟩
theorem Tw.app (hS : Stays Rep) (t : Tw Rep w0 S0 D0 ra rn bE bB bP L u v s S D rv fe fb fp ns N R K) {rv' : Value} {ns' : List Int} (h : So u32E 36 u' w0.heap.size rv' ns'.length ns') (hg : u.grownBy u' rv.ownBlock) (hw : rv'.ownBlock = rv.ownBlock ∨ rv'.ownBlock = some u.heap.size) : Tw Rep w0 S0 D0 ra rn bE bB bP L u' v s S D rv' fe fb fp ns' N R K := by
 have c : Chg (fun b => rv.ownBlock = some b) u u' := Chg.of_grown hg (fun k e => .inl e)
 have a := t.A.chg hS c (Kept.of_grown t.all hg (by decide)) (fun b hb _ => .inr (.inr (.inr (.inr hb))))
 refine ⟨⟨a.rep,a.st,fun b hb => ?_⟩,row_keep t.row c (fun b hb hq => ?_),t.mE.chg c (fun hq => own_off t t.mE _ hq rfl),t.mB.chg c (fun hq => own_off t t.mB _ hq rfl),t.mP.chg c (fun hq => own_off t t.mP _ hq rfl),t.ne,h,t.sh,t.base,t.rd,t.rg,fun b o h0 hb => ?_⟩
 ·rcases hb with hb | hb | hb | hb | hb
  ·exact a.mine b (.inl hb)
  ·exact a.mine b (.inr (.inl hb))
  ·exact a.mine b (.inr (.inr (.inl hb)))
  ·exact a.mine b (.inr (.inr (.inr (.inl hb))))
  ·rcases hw with hw | hw
   ·exact a.mine b (.inr (.inr (.inr (.inr (by rw [← hw]; exact hb)))))
   ·rw [hw] at hb
    injection hb with hb
    subst hb
    have h1 := t.A.st.chg.size
    have h2 := (h.lt hw).2
    exact ⟨h1,h2,fun hd => by have := hS.lt t.A.rep _ hd; omega⟩
 ·obtain ⟨h0,o,ho⟩ := hb
  exact t.rne b o h0 ho hq
 ·rcases hw with hw | hw
  ·rw [hw]; exact t.rne b o h0 hb
  ·rw [hw]
   obtain ⟨x,hx⟩ : ∃ x,L[0]? = some x := ⟨_,List.getElem?_eq_getElem (by have := t.row.1; omega)⟩
   obtain ⟨b',o',e',hlt,_⟩ := t.row.2 0 x hx
   rw [hb] at e'
   injection e' with e'
   injection e' with e1 _
   intro e
   injection e with e
   omega
end
theorem tree_law (hW : Wk Rep) (hN : NewB Rep) (hRn : RangeN Rep) (hCh : ChildOk Rep) (A : Option Addr) (n c : Nat) (ops : List Op18) (w : World) (hl : Sl opE w A n ops) (hn : n ≤ c) (hc : c ≤ maxLen) (hf : ∀ p ∈ ops,OpB p) (hmx : Mx w) :
 Calls Tryz.prog 5 #[.slice A n c] w fun e w' => e = .returned (.bool true) ∧ Below w.heap.size w w' := by
 have HMX := hQ_ hmx
 have HN := hQ_ hN
 have HW := hQ_ hW
 have HRN := hQ_ hRn
 have HCH := hQ_ hCh
 have HL := hQ_ hl
 have HOB := hQ_ hf
 have HB0 := hQ_ (Below.refl w.heap.size w)
 clear hmx hN hW hl hf hRn hCh
 go_enter Tryz.func5,Tryz.ntmps5
 go_wp2_with fail
 refine (TreeG.new_calls _).mono ?_
 rintro e w1 ⟨v0,h0,rfl,hr0,hb1⟩
 have HB1 := hQ_ (Own.keeps HB0.out hb1)
 have HR0 := hQ_ hr0
 clear hb1 hr0
 go_wp2_with fail
 refine (HN.out HR0.out (Nat.zero_le _) (fun p hp => by cases hp)).mono ?_
 rintro e w2 ⟨v,S,D,rfl,hr2,hS2,hD2,hb2⟩
 have HB2 := hQ_ (Own.keeps HB1.out hb2)
 have HS2 : Hid (∀ b,S b → w.heap.size ≤ b) := hQ_ (fun b hb => Nat.le_trans HB1.out.size (hS2 b hb))
 have A2 := hQ_ (At.start hr2)
 have ML : Hid (0 < w.heap.size) := hQ_ (by
  obtain ⟨m,hm⟩ := HMX.out
  exact World.block_lt_of_cell? w ⟨0,0,none⟩ hm)
 clear hb2 hr2 hS2 hD2
 go_wp2_with fail
 refine (DirsRc.new_calls (T := fun b => w2.heap.size ≤ b) _ (fun b hb => hb)).mono ?_
 rintro e w3 ⟨hh,rfl,hf3,hb3⟩
 have hb4 := bN_ w3 (.cells #[.slice hh.a hh.n hh.c] 29)
 have A4 := (A2.out.below HW.out.stays hb3).own HW.out.stays hb4 (Nat.le_refl _) (by simp)
 have P4 : Hid (Pl Rep w2 S D w3.heap.size (w3.alloc (.cells #[.slice hh.a hh.n hh.c] 29)) v ⟨[],[],[],[]⟩ S D hh F0 0) := hQ_ (by
  refine ⟨⟨⟨A4.rep,?_,?_,⟨_,st0⟩,Nat.zero_le _,Nat.zero_le _,Nat.zero_le _,Nat.zero_le _,ac0⟩,fun n hn => by rw [mem0 hn]; show (1 : Int) ≤ ((0 : Nat) : Int) + 1; omega⟩,A4.less (fun b hb => .inr hb),Blk.new_ _ _ _,by have := ML.out; have := HB2.out.size; have := hb3.size; omega⟩
  ·exact (hf3.chg (S := fun _ => False) (Chg.refl _ w3) (fun b hb hlt => ⟨fun h => h,fun hs => by have := HW.out.stays.lt A2.out.rep b (HW.out.stays.sub A2.out.rep b hs); omega,by omega⟩)).below hb4
  ·exact ⟨((HMX.out.below HB2.out).below hb3).below hb4,fun hs => by have h1 := HS2.out _ hs; have h2 := ML.out; omega⟩)
 have HB4 : Hid (Below w.heap.size w (w3.alloc (.cells #[.slice hh.a hh.n hh.c] 29))) := hQ_ ((Own.keeps HB2.out hb3).alloc (Nat.le_trans HB2.out.size hb3.size) _)
 clear hf3 hb3 hb4 A4
 go_wp2_with fail
 refine (cut_calls A n c ops _ (HL.out.below HB4.out) hn hc HOB.out).mono ?_
 rintro e w5 ⟨m,rfl,hmn,hm60,hgood,hb5⟩
 have P5 := hQ_ (P4.out.below HW.out.stays hb5)
 have HGO := hQ_ hgood
 have G5 : Hid (Gl ⟨[],[],[],[]⟩) := hQ_ ⟨rfl,fun p hp => by cases hp⟩
 clear hgood hb5
 go_wp2_with fail
 generalize hgm : w3.heap.size = gm at *
 go_loopw [36] (fun i wr => ∃ (k : Nat) (s : Vs) (S' D' : Nat → Prop) (h : Sh) (F : Fs),k ≤ m ∧ i = .int .i64 k ∧ Hid (Pl Rep w2 S D gm wr v s S' D' h F k) ∧ Hid (Gl s)) (fun i _ => m - (intOf i).toNat)
 case atStart => exact ⟨0,_,S,D,hh,F0,Nat.zero_le _,rfl,P5,G5⟩
 case round =>
  obtain ⟨k,s,S',D',h,F,hk,rfl,HP,HGL⟩ := hrel
  have BW : Hid (Below w.heap.size w wr) := hQ_ (below_chg HB2.out HP.out.A.st.chg HS2.out (Nat.le_refl _))
  have HFX := hQ_ (fun u (hm : Mx u) => DirsLe.fixed_calls HW.out HN.out u hm)
  by_cases hlt : k < m
  ·obtain ⟨x,g,o,hx,rfl,hg,hcl⟩ := (HL.out.below BW.out).get k (by omega)
   have hgx := HGO.out x (List.mem_of_getElem? (by rw [List.getElem?_take_of_lt hlt]; exact hx))
   obtain ⟨kind',path',other'⟩ := x
   have HC : Hid (wr.rangeAt g (o + k * 3) [.int .i64 kind',.string path',.string other']) := hQ_ hcl
   have hb6 := bN_ wr (.cells #[.int .i64 kind',.string path',.string other'] 33)
   have P6 := hQ_ (HP.out.below HW.out.stays hb6)
   have HDO := hQ_ (do_calls HW.out (fun b hb e => by have := P6.out.M.lt; omega) P6.out.B (by omega) kind' path' other' (by have := hgx.1; dsimp only at this; omega) (by have := hgx.2; dsimp only at this; omega))
   have m6 := cZ0 P6.out.M
   have q60 : (2 + (k : Int)) % 4294967296 = 2 + k := by omega
   clear hcl hx hgx hb6
   go_wp2_with ((with_reducible refine pick (some 40) ?_); refine wpList_load_mid rfl 33 _ rfl g (o + k * 3) rfl _ _ HC.out Tryz.underlying33 rfl info_op ?_)
   refine HDO.out.mono ?_
   rintro e w7 ⟨s',S'',D'',h',hr7,st7,hway⟩
   have A7 := hQ_ (at_new P6.out.A hr7 st7)
   have M7 := hQ_ (P6.out.A.blk HW.out.stays P6.out.M rfl st7)
   have X7 := hQ_ (P6.out.B.mx.step st7)
   have BW7 : Hid (Below w.heap.size w w7) := hQ_ (below_chg HB2.out A7.out.st.chg HS2.out (Nat.le_refl _))
   rcases hway with rfl | ⟨F',rfl,hB7,hG7⟩
   ·clear hr7 st7 m6
    go_wp2_with fail
    have hb8 := bN_ w7 (.cells #[.slice h'.a h'.n h'.c] 29)
    refine (HFX.out _ (X7.out.1.below hb8)).mono ?_
    rintro e w9 ⟨rfl,hb9⟩
    have HB9 := hQ_ (Own.keeps hb8 hb9)
    clear hb8 hb9
    go_wp2_with fail
    go_ret
    exact ⟨rfl,Own.keeps BW7.out HB9.out⟩
   ·have hb8 := bN_ w7 (.cells #[.slice h'.a h'.n h'.c] 29)
    have A8 := hQ_ (A7.out.below HW.out.stays hb8)
    have M8 := hQ_ (M7.out.below hb8)
    have B8 := hQ_ (bt_below HW.out.stays hB7 hb8)
    have G8 := hQ_ (hG7 HGL.out)
    have N8 : (w7.alloc (.cells #[.slice h'.a h'.n h'.c] 29)).cell? ⟨w7.heap.size,0,none⟩ = some (.slice h'.a h'.n h'.c) := (Blk.new_ w7 _ _).cell 0
    clear hr7 st7 m6 hb8 hB7 hG7
    go_wp2_with ((with_reducible refine pick none ?_); refine store_blk rfl 29 _ _ rfl gm #[.slice h'.a h'.n h'.c] rfl rfl 29 _ M8.out info_fs rfl (by simp [Value.oneCell']) ?_; intro u9 hk9 hg9; have P9 := hQ_ (Pl.next HW.out.stays A8.out M8.out P6.out.ml B8.out hg9 hk9); clear hk9 hg9)
    go_roundw
    case rel => exact ⟨k + 1,_,_,_,_,_,by omega,by go_num,P9,G8⟩
    case measure => simp [intOf]; omega
  ·obtain rfl : k = m := by omega
   rename World => wo
   have PZ := hQ_ HP.out.B
   obtain ⟨π0,st0'⟩ := PZ.out.st
   have HST := hQ_ st0'
   have HLT := hQ_ (st_letters st0')
   have HLEN := hQ_ PZ.out.len
   have HAC := hQ_ PZ.out.ac
   have hL9 : s.shown.length ≤ 500 := by have := HLEN.out; omega
   have HLM := hQ_ (PZ.out.lim (by omega))
   obtain ⟨L,hLs⟩ : ∃ L,s.shown = L := ⟨_,rfl⟩
   have HLS := hQ_ hLs
   rw [hLs] at HST HLT hL9
   have A0 := hQ_ (At.start HP.out.B.rep)
   have HFXa := hQ_ (fun (u : World) (hb : Below w.heap.size w u) => DirsLe.fixed_calls HW.out HN.out u (HMX.out.below hb))
   have HSa : Hid (∀ b,S' b → w.heap.size ≤ b) := hQ_ (fun b hb => by
    rcases HP.out.A.st.own b hb with q | q
    ·exact HS2.out b q
    ·exact Nat.le_trans HB2.out.size q)
   have HB0r := hQ_ HP.out.B.base
   have HB1r := hQ_ HP.out.B.rd
   have HB2r := hQ_ HP.out.B.rg
   have hmm := @run_makeMap Tryz.prog
   have hb1 : Below wo.heap.size wo (wo.alloc (.map #[] 0)) := bW_
   have hb2' : Below (wo.alloc (.map #[] 0)).heap.size (wo.alloc (.map #[] 0)) ((wo.alloc (.map #[] 0)).alloc (.map #[] 0)) := bW_
   have hb3' : Below ((wo.alloc (.map #[] 0)).alloc (.map #[] 0)).heap.size ((wo.alloc (.map #[] 0)).alloc (.map #[] 0)) (((wo.alloc (.map #[] 0)).alloc (.map #[] 0)).alloc (.map #[] 0)) := bW_
   have A3 := hQ_ (((A0.out.own HW.out.stays hb1 (Nat.le_refl _) (by simp)).own HW.out.stays hb2' (Nat.le_refl _) (by simp)).own HW.out.stays hb3' (Nat.le_refl _) (by simp))
   have ME : Hid (Mu .i64 3 (((wo.alloc (.map #[] 0)).alloc (.map #[] 0)).alloc (.map #[] 0)) wo.heap.size 0 (fun _ => 0)) := hQ_ (((Mu.made _ _ wo).below hb2').below hb3')
   have MB : Hid (Mu .i64 3 (((wo.alloc (.map #[] 0)).alloc (.map #[] 0)).alloc (.map #[] 0)) (wo.heap.size + 1) 0 (fun _ => 0)) := hQ_ (by
    have := (Mu.made .i64 3 (wo.alloc (.map #[] 0))).below hb3'
    simpa using this)
   have MP : Hid (Mu .u32 36 (((wo.alloc (.map #[] 0)).alloc (.map #[] 0)).alloc (.map #[] 0)) (wo.heap.size + 1 + 1) 0 (fun _ => 0)) := hQ_ (by
    have := Mu.made .u32 36 ((wo.alloc (.map #[] 0)).alloc (.map #[] 0))
    simpa using this)
   have HRG0 := hQ_ (HRN.out ⟨#[]⟩ ⟨#[255]⟩ A3.out.rep HLM.out (by decide) (by decide))
   rw [rangeOf_is,hLs,range_all HLT.out.1] at HRG0
   have hwz : (((wo.alloc (.map #[] 0)).alloc (.map #[] 0)).alloc (.map #[] 0)).heap.size = wo.heap.size + 1 + 1 + 1 := by simp
   have HWZ := hQ_ hwz
   clear PZ st0' HP HGL HLEN HFX hLs hb1 hb2' hb3' hwz
   go_wp2_with fail
   refine HRG0.out.mono ?_
   rintro e wb ⟨⟨ra,rn,rc⟩,Sb,Db,rfl,hsb,hnb,hrb,stb⟩
   dsimp only at hsb hnb
   have hrn : L.length = rn := hsb.1
   obtain ⟨q1,q2,q3,q4,q5⟩ := ranged_same s ⟨#[]⟩ ⟨#[255]⟩
   have TB : Hid (Tw Rep wo S' D' ra rn wo.heap.size (wo.heap.size + 1) (wo.heap.size + 1 + 1) L wb v (s.ranged ⟨#[]⟩ ⟨#[255]⟩) Sb Db (.slice none 0 0) (fE (L.take 0)) (fB F (L.take 0)) (fP F (L.take 0)) (fI (L.take 0)) 6000 121 0) := hQ_ (by
    have a1 := A3.out.step HW.out.stays hrb stb
    have hz := HWZ.out
    have a3 := A3.out
    refine ⟨⟨a1.rep,a1.st,fun b hb => ?_⟩,hsb,ME.out.chg stb.chg (a3.apart HW.out.stays (.inl (.inl (.inr rfl)))),MB.out.chg stb.chg (a3.apart HW.out.stays (.inl (.inr (by simp)))),MP.out.chg stb.chg (a3.apart HW.out.stays (.inr (by simp))),⟨by omega,by omega,by omega⟩,So.nil_ _ _ _ _,by rw [q1]; exact HLS.out,by rw [q2]; have := HB0r.out; omega,by rw [q4]; have := HB1r.out; omega,by have := HB2r.out; omega,fun b o _ _ e => by cases e⟩
    rcases hb with ⟨h0,o,ho⟩ | rfl | rfl | rfl | hb
    ·obtain ⟨b',o',e',hlt',_⟩ := hsb.2 0 _ (List.getElem?_eq_getElem (by omega))
     rw [ho] at e'
     injection e' with e'
     injection e' with e' _
     have := hnb b o ho
     exact ⟨by omega,by omega,this.2⟩
    ·exact a1.mine _ (.inl (.inl (.inr rfl)))
    ·exact a1.mine _ (.inl (.inr (by simp)))
    ·exact a1.mine _ (.inr (by simp))
    ·cases hb)
   generalize s.ranged ⟨#[]⟩ ⟨#[255]⟩ = sb at *
   have HLD := hQ_ (fun (m : Nd) (hm : m ∈ F) (u : World) (s' : Vs) (S' D' : Nat → Prop) (hr : Rep u v s' S' D') (hsh : s'.shown = L) (hl : Lim s') => (by
    have hi := HST.out.ws.ino m hm
    have h1 := load_calls HW.out.stays HW.out.get HW.out.small m.ino hr hl (by omega) hi.2
    unfold LoadV at h1
    have hz : (inoL π0 m).s = 0 := by show (m.data.size : Int) = 0; rw [HST.out.ws.data m hm]; rfl
    rw [hsh,load_g,HST.out.sim.load (node_of HST.out.ws.nod hm)] at h1
    dsimp only at h1
    rw [hz] at h1
    exact h1 : Calls Tryz.prog 26 #[v,.int .u32 m.ino] u (WalkL.Stepped Rep v (s'.read (kI m.ino)) (.tuple #[.agg #[.int .u8 m.kind,.int .u32 m.links,.int .u32 0,.int .u32 (if m.kind = 2 then π0 m.ino else 0)],.bool true]) S' D' u)))
   have HCH2 := hQ_ (fun (n : Nd) (hn : n ∈ F) (e : En) (he : e ∈ n.ents) (u : World) (s' : Vs) (S' D' : Nat → Prop) (hr : Rep u v s' S' D') (hsh : s'.shown = L) (hl : Lim s') => (by
    have hi := HST.out.ws.ino n hn
    have hnm := good_of (HST.out.ws.name n hn e he)
    have hx := HST.out.ws.some_ n hn e he
    have h1 := HCH.out n.ino e.name hr hl (by omega) hi.2 (by have := hnm.2; omega)
    rw [hsh,child_g,child_at HST.out.sim.rg HST.out.sim.bs HST.out.ws.some_ hn hnm,entry_some (HST.out.ws.ord n hn) he,decide_eq_true (show e.ino ≠ 0 by omega)] at h1
    exact h1 : Calls Tryz.prog 25 #[v,.int .u32 n.ino,.string e.name] u (WalkL.Stepped Rep v (s'.read (kE n.ino e.name)) (.tuple #[.int .u32 e.ino,.bool true]) S' D' u)))
   obtain ⟨bE,hbE⟩ : ∃ bE,wo.heap.size = bE := ⟨_,rfl⟩
   rw [hbE] at TB
   clear hmm
   clear A3 ME MB MP HRG0 hsb hnb hrb stb q1 q2 q3 q4 q5 A0 HWZ HB0r HB1r HB2r HLS
   go_wp2_with fail
   go_loopw [13,69] (fun rv i wq => ∃ (j : Nat) (s1 : Vs) (S1 D1 : Nat → Prop),j ≤ rn ∧ i = .int .i64 j ∧ Hid (Tw Rep wo S' D' ra rn bE (bE + 1) (bE + 1 + 1) L wq v s1 S1 D1 rv (fE (L.take j)) (fB F (L.take j)) (fP F (L.take j)) (fI (L.take j)) (6000 + 2 * j) 121 (3 * j))) (fun _ i _ => rn - (intOf i).toNat)
   case atStart => exact ⟨0,_,Sb,Db,Nat.zero_le _,rfl,TB⟩
   case round =>
    obtain ⟨j,s1,S1,D1,hj,rfl,T1⟩ := hrel
    by_cases hltj : j < rn
    ·obtain ⟨x,g,o,hx,hra,hg,hcl⟩ := T1.out.row.get j hltj
     have hxm := List.mem_of_getElem? hx
     have htk : L.take (j + 1) = L.take j ++ [x] := by rw [List.take_add_one,hx]; rfl
     have hcls := cls HST.out hxm
     have hks := DirsP.key_small (HLT.out.1 x hxm)
     have HTK := hQ_ htk
     obtain ⟨key,value,gone⟩ := x
     have HC : Hid (wr.rangeAt g (o + j * 3) [.string key,.string value,.bool gone]) := hQ_ hcl
     have hb12 := bN_ wr (.cells #[.string key,.string value,.bool gone] 46)
     have T2 := hQ_ (T1.out.below HW.out.stays hb12)
     have z0 : (wr.alloc (.cells #[.string key,.string value,.bool gone] 46)).cell? ⟨wr.heap.size,0,none⟩ = some (.string key) := (Blk.new_ wr _ _).cell 0
     dsimp only at hks
     subst hra
     clear hcl hx hg htk
     go_wp2_with ((with_reducible refine pick (some 72) ?_); refine wpList_load_mid rfl 46 _ rfl g (o + j * 3) rfl _ _ HC.out Tryz.underlying46 rfl DirsLd.info_pr ?_)
     refine (KeysS.refsplit_calls key _ (by omega)).mono ?_
     rintro e w3 ⟨rfl,hb3⟩
     have T3 := hQ_ (T2.out.below HW.out.stays hb3)
     rcases hcls with ⟨c1,c2,n,hn,c3⟩ | ⟨c1,c2,n,hn,en,hen,c3,c4,c5,c6⟩
     ·have hl73 : (sp key).letter = 73 := by unfold isI at c1; simpa using c1
      have hE1 : ∀ q,fE (L.take (j + 1)) q = fE (L.take j) q := fun q => by rw [HTK.out,fE_next,if_neg (fun z => by rw [c2] at z; cases z.1),Int.add_zero]
      have hB1 : ∀ q,fB F (L.take (j + 1)) q = fB F (L.take j) q := fun q => by rw [HTK.out,fB_next,if_neg (fun z => by rw [c2] at z; cases z.1),Int.add_zero]
      have hP1 : fP F (L.take (j + 1)) = fP F (L.take j) := by rw [HTK.out,fP_next]; unfold stepP; rw [c2]; rfl
      have hI1 : fI (L.take (j + 1)) = fI (L.take j) ++ [ofD ⟨key,value,gone⟩] := by rw [HTK.out,fI_next,c1]; rfl
      have HE1 := hQ_ (funext hE1)
      have HB1' := hQ_ (funext hB1)
      have HP1 := hQ_ hP1
      have HI1 := hQ_ hI1
      have hni := HST.out.ws.ino n hn
      obtain ⟨ii,hii⟩ : ∃ ii,(sp key).ino = ii := ⟨_,rfl⟩
      have hof : ofD ⟨key,value,gone⟩ = ii := hii
      rw [hof] at HI1 c3
      rw [hl73,hii]
      have hall := T3.out.all
      have HALL := hQ_ hall
      have hil : (fI (L.take j)).length ≤ 500 := by
       unfold fI
       rw [List.length_map]
       have h1 := List.length_filter_le isI (L.take j)
       have h2 := List.length_take_le j L
       omega
      have k1 : ((73 : Int) == 73) = true := by decide
      clear hE1 hB1 hP1 hI1 hof hall c1 c2 c3 hl73 hii hb3 z0 T1 T2 hb12
      go_wp2_with ((with_reducible refine pick (some 87) ?_); refine wpList_append_any u32E 36 rfl _ _ _ rfl Tryz.underlying52 info_u32 rfl wo.heap.size _ (fI (L.take j)).length (fI (L.take j)) rfl (HALL.out.below (bW_)) _ 1 1 [ii] rfl (Sl.new_ u32E _ _ _ _ rfl) (fun h => by cases h) ((fI (L.take j)).length + 1) rfl _ rfl (by unfold maxLen; omega) (by omega) (by have := T3.out.A.st.chg.size; simp; omega) ?_; intro v' w' hown' hg' hat'; have H1 := hQ_ hown'; have H2 := hQ_ hg'; have H3 := hQ_ hat'; clear hown' hg' hat')
      have T5 := hQ_ (Tw.app HW.out.stays (T3.out.below HW.out.stays ((Below.refl _ _).alloc (Nat.le_refl _) (.cells #[.int .u32 ii] 36))) (rv' := v') (ns' := fI (L.take j) ++ [ii]) (by rw [List.length_append,List.length_singleton]; exact H1.out) H2.out H3.out)
      go_roundw
      case rel =>
       refine ⟨j + 1,s1,S1,D1,by omega,by go_num,hQ_ ?_⟩
       have := T5.out.more (N' := 6000 + 2 * (j + 1)) (K' := 3 * (j + 1)) (by omega) (by omega)
       rw [HE1.out,HB1'.out,HP1.out,HI1.out]
       exact this
      case measure => simp [intOf]; omega
     ·have hl69 : (sp key).letter = 69 := by unfold isE at c2; simpa using c2
      obtain ⟨nn,hnn⟩ : ∃ nn,(sp key).n = nn := ⟨_,rfl⟩
      have hio : (sp key).ino = n.ino := c4
      have c5' : (sp key).name = en.name := c5
      rw [hl69,hio,c5',hnn]
      obtain ⟨m,hm⟩ := HST.out.sim.wf.goes n hn en hen (by have := HST.out.ws.some_ n hn en hen; omega)
      have hmm := node_mem hm
      have hni := HST.out.ws.ino n hn
      have hei := HST.out.ws.some_ n hn en hen
      have HC3 := hQ_ (HCH2.out n hn en hen)
      have HL3 := hQ_ (HLD.out m hmm.1)
      rw [hmm.2] at HL3
      have hkm := HST.out.ws.kind m hmm.1
      have hdm : dirB F en.ino = decide (m.kind = 2) := dir_some hm
      obtain ⟨mk,hmk⟩ : ∃ mk,m.kind = mk := ⟨_,rfl⟩
      obtain ⟨ml,hml⟩ : ∃ ml,m.links = ml := ⟨_,rfl⟩
      rw [hmk,hml] at HL3
      rw [hmk] at hkm hdm
      generalize (if mk = 2 then π0 en.ino else 0) = pp at HL3
      have hE1 : fE (L.take (j + 1)) = fun q => if q = en.ino then fE (L.take j) en.ino + 1 else fE (L.take j) q := funext fun q => by
       rw [HTK.out,fE_next]
       by_cases hq : q = en.ino
       ·rw [if_pos hq,if_pos ⟨c2,by rw [c6,hq]⟩,hq]
       ·rw [if_neg hq,if_neg (fun z => hq (by rw [← z.2,c6])),Int.add_zero]
      have hI1 : fI (L.take (j + 1)) = fI (L.take j) := by rw [HTK.out,fI_next,c1]; exact List.append_nil _
      have hB1 : fB F (L.take (j + 1)) = fun q => if q = n.ino ∧ mk = 2 then fB F (L.take j) n.ino + 1 else fB F (L.take j) q := funext fun q => by
       rw [HTK.out,fB_next]
       by_cases hq : q = n.ino ∧ mk = 2
       ·rw [if_pos hq,if_pos ⟨c2,by rw [c4,hq.1],by rw [c6,hdm]; exact decide_eq_true hq.2⟩,hq.1]
       ·rw [if_neg hq,if_neg (fun z => hq ⟨by rw [← z.2.1,c4],by have := z.2.2; rw [c6,hdm] at this; simpa using this⟩),Int.add_zero]
      have hP1 : fP F (L.take (j + 1)) = fun q => if q = en.ino ∧ mk = 2 then n.ino else fP F (L.take j) q := funext fun q => by
       rw [HTK.out,fP_next]
       unfold stepP
       rw [c2,c6,hdm,Bool.true_and]
       by_cases hk : mk = 2
       ·rw [if_pos (decide_eq_true hk)]
        unfold upd
        by_cases hq : q = en.ino
        ·rw [if_pos hq,if_pos ⟨hq,hk⟩,c4]
        ·rw [if_neg hq,if_neg (fun z => hq z.1)]
       ·rw [if_neg (by simpa using hk),if_neg (fun z => hk z.2)]
      have bE0 : 0 ≤ fE (L.take j) en.ino := Int.natCast_nonneg _
      have bB0 : 0 ≤ fB F (L.take j) n.ino := Int.natCast_nonneg _
      have bE1 : fE (L.take j) en.ino ≤ 500 := by
       unfold fE
       have h1 := List.countP_le_length (p := fun p => isE p && decide (chd p = en.ino)) (l := L.take j)
       have h2 := List.length_take_le j L
       omega
      have bB1 : fB F (L.take j) n.ino ≤ 500 := by
       unfold fB
       have h1 := List.countP_le_length (p := fun p => isE p && (decide (ofD p = n.ino) && dirB F (chd p))) (l := L.take j)
       have h2 := List.length_take_le j L
       omega
      have HE1 := hQ_ hE1
      have HB1' := hQ_ hB1
      have HP1 := hQ_ hP1
      have HI1 := hQ_ hI1
      have k1 : ((69 : Int) == 73) = false := by decide
      have k2 : ((69 : Int) == 69) = true := by decide
      have hlim3 := T3.out.lim (by omega) (by omega)
      have we : (Lit.int .u32 en.ino).wf = true := WalkArith.wf_u32 (by omega)
      have wn : (Lit.int .u32 n.ino).wf = true := WalkArith.wf_u32 (by omega)
      have we2 : (Lit.int .i64 (fE (L.take j) en.ino + 1)).wf = true := WalkArith.wf_i64 (by omega)
      have wb2 : (Lit.int .i64 (fB F (L.take j) n.ino + 1)).wf = true := WalkArith.wf_i64 (by omega)
      have HWE := hQ_ we
      have HWN := hQ_ wn
      have HWE2 := hQ_ we2
      have HWB2 := hQ_ wb2
      generalize hge : fE (L.take j) en.ino = xe at *
      generalize hgb : fB F (L.take j) n.ino = xb at *
      have HGE := hQ_ hge
      have HGB := hQ_ hgb
      clear hE1 hB1 hP1 hI1 hdm hmm hm hmk hml c1 c2 c3 c4 c5 c5' c6 hl69 hio hnn hb3 z0 T1 T2 hb12 we wn we2 wb2 hge hgb
      go_wp2_with fail
      refine (HC3.out _ _ _ _ T3.out.A.rep T3.out.sh hlim3).mono ?_
      rintro e w4 ⟨S4,D4,rfl,hr4,st4⟩
      have T4 := hQ_ (T3.out.step HW.out.stays hr4 st4)
      have a1 := Mu.ask Tryz.underlying50 Tryz.underlying3 (zero_i _) T4.out.mE HWE.out
      rw [HGE.out] at a1
      clear hr4 st4 hlim3
      go_wp2_with ((with_reducible refine pick none ?_); refine wpList_putM (ety := 3) (q := .i64) rfl _ _ _ 50 rfl Tryz.underlying50 Tryz.underlying3 rfl T4.out.mE (by omega) en.ino (xe + 1) rfl rfl HWE.out HWE2.out ?_; intro w5 hM5 hg5; have T5 := hQ_ (T4.out.putE HW.out.stays hM5 hg5); clear hM5 hg5 a1)
      have hlim5 := T5.out.lim (by omega) (by omega)
      refine (HL3.out _ _ _ _ T5.out.A.rep T5.out.sh hlim5).mono ?_
      rintro e w6 ⟨S6,D6,rfl,hr6,st6⟩
      have T6 := hQ_ (T5.out.step HW.out.stays hr6 st6)
      have T7 := hQ_ (T6.out.below HW.out.stays (u' := w6.alloc (.cells #[.int .u8 mk,.int .u32 ml,.int .u32 0,.int .u32 pp] 59)) (bW_))
      have y0 : (w6.alloc (.cells #[.int .u8 mk,.int .u32 ml,.int .u32 0,.int .u32 pp] 59)).cell? ⟨w6.heap.size,0,none⟩ = some (.int .u8 mk) := (Blk.new_ w6 _ _).cell 0
      have a2 := Mu.ask Tryz.underlying50 Tryz.underlying3 (zero_i _) T7.out.mB HWN.out
      rw [HGB.out] at a2
      clear hr6 st6 hlim5
      rcases hkm with rfl | rfl
      ·have k3 : ((2 : Int) == 2) = true := by decide
       go_wp2_with ((with_reducible refine pick none ?_); first | (refine wpList_putM (ety := 3) (q := .i64) rfl _ _ _ 50 rfl Tryz.underlying50 Tryz.underlying3 rfl T7.out.mB (by omega) n.ino (xb + 1) rfl rfl HWN.out HWB2.out ?_; intro w8 hM8 hg8; have T8 := hQ_ (T7.out.putB HW.out.stays hM8 hg8); clear hM8 hg8 a2) | (refine wpList_putM (ety := 36) (q := .u32) rfl _ _ _ 51 rfl Tryz.underlying51 Tryz.underlying36 rfl T8.out.mP (by omega) en.ino n.ino rfl rfl HWE.out HWN.out ?_; intro w9 hM9 hg9; have T9 := hQ_ (T8.out.putP HW.out.stays hM9 hg9); clear hM9 hg9))
       go_roundw
       case rel =>
        refine ⟨j + 1,(s1.read (kE n.ino en.name)).read (kI en.ino),S6,D6,by omega,by go_num,hQ_ ?_⟩
        have := T9.out.more (N' := 6000 + 2 * (j + 1)) (K' := 3 * (j + 1)) (by omega) (by omega)
        rw [HE1.out,HB1'.out,HP1.out,HI1.out]
        simpa using this
       case measure => simp [intOf]; omega
      ·have k3 : ((1 : Int) == 2) = false := by decide
       go_wp2_with fail
       go_roundw
       case rel =>
        refine ⟨j + 1,(s1.read (kE n.ino en.name)).read (kI en.ino),S6,D6,by omega,by go_num,hQ_ ?_⟩
        have := T7.out.more (N' := 6000 + 2 * (j + 1)) (K' := 3 * (j + 1)) (by omega) (by omega)
        rw [HE1.out,HB1'.out,HP1.out,HI1.out]
        simpa using this
       case measure => simp [intOf]; omega
    ·obtain rfl : j = rn := by omega
     have htl : L.take j = L := List.take_of_length_le (by have := T1.out.row.1; omega)
     rw [htl] at T1
     obtain ⟨aa,ac,rfl,hac1,hac2,_⟩ := Tx.So.head T1.out.all
     have hil : (fI L).length ≤ 500 := by
      unfold fI
      rw [List.length_map]
      have h1 := List.length_filter_le isI L
      omega
     obtain ⟨an,han⟩ : ∃ an,(fI L).length = an := ⟨_,rfl⟩
     rw [han] at hil hac1 T1
     rw [han]
     have HAN := hQ_ han
     have hrn9 : j ≤ 500 := by have := T1.out.row.1; omega
     clear htl han
     go_wp2_with fail
     go_loopw [120] (fun i wq => ∃ (t : Nat) (s2 : Vs) (S2 D2 : Nat → Prop),t ≤ an ∧ i = .int .i64 t ∧ Hid (Tw Rep wo S' D' ra j bE (bE + 1) (bE + 1 + 1) L wq v s2 S2 D2 (.slice aa an ac) (fE L) (fB F L) (fP F L) (fI L) (7000 + t) 121 (3 * j))) (fun i _ => an - (intOf i).toNat)
     case atStart => exact ⟨0,s1,S1,D1,Nat.zero_le _,rfl,hQ_ (T1.out.more (N' := 7000 + 0) (by omega) (Nat.le_refl _))⟩
     case round =>
      obtain ⟨t,s2,S2,D2,ht,rfl,U1⟩ := hrel
      by_cases hltt : t < an
      ·have hsl : Sl u32E wr aa an (fI L) := by
        have := U1.out.all
        rw [HAN.out] at this
        exact this.sl
       obtain ⟨x,g,o,hx,haa,hg,hcl⟩ := hsl.get t hltt
       have hxm := List.mem_of_getElem? hx
       obtain ⟨n,hn,hni⟩ := fI_node HST.out hxm
       have c0 : wr.cell? ⟨g,o + t,none⟩ = some (.int .u32 x) := by
        have := hcl 0 _ rfl
        simpa [u32E] using this
       subst haa
       have HL3 := hQ_ (HLD.out n hn)
       rw [hni] at HL3
       have hxb := HST.out.ws.ino n hn
       rw [hni] at hxb
       have hkm := HST.out.ws.kind n hn
       have hfine := (HST.out.sim.fine hn)
       have hnode : nodeM F x = some n := by rw [← hni]; exact node_of HST.out.ws.nod hn
       have hcnt := HST.out.sim.wf.cnt n hn
       rw [hni] at hcnt
       have hfe := fE_all HST.out x
       have hfb := fB_all HST.out hn
       rw [hni] at hfb
       have hdl := HST.out.sim.wf.dl n hn
       have hzr : zro x = 0 := rfl
       have hzr2 : zro n.ino = 0 := rfl
       have hdb : dirB F x = decide (n.kind = 2) := dir_some hnode
       have hsub : subs F n.ents ≤ 1000 := by
        have h1 : subs F n.ents ≤ n.ents.length := List.countP_le_length
        have h2 := HST.out.ws.small hn
        omega
       obtain ⟨mk,hmk⟩ : ∃ mk,n.kind = mk := ⟨_,rfl⟩
       obtain ⟨ml,hml⟩ : ∃ ml,n.links = ml := ⟨_,rfl⟩
       have hkl := hfine.kl
       have hp0 := hfine.p0
       have hp1 := hfine.p1
       rw [hni] at hp0 hp1
       rw [hmk,hml] at HL3 hkl
       rw [hmk] at hkm hdb hdl
       rw [hml] at hdl
       obtain ⟨pp,hpp⟩ : ∃ pp,(if mk = 2 then π0 x else 0) = pp := ⟨_,rfl⟩
       rw [hpp] at HL3
       have hppb : 0 ≤ pp ∧ pp ≤ 4294967295 ∧ (mk = 1 → pp = 0) := by
        rw [← hpp]
        split
        ·exact ⟨hp0,hp1,fun h => by omega⟩
        ·exact ⟨Int.le_refl _,by omega,fun _ => rfl⟩
       have hmay : may mk ml 0 pp = true := by
        rcases hkl with ⟨q1,q2,q3⟩ | ⟨q1,q2,q3⟩
        ·rw [q1,NodeM.may_file,hppb.2.2 q1,decide_eq_true (show 0 < ml by omega),decide_eq_true (show ml < 1001 by omega)]
         rfl
        ·rw [NodeM.may_else (by omega),decide_eq_true q1,decide_eq_true (show 1 < ml by omega)]
         rfl
       have hmlb : 0 ≤ ml ∧ ml ≤ 4294967295 := by rcases hkl with q | q <;> omega
       have hmkb : 0 ≤ mk ∧ mk ≤ 255 := by rcases hkm with q | q <;> omega
       have hwc : (cnt F x : Int) = if x = 1 then 0 else if mk = 2 then 1 else ml := by
        rw [hcnt,hzr,Int.add_zero]
        unfold wantC
        rw [hni,hmk,hml]
       have hwx : (Lit.int .u32 x).wf = true := WalkArith.wf_u32 (by omega)
       have HWX := hQ_ hwx
       have HFE := hQ_ (hfe.trans hwc)
       have HFB := hQ_ hfb
       have HDL := hQ_ hdl
       have HDB := hQ_ hdb
       have HRO : Hid (x = 1 → mk = 2) := hQ_ (fun hx1 => by
        obtain ⟨r,hr,hrk⟩ := HST.out.sim.wf.root
        rw [hx1,hr] at hnode
        injection hnode with hnode
        rw [← hmk,← hnode]
        exact hrk)
       have hlim1 := U1.out.lim (by omega) (by omega)
       obtain ⟨sx,hsx⟩ : ∃ z,subs F n.ents = z := ⟨_,rfl⟩
       rw [hsx] at HFB HDL hsub
       have hml2 : IntKind.i64.wrap ml = ml := IntWalk.i64_in _ (by omega)
       clear hcl hg hx hn hxm hni hsl hfine hnode hcnt hfe hfb hdl hdb hp0 hp1 hmk hml hpp hkl hwc hwx hsx hzr2
       go_wp2_with fail
       refine (HL3.out _ _ _ _ U1.out.A.rep U1.out.sh hlim1).mono ?_
       rintro e w4 ⟨S4,D4,rfl,hr4,st4⟩
       have U4 := hQ_ (U1.out.step HW.out.stays hr4 st4)
       have U5 := hQ_ (U4.out.below HW.out.stays (u' := w4.alloc (.cells #[.int .u8 mk,.int .u32 ml,.int .u32 0,.int .u32 pp] 59)) (bW_))
       have KB := hQ_ (Blk.new_ w4 #[.int .u8 mk,.int .u32 ml,.int .u32 0,.int .u32 pp] 59)
       have HMAY := hQ_ (NodeR.refmay_calls mk ml 0 pp (w4.alloc (.cells #[.int .u8 mk,.int .u32 ml,.int .u32 0,.int .u32 pp] 59)) hmkb.1 hmkb.2 hmlb.1 hmlb.2 (by omega) (by omega) hppb.1 hppb.2.1)
       rw [hmay] at HMAY
       clear hr4 st4 hlim1 c0 hmay hppb
       go_wp2_with ((with_reducible refine pick (some 134) ?_); refine load_blk rfl 59 _ rfl w4.heap.size rfl 59 _ _ KB.out Tryz.underlying59 rfl info_ino ?_)
       refine HMAY.out.mono ?_
       rintro e w6 ⟨rfl,hb6⟩
       have U6 := hQ_ (U5.out.below HW.out.stays hb6)
       have K6 := hQ_ (KB.out.below hb6)
       obtain ⟨y0,y1⟩ : w6.cell? ⟨w4.heap.size,0,none⟩ = some (.int .u8 mk) ∧ w6.cell? ⟨w4.heap.size,1,none⟩ = some (.int .u32 ml) := ⟨K6.out.cell 0,K6.out.cell 1⟩
       have aE := Mu.ask Tryz.underlying50 Tryz.underlying3 (zero_i _) U6.out.mE HWX.out
       have aB := Mu.ask Tryz.underlying50 Tryz.underlying3 (zero_i _) U6.out.mB HWX.out
       rw [HFE.out] at aE
       rw [HFB.out] at aB
       have e1 : (ml != ml) = false := by simp
       clear hb6
       rcases hkm with rfl | rfl
       ·have hdl2 : ml = 2 + (sx : Int) := by
         have h1 := HDL.out rfl
         have h2 : ∀ z,zro z = 0 := fun _ => rfl
         rw [h2] at h1
         omega
        have e2 : (ml != 2 + (sx : Int)) = false := by rw [hdl2]; simp
        have hdx : dirB F x = true := HDB.out
        obtain ⟨l0,hp0⟩ := HAC.out x hdx
        have hl0 := way_len HST.out hp0 hdx
        rw [HAN.out] at hl0
        have HP0 := hQ_ hp0
        have HDX := hQ_ hdx
        obtain ⟨len0,hlen0⟩ : ∃ z,l0.length = z := ⟨_,rfl⟩
        rw [hlen0] at hl0
        have HLN := hQ_ hlen0
        clear hdl2 hp0 hdx hlen0
        have loop4 : ∀ x1 : Prop,True := fun _ => trivial
        clear loop4
        by_cases hx1 : x = 1
        ·rw [if_pos hx1] at aE
         have e3 : ((0 : Int) != 1) = true := by decide
         have e4 : (x != 1) = false := by simpa using hx1
         clear hx1
         go_wp2_with fail
         clear aE aB e2 e3
         go_loop [28,29] (fun up nn => ∃ (q : Nat) (l : List ByteArray) (u : Int),up = .int .u32 u ∧ nn = .int .i64 q ∧ q + l.length = len0 ∧ Hid (Pth F u l) ∧ Hid (dirB F u = true)) (fun _ nn => len0 - (intOf nn).toNat)
         case atStart => exact ⟨0,l0,x,rfl,rfl,by have := HLN.out; omega,HP0,HDX⟩
         case round =>
          obtain ⟨q,l,u,rfl,rfl,hql,HPL,HDU⟩ := hrel
          by_cases hu1 : u = 1
          ·have e5 : (u != 1) = false := by simpa using hu1
           clear hu1
           go_wp2_with fail
           go_roundw
           case rel => exact ⟨t + 1,s2.read (kI x),S4,D4,by omega,by go_num,hQ_ (U6.out.more (by omega) (Nat.le_refl _))⟩
           case measure => simp [intOf]; omega
          ·have e5 : (u != 1) = true := by simpa using hu1
           obtain ⟨d,l1,hl1,hpd,hdd,hud,hll⟩ : ∃ (d : Int) (l1 : List ByteArray),l.length = l1.length + 1 ∧ Pth F d l1 ∧ dirB F d = true ∧ fP F L u = d ∧ 0 ≤ u ∧ u ≤ 4294967295 := by
            rcases HPL.out.inv with ⟨h1,_⟩ | ⟨d,nm,l1,h1,h2,h3,h4⟩
            ·exact absurd h1 hu1
            ·obtain ⟨n2,hn2,_⟩ := dir_mem HDU.out
             have hb := HST.out.ws.ino n2 (node_mem hn2).1
             rw [(node_mem hn2).2] at hb
             exact ⟨d,l1,by rw [h1,List.length_append,List.length_singleton],h2,(entF_ok HST.out.sim.wf (by rw [h3]; exact h4)).1,fP_all HST.out h3 HDU.out h4,by omega,hb.2⟩
           have aP := Mu.ask Tryz.underlying51 Tryz.underlying36 (zero_u _) U6.out.mP (WalkArith.wf_u32 hll : (Lit.int .u32 u).wf = true)
           rw [hud] at aP
           have t5 : decide (an < q) = false := decide_eq_false (by omega)
           have t6 : decide ((an : Int) < (q : Int)) = false := decide_eq_false (by omega)
           have HPD := hQ_ hpd
           have HDD := hQ_ hdd
           have hq9 : q ≤ 500 := by omega
           clear hu1 hpd hdd hud
           go_wp2_with fail
           go_round
           case rel => exact ⟨q + 1,l1,d,rfl,by go_num,by omega,HPD,HDD⟩
           case measure => simp [intOf]; omega
        ·rw [if_neg hx1,if_pos rfl] at aE
         have e3 : ((1 : Int) != 1) = false := by decide
         clear hx1
         go_wp2_with fail
         clear aE aB e2 e3
         go_loop [28,29] (fun up nn => ∃ (q : Nat) (l : List ByteArray) (u : Int),up = .int .u32 u ∧ nn = .int .i64 q ∧ q + l.length = len0 ∧ Hid (Pth F u l) ∧ Hid (dirB F u = true)) (fun _ nn => len0 - (intOf nn).toNat)
         case atStart => exact ⟨0,l0,x,rfl,rfl,by have := HLN.out; omega,HP0,HDX⟩
         case round =>
          obtain ⟨q,l,u,rfl,rfl,hql,HPL,HDU⟩ := hrel
          by_cases hu1 : u = 1
          ·have e5 : (u != 1) = false := by simpa using hu1
           clear hu1
           go_wp2_with fail
           go_roundw
           case rel => exact ⟨t + 1,s2.read (kI x),S4,D4,by omega,by go_num,hQ_ (U6.out.more (by omega) (Nat.le_refl _))⟩
           case measure => simp [intOf]; omega
          ·have e5 : (u != 1) = true := by simpa using hu1
           obtain ⟨d,l1,hl1,hpd,hdd,hud,hll⟩ : ∃ (d : Int) (l1 : List ByteArray),l.length = l1.length + 1 ∧ Pth F d l1 ∧ dirB F d = true ∧ fP F L u = d ∧ 0 ≤ u ∧ u ≤ 4294967295 := by
            rcases HPL.out.inv with ⟨h1,_⟩ | ⟨d,nm,l1,h1,h2,h3,h4⟩
            ·exact absurd h1 hu1
            ·obtain ⟨n2,hn2,_⟩ := dir_mem HDU.out
             have hb := HST.out.ws.ino n2 (node_mem hn2).1
             rw [(node_mem hn2).2] at hb
             exact ⟨d,l1,by rw [h1,List.length_append,List.length_singleton],h2,(entF_ok HST.out.sim.wf (by rw [h3]; exact h4)).1,fP_all HST.out h3 HDU.out h4,by omega,hb.2⟩
           have aP := Mu.ask Tryz.underlying51 Tryz.underlying36 (zero_u _) U6.out.mP (WalkArith.wf_u32 hll : (Lit.int .u32 u).wf = true)
           rw [hud] at aP
           have t5 : decide (an < q) = false := decide_eq_false (by omega)
           have t6 : decide ((an : Int) < (q : Int)) = false := decide_eq_false (by omega)
           have HPD := hQ_ hpd
           have HDD := hQ_ hdd
           have hq9 : q ≤ 500 := by omega
           clear hu1 hpd hdd hud
           go_wp2_with fail
           go_round
           case rel => exact ⟨q + 1,l1,d,rfl,by go_num,by omega,HPD,HDD⟩
           case measure => simp [intOf]; omega
       ·have hx1 : x ≠ 1 := fun q => by have := HRO.out q; omega
        rw [if_neg hx1,if_neg (by decide)] at aE
        clear aB hx1
        go_wp2_with fail
        go_loop [28,29] (fun up nn => up = .int .u32 x ∧ nn = .int .i64 0) (fun _ _ => 0)
        case atStart => exact ⟨rfl,rfl⟩
        case round =>
         obtain ⟨rfl,rfl⟩ := hrel
         go_wp2_with fail
         go_roundw
         case rel => exact ⟨t + 1,s2.read (kI x),S4,D4,by omega,by go_num,hQ_ (U6.out.more (by omega) (Nat.le_refl _))⟩
         case measure => simp [intOf]; omega
      ·obtain rfl : t = an := by omega
       have HBA : Hid (Below w.heap.size w wr) := hQ_ (below_chg BW.out U1.out.A.st.chg HSa.out (Nat.le_refl _))
       go_wp2_with fail
       refine (HFXa.out _ HBA.out).mono ?_
       rintro e w9 ⟨rfl,hb9⟩
       have HB9 := hQ_ hb9
       clear hb9
       go_wp2_with fail
       go_ret
       exact ⟨rfl,Own.keeps HBA.out HB9.out⟩
end Go.Proofs.YtfalhnomhidkcaaGreatDoor.DirsU
namespace Go.Proofs.YtfalhnomhidkcaaGreatDoor.DirsUx
open Go.RowKit
open Lst DirsLd DirsU DirsLx
theorem tree_all (A : Option Addr) (n c : Nat) (ops : List Op18) (w : World) (h : n ≤ c ∧ c ≤ maxLen ∧ Sl opE w A n ops ∧ ∀ p ∈ ops,OpB p) (hmx : NamesL.Mx w) :
 Calls Tryz.prog 5 #[.slice A n c] w fun e w' => e = .returned (.bool true) ∧ Below w.heap.size w w' :=
 tree_law DirsK.wk newb DirsQx.range_n child_ok A n c ops w h.2.2.1 h.1 h.2.1 h.2.2.2 hmx
end Go.Proofs.YtfalhnomhidkcaaGreatDoor.DirsUx
namespace Go.Proofs.YtfalhnomhidkcaaGreatDoor.Shap
open Go
theorem returns_shaped {H : Type} {enc : TypeId × Value → H} {a : Assume} {C : Checked} {os : Os} {f : FuncId} {fn : Func} {s : ChangeSpec} {conds : List PathCond} {apart fresh handsOn again : Bool} {X : World → Array Value → Prop}
 (keepX : ∀ (v v' : World) (xs : Array Value),v.heap = v'.heap → X v xs → X v' xs) (own : ownKnob C.prog.godebug = none) (started : os.Started) (noInit : C.prog.inits.idxOf? f = none) (hfn : C.prog.funcs[f]? = some fn)
 (wit : ∃ (v : World) (tape : Tape) (i : Input),v.os = os ∧ (v.forCall tape i).Shaped C.prog ∧ i.vars = [] ∧ Input.okWide C.prog (v.forCall tape i) .any v.heap.size f i ∧ ((s.pre enc C.prog fn conds apart (v.forCall tape i).memory i.args ∧ X (v.forCall tape i).memory i.args) ∧ sizedMet enc C.prog fn (OpenSpec.ofChange s) apart (v.forCall tape i).memory i.args) ∧ a.holds C.prog (lone (Frame.enter C.prog f i.args .normal) [] (v.forCall tape i)))
 (walked : ∀ (W : World) (base : Nat) (xs : Array Value) (ds gs : List (DataW H)) (before : List MemPlace),(∀ (j : Nat) t v,fn.params[j]? = some t → xs[j]? = some v → Value.okWide C.prog W .any base t v) → DataW.Whole enc C.prog fn.params.toList s.vars apart W xs.toList ds gs before → conds.all (PathCond.test C.prog ⟨fn.params.toList,ds,s.plain.varTypes C.prog,gs⟩) = true →
   (DataW.weightsEach C.prog (fn.params.toList ++ s.plain.varTypes C.prog) (ds ++ gs)).all (· ≤ reachBytes) = true → X W xs → W.ShapedOpen C.prog → Calls C.prog f xs W fun e W' => ∃ v,e = .returned v ∧ s.post enc C.prog fn apart fresh handsOn again W xs v W') :
 ReturnsInHanded a C os f .any (fun v xs => (s.pre enc C.prog fn conds apart v xs ∧ X v xs) ∧ sizedMet enc C.prog fn (OpenSpec.ofChange s) apart v xs) (s.post enc C.prog fn apart fresh handsOn again) := by
 refine returnsInHanded_of_calls own started noInit wit ?_
 intro v tape i _ shape _ ok pre _
 obtain ⟨_,_,_,fn',hfn',_,_,_,_,hval⟩ := ok
 obtain rfl : fn' = fn := Option.some.inj (hfn'.symm.trans hfn)
 obtain ⟨⟨⟨ds,gs,before,hw,hc⟩,hx⟩,hz⟩ := pre
 have whole := DataW.Whole.of_heap (w' := v.forCall tape i) (by rfl) hw
 refine (walked (v.forCall tape i) v.heap.size i.args ds gs before hval whole hc (hz.weights hw) (keepX _ _ _ (by rfl) hx) shape).mono fun e W' h => ?_
 obtain ⟨x,rfl,hp⟩ := h
 exact ChangeSpec.post_blind hp
end Go.Proofs.YtfalhnomhidkcaaGreatDoor.Shap