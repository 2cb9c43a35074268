import Derived.Deep.AppendLies
import Derived.Deep.RegionLaw
import Derived.Test.YtlblfpacnegmlaaSq
import Derived.Test.YtlblfpacnegmlaaClashHc
import Derived.Test.YtlblfpacnegmlaaClashK
import Derived.ChangeSlices
import Derived.Test.YtlblfpacnegmlaaNest
import Derived.Test.YtlblfpacnegmlaaTx
set_option maxHeartbeats 16000000
set_option linter.unusedVariables false
set_option linter.unusedSimpArgs false
set_option maxRecDepth 100000
namespace Go.Proofs.Ytlblfpacnegmlaa.ClashHd
open Go.RowKit
open Byte KeysM TreeM ViewM ClashM ClashKm Lst Chg Ho TreeR TreeL ViewR ViewL Nest ClashL ClashC ClashQ ClashKb ClashKd ClashH ClashHa ClashHb
open Tx (txE)
open Own
theorem delete_none (w : World) : Calls Try.prog 27 #[.slice none 0 0,.int .i64 0,.int .i64 0] w fun e w' => e = .returned (.slice none 0 0) ∧ w = w' := by
 go_enter Try.func27,Try.ntmps27
 go_wp2
 all_goals
  go_ret
  exact ⟨rfl,rfl⟩
section
variable {w w2 w3 : World} {b : Nat} {v v' : Value} {n : Nat} {hs : List Hd} {l : List (List Pr)} {g : Nat}
theorem two_set (W : World) (p q : Addr) (x y : Value) (Q : Nat → Prop) (hp : Q p.block) (hq : Q q.block) : Chg Q W ((W.setCell p x).setCell q y) := ((Chg.refl Q W).setCell (.inl hp) x).setCell (.inl hq) y
theorem HC.shift (h : HC w b v n hs l g) {K f : Nat} {J : Int} (hK : K ≤ n) (hf : g + K = f) (hJ : J = (f : Int)) (hrow : So hdE 22 w2 0 v' (n - K) (hs.drop K)) (hc : Chg (fun q => v.ownBlock = some q) w w2) (hk : Kept w w2) (hv : v'.ownBlock = v.ownBlock) :
 HC ((w2.setCell ⟨b,0,none⟩ v').setCell ⟨b,1,none⟩ (.int .u64 J)) b v' (n - K) (hs.drop K) l f ∧ Chg (Bs b v hs) w ((w2.setCell ⟨b,0,none⟩ v').setCell ⟨b,1,none⟩ (.int .u64 J)) ∧ Kept w ((w2.setCell ⟨b,0,none⟩ v').setCell ⟨b,1,none⟩ (.int .u64 J)) := by
 have hb2 : Blk w2 b #[v,.int .u64 (g : Int)] 56 := (hc.block b h.blk.lt (fun e => h.sep e)).trans h.blk
 have hset := two_set w2 ⟨b,0,none⟩ ⟨b,1,none⟩ v' (.int .u64 J) (fun q => q = b) rfl rfl
 have hall : Chg (fun q => v.ownBlock = some q ∨ q = b) w ((w2.setCell ⟨b,0,none⟩ v').setCell ⟨b,1,none⟩ (.int .u64 J)) :=
  (hc.mono (fun k _ hq => .inl hq)).trans (hset.mono (fun k _ hq => .inr hq))
 have hb3 := (hb2.set_ 0 v').set_ 1 (.int .u64 J)
 refine ⟨⟨by rw [← hJ]; simpa using hb3,So.chg hrow hset (fun q hq e => h.sep (by rw [← hv,hq,e])),by have := h.len; omega,fun j x hx => ?_,fun x hx q o e => ?_,fun x hx q o e => ?_⟩,hall.mono (fun k _ hq => ?_),?_⟩
 ·rw [List.getElem?_drop] at hx
  obtain ⟨Ks,h1,h2,h3,W,h4,h5⟩ := h.keys _ _ hx
  exact ⟨Ks,Sl.chg h1 hall (fun q o e hq => by
   obtain ⟨o1,o2⟩ := h.off x (List.mem_of_getElem? hx) q o e
   rcases hq with hq | hq
   ·exact o2 hq
   ·exact o1 hq),h2,h3,W,by rw [← hf,Nat.add_assoc]; exact h4,h5⟩
 ·exact Nat.lt_of_lt_of_le (h.lt x (List.mem_of_mem_drop hx) q o e) hall.size
 ·rw [hv]
  exact h.off x (List.mem_of_mem_drop hx) q o e
 ·rcases hq with hq | hq
  ·exact .inr (.inl hq)
  ·exact .inl hq
 ·exact ViewD.Kept.trans hk (ViewD.Kept.trans (ViewD.kept_set hb2 (by decide) 0 v') (ViewD.kept_set (hb2.set_ 0 v') (by decide) 1 _))
theorem bs_drop {K : Nat} (hv : v'.ownBlock = v.ownBlock) : ∀ q,Bs b v' (hs.drop K) q → Bs b v hs q := by
 rintro q (rfl | hq | ⟨x,hx,o,e⟩)
 ·exact .inl rfl
 ·rw [hv] at hq
  exact .inr (.inl hq)
 ·exact .inr (.inr ⟨x,List.mem_of_mem_drop hx,o,e⟩)
end
theorem hforget : HForgetOk HR := by
 intro w h l gn T N hrep hl hN
 obtain ⟨b,v0,n,hs,rfl,hc,hT,hTl⟩ := hrep
 obtain ⟨kn,hK⟩ : ∃ kn,forgetM gn l.length N - gn = kn := ⟨_,rfl⟩
 have hlen := hc.len
 have hKn : kn ≤ n := by rw [← hK]; unfold forgetM; omega
 have hf : gn + kn = forgetM gn l.length N := by rw [← hK]; unfold forgetM; omega
 obtain ⟨f,hff⟩ : ∃ f,forgetM gn l.length N = f := ⟨_,rfl⟩
 have hfb : gn + kn ≤ 301 := by omega
 have HKT := hQ_ (fun (u : World) (hb : Below w.heap.size w u) => kept_calls N (hc.below hb) hl hN)
 rw [hK] at HKT
 have HF := hQ_ (hf.trans hff)
 rw [hff]
 have HC0 := hQ_ hc
 have e1 : IntKind.u64.wrap (kn : Int) = kn := by unfold IntKind.wrap; simp [IntKind.bits,IntKind.signed]; omega
 have e2 : IntKind.u64.wrap ((gn : Int) + kn) = (gn : Int) + kn := by unfold IntKind.wrap; simp [IntKind.bits,IntKind.signed]; omega
 have fin : ∀ (w2 W : World) (v' : Value),Below w.heap.size w w2 → v'.ownBlock = v0.ownBlock → (HC W b v' (n - kn) (hs.drop kn) l f ∧ Chg (ClashHa.Bs b v0 hs) w2 W ∧ Kept w2 W) → ∃ T',HR W (.pointer (some ⟨b,0,none⟩)) l f T' ∧ Chg T w W ∧ Kept w W ∧ Grow w T T' := fun w2 W v' hb hv ⟨h1,h2,h3⟩ =>
  have h4 : Chg (ClashHa.Bs b v0 hs) w W := (Chg.of_below hb).trans h2
  ⟨T,⟨b,v',_,_,rfl,h1,fun q hq => hT q (bs_drop hv q hq),fun q hq => Nat.lt_of_lt_of_le (hTl q hq) h4.size⟩,h4.mono (fun k _ hq => hT k hq),ViewD.Kept.trans (Kept.of_below hb) h3,Grow.refl _ _⟩
 have FIN := hQ_ fin
 rcases hc.row.form with ⟨rfl,rfl⟩ | ⟨gb,cap,rfl,_,hgb,_,_⟩
 ·obtain rfl : kn = 0 := by omega
  have c0 := cZ0 hc.blk
  clear hc hK hf hff hT hTl fin hlen
  go_enter Try.func13,Try.ntmps13
  go_wp2_with fail
  refine (HKT.out _ (Below.refl _ _)).mono ?_
  rintro e w2 ⟨rfl,hb2⟩
  have HC2 := hQ_ (HC0.out.below hb2)
  have HB2 := hQ_ hb2
  obtain ⟨c2,c3⟩ := cC2 HC2.out.blk
  have f2 : w2.frozen? ⟨b,0,none⟩ = false := HC2.out.blk.frozen 0
  have f3 : w2.frozen? ⟨b,1,none⟩ = false := HC2.out.blk.frozen 1
  have HSH := hQ_ (HC.shift (f := f) (J := (gn : Int)) (w2 := w2) HC2.out (Nat.zero_le 0) HF.out (by rw [← HF.out]; rfl) (by simpa using HC2.out.row) (Chg.refl _ _) (fun _ _ _ _ _ hb => hb) rfl)
  clear hb2
  go_wp2_with fail
  refine (delete_none _).mono ?_
  rintro e w5 ⟨rfl,rfl⟩
  go_wp2_with fail
  go_end0
  obtain ⟨T',h1,h2,h3,h4⟩ := FIN.out _ _ _ HB2.out rfl HSH.out
  exact ⟨T',rfl,h1,h2,h3,h4⟩
 ·clear hc hK hf hff hT hTl fin hlen
  have c0 := cZ0 HC0.out.blk
  go_enter Try.func13,Try.ntmps13
  go_wp2_with fail
  refine (HKT.out _ (Below.refl _ _)).mono ?_
  rintro e w2 ⟨rfl,hb2⟩
  have HC2 := hQ_ (HC0.out.below hb2)
  have HB2 := hQ_ hb2
  have HDL := hQ_ (delete_calls gb n cap kn hs 0 w2 HC2.out.row hKn)
  have c2 := cZ0 HC2.out.blk
  clear hb2
  go_wp2_with fail
  refine HDL.out.mono ?_
  rintro e w5 ⟨rfl,hso5,hg5⟩
  have hc5 : Chg (fun q => (Value.slice (some ⟨gb,0,none⟩) n cap).ownBlock = some q) w2 w5 := Chg.of_grown hg5 (fun k hk => .inl hk)
  have hb5 : Blk w5 b #[.slice (some ⟨gb,0,none⟩) n cap,.int .u64 (gn : Int)] 56 := (hc5.block b HC2.out.blk.lt (fun e => HC2.out.sep e)).trans HC2.out.blk
  have HSH := hQ_ (HC.shift (f := f) (J := (gn : Int) + (kn : Int)) (w2 := w5) HC2.out hKn HF.out (by rw [← HF.out]; rfl) hso5 hc5 (Kept.of_grown HC2.out.row hg5 (by decide)) rfl)
  have c5 := cZ1 hb5
  have f5 : w5.frozen? ⟨b,0,none⟩ = false := hb5.frozen 0
  have f6 : w5.frozen? ⟨b,1,none⟩ = false := hb5.frozen 1
  have c6 := cZ0 hb5
  clear hso5 hg5 hc5 hb5
  go_wp2_with fail
  go_end0
  obtain ⟨T',h1,h2,h3,h4⟩ := FIN.out _ _ (.slice (some ⟨gb,0,none⟩) (n - kn) cap) HB2.out rfl HSH.out
  exact ⟨T',rfl,h1,h2,h3,h4⟩
section
variable {w w2 w3 : World} {b : Nat} {v v' : Value} {n : Nat} {hs : List Hd} {l : List (List Pr)} {g : Nat}
def More (T : Nat → Prop) (lo hi q : Nat) : Prop := T q ∨ (lo ≤ q ∧ q < hi)
theorem HC.app (h : HC w b v n hs l g) (hb : Below w.heap.size w w2) {A : Option Addr} {k c : Nat} {K : List ByteArray} {W : List Pr} (hs2 : Sl txE w2 A k K) (hup : Up K) (hsm : Same K W) (hk : k ≤ 100000) (hnew : ∀ q o,A = some ⟨q,o,none⟩ → w.heap.size ≤ q ∧ q < w2.heap.size) {o2 : Obj} (hrow : So hdE 22 w3 0 v' (n + 1) (hs ++ [⟨A,k,c⟩])) (hgr : (w2.alloc o2).grownBy w3 v.ownBlock) (hat : v'.ownBlock = v.ownBlock ∨ v'.ownBlock = some (w2.heap.size + 1)) :
 HC (w3.setCell ⟨b,0,none⟩ v') b v' (n + 1) (hs ++ [⟨A,k,c⟩]) (l ++ [W]) g ∧ Chg (Bs b v hs) w (w3.setCell ⟨b,0,none⟩ v') ∧ Kept w (w3.setCell ⟨b,0,none⟩ v') ∧ (∀ q,Bs b v' (hs ++ [⟨A,k,c⟩]) q → More (Bs b v hs) w.heap.size w3.heap.size q) ∧ Blk w3 b #[v,.int .u64 (g : Int)] 56 := by
 have h2 := h.below hb
 have hal : Below w2.heap.size w2 (w2.alloc o2) := bW_
 have h2a := h2.below hal
 have hc3 : Chg (fun q => v.ownBlock = some q) (w2.alloc o2) w3 := Chg.of_grown hgr (fun q hq => .inl hq)
 have hb3 : Blk w3 b #[v,.int .u64 (g : Int)] 56 := (hc3.block b h2a.blk.lt (fun e => h.sep e)).trans h2a.blk
 have hset : Chg (fun q => q = b) w3 (w3.setCell ⟨b,0,none⟩ v') := (Chg.refl (fun q => q = b) w3).own 0 v'
 have hall : Chg (fun q => v.ownBlock = some q ∨ q = b) (w2.alloc o2) (w3.setCell ⟨b,0,none⟩ v') := (hc3.mono (fun _ _ hq => .inl hq)).trans (hset.mono (fun _ _ hq => .inr hq))
 have hw2 : Chg (fun q => v.ownBlock = some q ∨ q = b) w (w3.setCell ⟨b,0,none⟩ v') := ((Chg.of_below (keeps hb hal) : Chg (fun q => v.ownBlock = some q ∨ q = b) w (w2.alloc o2))).trans hall
 have hsz : w2.heap.size + 1 ≤ w3.heap.size := by have := hc3.size; simpa using this
 have hsz0 := hb.size
 have hvlt : ∀ q,v.ownBlock = some q → q < w.heap.size := fun q hq => (h.row.lt hq).2
 have hblt := h.blk.lt
 have hvb : v'.ownBlock ≠ some b := by
  intro e
  rcases hat with h1 | h1
  ·rw [h1] at e
   exact h.sep e
  ·rw [h1] at e
   injection e with e
   omega
 refine ⟨⟨by simpa using hb3.set_ 0 v',So.chg hrow hset (fun q hq e => hvb (by rw [hq,e])),by rw [List.length_append]; have := h.len; simp; omega,fun j x hx => ?_,fun x hx q o e => ?_,fun x hx q o e => ?_⟩,hw2.mono (fun q _ hq => ?_),?_,?_,hb3⟩
 ·rcases Nat.lt_trichotomy j hs.length with hj | hj | hj
  ·rw [List.getElem?_append_left hj] at hx
   obtain ⟨Ks,h1,h2',h3,W',h4,h5⟩ := h.keys j x hx
   refine ⟨Ks,Sl.chg h1 hw2 (fun q o e hq => ?_),h2',h3,W',?_,h5⟩
   ·obtain ⟨o1,o2'⟩ := h.off x (List.mem_of_getElem? hx) q o e
    rcases hq with hq | hq
    ·exact o2' hq
    ·exact o1 hq
   ·rw [List.getElem?_append_left (List.getElem?_eq_some_iff.1 h4).1]
    exact h4
  ·subst hj
   rw [List.getElem?_concat_length] at hx
   cases hx
   refine ⟨K,Sl.chg (hs2.below hal) hall (fun q o e hq => ?_),hup,hk,W,?_,hsm⟩
   ·obtain ⟨n1,n2⟩ := hnew q o e
    rcases hq with hq | hq
    ·have := hvlt q hq
     omega
    ·omega
   ·have e1 : g + hs.length = l.length := by have := h.len; have := h.row.1; omega
    rw [e1,List.getElem?_concat_length]
  ·rw [List.getElem?_eq_none (by simp; omega)] at hx
   cases hx
 ·rcases List.mem_append.1 hx with hx | hx
  ·exact Nat.lt_of_lt_of_le (h.lt x hx q o e) hw2.size
  ·rw [List.mem_singleton] at hx
   subst hx
   have := (hnew q o e).2
   have := hset.size
   omega
 ·rcases List.mem_append.1 hx with hx | hx
  ·obtain ⟨o1,o2'⟩ := h.off x hx q o e
   refine ⟨o1,fun e' => ?_⟩
   rcases hat with h1 | h1
   ·rw [h1] at e'
    exact o2' e'
   ·rw [h1] at e'
    injection e' with e'
    have := h.lt x hx q o e
    omega
  ·rw [List.mem_singleton] at hx
   subst hx
   obtain ⟨n1,n2⟩ := hnew q o e
   refine ⟨by omega,fun e' => ?_⟩
   rcases hat with h1 | h1
   ·rw [h1] at e'
    have := hvlt q e'
    omega
   ·rw [h1] at e'
    injection e' with e'
    omega
 ·rcases hq with hq | hq
  ·exact .inr (.inl hq)
  ·exact .inl hq
 ·exact ViewD.Kept.trans (Kept.of_below (keeps hb hal)) (ViewD.Kept.trans (Kept.of_grown (h2a.row) hgr (by decide)) (ViewD.kept_set hb3 (by decide) 0 v'))
 ·rintro q (rfl | hq | ⟨x,hx,o,e⟩)
  ·exact .inl (.inl rfl)
  ·rcases hat with h1 | h1
   ·rw [h1] at hq
    exact .inl (.inr (.inl hq))
   ·have hq2 := (hrow.lt hq).2
    rw [h1] at hq
    injection hq with hq
    exact .inr ⟨by omega,hq2⟩
  ·rcases List.mem_append.1 hx with hx | hx
   ·exact .inl (.inr (.inr ⟨x,hx,o,e⟩))
   ·rw [List.mem_singleton] at hx
    subst hx
    obtain ⟨n1,n2⟩ := hnew q o e
    exact .inr ⟨n1,by omega⟩
end
end Go.Proofs.Ytlblfpacnegmlaa.ClashHd
namespace Go.Proofs.Ytlblfpacnegmlaa.ClashHe
open Go.RowKit
open Byte KeysM TreeM ViewM ClashM ClashKm Lst Chg Ho TreeR TreeL ViewR ViewL Nest ClashL ClashC ClashQ ClashKb ClashKd ClashH ClashHa ClashHb ClashHc ClashHd
open Tx (txE)
open Own
theorem info_rw : (Try.prog.info? 22).map (fun i => (i.zero,i.size,i.bytes)) = some (some (.slice none 0 0),hdE.size,24) := by kernel_rfl
def AddR (b g : Nat) (v : Value) (hs : List Hd) (l : List (List Pr)) (W : List Pr) (w : World) (e : Ending) (w' : World) : Prop :=
 e = .returned (.int .u64 (l.length + 1)) ∧ ∃ (v' : Value) (n' : Nat) (hs' : List Hd) (hi : Nat),HC w' b v' n' hs' (l ++ [W]) g ∧ Chg (ClashHa.Bs b v hs) w w' ∧ Kept w w' ∧ (∀ q,ClashHa.Bs b v' hs' q → More (ClashHa.Bs b v hs) w.heap.size hi q) ∧ hi ≤ w'.heap.size
theorem add_calls {w : World} {b : Nat} {v : Value} {n : Nat} {hs : List Hd} {l : List (List Pr)} {g : Nat} (C : Option Addr) (q c3 : Nat) (W : List Pr) (h : HC w b v n hs l g) (hl : l.length ≤ 300) (hw : Sl prE w C q W) (hq : q ≤ 300) :
 Calls Try.prog 12 #[.pointer (some ⟨b,0,none⟩),.slice C q c3] w (AddR b g v hs l W w) := by
 obtain ⟨A,c,rfl,hnc,hcm,_⟩ := h.form
 have hlen := h.len
 have hn : n ≤ 300 := by omega
 have c0 := cZ0 h.blk.drew
 have HK := hQ_ (keysof_calls C q c3 W w.drew (hw.below (Below.refl _ _).drew) (by omega))
 have HC0 := hQ_ h
 have HCD := hQ_ (h.below (Below.refl _ _).drew)
 have HLW := hQ_ hw.1
 have HLL := hQ_ hl
 obtain ⟨i0,hi0,hz0,hz1,hz2⟩ := info_parts info_rw
 clear h hw hlen hl
 go_enter Try.func12,Try.ntmps12
 go_wp2_with fail
 go_region_law (first
  | (refine step_append_lies _ (by rfl) _ _ _ (by rfl) 0 22 i0 _ 1 24 Try.underlying54 hi0 hz0 hz1 hz2 rfl (by omega) (.slice A n c) n _ (by rfl) ((HC2.out.row.2.alloc _)) ⟨w2.heap.size,0,none⟩ 1 1 [.slice A2 n2 c2] (by rfl) (by rfl) (World.news_of_block (cs := #[.slice A2 n2 c2]) (t := 22) (fr := (0,0)) (heap_alloc_new w2 _)) (by simp [Value.oneCell']) (by omega) (by unfold maxLen; omega) (by omega) (by simp) (w2.heap.size + 1) (by simp) ?_; intro gg cap w3 hown3 hgrow hat hlt'; have HAP := hQ_ (HC.app HCD.out HB2.out HS2.out.1 HS2.out.2.1 HS2.out.2.2.1 (by have := HN2.out; have := HLW.out; omega) HS2.out.2.2.2 (c := c2) (v' := .slice (some ⟨gg,0,none⟩) (n + 1) cap) (w3 := w3) ⟨(by rw [List.length_append,HC0.out.row.1]; rfl),(by rw [flat_append]; exact hown3)⟩ hgrow (hat.imp (fun e => e.symm) (fun e => by rw [e]; rfl))); have q0 : w3.frozen? ⟨b,0,none⟩ = false := HAP.out.2.2.2.2.frozen 0; have n0 : w3.cell? ⟨b,0,none⟩ = some (.slice A n c) := HAP.out.2.2.2.2.cell 0; clear hown3 hgrow hat hlt')
  | (go_simp; go_at_call 21; refine HK.out.mono ?_; rintro e w2 ⟨A2,n2,c2,K,rfl,hs2,hup,hsame,hn2,_,_,_,hnew,hb2⟩; have HB2 := hQ_ hb2; have HC2 := hQ_ (HCD.out.below hb2); have HS2 := hQ_ (And.intro hs2 (And.intro hup (And.intro hsame hnew))); have HN2 := hQ_ hn2; have m0 : w2.cell? ⟨b,0,none⟩ = some (.slice A n c) := HC2.out.blk.cell 0; have m0a : (w2.alloc (.cells #[.slice A2 n2 c2] 22)).cell? ⟨b,0,none⟩ = some (.slice A n c) := (HC2.out.blk.alloc _).cell 0; clear hs2 hup hsame hnew hb2 hn2))
 all_goals
  have HNW := hQ_ (now_calls HAP.out.1 (by rw [List.length_append]; have := HLL.out; simp; omega))
  go_wp2_with fail
  refine HNW.out.mono ?_
  rintro e w5 ⟨rfl,q5,rfl⟩
  go_wp2_with fail
  go_ret
  have hb0 : Below w.heap.size w w.drew := (Below.refl _ _).drew
  refine ⟨by simp,_,_,_,w3.heap.size,HAP.out.1.below (below_drewN (Below.refl _ _) _),((Chg.of_below hb0).trans HAP.out.2.1).drewN _,ViewD.Kept.trans HAP.out.2.2.1 (Kept.of_below (below_drewN (Below.refl _ _) _)),HAP.out.2.2.2.1,by simp⟩
theorem hadd : HAddOk HR := by
 intro w h l g T A n c W hrep hl hw hn
 obtain ⟨b,v,m,hs,rfl,hc,hT,hTl⟩ := hrep
 refine (add_calls A n c W hc hl hw hn).mono ?_
 rintro e w' ⟨rfl,v',n',hs',hi,h1,h2,h3,h4,h5⟩
 refine ⟨fun q => T q ∨ (w.heap.size ≤ q ∧ q < hi),rfl,⟨b,v',n',hs',rfl,h1,fun q hq => ?_,fun q hq => ?_⟩,h2.mono (fun q _ hq => hT q hq),h3,fun q hq => ?_⟩
 ·rcases h4 q hq with hq | hq
  ·exact .inl (hT q hq)
  ·exact .inr hq
 ·rcases hq with hq | hq
  ·exact Nat.lt_of_lt_of_le (hTl q hq) h2.size
  ·omega
 ·rcases hq with hq | hq
  ·exact .inl hq
  ·exact .inr hq.1
theorem hnow : HNowOk HR := by
 intro w h l g T hrep hl
 obtain ⟨b,v,m,hs,rfl,hc,_,_⟩ := hrep
 refine (now_calls hc hl).mono ?_
 rintro e w' ⟨rfl,q,rfl⟩
 exact ⟨rfl,below_drewN (Below.refl _ _) q⟩
theorem hlen : HLenOk HR := by
 intro w h l g T hrep hl
 obtain ⟨b,v,m,hs,rfl,hc,_,_⟩ := hrep
 exact len_calls hc hl
section
variable {VRep : World → Value → Vs → (Nat → Prop) → (Nat → Prop) → Prop}
theorem hst (hV : Stays VRep) (hR : ReadsOk VRep) (hG : RangesOk VRep) : Hst HR VRep := ⟨hstay,hnew,hadd,hforget,hclash hV hR hG,hnow,hlen⟩
theorem nil_forget (w : World) : Calls Try.prog 13 #[.pointer none,.int .u64 3] w fun e w' => e = .returned (.tuple #[]) ∧ Below w.heap.size w w' := by
 go_enter Try.func13,Try.ntmps13
 go_wp2
 (try simp only [Exit.inBlock,Exit.then])
 refine bodyPost_ret (results_none rfl _ _ _) rfl ?_
 exact ⟨rfl,Below.refl _ _⟩
theorem nil_clash (v : Value) (w : World) : Calls Try.prog 14 #[.pointer none,.int .u64 0,v] w fun e w' => e = .returned (.tuple #[.bool false,.bool true]) ∧ Below w.heap.size w w' := by
 go_enter Try.func14,Try.ntmps14
 go_wp2
 go_ret2
 exact ⟨rfl,Below.refl _ _⟩
theorem nil_add (w : World) : Calls Try.prog 12 #[.pointer none,.slice none 0 0] w fun e w' => e = .returned (.int .u64 0) ∧ Below w.heap.size w w' := by
 go_enter Try.func12,Try.ntmps12
 go_wp2
 go_ret
 exact ⟨rfl,Below.refl _ _⟩
theorem nil_now (w : World) : Calls Try.prog 17 #[.pointer none] w fun e w' => e = .returned (.int .u64 0) ∧ Below w.heap.size w w' := by
 go_enter Try.func17,Try.ntmps17
 go_wp2
 go_ret
 exact ⟨rfl,Below.refl _ _⟩
theorem nil_len (w : World) : Calls Try.prog 18 #[.pointer none] w fun e w' => e = .returned (.int .i64 0) ∧ Below w.heap.size w w' := by
 go_enter Try.func18,Try.ntmps18
 go_wp2
 go_ret
 exact ⟨rfl,Below.refl _ _⟩
theorem hnil : HNil VRep := ⟨nil_forget,fun {w v _ _ _} _ _ => nil_clash v w,nil_add,nil_now,nil_len⟩
end
end Go.Proofs.Ytlblfpacnegmlaa.ClashHe
namespace Go.Proofs.Ytlblfpacnegmlaa.ClashX
open Go.RowKit Go.ChangeShapes Go.WideShapes Go.Deep Go.Maps
open TreeM Go.Proofs.Ytlblfpacnegmlaa.Form Lst Args Tx TreeR ViewR ClashL ClashK
instance : Inhabited (ByteArray × ByteArray) := ⟨⟨⟨#[]⟩,⟨#[]⟩⟩⟩
def RdT (w : World) (A : Option Addr) (n c : Nat) (L : List ByteArray) : Prop := n ≤ c ∧ c ≤ maxLen ∧ Sl txE w A n L ∧ (∀ p ∈ L,p.size ≤ 140737488351232) ∧ (A = none → c = 0) ∧ c * 16 ≤ 140737488351232
theorem texts_of {H : Type} {enc : TypeId × Value → H} {w : World} {base fuel : Nat} {cs : List Value} {x : DataW H × List MemPlace} (h : DataW.trod enc Try.prog w base (fun _ => true) true fuel 22 cs = some x) (hw : ∀ n ∈ x.1.weights Try.prog 22,n ≤ reachBytes) :
 ∃ A m c,∃ L : List ByteArray,cs = [.slice A m c] ∧ RdT w A m c L := strs_reach h hw
theorem fixed_ok : FixOk := fixed_calls clash_ok
end Go.Proofs.Ytlblfpacnegmlaa.ClashX
namespace Go.Proofs.Ytlblfpacnegmlaa.Rch
open Go.RowKit Go.ChangeShapes Go.WideShapes Go.Deep Go.Maps
open Go.Proofs.Ytlblfpacnegmlaa.Form Lst Args Nest
section
variable {H : Type} {enc : TypeId × Value → H} {w : World} {base fuel : Nat}
theorem weights_part {P : Program} : ∀ {ts : List TypeId} {ds : List (DataW H)} {i : Nat} {t : TypeId} {d : DataW H},ts[i]? = some t → ds[i]? = some d → ∀ n ∈ d.weights P t,n ∈ DataW.weightsEach P ts ds
 | [],_,i,_,_,h,_,_,_ => by simp at h
 | t :: ts,[],i,_,_,_,h,_,_ => by simp at h
 | t :: ts,d :: ds,0,_,_,h1,h2,n,hn => by
   simp at h1 h2
   subst h1 h2
   simp only [DataW.weightsEach,List.mem_append]
   exact .inl hn
 | t :: ts,d :: ds,i + 1,_,_,h1,h2,n,hn => by
   simp only [DataW.weightsEach,List.mem_append]
   exact .inr (weights_part (by simpa using h1) (by simpa using h2) n hn)
theorem sl_reach {α : Type} [Inhabited α] {P : Program} (e : Enc α) (good : α → Prop) {t T : TypeId} {cs : List Value} {x : DataW H × List MemPlace} (ht : P.underlying t = some (.slice T)) (hz : P.cellsOf T = e.size)
 (hform : ∀ es n z,DataW.trod enc P w base (fun _ => true) true n T es = some z → (∀ k ∈ z.1.weights P T,k ≤ reachBytes) → ∃ y,es = e.cells y ∧ good y)
 (h : DataW.trod enc P w base (fun _ => true) true fuel t cs = some x) (hw : ∀ n ∈ x.1.weights P t,n ≤ reachBytes) :
 ∃ A m c,∃ L : List α,cs = [.slice A m c] ∧ m ≤ c ∧ c ≤ maxLen ∧ Sl e w A m L ∧ (∀ y ∈ L,good y) ∧ (A = none → c = 0) ∧ c * P.bytesOf T ≤ 140737488351232 := by
 have hpos : 0 < P.cellsOf T := by rw [hz]; exact e.pos
 rcases open_slice ht h with ⟨hcs,_⟩ | ⟨a,len,cap,m,n,D,Pl,hcs,_,hl,hm,hmm,hxe,hx⟩
 ·exact ⟨none,0,0,[],hcs,Nat.le_refl _,by decide,⟨rfl,fun j y hy => (by simp at hy)⟩,(fun p hp => by cases hp),(fun _ => rfl),(by simp)⟩
 ·have hmc : m = cap := by simpa using hmm
  subst hmc
  have hspot : 0 < len → a.spot = none ∧ a.block < w.heap.size := fun hi => by
   obtain ⟨es,h1,_⟩ := hx 0 (by omega)
   obtain ⟨_,hlen,hc⟩ := World.cells?_some h1
   have h0 := hc 0 hpos
   rw [List.getElem?_eq_getElem (by omega)] at h0
   have h2 := World.cell?_spot h0
   have h1 := World.block_lt_of_cell? w _ h0
   simp [Addr.add] at h1 h2
   exact ⟨h2,h1⟩
  have hbytes : m * P.bytesOf T ≤ 140737488351232 := by
   have h5 := hw (m * P.bytesOf T) (by
    rw [hxe]
    simp only [DataW.weights,ht]
    refine List.mem_cons.2 (.inl ?_)
    congr 1
    simp
    omega)
   unfold reachBytes at h5
   omega
  rw [hz] at hx
  obtain ⟨b,o,spot⟩ := a
  have hadd2 : spot = none → ∀ k i,((⟨b,o,spot⟩ : Addr).add k).add i = ⟨b,o + k + i,none⟩ := fun e k i => by
   subst e
   unfold Addr.add
   by_cases h0 : k = 0 <;> by_cases h1 : i = 0 <;> simp [h0,h1]
  obtain ⟨f,hf⟩ := choose_lt (α := α) (n := len) (p := fun j y => (∃ b' o',some (⟨b,o,spot⟩ : Addr) = some ⟨b',o',none⟩ ∧ b' < w.heap.size ∧ w.rangeAt b' (o' + j * e.size) (e.cells y)) ∧ good y) (fun j hj => by
   obtain ⟨es,h1,h2⟩ := hx j (by omega)
   obtain ⟨_,hlen,hc⟩ := World.cells?_some h1
   obtain ⟨s1,s2⟩ := hspot (by omega)
   have s1 : spot = none := s1
   obtain ⟨y,rfl,hg⟩ := hform _ _ _ h2 (fun n hn => hw n (by
    rw [hxe]
    simp only [DataW.weights,ht]
    exact List.mem_cons.2 (.inr (List.mem_append.2 (.inl (Tx.weights_all (d := D j) (List.mem_map.2 ⟨j,List.mem_range.2 hj,rfl⟩) n hn))))))
   refine ⟨y,⟨b,o,by rw [s1],s2,fun i v hv => ?_⟩,hg⟩
   have hi : i < (e.cells y).length := (List.getElem?_eq_some_iff.1 hv).1
   have h3 := hc i (by rw [hlen] at hi; exact hi)
   rw [hadd2 s1] at h3
   exact h3.trans hv)
  have hL : ∀ j y,((List.range len).map f)[j]? = some y → j < len ∧ y = f j := fun j y hy => by
   rw [List.getElem?_map] at hy
   obtain ⟨i,hi,rfl⟩ := Option.map_eq_some_iff.1 hy
   obtain ⟨h1,h2⟩ := List.getElem?_eq_some_iff.1 hi
   rw [List.length_range] at h1
   rw [List.getElem_range] at h2
   subst h2
   exact ⟨h1,rfl⟩
  refine ⟨_,len,m,(List.range len).map f,hcs,hl,hm,⟨by simp,fun j y hy => ?_⟩,fun y hy => ?_,fun h => (by cases h),hbytes⟩
  ·obtain ⟨h1,rfl⟩ := hL j y hy
   exact (hf j h1).1
  ·obtain ⟨j,hj⟩ := List.mem_iff_getElem?.1 hy
   obtain ⟨h1,rfl⟩ := hL j y hj
   exact (hf j h1).2
theorem text_reach {P : Program} {T : TypeId} {cs : List Value} {x : DataW H × List MemPlace} (hT : P.underlying T = some .string) (h : DataW.trod enc P w base (fun _ => true) true fuel T cs = some x) (hw : ∀ n ∈ x.1.weights P T,n ≤ reachBytes) :
 ∃ s : ByteArray,cs = [.string s] ∧ s.size ≤ 140737488351232 := by
 obtain ⟨s,rfl,e2,_⟩ := DataW.trod_string hT h
 refine ⟨s,rfl,?_⟩
 have e3 : x.1 = .lit (.string s.data.toList) := congrArg Prod.fst e2
 have h5 := hw s.data.toList.length (by rw [e3]; simp [DataW.weights])
 unfold reachBytes at h5
 have : s.data.toList.length = s.size := Array.length_toList
 omega
end
end Go.Proofs.Ytlblfpacnegmlaa.Rch