import Derived.Deep.RegionLaw
import Derived.Test.YtogdjbhjgbnicaaGreatDoorSq
import Derived.Test.YtogdjbhjgbnicaaGreatDoorOpsPartsMBV
import Derived.Deep.DeepCutAuto
import Derived.Deep.CutBlock
import Derived.Test.YtogdjbhjgbnicaaGreatDoorOpsPartsMAG
import Derived.Test.YtogdjbhjgbnicaaGreatDoorHor
import Derived.Test.YtogdjbhjgbnicaaGreatDoorOpsPartsMBA
set_option maxHeartbeats 16000000
set_option linter.unusedVariables false
set_option linter.unusedSimpArgs false
set_option maxRecDepth 100000
namespace Go.Proofs.YtogdjbhjgbnicaaGreatDoor.DirsKc
open Go.RowKit
open Byte KeysM TreeM ViewM ViewKm NodeM NodeG NamesM NamesL WalkM WalkF WalkKm DirsV Lst Chg TreeL ViewL WalkL WalkV Vat WalkKa WalkKb DirsK DirsKa DirsKb
open Own hiding keeps
variable {Rep : RepT} {w : World} {v : Value} {s : Vs} {S D : Nat → Prop}
def Mxs (w : World) (S : Nat → Prop) : Prop := Mx w ∧ ¬ S 0
theorem Mxs.lt {w : World} {S : Nat → Prop} (h : Mxs w S) : 0 < w.heap.size := by
 obtain ⟨⟨m,hm⟩,_⟩ := h
 exact World.block_lt_of_cell? w ⟨0,0,none⟩ hm
theorem Mxs.step {w w' : World} {S D S' D' : Nat → Prop} (h : Mxs w S) (st : Stp S D S' D' w w') : Mxs w' S' := by
 refine ⟨?_,fun hs => ?_⟩
 ·obtain ⟨m,hm⟩ := h.1
  exact ⟨m,st.chg.cell hm h.2⟩
 ·rcases st.own _ hs with h1 | h1
  ·exact h.2 h1
  ·have := h.lt
   omega
theorem Mxs.below {w w' : World} {S : Nat → Prop} (h : Mxs w S) (hb : Below w.heap.size w w') : Mxs w' S := ⟨h.1.below hb,h.2⟩
theorem Mxs.at_ {w0 w : World} {S0 D0 M S D : Nat → Prop} {v : Value} {s : Vs} (h : Mxs w0 S0) (A : At Rep w0 S0 D0 M w v s S D) : Mxs w S := h.step A.st
theorem results_tct {P : Program} {fn : Func} {u p q : Tmp} {ty : TypeId} (h : fn.results = #[.tmp u,.cell p ty,.tmp q]) (tmps : Array Value) (w : World) (g : Nat) (t : TypeId) (cs : Array Value) (fr : Nat × Nat) (d : TypeDesc)
 (hp : tmps.getD p undef = .pointer (some ⟨g,0,none⟩)) (v : Value) (hv : tmps.getD u undef = v) (x : Value) (hx : tmps.getD q undef = x) (hg : w.heap[g]? = some (.cells cs t fr)) (hu : P.underlying ty = some d) (hd : (match d with | .struct _ | .array _ _ => true | _ => false) = true) (hi : (P.info? ty).map (·.size) = some cs.size) :
 (results fn tmps).run P w = .ok (.tuple #[v,.agg cs,x]) w := by
 subst hv
 subst hx
 have hp' : tmps[p]?.getD undef = .pointer (some ⟨g,0,none⟩) := by simpa using hp
 simp [results,h,hp',asAddr,run_loadVar_row w g t ty cs fr d hg hu hd hi]
def leadM (L : List Pr) (path : ByteArray) : Int × Ino × Int := if (findM L path).2 ≠ 0 then (0,ino0,(findM L path).2) else if (findM L path).1.ino = 0 then (0,ino0,10) else ((findM L path).1.ino,(findM L path).1.node,0)
def LeadR (Rep : RepT) (v : Value) (s : Vs) (path : ByteArray) (S D : Nat → Prop) (w : World) (r : Int × Ino × Int) (e : Ending) (w' : World) : Prop := ∃ s' S' D',e = .returned (.tuple #[.int .u32 r.1,.agg #[.int .u8 r.2.1.k,.int .u32 r.2.1.l,.int .u32 r.2.1.s,.int .u32 r.2.1.p],.int .i64 r.2.2]) ∧ Rep w' v s' S' D' ∧ Stp S D S' D' w w' ∧ FindR s path s'
theorem set4 {v1 : World} {g : Nat} {z0 z1 z2 z3 : Value} {U : TypeId} (K : Blk v1 g #[z0,z1,z2,z3] U) (a b c d : Value) : Blk ((((v1.setCell ⟨g,0,none⟩ a).setCell ⟨g,1,none⟩ b).setCell ⟨g,2,none⟩ c).setCell ⟨g,3,none⟩ d) g #[a,b,c,d] U := by
 have h1 := K.set_ 0 a
 have h2 := h1.set_ 1 b
 have h3 := h2.set_ 2 c
 have h4 := h3.set_ 3 d
 exact h4
theorem at4 (hS : Stays Rep) {w0 w : World} {S0 D0 M S D : Nat → Prop} {v : Value} {s : Vs} (A : At Rep w0 S0 D0 M w v s S D) {r : Nat} {z0 z1 z2 z3 : Value} {T : TypeId} (h : Blk w r #[z0,z1,z2,z3] T) (hr : M r) (hne : 76 ≠ T ∧ 125 ≠ T) (a b c d : Value) : At Rep w0 S0 D0 M ((((w.setCell ⟨r,0,none⟩ a).setCell ⟨r,1,none⟩ b).setCell ⟨r,2,none⟩ c).setCell ⟨r,3,none⟩ d) v s S D := by
 have h1 := h.set_ 0 a
 have h2 := h1.set_ 1 b
 have h3 := h2.set_ 2 c
 exact (((A.set hS h hr hne 0 a).set hS h1 hr hne 1 b).set hS h2 hr hne 2 c).set hS h3 hr hne 3 d
theorem lead_calls (hW : Wk Rep) {w : World} {v : Value} {s : Vs} {S D : Nat → Prop} (path : ByteArray) (hr : Rep w v s S D) (hl : Lim s) (h2 : s.rd.length ≤ 19000) (hp : path.size ≤ 100000) (hx : Mxs w S) :
 Calls Tryz.prog 79 #[v,.string path] w (LeadR Rep v s path S D w (leadM s.shown path)) := by
 obtain ⟨W,hW0⟩ : ∃ W,w.alloc (.cells #[.int .u8 0,.int .u32 0,.int .u32 0,.int .u32 0] 46) = W := ⟨_,rfl⟩
 have hbW : Below w.heap.size w W := by rw [← hW0]; exact bW_
 have A0 := hQ_ ((At.start hr).own hW.stays hbW (Nat.le_refl w.heap.size) (by rw [← hW0]; simp))
 have R0 := hQ_ (show Blk W w.heap.size #[.int .u8 0,.int .u32 0,.int .u32 0,.int .u32 0] 46 from hW0 ▸ Blk.new_ w _ _)
 have HW := hQ_ hW0
 have HS := hQ_ hW.stays
 have HFI := hQ_ (fun w (S D : Nat → Prop) (hr : Rep w v s S D) (hx : Mx w) => hW.find path hr hl h2 hp hx)
 have HX := hQ_ (hx.below hbW).1
 unfold leadM
 obtain ⟨⟨⟨sd,sn,si,⟨sk,sl,sz,sp⟩⟩,er⟩,hR⟩ : ∃ R,findM s.shown path = R := ⟨_,rfl⟩
 rw [hR] at HFI ⊢
 dsimp only at HFI ⊢
 clear hr hl h2 hp hx hW0 hbW hR
 by_cases he : er = 0
 ·subst he
  rw [if_neg (fun h => h rfl)]
  by_cases h0 : si = 0
  ·rw [if_pos h0]
   have d0 : (si == 0) = true := by simpa using h0
   clear h0
   go_enter Tryz.func79,Tryz.ntmps79
   go_wp2_with fail
   rw [HW.out]
   go_wp2_with fail
   refine (HFI.out _ _ _ A0.out.rep HX.out).mono ?_
   rintro e w2 ⟨s2,S2,D2,rfl,hr2,st2,hf⟩
   have hbn := bN_ w2 (.cells #[.int .u32 sd,.string sn,.int .u32 si,.int .u8 sk,.int .u32 sl,.int .u32 sz,.int .u32 sp] 150)
   have A2 := hQ_ ((A0.out.step HS.out hr2 st2).below HS.out hbn)
   have R2 := hQ_ ((A0.out.blk HS.out R0.out (.inr rfl) st2).below hbn)
   have HF := hQ_ hf
   clear hr2 st2 hf hbn
   go_wp2_with ((with_reducible refine pick none ?_); refine store_blk rfl 46 _ _ rfl w.heap.size #[.int .u8 0,.int .u32 0,.int .u32 0,.int .u32 0] rfl rfl 46 _ R2.out info_ino rfl (by simp [Value.oneCell']) ?_; intro w5 hk5 hg5)
   have A5 := A2.out.stored HS.out R2.out (.inr rfl) (by decide) hg5
   exact bodyPost_ret (v := .tuple #[.int .u32 0,.agg #[.int .u8 0,.int .u32 0,.int .u32 0,.int .u32 0],.int .i64 10]) (results_tct rfl _ _ w.heap.size 46 _ (0,0) _ rfl (.int .u32 0) rfl (.int .i64 10) rfl hk5 Tryz.underlying46 rfl info_ino) rfl ⟨s2,S2,D2,rfl,A5.rep,A5.st,HF.out⟩
  ·rw [if_neg h0]
   have d0 : (si == 0) = false := by simpa using h0
   clear h0
   go_enter Tryz.func79,Tryz.ntmps79
   go_wp2_with fail
   rw [HW.out]
   go_wp2_with fail
   refine (HFI.out _ _ _ A0.out.rep HX.out).mono ?_
   rintro e w2 ⟨s2,S2,D2,rfl,hr2,st2,hf⟩
   obtain ⟨U,hU⟩ : ∃ U,w2.alloc (.cells #[.int .u32 sd,.string sn,.int .u32 si,.int .u8 sk,.int .u32 sl,.int .u32 sz,.int .u32 sp] 150) = U := ⟨_,rfl⟩
   have hbn : Below w2.heap.size w2 U := by rw [← hU]; exact bW_
   have A2 := hQ_ ((A0.out.step HS.out hr2 st2).below HS.out hbn)
   have R2 := hQ_ ((A0.out.blk HS.out R0.out (.inr rfl) st2).below hbn)
   have X2 := hQ_ (show Blk U w2.heap.size #[.int .u32 sd,.string sn,.int .u32 si,.int .u8 sk,.int .u32 sl,.int .u32 sz,.int .u32 sp] 150 from hU ▸ Blk.new_ w2 _ _)
   have HF := hQ_ hf
   have HU := hQ_ hU
   have hlt : w.heap.size < w2.heap.size := (A0.out.blk HS.out R0.out (.inr rfl) st2).lt
   obtain ⟨x2,x3,x4,x5,x6⟩ : U.cell? ⟨w2.heap.size,2,none⟩ = some (.int .u32 si) ∧ U.cell? ⟨w2.heap.size,3,none⟩ = some (.int .u8 sk) ∧ U.cell? ⟨w2.heap.size,4,none⟩ = some (.int .u32 sl) ∧ U.cell? ⟨w2.heap.size,5,none⟩ = some (.int .u32 sz) ∧ U.cell? ⟨w2.heap.size,6,none⟩ = some (.int .u32 sp) := ⟨X2.out.cell 2,X2.out.cell 3,X2.out.cell 4,X2.out.cell 5,X2.out.cell 6⟩
   obtain ⟨r0,r1,r2,r3⟩ : U.cell? ⟨w.heap.size,0,none⟩ = some (.int .u8 0) ∧ U.cell? ⟨w.heap.size,1,none⟩ = some (.int .u32 0) ∧ U.cell? ⟨w.heap.size,2,none⟩ = some (.int .u32 0) ∧ U.cell? ⟨w.heap.size,3,none⟩ = some (.int .u32 0) := ⟨R2.out.cell 0,R2.out.cell 1,R2.out.cell 2,R2.out.cell 3⟩
   obtain ⟨q0,q1,q2,q3⟩ : U.frozen? ⟨w.heap.size,0,none⟩ = false ∧ U.frozen? ⟨w.heap.size,1,none⟩ = false ∧ U.frozen? ⟨w.heap.size,2,none⟩ = false ∧ U.frozen? ⟨w.heap.size,3,none⟩ = false := ⟨R2.out.frozen 0,R2.out.frozen 1,R2.out.frozen 2,R2.out.frozen 3⟩
   have hne1 : ¬ w2.heap.size = w.heap.size := by omega
   have hne2 : ¬ w.heap.size = w2.heap.size := by omega
   have y2 : (w2.alloc (.cells #[.int .u32 sd,.string sn,.int .u32 si,.int .u8 sk,.int .u32 sl,.int .u32 sz,.int .u32 sp] 150)).cell? ⟨w2.heap.size,2,none⟩ = some (.int .u32 si) := by rw [hU]; exact x2
   clear hr2 st2 hf hbn hU
   go_wp2_with fail
   rw [HU.out]
   go_region_law (fail)
   all_goals
    have A5 := hQ_ ((at4 HS.out A2.out R2.out (.inr rfl) (by decide) (.int .u8 sk) (.int .u32 sl) (.int .u32 sz) (.int .u32 sp)).below HS.out ((Below.refl _ _).drew))
    have R5 := hQ_ (set4 R2.out (.int .u8 sk) (.int .u32 sl) (.int .u32 sz) (.int .u32 sp)).drew
    go_wp2_with fail
    exact bodyPost_ret (v := .tuple #[.int .u32 si,.agg #[.int .u8 sk,.int .u32 sl,.int .u32 sz,.int .u32 sp],.int .i64 0]) (results_tct rfl _ _ w.heap.size 46 _ (0,0) _ rfl (.int .u32 si) rfl (.int .i64 0) rfl R5.out Tryz.underlying46 rfl info_ino) rfl ⟨s2,S2,D2,rfl,A5.out.rep,A5.out.st,HF.out⟩
 ·rw [if_pos he]
  have d0 : (er != 0) = true := by simpa using he
  clear he
  go_enter Tryz.func79,Tryz.ntmps79
  go_wp2_with fail
  rw [HW.out]
  go_wp2_with fail
  refine (HFI.out _ _ _ A0.out.rep HX.out).mono ?_
  rintro e w2 ⟨s2,S2,D2,rfl,hr2,st2,hf⟩
  have hbn := bN_ w2 (.cells #[.int .u32 sd,.string sn,.int .u32 si,.int .u8 sk,.int .u32 sl,.int .u32 sz,.int .u32 sp] 150)
  have A2 := hQ_ ((A0.out.step HS.out hr2 st2).below HS.out hbn)
  have R2 := hQ_ ((A0.out.blk HS.out R0.out (.inr rfl) st2).below hbn)
  have HF := hQ_ hf
  clear hr2 st2 hf hbn
  go_wp2_with ((with_reducible refine pick none ?_); refine store_blk rfl 46 _ _ rfl w.heap.size #[.int .u8 0,.int .u32 0,.int .u32 0,.int .u32 0] rfl rfl 46 _ R2.out info_ino rfl (by simp [Value.oneCell']) ?_; intro w5 hk5 hg5)
  have A5 := A2.out.stored HS.out R2.out (.inr rfl) (by decide) hg5
  exact bodyPost_ret (v := .tuple #[.int .u32 0,.agg #[.int .u8 0,.int .u32 0,.int .u32 0,.int .u32 0],.int .i64 er]) (results_tct rfl _ _ w.heap.size 46 _ (0,0) _ rfl (.int .u32 0) rfl (.int .i64 er) rfl hk5 Tryz.underlying46 rfl info_ino) rfl ⟨s2,S2,D2,rfl,A5.rep,A5.st,HF.out⟩
end Go.Proofs.YtogdjbhjgbnicaaGreatDoor.DirsKc
namespace Go.Proofs.YtogdjbhjgbnicaaGreatDoor.DirsKd
open Go.RowKit
open Byte KeysM TreeM ViewM ViewKm NodeM NodeG NamesM NamesL WalkM WalkF WalkKm DirsV Lst Chg TreeL ViewL WalkL WalkV Vat WalkKa WalkKb DirsK DirsKa DirsKb DirsKc
open Own hiding keeps
variable {Rep : RepT} {w : World} {v : Value} {s : Vs} {S D : Nat → Prop}
theorem first_2g (a b : Int) (w : World) (g : Nat) (hg : w.heap.size = g) : Calls Tryz.prog 98 #[.slice (some ⟨g,0,none⟩) 2 2] (w.alloc (.cells #[.int .i64 a,.int .i64 b] 43)) fun e w' => e = .returned (.int .i64 (fst_ [a,b])) ∧ (w.alloc (.cells #[.int .i64 a,.int .i64 b] 43)) = w' := by
 subst hg
 exact first_2 a b w
theorem first_2d (a b : Int) (w : World) (g : Nat) (hg : w.heap.size = g) : Calls Tryz.prog 98 #[.slice (some ⟨g,0,none⟩) 2 2] (w.alloc (.cells #[.int .i64 a,.int .i64 b] 43)).drew fun e w' => e = .returned (.int .i64 (fst_ [a,b])) ∧ (w.alloc (.cells #[.int .i64 a,.int .i64 b] 43)).drew = w' := by
 subst hg
 exact first_calls _ 2 2 [a,b] _ ((So.lit erE 43 w (base := w.heap.size) [a,b] #[.int .i64 a,.int .i64 b] 2 rfl rfl (Nat.le_refl _) (by decide)).sl.below ((Below.refl _ _).drew)) (by decide)
theorem when_t (er : Int) (w : World) : Calls Tryz.prog 99 #[.bool true,.int .i64 er] w fun e w' => e = .returned (.int .i64 er) ∧ w = w' := when_calls true er w
theorem when_f (er : Int) (w : World) : Calls Tryz.prog 99 #[.bool false,.int .i64 er] w fun e w' => e = .returned (.int .i64 0) ∧ w = w' := when_calls false er w
def FndC (Rep : RepT) (v : Value) (s t : Vs) (y : Spot) (er : Int) (S D : Nat → Prop) (w : World) (e : Ending) (w' : World) : Prop := ∃ s' S' D',e = .returned (.tuple #[.agg #[.int .u32 y.dir,.string y.name,.int .u32 y.ino,.int .u8 y.node.k,.int .u32 y.node.l,.int .u32 y.node.s,.int .u32 y.node.p],.int .i64 er]) ∧ Rep w' v s' S' D' ∧ Stp S D S' D' w w' ∧ Sm s' t ∧ s'.rd.length ≤ t.rd.length + 40 ∧ s'.rg.length ≤ t.rg.length
theorem find_c (hW : Wk Rep) {w : World} {v : Value} {s t : Vs} {S D : Nat → Prop} (path : ByteArray) {y : Spot} {er : Int} (hy : findM s.shown path = (y,er)) (hr : Rep w v t S D) (hsm : Sm t s) (hl : Lim t) (h2 : t.rd.length ≤ 19000) (hp : path.size ≤ 100000) (hx : Mx w) : Calls Tryz.prog 97 #[v,.string path] w (FndC Rep v s t y er S D w) := by
 refine (hW.find path hr hl h2 hp hx).mono ?_
 rw [hsm.shown,hy]
 rintro e w' ⟨s',S',D',he,hr',st,hf⟩
 exact ⟨s',S',D',he,hr',st,Sm.of_find hf,hf.len,Nat.le_of_eq (by rw [hf.rg])⟩
def LeadC (Rep : RepT) (v : Value) (s t : Vs) (i : Int) (n : Ino) (er : Int) (S D : Nat → Prop) (w : World) (e : Ending) (w' : World) : Prop := ∃ s' S' D',e = .returned (.tuple #[.int .u32 i,.agg #[.int .u8 n.k,.int .u32 n.l,.int .u32 n.s,.int .u32 n.p],.int .i64 er]) ∧ Rep w' v s' S' D' ∧ Stp S D S' D' w w' ∧ Sm s' t ∧ s'.rd.length ≤ t.rd.length + 40 ∧ s'.rg.length ≤ t.rg.length
theorem lead_c (hW : Wk Rep) {w : World} {v : Value} {s t : Vs} {S D : Nat → Prop} (path : ByteArray) {i : Int} {n : Ino} {er : Int} (hy : leadM s.shown path = (i,n,er)) (hr : Rep w v t S D) (hsm : Sm t s) (hl : Lim t) (h2 : t.rd.length ≤ 19000) (hp : path.size ≤ 100000) (hx : Mxs w S) : Calls Tryz.prog 79 #[v,.string path] w (LeadC Rep v s t i n er S D w) := by
 refine (lead_calls hW path hr hl h2 hp hx).mono ?_
 rw [hsm.shown,hy]
 rintro e w' ⟨s',S',D',he,hr',st,hf⟩
 exact ⟨s',S',D',he,hr',st,Sm.of_find hf,hf.len,Nat.le_of_eq (by rw [hf.rg])⟩
theorem Aft.found {s t t' : Vs} {ps : List Wrt} {k m : Nat} (h : Aft s t ps k m) (hs : Sm t' t) (h1 : t'.rd.length ≤ t.rd.length + 40) (h2 : t'.rg.length ≤ t.rg.length) : Aft s t' ps (k + 40) m := ⟨hs.trans h.sm,by have := h.rd; omega,by have := h.rg; omega⟩
theorem Aft.sm0 {s t : Vs} {k m : Nat} (h : Aft s t [] k m) : Sm t s := h.sm
theorem Aft.thru {s t s' : Vs} {ps : List Wrt} {a b k m : Nat} {x : Bool} (C : Aft s t [] a b ∧ (goW s []).2 = true) (h : Aft t s' ps k m ∧ (goW t ps).2 = x) : Aft s s' ps (a + k) (b + m) ∧ (goW s ps).2 = x := by
 have h1 := h.1.from_ (Aft.sm0 C.1) C.1.rd C.1.rg
 exact ⟨h1.1,h1.2.trans h.2⟩
theorem find_ib (L : List Pr) (path : ByteArray) : InoB (findM L path).1.node.k (findM L path).1.node.l (findM L path).1.node.s (findM L path).1.node.p := by
 have hz : InoB 0 0 0 0 := ⟨by decide,by decide,by decide,by decide,by decide,by decide,by decide,by decide⟩
 have hl : ∀ i,InoB (loadM L i).1.k (loadM L i).1.l (loadM L i).1.s (loadM L i).1.p := fun i => by
  have := load_k L i
  exact ⟨this.1,this.2.1,this.2.2.1,this.2.2.2.1,this.2.2.2.2.1,this.2.2.2.2.2.1,this.2.2.2.2.2.2.1,this.2.2.2.2.2.2.2⟩
 unfold findM
 split
 ·exact hz
 ·suffices H : ∀ (l : List ByteArray) (x : Spot),InoB x.node.k x.node.l x.node.s x.node.p → InoB (findL L x l).1.node.k (findL L x l).1.node.l (findL L x l).1.node.s (findL L x l).1.node.p from H _ _ (hl 1)
  intro l
  induction l with
  | nil => intro x h; exact h
  | cons n r ih =>
    intro x h
    unfold findL
    split
    ·exact hz
    ·split
     ·exact hz
     ·refine ih _ ?_
      unfold stepM
      split
      ·exact hl _
      ·exact hz
theorem move_calls (hW0 : Wk Rep) {w : World} {v : Value} {s : Vs} {S D : Nat → Prop} (xd xi xk xl xz xp : Int) (xn : ByteArray) (yd yi yk yl yz yp : Int) (yn : ByteArray) (hr : Rep w v s S D) (hl : Lim s) (h2 : s.rd.length ≤ 19900) (h3 : s.rg.length ≤ 990) (hd0 : 0 ≤ xd) (hd1 : xd ≤ 4294967295) (hi0 : 0 ≤ xi) (hi1 : xi ≤ 4294967295) (hn0 : xn.size ≤ 100000) (jd0 : 0 ≤ yd) (jd1 : yd ≤ 4294967295) (ji0 : 0 ≤ yi) (ji1 : yi ≤ 4294967295) (jn0 : yn.size ≤ 100000) :
 Calls Tryz.prog 114 #[v,.agg #[.int .u32 xd,.string xn,.int .u32 xi,.int .u8 xk,.int .u32 xl,.int .u32 xz,.int .u32 xp],.agg #[.int .u32 yd,.string yn,.int .u32 yi,.int .u8 yk,.int .u32 yl,.int .u32 yz,.int .u32 yp]] w (Wrote Rep v s (movPs ⟨xd,xn,xi,⟨xk,xl,xz,xp⟩⟩ ⟨yd,yn,yi,⟨yk,yl,yz,yp⟩⟩) 3 0 S D w) := by
 unfold movPs
 dsimp only
 by_cases h : xk = 2 ∧ xd ≠ yd
 ·rw [if_pos h]
  exact move_far hW0 xd xi xk xl xz xp xn yd yi yk yl yz yp yn hr hl h2 h3 hd0 hd1 hi0 hi1 hn0 jd0 jd1 ji0 ji1 jn0 h.1 h.2
 ·rw [if_neg h]
  exact move_near hW0 xd xi xk xl xz xp xn yd yi yk yl yz yp yn hr hl h2 h3 hd0 hd1 hi0 hi1 hn0 jd0 jd1 ji0 ji1 jn0 (fun hk => Classical.byContradiction fun hne => h ⟨hk,hne⟩)
theorem aftF {s t t' : Vs} {k m : Nat} (C : Aft s t [] k m ∧ (goW s []).2 = true) (hs : Sm t' t) (h1 : t'.rd.length ≤ t.rd.length + 40) (h2 : t'.rg.length ≤ t.rg.length) : Aft s t' [] (k + 40) m ∧ (goW s []).2 = true := ⟨Aft.found C.1 hs h1 h2,rfl⟩
end Go.Proofs.YtogdjbhjgbnicaaGreatDoor.DirsKd
namespace Go.Proofs.YtogdjbhjgbnicaaGreatDoor.DirsKe
open Go.RowKit
open Byte KeysM TreeM ViewM ViewKm NodeM NodeG NamesM NamesL WalkM WalkF WalkKm DirsV Lst Chg TreeL ViewL WalkL WalkV Vat WalkKa WalkKb DirsK DirsKa DirsKb DirsKc DirsKd
open Own hiding keeps
variable {Rep : RepT} {w : World} {v : Value} {s : Vs} {S D : Nat → Prop}
theorem first_2g (a b : Int) (w : World) (g : Nat) (hg : w.heap.size = g) : Calls Tryz.prog 98 #[.slice (some ⟨g,0,none⟩) 2 2] (w.alloc (.cells #[.int .i64 a,.int .i64 b] 43)) fun e w' => e = .returned (.int .i64 (fst_ [a,b])) ∧ (w.alloc (.cells #[.int .i64 a,.int .i64 b] 43)) = w' := by
 subst hg
 exact first_2 a b w
theorem first_2d (a b : Int) (w : World) (g : Nat) (hg : w.heap.size = g) : Calls Tryz.prog 98 #[.slice (some ⟨g,0,none⟩) 2 2] (w.alloc (.cells #[.int .i64 a,.int .i64 b] 43)).drew fun e w' => e = .returned (.int .i64 (fst_ [a,b])) ∧ (w.alloc (.cells #[.int .i64 a,.int .i64 b] 43)).drew = w' := by
 subst hg
 exact first_calls _ 2 2 [a,b] _ ((So.lit erE 43 w (base := w.heap.size) [a,b] #[.int .i64 a,.int .i64 b] 2 rfl rfl (Nat.le_refl _) (by decide)).sl.below ((Below.refl _ _).drew)) (by decide)
theorem first_2b (a b : Int) (w : World) (g : Nat) (hg : w.heap.size = g) : (Calls Tryz.prog 98 #[.slice (some ⟨g,0,none⟩) 2 2] (w.alloc (.cells #[.int .i64 a,.int .i64 b] 43)) fun e w' => e = .returned (.int .i64 (fst_ [a,b])) ∧ (w.alloc (.cells #[.int .i64 a,.int .i64 b] 43)) = w') ∧ (Calls Tryz.prog 98 #[.slice (some ⟨g,0,none⟩) 2 2] (w.alloc (.cells #[.int .i64 a,.int .i64 b] 43)).drew fun e w' => e = .returned (.int .i64 (fst_ [a,b])) ∧ (w.alloc (.cells #[.int .i64 a,.int .i64 b] 43)).drew = w') := ⟨first_2g a b w g hg,first_2d a b w g hg⟩
theorem make_err (hW0 : Wk Rep) (path : ByteArray) (kind ino : Int) {xd xi xk xl xz xp er : Int} {xn : ByteArray} (hr : Rep w v s S D) (hl : Lim s) (h2 : s.rd.length ≤ 18000) (h3 : s.rg.length ≤ 900) (hx : Mxs w S) (hp : path.size ≤ 100000) (k0 : 0 ≤ kind) (k1 : kind ≤ 255) (i0 : 0 ≤ ino) (i1 : ino ≤ 4294967295) (hR : findM s.shown path = (⟨xd,xn,xi,⟨xk,xl,xz,xp⟩⟩,er)) (he : er ≠ 0) :
 Calls Tryz.prog 78 #[v,.string path,.int .u8 kind,.int .u32 ino] w (Ans Rep v s er [] 41 0 S D w) := by
 have A0 := hQ_ (At.start hr)
 have HX := hQ_ hx
 have HS := hQ_ hW0.stays
 have HL := hQ_ hl
 have C0 := hQ_ (aft0 s)
 have HWT := hQ_ when_t
 have HWF := hQ_ when_f
 have HFI := hQ_ (fun w (S D : Nat → Prop) (t : Vs) (hr : Rep w v t S D) (hsm : Sm t s) hl h2 hx => find_c hW0 path hR hr hsm hl h2 hp hx)
 unfold FndC at HFI
 have hsb := find_bd s.shown path
 rw [hR] at hsb
 obtain ⟨hd0,hd1,hi0,hi1,hn0⟩ := hsb
 dsimp only at hd0 hd1 hi0 hi1 hn0 HFI
 have d0 : (er != 0) = true := by simpa using he
 clear hr hl hp hR hx hW0
 by_cases h0 : xi = 0
 ·have d1 : (xi != 0) = false := by simpa using h0
  clear h0
  go_enter Tryz.func78,Tryz.ntmps78
  go_wp2_with fail
  refine (HFI.out _ _ _ _ A0.out.rep (Aft.sm0 C0.out.1) (lim_aft C0.out.1 HL.out (by omega) (by omega)) (by have := C0.out.1.rd; omega) (HX.out.at_ A0.out).1).mono ?_
  rintro e w1 ⟨s1,S1,D1,rfl,hr,st,hsm,hrd,hrg⟩
  have C1 := hQ_ (aftF C0.out hsm hrd hrg)
  have X1 := hQ_ (Blk.new_ w1 #[.int .u32 xd,.string xn,.int .u32 xi,.int .u8 xk,.int .u32 xl,.int .u32 xz,.int .u32 xp] 150)
  have hbn := bX_ X1.out
  have AQ := A0.out.step HS.out hr st
  have A1 := hQ_ (AQ.own HS.out hbn (Nat.le_refl w1.heap.size) (by simp))
  have f1_X0 := cC7 X1.out
  clear hr st hsm hrd hrg hbn AQ
  have FE2 : fst_ [er,0] = er := by unfold fst_; rw [if_neg he]
  have HF2 := hQ_ (first_2b (er) (0) (w1.alloc (.cells #[.int .u32 xd,.string xn,.int .u32 xi,.int .u8 xk,.int .u32 xl,.int .u32 xz,.int .u32 xp] 150)) (w1.heap.size + 1) (by simp))
  rw [FE2] at HF2
  clear FE2
  go_upto_region 2 with (fail)
  go_cut [11] (fun p wx => p = .int .i64 (er) ∧ BL_ (w1.alloc (.cells #[.int .u32 xd,.string xn,.int .u32 xi,.int .u8 xk,.int .u32 xl,.int .u32 xz,.int .u32 xp] 150)) wx)
  case first =>
   go_wp2_with (first | (go_at_call 99; (with_reducible refine (HWT.out _ _).mono ?_); rintro e w9 ⟨rfl,rfl⟩) | (go_at_call 99; (with_reducible refine (HWF.out _ _).mono ?_); rintro e w9 ⟨rfl,rfl⟩) | (go_at_call 98; (with_reducible refine HF2.out.1.mono ?_); rintro e w9 ⟨rfl,rfl⟩))
   all_goals
    go_meet
    exact fB_
  case rest =>
   obtain ⟨rfl,hbc⟩ := hcut
   have A2 := hQ_ (A1.out.below HS.out hbc)
   have X2 := hQ_ (X1.out.below hbc)
   skip
   have f2_X0 := cC7 X2.out
   clear hbc f1_X0
   clear he
   go_wp2_with fail
   go_ret
   exact Ans.ok A2.out ⟨C1.out.1.more (by omega) (by omega),C1.out.2⟩
 ·have d1 : (xi != 0) = true := by simpa using h0
  clear h0
  go_enter Tryz.func78,Tryz.ntmps78
  go_wp2_with fail
  refine (HFI.out _ _ _ _ A0.out.rep (Aft.sm0 C0.out.1) (lim_aft C0.out.1 HL.out (by omega) (by omega)) (by have := C0.out.1.rd; omega) (HX.out.at_ A0.out).1).mono ?_
  rintro e w3 ⟨s3,S3,D3,rfl,hr,st,hsm,hrd,hrg⟩
  have C3 := hQ_ (aftF C0.out hsm hrd hrg)
  have X3 := hQ_ (Blk.new_ w3 #[.int .u32 xd,.string xn,.int .u32 xi,.int .u8 xk,.int .u32 xl,.int .u32 xz,.int .u32 xp] 150)
  have hbn := bX_ X3.out
  have AQ := A0.out.step HS.out hr st
  have A3 := hQ_ (AQ.own HS.out hbn (Nat.le_refl w3.heap.size) (by simp))
  have f3_X0 := cC7 X3.out
  clear hr st hsm hrd hrg hbn AQ
  have FE4 : fst_ [er,11] = er := by unfold fst_; rw [if_neg he]
  have HF4 := hQ_ (first_2b (er) (11) (w3.alloc (.cells #[.int .u32 xd,.string xn,.int .u32 xi,.int .u8 xk,.int .u32 xl,.int .u32 xz,.int .u32 xp] 150)) (w3.heap.size + 1) (by simp))
  rw [FE4] at HF4
  clear FE4
  go_upto_region 2 with (fail)
  go_cut [11] (fun p wx => p = .int .i64 (er) ∧ BL_ (w3.alloc (.cells #[.int .u32 xd,.string xn,.int .u32 xi,.int .u8 xk,.int .u32 xl,.int .u32 xz,.int .u32 xp] 150)) wx)
  case first =>
   go_wp2_with (first | (go_at_call 99; (with_reducible refine (HWT.out _ _).mono ?_); rintro e w9 ⟨rfl,rfl⟩) | (go_at_call 99; (with_reducible refine (HWF.out _ _).mono ?_); rintro e w9 ⟨rfl,rfl⟩) | (go_at_call 98; (with_reducible refine HF4.out.1.mono ?_); rintro e w9 ⟨rfl,rfl⟩))
   all_goals
    go_meet
    exact fB_
  case rest =>
   obtain ⟨rfl,hbc⟩ := hcut
   have A4 := hQ_ (A3.out.below HS.out hbc)
   have X4 := hQ_ (X3.out.below hbc)
   skip
   have f4_X0 := cC7 X4.out
   clear hbc f3_X0
   clear he
   go_wp2_with fail
   go_ret
   exact Ans.ok A4.out ⟨C3.out.1.more (by omega) (by omega),C3.out.2⟩
theorem make_there (hW0 : Wk Rep) (path : ByteArray) (kind ino : Int) {xd xi xk xl xz xp er : Int} {xn : ByteArray} (hr : Rep w v s S D) (hl : Lim s) (h2 : s.rd.length ≤ 18000) (h3 : s.rg.length ≤ 900) (hx : Mxs w S) (hp : path.size ≤ 100000) (k0 : 0 ≤ kind) (k1 : kind ≤ 255) (i0 : 0 ≤ ino) (i1 : ino ≤ 4294967295) (hR : findM s.shown path = (⟨xd,xn,xi,⟨xk,xl,xz,xp⟩⟩,er)) (he : er = 0) (h0 : xi ≠ 0) :
 Calls Tryz.prog 78 #[v,.string path,.int .u8 kind,.int .u32 ino] w (Ans Rep v s 11 [] 41 0 S D w) := by
 have A0 := hQ_ (At.start hr)
 have HX := hQ_ hx
 have HS := hQ_ hW0.stays
 have HL := hQ_ hl
 have C0 := hQ_ (aft0 s)
 have HWT := hQ_ when_t
 have HWF := hQ_ when_f
 have HFI := hQ_ (fun w (S D : Nat → Prop) (t : Vs) (hr : Rep w v t S D) (hsm : Sm t s) hl h2 hx => find_c hW0 path hR hr hsm hl h2 hp hx)
 unfold FndC at HFI
 have hsb := find_bd s.shown path
 rw [hR] at hsb
 obtain ⟨hd0,hd1,hi0,hi1,hn0⟩ := hsb
 dsimp only at hd0 hd1 hi0 hi1 hn0 HFI
 subst he
 have d1 : (xi != 0) = true := by simpa using h0
 clear hr hl hp hR hx hW0 h0
 go_enter Tryz.func78,Tryz.ntmps78
 go_wp2_with fail
 refine (HFI.out _ _ _ _ A0.out.rep (Aft.sm0 C0.out.1) (lim_aft C0.out.1 HL.out (by omega) (by omega)) (by have := C0.out.1.rd; omega) (HX.out.at_ A0.out).1).mono ?_
 rintro e w1 ⟨s1,S1,D1,rfl,hr,st,hsm,hrd,hrg⟩
 have C1 := hQ_ (aftF C0.out hsm hrd hrg)
 have X1 := hQ_ (Blk.new_ w1 #[.int .u32 xd,.string xn,.int .u32 xi,.int .u8 xk,.int .u32 xl,.int .u32 xz,.int .u32 xp] 150)
 have hbn := bX_ X1.out
 have AQ := A0.out.step HS.out hr st
 have A1 := hQ_ (AQ.own HS.out hbn (Nat.le_refl w1.heap.size) (by simp))
 have f1_X0 := cC7 X1.out
 clear hr st hsm hrd hrg hbn AQ
 have FE2 : fst_ [0,11] = 11 := rfl
 have HF2 := hQ_ (first_2b (0) (11) (w1.alloc (.cells #[.int .u32 xd,.string xn,.int .u32 xi,.int .u8 xk,.int .u32 xl,.int .u32 xz,.int .u32 xp] 150)) (w1.heap.size + 1) (by simp))
 rw [FE2] at HF2
 clear FE2
 go_upto_region 2 with (fail)
 go_cut [11] (fun p wx => p = .int .i64 (11) ∧ BL_ (w1.alloc (.cells #[.int .u32 xd,.string xn,.int .u32 xi,.int .u8 xk,.int .u32 xl,.int .u32 xz,.int .u32 xp] 150)) wx)
 case first =>
  go_wp2_with (first | (go_at_call 99; (with_reducible refine (HWT.out _ _).mono ?_); rintro e w9 ⟨rfl,rfl⟩) | (go_at_call 99; (with_reducible refine (HWF.out _ _).mono ?_); rintro e w9 ⟨rfl,rfl⟩) | (go_at_call 98; (with_reducible refine HF2.out.1.mono ?_); rintro e w9 ⟨rfl,rfl⟩))
  all_goals
   go_meet
   exact fB_
 case rest =>
  obtain ⟨rfl,hbc⟩ := hcut
  have A2 := hQ_ (A1.out.below HS.out hbc)
  have X2 := hQ_ (X1.out.below hbc)
  skip
  have f2_X0 := cC7 X2.out
  clear hbc f1_X0
  go_wp2_with fail
  go_ret
  exact Ans.ok A2.out ⟨C1.out.1.more (by omega) (by omega),C1.out.2⟩
theorem make_file (hW0 : Wk Rep) (path : ByteArray) (kind ino : Int) {xd xi xk xl xz xp er : Int} {xn : ByteArray} (hr : Rep w v s S D) (hl : Lim s) (h2 : s.rd.length ≤ 18000) (h3 : s.rg.length ≤ 900) (hx : Mxs w S) (hp : path.size ≤ 100000) (k0 : 0 ≤ kind) (k1 : kind ≤ 255) (i0 : 0 ≤ ino) (i1 : ino ≤ 4294967295) (hR : findM s.shown path = (⟨xd,xn,xi,⟨xk,xl,xz,xp⟩⟩,er)) (he : er = 0) (h0 : xi = 0) (hkd : kind = 1) :
 Calls Tryz.prog 78 #[v,.string path,.int .u8 kind,.int .u32 ino] w (Ans Rep v s 0 [saveP ino 1 1 0 0,hangP xd xn ino] 41 0 S D w) := by
 have A0 := hQ_ (At.start hr)
 have HX := hQ_ hx
 have HS := hQ_ hW0.stays
 have HWK := hQ_ hW0
 have HL := hQ_ hl
 have HRO := hQ_ room_calls
 have C0 := hQ_ (aft0 s)
 have HWT := hQ_ when_t
 have HWF := hQ_ when_f
 have HFI := hQ_ (fun w (S D : Nat → Prop) (t : Vs) (hr : Rep w v t S D) (hsm : Sm t s) hl h2 hx => find_c hW0 path hR hr hsm hl h2 hp hx)
 unfold FndC at HFI
 have HNW := hQ_ (fun w => NodeK.new_ok kind xd w k0 k1 (by have := (find_bd s.shown path).d0; rw [hR] at this; exact this) (by have := (find_bd s.shown path).d1; rw [hR] at this; exact this))
 have hsb := find_bd s.shown path
 rw [hR] at hsb
 obtain ⟨hd0,hd1,hi0,hi1,hn0⟩ := hsb
 dsimp only at hd0 hd1 hi0 hi1 hn0 HFI
 subst he
 have d1 : (xi != 0) = false := by simpa using h0
 unfold NodeL.newV at HNW
 rw [if_pos hkd] at HNW
 clear hr hl hp hR hx hW0 h0 hkd
 go_enter Tryz.func78,Tryz.ntmps78
 go_wp2_with fail
 refine (HFI.out _ _ _ _ A0.out.rep (Aft.sm0 C0.out.1) (lim_aft C0.out.1 HL.out (by omega) (by omega)) (by have := C0.out.1.rd; omega) (HX.out.at_ A0.out).1).mono ?_
 rintro e w1 ⟨s1,S1,D1,rfl,hr,st,hsm,hrd,hrg⟩
 have C1 := hQ_ (aftF C0.out hsm hrd hrg)
 have X1 := hQ_ (Blk.new_ w1 #[.int .u32 xd,.string xn,.int .u32 xi,.int .u8 xk,.int .u32 xl,.int .u32 xz,.int .u32 xp] 150)
 have hbn := bX_ X1.out
 have AQ := A0.out.step HS.out hr st
 have A1 := hQ_ (AQ.own HS.out hbn (Nat.le_refl w1.heap.size) (by simp))
 have f1_X0 := cC7 X1.out
 clear hr st hsm hrd hrg hbn AQ
 have FE2 : fst_ [0,0] = 0 := rfl
 have HF2 := hQ_ (first_2b (0) (0) (w1.alloc (.cells #[.int .u32 xd,.string xn,.int .u32 xi,.int .u8 xk,.int .u32 xl,.int .u32 xz,.int .u32 xp] 150)) (w1.heap.size + 1) (by simp))
 rw [FE2] at HF2
 clear FE2
 go_upto_region 2 with (fail)
 go_cut [11] (fun p wx => p = .int .i64 (0) ∧ BL_ (w1.alloc (.cells #[.int .u32 xd,.string xn,.int .u32 xi,.int .u8 xk,.int .u32 xl,.int .u32 xz,.int .u32 xp] 150)) wx)
 case first =>
  go_wp2_with (first | (go_at_call 99; (with_reducible refine (HWT.out _ _).mono ?_); rintro e w9 ⟨rfl,rfl⟩) | (go_at_call 99; (with_reducible refine (HWF.out _ _).mono ?_); rintro e w9 ⟨rfl,rfl⟩) | (go_at_call 98; (with_reducible refine HF2.out.1.mono ?_); rintro e w9 ⟨rfl,rfl⟩))
  all_goals
   go_meet
   exact fB_
 case rest =>
  obtain ⟨rfl,hbc⟩ := hcut
  have A2 := hQ_ (A1.out.below HS.out hbc)
  have X2 := hQ_ (X1.out.below hbc)
  skip
  have f2_X0 := cC7 X2.out
  clear hbc f1_X0
  go_wp2_with fail
  refine (HNW.out _).mono ?_
  rintro e w3 ⟨rfl,hbw⟩
  have hbn := nW_ hbw (.cells #[.int .u8 1,.int .u32 1,.int .u32 0,.int .u32 0] 46)
  have A3 := hQ_ (A2.out.own HS.out hbn hbw.size (by simp))
  have X3 := hQ_ (X2.out.below hbn)
  have I3 := hQ_ (Blk.new_ w3 #[.int .u8 1,.int .u32 1,.int .u32 0,.int .u32 0] 46)
  have f3_X0 := cC7 X3.out
  have f3_I0 := cC4 I3.out
  clear hbw hbn f2_X0
  go_wp2_with fail
  refine (save_w HWK.out ino 1 (1) 0 0 A3.out.rep (lim_aft C1.out.1 HL.out (by omega) (by omega)) (by omega) (by omega) ⟨by omega,by omega,by omega,by omega,by omega,by omega,by omega,by omega⟩).mono ?_
  intro e w4 hh
  rcases Wrote.split hh with ⟨s4,S4,D4,rfl,ho,hr,st,ha⟩ | ⟨s4,S4,D4,rfl,ho,hr,st,ha⟩
  ·obtain ⟨x1,x2⟩ := C1.out.1.app C1.out.2 ha
   have C4 := hQ_ (And.intro x1 (x2.trans ho))
   clear x1 x2 ho ha
   have A4 := hQ_ (A3.out.step HS.out hr st)
   have X4 := hQ_ (A3.out.blk HS.out X3.out (.inl (.inr rfl)) st)
   have I4 := hQ_ (A3.out.blk HS.out I3.out (.inr rfl) st)
   obtain ⟨f4_X0,f4_X1,f4_X2,f4_X3,f4_X4,f4_X5,f4_X6⟩ := cC7 X4.out
   obtain ⟨f4_I0,f4_I1,f4_I2,f4_I3⟩ := cC4 I4.out
   clear st hr f3_X0 f3_I0
   go_wp2_with fail
   refine (hang_w HWK.out xd xn ino A4.out.rep (lim_aft C4.out.1 HL.out (by omega) (by omega)) (by omega) (by omega) (by omega) (by omega) (by omega)).mono ?_
   intro e w5 hh
   rcases Wrote.split hh with ⟨s5,S5,D5,rfl,ho,hr,st,ha⟩ | ⟨s5,S5,D5,rfl,ho,hr,st,ha⟩
   ·obtain ⟨x1,x2⟩ := C4.out.1.app C4.out.2 ha
    have C5 := hQ_ (And.intro x1 (x2.trans ho))
    clear x1 x2 ho ha
    have A5 := hQ_ (A4.out.step HS.out hr st)
    have X5 := hQ_ (A4.out.blk HS.out X4.out (.inl (.inr rfl)) st)
    have I5 := hQ_ (A4.out.blk HS.out I4.out (.inr rfl) st)
    obtain ⟨f5_X0,f5_X1,f5_X2,f5_X3,f5_X4,f5_X5,f5_X6⟩ := cC7 X5.out
    obtain ⟨f5_I0,f5_I1,f5_I2,f5_I3⟩ := cC4 I5.out
    clear st hr f4_X0 f4_X1 f4_X2 f4_X3 f4_X4 f4_X5 f4_X6 f4_I0 f4_I1 f4_I2 f4_I3
    go_wp2_with (go_at_call 104; refine (HRO.out _ _).mono ?_; rintro e w9 ⟨rfl,rfl⟩)
    go_ret
    exact Ans.ok A5.out ⟨C5.out.1.more (by omega) (by omega),C5.out.2⟩
   ·obtain ⟨x1,x2⟩ := C4.out.1.app C4.out.2 ha
    have C5 := hQ_ (And.intro x1 (x2.trans ho))
    clear x1 x2 ho ha
    have A5 := hQ_ (A4.out.step HS.out hr st)
    have X5 := hQ_ (A4.out.blk HS.out X4.out (.inl (.inr rfl)) st)
    have I5 := hQ_ (A4.out.blk HS.out I4.out (.inr rfl) st)
    obtain ⟨f5_X0,f5_X1,f5_X2,f5_X3,f5_X4,f5_X5,f5_X6⟩ := cC7 X5.out
    obtain ⟨f5_I0,f5_I1,f5_I2,f5_I3⟩ := cC4 I5.out
    clear st hr f4_X0 f4_X1 f4_X2 f4_X3 f4_X4 f4_X5 f4_X6 f4_I0 f4_I1 f4_I2 f4_I3
    go_wp2_with (go_at_call 104; refine (HRO.out _ _).mono ?_; rintro e w9 ⟨rfl,rfl⟩)
    go_ret
    exact Ans.full A5.out ⟨(Aft.stop (qs := []) C5.out.1 C5.out.2).1.more (by omega) (by omega),(Aft.stop (qs := []) C5.out.1 C5.out.2).2⟩
  ·obtain ⟨x1,x2⟩ := C1.out.1.app C1.out.2 ha
   have C4 := hQ_ (And.intro x1 (x2.trans ho))
   clear x1 x2 ho ha
   have A4 := hQ_ (A3.out.step HS.out hr st)
   have X4 := hQ_ (A3.out.blk HS.out X3.out (.inl (.inr rfl)) st)
   have I4 := hQ_ (A3.out.blk HS.out I3.out (.inr rfl) st)
   obtain ⟨f4_X0,f4_X1,f4_X2,f4_X3,f4_X4,f4_X5,f4_X6⟩ := cC7 X4.out
   obtain ⟨f4_I0,f4_I1,f4_I2,f4_I3⟩ := cC4 I4.out
   clear st hr f3_X0 f3_I0
   go_wp2_with (go_at_call 104; refine (HRO.out _ _).mono ?_; rintro e w9 ⟨rfl,rfl⟩)
   go_ret
   exact Ans.full A4.out ⟨(Aft.stop (qs := [hangP xd xn ino]) C4.out.1 C4.out.2).1.more (by omega) (by omega),(Aft.stop (qs := [hangP xd xn ino]) C4.out.1 C4.out.2).2⟩
theorem make_dir (hW0 : Wk Rep) (path : ByteArray) (kind ino : Int) {xd xi xk xl xz xp er : Int} {xn : ByteArray} (hr : Rep w v s S D) (hl : Lim s) (h2 : s.rd.length ≤ 18000) (h3 : s.rg.length ≤ 900) (hx : Mxs w S) (hp : path.size ≤ 100000) (k0 : 0 ≤ kind) (k1 : kind ≤ 255) (i0 : 0 ≤ ino) (i1 : ino ≤ 4294967295) (hR : findM s.shown path = (⟨xd,xn,xi,⟨xk,xl,xz,xp⟩⟩,er)) (he : er = 0) (h0 : xi = 0) (hkd : kind ≠ 1) :
 Calls Tryz.prog 78 #[v,.string path,.int .u8 kind,.int .u32 ino] w (Ans Rep v s 0 [saveP ino 2 2 0 xd,hangP xd xn ino,tieP xd 1] 41 0 S D w) := by
 have A0 := hQ_ (At.start hr)
 have HX := hQ_ hx
 have HS := hQ_ hW0.stays
 have HWK := hQ_ hW0
 have HL := hQ_ hl
 have HRO := hQ_ room_calls
 have C0 := hQ_ (aft0 s)
 have HWT := hQ_ when_t
 have HWF := hQ_ when_f
 have HFI := hQ_ (fun w (S D : Nat → Prop) (t : Vs) (hr : Rep w v t S D) (hsm : Sm t s) hl h2 hx => find_c hW0 path hR hr hsm hl h2 hp hx)
 unfold FndC at HFI
 have HNW := hQ_ (fun w => NodeK.new_ok kind xd w k0 k1 (by have := (find_bd s.shown path).d0; rw [hR] at this; exact this) (by have := (find_bd s.shown path).d1; rw [hR] at this; exact this))
 have hsb := find_bd s.shown path
 rw [hR] at hsb
 obtain ⟨hd0,hd1,hi0,hi1,hn0⟩ := hsb
 dsimp only at hd0 hd1 hi0 hi1 hn0 HFI
 subst he
 have d1 : (xi != 0) = false := by simpa using h0
 unfold NodeL.newV at HNW
 rw [if_neg hkd] at HNW
 clear hr hl hp hR hx hW0 h0 hkd
 go_enter Tryz.func78,Tryz.ntmps78
 go_wp2_with fail
 refine (HFI.out _ _ _ _ A0.out.rep (Aft.sm0 C0.out.1) (lim_aft C0.out.1 HL.out (by omega) (by omega)) (by have := C0.out.1.rd; omega) (HX.out.at_ A0.out).1).mono ?_
 rintro e w1 ⟨s1,S1,D1,rfl,hr,st,hsm,hrd,hrg⟩
 have C1 := hQ_ (aftF C0.out hsm hrd hrg)
 have X1 := hQ_ (Blk.new_ w1 #[.int .u32 xd,.string xn,.int .u32 xi,.int .u8 xk,.int .u32 xl,.int .u32 xz,.int .u32 xp] 150)
 have hbn := bX_ X1.out
 have AQ := A0.out.step HS.out hr st
 have A1 := hQ_ (AQ.own HS.out hbn (Nat.le_refl w1.heap.size) (by simp))
 have f1_X0 := cC7 X1.out
 clear hr st hsm hrd hrg hbn AQ
 have FE2 : fst_ [0,0] = 0 := rfl
 have HF2 := hQ_ (first_2b (0) (0) (w1.alloc (.cells #[.int .u32 xd,.string xn,.int .u32 xi,.int .u8 xk,.int .u32 xl,.int .u32 xz,.int .u32 xp] 150)) (w1.heap.size + 1) (by simp))
 rw [FE2] at HF2
 clear FE2
 go_upto_region 2 with (fail)
 go_cut [11] (fun p wx => p = .int .i64 (0) ∧ BL_ (w1.alloc (.cells #[.int .u32 xd,.string xn,.int .u32 xi,.int .u8 xk,.int .u32 xl,.int .u32 xz,.int .u32 xp] 150)) wx)
 case first =>
  go_wp2_with (first | (go_at_call 99; (with_reducible refine (HWT.out _ _).mono ?_); rintro e w9 ⟨rfl,rfl⟩) | (go_at_call 99; (with_reducible refine (HWF.out _ _).mono ?_); rintro e w9 ⟨rfl,rfl⟩) | (go_at_call 98; (with_reducible refine HF2.out.1.mono ?_); rintro e w9 ⟨rfl,rfl⟩))
  all_goals
   go_meet
   exact fB_
 case rest =>
  obtain ⟨rfl,hbc⟩ := hcut
  have A2 := hQ_ (A1.out.below HS.out hbc)
  have X2 := hQ_ (X1.out.below hbc)
  skip
  have f2_X0 := cC7 X2.out
  clear hbc f1_X0
  go_wp2_with fail
  refine (HNW.out _).mono ?_
  rintro e w3 ⟨rfl,hbw⟩
  have hbn := nW_ hbw (.cells #[.int .u8 2,.int .u32 2,.int .u32 0,.int .u32 xd] 46)
  have A3 := hQ_ (A2.out.own HS.out hbn hbw.size (by simp))
  have X3 := hQ_ (X2.out.below hbn)
  have I3 := hQ_ (Blk.new_ w3 #[.int .u8 2,.int .u32 2,.int .u32 0,.int .u32 xd] 46)
  have f3_X0 := cC7 X3.out
  have f3_I0 := cC4 I3.out
  clear hbw hbn f2_X0
  go_wp2_with fail
  refine (save_w HWK.out ino 2 (2) 0 xd A3.out.rep (lim_aft C1.out.1 HL.out (by omega) (by omega)) (by omega) (by omega) ⟨by omega,by omega,by omega,by omega,by omega,by omega,by omega,by omega⟩).mono ?_
  intro e w4 hh
  rcases Wrote.split hh with ⟨s4,S4,D4,rfl,ho,hr,st,ha⟩ | ⟨s4,S4,D4,rfl,ho,hr,st,ha⟩
  ·obtain ⟨x1,x2⟩ := C1.out.1.app C1.out.2 ha
   have C4 := hQ_ (And.intro x1 (x2.trans ho))
   clear x1 x2 ho ha
   have A4 := hQ_ (A3.out.step HS.out hr st)
   have X4 := hQ_ (A3.out.blk HS.out X3.out (.inl (.inr rfl)) st)
   have I4 := hQ_ (A3.out.blk HS.out I3.out (.inr rfl) st)
   obtain ⟨f4_X0,f4_X1,f4_X2,f4_X3,f4_X4,f4_X5,f4_X6⟩ := cC7 X4.out
   obtain ⟨f4_I0,f4_I1,f4_I2,f4_I3⟩ := cC4 I4.out
   clear st hr f3_X0 f3_I0
   go_wp2_with fail
   refine (hang_w HWK.out xd xn ino A4.out.rep (lim_aft C4.out.1 HL.out (by omega) (by omega)) (by omega) (by omega) (by omega) (by omega) (by omega)).mono ?_
   intro e w5 hh
   rcases Wrote.split hh with ⟨s5,S5,D5,rfl,ho,hr,st,ha⟩ | ⟨s5,S5,D5,rfl,ho,hr,st,ha⟩
   ·obtain ⟨x1,x2⟩ := C4.out.1.app C4.out.2 ha
    have C5 := hQ_ (And.intro x1 (x2.trans ho))
    clear x1 x2 ho ha
    have A5 := hQ_ (A4.out.step HS.out hr st)
    have X5 := hQ_ (A4.out.blk HS.out X4.out (.inl (.inr rfl)) st)
    have I5 := hQ_ (A4.out.blk HS.out I4.out (.inr rfl) st)
    obtain ⟨f5_X0,f5_X1,f5_X2,f5_X3,f5_X4,f5_X5,f5_X6⟩ := cC7 X5.out
    obtain ⟨f5_I0,f5_I1,f5_I2,f5_I3⟩ := cC4 I5.out
    clear st hr f4_X0 f4_X1 f4_X2 f4_X3 f4_X4 f4_X5 f4_X6 f4_I0 f4_I1 f4_I2 f4_I3
    go_wp2_with fail
    refine (tie_calls HWK.out xd (1) A5.out.rep (lim_aft C5.out.1 HL.out (by omega) (by omega)) (by have := C5.out.1.rd; omega) (by omega) (by omega) (by omega) (by omega)).mono ?_
    intro e w6 hh
    rcases Wrote.split hh with ⟨s6,S6,D6,rfl,ho,hr,st,ha⟩ | ⟨s6,S6,D6,rfl,ho,hr,st,ha⟩
    ·obtain ⟨x1,x2⟩ := C5.out.1.app C5.out.2 ha
     have C6 := hQ_ (And.intro x1 (x2.trans ho))
     clear x1 x2 ho ha
     have A6 := hQ_ (A5.out.step HS.out hr st)
     have X6 := hQ_ (A5.out.blk HS.out X5.out (.inl (.inr rfl)) st)
     have I6 := hQ_ (A5.out.blk HS.out I5.out (.inr rfl) st)
     obtain ⟨f6_X0,f6_X1,f6_X2,f6_X3,f6_X4,f6_X5,f6_X6⟩ := cC7 X6.out
     obtain ⟨f6_I0,f6_I1,f6_I2,f6_I3⟩ := cC4 I6.out
     clear st hr f5_X0 f5_X1 f5_X2 f5_X3 f5_X4 f5_X5 f5_X6 f5_I0 f5_I1 f5_I2 f5_I3
     go_wp2_with (go_at_call 104; refine (HRO.out _ _).mono ?_; rintro e w9 ⟨rfl,rfl⟩)
     go_ret
     exact Ans.ok A6.out ⟨C6.out.1.more (by omega) (by omega),C6.out.2⟩
    ·obtain ⟨x1,x2⟩ := C5.out.1.app C5.out.2 ha
     have C6 := hQ_ (And.intro x1 (x2.trans ho))
     clear x1 x2 ho ha
     have A6 := hQ_ (A5.out.step HS.out hr st)
     have X6 := hQ_ (A5.out.blk HS.out X5.out (.inl (.inr rfl)) st)
     have I6 := hQ_ (A5.out.blk HS.out I5.out (.inr rfl) st)
     obtain ⟨f6_X0,f6_X1,f6_X2,f6_X3,f6_X4,f6_X5,f6_X6⟩ := cC7 X6.out
     obtain ⟨f6_I0,f6_I1,f6_I2,f6_I3⟩ := cC4 I6.out
     clear st hr f5_X0 f5_X1 f5_X2 f5_X3 f5_X4 f5_X5 f5_X6 f5_I0 f5_I1 f5_I2 f5_I3
     go_wp2_with (go_at_call 104; refine (HRO.out _ _).mono ?_; rintro e w9 ⟨rfl,rfl⟩)
     go_ret
     exact Ans.full A6.out ⟨(Aft.stop (qs := []) C6.out.1 C6.out.2).1.more (by omega) (by omega),(Aft.stop (qs := []) C6.out.1 C6.out.2).2⟩
   ·obtain ⟨x1,x2⟩ := C4.out.1.app C4.out.2 ha
    have C5 := hQ_ (And.intro x1 (x2.trans ho))
    clear x1 x2 ho ha
    have A5 := hQ_ (A4.out.step HS.out hr st)
    have X5 := hQ_ (A4.out.blk HS.out X4.out (.inl (.inr rfl)) st)
    have I5 := hQ_ (A4.out.blk HS.out I4.out (.inr rfl) st)
    obtain ⟨f5_X0,f5_X1,f5_X2,f5_X3,f5_X4,f5_X5,f5_X6⟩ := cC7 X5.out
    obtain ⟨f5_I0,f5_I1,f5_I2,f5_I3⟩ := cC4 I5.out
    clear st hr f4_X0 f4_X1 f4_X2 f4_X3 f4_X4 f4_X5 f4_X6 f4_I0 f4_I1 f4_I2 f4_I3
    go_wp2_with (go_at_call 104; refine (HRO.out _ _).mono ?_; rintro e w9 ⟨rfl,rfl⟩)
    go_ret
    exact Ans.full A5.out ⟨(Aft.stop (qs := [tieP xd (1)]) C5.out.1 C5.out.2).1.more (by omega) (by omega),(Aft.stop (qs := [tieP xd (1)]) C5.out.1 C5.out.2).2⟩
  ·obtain ⟨x1,x2⟩ := C1.out.1.app C1.out.2 ha
   have C4 := hQ_ (And.intro x1 (x2.trans ho))
   clear x1 x2 ho ha
   have A4 := hQ_ (A3.out.step HS.out hr st)
   have X4 := hQ_ (A3.out.blk HS.out X3.out (.inl (.inr rfl)) st)
   have I4 := hQ_ (A3.out.blk HS.out I3.out (.inr rfl) st)
   obtain ⟨f4_X0,f4_X1,f4_X2,f4_X3,f4_X4,f4_X5,f4_X6⟩ := cC7 X4.out
   obtain ⟨f4_I0,f4_I1,f4_I2,f4_I3⟩ := cC4 I4.out
   clear st hr f3_X0 f3_I0
   go_wp2_with (go_at_call 104; refine (HRO.out _ _).mono ?_; rintro e w9 ⟨rfl,rfl⟩)
   go_ret
   exact Ans.full A4.out ⟨(Aft.stop (qs := [hangP xd xn ino,tieP xd (1)]) C4.out.1 C4.out.2).1.more (by omega) (by omega),(Aft.stop (qs := [hangP xd xn ino,tieP xd (1)]) C4.out.1 C4.out.2).2⟩
theorem make_calls (hW0 : Wk Rep) (path : ByteArray) (kind ino : Int) (hr : Rep w v s S D) (hl : Lim s) (h2 : s.rd.length ≤ 18000) (h3 : s.rg.length ≤ 900) (hx : Mxs w S) (hp : path.size ≤ 100000) (k0 : 0 ≤ kind) (k1 : kind ≤ 255) (i0 : 0 ≤ ino) (i1 : ino ≤ 4294967295) :
 Calls Tryz.prog 78 #[v,.string path,.int .u8 kind,.int .u32 ino] w (Ans Rep v s (makV s.shown path kind ino).1 (makV s.shown path kind ino).2 41 0 S D w) := by
 unfold makV
 obtain ⟨⟨⟨xd,xn,xi,⟨xk,xl,xz,xp⟩⟩,er⟩,hR⟩ : ∃ R,findM s.shown path = R := ⟨_,rfl⟩
 have h := hR
 rw [hR]
 dsimp only
 by_cases he : er = 0
 ·rw [if_neg (fun h => h he)]
  by_cases h0 : xi = 0
  ·rw [if_neg (fun h => h h0)]
   by_cases hkd : kind = 1
   ·rw [if_pos hkd]
    exact make_file hW0 path kind ino hr hl h2 h3 hx hp k0 k1 i0 i1 h he h0 hkd
   ·rw [if_neg hkd]
    exact make_dir hW0 path kind ino hr hl h2 h3 hx hp k0 k1 i0 i1 h he h0 hkd
  ·rw [if_pos h0]
   exact make_there hW0 path kind ino hr hl h2 h3 hx hp k0 k1 i0 i1 h he h0
 ·rw [if_pos he]
  exact make_err hW0 path kind ino hr hl h2 h3 hx hp k0 k1 i0 i1 h he
end Go.Proofs.YtogdjbhjgbnicaaGreatDoor.DirsKe
namespace Go.Proofs.YtogdjbhjgbnicaaGreatDoor.DirsKf
open Go.RowKit
open Byte KeysM TreeM ViewM ViewKm NodeM NodeG NamesM NamesL WalkM WalkF WalkKm DirsV Lst Chg TreeL ViewL WalkL WalkV Vat WalkKa WalkKb DirsK DirsKa DirsKb DirsKc DirsKd
open Own hiding keeps
variable {Rep : RepT} {w : World} {v : Value} {s : Vs} {S D : Nat → Prop}
theorem first_3g (a b c : Int) (w : World) (g : Nat) (hg : w.heap.size = g) : Calls Tryz.prog 98 #[.slice (some ⟨g,0,none⟩) 3 3] (w.alloc (.cells #[.int .i64 a,.int .i64 b,.int .i64 c] 43)) fun e w' => e = .returned (.int .i64 (fst_ [a,b,c])) ∧ (w.alloc (.cells #[.int .i64 a,.int .i64 b,.int .i64 c] 43)) = w' := by
 subst hg
 exact first_3 a b c w
theorem first_3d (a b c : Int) (w : World) (g : Nat) (hg : w.heap.size = g) : Calls Tryz.prog 98 #[.slice (some ⟨g,0,none⟩) 3 3] (w.alloc (.cells #[.int .i64 a,.int .i64 b,.int .i64 c] 43)).drew fun e w' => e = .returned (.int .i64 (fst_ [a,b,c])) ∧ (w.alloc (.cells #[.int .i64 a,.int .i64 b,.int .i64 c] 43)).drew = w' := by
 subst hg
 exact first_calls _ 3 3 [a,b,c] _ ((So.lit erE 43 w (base := w.heap.size) [a,b,c] #[.int .i64 a,.int .i64 b,.int .i64 c] 3 rfl rfl (Nat.le_refl _) (by decide)).sl.below ((Below.refl _ _).drew)) (by decide)
theorem first_3b (a b c : Int) (w : World) (g : Nat) (hg : w.heap.size = g) : (Calls Tryz.prog 98 #[.slice (some ⟨g,0,none⟩) 3 3] (w.alloc (.cells #[.int .i64 a,.int .i64 b,.int .i64 c] 43)) fun e w' => e = .returned (.int .i64 (fst_ [a,b,c])) ∧ (w.alloc (.cells #[.int .i64 a,.int .i64 b,.int .i64 c] 43)) = w') ∧ (Calls Tryz.prog 98 #[.slice (some ⟨g,0,none⟩) 3 3] (w.alloc (.cells #[.int .i64 a,.int .i64 b,.int .i64 c] 43)).drew fun e w' => e = .returned (.int .i64 (fst_ [a,b,c])) ∧ (w.alloc (.cells #[.int .i64 a,.int .i64 b,.int .i64 c] 43)).drew = w') := ⟨first_3g a b c w g hg,first_3d a b c w g hg⟩
theorem rmd_err (hW0 : Wk Rep) (path : ByteArray) {xd xi xk xl xz xp er : Int} {xn : ByteArray} (hr : Rep w v s S D) (hl : Lim s) (h2 : s.rd.length ≤ 18000) (h3 : s.rg.length ≤ 900) (hx : Mxs w S) (hp : path.size ≤ 100000) (hR : findM s.shown path = (⟨xd,xn,xi,⟨xk,xl,xz,xp⟩⟩,er)) (hk : ∀ p ∈ s.shown,(sp p.key).letter ≠ 0) (he : er ≠ 0) :
 Calls Tryz.prog 88 #[v,.string path] w (Ans Rep v s er [] 41 1 S D w) := by
 have A0 := hQ_ (At.start hr)
 have HX := hQ_ hx
 have HS := hQ_ hW0.stays
 have HL := hQ_ hl
 have C0 := hQ_ (aft0 s)
 have HWT := hQ_ when_t
 have HWF := hQ_ when_f
 have HFI := hQ_ (fun w (S D : Nat → Prop) (t : Vs) (hr : Rep w v t S D) (hsm : Sm t s) hl h2 hx => find_c hW0 path hR hr hsm hl h2 hp hx)
 unfold FndC at HFI
 have hsbx := find_bd s.shown path
 have hibx := find_ib s.shown path
 rw [hR] at hsbx hibx
 obtain ⟨x0,x1,x2,x3,x4⟩ := hsbx
 dsimp only at x0 x1 x2 x3 x4 HFI hibx
 have d0 : (er != 0) = true := by simpa using he
 clear hr hl hp hR hx hW0 hk
 rcases (show (xi ≠ 1 ∧ xi ≠ 0) ∨ (xi ≠ 1 ∧ xi = 0) ∨ xi = 1 by omega) with h0 | h0 | h0
 ·have d1 : (xi == 1) = false := by simp; omega
  have d2 : (xi == 0) = false := by simp; omega
  clear h0
  go_enter Tryz.func88,Tryz.ntmps88
  go_wp2_with fail
  refine (HFI.out _ _ _ _ A0.out.rep (Aft.sm0 C0.out.1) (lim_aft C0.out.1 HL.out (by omega) (by omega)) (by have := C0.out.1.rd; omega) (HX.out.at_ A0.out).1).mono ?_
  rintro e w1 ⟨s1,S1,D1,rfl,hr,st,hsm,hrd,hrg⟩
  have C1 := hQ_ (aftF C0.out hsm hrd hrg)
  have X1 := hQ_ (Blk.new_ w1 #[.int .u32 xd,.string xn,.int .u32 xi,.int .u8 xk,.int .u32 xl,.int .u32 xz,.int .u32 xp] 150)
  have hbn := bX_ X1.out
  have AQ := A0.out.step HS.out hr st
  have A1 := hQ_ (AQ.own HS.out hbn (Nat.le_refl w1.heap.size) (by simp))
  have f1_X0 := cC7 X1.out
  clear hr st hsm hrd hrg hbn AQ
  have FE2 : fst_ [er,0,0] = er := by unfold fst_; rw [if_neg he]
  have HF2 := hQ_ (first_3b (er) (0) (0) (w1.alloc (.cells #[.int .u32 xd,.string xn,.int .u32 xi,.int .u8 xk,.int .u32 xl,.int .u32 xz,.int .u32 xp] 150)) (w1.heap.size + 1) (by simp))
  rw [FE2] at HF2
  clear FE2
  go_upto_region 2 with (fail)
  go_cut [7] (fun p wx => p = .int .i64 (er) ∧ BL_ (w1.alloc (.cells #[.int .u32 xd,.string xn,.int .u32 xi,.int .u8 xk,.int .u32 xl,.int .u32 xz,.int .u32 xp] 150)) wx)
  case first =>
   go_region_law (first | (go_simp; go_at_call 99; (with_reducible refine (HWT.out _ _).mono ?_); rintro e w9 ⟨rfl,rfl⟩) | (go_simp; go_at_call 99; (with_reducible refine (HWF.out _ _).mono ?_); rintro e w9 ⟨rfl,rfl⟩) | (go_simp; go_at_call 98; (first | (with_reducible refine HF2.out.1.mono ?_) | (with_reducible refine HF2.out.2.mono ?_)); rintro e w9 ⟨rfl,rfl⟩))
   all_goals
    go_wp2_with fail
    go_meet
    exact fB_
  case rest =>
   obtain ⟨rfl,hbc⟩ := hcut
   have A2 := hQ_ (A1.out.below HS.out hbc)
   have X2 := hQ_ (X1.out.below hbc)
   skip
   have f2_X0 := cC7 X2.out
   clear hbc f1_X0
   clear he
   go_wp2_with fail
   go_ret
   exact Ans.ok A2.out ⟨C1.out.1.more (by omega) (by omega),C1.out.2⟩
 ·have d1 : (xi == 1) = false := by simp; omega
  have d2 : (xi == 0) = true := by simp; omega
  clear h0
  go_enter Tryz.func88,Tryz.ntmps88
  go_wp2_with fail
  refine (HFI.out _ _ _ _ A0.out.rep (Aft.sm0 C0.out.1) (lim_aft C0.out.1 HL.out (by omega) (by omega)) (by have := C0.out.1.rd; omega) (HX.out.at_ A0.out).1).mono ?_
  rintro e w3 ⟨s3,S3,D3,rfl,hr,st,hsm,hrd,hrg⟩
  have C3 := hQ_ (aftF C0.out hsm hrd hrg)
  have X3 := hQ_ (Blk.new_ w3 #[.int .u32 xd,.string xn,.int .u32 xi,.int .u8 xk,.int .u32 xl,.int .u32 xz,.int .u32 xp] 150)
  have hbn := bX_ X3.out
  have AQ := A0.out.step HS.out hr st
  have A3 := hQ_ (AQ.own HS.out hbn (Nat.le_refl w3.heap.size) (by simp))
  have f3_X0 := cC7 X3.out
  clear hr st hsm hrd hrg hbn AQ
  have FE4 : fst_ [er,0,10] = er := by unfold fst_; rw [if_neg he]
  have HF4 := hQ_ (first_3b (er) (0) (10) (w3.alloc (.cells #[.int .u32 xd,.string xn,.int .u32 xi,.int .u8 xk,.int .u32 xl,.int .u32 xz,.int .u32 xp] 150)) (w3.heap.size + 1) (by simp))
  rw [FE4] at HF4
  clear FE4
  go_upto_region 2 with (fail)
  go_cut [7] (fun p wx => p = .int .i64 (er) ∧ BL_ (w3.alloc (.cells #[.int .u32 xd,.string xn,.int .u32 xi,.int .u8 xk,.int .u32 xl,.int .u32 xz,.int .u32 xp] 150)) wx)
  case first =>
   go_region_law (first | (go_simp; go_at_call 99; (with_reducible refine (HWT.out _ _).mono ?_); rintro e w9 ⟨rfl,rfl⟩) | (go_simp; go_at_call 99; (with_reducible refine (HWF.out _ _).mono ?_); rintro e w9 ⟨rfl,rfl⟩) | (go_simp; go_at_call 98; (first | (with_reducible refine HF4.out.1.mono ?_) | (with_reducible refine HF4.out.2.mono ?_)); rintro e w9 ⟨rfl,rfl⟩))
   all_goals
    go_wp2_with fail
    go_meet
    exact fB_
  case rest =>
   obtain ⟨rfl,hbc⟩ := hcut
   have A4 := hQ_ (A3.out.below HS.out hbc)
   have X4 := hQ_ (X3.out.below hbc)
   skip
   have f4_X0 := cC7 X4.out
   clear hbc f3_X0
   clear he
   go_wp2_with fail
   go_ret
   exact Ans.ok A4.out ⟨C3.out.1.more (by omega) (by omega),C3.out.2⟩
 ·have d1 : (xi == 1) = true := by simp; omega
  have d2 : (xi == 0) = false := by simp; omega
  clear h0
  go_enter Tryz.func88,Tryz.ntmps88
  go_wp2_with fail
  refine (HFI.out _ _ _ _ A0.out.rep (Aft.sm0 C0.out.1) (lim_aft C0.out.1 HL.out (by omega) (by omega)) (by have := C0.out.1.rd; omega) (HX.out.at_ A0.out).1).mono ?_
  rintro e w5 ⟨s5,S5,D5,rfl,hr,st,hsm,hrd,hrg⟩
  have C5 := hQ_ (aftF C0.out hsm hrd hrg)
  have X5 := hQ_ (Blk.new_ w5 #[.int .u32 xd,.string xn,.int .u32 xi,.int .u8 xk,.int .u32 xl,.int .u32 xz,.int .u32 xp] 150)
  have hbn := bX_ X5.out
  have AQ := A0.out.step HS.out hr st
  have A5 := hQ_ (AQ.own HS.out hbn (Nat.le_refl w5.heap.size) (by simp))
  have f5_X0 := cC7 X5.out
  clear hr st hsm hrd hrg hbn AQ
  have FE6 : fst_ [er,29,0] = er := by unfold fst_; rw [if_neg he]
  have HF6 := hQ_ (first_3b (er) (29) (0) (w5.alloc (.cells #[.int .u32 xd,.string xn,.int .u32 xi,.int .u8 xk,.int .u32 xl,.int .u32 xz,.int .u32 xp] 150)) (w5.heap.size + 1) (by simp))
  rw [FE6] at HF6
  clear FE6
  go_upto_region 2 with (fail)
  go_cut [7] (fun p wx => p = .int .i64 (er) ∧ BL_ (w5.alloc (.cells #[.int .u32 xd,.string xn,.int .u32 xi,.int .u8 xk,.int .u32 xl,.int .u32 xz,.int .u32 xp] 150)) wx)
  case first =>
   go_region_law (first | (go_simp; go_at_call 99; (with_reducible refine (HWT.out _ _).mono ?_); rintro e w9 ⟨rfl,rfl⟩) | (go_simp; go_at_call 99; (with_reducible refine (HWF.out _ _).mono ?_); rintro e w9 ⟨rfl,rfl⟩) | (go_simp; go_at_call 98; (first | (with_reducible refine HF6.out.1.mono ?_) | (with_reducible refine HF6.out.2.mono ?_)); rintro e w9 ⟨rfl,rfl⟩))
   all_goals
    go_wp2_with fail
    go_meet
    exact fB_
  case rest =>
   obtain ⟨rfl,hbc⟩ := hcut
   have A6 := hQ_ (A5.out.below HS.out hbc)
   have X6 := hQ_ (X5.out.below hbc)
   skip
   have f6_X0 := cC7 X6.out
   clear hbc f5_X0
   clear he
   go_wp2_with fail
   go_ret
   exact Ans.ok A6.out ⟨C5.out.1.more (by omega) (by omega),C5.out.2⟩
theorem rmd_root (hW0 : Wk Rep) (path : ByteArray) {xd xi xk xl xz xp er : Int} {xn : ByteArray} (hr : Rep w v s S D) (hl : Lim s) (h2 : s.rd.length ≤ 18000) (h3 : s.rg.length ≤ 900) (hx : Mxs w S) (hp : path.size ≤ 100000) (hR : findM s.shown path = (⟨xd,xn,xi,⟨xk,xl,xz,xp⟩⟩,er)) (hk : ∀ p ∈ s.shown,(sp p.key).letter ≠ 0) (he : er = 0) (h1 : xi = 1) :
 Calls Tryz.prog 88 #[v,.string path] w (Ans Rep v s 29 [] 41 1 S D w) := by
 have A0 := hQ_ (At.start hr)
 have HX := hQ_ hx
 have HS := hQ_ hW0.stays
 have HL := hQ_ hl
 have C0 := hQ_ (aft0 s)
 have HWT := hQ_ when_t
 have HWF := hQ_ when_f
 have HFI := hQ_ (fun w (S D : Nat → Prop) (t : Vs) (hr : Rep w v t S D) (hsm : Sm t s) hl h2 hx => find_c hW0 path hR hr hsm hl h2 hp hx)
 unfold FndC at HFI
 have hsbx := find_bd s.shown path
 have hibx := find_ib s.shown path
 rw [hR] at hsbx hibx
 obtain ⟨x0,x1,x2,x3,x4⟩ := hsbx
 dsimp only at x0 x1 x2 x3 x4 HFI hibx
 subst he
 have d1 : (xi == 1) = true := by simpa using h1
 have d2 : (xi == 0) = false := by simp; omega
 clear hr hl hp hR hx hW0 hk h1
 go_enter Tryz.func88,Tryz.ntmps88
 go_wp2_with fail
 refine (HFI.out _ _ _ _ A0.out.rep (Aft.sm0 C0.out.1) (lim_aft C0.out.1 HL.out (by omega) (by omega)) (by have := C0.out.1.rd; omega) (HX.out.at_ A0.out).1).mono ?_
 rintro e w1 ⟨s1,S1,D1,rfl,hr,st,hsm,hrd,hrg⟩
 have C1 := hQ_ (aftF C0.out hsm hrd hrg)
 have X1 := hQ_ (Blk.new_ w1 #[.int .u32 xd,.string xn,.int .u32 xi,.int .u8 xk,.int .u32 xl,.int .u32 xz,.int .u32 xp] 150)
 have hbn := bX_ X1.out
 have AQ := A0.out.step HS.out hr st
 have A1 := hQ_ (AQ.own HS.out hbn (Nat.le_refl w1.heap.size) (by simp))
 have f1_X0 := cC7 X1.out
 clear hr st hsm hrd hrg hbn AQ
 have FE2 : fst_ [0,29,0] = 29 := rfl
 have HF2 := hQ_ (first_3b (0) (29) (0) (w1.alloc (.cells #[.int .u32 xd,.string xn,.int .u32 xi,.int .u8 xk,.int .u32 xl,.int .u32 xz,.int .u32 xp] 150)) (w1.heap.size + 1) (by simp))
 rw [FE2] at HF2
 clear FE2
 go_upto_region 2 with (fail)
 go_cut [7] (fun p wx => p = .int .i64 (29) ∧ BL_ (w1.alloc (.cells #[.int .u32 xd,.string xn,.int .u32 xi,.int .u8 xk,.int .u32 xl,.int .u32 xz,.int .u32 xp] 150)) wx)
 case first =>
  go_region_law (first | (go_simp; go_at_call 99; (with_reducible refine (HWT.out _ _).mono ?_); rintro e w9 ⟨rfl,rfl⟩) | (go_simp; go_at_call 99; (with_reducible refine (HWF.out _ _).mono ?_); rintro e w9 ⟨rfl,rfl⟩) | (go_simp; go_at_call 98; (first | (with_reducible refine HF2.out.1.mono ?_) | (with_reducible refine HF2.out.2.mono ?_)); rintro e w9 ⟨rfl,rfl⟩))
  all_goals
   go_wp2_with fail
   go_meet
   exact fB_
 case rest =>
  obtain ⟨rfl,hbc⟩ := hcut
  have A2 := hQ_ (A1.out.below HS.out hbc)
  have X2 := hQ_ (X1.out.below hbc)
  skip
  have f2_X0 := cC7 X2.out
  clear hbc f1_X0
  go_wp2_with fail
  go_ret
  exact Ans.ok A2.out ⟨C1.out.1.more (by omega) (by omega),C1.out.2⟩
theorem rmd_none (hW0 : Wk Rep) (path : ByteArray) {xd xi xk xl xz xp er : Int} {xn : ByteArray} (hr : Rep w v s S D) (hl : Lim s) (h2 : s.rd.length ≤ 18000) (h3 : s.rg.length ≤ 900) (hx : Mxs w S) (hp : path.size ≤ 100000) (hR : findM s.shown path = (⟨xd,xn,xi,⟨xk,xl,xz,xp⟩⟩,er)) (hk : ∀ p ∈ s.shown,(sp p.key).letter ≠ 0) (he : er = 0) (h0 : xi = 0) :
 Calls Tryz.prog 88 #[v,.string path] w (Ans Rep v s 10 [] 41 1 S D w) := by
 have A0 := hQ_ (At.start hr)
 have HX := hQ_ hx
 have HS := hQ_ hW0.stays
 have HL := hQ_ hl
 have C0 := hQ_ (aft0 s)
 have HWT := hQ_ when_t
 have HWF := hQ_ when_f
 have HFI := hQ_ (fun w (S D : Nat → Prop) (t : Vs) (hr : Rep w v t S D) (hsm : Sm t s) hl h2 hx => find_c hW0 path hR hr hsm hl h2 hp hx)
 unfold FndC at HFI
 have hsbx := find_bd s.shown path
 have hibx := find_ib s.shown path
 rw [hR] at hsbx hibx
 obtain ⟨x0,x1,x2,x3,x4⟩ := hsbx
 dsimp only at x0 x1 x2 x3 x4 HFI hibx
 subst he
 have d1 : (xi == 1) = false := by simp; omega
 have d2 : (xi == 0) = true := by simpa using h0
 clear hr hl hp hR hx hW0 hk h0
 go_enter Tryz.func88,Tryz.ntmps88
 go_wp2_with fail
 refine (HFI.out _ _ _ _ A0.out.rep (Aft.sm0 C0.out.1) (lim_aft C0.out.1 HL.out (by omega) (by omega)) (by have := C0.out.1.rd; omega) (HX.out.at_ A0.out).1).mono ?_
 rintro e w1 ⟨s1,S1,D1,rfl,hr,st,hsm,hrd,hrg⟩
 have C1 := hQ_ (aftF C0.out hsm hrd hrg)
 have X1 := hQ_ (Blk.new_ w1 #[.int .u32 xd,.string xn,.int .u32 xi,.int .u8 xk,.int .u32 xl,.int .u32 xz,.int .u32 xp] 150)
 have hbn := bX_ X1.out
 have AQ := A0.out.step HS.out hr st
 have A1 := hQ_ (AQ.own HS.out hbn (Nat.le_refl w1.heap.size) (by simp))
 have f1_X0 := cC7 X1.out
 clear hr st hsm hrd hrg hbn AQ
 have FE2 : fst_ [0,0,10] = 10 := rfl
 have HF2 := hQ_ (first_3b (0) (0) (10) (w1.alloc (.cells #[.int .u32 xd,.string xn,.int .u32 xi,.int .u8 xk,.int .u32 xl,.int .u32 xz,.int .u32 xp] 150)) (w1.heap.size + 1) (by simp))
 rw [FE2] at HF2
 clear FE2
 go_upto_region 2 with (fail)
 go_cut [7] (fun p wx => p = .int .i64 (10) ∧ BL_ (w1.alloc (.cells #[.int .u32 xd,.string xn,.int .u32 xi,.int .u8 xk,.int .u32 xl,.int .u32 xz,.int .u32 xp] 150)) wx)
 case first =>
  go_region_law (first | (go_simp; go_at_call 99; (with_reducible refine (HWT.out _ _).mono ?_); rintro e w9 ⟨rfl,rfl⟩) | (go_simp; go_at_call 99; (with_reducible refine (HWF.out _ _).mono ?_); rintro e w9 ⟨rfl,rfl⟩) | (go_simp; go_at_call 98; (first | (with_reducible refine HF2.out.1.mono ?_) | (with_reducible refine HF2.out.2.mono ?_)); rintro e w9 ⟨rfl,rfl⟩))
  all_goals
   go_wp2_with fail
   go_meet
   exact fB_
 case rest =>
  obtain ⟨rfl,hbc⟩ := hcut
  have A2 := hQ_ (A1.out.below HS.out hbc)
  have X2 := hQ_ (X1.out.below hbc)
  skip
  have f2_X0 := cC7 X2.out
  clear hbc f1_X0
  go_wp2_with fail
  go_ret
  exact Ans.ok A2.out ⟨C1.out.1.more (by omega) (by omega),C1.out.2⟩
theorem rmd_there (hW0 : Wk Rep) (path : ByteArray) {xd xi xk xl xz xp er : Int} {xn : ByteArray} (hr : Rep w v s S D) (hl : Lim s) (h2 : s.rd.length ≤ 18000) (h3 : s.rg.length ≤ 900) (hx : Mxs w S) (hp : path.size ≤ 100000) (hR : findM s.shown path = (⟨xd,xn,xi,⟨xk,xl,xz,xp⟩⟩,er)) (hk : ∀ p ∈ s.shown,(sp p.key).letter ≠ 0) (he : er = 0) (h0 : xi ≠ 0) (h1 : xi ≠ 1) :
 Calls Tryz.prog 88 #[v,.string path] w (Ans Rep v s (remV s.shown ⟨xd,xn,xi,⟨xk,xl,xz,xp⟩⟩).1 (remV s.shown ⟨xd,xn,xi,⟨xk,xl,xz,xp⟩⟩).2 41 1 S D w) := by
 have A0 := hQ_ (At.start hr)
 have HX := hQ_ hx
 have HS := hQ_ hW0.stays
 have HL := hQ_ hl
 have C0 := hQ_ (aft0 s)
 have HWT := hQ_ when_t
 have HWF := hQ_ when_f
 have HFI := hQ_ (fun w (S D : Nat → Prop) (t : Vs) (hr : Rep w v t S D) (hsm : Sm t s) hl h2 hx => find_c hW0 path hR hr hsm hl h2 hp hx)
 unfold FndC at HFI
 have hsbx := find_bd s.shown path
 have hibx := find_ib s.shown path
 rw [hR] at hsbx hibx
 obtain ⟨x0,x1,x2,x3,x4⟩ := hsbx
 dsimp only at x0 x1 x2 x3 x4 HFI hibx
 subst he
 have d1 : (xi == 1) = false := by simpa using h1
 have d2 : (xi == 0) = false := by simpa using h0
 have HC := hQ_ (fun w (S D : Nat → Prop) (t : Vs) (hr : Rep w v t S D) (hsm : Sm t s) hl h2 h3 => show Calls _ _ _ _ (Ans Rep v t (remV s.shown ⟨xd,xn,xi,⟨xk,xl,xz,xp⟩⟩).1 (remV s.shown ⟨xd,xn,xi,⟨xk,xl,xz,xp⟩⟩).2 1 1 S D w) by rw [← hsm.shown]; exact remove_calls hW0 xd xi xk xl xz xp xn hr hl h2 h3 x0 x1 x2 x3 (by omega) (by rw [hsm.shown]; exact hk))
 obtain ⟨⟨rx,ps⟩,hrx⟩ : ∃ r,remV s.shown ⟨xd,xn,xi,⟨xk,xl,xz,xp⟩⟩ = r := ⟨_,rfl⟩
 rw [hrx] at HC ⊢
 dsimp only at HC ⊢
 clear hrx h0 h1
 clear hr hl hp hR hx hW0 hk
 go_enter Tryz.func88,Tryz.ntmps88
 go_wp2_with fail
 refine (HFI.out _ _ _ _ A0.out.rep (Aft.sm0 C0.out.1) (lim_aft C0.out.1 HL.out (by omega) (by omega)) (by have := C0.out.1.rd; omega) (HX.out.at_ A0.out).1).mono ?_
 rintro e w1 ⟨s1,S1,D1,rfl,hr,st,hsm,hrd,hrg⟩
 have C1 := hQ_ (aftF C0.out hsm hrd hrg)
 have X1 := hQ_ (Blk.new_ w1 #[.int .u32 xd,.string xn,.int .u32 xi,.int .u8 xk,.int .u32 xl,.int .u32 xz,.int .u32 xp] 150)
 have hbn := bX_ X1.out
 have AQ := A0.out.step HS.out hr st
 have A1 := hQ_ (AQ.own HS.out hbn (Nat.le_refl w1.heap.size) (by simp))
 have f1_X0 := cC7 X1.out
 clear hr st hsm hrd hrg hbn AQ
 have FE2 : fst_ [0,0,0] = 0 := rfl
 have HF2 := hQ_ (first_3b (0) (0) (0) (w1.alloc (.cells #[.int .u32 xd,.string xn,.int .u32 xi,.int .u8 xk,.int .u32 xl,.int .u32 xz,.int .u32 xp] 150)) (w1.heap.size + 1) (by simp))
 rw [FE2] at HF2
 clear FE2
 go_upto_region 2 with (fail)
 go_cut [7] (fun p wx => p = .int .i64 (0) ∧ BL_ (w1.alloc (.cells #[.int .u32 xd,.string xn,.int .u32 xi,.int .u8 xk,.int .u32 xl,.int .u32 xz,.int .u32 xp] 150)) wx)
 case first =>
  go_region_law (first | (go_simp; go_at_call 99; (with_reducible refine (HWT.out _ _).mono ?_); rintro e w9 ⟨rfl,rfl⟩) | (go_simp; go_at_call 99; (with_reducible refine (HWF.out _ _).mono ?_); rintro e w9 ⟨rfl,rfl⟩) | (go_simp; go_at_call 98; (first | (with_reducible refine HF2.out.1.mono ?_) | (with_reducible refine HF2.out.2.mono ?_)); rintro e w9 ⟨rfl,rfl⟩))
  all_goals
   go_wp2_with fail
   go_meet
   exact fB_
 case rest =>
  obtain ⟨rfl,hbc⟩ := hcut
  have A2 := hQ_ (A1.out.below HS.out hbc)
  have X2 := hQ_ (X1.out.below hbc)
  skip
  have f2_X0 := cC7 X2.out
  clear hbc f1_X0
  go_wp2_with fail
  refine (HC.out _ _ _ _ A2.out.rep (Aft.sm0 C1.out.1) (lim_aft C1.out.1 HL.out (by omega) (by omega)) (by have := C1.out.1.rd; omega) (by have := C1.out.1.rg; omega)).mono ?_
  intro e w3 hh
  rcases Ans.split hh with ⟨s3,S3,D3,rfl,ho,hr,st,ha⟩ | ⟨s3,S3,D3,rfl,ho,hr,st,ha⟩
  ·have A3 := hQ_ (A2.out.step HS.out hr st)
   have C3 := hQ_ (Aft.thru C1.out (And.intro ha ho))
   clear hr st ha ho
   go_wp2_with fail
   go_ret
   exact Ans.ok A3.out ⟨C3.out.1.more (by omega) (by omega),C3.out.2⟩
  ·have A3 := hQ_ (A2.out.step HS.out hr st)
   have C3 := hQ_ (Aft.thru C1.out (And.intro ha ho))
   clear hr st ha ho
   go_wp2_with fail
   go_ret
   exact Ans.full A3.out ⟨C3.out.1.more (by omega) (by omega),C3.out.2⟩
theorem rmd_calls (hW0 : Wk Rep) (path : ByteArray) (hr : Rep w v s S D) (hl : Lim s) (h2 : s.rd.length ≤ 18000) (h3 : s.rg.length ≤ 900) (hx : Mxs w S) (hp : path.size ≤ 100000) (hk : ∀ p ∈ s.shown,(sp p.key).letter ≠ 0) :
 Calls Tryz.prog 88 #[v,.string path] w (Ans Rep v s (rmdV s.shown path).1 (rmdV s.shown path).2 41 1 S D w) := by
 unfold rmdV
 obtain ⟨⟨⟨xd,xn,xi,⟨xk,xl,xz,xp⟩⟩,er⟩,hR⟩ : ∃ R,findM s.shown path = R := ⟨_,rfl⟩
 have h := hR
 rw [hR]
 dsimp only
 by_cases he : er = 0
 ·rw [if_neg (fun h => h he)]
  by_cases h1 : xi = 1
  ·rw [if_pos h1]
   exact rmd_root hW0 path hr hl h2 h3 hx hp h hk he h1
  ·rw [if_neg h1]
   by_cases h0 : xi = 0
   ·rw [if_pos h0]
    exact rmd_none hW0 path hr hl h2 h3 hx hp h hk he h0
   ·rw [if_neg h0]
    exact rmd_there hW0 path hr hl h2 h3 hx hp h hk he h0 h1
 ·rw [if_pos he]
  exact rmd_err hW0 path hr hl h2 h3 hx hp h hk he
end Go.Proofs.YtogdjbhjgbnicaaGreatDoor.DirsKf
namespace Go.Proofs.YtogdjbhjgbnicaaGreatDoor.DirsKg
open Go.RowKit
open Byte KeysM TreeM ViewM ViewKm NodeM NodeG NamesM NamesL WalkM WalkF WalkKm DirsV Lst Chg TreeL ViewL WalkL WalkV Vat WalkKa WalkKb DirsK DirsKa DirsKb DirsKc DirsKd
open Own hiding keeps
variable {Rep : RepT} {w : World} {v : Value} {s : Vs} {S D : Nat → Prop}
theorem first_2g (a b : Int) (w : World) (g : Nat) (hg : w.heap.size = g) : Calls Tryz.prog 98 #[.slice (some ⟨g,0,none⟩) 2 2] (w.alloc (.cells #[.int .i64 a,.int .i64 b] 43)) fun e w' => e = .returned (.int .i64 (fst_ [a,b])) ∧ (w.alloc (.cells #[.int .i64 a,.int .i64 b] 43)) = w' := by
 subst hg
 exact first_2 a b w
theorem first_3g (a b c : Int) (w : World) (g : Nat) (hg : w.heap.size = g) : Calls Tryz.prog 98 #[.slice (some ⟨g,0,none⟩) 3 3] (w.alloc (.cells #[.int .i64 a,.int .i64 b,.int .i64 c] 43)) fun e w' => e = .returned (.int .i64 (fst_ [a,b,c])) ∧ (w.alloc (.cells #[.int .i64 a,.int .i64 b,.int .i64 c] 43)) = w' := by
 subst hg
 exact first_3 a b c w
theorem first_2d (a b : Int) (w : World) (g : Nat) (hg : w.heap.size = g) : Calls Tryz.prog 98 #[.slice (some ⟨g,0,none⟩) 2 2] (w.alloc (.cells #[.int .i64 a,.int .i64 b] 43)).drew fun e w' => e = .returned (.int .i64 (fst_ [a,b])) ∧ (w.alloc (.cells #[.int .i64 a,.int .i64 b] 43)).drew = w' := by
 subst hg
 exact first_calls _ 2 2 [a,b] _ ((So.lit erE 43 w (base := w.heap.size) [a,b] #[.int .i64 a,.int .i64 b] 2 rfl rfl (Nat.le_refl _) (by decide)).sl.below ((Below.refl _ _).drew)) (by decide)
theorem first_2b (a b : Int) (w : World) (g : Nat) (hg : w.heap.size = g) : (Calls Tryz.prog 98 #[.slice (some ⟨g,0,none⟩) 2 2] (w.alloc (.cells #[.int .i64 a,.int .i64 b] 43)) fun e w' => e = .returned (.int .i64 (fst_ [a,b])) ∧ (w.alloc (.cells #[.int .i64 a,.int .i64 b] 43)) = w') ∧ (Calls Tryz.prog 98 #[.slice (some ⟨g,0,none⟩) 2 2] (w.alloc (.cells #[.int .i64 a,.int .i64 b] 43)).drew fun e w' => e = .returned (.int .i64 (fst_ [a,b])) ∧ (w.alloc (.cells #[.int .i64 a,.int .i64 b] 43)).drew = w') := ⟨first_2g a b w g hg,first_2d a b w g hg⟩
theorem first_3d (a b c : Int) (w : World) (g : Nat) (hg : w.heap.size = g) : Calls Tryz.prog 98 #[.slice (some ⟨g,0,none⟩) 3 3] (w.alloc (.cells #[.int .i64 a,.int .i64 b,.int .i64 c] 43)).drew fun e w' => e = .returned (.int .i64 (fst_ [a,b,c])) ∧ (w.alloc (.cells #[.int .i64 a,.int .i64 b,.int .i64 c] 43)).drew = w' := by
 subst hg
 exact first_calls _ 3 3 [a,b,c] _ ((So.lit erE 43 w (base := w.heap.size) [a,b,c] #[.int .i64 a,.int .i64 b,.int .i64 c] 3 rfl rfl (Nat.le_refl _) (by decide)).sl.below ((Below.refl _ _).drew)) (by decide)
theorem first_3b (a b c : Int) (w : World) (g : Nat) (hg : w.heap.size = g) : (Calls Tryz.prog 98 #[.slice (some ⟨g,0,none⟩) 3 3] (w.alloc (.cells #[.int .i64 a,.int .i64 b,.int .i64 c] 43)) fun e w' => e = .returned (.int .i64 (fst_ [a,b,c])) ∧ (w.alloc (.cells #[.int .i64 a,.int .i64 b,.int .i64 c] 43)) = w') ∧ (Calls Tryz.prog 98 #[.slice (some ⟨g,0,none⟩) 3 3] (w.alloc (.cells #[.int .i64 a,.int .i64 b,.int .i64 c] 43)).drew fun e w' => e = .returned (.int .i64 (fst_ [a,b,c])) ∧ (w.alloc (.cells #[.int .i64 a,.int .i64 b,.int .i64 c] 43)).drew = w') := ⟨first_3g a b c w g hg,first_3d a b c w g hg⟩
theorem blk_ne {u : World} {a b : Nat} {cs ds : Array Value} {U V : TypeId} (h : Blk u a cs U) (k : Blk u b ds V) (hne : U ≠ V) : a ≠ b := by
 rintro rfl
 unfold Blk at h k
 rw [h] at k
 injection k with k
 injection k with _ k
 exact hne k
theorem lnk_err (hW0 : Wk Rep) (old path : ByteArray) {li lk ll lz lp er : Int} (hr : Rep w v s S D) (hl : Lim s) (h2 : s.rd.length ≤ 18000) (h3 : s.rg.length ≤ 900) (hx : Mxs w S) (hp : old.size ≤ 100000) (hp2 : path.size ≤ 100000) (hL : leadM s.shown old = (li,⟨lk,ll,lz,lp⟩,er)) (he : er ≠ 0) (hk2 : lk = 0) :
 Calls Tryz.prog 86 #[v,.string old,.string path] w (Ans Rep v s er [] 81 0 S D w) := by
 have A0 := hQ_ (At.start hr)
 have HX := hQ_ hx
 have HS := hQ_ hW0.stays
 have HL := hQ_ hl
 have C0 := hQ_ (aft0 s)
 have HWT := hQ_ when_t
 have HWF := hQ_ when_f
 have HLE := hQ_ (fun w (S D : Nat → Prop) (t : Vs) (hr : Rep w v t S D) (hsm : Sm t s) hl h2 hx => lead_c hW0 old hL hr hsm hl h2 hp hx)
 unfold LeadC at HLE
 dsimp only at HLE
 have d1 : (lk != 1) = true := by rw [hk2]; rfl
 have d0 : (er != 0) = true := by simpa using he
 clear hr hl hp hp2 hL hx hW0 hk2
 go_enter Tryz.func86,Tryz.ntmps86
 go_wp2_with fail
 refine (HLE.out _ _ _ _ A0.out.rep (Aft.sm0 C0.out.1) (lim_aft C0.out.1 HL.out (by omega) (by omega)) (by have := C0.out.1.rd; omega) (HX.out.at_ A0.out)).mono ?_
 rintro e w1 ⟨s1,S1,D1,rfl,hr,st,hsm,hrd,hrg⟩
 have C1 := hQ_ (aftF C0.out hsm hrd hrg)
 have I1 := hQ_ (Blk.new_ w1 #[.int .u8 lk,.int .u32 ll,.int .u32 lz,.int .u32 lp] 46)
 have hbn := bX_ I1.out
 have A1 := hQ_ ((A0.out.step HS.out hr st).own HS.out hbn (Nat.le_refl w1.heap.size) (by simp))
 have f1_I0 := cC4 I1.out
 clear hr st hsm hrd hrg hbn
 have FE2 : fst_ [er,13] = er := by unfold fst_; rw [if_neg he]
 have HF2 := hQ_ (first_2b (er) (13) (w1.alloc (.cells #[.int .u8 lk,.int .u32 ll,.int .u32 lz,.int .u32 lp] 46)) (w1.heap.size + 1) (by simp))
 rw [FE2] at HF2
 clear FE2
 go_upto_region 2 with (fail)
 go_cut [10] (fun p wx => p = .int .i64 (er) ∧ BL_ (w1.alloc (.cells #[.int .u8 lk,.int .u32 ll,.int .u32 lz,.int .u32 lp] 46)) wx)
 case first =>
  go_wp2_with (first | (go_at_call 99; (with_reducible refine (HWT.out _ _).mono ?_); rintro e w9 ⟨rfl,rfl⟩) | (go_at_call 99; (with_reducible refine (HWF.out _ _).mono ?_); rintro e w9 ⟨rfl,rfl⟩) | (go_at_call 98; (with_reducible refine HF2.out.1.mono ?_); rintro e w9 ⟨rfl,rfl⟩))
  all_goals
   go_meet
   exact fB_
 case rest =>
  obtain ⟨rfl,hbc⟩ := hcut
  have A2 := hQ_ (A1.out.below HS.out hbc)
  have I2 := hQ_ (I1.out.below hbc)
  skip
  have f2_I0 := cC4 I2.out
  clear hbc f1_I0
  clear he
  go_wp2_with fail
  go_ret
  exact Ans.ok A2.out ⟨C1.out.1.more (by omega) (by omega),C1.out.2⟩
theorem lnk_dir (hW0 : Wk Rep) (old path : ByteArray) {li lk ll lz lp er : Int} (hr : Rep w v s S D) (hl : Lim s) (h2 : s.rd.length ≤ 18000) (h3 : s.rg.length ≤ 900) (hx : Mxs w S) (hp : old.size ≤ 100000) (hp2 : path.size ≤ 100000) (hL : leadM s.shown old = (li,⟨lk,ll,lz,lp⟩,er)) (he : er = 0) (hk2 : lk ≠ 1) :
 Calls Tryz.prog 86 #[v,.string old,.string path] w (Ans Rep v s 13 [] 81 0 S D w) := by
 have A0 := hQ_ (At.start hr)
 have HX := hQ_ hx
 have HS := hQ_ hW0.stays
 have HL := hQ_ hl
 have C0 := hQ_ (aft0 s)
 have HWT := hQ_ when_t
 have HWF := hQ_ when_f
 have HLE := hQ_ (fun w (S D : Nat → Prop) (t : Vs) (hr : Rep w v t S D) (hsm : Sm t s) hl h2 hx => lead_c hW0 old hL hr hsm hl h2 hp hx)
 unfold LeadC at HLE
 dsimp only at HLE
 subst he
 have d0 : (lk != 1) = true := by simpa using hk2
 clear hr hl hp hp2 hL hx hk2 hW0
 go_enter Tryz.func86,Tryz.ntmps86
 go_wp2_with fail
 refine (HLE.out _ _ _ _ A0.out.rep (Aft.sm0 C0.out.1) (lim_aft C0.out.1 HL.out (by omega) (by omega)) (by have := C0.out.1.rd; omega) (HX.out.at_ A0.out)).mono ?_
 rintro e w1 ⟨s1,S1,D1,rfl,hr,st,hsm,hrd,hrg⟩
 have C1 := hQ_ (aftF C0.out hsm hrd hrg)
 have I1 := hQ_ (Blk.new_ w1 #[.int .u8 lk,.int .u32 ll,.int .u32 lz,.int .u32 lp] 46)
 have hbn := bX_ I1.out
 have A1 := hQ_ ((A0.out.step HS.out hr st).own HS.out hbn (Nat.le_refl w1.heap.size) (by simp))
 have f1_I0 := cC4 I1.out
 clear hr st hsm hrd hrg hbn
 have FE2 : fst_ [0,13] = 13 := rfl
 have HF2 := hQ_ (first_2b (0) (13) (w1.alloc (.cells #[.int .u8 lk,.int .u32 ll,.int .u32 lz,.int .u32 lp] 46)) (w1.heap.size + 1) (by simp))
 rw [FE2] at HF2
 clear FE2
 go_upto_region 2 with (fail)
 go_cut [10] (fun p wx => p = .int .i64 (13) ∧ BL_ (w1.alloc (.cells #[.int .u8 lk,.int .u32 ll,.int .u32 lz,.int .u32 lp] 46)) wx)
 case first =>
  go_wp2_with (first | (go_at_call 99; (with_reducible refine (HWT.out _ _).mono ?_); rintro e w9 ⟨rfl,rfl⟩) | (go_at_call 99; (with_reducible refine (HWF.out _ _).mono ?_); rintro e w9 ⟨rfl,rfl⟩) | (go_at_call 98; (with_reducible refine HF2.out.1.mono ?_); rintro e w9 ⟨rfl,rfl⟩))
  all_goals
   go_meet
   exact fB_
 case rest =>
  obtain ⟨rfl,hbc⟩ := hcut
  have A2 := hQ_ (A1.out.below HS.out hbc)
  have I2 := hQ_ (I1.out.below hbc)
  skip
  have f2_I0 := cC4 I2.out
  clear hbc f1_I0
  go_wp2_with fail
  go_ret
  exact Ans.ok A2.out ⟨C1.out.1.more (by omega) (by omega),C1.out.2⟩
theorem lnk_err2_00 (hW0 : Wk Rep) (old path : ByteArray) {li lk ll lz lp er : Int} {xd xi xk xl xz xp er2 : Int} {xn : ByteArray} (hr : Rep w v s S D) (hl : Lim s) (h2 : s.rd.length ≤ 18000) (h3 : s.rg.length ≤ 900) (hx : Mxs w S) (hp : old.size ≤ 100000) (hp2 : path.size ≤ 100000) (hL : leadM s.shown old = (li,⟨lk,ll,lz,lp⟩,er)) (hR : findM s.shown path = (⟨xd,xn,xi,⟨xk,xl,xz,xp⟩⟩,er2)) (he : er = 0) (hk2 : lk = 1) (he2 : er2 ≠ 0) (ha : xi = 0) (hb : ll < 1000) :
 Calls Tryz.prog 86 #[v,.string old,.string path] w (Ans Rep v s er2 [] 81 0 S D w) := by
 have A0 := hQ_ (At.start hr)
 have HX := hQ_ hx
 have HS := hQ_ hW0.stays
 have HL := hQ_ hl
 have C0 := hQ_ (aft0 s)
 have HWT := hQ_ when_t
 have HWF := hQ_ when_f
 have HLE := hQ_ (fun w (S D : Nat → Prop) (t : Vs) (hr : Rep w v t S D) (hsm : Sm t s) hl h2 hx => lead_c hW0 old hL hr hsm hl h2 hp hx)
 unfold LeadC at HLE
 dsimp only at HLE
 have HFI := hQ_ (fun w (S D : Nat → Prop) (t : Vs) (hr : Rep w v t S D) (hsm : Sm t s) hl h2 hx => find_c hW0 path hR hr hsm hl h2 hp2 hx)
 unfold FndC at HFI
 have hsbx := find_bd s.shown path
 have hibx := find_ib s.shown path
 rw [hR] at hsbx hibx
 obtain ⟨x0,x1,x2,x3,x4⟩ := hsbx
 dsimp only at x0 x1 x2 x3 x4 HFI hibx
 subst he
 have e1 : (lk != 1) = false := by simpa using hk2
 have d0 : (er2 != 0) = true := by simpa using he2
 have d1 : (xi != 0) = false := by simpa using ha
 have d2 : decide ((1000 : Int) ≤ ll) = false := by simp; omega
 clear ha hb hk2 hr hl hp hp2 hL hx hR hW0
 go_enter Tryz.func86,Tryz.ntmps86
 go_wp2_with fail
 refine (HLE.out _ _ _ _ A0.out.rep (Aft.sm0 C0.out.1) (lim_aft C0.out.1 HL.out (by omega) (by omega)) (by have := C0.out.1.rd; omega) (HX.out.at_ A0.out)).mono ?_
 rintro e w1 ⟨s1,S1,D1,rfl,hr,st,hsm,hrd,hrg⟩
 have C1 := hQ_ (aftF C0.out hsm hrd hrg)
 have I1 := hQ_ (Blk.new_ w1 #[.int .u8 lk,.int .u32 ll,.int .u32 lz,.int .u32 lp] 46)
 have hbn := bX_ I1.out
 have A1 := hQ_ ((A0.out.step HS.out hr st).own HS.out hbn (Nat.le_refl w1.heap.size) (by simp))
 have f1_I0 := cC4 I1.out
 clear hr st hsm hrd hrg hbn
 have FE2 : fst_ [0,0] = 0 := rfl
 have HF2 := hQ_ (first_2b (0) (0) (w1.alloc (.cells #[.int .u8 lk,.int .u32 ll,.int .u32 lz,.int .u32 lp] 46)) (w1.heap.size + 1) (by simp))
 rw [FE2] at HF2
 clear FE2
 go_upto_region 2 with (fail)
 go_cut [10] (fun p wx => p = .int .i64 (0) ∧ BL_ (w1.alloc (.cells #[.int .u8 lk,.int .u32 ll,.int .u32 lz,.int .u32 lp] 46)) wx)
 case first =>
  go_wp2_with (first | (go_at_call 99; (with_reducible refine (HWT.out _ _).mono ?_); rintro e w9 ⟨rfl,rfl⟩) | (go_at_call 99; (with_reducible refine (HWF.out _ _).mono ?_); rintro e w9 ⟨rfl,rfl⟩) | (go_at_call 98; (with_reducible refine HF2.out.1.mono ?_); rintro e w9 ⟨rfl,rfl⟩))
  all_goals
   go_meet
   exact fB_
 case rest =>
  obtain ⟨rfl,hbc⟩ := hcut
  have A2 := hQ_ (A1.out.below HS.out hbc)
  have I2 := hQ_ (I1.out.below hbc)
  skip
  have f2_I0 := cC4 I2.out
  clear hbc f1_I0
  go_wp2_with fail
  refine (HFI.out _ _ _ _ A2.out.rep (Aft.sm0 C1.out.1) (lim_aft C1.out.1 HL.out (by omega) (by omega)) (by have := C1.out.1.rd; omega) (HX.out.at_ A2.out).1).mono ?_
  rintro e w3 ⟨s3,S3,D3,rfl,hr,st,hsm,hrd,hrg⟩
  have C3 := hQ_ (aftF C1.out hsm hrd hrg)
  have X3 := hQ_ (Blk.new_ w3 #[.int .u32 xd,.string xn,.int .u32 xi,.int .u8 xk,.int .u32 xl,.int .u32 xz,.int .u32 xp] 150)
  have hbn := bX_ X3.out
  have AQ := A2.out.step HS.out hr st
  have A3 := hQ_ (AQ.own HS.out hbn (Nat.le_refl w3.heap.size) (by simp))
  have I3 := hQ_ ((A2.out.blk HS.out I2.out (.inr rfl) st).below hbn)
  have f3_I0 := cC4 I3.out
  have f3_X0 := cC7 X3.out
  clear hr st hsm hrd hrg hbn AQ f2_I0
  have FE4 : fst_ [er2,0,0] = er2 := by unfold fst_; rw [if_neg he2]
  have HF4 := hQ_ (first_3b (er2) (0) (0) (w3.alloc (.cells #[.int .u32 xd,.string xn,.int .u32 xi,.int .u8 xk,.int .u32 xl,.int .u32 xz,.int .u32 xp] 150)) (w3.heap.size + 1) (by simp))
  rw [FE4] at HF4
  clear FE4
  go_upto_region 6 with (fail)
  go_cut [12] (fun p wx => p = .int .i64 (er2) ∧ BL_ (w3.alloc (.cells #[.int .u32 xd,.string xn,.int .u32 xi,.int .u8 xk,.int .u32 xl,.int .u32 xz,.int .u32 xp] 150)) wx)
  case first =>
   go_region_law (first | (go_simp; go_at_call 99; (with_reducible refine (HWT.out _ _).mono ?_); rintro e w9 ⟨rfl,rfl⟩) | (go_simp; go_at_call 99; (with_reducible refine (HWF.out _ _).mono ?_); rintro e w9 ⟨rfl,rfl⟩) | (go_simp; go_at_call 98; (first | (with_reducible refine HF4.out.1.mono ?_) | (with_reducible refine HF4.out.2.mono ?_)); rintro e w9 ⟨rfl,rfl⟩))
   all_goals
    go_wp2_with fail
    go_meet
    exact fB_
  case rest =>
   obtain ⟨rfl,hbc⟩ := hcut
   have A4 := hQ_ (A3.out.below HS.out hbc)
   have I4 := hQ_ (I3.out.below hbc)
   have X4 := hQ_ (X3.out.below hbc)
   skip
   have f4_I0 := cC4 I4.out
   have f4_X0 := cC7 X4.out
   clear hbc f3_I0 f3_X0
   clear he2
   go_wp2_with fail
   go_ret
   exact Ans.ok A4.out ⟨C3.out.1.more (by omega) (by omega),C3.out.2⟩
theorem lnk_err2_01 (hW0 : Wk Rep) (old path : ByteArray) {li lk ll lz lp er : Int} {xd xi xk xl xz xp er2 : Int} {xn : ByteArray} (hr : Rep w v s S D) (hl : Lim s) (h2 : s.rd.length ≤ 18000) (h3 : s.rg.length ≤ 900) (hx : Mxs w S) (hp : old.size ≤ 100000) (hp2 : path.size ≤ 100000) (hL : leadM s.shown old = (li,⟨lk,ll,lz,lp⟩,er)) (hR : findM s.shown path = (⟨xd,xn,xi,⟨xk,xl,xz,xp⟩⟩,er2)) (he : er = 0) (hk2 : lk = 1) (he2 : er2 ≠ 0) (ha : xi = 0) (hb : 1000 ≤ ll) :
 Calls Tryz.prog 86 #[v,.string old,.string path] w (Ans Rep v s er2 [] 81 0 S D w) := by
 have A0 := hQ_ (At.start hr)
 have HX := hQ_ hx
 have HS := hQ_ hW0.stays
 have HL := hQ_ hl
 have C0 := hQ_ (aft0 s)
 have HWT := hQ_ when_t
 have HWF := hQ_ when_f
 have HLE := hQ_ (fun w (S D : Nat → Prop) (t : Vs) (hr : Rep w v t S D) (hsm : Sm t s) hl h2 hx => lead_c hW0 old hL hr hsm hl h2 hp hx)
 unfold LeadC at HLE
 dsimp only at HLE
 have HFI := hQ_ (fun w (S D : Nat → Prop) (t : Vs) (hr : Rep w v t S D) (hsm : Sm t s) hl h2 hx => find_c hW0 path hR hr hsm hl h2 hp2 hx)
 unfold FndC at HFI
 have hsbx := find_bd s.shown path
 have hibx := find_ib s.shown path
 rw [hR] at hsbx hibx
 obtain ⟨x0,x1,x2,x3,x4⟩ := hsbx
 dsimp only at x0 x1 x2 x3 x4 HFI hibx
 subst he
 have e1 : (lk != 1) = false := by simpa using hk2
 have d0 : (er2 != 0) = true := by simpa using he2
 have d1 : (xi != 0) = false := by simpa using ha
 have d2 : decide ((1000 : Int) ≤ ll) = true := by simp; omega
 clear ha hb hk2 hr hl hp hp2 hL hx hR hW0
 go_enter Tryz.func86,Tryz.ntmps86
 go_wp2_with fail
 refine (HLE.out _ _ _ _ A0.out.rep (Aft.sm0 C0.out.1) (lim_aft C0.out.1 HL.out (by omega) (by omega)) (by have := C0.out.1.rd; omega) (HX.out.at_ A0.out)).mono ?_
 rintro e w1 ⟨s1,S1,D1,rfl,hr,st,hsm,hrd,hrg⟩
 have C1 := hQ_ (aftF C0.out hsm hrd hrg)
 have I1 := hQ_ (Blk.new_ w1 #[.int .u8 lk,.int .u32 ll,.int .u32 lz,.int .u32 lp] 46)
 have hbn := bX_ I1.out
 have A1 := hQ_ ((A0.out.step HS.out hr st).own HS.out hbn (Nat.le_refl w1.heap.size) (by simp))
 have f1_I0 := cC4 I1.out
 clear hr st hsm hrd hrg hbn
 have FE2 : fst_ [0,0] = 0 := rfl
 have HF2 := hQ_ (first_2b (0) (0) (w1.alloc (.cells #[.int .u8 lk,.int .u32 ll,.int .u32 lz,.int .u32 lp] 46)) (w1.heap.size + 1) (by simp))
 rw [FE2] at HF2
 clear FE2
 go_upto_region 2 with (fail)
 go_cut [10] (fun p wx => p = .int .i64 (0) ∧ BL_ (w1.alloc (.cells #[.int .u8 lk,.int .u32 ll,.int .u32 lz,.int .u32 lp] 46)) wx)
 case first =>
  go_wp2_with (first | (go_at_call 99; (with_reducible refine (HWT.out _ _).mono ?_); rintro e w9 ⟨rfl,rfl⟩) | (go_at_call 99; (with_reducible refine (HWF.out _ _).mono ?_); rintro e w9 ⟨rfl,rfl⟩) | (go_at_call 98; (with_reducible refine HF2.out.1.mono ?_); rintro e w9 ⟨rfl,rfl⟩))
  all_goals
   go_meet
   exact fB_
 case rest =>
  obtain ⟨rfl,hbc⟩ := hcut
  have A2 := hQ_ (A1.out.below HS.out hbc)
  have I2 := hQ_ (I1.out.below hbc)
  skip
  have f2_I0 := cC4 I2.out
  clear hbc f1_I0
  go_wp2_with fail
  refine (HFI.out _ _ _ _ A2.out.rep (Aft.sm0 C1.out.1) (lim_aft C1.out.1 HL.out (by omega) (by omega)) (by have := C1.out.1.rd; omega) (HX.out.at_ A2.out).1).mono ?_
  rintro e w3 ⟨s3,S3,D3,rfl,hr,st,hsm,hrd,hrg⟩
  have C3 := hQ_ (aftF C1.out hsm hrd hrg)
  have X3 := hQ_ (Blk.new_ w3 #[.int .u32 xd,.string xn,.int .u32 xi,.int .u8 xk,.int .u32 xl,.int .u32 xz,.int .u32 xp] 150)
  have hbn := bX_ X3.out
  have AQ := A2.out.step HS.out hr st
  have A3 := hQ_ (AQ.own HS.out hbn (Nat.le_refl w3.heap.size) (by simp))
  have I3 := hQ_ ((A2.out.blk HS.out I2.out (.inr rfl) st).below hbn)
  have f3_I0 := cC4 I3.out
  have f3_X0 := cC7 X3.out
  clear hr st hsm hrd hrg hbn AQ f2_I0
  have FE4 : fst_ [er2,0,18] = er2 := by unfold fst_; rw [if_neg he2]
  have HF4 := hQ_ (first_3b (er2) (0) (18) (w3.alloc (.cells #[.int .u32 xd,.string xn,.int .u32 xi,.int .u8 xk,.int .u32 xl,.int .u32 xz,.int .u32 xp] 150)) (w3.heap.size + 1) (by simp))
  rw [FE4] at HF4
  clear FE4
  go_upto_region 6 with (fail)
  go_cut [12] (fun p wx => p = .int .i64 (er2) ∧ BL_ (w3.alloc (.cells #[.int .u32 xd,.string xn,.int .u32 xi,.int .u8 xk,.int .u32 xl,.int .u32 xz,.int .u32 xp] 150)) wx)
  case first =>
   go_region_law (first | (go_simp; go_at_call 99; (with_reducible refine (HWT.out _ _).mono ?_); rintro e w9 ⟨rfl,rfl⟩) | (go_simp; go_at_call 99; (with_reducible refine (HWF.out _ _).mono ?_); rintro e w9 ⟨rfl,rfl⟩) | (go_simp; go_at_call 98; (first | (with_reducible refine HF4.out.1.mono ?_) | (with_reducible refine HF4.out.2.mono ?_)); rintro e w9 ⟨rfl,rfl⟩))
   all_goals
    go_wp2_with fail
    go_meet
    exact fB_
  case rest =>
   obtain ⟨rfl,hbc⟩ := hcut
   have A4 := hQ_ (A3.out.below HS.out hbc)
   have I4 := hQ_ (I3.out.below hbc)
   have X4 := hQ_ (X3.out.below hbc)
   skip
   have f4_I0 := cC4 I4.out
   have f4_X0 := cC7 X4.out
   clear hbc f3_I0 f3_X0
   clear he2
   go_wp2_with fail
   go_ret
   exact Ans.ok A4.out ⟨C3.out.1.more (by omega) (by omega),C3.out.2⟩
theorem lnk_err2_10 (hW0 : Wk Rep) (old path : ByteArray) {li lk ll lz lp er : Int} {xd xi xk xl xz xp er2 : Int} {xn : ByteArray} (hr : Rep w v s S D) (hl : Lim s) (h2 : s.rd.length ≤ 18000) (h3 : s.rg.length ≤ 900) (hx : Mxs w S) (hp : old.size ≤ 100000) (hp2 : path.size ≤ 100000) (hL : leadM s.shown old = (li,⟨lk,ll,lz,lp⟩,er)) (hR : findM s.shown path = (⟨xd,xn,xi,⟨xk,xl,xz,xp⟩⟩,er2)) (he : er = 0) (hk2 : lk = 1) (he2 : er2 ≠ 0) (ha : xi ≠ 0) (hb : ll < 1000) :
 Calls Tryz.prog 86 #[v,.string old,.string path] w (Ans Rep v s er2 [] 81 0 S D w) := by
 have A0 := hQ_ (At.start hr)
 have HX := hQ_ hx
 have HS := hQ_ hW0.stays
 have HL := hQ_ hl
 have C0 := hQ_ (aft0 s)
 have HWT := hQ_ when_t
 have HWF := hQ_ when_f
 have HLE := hQ_ (fun w (S D : Nat → Prop) (t : Vs) (hr : Rep w v t S D) (hsm : Sm t s) hl h2 hx => lead_c hW0 old hL hr hsm hl h2 hp hx)
 unfold LeadC at HLE
 dsimp only at HLE
 have HFI := hQ_ (fun w (S D : Nat → Prop) (t : Vs) (hr : Rep w v t S D) (hsm : Sm t s) hl h2 hx => find_c hW0 path hR hr hsm hl h2 hp2 hx)
 unfold FndC at HFI
 have hsbx := find_bd s.shown path
 have hibx := find_ib s.shown path
 rw [hR] at hsbx hibx
 obtain ⟨x0,x1,x2,x3,x4⟩ := hsbx
 dsimp only at x0 x1 x2 x3 x4 HFI hibx
 subst he
 have e1 : (lk != 1) = false := by simpa using hk2
 have d0 : (er2 != 0) = true := by simpa using he2
 have d1 : (xi != 0) = true := by simpa using ha
 have d2 : decide ((1000 : Int) ≤ ll) = false := by simp; omega
 clear ha hb hk2 hr hl hp hp2 hL hx hR hW0
 go_enter Tryz.func86,Tryz.ntmps86
 go_wp2_with fail
 refine (HLE.out _ _ _ _ A0.out.rep (Aft.sm0 C0.out.1) (lim_aft C0.out.1 HL.out (by omega) (by omega)) (by have := C0.out.1.rd; omega) (HX.out.at_ A0.out)).mono ?_
 rintro e w1 ⟨s1,S1,D1,rfl,hr,st,hsm,hrd,hrg⟩
 have C1 := hQ_ (aftF C0.out hsm hrd hrg)
 have I1 := hQ_ (Blk.new_ w1 #[.int .u8 lk,.int .u32 ll,.int .u32 lz,.int .u32 lp] 46)
 have hbn := bX_ I1.out
 have A1 := hQ_ ((A0.out.step HS.out hr st).own HS.out hbn (Nat.le_refl w1.heap.size) (by simp))
 have f1_I0 := cC4 I1.out
 clear hr st hsm hrd hrg hbn
 have FE2 : fst_ [0,0] = 0 := rfl
 have HF2 := hQ_ (first_2b (0) (0) (w1.alloc (.cells #[.int .u8 lk,.int .u32 ll,.int .u32 lz,.int .u32 lp] 46)) (w1.heap.size + 1) (by simp))
 rw [FE2] at HF2
 clear FE2
 go_upto_region 2 with (fail)
 go_cut [10] (fun p wx => p = .int .i64 (0) ∧ BL_ (w1.alloc (.cells #[.int .u8 lk,.int .u32 ll,.int .u32 lz,.int .u32 lp] 46)) wx)
 case first =>
  go_wp2_with (first | (go_at_call 99; (with_reducible refine (HWT.out _ _).mono ?_); rintro e w9 ⟨rfl,rfl⟩) | (go_at_call 99; (with_reducible refine (HWF.out _ _).mono ?_); rintro e w9 ⟨rfl,rfl⟩) | (go_at_call 98; (with_reducible refine HF2.out.1.mono ?_); rintro e w9 ⟨rfl,rfl⟩))
  all_goals
   go_meet
   exact fB_
 case rest =>
  obtain ⟨rfl,hbc⟩ := hcut
  have A2 := hQ_ (A1.out.below HS.out hbc)
  have I2 := hQ_ (I1.out.below hbc)
  skip
  have f2_I0 := cC4 I2.out
  clear hbc f1_I0
  go_wp2_with fail
  refine (HFI.out _ _ _ _ A2.out.rep (Aft.sm0 C1.out.1) (lim_aft C1.out.1 HL.out (by omega) (by omega)) (by have := C1.out.1.rd; omega) (HX.out.at_ A2.out).1).mono ?_
  rintro e w3 ⟨s3,S3,D3,rfl,hr,st,hsm,hrd,hrg⟩
  have C3 := hQ_ (aftF C1.out hsm hrd hrg)
  have X3 := hQ_ (Blk.new_ w3 #[.int .u32 xd,.string xn,.int .u32 xi,.int .u8 xk,.int .u32 xl,.int .u32 xz,.int .u32 xp] 150)
  have hbn := bX_ X3.out
  have AQ := A2.out.step HS.out hr st
  have A3 := hQ_ (AQ.own HS.out hbn (Nat.le_refl w3.heap.size) (by simp))
  have I3 := hQ_ ((A2.out.blk HS.out I2.out (.inr rfl) st).below hbn)
  have f3_I0 := cC4 I3.out
  have f3_X0 := cC7 X3.out
  clear hr st hsm hrd hrg hbn AQ f2_I0
  have FE4 : fst_ [er2,11,0] = er2 := by unfold fst_; rw [if_neg he2]
  have HF4 := hQ_ (first_3b (er2) (11) (0) (w3.alloc (.cells #[.int .u32 xd,.string xn,.int .u32 xi,.int .u8 xk,.int .u32 xl,.int .u32 xz,.int .u32 xp] 150)) (w3.heap.size + 1) (by simp))
  rw [FE4] at HF4
  clear FE4
  go_upto_region 6 with (fail)
  go_cut [12] (fun p wx => p = .int .i64 (er2) ∧ BL_ (w3.alloc (.cells #[.int .u32 xd,.string xn,.int .u32 xi,.int .u8 xk,.int .u32 xl,.int .u32 xz,.int .u32 xp] 150)) wx)
  case first =>
   go_region_law (first | (go_simp; go_at_call 99; (with_reducible refine (HWT.out _ _).mono ?_); rintro e w9 ⟨rfl,rfl⟩) | (go_simp; go_at_call 99; (with_reducible refine (HWF.out _ _).mono ?_); rintro e w9 ⟨rfl,rfl⟩) | (go_simp; go_at_call 98; (first | (with_reducible refine HF4.out.1.mono ?_) | (with_reducible refine HF4.out.2.mono ?_)); rintro e w9 ⟨rfl,rfl⟩))
   all_goals
    go_wp2_with fail
    go_meet
    exact fB_
  case rest =>
   obtain ⟨rfl,hbc⟩ := hcut
   have A4 := hQ_ (A3.out.below HS.out hbc)
   have I4 := hQ_ (I3.out.below hbc)
   have X4 := hQ_ (X3.out.below hbc)
   skip
   have f4_I0 := cC4 I4.out
   have f4_X0 := cC7 X4.out
   clear hbc f3_I0 f3_X0
   clear he2
   go_wp2_with fail
   go_ret
   exact Ans.ok A4.out ⟨C3.out.1.more (by omega) (by omega),C3.out.2⟩
theorem lnk_err2_11 (hW0 : Wk Rep) (old path : ByteArray) {li lk ll lz lp er : Int} {xd xi xk xl xz xp er2 : Int} {xn : ByteArray} (hr : Rep w v s S D) (hl : Lim s) (h2 : s.rd.length ≤ 18000) (h3 : s.rg.length ≤ 900) (hx : Mxs w S) (hp : old.size ≤ 100000) (hp2 : path.size ≤ 100000) (hL : leadM s.shown old = (li,⟨lk,ll,lz,lp⟩,er)) (hR : findM s.shown path = (⟨xd,xn,xi,⟨xk,xl,xz,xp⟩⟩,er2)) (he : er = 0) (hk2 : lk = 1) (he2 : er2 ≠ 0) (ha : xi ≠ 0) (hb : 1000 ≤ ll) :
 Calls Tryz.prog 86 #[v,.string old,.string path] w (Ans Rep v s er2 [] 81 0 S D w) := by
 have A0 := hQ_ (At.start hr)
 have HX := hQ_ hx
 have HS := hQ_ hW0.stays
 have HL := hQ_ hl
 have C0 := hQ_ (aft0 s)
 have HWT := hQ_ when_t
 have HWF := hQ_ when_f
 have HLE := hQ_ (fun w (S D : Nat → Prop) (t : Vs) (hr : Rep w v t S D) (hsm : Sm t s) hl h2 hx => lead_c hW0 old hL hr hsm hl h2 hp hx)
 unfold LeadC at HLE
 dsimp only at HLE
 have HFI := hQ_ (fun w (S D : Nat → Prop) (t : Vs) (hr : Rep w v t S D) (hsm : Sm t s) hl h2 hx => find_c hW0 path hR hr hsm hl h2 hp2 hx)
 unfold FndC at HFI
 have hsbx := find_bd s.shown path
 have hibx := find_ib s.shown path
 rw [hR] at hsbx hibx
 obtain ⟨x0,x1,x2,x3,x4⟩ := hsbx
 dsimp only at x0 x1 x2 x3 x4 HFI hibx
 subst he
 have e1 : (lk != 1) = false := by simpa using hk2
 have d0 : (er2 != 0) = true := by simpa using he2
 have d1 : (xi != 0) = true := by simpa using ha
 have d2 : decide ((1000 : Int) ≤ ll) = true := by simp; omega
 clear ha hb hk2 hr hl hp hp2 hL hx hR hW0
 go_enter Tryz.func86,Tryz.ntmps86
 go_wp2_with fail
 refine (HLE.out _ _ _ _ A0.out.rep (Aft.sm0 C0.out.1) (lim_aft C0.out.1 HL.out (by omega) (by omega)) (by have := C0.out.1.rd; omega) (HX.out.at_ A0.out)).mono ?_
 rintro e w1 ⟨s1,S1,D1,rfl,hr,st,hsm,hrd,hrg⟩
 have C1 := hQ_ (aftF C0.out hsm hrd hrg)
 have I1 := hQ_ (Blk.new_ w1 #[.int .u8 lk,.int .u32 ll,.int .u32 lz,.int .u32 lp] 46)
 have hbn := bX_ I1.out
 have A1 := hQ_ ((A0.out.step HS.out hr st).own HS.out hbn (Nat.le_refl w1.heap.size) (by simp))
 have f1_I0 := cC4 I1.out
 clear hr st hsm hrd hrg hbn
 have FE2 : fst_ [0,0] = 0 := rfl
 have HF2 := hQ_ (first_2b (0) (0) (w1.alloc (.cells #[.int .u8 lk,.int .u32 ll,.int .u32 lz,.int .u32 lp] 46)) (w1.heap.size + 1) (by simp))
 rw [FE2] at HF2
 clear FE2
 go_upto_region 2 with (fail)
 go_cut [10] (fun p wx => p = .int .i64 (0) ∧ BL_ (w1.alloc (.cells #[.int .u8 lk,.int .u32 ll,.int .u32 lz,.int .u32 lp] 46)) wx)
 case first =>
  go_wp2_with (first | (go_at_call 99; (with_reducible refine (HWT.out _ _).mono ?_); rintro e w9 ⟨rfl,rfl⟩) | (go_at_call 99; (with_reducible refine (HWF.out _ _).mono ?_); rintro e w9 ⟨rfl,rfl⟩) | (go_at_call 98; (with_reducible refine HF2.out.1.mono ?_); rintro e w9 ⟨rfl,rfl⟩))
  all_goals
   go_meet
   exact fB_
 case rest =>
  obtain ⟨rfl,hbc⟩ := hcut
  have A2 := hQ_ (A1.out.below HS.out hbc)
  have I2 := hQ_ (I1.out.below hbc)
  skip
  have f2_I0 := cC4 I2.out
  clear hbc f1_I0
  go_wp2_with fail
  refine (HFI.out _ _ _ _ A2.out.rep (Aft.sm0 C1.out.1) (lim_aft C1.out.1 HL.out (by omega) (by omega)) (by have := C1.out.1.rd; omega) (HX.out.at_ A2.out).1).mono ?_
  rintro e w3 ⟨s3,S3,D3,rfl,hr,st,hsm,hrd,hrg⟩
  have C3 := hQ_ (aftF C1.out hsm hrd hrg)
  have X3 := hQ_ (Blk.new_ w3 #[.int .u32 xd,.string xn,.int .u32 xi,.int .u8 xk,.int .u32 xl,.int .u32 xz,.int .u32 xp] 150)
  have hbn := bX_ X3.out
  have AQ := A2.out.step HS.out hr st
  have A3 := hQ_ (AQ.own HS.out hbn (Nat.le_refl w3.heap.size) (by simp))
  have I3 := hQ_ ((A2.out.blk HS.out I2.out (.inr rfl) st).below hbn)
  have f3_I0 := cC4 I3.out
  have f3_X0 := cC7 X3.out
  clear hr st hsm hrd hrg hbn AQ f2_I0
  have FE4 : fst_ [er2,11,18] = er2 := by unfold fst_; rw [if_neg he2]
  have HF4 := hQ_ (first_3b (er2) (11) (18) (w3.alloc (.cells #[.int .u32 xd,.string xn,.int .u32 xi,.int .u8 xk,.int .u32 xl,.int .u32 xz,.int .u32 xp] 150)) (w3.heap.size + 1) (by simp))
  rw [FE4] at HF4
  clear FE4
  go_upto_region 6 with (fail)
  go_cut [12] (fun p wx => p = .int .i64 (er2) ∧ BL_ (w3.alloc (.cells #[.int .u32 xd,.string xn,.int .u32 xi,.int .u8 xk,.int .u32 xl,.int .u32 xz,.int .u32 xp] 150)) wx)
  case first =>
   go_region_law (first | (go_simp; go_at_call 99; (with_reducible refine (HWT.out _ _).mono ?_); rintro e w9 ⟨rfl,rfl⟩) | (go_simp; go_at_call 99; (with_reducible refine (HWF.out _ _).mono ?_); rintro e w9 ⟨rfl,rfl⟩) | (go_simp; go_at_call 98; (first | (with_reducible refine HF4.out.1.mono ?_) | (with_reducible refine HF4.out.2.mono ?_)); rintro e w9 ⟨rfl,rfl⟩))
   all_goals
    go_wp2_with fail
    go_meet
    exact fB_
  case rest =>
   obtain ⟨rfl,hbc⟩ := hcut
   have A4 := hQ_ (A3.out.below HS.out hbc)
   have I4 := hQ_ (I3.out.below hbc)
   have X4 := hQ_ (X3.out.below hbc)
   skip
   have f4_I0 := cC4 I4.out
   have f4_X0 := cC7 X4.out
   clear hbc f3_I0 f3_X0
   clear he2
   go_wp2_with fail
   go_ret
   exact Ans.ok A4.out ⟨C3.out.1.more (by omega) (by omega),C3.out.2⟩
theorem lnk_there_0 (hW0 : Wk Rep) (old path : ByteArray) {li lk ll lz lp er : Int} {xd xi xk xl xz xp er2 : Int} {xn : ByteArray} (hr : Rep w v s S D) (hl : Lim s) (h2 : s.rd.length ≤ 18000) (h3 : s.rg.length ≤ 900) (hx : Mxs w S) (hp : old.size ≤ 100000) (hp2 : path.size ≤ 100000) (hL : leadM s.shown old = (li,⟨lk,ll,lz,lp⟩,er)) (hR : findM s.shown path = (⟨xd,xn,xi,⟨xk,xl,xz,xp⟩⟩,er2)) (he : er = 0) (hk2 : lk = 1) (he2 : er2 = 0) (ha : xi ≠ 0) (hb : ll < 1000) :
 Calls Tryz.prog 86 #[v,.string old,.string path] w (Ans Rep v s 11 [] 81 0 S D w) := by
 have A0 := hQ_ (At.start hr)
 have HX := hQ_ hx
 have HS := hQ_ hW0.stays
 have HL := hQ_ hl
 have C0 := hQ_ (aft0 s)
 have HWT := hQ_ when_t
 have HWF := hQ_ when_f
 have HLE := hQ_ (fun w (S D : Nat → Prop) (t : Vs) (hr : Rep w v t S D) (hsm : Sm t s) hl h2 hx => lead_c hW0 old hL hr hsm hl h2 hp hx)
 unfold LeadC at HLE
 dsimp only at HLE
 have HFI := hQ_ (fun w (S D : Nat → Prop) (t : Vs) (hr : Rep w v t S D) (hsm : Sm t s) hl h2 hx => find_c hW0 path hR hr hsm hl h2 hp2 hx)
 unfold FndC at HFI
 have hsbx := find_bd s.shown path
 have hibx := find_ib s.shown path
 rw [hR] at hsbx hibx
 obtain ⟨x0,x1,x2,x3,x4⟩ := hsbx
 dsimp only at x0 x1 x2 x3 x4 HFI hibx
 subst he
 have e1 : (lk != 1) = false := by simpa using hk2
 subst he2
 have d1 : (xi != 0) = true := by simpa using ha
 have d2 : decide ((1000 : Int) ≤ ll) = false := by simp; omega
 clear ha hb hk2 hr hl hp hp2 hL hx hR hW0
 go_enter Tryz.func86,Tryz.ntmps86
 go_wp2_with fail
 refine (HLE.out _ _ _ _ A0.out.rep (Aft.sm0 C0.out.1) (lim_aft C0.out.1 HL.out (by omega) (by omega)) (by have := C0.out.1.rd; omega) (HX.out.at_ A0.out)).mono ?_
 rintro e w1 ⟨s1,S1,D1,rfl,hr,st,hsm,hrd,hrg⟩
 have C1 := hQ_ (aftF C0.out hsm hrd hrg)
 have I1 := hQ_ (Blk.new_ w1 #[.int .u8 lk,.int .u32 ll,.int .u32 lz,.int .u32 lp] 46)
 have hbn := bX_ I1.out
 have A1 := hQ_ ((A0.out.step HS.out hr st).own HS.out hbn (Nat.le_refl w1.heap.size) (by simp))
 have f1_I0 := cC4 I1.out
 clear hr st hsm hrd hrg hbn
 have FE2 : fst_ [0,0] = 0 := rfl
 have HF2 := hQ_ (first_2b (0) (0) (w1.alloc (.cells #[.int .u8 lk,.int .u32 ll,.int .u32 lz,.int .u32 lp] 46)) (w1.heap.size + 1) (by simp))
 rw [FE2] at HF2
 clear FE2
 go_upto_region 2 with (fail)
 go_cut [10] (fun p wx => p = .int .i64 (0) ∧ BL_ (w1.alloc (.cells #[.int .u8 lk,.int .u32 ll,.int .u32 lz,.int .u32 lp] 46)) wx)
 case first =>
  go_wp2_with (first | (go_at_call 99; (with_reducible refine (HWT.out _ _).mono ?_); rintro e w9 ⟨rfl,rfl⟩) | (go_at_call 99; (with_reducible refine (HWF.out _ _).mono ?_); rintro e w9 ⟨rfl,rfl⟩) | (go_at_call 98; (with_reducible refine HF2.out.1.mono ?_); rintro e w9 ⟨rfl,rfl⟩))
  all_goals
   go_meet
   exact fB_
 case rest =>
  obtain ⟨rfl,hbc⟩ := hcut
  have A2 := hQ_ (A1.out.below HS.out hbc)
  have I2 := hQ_ (I1.out.below hbc)
  skip
  have f2_I0 := cC4 I2.out
  clear hbc f1_I0
  go_wp2_with fail
  refine (HFI.out _ _ _ _ A2.out.rep (Aft.sm0 C1.out.1) (lim_aft C1.out.1 HL.out (by omega) (by omega)) (by have := C1.out.1.rd; omega) (HX.out.at_ A2.out).1).mono ?_
  rintro e w3 ⟨s3,S3,D3,rfl,hr,st,hsm,hrd,hrg⟩
  have C3 := hQ_ (aftF C1.out hsm hrd hrg)
  have X3 := hQ_ (Blk.new_ w3 #[.int .u32 xd,.string xn,.int .u32 xi,.int .u8 xk,.int .u32 xl,.int .u32 xz,.int .u32 xp] 150)
  have hbn := bX_ X3.out
  have AQ := A2.out.step HS.out hr st
  have A3 := hQ_ (AQ.own HS.out hbn (Nat.le_refl w3.heap.size) (by simp))
  have I3 := hQ_ ((A2.out.blk HS.out I2.out (.inr rfl) st).below hbn)
  have f3_I0 := cC4 I3.out
  have f3_X0 := cC7 X3.out
  clear hr st hsm hrd hrg hbn AQ f2_I0
  have FE4 : fst_ [0,11,0] = 11 := rfl
  have HF4 := hQ_ (first_3b (0) (11) (0) (w3.alloc (.cells #[.int .u32 xd,.string xn,.int .u32 xi,.int .u8 xk,.int .u32 xl,.int .u32 xz,.int .u32 xp] 150)) (w3.heap.size + 1) (by simp))
  rw [FE4] at HF4
  clear FE4
  go_upto_region 6 with (fail)
  go_cut [12] (fun p wx => p = .int .i64 (11) ∧ BL_ (w3.alloc (.cells #[.int .u32 xd,.string xn,.int .u32 xi,.int .u8 xk,.int .u32 xl,.int .u32 xz,.int .u32 xp] 150)) wx)
  case first =>
   go_region_law (first | (go_simp; go_at_call 99; (with_reducible refine (HWT.out _ _).mono ?_); rintro e w9 ⟨rfl,rfl⟩) | (go_simp; go_at_call 99; (with_reducible refine (HWF.out _ _).mono ?_); rintro e w9 ⟨rfl,rfl⟩) | (go_simp; go_at_call 98; (first | (with_reducible refine HF4.out.1.mono ?_) | (with_reducible refine HF4.out.2.mono ?_)); rintro e w9 ⟨rfl,rfl⟩))
   all_goals
    go_wp2_with fail
    go_meet
    exact fB_
  case rest =>
   obtain ⟨rfl,hbc⟩ := hcut
   have A4 := hQ_ (A3.out.below HS.out hbc)
   have I4 := hQ_ (I3.out.below hbc)
   have X4 := hQ_ (X3.out.below hbc)
   skip
   have f4_I0 := cC4 I4.out
   have f4_X0 := cC7 X4.out
   clear hbc f3_I0 f3_X0
   go_wp2_with fail
   go_ret
   exact Ans.ok A4.out ⟨C3.out.1.more (by omega) (by omega),C3.out.2⟩
theorem lnk_there_1 (hW0 : Wk Rep) (old path : ByteArray) {li lk ll lz lp er : Int} {xd xi xk xl xz xp er2 : Int} {xn : ByteArray} (hr : Rep w v s S D) (hl : Lim s) (h2 : s.rd.length ≤ 18000) (h3 : s.rg.length ≤ 900) (hx : Mxs w S) (hp : old.size ≤ 100000) (hp2 : path.size ≤ 100000) (hL : leadM s.shown old = (li,⟨lk,ll,lz,lp⟩,er)) (hR : findM s.shown path = (⟨xd,xn,xi,⟨xk,xl,xz,xp⟩⟩,er2)) (he : er = 0) (hk2 : lk = 1) (he2 : er2 = 0) (ha : xi ≠ 0) (hb : 1000 ≤ ll) :
 Calls Tryz.prog 86 #[v,.string old,.string path] w (Ans Rep v s 11 [] 81 0 S D w) := by
 have A0 := hQ_ (At.start hr)
 have HX := hQ_ hx
 have HS := hQ_ hW0.stays
 have HL := hQ_ hl
 have C0 := hQ_ (aft0 s)
 have HWT := hQ_ when_t
 have HWF := hQ_ when_f
 have HLE := hQ_ (fun w (S D : Nat → Prop) (t : Vs) (hr : Rep w v t S D) (hsm : Sm t s) hl h2 hx => lead_c hW0 old hL hr hsm hl h2 hp hx)
 unfold LeadC at HLE
 dsimp only at HLE
 have HFI := hQ_ (fun w (S D : Nat → Prop) (t : Vs) (hr : Rep w v t S D) (hsm : Sm t s) hl h2 hx => find_c hW0 path hR hr hsm hl h2 hp2 hx)
 unfold FndC at HFI
 have hsbx := find_bd s.shown path
 have hibx := find_ib s.shown path
 rw [hR] at hsbx hibx
 obtain ⟨x0,x1,x2,x3,x4⟩ := hsbx
 dsimp only at x0 x1 x2 x3 x4 HFI hibx
 subst he
 have e1 : (lk != 1) = false := by simpa using hk2
 subst he2
 have d1 : (xi != 0) = true := by simpa using ha
 have d2 : decide ((1000 : Int) ≤ ll) = true := by simp; omega
 clear ha hb hk2 hr hl hp hp2 hL hx hR hW0
 go_enter Tryz.func86,Tryz.ntmps86
 go_wp2_with fail
 refine (HLE.out _ _ _ _ A0.out.rep (Aft.sm0 C0.out.1) (lim_aft C0.out.1 HL.out (by omega) (by omega)) (by have := C0.out.1.rd; omega) (HX.out.at_ A0.out)).mono ?_
 rintro e w1 ⟨s1,S1,D1,rfl,hr,st,hsm,hrd,hrg⟩
 have C1 := hQ_ (aftF C0.out hsm hrd hrg)
 have I1 := hQ_ (Blk.new_ w1 #[.int .u8 lk,.int .u32 ll,.int .u32 lz,.int .u32 lp] 46)
 have hbn := bX_ I1.out
 have A1 := hQ_ ((A0.out.step HS.out hr st).own HS.out hbn (Nat.le_refl w1.heap.size) (by simp))
 have f1_I0 := cC4 I1.out
 clear hr st hsm hrd hrg hbn
 have FE2 : fst_ [0,0] = 0 := rfl
 have HF2 := hQ_ (first_2b (0) (0) (w1.alloc (.cells #[.int .u8 lk,.int .u32 ll,.int .u32 lz,.int .u32 lp] 46)) (w1.heap.size + 1) (by simp))
 rw [FE2] at HF2
 clear FE2
 go_upto_region 2 with (fail)
 go_cut [10] (fun p wx => p = .int .i64 (0) ∧ BL_ (w1.alloc (.cells #[.int .u8 lk,.int .u32 ll,.int .u32 lz,.int .u32 lp] 46)) wx)
 case first =>
  go_wp2_with (first | (go_at_call 99; (with_reducible refine (HWT.out _ _).mono ?_); rintro e w9 ⟨rfl,rfl⟩) | (go_at_call 99; (with_reducible refine (HWF.out _ _).mono ?_); rintro e w9 ⟨rfl,rfl⟩) | (go_at_call 98; (with_reducible refine HF2.out.1.mono ?_); rintro e w9 ⟨rfl,rfl⟩))
  all_goals
   go_meet
   exact fB_
 case rest =>
  obtain ⟨rfl,hbc⟩ := hcut
  have A2 := hQ_ (A1.out.below HS.out hbc)
  have I2 := hQ_ (I1.out.below hbc)
  skip
  have f2_I0 := cC4 I2.out
  clear hbc f1_I0
  go_wp2_with fail
  refine (HFI.out _ _ _ _ A2.out.rep (Aft.sm0 C1.out.1) (lim_aft C1.out.1 HL.out (by omega) (by omega)) (by have := C1.out.1.rd; omega) (HX.out.at_ A2.out).1).mono ?_
  rintro e w3 ⟨s3,S3,D3,rfl,hr,st,hsm,hrd,hrg⟩
  have C3 := hQ_ (aftF C1.out hsm hrd hrg)
  have X3 := hQ_ (Blk.new_ w3 #[.int .u32 xd,.string xn,.int .u32 xi,.int .u8 xk,.int .u32 xl,.int .u32 xz,.int .u32 xp] 150)
  have hbn := bX_ X3.out
  have AQ := A2.out.step HS.out hr st
  have A3 := hQ_ (AQ.own HS.out hbn (Nat.le_refl w3.heap.size) (by simp))
  have I3 := hQ_ ((A2.out.blk HS.out I2.out (.inr rfl) st).below hbn)
  have f3_I0 := cC4 I3.out
  have f3_X0 := cC7 X3.out
  clear hr st hsm hrd hrg hbn AQ f2_I0
  have FE4 : fst_ [0,11,18] = 11 := rfl
  have HF4 := hQ_ (first_3b (0) (11) (18) (w3.alloc (.cells #[.int .u32 xd,.string xn,.int .u32 xi,.int .u8 xk,.int .u32 xl,.int .u32 xz,.int .u32 xp] 150)) (w3.heap.size + 1) (by simp))
  rw [FE4] at HF4
  clear FE4
  go_upto_region 6 with (fail)
  go_cut [12] (fun p wx => p = .int .i64 (11) ∧ BL_ (w3.alloc (.cells #[.int .u32 xd,.string xn,.int .u32 xi,.int .u8 xk,.int .u32 xl,.int .u32 xz,.int .u32 xp] 150)) wx)
  case first =>
   go_region_law (first | (go_simp; go_at_call 99; (with_reducible refine (HWT.out _ _).mono ?_); rintro e w9 ⟨rfl,rfl⟩) | (go_simp; go_at_call 99; (with_reducible refine (HWF.out _ _).mono ?_); rintro e w9 ⟨rfl,rfl⟩) | (go_simp; go_at_call 98; (first | (with_reducible refine HF4.out.1.mono ?_) | (with_reducible refine HF4.out.2.mono ?_)); rintro e w9 ⟨rfl,rfl⟩))
   all_goals
    go_wp2_with fail
    go_meet
    exact fB_
  case rest =>
   obtain ⟨rfl,hbc⟩ := hcut
   have A4 := hQ_ (A3.out.below HS.out hbc)
   have I4 := hQ_ (I3.out.below hbc)
   have X4 := hQ_ (X3.out.below hbc)
   skip
   have f4_I0 := cC4 I4.out
   have f4_X0 := cC7 X4.out
   clear hbc f3_I0 f3_X0
   go_wp2_with fail
   go_ret
   exact Ans.ok A4.out ⟨C3.out.1.more (by omega) (by omega),C3.out.2⟩
theorem lnk_many (hW0 : Wk Rep) (old path : ByteArray) {li lk ll lz lp er : Int} {xd xi xk xl xz xp er2 : Int} {xn : ByteArray} (hr : Rep w v s S D) (hl : Lim s) (h2 : s.rd.length ≤ 18000) (h3 : s.rg.length ≤ 900) (hx : Mxs w S) (hp : old.size ≤ 100000) (hp2 : path.size ≤ 100000) (hL : leadM s.shown old = (li,⟨lk,ll,lz,lp⟩,er)) (hR : findM s.shown path = (⟨xd,xn,xi,⟨xk,xl,xz,xp⟩⟩,er2)) (he : er = 0) (hk2 : lk = 1) (he2 : er2 = 0) (ha : xi = 0) (hb : 1000 ≤ ll) :
 Calls Tryz.prog 86 #[v,.string old,.string path] w (Ans Rep v s 18 [] 81 0 S D w) := by
 have A0 := hQ_ (At.start hr)
 have HX := hQ_ hx
 have HS := hQ_ hW0.stays
 have HL := hQ_ hl
 have C0 := hQ_ (aft0 s)
 have HWT := hQ_ when_t
 have HWF := hQ_ when_f
 have HLE := hQ_ (fun w (S D : Nat → Prop) (t : Vs) (hr : Rep w v t S D) (hsm : Sm t s) hl h2 hx => lead_c hW0 old hL hr hsm hl h2 hp hx)
 unfold LeadC at HLE
 dsimp only at HLE
 have HFI := hQ_ (fun w (S D : Nat → Prop) (t : Vs) (hr : Rep w v t S D) (hsm : Sm t s) hl h2 hx => find_c hW0 path hR hr hsm hl h2 hp2 hx)
 unfold FndC at HFI
 have hsbx := find_bd s.shown path
 have hibx := find_ib s.shown path
 rw [hR] at hsbx hibx
 obtain ⟨x0,x1,x2,x3,x4⟩ := hsbx
 dsimp only at x0 x1 x2 x3 x4 HFI hibx
 subst he
 have e1 : (lk != 1) = false := by simpa using hk2
 subst he2
 have d1 : (xi != 0) = false := by simpa using ha
 have d2 : decide ((1000 : Int) ≤ ll) = true := by simp; omega
 clear ha hb hk2 hr hl hp hp2 hL hx hR hW0
 go_enter Tryz.func86,Tryz.ntmps86
 go_wp2_with fail
 refine (HLE.out _ _ _ _ A0.out.rep (Aft.sm0 C0.out.1) (lim_aft C0.out.1 HL.out (by omega) (by omega)) (by have := C0.out.1.rd; omega) (HX.out.at_ A0.out)).mono ?_
 rintro e w1 ⟨s1,S1,D1,rfl,hr,st,hsm,hrd,hrg⟩
 have C1 := hQ_ (aftF C0.out hsm hrd hrg)
 have I1 := hQ_ (Blk.new_ w1 #[.int .u8 lk,.int .u32 ll,.int .u32 lz,.int .u32 lp] 46)
 have hbn := bX_ I1.out
 have A1 := hQ_ ((A0.out.step HS.out hr st).own HS.out hbn (Nat.le_refl w1.heap.size) (by simp))
 have f1_I0 := cC4 I1.out
 clear hr st hsm hrd hrg hbn
 have FE2 : fst_ [0,0] = 0 := rfl
 have HF2 := hQ_ (first_2b (0) (0) (w1.alloc (.cells #[.int .u8 lk,.int .u32 ll,.int .u32 lz,.int .u32 lp] 46)) (w1.heap.size + 1) (by simp))
 rw [FE2] at HF2
 clear FE2
 go_upto_region 2 with (fail)
 go_cut [10] (fun p wx => p = .int .i64 (0) ∧ BL_ (w1.alloc (.cells #[.int .u8 lk,.int .u32 ll,.int .u32 lz,.int .u32 lp] 46)) wx)
 case first =>
  go_wp2_with (first | (go_at_call 99; (with_reducible refine (HWT.out _ _).mono ?_); rintro e w9 ⟨rfl,rfl⟩) | (go_at_call 99; (with_reducible refine (HWF.out _ _).mono ?_); rintro e w9 ⟨rfl,rfl⟩) | (go_at_call 98; (with_reducible refine HF2.out.1.mono ?_); rintro e w9 ⟨rfl,rfl⟩))
  all_goals
   go_meet
   exact fB_
 case rest =>
  obtain ⟨rfl,hbc⟩ := hcut
  have A2 := hQ_ (A1.out.below HS.out hbc)
  have I2 := hQ_ (I1.out.below hbc)
  skip
  have f2_I0 := cC4 I2.out
  clear hbc f1_I0
  go_wp2_with fail
  refine (HFI.out _ _ _ _ A2.out.rep (Aft.sm0 C1.out.1) (lim_aft C1.out.1 HL.out (by omega) (by omega)) (by have := C1.out.1.rd; omega) (HX.out.at_ A2.out).1).mono ?_
  rintro e w3 ⟨s3,S3,D3,rfl,hr,st,hsm,hrd,hrg⟩
  have C3 := hQ_ (aftF C1.out hsm hrd hrg)
  have X3 := hQ_ (Blk.new_ w3 #[.int .u32 xd,.string xn,.int .u32 xi,.int .u8 xk,.int .u32 xl,.int .u32 xz,.int .u32 xp] 150)
  have hbn := bX_ X3.out
  have AQ := A2.out.step HS.out hr st
  have A3 := hQ_ (AQ.own HS.out hbn (Nat.le_refl w3.heap.size) (by simp))
  have I3 := hQ_ ((A2.out.blk HS.out I2.out (.inr rfl) st).below hbn)
  have f3_I0 := cC4 I3.out
  have f3_X0 := cC7 X3.out
  clear hr st hsm hrd hrg hbn AQ f2_I0
  have FE4 : fst_ [0,0,18] = 18 := rfl
  have HF4 := hQ_ (first_3b (0) (0) (18) (w3.alloc (.cells #[.int .u32 xd,.string xn,.int .u32 xi,.int .u8 xk,.int .u32 xl,.int .u32 xz,.int .u32 xp] 150)) (w3.heap.size + 1) (by simp))
  rw [FE4] at HF4
  clear FE4
  go_upto_region 6 with (fail)
  go_cut [12] (fun p wx => p = .int .i64 (18) ∧ BL_ (w3.alloc (.cells #[.int .u32 xd,.string xn,.int .u32 xi,.int .u8 xk,.int .u32 xl,.int .u32 xz,.int .u32 xp] 150)) wx)
  case first =>
   go_region_law (first | (go_simp; go_at_call 99; (with_reducible refine (HWT.out _ _).mono ?_); rintro e w9 ⟨rfl,rfl⟩) | (go_simp; go_at_call 99; (with_reducible refine (HWF.out _ _).mono ?_); rintro e w9 ⟨rfl,rfl⟩) | (go_simp; go_at_call 98; (first | (with_reducible refine HF4.out.1.mono ?_) | (with_reducible refine HF4.out.2.mono ?_)); rintro e w9 ⟨rfl,rfl⟩))
   all_goals
    go_wp2_with fail
    go_meet
    exact fB_
  case rest =>
   obtain ⟨rfl,hbc⟩ := hcut
   have A4 := hQ_ (A3.out.below HS.out hbc)
   have I4 := hQ_ (I3.out.below hbc)
   have X4 := hQ_ (X3.out.below hbc)
   skip
   have f4_I0 := cC4 I4.out
   have f4_X0 := cC7 X4.out
   clear hbc f3_I0 f3_X0
   go_wp2_with fail
   go_ret
   exact Ans.ok A4.out ⟨C3.out.1.more (by omega) (by omega),C3.out.2⟩
theorem lnk_do (hW0 : Wk Rep) (old path : ByteArray) {li lk ll lz lp er : Int} {xd xi xk xl xz xp er2 : Int} {xn : ByteArray} (hr : Rep w v s S D) (hl : Lim s) (h2 : s.rd.length ≤ 18000) (h3 : s.rg.length ≤ 900) (hx : Mxs w S) (hp : old.size ≤ 100000) (hp2 : path.size ≤ 100000) (hL : leadM s.shown old = (li,⟨lk,ll,lz,lp⟩,er)) (hR : findM s.shown path = (⟨xd,xn,xi,⟨xk,xl,xz,xp⟩⟩,er2)) (he : er = 0) (hk2 : lk = 1) (he2 : er2 = 0) (ha : xi = 0) (hb : ll < 1000) (i0 : 0 ≤ li) (i1 : li ≤ 4294967295) (hib : InoB lk ll lz lp) :
 Calls Tryz.prog 86 #[v,.string old,.string path] w (Ans Rep v s 0 [hangP xd xn li,saveP li lk (ll + 1) lz lp] 81 0 S D w) := by
 have A0 := hQ_ (At.start hr)
 have HX := hQ_ hx
 have HS := hQ_ hW0.stays
 have HWK := hQ_ hW0
 have HL := hQ_ hl
 have HRO := hQ_ room_calls
 have C0 := hQ_ (aft0 s)
 have HWT := hQ_ when_t
 have HWF := hQ_ when_f
 have HLE := hQ_ (fun w (S D : Nat → Prop) (t : Vs) (hr : Rep w v t S D) (hsm : Sm t s) hl h2 hx => lead_c hW0 old hL hr hsm hl h2 hp hx)
 unfold LeadC at HLE
 dsimp only at HLE
 have HFI := hQ_ (fun w (S D : Nat → Prop) (t : Vs) (hr : Rep w v t S D) (hsm : Sm t s) hl h2 hx => find_c hW0 path hR hr hsm hl h2 hp2 hx)
 unfold FndC at HFI
 have hsbx := find_bd s.shown path
 have hibx := find_ib s.shown path
 rw [hR] at hsbx hibx
 obtain ⟨x0,x1,x2,x3,x4⟩ := hsbx
 dsimp only at x0 x1 x2 x3 x4 HFI hibx
 subst he
 have e1 : (lk != 1) = false := by simpa using hk2
 subst he2
 have d1 : (xi != 0) = false := by simpa using ha
 have d2 : decide ((1000 : Int) ≤ ll) = false := by simp; omega
 obtain ⟨b0,b1,b2,b3,b4,b5,b6,b7⟩ := hib
 clear ha hk2 hr hl hp hp2 hL hx hR hW0
 go_enter Tryz.func86,Tryz.ntmps86
 go_wp2_with fail
 refine (HLE.out _ _ _ _ A0.out.rep (Aft.sm0 C0.out.1) (lim_aft C0.out.1 HL.out (by omega) (by omega)) (by have := C0.out.1.rd; omega) (HX.out.at_ A0.out)).mono ?_
 rintro e w1 ⟨s1,S1,D1,rfl,hr,st,hsm,hrd,hrg⟩
 have C1 := hQ_ (aftF C0.out hsm hrd hrg)
 have I1 := hQ_ (Blk.new_ w1 #[.int .u8 lk,.int .u32 ll,.int .u32 lz,.int .u32 lp] 46)
 have hbn := bX_ I1.out
 have A1 := hQ_ ((A0.out.step HS.out hr st).own HS.out hbn (Nat.le_refl w1.heap.size) (by simp))
 have f1_I0 := cC4 I1.out
 clear hr st hsm hrd hrg hbn
 have FE2 : fst_ [0,0] = 0 := rfl
 have HF2 := hQ_ (first_2b (0) (0) (w1.alloc (.cells #[.int .u8 lk,.int .u32 ll,.int .u32 lz,.int .u32 lp] 46)) (w1.heap.size + 1) (by simp))
 rw [FE2] at HF2
 clear FE2
 go_upto_region 2 with (fail)
 go_cut [10] (fun p wx => p = .int .i64 (0) ∧ BL_ (w1.alloc (.cells #[.int .u8 lk,.int .u32 ll,.int .u32 lz,.int .u32 lp] 46)) wx)
 case first =>
  go_wp2_with (first | (go_at_call 99; (with_reducible refine (HWT.out _ _).mono ?_); rintro e w9 ⟨rfl,rfl⟩) | (go_at_call 99; (with_reducible refine (HWF.out _ _).mono ?_); rintro e w9 ⟨rfl,rfl⟩) | (go_at_call 98; (with_reducible refine HF2.out.1.mono ?_); rintro e w9 ⟨rfl,rfl⟩))
  all_goals
   go_meet
   exact fB_
 case rest =>
  obtain ⟨rfl,hbc⟩ := hcut
  have A2 := hQ_ (A1.out.below HS.out hbc)
  have I2 := hQ_ (I1.out.below hbc)
  skip
  have f2_I0 := cC4 I2.out
  clear hbc f1_I0
  go_wp2_with fail
  refine (HFI.out _ _ _ _ A2.out.rep (Aft.sm0 C1.out.1) (lim_aft C1.out.1 HL.out (by omega) (by omega)) (by have := C1.out.1.rd; omega) (HX.out.at_ A2.out).1).mono ?_
  rintro e w3 ⟨s3,S3,D3,rfl,hr,st,hsm,hrd,hrg⟩
  have C3 := hQ_ (aftF C1.out hsm hrd hrg)
  have X3 := hQ_ (Blk.new_ w3 #[.int .u32 xd,.string xn,.int .u32 xi,.int .u8 xk,.int .u32 xl,.int .u32 xz,.int .u32 xp] 150)
  have hbn := bX_ X3.out
  have AQ := A2.out.step HS.out hr st
  have A3 := hQ_ (AQ.own HS.out hbn (Nat.le_refl w3.heap.size) (by simp))
  have I3 := hQ_ ((A2.out.blk HS.out I2.out (.inr rfl) st).below hbn)
  have f3_I0 := cC4 I3.out
  have f3_X0 := cC7 X3.out
  clear hr st hsm hrd hrg hbn AQ f2_I0
  have FE4 : fst_ [0,0,0] = 0 := rfl
  have HF4 := hQ_ (first_3b (0) (0) (0) (w3.alloc (.cells #[.int .u32 xd,.string xn,.int .u32 xi,.int .u8 xk,.int .u32 xl,.int .u32 xz,.int .u32 xp] 150)) (w3.heap.size + 1) (by simp))
  rw [FE4] at HF4
  clear FE4
  go_upto_region 6 with (fail)
  go_cut [12] (fun p wx => p = .int .i64 (0) ∧ BL_ (w3.alloc (.cells #[.int .u32 xd,.string xn,.int .u32 xi,.int .u8 xk,.int .u32 xl,.int .u32 xz,.int .u32 xp] 150)) wx)
  case first =>
   go_region_law (first | (go_simp; go_at_call 99; (with_reducible refine (HWT.out _ _).mono ?_); rintro e w9 ⟨rfl,rfl⟩) | (go_simp; go_at_call 99; (with_reducible refine (HWF.out _ _).mono ?_); rintro e w9 ⟨rfl,rfl⟩) | (go_simp; go_at_call 98; (first | (with_reducible refine HF4.out.1.mono ?_) | (with_reducible refine HF4.out.2.mono ?_)); rintro e w9 ⟨rfl,rfl⟩))
   all_goals
    go_wp2_with fail
    go_meet
    exact fB_
  case rest =>
   obtain ⟨rfl,hbc⟩ := hcut
   have A4 := hQ_ (A3.out.below HS.out hbc)
   have I4 := hQ_ (I3.out.below hbc)
   have X4 := hQ_ (X3.out.below hbc)
   skip
   have f4_I0 := cC4 I4.out
   have f4_X0 := cC7 X4.out
   clear hbc f3_I0 f3_X0
   have y1 : wc.frozen? ⟨w1.heap.size,1,none⟩ = false := I4.out.frozen 1
   have AZ := hQ_ (A4.out.set HS.out I4.out (.inl (.inr rfl)) (by decide) 1 (.int .u32 (ll + 1)))
   have hIZ := I4.out.set_ 1 (.int .u32 (ll + 1))
   have IZ := hQ_ (show Blk (wc.setCell ⟨w1.heap.size,1,none⟩ (.int .u32 (ll + 1))) w1.heap.size #[.int .u8 lk,.int .u32 (ll + 1),.int .u32 lz,.int .u32 lp] 46 from hIZ)
   clear hIZ
   have XZ := hQ_ (X4.out.far (p := ⟨w1.heap.size,1,none⟩) (blk_ne X4.out I4.out (by decide)) (.int .u32 (ll + 1)))
   have f99_I0 := cC4 IZ.out
   have f99_X0 := cC7 XZ.out
   go_wp2_with fail
   refine (hang_w HWK.out xd xn li AZ.out.rep (lim_aft C3.out.1 HL.out (by omega) (by omega)) (by omega) (by omega) (by omega) (by omega) (by omega)).mono ?_
   intro e w5 hh
   rcases Wrote.split hh with ⟨s5,S5,D5,rfl,ho,hr,st,ha⟩ | ⟨s5,S5,D5,rfl,ho,hr,st,ha⟩
   ·obtain ⟨x1,x2⟩ := C3.out.1.app C3.out.2 ha
    have C5 := hQ_ (And.intro x1 (x2.trans ho))
    clear x1 x2 ho ha
    have A5 := hQ_ (AZ.out.step HS.out hr st)
    have I5 := hQ_ (AZ.out.blk HS.out IZ.out (.inl (.inr rfl)) st)
    have X5 := hQ_ (AZ.out.blk HS.out XZ.out (.inr rfl) st)
    obtain ⟨f5_I0,f5_I1,f5_I2,f5_I3⟩ := cC4 I5.out
    obtain ⟨f5_X0,f5_X1,f5_X2,f5_X3,f5_X4,f5_X5,f5_X6⟩ := cC7 X5.out
    clear st hr y1 f4_I0 f4_X0 f99_I0 f99_X0
    go_wp2_with fail
    refine (save_w HWK.out li lk (ll + 1) lz lp A5.out.rep (lim_aft C5.out.1 HL.out (by omega) (by omega)) (by omega) (by omega) ⟨by omega,by omega,by omega,by omega,by omega,by omega,by omega,by omega⟩).mono ?_
    intro e w6 hh
    rcases Wrote.split hh with ⟨s6,S6,D6,rfl,ho,hr,st,ha⟩ | ⟨s6,S6,D6,rfl,ho,hr,st,ha⟩
    ·obtain ⟨x1,x2⟩ := C5.out.1.app C5.out.2 ha
     have C6 := hQ_ (And.intro x1 (x2.trans ho))
     clear x1 x2 ho ha
     have A6 := hQ_ (A5.out.step HS.out hr st)
     have I6 := hQ_ (A5.out.blk HS.out I5.out (.inl (.inr rfl)) st)
     have X6 := hQ_ (A5.out.blk HS.out X5.out (.inr rfl) st)
     obtain ⟨f6_I0,f6_I1,f6_I2,f6_I3⟩ := cC4 I6.out
     obtain ⟨f6_X0,f6_X1,f6_X2,f6_X3,f6_X4,f6_X5,f6_X6⟩ := cC7 X6.out
     clear st hr f5_I0 f5_I1 f5_I2 f5_I3 f5_X0 f5_X1 f5_X2 f5_X3 f5_X4 f5_X5 f5_X6
     go_wp2_with (go_at_call 104; refine (HRO.out _ _).mono ?_; rintro e w9 ⟨rfl,rfl⟩)
     go_ret
     exact Ans.ok A6.out ⟨C6.out.1.more (by omega) (by omega),C6.out.2⟩
    ·obtain ⟨x1,x2⟩ := C5.out.1.app C5.out.2 ha
     have C6 := hQ_ (And.intro x1 (x2.trans ho))
     clear x1 x2 ho ha
     have A6 := hQ_ (A5.out.step HS.out hr st)
     have I6 := hQ_ (A5.out.blk HS.out I5.out (.inl (.inr rfl)) st)
     have X6 := hQ_ (A5.out.blk HS.out X5.out (.inr rfl) st)
     obtain ⟨f6_I0,f6_I1,f6_I2,f6_I3⟩ := cC4 I6.out
     obtain ⟨f6_X0,f6_X1,f6_X2,f6_X3,f6_X4,f6_X5,f6_X6⟩ := cC7 X6.out
     clear st hr f5_I0 f5_I1 f5_I2 f5_I3 f5_X0 f5_X1 f5_X2 f5_X3 f5_X4 f5_X5 f5_X6
     go_wp2_with (go_at_call 104; refine (HRO.out _ _).mono ?_; rintro e w9 ⟨rfl,rfl⟩)
     go_ret
     exact Ans.full A6.out ⟨(Aft.stop (qs := []) C6.out.1 C6.out.2).1.more (by omega) (by omega),(Aft.stop (qs := []) C6.out.1 C6.out.2).2⟩
   ·obtain ⟨x1,x2⟩ := C3.out.1.app C3.out.2 ha
    have C5 := hQ_ (And.intro x1 (x2.trans ho))
    clear x1 x2 ho ha
    have A5 := hQ_ (AZ.out.step HS.out hr st)
    have I5 := hQ_ (AZ.out.blk HS.out IZ.out (.inl (.inr rfl)) st)
    have X5 := hQ_ (AZ.out.blk HS.out XZ.out (.inr rfl) st)
    obtain ⟨f5_I0,f5_I1,f5_I2,f5_I3⟩ := cC4 I5.out
    obtain ⟨f5_X0,f5_X1,f5_X2,f5_X3,f5_X4,f5_X5,f5_X6⟩ := cC7 X5.out
    clear st hr y1 f4_I0 f4_X0 f99_I0 f99_X0
    go_wp2_with (go_at_call 104; refine (HRO.out _ _).mono ?_; rintro e w9 ⟨rfl,rfl⟩)
    go_ret
    exact Ans.full A5.out ⟨(Aft.stop (qs := [saveP li lk (ll + 1) lz lp]) C5.out.1 C5.out.2).1.more (by omega) (by omega),(Aft.stop (qs := [saveP li lk (ll + 1) lz lp]) C5.out.1 C5.out.2).2⟩
theorem lnk_calls (hW0 : Wk Rep) (old path : ByteArray) (hr : Rep w v s S D) (hl : Lim s) (h2 : s.rd.length ≤ 18000) (h3 : s.rg.length ≤ 900) (hx : Mxs w S) (hp : old.size ≤ 100000) (hp2 : path.size ≤ 100000) :
 Calls Tryz.prog 86 #[v,.string old,.string path] w (Ans Rep v s (lnkV s.shown old path).1 (lnkV s.shown old path).2 81 0 S D w) := by
 obtain ⟨⟨li,⟨lk,ll,lz,lp⟩,er⟩,hL⟩ : ∃ R,leadM s.shown old = R := ⟨_,rfl⟩
 obtain ⟨⟨⟨xd,xn,xi,⟨xk,xl,xz,xp⟩⟩,er2⟩,hR⟩ : ∃ R,findM s.shown path = R := ⟨_,rfl⟩
 have h := hL
 unfold leadM at h
 unfold lnkV
 have hsb := find_bd s.shown old
 have hib := find_ib s.shown old
 rw [hR]
 by_cases he : (findM s.shown old).2 = 0
 ·rw [if_neg (fun h => h he)] at h ⊢
  by_cases h0 : (findM s.shown old).1.ino = 0
  ·rw [if_pos h0] at h ⊢
   injection h with h1 h
   injection h with h5 h6
   injection h5 with h5
   subst h6
   exact lnk_err hW0 old path hr hl h2 h3 hx hp hp2 hL (by decide) h5.symm
  ·rw [if_neg h0] at h ⊢
   injection h with h1 h
   injection h with h5 h6
   rw [h5] at hib
   rw [h1,h5]
   dsimp only at hib ⊢
   have h6 := h6.symm
   by_cases hk2 : lk = 1
   ·rw [if_neg (fun h => h hk2)]
    by_cases he2 : er2 = 0
    ·rw [if_neg (fun h => h he2)]
     by_cases ha : xi = 0
     ·rw [if_neg (fun h => h ha)]
      by_cases hb : 1000 ≤ ll
      ·rw [if_pos hb]
       exact lnk_many hW0 old path hr hl h2 h3 hx hp hp2 hL hR h6 hk2 he2 ha hb
      ·rw [if_neg hb]
       exact lnk_do hW0 old path hr hl h2 h3 hx hp hp2 hL hR h6 hk2 he2 ha (by omega) (by rw [← h1]; exact hsb.i0) (by rw [← h1]; exact hsb.i1) hib
     ·rw [if_pos ha]
      by_cases hb : 1000 ≤ ll
      ·exact lnk_there_1 hW0 old path hr hl h2 h3 hx hp hp2 hL hR h6 hk2 he2 ha hb
      ·exact lnk_there_0 hW0 old path hr hl h2 h3 hx hp hp2 hL hR h6 hk2 he2 ha (by omega)
    ·rw [if_pos he2]
     by_cases ha : xi = 0
     ·by_cases hb : 1000 ≤ ll
      ·exact lnk_err2_01 hW0 old path hr hl h2 h3 hx hp hp2 hL hR h6 hk2 he2 ha hb
      ·exact lnk_err2_00 hW0 old path hr hl h2 h3 hx hp hp2 hL hR h6 hk2 he2 ha (by omega)
     ·by_cases hb : 1000 ≤ ll
      ·exact lnk_err2_11 hW0 old path hr hl h2 h3 hx hp hp2 hL hR h6 hk2 he2 ha hb
      ·exact lnk_err2_10 hW0 old path hr hl h2 h3 hx hp hp2 hL hR h6 hk2 he2 ha (by omega)
   ·rw [if_pos hk2]
    exact lnk_dir hW0 old path hr hl h2 h3 hx hp hp2 hL h6 hk2
 ·rw [if_pos he] at h ⊢
  injection h with h1 h
  injection h with h5 h6
  injection h5 with h5
  rw [h6] at he ⊢
  exact lnk_err hW0 old path hr hl h2 h3 hx hp hp2 hL he h5.symm
end Go.Proofs.YtogdjbhjgbnicaaGreatDoor.DirsKg
namespace Go.Proofs.YtogdjbhjgbnicaaGreatDoor.OpsJ
open Go.RowKit
open Byte KeysM TreeM ViewM ViewKm NodeM NodeG NamesM NamesL WalkM WalkF WalkKm DirsV Lst Chg TreeL ViewL WalkL WalkV Vat DirsK DirsKa DirsKc Ho OpsR OpsD OpsE OpsI
open Own hiding lower
variable {Rep : RepT}
def AnsO (Rep : RepT) (v : Value) (s : Vs) (er : Int) (ps : List Wrt) (k m : Nat) (S D : Nat → Prop) (w : World) (e : Ending) (w' : World) : Prop := ∃ s' S' D',e = .returned (onlyV (if (goW s ps).2 = true then er else 21)) ∧ Rep w' v s' S' D' ∧ Stp S D S' D' w w' ∧ Aft s s' ps k m
theorem kept_row {w w' : World} {g : Nat} {cs : Array Value} {T : TypeId} (h : Blk w g cs T) (hg : w.grownBy w' (some g)) (hne : 76 ≠ T ∧ 125 ≠ T) : Kept w w' := fun b cs' U fr hU hb => by
 have hlt : b < w.heap.size := (Array.getElem?_eq_some_iff.1 hb).1
 by_cases e : b = g
 ·subst e
  unfold Blk at h
  rw [h] at hb
  injection hb with hb
  injection hb with _ hT _
  subst hT
  rcases hU with h1 | h1
  ·exact absurd h1.symm hne.1
  ·exact absurd h1.symm hne.2
 ·exact (hg.block b hlt (fun x => e (Option.some.inj x))).trans hb
theorem fin_view (hV : Stays Rep) {w W3 w3 w4 w5 : World} {v : Value} {s' : Vs} {S D S' D' : Nat → Prop} {g : Nat} {old : Array Value} (hlt : ∀ b,D b → b < w.heap.size) (hsub : ∀ b,S b → D b) (h0 : Below w.heap.size w W3) (hr : Rep w3 v s' S' D') (st : Stp S D S' D' W3 w3) (h4 : Below w3.heap.size w3 w4) (hb : Blk w4 g old 48) (hg5 : w4.grownBy w5 (some g)) (h1 : w.heap.size ≤ g) (h2 : g < W3.heap.size) : Rep w5 v s' S' D' ∧ Stp S D S' D' w w5 := by
 have hk : Kept w4 w5 := kept_row hb hg5 (by decide)
 have hc : Chg (fun k => k = g) w4 w5 := Chg.of_grown hg5 (fun k hk => .inl (by injection hk with hk; exact hk.symm))
 have hnd : ∀ b,b = g → ¬ D' b := fun b e hd => by
  subst e
  rcases st.dep b hd with h | h
  ·have := hlt b h
   omega
  ·omega
 refine ⟨hV.stay (hV.below hr h4) hc hnd hk,⟨?_,?_,?_,?_⟩⟩
 ·have c1 : Chg S w w3 := (Chg.of_below h0 : Chg S w W3).trans st.chg
  have c2 : Chg S w w4 := c1.trans (Chg.of_below h4)
  exact c2.then_ hc (fun i hi e => by have e' : i = g := e; omega)
 ·exact ViewD.Kept.trans (Kept.of_below h0) (ViewD.Kept.trans st.kept (ViewD.Kept.trans (Kept.of_below h4) hk))
 ·intro b hb
  rcases st.own b hb with h | h
  ·exact .inl h
  ·exact .inr (Nat.le_trans h0.size h)
 ·intro b hb
  rcases st.dep b hb with h | h
  ·exact .inl h
  ·exact .inr (Nat.le_trans h0.size h)
theorem find_cells {w W q0 : World} {S D : Nat → Prop} {g : Nat} {v : Value} {hs : List Int} {cs : Array Value} {T : TypeId} (hd : Dsk w g v hs) (hng : ¬ D g) (hlt : ∀ b,D b → b < w.heap.size) (hsub : ∀ b,S b → D b) (hb : Below w.heap.size w W) (hO : Blk W w.heap.size cs T) (hq : Chg (fun k => S k ∨ k = w.heap.size + 1) W q0) : q0.cell? ⟨g,0,none⟩ = some v ∧ ∀ i,q0.cell? ⟨w.heap.size,i,none⟩ = cs[i]? := by
 have h1 : q0.heap[g]? = W.heap[g]? := hq.block g (hd.below hb).blk.lt (fun h => by
  rcases h with h | h
  ·exact hng (hsub g h)
  ·have := hd.blk.lt
   omega)
 have h2 : q0.heap[w.heap.size]? = W.heap[w.heap.size]? := hq.block w.heap.size hO.lt (fun h => by
  rcases h with h | h
  ·have := hlt _ (hsub _ h)
   omega
  ·omega)
 refine ⟨?_,fun i => ?_⟩
 ·have hb2 : Dsk q0 g v hs := ⟨h1.trans (hd.below hb).blk,hd.len,hd.bd⟩
  exact hb2.view
 ·have hb2 : Blk q0 w.heap.size cs T := h2.trans hO
  exact hb2.cell i
theorem create_deed (hW0 : Wk Rep) {w : World} {g : Nat} {v : Value} {hs : List Int} {s : Vs} {S D : Nat → Prop} (o : Op20) (ino : Int) (hd : Dsk w g v hs) (hr : Rep w v s S D) (hng : ¬ D g) (hl : Lim s) (h2 : s.rd.length ≤ 18000) (h3 : s.rg.length ≤ 900) (hx : Mxs w S) (hp : o.path.size ≤ 100000) (i0 : 0 ≤ ino) (i1 : ino ≤ 4294967295) :
 Calls Tryz.prog 45 #[.pointer (some ⟨g,0,none⟩),o.val,.int .u32 ino] w (AnsO Rep v s (makV s.shown o.path 1 ino).1 (makV s.shown o.path 1 ino).2 41 0 S D w) := by
 obtain ⟨kind,path,other,hn,frm,n,da,dn,dc⟩ := o
 dsimp only [Op20.val,Op20.cells] at *
 have hlt := hW0.stays.lt hr
 have hsub := hW0.stays.sub hr
 obtain ⟨W,hW⟩ : ∃ W,(w.alloc (.cells #[.int .u8 kind,.string path,.string other,.int .i64 hn,.int .i64 frm,.int .i64 n,.slice da dn dc] 41)).alloc (.cells zres 48) = W := ⟨_,rfl⟩
 have hs1 : (w.alloc (.cells #[.int .u8 kind,.string path,.string other,.int .i64 hn,.int .i64 frm,.int .i64 n,.slice da dn dc] 41)).heap.size = w.heap.size + 1 := by simp
 have HB : Hid (Blk W (w.heap.size + 1) zres 48) := hQ_ (by rw [← hW,← hs1]; exact Blk.new_ _ zres _)
 have hO : Blk W w.heap.size #[.int .u8 kind,.string path,.string other,.int .i64 hn,.int .i64 frm,.int .i64 n,.slice da dn dc] 41 := by rw [← hW]; exact (Blk.new_ _ _ _).alloc _
 have hbW : Below w.heap.size w W := by rw [← hW]; exact (bW_).alloc (by rw [hs1]; omega) _
 have hsW : W.heap.size = w.heap.size + 2 := by rw [← hW]; simp
 obtain ⟨er,her⟩ : ∃ er,(makV s.shown path 1 ino).1 = er := ⟨_,rfl⟩
 obtain ⟨ps,hps⟩ : ∃ ps,(makV s.shown path 1 ino).2 = ps := ⟨_,rfl⟩
 have hbd : Below w.heap.size w W.drew := hbW.drew
 have hc := DirsKe.make_calls hW0 path 1 ino (hW0.stays.below hr hbd) hl h2 h3 (hx.below hbd) hp (by omega) (by omega) i0 i1
 rw [her,hps] at hc
 rw [her,hps]
 obtain ⟨J,hJ⟩ : ∃ J : Int,(if (goW s ps).2 = true then er else 21) = J := ⟨_,rfl⟩
 unfold Ans at hc
 simp only [hJ] at hc
 have HC := hQ_ hc
 have RD : Hid (∀ q0,Chg (fun k => S k ∨ k = w.heap.size + 1) W q0 → Chg (fun k => S k ∨ k = w.heap.size + 1) W q0 ∧ q0.cell? ⟨g,0,none⟩ = some v ∧ q0.cell? ⟨w.heap.size,1,none⟩ = some (.string path) ∧ q0.cell? ⟨w.heap.size,2,none⟩ = some (.string other)) := hQ_ (fun q0 hq => by
  obtain ⟨c1,c2⟩ := find_cells hd hng hlt hsub hbW hO hq
  exact ⟨hq,c1,c2 1,c2 2⟩)
 have HLT := hQ_ hlt
 have HSUB := hQ_ hsub
 have HW := hQ_ hW
 have HBD := hQ_ hbd
 have HJ := hQ_ hJ
 have HSW := hQ_ hsW
 have HVS := hQ_ hW0.stays
 clear hW hs1 hO hbW hsW her hps hbd hc hJ hlt hsub hd hr hng hl h2 h3 hx hW0 hp i0 i1
 go_enter Tryz.func45,Tryz.ntmps45
 go_wp2_with fail
 rw [HW.out]
 go_wp2_with fail
 refine wp_region_held_drew (S := fun q0 => Chg (fun k => S k ∨ k = w.heap.size + 1) W q0 ∧ q0.cell? ⟨g,0,none⟩ = some v ∧ q0.cell? ⟨w.heap.size,1,none⟩ = some (.string path) ∧ q0.cell? ⟨w.heap.size,2,none⟩ = some (.string other)) (by kernel_rfl) (RD.out _ (Chg.refl _ _).drew) (fun hHeld => ?_)
 refine hw_ 0 (some 7) ?_
 refine hw_ 1 (some 8) ?_
 refine hw_ 2 (some 9) ?_
 refine hw_ 3 (some 10) ?_
 refine hw_ 4 (some 11) ?_
 refine hw_ 5 (some 12) ?_
 refine hw_ 6 (some 13) ?_
 refine ho_step 7 (some 14) rfl rfl (by kernel_rfl) (by kernel_rfl) (fun K hK => ?_)
 go_simp
 go_at_call 78
 refine HC.out.mono ?_
 rintro e w3 ⟨s',S',D',rfl,hr3,st3,aft3⟩
 have hq3 : Chg (fun k => S k ∨ k = w.heap.size + 1) W w3 := (Chg.refl _ _).drew.trans (st3.chg.mono (fun _ _ h => .inl h))
 have hb3 : Blk w3 (w.heap.size + 1) zres 48 := (st3.chg.block _ HB.out.lt (fun h => by have := HLT.out _ (HSUB.out _ h); omega)).trans HB.out
 try go_wp2_with fail
 refine hK.out _ _ (RD.out _ hq3) (fun hHeld2 => ?_)
 clear hHeld
 have hHeld := hHeld2
 clear hHeld2
 clear hK K
 try simp only [pZ_]
 refine ho_step 8 (some 15) rfl rfl (by kernel_rfl) (by kernel_rfl) (fun K hK => ?_)
 go_simp
 go_at_call 26
 refine (only_calls J _).mono ?_
 rintro e w4 ⟨rfl,hb4⟩
 have hq4 := hq3.trans (Chg.of_below hb4)
 try go_wp2_with fail
 refine hK.out _ _ (RD.out _ hq4) (fun hHeld2 => ?_)
 clear hHeld
 have hHeld := hHeld2
 clear hHeld2
 clear hK K
 try simp only [pZ_]
 refine Hor.ho_row 9 48 _ _ (w.heap.size + 1) #[.int .i64 J,.int .i64 0,.slice none 0 0,.slice none 0 0,.int .u8 0,.int .u32 0,.int .u32 0,.int .u32 0] 48 _ rfl rfl rfl (by kernel_rfl) (by kernel_rfl) rfl rfl (hb3.below hb4) info_res rfl (by simp [Value.oneCell']) (fun w5 hk5 hg5 => RD.out _ (hq4.trans (Chg.of_grown hg5 (fun k hk => .inl (.inr (by injection hk with hk; exact hk.symm)))))) (fun w5 hk5 hg5 => ?_)
 refine wpAnyH_done (by kernel_rfl) ?_ _
 have hz := fin_view HVS.out HLT.out HSUB.out HBD.out hr3 st3 hb4 (hb3.below hb4) hg5 (Nat.le_succ _) (by show w.heap.size + 1 < W.heap.size; rw [HSW.out]; omega)
 have HZ := hQ_ hz
 have HK5 := hQ_ hk5
 have HA3 := hQ_ aft3
 clear hz hr3 st3 hb4 hg5 hk5 aft3 hq3 hq4 hb3 RD
 go_wp2_with fail
 exact bodyPost_ret (v := onlyV J) (results_cell_row rfl _ _ (w.heap.size + 1) 48 _ (0,0) _ rfl HK5.out Tryz.underlying48 rfl info_res) rfl ⟨s',S',D',by rw [HJ.out],HZ.out.1,HZ.out.2,HA3.out⟩
theorem mkdir_deed (hW0 : Wk Rep) {w : World} {g : Nat} {v : Value} {hs : List Int} {s : Vs} {S D : Nat → Prop} (o : Op20) (ino : Int) (hd : Dsk w g v hs) (hr : Rep w v s S D) (hng : ¬ D g) (hl : Lim s) (h2 : s.rd.length ≤ 18000) (h3 : s.rg.length ≤ 900) (hx : Mxs w S) (hp : o.path.size ≤ 100000) (i0 : 0 ≤ ino) (i1 : ino ≤ 4294967295) :
 Calls Tryz.prog 46 #[.pointer (some ⟨g,0,none⟩),o.val,.int .u32 ino] w (AnsO Rep v s (makV s.shown o.path 2 ino).1 (makV s.shown o.path 2 ino).2 41 0 S D w) := by
 obtain ⟨kind,path,other,hn,frm,n,da,dn,dc⟩ := o
 dsimp only [Op20.val,Op20.cells] at *
 have hlt := hW0.stays.lt hr
 have hsub := hW0.stays.sub hr
 obtain ⟨W,hW⟩ : ∃ W,(w.alloc (.cells #[.int .u8 kind,.string path,.string other,.int .i64 hn,.int .i64 frm,.int .i64 n,.slice da dn dc] 41)).alloc (.cells zres 48) = W := ⟨_,rfl⟩
 have hs1 : (w.alloc (.cells #[.int .u8 kind,.string path,.string other,.int .i64 hn,.int .i64 frm,.int .i64 n,.slice da dn dc] 41)).heap.size = w.heap.size + 1 := by simp
 have HB : Hid (Blk W (w.heap.size + 1) zres 48) := hQ_ (by rw [← hW,← hs1]; exact Blk.new_ _ zres _)
 have hO : Blk W w.heap.size #[.int .u8 kind,.string path,.string other,.int .i64 hn,.int .i64 frm,.int .i64 n,.slice da dn dc] 41 := by rw [← hW]; exact (Blk.new_ _ _ _).alloc _
 have hbW : Below w.heap.size w W := by rw [← hW]; exact (bW_).alloc (by rw [hs1]; omega) _
 have hsW : W.heap.size = w.heap.size + 2 := by rw [← hW]; simp
 obtain ⟨er,her⟩ : ∃ er,(makV s.shown path 2 ino).1 = er := ⟨_,rfl⟩
 obtain ⟨ps,hps⟩ : ∃ ps,(makV s.shown path 2 ino).2 = ps := ⟨_,rfl⟩
 have hbd : Below w.heap.size w W.drew := hbW.drew
 have hc := DirsKe.make_calls hW0 path 2 ino (hW0.stays.below hr hbd) hl h2 h3 (hx.below hbd) hp (by omega) (by omega) i0 i1
 rw [her,hps] at hc
 rw [her,hps]
 obtain ⟨J,hJ⟩ : ∃ J : Int,(if (goW s ps).2 = true then er else 21) = J := ⟨_,rfl⟩
 unfold Ans at hc
 simp only [hJ] at hc
 have HC := hQ_ hc
 have RD : Hid (∀ q0,Chg (fun k => S k ∨ k = w.heap.size + 1) W q0 → Chg (fun k => S k ∨ k = w.heap.size + 1) W q0 ∧ q0.cell? ⟨g,0,none⟩ = some v ∧ q0.cell? ⟨w.heap.size,1,none⟩ = some (.string path) ∧ q0.cell? ⟨w.heap.size,2,none⟩ = some (.string other)) := hQ_ (fun q0 hq => by
  obtain ⟨c1,c2⟩ := find_cells hd hng hlt hsub hbW hO hq
  exact ⟨hq,c1,c2 1,c2 2⟩)
 have HLT := hQ_ hlt
 have HSUB := hQ_ hsub
 have HW := hQ_ hW
 have HBD := hQ_ hbd
 have HJ := hQ_ hJ
 have HSW := hQ_ hsW
 have HVS := hQ_ hW0.stays
 clear hW hs1 hO hbW hsW her hps hbd hc hJ hlt hsub hd hr hng hl h2 h3 hx hW0 hp i0 i1
 go_enter Tryz.func46,Tryz.ntmps46
 go_wp2_with fail
 rw [HW.out]
 go_wp2_with fail
 refine wp_region_held_drew (S := fun q0 => Chg (fun k => S k ∨ k = w.heap.size + 1) W q0 ∧ q0.cell? ⟨g,0,none⟩ = some v ∧ q0.cell? ⟨w.heap.size,1,none⟩ = some (.string path) ∧ q0.cell? ⟨w.heap.size,2,none⟩ = some (.string other)) (by kernel_rfl) (RD.out _ (Chg.refl _ _).drew) (fun hHeld => ?_)
 refine hw_ 0 (some 7) ?_
 refine hw_ 1 (some 8) ?_
 refine hw_ 2 (some 9) ?_
 refine hw_ 3 (some 10) ?_
 refine hw_ 4 (some 11) ?_
 refine hw_ 5 (some 12) ?_
 refine hw_ 6 (some 13) ?_
 refine ho_step 7 (some 14) rfl rfl (by kernel_rfl) (by kernel_rfl) (fun K hK => ?_)
 go_simp
 go_at_call 78
 refine HC.out.mono ?_
 rintro e w3 ⟨s',S',D',rfl,hr3,st3,aft3⟩
 have hq3 : Chg (fun k => S k ∨ k = w.heap.size + 1) W w3 := (Chg.refl _ _).drew.trans (st3.chg.mono (fun _ _ h => .inl h))
 have hb3 : Blk w3 (w.heap.size + 1) zres 48 := (st3.chg.block _ HB.out.lt (fun h => by have := HLT.out _ (HSUB.out _ h); omega)).trans HB.out
 try go_wp2_with fail
 refine hK.out _ _ (RD.out _ hq3) (fun hHeld2 => ?_)
 clear hHeld
 have hHeld := hHeld2
 clear hHeld2
 clear hK K
 try simp only [pZ_]
 refine ho_step 8 (some 15) rfl rfl (by kernel_rfl) (by kernel_rfl) (fun K hK => ?_)
 go_simp
 go_at_call 26
 refine (only_calls J _).mono ?_
 rintro e w4 ⟨rfl,hb4⟩
 have hq4 := hq3.trans (Chg.of_below hb4)
 try go_wp2_with fail
 refine hK.out _ _ (RD.out _ hq4) (fun hHeld2 => ?_)
 clear hHeld
 have hHeld := hHeld2
 clear hHeld2
 clear hK K
 try simp only [pZ_]
 refine Hor.ho_row 9 48 _ _ (w.heap.size + 1) #[.int .i64 J,.int .i64 0,.slice none 0 0,.slice none 0 0,.int .u8 0,.int .u32 0,.int .u32 0,.int .u32 0] 48 _ rfl rfl rfl (by kernel_rfl) (by kernel_rfl) rfl rfl (hb3.below hb4) info_res rfl (by simp [Value.oneCell']) (fun w5 hk5 hg5 => RD.out _ (hq4.trans (Chg.of_grown hg5 (fun k hk => .inl (.inr (by injection hk with hk; exact hk.symm)))))) (fun w5 hk5 hg5 => ?_)
 refine wpAnyH_done (by kernel_rfl) ?_ _
 have hz := fin_view HVS.out HLT.out HSUB.out HBD.out hr3 st3 hb4 (hb3.below hb4) hg5 (Nat.le_succ _) (by show w.heap.size + 1 < W.heap.size; rw [HSW.out]; omega)
 have HZ := hQ_ hz
 have HK5 := hQ_ hk5
 have HA3 := hQ_ aft3
 clear hz hr3 st3 hb4 hg5 hk5 aft3 hq3 hq4 hb3 RD
 go_wp2_with fail
 exact bodyPost_ret (v := onlyV J) (results_cell_row rfl _ _ (w.heap.size + 1) 48 _ (0,0) _ rfl HK5.out Tryz.underlying48 rfl info_res) rfl ⟨s',S',D',by rw [HJ.out],HZ.out.1,HZ.out.2,HA3.out⟩
theorem link_deed (hW0 : Wk Rep) {w : World} {g : Nat} {v : Value} {hs : List Int} {s : Vs} {S D : Nat → Prop} (o : Op20) (ino : Int) (hd : Dsk w g v hs) (hr : Rep w v s S D) (hng : ¬ D g) (hl : Lim s) (h2 : s.rd.length ≤ 18000) (h3 : s.rg.length ≤ 900) (hx : Mxs w S) (hp : o.path.size ≤ 100000) (hp2 : o.other.size ≤ 100000) :
 Calls Tryz.prog 53 #[.pointer (some ⟨g,0,none⟩),o.val,.int .u32 ino] w (AnsO Rep v s (lnkV s.shown o.path o.other).1 (lnkV s.shown o.path o.other).2 81 0 S D w) := by
 obtain ⟨kind,path,other,hn,frm,n,da,dn,dc⟩ := o
 dsimp only [Op20.val,Op20.cells] at *
 have hlt := hW0.stays.lt hr
 have hsub := hW0.stays.sub hr
 obtain ⟨W,hW⟩ : ∃ W,(w.alloc (.cells #[.int .u8 kind,.string path,.string other,.int .i64 hn,.int .i64 frm,.int .i64 n,.slice da dn dc] 41)).alloc (.cells zres 48) = W := ⟨_,rfl⟩
 have hs1 : (w.alloc (.cells #[.int .u8 kind,.string path,.string other,.int .i64 hn,.int .i64 frm,.int .i64 n,.slice da dn dc] 41)).heap.size = w.heap.size + 1 := by simp
 have HB : Hid (Blk W (w.heap.size + 1) zres 48) := hQ_ (by rw [← hW,← hs1]; exact Blk.new_ _ zres _)
 have hO : Blk W w.heap.size #[.int .u8 kind,.string path,.string other,.int .i64 hn,.int .i64 frm,.int .i64 n,.slice da dn dc] 41 := by rw [← hW]; exact (Blk.new_ _ _ _).alloc _
 have hbW : Below w.heap.size w W := by rw [← hW]; exact (bW_).alloc (by rw [hs1]; omega) _
 have hsW : W.heap.size = w.heap.size + 2 := by rw [← hW]; simp
 obtain ⟨er,her⟩ : ∃ er,(lnkV s.shown path other).1 = er := ⟨_,rfl⟩
 obtain ⟨ps,hps⟩ : ∃ ps,(lnkV s.shown path other).2 = ps := ⟨_,rfl⟩
 have hbd : Below w.heap.size w W.drew := hbW.drew
 have hc := DirsKg.lnk_calls hW0 path other (hW0.stays.below hr hbd) hl h2 h3 (hx.below hbd) hp hp2
 rw [her,hps] at hc
 rw [her,hps]
 obtain ⟨J,hJ⟩ : ∃ J : Int,(if (goW s ps).2 = true then er else 21) = J := ⟨_,rfl⟩
 unfold Ans at hc
 simp only [hJ] at hc
 have HC := hQ_ hc
 have RD : Hid (∀ q0,Chg (fun k => S k ∨ k = w.heap.size + 1) W q0 → Chg (fun k => S k ∨ k = w.heap.size + 1) W q0 ∧ q0.cell? ⟨g,0,none⟩ = some v ∧ q0.cell? ⟨w.heap.size,1,none⟩ = some (.string path) ∧ q0.cell? ⟨w.heap.size,2,none⟩ = some (.string other)) := hQ_ (fun q0 hq => by
  obtain ⟨c1,c2⟩ := find_cells hd hng hlt hsub hbW hO hq
  exact ⟨hq,c1,c2 1,c2 2⟩)
 have HLT := hQ_ hlt
 have HSUB := hQ_ hsub
 have HW := hQ_ hW
 have HBD := hQ_ hbd
 have HJ := hQ_ hJ
 have HSW := hQ_ hsW
 have HVS := hQ_ hW0.stays
 clear hW hs1 hO hbW hsW her hps hbd hc hJ hlt hsub hd hr hng hl h2 h3 hx hW0 hp hp2
 go_enter Tryz.func53,Tryz.ntmps53
 go_wp2_with fail
 rw [HW.out]
 go_wp2_with fail
 refine wp_region_held_drew (S := fun q0 => Chg (fun k => S k ∨ k = w.heap.size + 1) W q0 ∧ q0.cell? ⟨g,0,none⟩ = some v ∧ q0.cell? ⟨w.heap.size,1,none⟩ = some (.string path) ∧ q0.cell? ⟨w.heap.size,2,none⟩ = some (.string other)) (by kernel_rfl) (RD.out _ (Chg.refl _ _).drew) (fun hHeld => ?_)
 refine hw_ 0 (some 7) ?_
 refine hw_ 1 (some 8) ?_
 refine hw_ 2 (some 9) ?_
 refine hw_ 3 (some 10) ?_
 refine hw_ 4 (some 11) ?_
 refine hw_ 5 (some 12) ?_
 refine hw_ 6 (some 13) ?_
 refine hw_ 7 (some 14) ?_
 refine ho_step 8 (some 15) rfl rfl (by kernel_rfl) (by kernel_rfl) (fun K hK => ?_)
 go_simp
 go_at_call 86
 refine HC.out.mono ?_
 rintro e w3 ⟨s',S',D',rfl,hr3,st3,aft3⟩
 have hq3 : Chg (fun k => S k ∨ k = w.heap.size + 1) W w3 := (Chg.refl _ _).drew.trans (st3.chg.mono (fun _ _ h => .inl h))
 have hb3 : Blk w3 (w.heap.size + 1) zres 48 := (st3.chg.block _ HB.out.lt (fun h => by have := HLT.out _ (HSUB.out _ h); omega)).trans HB.out
 try go_wp2_with fail
 refine hK.out _ _ (RD.out _ hq3) (fun hHeld2 => ?_)
 clear hHeld
 have hHeld := hHeld2
 clear hHeld2
 clear hK K
 try simp only [pZ_]
 refine ho_step 9 (some 16) rfl rfl (by kernel_rfl) (by kernel_rfl) (fun K hK => ?_)
 go_simp
 go_at_call 26
 refine (only_calls J _).mono ?_
 rintro e w4 ⟨rfl,hb4⟩
 have hq4 := hq3.trans (Chg.of_below hb4)
 try go_wp2_with fail
 refine hK.out _ _ (RD.out _ hq4) (fun hHeld2 => ?_)
 clear hHeld
 have hHeld := hHeld2
 clear hHeld2
 clear hK K
 try simp only [pZ_]
 refine Hor.ho_row 10 48 _ _ (w.heap.size + 1) #[.int .i64 J,.int .i64 0,.slice none 0 0,.slice none 0 0,.int .u8 0,.int .u32 0,.int .u32 0,.int .u32 0] 48 _ rfl rfl rfl (by kernel_rfl) (by kernel_rfl) rfl rfl (hb3.below hb4) info_res rfl (by simp [Value.oneCell']) (fun w5 hk5 hg5 => RD.out _ (hq4.trans (Chg.of_grown hg5 (fun k hk => .inl (.inr (by injection hk with hk; exact hk.symm)))))) (fun w5 hk5 hg5 => ?_)
 refine wpAnyH_done (by kernel_rfl) ?_ _
 have hz := fin_view HVS.out HLT.out HSUB.out HBD.out hr3 st3 hb4 (hb3.below hb4) hg5 (Nat.le_succ _) (by show w.heap.size + 1 < W.heap.size; rw [HSW.out]; omega)
 have HZ := hQ_ hz
 have HK5 := hQ_ hk5
 have HA3 := hQ_ aft3
 clear hz hr3 st3 hb4 hg5 hk5 aft3 hq3 hq4 hb3 RD
 go_wp2_with fail
 exact bodyPost_ret (v := onlyV J) (results_cell_row rfl _ _ (w.heap.size + 1) 48 _ (0,0) _ rfl HK5.out Tryz.underlying48 rfl info_res) rfl ⟨s',S',D',by rw [HJ.out],HZ.out.1,HZ.out.2,HA3.out⟩
theorem rmdir_deed (hW0 : Wk Rep) {w : World} {g : Nat} {v : Value} {hs : List Int} {s : Vs} {S D : Nat → Prop} (o : Op20) (ino : Int) (hd : Dsk w g v hs) (hr : Rep w v s S D) (hng : ¬ D g) (hl : Lim s) (h2 : s.rd.length ≤ 18000) (h3 : s.rg.length ≤ 900) (hx : Mxs w S) (hp : o.path.size ≤ 100000) (hk : ∀ p ∈ s.shown,(sp p.key).letter ≠ 0) :
 Calls Tryz.prog 55 #[.pointer (some ⟨g,0,none⟩),o.val,.int .u32 ino] w (AnsO Rep v s (rmdV s.shown o.path).1 (rmdV s.shown o.path).2 41 1 S D w) := by
 obtain ⟨kind,path,other,hn,frm,n,da,dn,dc⟩ := o
 dsimp only [Op20.val,Op20.cells] at *
 have hlt := hW0.stays.lt hr
 have hsub := hW0.stays.sub hr
 obtain ⟨W,hW⟩ : ∃ W,(w.alloc (.cells #[.int .u8 kind,.string path,.string other,.int .i64 hn,.int .i64 frm,.int .i64 n,.slice da dn dc] 41)).alloc (.cells zres 48) = W := ⟨_,rfl⟩
 have hs1 : (w.alloc (.cells #[.int .u8 kind,.string path,.string other,.int .i64 hn,.int .i64 frm,.int .i64 n,.slice da dn dc] 41)).heap.size = w.heap.size + 1 := by simp
 have HB : Hid (Blk W (w.heap.size + 1) zres 48) := hQ_ (by rw [← hW,← hs1]; exact Blk.new_ _ zres _)
 have hO : Blk W w.heap.size #[.int .u8 kind,.string path,.string other,.int .i64 hn,.int .i64 frm,.int .i64 n,.slice da dn dc] 41 := by rw [← hW]; exact (Blk.new_ _ _ _).alloc _
 have hbW : Below w.heap.size w W := by rw [← hW]; exact (bW_).alloc (by rw [hs1]; omega) _
 have hsW : W.heap.size = w.heap.size + 2 := by rw [← hW]; simp
 obtain ⟨er,her⟩ : ∃ er,(rmdV s.shown path).1 = er := ⟨_,rfl⟩
 obtain ⟨ps,hps⟩ : ∃ ps,(rmdV s.shown path).2 = ps := ⟨_,rfl⟩
 have hbd : Below w.heap.size w W.drew := hbW.drew
 have hc := DirsKf.rmd_calls hW0 path (hW0.stays.below hr hbd) hl h2 h3 (hx.below hbd) hp hk
 rw [her,hps] at hc
 rw [her,hps]
 obtain ⟨J,hJ⟩ : ∃ J : Int,(if (goW s ps).2 = true then er else 21) = J := ⟨_,rfl⟩
 unfold Ans at hc
 simp only [hJ] at hc
 have HC := hQ_ hc
 have RD : Hid (∀ q0,Chg (fun k => S k ∨ k = w.heap.size + 1) W q0 → Chg (fun k => S k ∨ k = w.heap.size + 1) W q0 ∧ q0.cell? ⟨g,0,none⟩ = some v ∧ q0.cell? ⟨w.heap.size,1,none⟩ = some (.string path) ∧ q0.cell? ⟨w.heap.size,2,none⟩ = some (.string other)) := hQ_ (fun q0 hq => by
  obtain ⟨c1,c2⟩ := find_cells hd hng hlt hsub hbW hO hq
  exact ⟨hq,c1,c2 1,c2 2⟩)
 have HLT := hQ_ hlt
 have HSUB := hQ_ hsub
 have HW := hQ_ hW
 have HBD := hQ_ hbd
 have HJ := hQ_ hJ
 have HSW := hQ_ hsW
 have HVS := hQ_ hW0.stays
 clear hW hs1 hO hbW hsW her hps hbd hc hJ hlt hsub hd hr hng hl h2 h3 hx hW0 hp hk
 go_enter Tryz.func55,Tryz.ntmps55
 go_wp2_with fail
 rw [HW.out]
 go_wp2_with fail
 refine wp_region_held_drew (S := fun q0 => Chg (fun k => S k ∨ k = w.heap.size + 1) W q0 ∧ q0.cell? ⟨g,0,none⟩ = some v ∧ q0.cell? ⟨w.heap.size,1,none⟩ = some (.string path) ∧ q0.cell? ⟨w.heap.size,2,none⟩ = some (.string other)) (by kernel_rfl) (RD.out _ (Chg.refl _ _).drew) (fun hHeld => ?_)
 refine hw_ 0 (some 7) ?_
 refine hw_ 1 (some 8) ?_
 refine hw_ 2 (some 9) ?_
 refine hw_ 3 (some 10) ?_
 refine hw_ 4 (some 11) ?_
 refine hw_ 5 (some 12) ?_
 refine ho_step 6 (some 13) rfl rfl (by kernel_rfl) (by kernel_rfl) (fun K hK => ?_)
 go_simp
 go_at_call 88
 refine HC.out.mono ?_
 rintro e w3 ⟨s',S',D',rfl,hr3,st3,aft3⟩
 have hq3 : Chg (fun k => S k ∨ k = w.heap.size + 1) W w3 := (Chg.refl _ _).drew.trans (st3.chg.mono (fun _ _ h => .inl h))
 have hb3 : Blk w3 (w.heap.size + 1) zres 48 := (st3.chg.block _ HB.out.lt (fun h => by have := HLT.out _ (HSUB.out _ h); omega)).trans HB.out
 try go_wp2_with fail
 refine hK.out _ _ (RD.out _ hq3) (fun hHeld2 => ?_)
 clear hHeld
 have hHeld := hHeld2
 clear hHeld2
 clear hK K
 try simp only [pZ_]
 refine ho_step 7 (some 14) rfl rfl (by kernel_rfl) (by kernel_rfl) (fun K hK => ?_)
 go_simp
 go_at_call 26
 refine (only_calls J _).mono ?_
 rintro e w4 ⟨rfl,hb4⟩
 have hq4 := hq3.trans (Chg.of_below hb4)
 try go_wp2_with fail
 refine hK.out _ _ (RD.out _ hq4) (fun hHeld2 => ?_)
 clear hHeld
 have hHeld := hHeld2
 clear hHeld2
 clear hK K
 try simp only [pZ_]
 refine Hor.ho_row 8 48 _ _ (w.heap.size + 1) #[.int .i64 J,.int .i64 0,.slice none 0 0,.slice none 0 0,.int .u8 0,.int .u32 0,.int .u32 0,.int .u32 0] 48 _ rfl rfl rfl (by kernel_rfl) (by kernel_rfl) rfl rfl (hb3.below hb4) info_res rfl (by simp [Value.oneCell']) (fun w5 hk5 hg5 => RD.out _ (hq4.trans (Chg.of_grown hg5 (fun k hk => .inl (.inr (by injection hk with hk; exact hk.symm)))))) (fun w5 hk5 hg5 => ?_)
 refine wpAnyH_done (by kernel_rfl) ?_ _
 have hz := fin_view HVS.out HLT.out HSUB.out HBD.out hr3 st3 hb4 (hb3.below hb4) hg5 (Nat.le_succ _) (by show w.heap.size + 1 < W.heap.size; rw [HSW.out]; omega)
 have HZ := hQ_ hz
 have HK5 := hQ_ hk5
 have HA3 := hQ_ aft3
 clear hz hr3 st3 hb4 hg5 hk5 aft3 hq3 hq4 hb3 RD
 go_wp2_with fail
 exact bodyPost_ret (v := onlyV J) (results_cell_row rfl _ _ (w.heap.size + 1) 48 _ (0,0) _ rfl HK5.out Tryz.underlying48 rfl info_res) rfl ⟨s',S',D',by rw [HJ.out],HZ.out.1,HZ.out.2,HA3.out⟩
end Go.Proofs.YtogdjbhjgbnicaaGreatDoor.OpsJ
namespace Go.Proofs.YtogdjbhjgbnicaaGreatDoor.OpsK
open Go.RowKit
open Byte Lst Chg OpsR OpsD OpsE OpsI
open Own hiding lower
def fz (hs : List Int) : Int := if hs.findIdx (fun x => x == 0) < hs.length then ((hs.findIdx (fun x => x == 0) : Nat) : Int) else -1
theorem fz_at {hs : List Int} {k : Nat} (hk : k < hs.length) (h0 : hs.getD k 0 = 0) (h1 : ∀ j,j < k → hs.getD j 0 ≠ 0) : fz hs = k := by
 have e : hs.findIdx (fun x => x == 0) = k := by
  rw [List.findIdx_eq hk]
  refine ⟨?_,fun j hj => ?_⟩
  ·rw [List.getD_eq_getElem?_getD,List.getElem?_eq_getElem hk] at h0
   simpa using h0
  ·have := h1 j hj
   rw [List.getD_eq_getElem?_getD,List.getElem?_eq_getElem (by omega)] at this
   simpa using this
 unfold fz
 rw [e,if_pos hk]
theorem fz_no {hs : List Int} (h1 : ∀ j,j < hs.length → hs.getD j 0 ≠ 0) : fz hs = -1 := by
 unfold fz
 rw [if_neg ?_]
 intro h
 have h2 := List.findIdx_getElem (w := h)
 have h3 := h1 _ h
 rw [List.getD_eq_getElem?_getD,List.getElem?_eq_getElem h] at h3
 exact h3 (by simpa using h2)
theorem fz_bd (hs : List Int) : -1 ≤ fz hs ∧ fz hs < hs.length := by
 unfold fz
 split <;> omega
theorem index_calls {g : Nat} {v : Value} {hs : List Int} {w : World} (h : Dsk w g v hs) :
 Calls Tryz.prog 80 #[.slice (some ⟨g,1,none⟩) 16 16,.int .u32 0] w fun e w' => e = .returned (.int .i64 (fz hs)) ∧ w = w' := by
 have H := hQ_ h
 have HL := hQ_ h.len
 obtain ⟨Z,hZ⟩ : ∃ Z,fz hs = Z := ⟨_,rfl⟩
 have HZ := hQ_ hZ
 rw [hZ]
 clear h hZ
 go_enter Tryz.func80,Tryz.ntmps80
 go_wp2
 go_loop [8] (fun i => ∃ k : Nat,k ≤ 16 ∧ i = .int .i64 k ∧ Hid (∀ j,j < k → hs.getD j 0 ≠ 0)) (fun i => 16 - (intOf i).toNat)
 case atStart => exact ⟨0,Nat.zero_le _,rfl,hQ_ (fun j h => by omega)⟩
 case round =>
  obtain ⟨k,hk,rfl,HK⟩ := hrel
  by_cases hlt : k < 16
  ·have c1 := H.out.hand hlt
   by_cases h0 : hs.getD k 0 = 0
   ·rw [h0] at c1
    have HQ : Hid (Z = (k : Int)) := hQ_ (by rw [← HZ.out]; exact fz_at (by rw [HL.out]; exact hlt) h0 HK.out)
    clear h0
    go_wp2
    go_ret
    exact ⟨Byte.ret_int HQ.out.symm,rfl⟩
   ·have HK5 : Hid (∀ j,j < k + 1 → hs.getD j 0 ≠ 0) := hQ_ (fun j hj => by
     by_cases e : j = k
     ·rw [e]; exact h0
     ·exact HK.out j (by omega))
    obtain ⟨y,hy⟩ : ∃ y,hs.getD k 0 = y := ⟨_,rfl⟩
    rw [hy] at c1 h0
    have d0 : ((0 : Int) == y) = false := by
     rw [beq_eq_false_iff_ne]
     exact fun e => h0 e.symm
    clear h0 hy
    go_wp2
    go_round
    case rel => exact ⟨k + 1,by omega,by go_num,HK5⟩
    case measure => simp [intOf]; omega
  ·obtain rfl : k = 16 := by omega
   have HQ : Hid (Z = -1) := hQ_ (by rw [← HZ.out]; exact fz_no (fun j hj => HK.out j (by rw [HL.out] at hj; exact hj)))
   go_wp2
   go_ret
   exact ⟨Byte.ret_int HQ.out.symm,rfl⟩
end Go.Proofs.YtogdjbhjgbnicaaGreatDoor.OpsK
namespace Go.Proofs.YtogdjbhjgbnicaaGreatDoor.OpsS
open Go.RowKit
open Byte KeysM TreeM ViewM DirsV Lst Chg TreeL ViewL WalkL Vat DirsKc OpsR OpsD OpsE OpsI OpsJ OpsK
open Own hiding lower
variable {Rep : RepT}
structure Dst (Rep : RepT) (w : World) (g : Nat) (v : Value) (hs : List Int) (s : Vs) (S D : Nat → Prop) : Prop where
 rep : Rep w v s S D
 dsk : Dsk w g v hs
 ng : ¬ D g
structure Dstp (S D S' D' : Nat → Prop) (g : Nat) (w w' : World) : Prop where
 chg : Chg (fun k => S k ∨ k = g) w w'
 kept : Kept w w'
 own : Grow w S S'
 dep : Grow w D D'
section
variable {w w' : World} {g : Nat} {v : Value} {hs hs' : List Int} {s s' : Vs} {S D S' D' : Nat → Prop}
theorem Dsk.chg {Q : Nat → Prop} (h : Dsk w g v hs) (k : Chg Q w w') (hn : ¬ Q g) : Dsk w' g v hs := ⟨(k.block g h.blk.lt hn).trans h.blk,h.len,h.bd⟩
theorem Dst.below (hV : Stays Rep) (h : Dst Rep w g v hs s S D) (hb : Below w.heap.size w w') : Dst Rep w' g v hs s S D := ⟨hV.below h.rep hb,h.dsk.below hb,h.ng⟩
theorem Dst.off (hV : Stays Rep) (h : Dst Rep w g v hs s S D) : ¬ S g := fun e => h.ng (hV.sub h.rep g e)
theorem Dst.step (hV : Stays Rep) (h : Dst Rep w g v hs s S D) (hr : Rep w' v s' S' D') (st : Stp S D S' D' w w') : Dst Rep w' g v hs s' S' D' ∧ Dstp S D S' D' g w w' :=
 ⟨⟨hr,Dsk.chg h.dsk st.chg (h.off hV),fun e => by
   rcases st.dep g e with h1 | h1
   ·exact h.ng h1
   ·have := h.dsk.blk.lt
    omega⟩,⟨st.chg.mono (fun _ _ h => .inl h),st.kept,st.own,st.dep⟩⟩
theorem Dst.hand (hV : Stays Rep) (h : Dst Rep w g v hs s S D) {j : Nat} {x : Int} (hj : j < 16) (h0 : 0 ≤ x) (h1 : x ≤ 4294967295) : Dst Rep (w.setCell ⟨g,1 + j,none⟩ (.int .u32 x)) g v (hs.set j x) s S D ∧ Dstp S D S D g w (w.setCell ⟨g,1 + j,none⟩ (.int .u32 x)) := by
 have hc : Chg (fun k => k = g) w (w.setCell ⟨g,1 + j,none⟩ (.int .u32 x)) := (Chg.refl (fun k => k = g) w).own (1 + j) _
 have hk : Kept w (w.setCell ⟨g,1 + j,none⟩ (.int .u32 x)) := ViewD.kept_set h.dsk.blk (by decide) (1 + j) _
 refine ⟨⟨hV.stay h.rep hc (fun b e hd => by have e' : b = g := e; rw [e'] at hd; exact h.ng hd) hk,⟨?_,by rw [List.length_set]; exact h.dsk.len,fun y hy => ?_⟩,h.ng⟩,⟨hc.mono (fun _ _ h => .inr h),hk,Grow.refl _ _,Grow.refl _ _⟩⟩
 ·have hb := h.dsk.blk.set_ (1 + j) (.int .u32 x)
  have e : (dskA v hs).setIfInBounds (1 + j) (.int .u32 x) = dskA v (hs.set j x) := by
   unfold dskA
   rw [List.setIfInBounds_toArray,show 1 + j = j + 1 by omega,List.set_cons_succ,List.map_set]
  rw [← e]
  exact hb
 ·rcases List.mem_or_eq_of_mem_set hy with h2 | h2
  ·exact h.dsk.bd y h2
  ·rw [h2]
   exact ⟨h0,h1⟩
theorem Dstp.trans {w'' : World} {S2 D2 : Nat → Prop} (h : Dstp S D S' D' g w w') (k : Dstp S' D' S2 D2 g w' w'') : Dstp S D S2 D2 g w w'' :=
 ⟨h.chg.then_ k.chg (fun i hi e => by
   rcases e with e | e
   ·rcases h.own i e with h1 | h1
    ·exact .inl h1
    ·omega
   ·exact .inr e),ViewD.Kept.trans h.kept k.kept,h.own.trans k.own h.chg.size,h.dep.trans k.dep h.chg.size⟩
theorem Dst.stored (hV : Stays Rep) {w0 : World} (h : Dst Rep w g v hs s S D) {r : Nat} {old : Array Value} (hB : Blk w r old 48) (hg : w.grownBy w' (some r)) (nd : ¬ D r) (hr : g ≠ r) (h0 : w0.heap.size ≤ r) {S0 D0 : Nat → Prop} (st : Dstp S0 D0 S D g w0 w) : Dst Rep w' g v hs s S D ∧ Dstp S0 D0 S D g w0 w' := by
 have hc : Chg (fun k => k = r) w w' := Chg.of_grown hg (fun k hk => .inl (Option.some.inj hk).symm)
 have hk : Kept w w' := kept_row hB hg (by decide)
 refine ⟨⟨hV.stay h.rep hc (fun b e hd => by have e' : b = r := e; rw [e'] at hd; exact nd hd) hk,Dsk.chg h.dsk hc (fun e => hr e),h.ng⟩,⟨st.chg.then_ hc (fun i hi e => by have e' : i = r := e; omega),ViewD.Kept.trans st.kept hk,st.own,st.dep⟩⟩
end
def opnV (L : List Pr) (hs : List Int) (path : ByteArray) : Int × Int × List Int :=
 if (leadM L path).2.2 ≠ 0 then ((leadM L path).2.2,0,hs) else if (leadM L path).2.1.k ≠ 1 then (13,0,hs) else if fz hs < 0 then (20,0,hs) else (0,fz hs,hs.set (fz hs).toNat (leadM L path).1)
end Go.Proofs.YtogdjbhjgbnicaaGreatDoor.OpsS
namespace Go.Proofs.YtogdjbhjgbnicaaGreatDoor.OpsO
open Go.RowKit
open Byte KeysM TreeM ViewM NodeM WalkM WalkF DirsV Lst Chg TreeL ViewL WalkL Vat Ho DirsK DirsKa DirsKc OpsR OpsD OpsE OpsI OpsJ OpsK OpsS
open Own hiding lower
variable {Rep : RepT}
theorem info_ino : (Tryz.prog.info? 46).map (·.size) = some 4 := by kernel_rfl
def OpenE (Rep : RepT) (g : Nat) (v : Value) (hs : List Int) (s : Vs) (path : ByteArray) (r : Int × Int × List Int) (S D : Nat → Prop) (w : World) (e : Ending) (w' : World) : Prop := ∃ s' S' D',e = .returned (resV r.1 r.2.1 (.slice none 0 0) (.slice none 0 0) 0 0 0 0) ∧ Dst Rep w' g v r.2.2 s' S' D' ∧ Dstp S D S' D' g w w' ∧ FindR s path s'
theorem lead_bd (L : List Pr) (path : ByteArray) : 0 ≤ (leadM L path).1 ∧ (leadM L path).1 ≤ 4294967295 := by
 have h := find_bd L path
 unfold leadM
 split
 ·exact ⟨Int.le_refl 0,(by decide : (0 : Int) ≤ 4294967295)⟩
 ·split
  ·exact ⟨Int.le_refl 0,(by decide : (0 : Int) ≤ 4294967295)⟩
  ·exact ⟨h.i0,h.i1⟩
theorem open_deed (hW0 : Wk Rep) {w : World} {g : Nat} {v : Value} {hs : List Int} {s : Vs} {S D : Nat → Prop} (o : Op20) (ino : Int) (hdd : Dst Rep w g v hs s S D) (hl : Lim s) (h2 : s.rd.length ≤ 18000) (h3 : s.rg.length ≤ 900) (hx : Mxs w S) (hp : o.path.size ≤ 100000) :
 Calls Tryz.prog 47 #[.pointer (some ⟨g,0,none⟩),o.val,.int .u32 ino] w (OpenE Rep g v hs s o.path (opnV s.shown hs o.path) S D w) := by
 obtain ⟨kind,path,other,hn,frm,n,da,dn,dc⟩ := o
 dsimp only [Op20.val,Op20.cells] at *
 obtain ⟨hr,hd,hng⟩ := hdd
 have hlt := hW0.stays.lt hr
 have hsub := hW0.stays.sub hr
 obtain ⟨W,hW⟩ : ∃ W,(w.alloc (.cells #[.int .u8 kind,.string path,.string other,.int .i64 hn,.int .i64 frm,.int .i64 n,.slice da dn dc] 41)).alloc (.cells zres 48) = W := ⟨_,rfl⟩
 have hs1 : (w.alloc (.cells #[.int .u8 kind,.string path,.string other,.int .i64 hn,.int .i64 frm,.int .i64 n,.slice da dn dc] 41)).heap.size = w.heap.size + 1 := by simp
 have hB : Blk W (w.heap.size + 1) zres 48 := by rw [← hW,← hs1]; exact Blk.new_ _ zres _
 have hO : Blk W w.heap.size #[.int .u8 kind,.string path,.string other,.int .i64 hn,.int .i64 frm,.int .i64 n,.slice da dn dc] 41 := by rw [← hW]; exact (Blk.new_ _ _ _).alloc _
 have hbW : Below w.heap.size w W := by rw [← hW]; exact (bW_).alloc (by rw [hs1]; omega) _
 have hsW : W.heap.size = w.heap.size + 2 := by rw [← hW]; simp
 have hbd : Below w.heap.size w W.drew := hbW.drew
 have HBD := hQ_ hbd
 have HBD0 : Hid (Blk W.drew (w.heap.size + 1) zres 48) := hQ_ hB
 have HA0 := hQ_ ((At.start hr).owns hW0.stays hbd (Q := fun b => b = w.heap.size ∨ b = w.heap.size + 1) (fun b h => by
  have e : W.drew.heap.size = W.heap.size := rfl
  rw [e,hsW]
  omega))
 have hob := lead_bd s.shown path
 obtain ⟨⟨li,⟨lk,ll,lz,lp⟩,er⟩,hL⟩ : ∃ R,leadM s.shown path = R := ⟨_,rfl⟩
 have HC := hQ_ (fun (u : World) (hb : Below w.heap.size w u) => lead_calls hW0 path (hW0.stays.below hr hb) hl (by omega) hp (hx.below hb))
 unfold LeadR at HC
 obtain ⟨X,hX⟩ : ∃ X,opnV s.shown hs path = X := ⟨_,rfl⟩
 have hX2 := hX
 unfold opnV at hX2
 rw [hL] at HC hX2 hob
 dsimp only at HC hX2 hob
 rw [hX]
 obtain ⟨Z,hZ⟩ : ∃ Z,fz hs = Z := ⟨_,rfl⟩
 have hzb := fz_bd hs
 rw [hZ] at hX2 hzb
 rw [hd.len] at hzb
 have ways : (er ≠ 0 ∧ X = (er,0,hs)) ∨ (er = 0 ∧ lk ≠ 1 ∧ X = (13,0,hs)) ∨ (er = 0 ∧ lk = 1 ∧ Z < 0 ∧ X = (20,0,hs)) ∨ (er = 0 ∧ lk = 1 ∧ ∃ j : Nat,Z = j ∧ j < 16 ∧ X = (0,(j : Int),hs.set j li)) := by
  by_cases e1 : er = 0
  ·rw [if_neg (by simpa using e1)] at hX2
   by_cases e2 : lk = 1
   ·rw [if_neg (by simpa using e2)] at hX2
    by_cases e3 : Z < 0
    ·rw [if_pos e3] at hX2
     exact .inr (.inr (.inl ⟨e1,e2,e3,hX2.symm⟩))
    ·rw [if_neg e3] at hX2
     refine .inr (.inr (.inr ⟨e1,e2,Z.toNat,by omega,by omega,?_⟩))
     rw [← hX2,show ((Z.toNat : Nat) : Int) = Z by omega]
   ·rw [if_pos e2] at hX2
    exact .inr (.inl ⟨e1,e2,hX2.symm⟩)
  ·rw [if_pos e1] at hX2
   exact .inl ⟨e1,hX2.symm⟩
 have RD : Hid (∀ q0,Chg (fun k => S k ∨ k = w.heap.size + 1) W q0 → Chg (fun k => S k ∨ k = w.heap.size + 1) W q0 ∧ q0.cell? ⟨g,0,none⟩ = some v ∧ q0.cell? ⟨w.heap.size,1,none⟩ = some (.string path) ∧ q0.cell? ⟨w.heap.size,2,none⟩ = some (.string other)) := hQ_ (fun q0 hq => by
  obtain ⟨c1,c2⟩ := find_cells hd hng hlt hsub hbW hO hq
  exact ⟨hq,c1,c2 1,c2 2⟩)
 have HW := hQ_ hW
 have HSW := hQ_ hsW
 have HVS := hQ_ hW0.stays
 have HRW := hQ_ hr
 have HDS := hQ_ hd
 have HNG := hQ_ hng
 have HNS : Hid (¬ S g) := hQ_ (fun e => hng (hsub g e))
 have HZ := hQ_ hZ
 have HOB := hQ_ hob
 clear hW hs1 hO hB hbW hsW hbd hlt hsub hd hr hng hl h2 h3 hx hW0 hp hL hX hX2 hZ hob hzb
 go_enter Tryz.func47,Tryz.ntmps47
 go_wp2_with fail
 rw [HW.out]
 go_wp2_with fail
 refine wp_region_held_drew (S := fun q0 => Chg (fun k => S k ∨ k = w.heap.size + 1) W q0 ∧ q0.cell? ⟨g,0,none⟩ = some v ∧ q0.cell? ⟨w.heap.size,1,none⟩ = some (.string path) ∧ q0.cell? ⟨w.heap.size,2,none⟩ = some (.string other)) (by kernel_rfl) (RD.out _ (Chg.refl _ _).drew) (fun hHeld => ?_)
 refine hw_ 0 (some 12) ?_
 refine hw_ 1 (some 13) ?_
 refine hw_ 2 (some 14) ?_
 refine hw_ 3 (some 15) ?_
 refine hw_ 4 (some 16) ?_
 refine hw_ 5 (some 17) ?_
 refine ho_fork 6 11 (some 18) (some 8) rfl rfl rfl rfl (by kernel_rfl) (by kernel_rfl) (by kernel_rfl) (fun K hK => ?_) (fun K hK => ?_)
 go_simp
 go_at_call 79
 refine (HC.out _ HBD.out).mono ?_
 rintro e w3 ⟨s',S',D',rfl,hr3,st3,hf3⟩
 have A3 := At.step HVS.out HA0.out hr3 st3
 have hq3 : Chg (fun k => S k ∨ k = w.heap.size + 1) W w3 := (Chg.refl (fun k => S k ∨ k = w.heap.size + 1) W).drew.trans (st3.chg.mono (fun _ _ h => .inl h))
 try go_wp2_with fail
 refine hK.out _ _ (RD.out _ hq3) (fun hHeld2 => ?_)
 clear hHeld
 have hHeld := hHeld2
 clear hHeld2
 clear hK K
 try simp only [pZ_]
 have hR3 := At.blk HVS.out HA0.out HBD0.out (.inr (.inr rfl)) st3
 refine hw_ 7 (some 11) ?_
 refine hw_ 8 (some 19) ?_
 refine hw_ 9 (some 20) ?_
 refine hw_ 10 (some 21) ?_
 refine ho_step 11 (some 8) rfl rfl (by kernel_rfl) (by kernel_rfl) (fun K hK => ?_)
 go_simp
 refine hK.out _ _ (RD.out _ (hq3.alloc _)) (fun hHeld2 => ?_)
 clear hHeld
 have hHeld := hHeld2
 clear hHeld2
 clear hK K
 try simp only [pZ_]
 have hbn := bN_ w3 (.cells #[.int .u8 0,.int .u32 0,.int .u32 0,.int .u32 0] 46)
 have hib0 : W.heap.size ≤ w3.heap.size := hq3.size
 have A4 := At.own HVS.out A3 hbn (r := w3.heap.size) (Nat.le_refl _) (by simp)
 have hI4 := Blk.new_ w3 #[.int .u8 0,.int .u32 0,.int .u32 0,.int .u32 0] 46
 have hR4 := hR3.below hbn
 have hq4 := hq3.alloc (.cells #[.int .u8 0,.int .u32 0,.int .u32 0,.int .u32 0] 46)
 obtain ⟨w4,hw4⟩ : ∃ w4,w3.alloc (.cells #[.int .u8 0,.int .u32 0,.int .u32 0,.int .u32 0] 46) = w4 := ⟨_,rfl⟩
 obtain ⟨ib,hib⟩ : ∃ ib,w3.heap.size = ib := ⟨_,rfl⟩
 rw [hw4] at hHeld A4 hI4 hR4 hq4 ⊢
 rw [hib] at hib0 A4 hI4 ⊢
 have hrb : w.heap.size + 1 ≠ ib := by have := HSW.out; omega
 clear hR3 hw4 hib hbn hq3 A3 hr3
 rotate_left
 go_simp
 refine hK.out _ _ (RD.out _ ((Chg.refl (fun k => S k ∨ k = w.heap.size + 1) W).drew.alloc _)) (fun hHeld2 => ?_)
 clear hHeld
 have hHeld := hHeld2
 clear hHeld2
 clear hK K
 try simp only [pZ_]
 have hbn := bN_ W.drew (.cells #[.int .u8 0,.int .u32 0,.int .u32 0,.int .u32 0] 46)
 have hib0 : W.heap.size ≤ W.heap.size := Nat.le_refl _
 have A2 := At.own HVS.out HA0.out hbn (r := W.heap.size) (Nat.le_refl _) (by simp)
 have hI2 : Blk (W.drew.alloc (.cells #[.int .u8 0,.int .u32 0,.int .u32 0,.int .u32 0] 46)) W.heap.size #[.int .u8 0,.int .u32 0,.int .u32 0,.int .u32 0] 46 := Blk.new_ W.drew #[.int .u8 0,.int .u32 0,.int .u32 0,.int .u32 0] 46
 have hR2 := HBD0.out.below hbn
 have hq2 := (Chg.refl (fun k => S k ∨ k = w.heap.size + 1) W).drew.alloc (.cells #[.int .u8 0,.int .u32 0,.int .u32 0,.int .u32 0] 46)
 have hb2 := Own.keeps HBD.out hbn
 refine ho_step 6 (some 18) rfl rfl (by kernel_rfl) (by kernel_rfl) (fun K hK => ?_)
 go_simp
 go_at_call 79
 refine (HC.out _ hb2).mono ?_
 rintro e w3 ⟨s',S',D',rfl,hr3,st3,hf3⟩
 have A3 := At.step HVS.out A2 hr3 st3
 have hq3 : Chg (fun k => S k ∨ k = w.heap.size + 1) W w3 := hq2.trans (st3.chg.mono (fun _ _ h => .inl h))
 try go_wp2_with fail
 refine hK.out _ _ (RD.out _ hq3) (fun hHeld2 => ?_)
 clear hHeld
 have hHeld := hHeld2
 clear hHeld2
 clear hK K
 try simp only [pZ_]
 refine hw_ 7 (some 11) ?_
 refine hw_ 8 (some 19) ?_
 refine hw_ 9 (some 20) ?_
 refine hw_ 10 (some 21) ?_
 have hI4 := At.blk HVS.out A2 hI2 (.inr rfl) st3
 have hR4 := At.blk HVS.out A2 hR2 (.inl (.inr (.inr rfl))) st3
 have hq4 := hq3
 have A4 := A3
 obtain ⟨w4,hw4⟩ : ∃ w4,w4 = w3 := ⟨_,rfl⟩
 subst hw4
 obtain ⟨ib,hib⟩ : ∃ ib,W.heap.size = ib := ⟨_,rfl⟩
 have hib1 : W.heap.size ≤ ib := by omega
 rw [hib] at A4 hI4 ⊢
 have hrb : w.heap.size + 1 ≠ ib := by have := HSW.out; omega
 clear hR2 hI2 A2 hib hbn hq3 A3 hr3 hib0 hq2 hb2
 have hib0 := hib1
 clear hib1
 all_goals
  refine hw_ 12 (some 7) ?_
  refine Hor.ho_row 13 46 _ _ ib #[.int .u8 lk,.int .u32 ll,.int .u32 lz,.int .u32 lp] 46 _ rfl rfl rfl (by kernel_rfl) (by kernel_rfl) rfl rfl hI4 info_ino rfl (by simp [Value.oneCell']) (fun w5 hk5 hg5 => RD.out _ (hq4.then_ (Chg.of_grown hg5 (fun k hk => .inl hk)) (fun i hi e => by injection e with e; omega))) (fun w5 hk5 hg5 => ?_)
  clear hHeld
  refine hw_ 14 (some 9) ?_ (hS := RD.out _ (hq4.then_ (Chg.of_grown hg5 (fun k hk => .inl hk)) (fun i hi e => by injection e with e; omega)))
  refine wpAnyH_done (by kernel_rfl) ?_ _
  have A5 := At.stored HVS.out A4 hI4 (.inr rfl) (by decide) hg5
  have hR5 := hR4.grown hg5 hrb
  have HD5 := hQ_ (Dsk.chg HDS.out A5.st.chg HNS.out)
  have HA5 := hQ_ A5
  have HR5 := hQ_ hR5
  have HF5 := hQ_ hf3
  have ki := cZ0 hk5
  clear hI4 hR4 hq4 A4 hg5 hk5 hR5 A5 hrb hib0 st3 hf3
  rcases ways with ⟨e1,ex⟩ | ⟨rfl,e2,ex⟩ | ⟨rfl,rfl,e3,ex⟩ | ⟨rfl,rfl,j,ez,hj,ex⟩
  ·have d1 : (er == 0) = false := by simpa using e1
   have HX := hQ_ ex
   clear e1 ex
   go_wp2_with fail
   refine (index_calls HD5.out).mono ?_
   rintro e w6 ⟨rfl,rfl⟩
   go_wp2_with fail
   refine (only_calls er _).mono ?_
   rintro e w7 ⟨rfl,hb7⟩
   have HR7 := hQ_ (HR5.out.below hb7)
   have HA7 := hQ_ (At.below HVS.out HA5.out hb7)
   clear hb7
   go_wp2_with ((with_reducible refine pick none ?_); refine store_blk rfl 48 _ _ rfl (w.heap.size + 1) #[.int .i64 er,.int .i64 0,.slice none 0 0,.slice none 0 0,.int .u8 0,.int .u32 0,.int .u32 0,.int .u32 0] rfl rfl 48 _ HR7.out info_res rfl (by simp [Value.oneCell']) ?_; intro w8 hk8 hg8)
   have A8 := At.stored HVS.out HA7.out HR7.out (.inl (.inr (.inr rfl))) (by decide) hg8
   exact bodyPost_ret (v := onlyV er) (results_cell_row rfl _ _ (w.heap.size + 1) 48 _ (0,0) _ rfl hk8 Tryz.underlying48 rfl info_res) rfl ⟨s',S',D',by rw [HX.out],by rw [HX.out]; exact (Dst.step HVS.out ⟨HRW.out,HDS.out,HNG.out⟩ A8.rep A8.st).1,(Dst.step HVS.out ⟨HRW.out,HDS.out,HNG.out⟩ A8.rep A8.st).2,HF5.out⟩
  ·have d2 : (lk == 1) = false := by simpa using e2
   have HX := hQ_ ex
   clear e2 ex
   go_wp2_with fail
   refine (index_calls HD5.out).mono ?_
   rintro e w6 ⟨rfl,rfl⟩
   go_wp2_with fail
   refine (only_calls 13 _).mono ?_
   rintro e w7 ⟨rfl,hb7⟩
   have HR7 := hQ_ (HR5.out.below hb7)
   have HA7 := hQ_ (At.below HVS.out HA5.out hb7)
   clear hb7
   go_wp2_with ((with_reducible refine pick none ?_); refine store_blk rfl 48 _ _ rfl (w.heap.size + 1) #[.int .i64 13,.int .i64 0,.slice none 0 0,.slice none 0 0,.int .u8 0,.int .u32 0,.int .u32 0,.int .u32 0] rfl rfl 48 _ HR7.out info_res rfl (by simp [Value.oneCell']) ?_; intro w8 hk8 hg8)
   have A8 := At.stored HVS.out HA7.out HR7.out (.inl (.inr (.inr rfl))) (by decide) hg8
   exact bodyPost_ret (v := onlyV 13) (results_cell_row rfl _ _ (w.heap.size + 1) 48 _ (0,0) _ rfl hk8 Tryz.underlying48 rfl info_res) rfl ⟨s',S',D',by rw [HX.out],by rw [HX.out]; exact (Dst.step HVS.out ⟨HRW.out,HDS.out,HNG.out⟩ A8.rep A8.st).1,(Dst.step HVS.out ⟨HRW.out,HDS.out,HNG.out⟩ A8.rep A8.st).2,HF5.out⟩
  ·have d3 : decide (Z < 0) = true := decide_eq_true e3
   have HX := hQ_ ex
   clear e3 ex
   go_wp2_with fail
   refine (index_calls HD5.out).mono ?_
   rintro e w6 ⟨rfl,rfl⟩
   rw [HZ.out]
   go_wp2_with fail
   refine (only_calls 20 _).mono ?_
   rintro e w7 ⟨rfl,hb7⟩
   have HR7 := hQ_ (HR5.out.below hb7)
   have HA7 := hQ_ (At.below HVS.out HA5.out hb7)
   clear hb7
   go_wp2_with ((with_reducible refine pick none ?_); refine store_blk rfl 48 _ _ rfl (w.heap.size + 1) #[.int .i64 20,.int .i64 0,.slice none 0 0,.slice none 0 0,.int .u8 0,.int .u32 0,.int .u32 0,.int .u32 0] rfl rfl 48 _ HR7.out info_res rfl (by simp [Value.oneCell']) ?_; intro w8 hk8 hg8)
   have A8 := At.stored HVS.out HA7.out HR7.out (.inl (.inr (.inr rfl))) (by decide) hg8
   exact bodyPost_ret (v := onlyV 20) (results_cell_row rfl _ _ (w.heap.size + 1) 48 _ (0,0) _ rfl hk8 Tryz.underlying48 rfl info_res) rfl ⟨s',S',D',by rw [HX.out],by rw [HX.out]; exact (Dst.step HVS.out ⟨HRW.out,HDS.out,HNG.out⟩ A8.rep A8.st).1,(Dst.step HVS.out ⟨HRW.out,HDS.out,HNG.out⟩ A8.rep A8.st).2,HF5.out⟩
  ·have d3 : decide ((j : Int) < 0) = false := decide_eq_false (by omega)
   have HX := hQ_ ex
   have hji : (j : Int) < 16 := by omega
   have HEZ := hQ_ ez
   clear ex ez
   go_wp2_with fail
   refine (index_calls HD5.out).mono ?_
   rintro e w6 ⟨rfl,rfl⟩
   rw [HZ.out,HEZ.out]
   have fh : w5.frozen? ⟨g,1 + j,none⟩ = false := HD5.out.blk.frozen _
   have ch : w5.cell? ⟨g,1 + j,none⟩ = some (.int .u32 (hs.getD j 0)) := HD5.out.hand (by omega)
   have HST := hQ_ (Dst.hand (x := li) HVS.out (Dst.step HVS.out ⟨HRW.out,HDS.out,HNG.out⟩ HA5.out.rep HA5.out.st).1 (by omega : j < 16) HOB.out.1 HOB.out.2)
   have HR6 : Hid (Blk (w5.setCell ⟨g,1 + j,none⟩ (.int .u32 li)) (w.heap.size + 1) zres 48) := hQ_ (HR5.out.far (p := ⟨g,1 + j,none⟩) (by have := HDS.out.blk.lt; show w.heap.size + 1 ≠ g; omega) _)
   go_wp2_with ((with_reducible refine pick none ?_); refine store_blk rfl 48 _ _ rfl (w.heap.size + 1) #[.int .i64 0,.int .i64 (j : Int),.slice none 0 0,.slice none 0 0,.int .u8 0,.int .u32 0,.int .u32 0,.int .u32 0] rfl rfl 48 _ HR6.out info_res rfl (by simp [Value.oneCell']) ?_; intro w8 hk8 hg8)
   have hmn := HA5.out.mine (w.heap.size + 1) (.inl (.inr (.inr rfl)))
   have hZ := Dst.stored (w0 := w) HVS.out HST.out.1 HR6.out hg8 hmn.2.2 (by have := HDS.out.blk.lt; omega) (Nat.le_succ _) ((Dst.step HVS.out ⟨HRW.out,HDS.out,HNG.out⟩ HA5.out.rep HA5.out.st).2.trans HST.out.2)
   exact bodyPost_ret (v := resV 0 (j : Int) (.slice none 0 0) (.slice none 0 0) 0 0 0 0) (results_cell_row rfl _ _ (w.heap.size + 1) 48 _ (0,0) _ rfl hk8 Tryz.underlying48 rfl info_res) rfl ⟨s',S',D',by rw [HX.out],by rw [HX.out]; exact hZ.1,hZ.2,HF5.out⟩
end Go.Proofs.YtogdjbhjgbnicaaGreatDoor.OpsO