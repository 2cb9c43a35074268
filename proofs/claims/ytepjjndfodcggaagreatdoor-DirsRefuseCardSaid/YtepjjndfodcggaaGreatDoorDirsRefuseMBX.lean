import Derived.Deep.RegionLaw
import Derived.Test.YtepjjndfodcggaaGreatDoorSq
import Derived.Test.YtepjjndfodcggaaGreatDoorDirsRefuseMBW
import Derived.Deep.DeepCutAuto
import Derived.Deep.CutBlock
set_option maxHeartbeats 16000000
set_option linter.unusedVariables false
set_option linter.unusedSimpArgs false
set_option maxRecDepth 100000
namespace Go.Proofs.YtepjjndfodcggaaGreatDoor.DirsKc
open Go.RowKit
open Byte KeysM TreeM ViewM ViewKm NodeM NodeG NamesM NamesL WalkM WalkF WalkKm DirsV Lst Chg TreeL ViewL WalkL WalkV Vat WalkKa WalkKb DirsK DirsKa DirsKb
open Own hiding keeps
variable {Rep : RepT} {w : World} {v : Value} {s : Vs} {S D : Nat → Prop}
def Mxs (w : World) (S : Nat → Prop) : Prop := Mx w ∧ ¬ S 0
theorem Mxs.lt {w : World} {S : Nat → Prop} (h : Mxs w S) : 0 < w.heap.size := by
 obtain ⟨⟨m,hm⟩,_⟩ := h
 exact World.block_lt_of_cell? w ⟨0,0,none⟩ hm
theorem Mxs.step {w w' : World} {S D S' D' : Nat → Prop} (h : Mxs w S) (st : Stp S D S' D' w w') : Mxs w' S' := by
 refine ⟨?_,fun hs => ?_⟩
 ·obtain ⟨m,hm⟩ := h.1
  exact ⟨m,st.chg.cell hm h.2⟩
 ·rcases st.own _ hs with h1 | h1
  ·exact h.2 h1
  ·have := h.lt
   omega
theorem Mxs.below {w w' : World} {S : Nat → Prop} (h : Mxs w S) (hb : Below w.heap.size w w') : Mxs w' S := ⟨h.1.below hb,h.2⟩
theorem Mxs.at_ {w0 w : World} {S0 D0 M S D : Nat → Prop} {v : Value} {s : Vs} (h : Mxs w0 S0) (A : At Rep w0 S0 D0 M w v s S D) : Mxs w S := h.step A.st
theorem results_tct {P : Program} {fn : Func} {u p q : Tmp} {ty : TypeId} (h : fn.results = #[.tmp u,.cell p ty,.tmp q]) (tmps : Array Value) (w : World) (g : Nat) (t : TypeId) (cs : Array Value) (fr : Nat × Nat) (d : TypeDesc)
 (hp : tmps.getD p undef = .pointer (some ⟨g,0,none⟩)) (v : Value) (hv : tmps.getD u undef = v) (x : Value) (hx : tmps.getD q undef = x) (hg : w.heap[g]? = some (.cells cs t fr)) (hu : P.underlying ty = some d) (hd : (match d with | .struct _ | .array _ _ => true | _ => false) = true) (hi : (P.info? ty).map (·.size) = some cs.size) :
 (results fn tmps).run P w = .ok (.tuple #[v,.agg cs,x]) w := by
 subst hv
 subst hx
 have hp' : tmps[p]?.getD undef = .pointer (some ⟨g,0,none⟩) := by simpa using hp
 simp [results,h,hp',asAddr,run_loadVar_row w g t ty cs fr d hg hu hd hi]
def leadM (L : List Pr) (path : ByteArray) : Int × Ino × Int := if (findM L path).2 ≠ 0 then (0,ino0,(findM L path).2) else if (findM L path).1.ino = 0 then (0,ino0,10) else ((findM L path).1.ino,(findM L path).1.node,0)
def LeadR (Rep : RepT) (v : Value) (s : Vs) (path : ByteArray) (S D : Nat → Prop) (w : World) (r : Int × Ino × Int) (e : Ending) (w' : World) : Prop := ∃ s' S' D',e = .returned (.tuple #[.int .u32 r.1,.agg #[.int .u8 r.2.1.k,.int .u32 r.2.1.l,.int .u32 r.2.1.s,.int .u32 r.2.1.p],.int .i64 r.2.2]) ∧ Rep w' v s' S' D' ∧ Stp S D S' D' w w' ∧ FindR s path s'
theorem set4 {v1 : World} {g : Nat} {z0 z1 z2 z3 : Value} {U : TypeId} (K : Blk v1 g #[z0,z1,z2,z3] U) (a b c d : Value) : Blk ((((v1.setCell ⟨g,0,none⟩ a).setCell ⟨g,1,none⟩ b).setCell ⟨g,2,none⟩ c).setCell ⟨g,3,none⟩ d) g #[a,b,c,d] U := by
 have h1 := K.set_ 0 a
 have h2 := h1.set_ 1 b
 have h3 := h2.set_ 2 c
 have h4 := h3.set_ 3 d
 exact h4
theorem at4 (hS : Stays Rep) {w0 w : World} {S0 D0 M S D : Nat → Prop} {v : Value} {s : Vs} (A : At Rep w0 S0 D0 M w v s S D) {r : Nat} {z0 z1 z2 z3 : Value} {T : TypeId} (h : Blk w r #[z0,z1,z2,z3] T) (hr : M r) (hne : 100 ≠ T ∧ 172 ≠ T) (a b c d : Value) : At Rep w0 S0 D0 M ((((w.setCell ⟨r,0,none⟩ a).setCell ⟨r,1,none⟩ b).setCell ⟨r,2,none⟩ c).setCell ⟨r,3,none⟩ d) v s S D := by
 have h1 := h.set_ 0 a
 have h2 := h1.set_ 1 b
 have h3 := h2.set_ 2 c
 exact (((A.set hS h hr hne 0 a).set hS h1 hr hne 1 b).set hS h2 hr hne 2 c).set hS h3 hr hne 3 d
theorem lead_calls (hW : Wk Rep) {w : World} {v : Value} {s : Vs} {S D : Nat → Prop} (path : ByteArray) (hr : Rep w v s S D) (hl : Lim s) (h2 : s.rd.length ≤ 19000) (hp : path.size ≤ 100000) (hx : Mxs w S) :
 Calls Tryz.prog 77 #[v,.string path] w (LeadR Rep v s path S D w (leadM s.shown path)) := by
 obtain ⟨W,hW0⟩ : ∃ W,w.alloc (.cells #[.int .u8 0,.int .u32 0,.int .u32 0,.int .u32 0] 59) = W := ⟨_,rfl⟩
 have hbW : Below w.heap.size w W := by rw [← hW0]; exact bW_
 have A0 := hQ_ ((At.start hr).own hW.stays hbW (Nat.le_refl w.heap.size) (by rw [← hW0]; simp))
 have R0 := hQ_ (show Blk W w.heap.size #[.int .u8 0,.int .u32 0,.int .u32 0,.int .u32 0] 59 from hW0 ▸ Blk.new_ w _ _)
 have HW := hQ_ hW0
 have HS := hQ_ hW.stays
 have HFI := hQ_ (fun w (S D : Nat → Prop) (hr : Rep w v s S D) (hx : Mx w) => hW.find path hr hl h2 hp hx)
 have HX := hQ_ (hx.below hbW).1
 unfold leadM
 obtain ⟨⟨⟨sd,sn,si,⟨sk,sl,sz,sp⟩⟩,er⟩,hR⟩ : ∃ R,findM s.shown path = R := ⟨_,rfl⟩
 rw [hR] at HFI ⊢
 dsimp only at HFI ⊢
 clear hr hl h2 hp hx hW0 hbW hR
 by_cases he : er = 0
 ·subst he
  rw [if_neg (fun h => h rfl)]
  by_cases h0 : si = 0
  ·rw [if_pos h0]
   have d0 : (si == 0) = true := by simpa using h0
   clear h0
   go_enter Tryz.func77,Tryz.ntmps77
   go_wp2_with fail
   rw [HW.out]
   go_wp2_with fail
   refine (HFI.out _ _ _ A0.out.rep HX.out).mono ?_
   rintro e w2 ⟨s2,S2,D2,rfl,hr2,st2,hf⟩
   have hbn := bN_ w2 (.cells #[.int .u32 sd,.string sn,.int .u32 si,.int .u8 sk,.int .u32 sl,.int .u32 sz,.int .u32 sp] 65)
   have A2 := hQ_ ((A0.out.step HS.out hr2 st2).below HS.out hbn)
   have R2 := hQ_ ((A0.out.blk HS.out R0.out (.inr rfl) st2).below hbn)
   have HF := hQ_ hf
   clear hr2 st2 hf hbn
   go_wp2_with ((with_reducible refine pick none ?_); refine store_blk rfl 59 _ _ rfl w.heap.size #[.int .u8 0,.int .u32 0,.int .u32 0,.int .u32 0] rfl rfl 59 _ R2.out info_ino rfl (by simp [Value.oneCell']) ?_; intro w5 hk5 hg5)
   have A5 := A2.out.stored HS.out R2.out (.inr rfl) (by decide) hg5
   exact bodyPost_ret (v := .tuple #[.int .u32 0,.agg #[.int .u8 0,.int .u32 0,.int .u32 0,.int .u32 0],.int .i64 10]) (results_tct rfl _ _ w.heap.size 59 _ (0,0) _ rfl (.int .u32 0) rfl (.int .i64 10) rfl hk5 Tryz.underlying59 rfl info_ino) rfl ⟨s2,S2,D2,rfl,A5.rep,A5.st,HF.out⟩
  ·rw [if_neg h0]
   have d0 : (si == 0) = false := by simpa using h0
   clear h0
   go_enter Tryz.func77,Tryz.ntmps77
   go_wp2_with fail
   rw [HW.out]
   go_wp2_with fail
   refine (HFI.out _ _ _ A0.out.rep HX.out).mono ?_
   rintro e w2 ⟨s2,S2,D2,rfl,hr2,st2,hf⟩
   obtain ⟨U,hU⟩ : ∃ U,w2.alloc (.cells #[.int .u32 sd,.string sn,.int .u32 si,.int .u8 sk,.int .u32 sl,.int .u32 sz,.int .u32 sp] 65) = U := ⟨_,rfl⟩
   have hbn : Below w2.heap.size w2 U := by rw [← hU]; exact bW_
   have A2 := hQ_ ((A0.out.step HS.out hr2 st2).below HS.out hbn)
   have R2 := hQ_ ((A0.out.blk HS.out R0.out (.inr rfl) st2).below hbn)
   have X2 := hQ_ (show Blk U w2.heap.size #[.int .u32 sd,.string sn,.int .u32 si,.int .u8 sk,.int .u32 sl,.int .u32 sz,.int .u32 sp] 65 from hU ▸ Blk.new_ w2 _ _)
   have HF := hQ_ hf
   have HU := hQ_ hU
   have hlt : w.heap.size < w2.heap.size := (A0.out.blk HS.out R0.out (.inr rfl) st2).lt
   obtain ⟨x2,x3,x4,x5,x6⟩ : U.cell? ⟨w2.heap.size,2,none⟩ = some (.int .u32 si) ∧ U.cell? ⟨w2.heap.size,3,none⟩ = some (.int .u8 sk) ∧ U.cell? ⟨w2.heap.size,4,none⟩ = some (.int .u32 sl) ∧ U.cell? ⟨w2.heap.size,5,none⟩ = some (.int .u32 sz) ∧ U.cell? ⟨w2.heap.size,6,none⟩ = some (.int .u32 sp) := ⟨X2.out.cell 2,X2.out.cell 3,X2.out.cell 4,X2.out.cell 5,X2.out.cell 6⟩
   obtain ⟨r0,r1,r2,r3⟩ : U.cell? ⟨w.heap.size,0,none⟩ = some (.int .u8 0) ∧ U.cell? ⟨w.heap.size,1,none⟩ = some (.int .u32 0) ∧ U.cell? ⟨w.heap.size,2,none⟩ = some (.int .u32 0) ∧ U.cell? ⟨w.heap.size,3,none⟩ = some (.int .u32 0) := ⟨R2.out.cell 0,R2.out.cell 1,R2.out.cell 2,R2.out.cell 3⟩
   obtain ⟨q0,q1,q2,q3⟩ : U.frozen? ⟨w.heap.size,0,none⟩ = false ∧ U.frozen? ⟨w.heap.size,1,none⟩ = false ∧ U.frozen? ⟨w.heap.size,2,none⟩ = false ∧ U.frozen? ⟨w.heap.size,3,none⟩ = false := ⟨R2.out.frozen 0,R2.out.frozen 1,R2.out.frozen 2,R2.out.frozen 3⟩
   have hne1 : ¬ w2.heap.size = w.heap.size := by omega
   have hne2 : ¬ w.heap.size = w2.heap.size := by omega
   have y2 : (w2.alloc (.cells #[.int .u32 sd,.string sn,.int .u32 si,.int .u8 sk,.int .u32 sl,.int .u32 sz,.int .u32 sp] 65)).cell? ⟨w2.heap.size,2,none⟩ = some (.int .u32 si) := by rw [hU]; exact x2
   clear hr2 st2 hf hbn hU
   go_wp2_with fail
   rw [HU.out]
   go_region_law (fail)
   all_goals
    have A5 := hQ_ ((at4 HS.out A2.out R2.out (.inr rfl) (by decide) (.int .u8 sk) (.int .u32 sl) (.int .u32 sz) (.int .u32 sp)).below HS.out ((Below.refl _ _).drew))
    have R5 := hQ_ (set4 R2.out (.int .u8 sk) (.int .u32 sl) (.int .u32 sz) (.int .u32 sp)).drew
    go_wp2_with fail
    exact bodyPost_ret (v := .tuple #[.int .u32 si,.agg #[.int .u8 sk,.int .u32 sl,.int .u32 sz,.int .u32 sp],.int .i64 0]) (results_tct rfl _ _ w.heap.size 59 _ (0,0) _ rfl (.int .u32 si) rfl (.int .i64 0) rfl R5.out Tryz.underlying59 rfl info_ino) rfl ⟨s2,S2,D2,rfl,A5.out.rep,A5.out.st,HF.out⟩
 ·rw [if_pos he]
  have d0 : (er != 0) = true := by simpa using he
  clear he
  go_enter Tryz.func77,Tryz.ntmps77
  go_wp2_with fail
  rw [HW.out]
  go_wp2_with fail
  refine (HFI.out _ _ _ A0.out.rep HX.out).mono ?_
  rintro e w2 ⟨s2,S2,D2,rfl,hr2,st2,hf⟩
  have hbn := bN_ w2 (.cells #[.int .u32 sd,.string sn,.int .u32 si,.int .u8 sk,.int .u32 sl,.int .u32 sz,.int .u32 sp] 65)
  have A2 := hQ_ ((A0.out.step HS.out hr2 st2).below HS.out hbn)
  have R2 := hQ_ ((A0.out.blk HS.out R0.out (.inr rfl) st2).below hbn)
  have HF := hQ_ hf
  clear hr2 st2 hf hbn
  go_wp2_with ((with_reducible refine pick none ?_); refine store_blk rfl 59 _ _ rfl w.heap.size #[.int .u8 0,.int .u32 0,.int .u32 0,.int .u32 0] rfl rfl 59 _ R2.out info_ino rfl (by simp [Value.oneCell']) ?_; intro w5 hk5 hg5)
  have A5 := A2.out.stored HS.out R2.out (.inr rfl) (by decide) hg5
  exact bodyPost_ret (v := .tuple #[.int .u32 0,.agg #[.int .u8 0,.int .u32 0,.int .u32 0,.int .u32 0],.int .i64 er]) (results_tct rfl _ _ w.heap.size 59 _ (0,0) _ rfl (.int .u32 0) rfl (.int .i64 er) rfl hk5 Tryz.underlying59 rfl info_ino) rfl ⟨s2,S2,D2,rfl,A5.rep,A5.st,HF.out⟩
end Go.Proofs.YtepjjndfodcggaaGreatDoor.DirsKc
namespace Go.Proofs.YtepjjndfodcggaaGreatDoor.DirsKd
open Go.RowKit
open Byte KeysM TreeM ViewM ViewKm NodeM NodeG NamesM NamesL WalkM WalkF WalkKm DirsV Lst Chg TreeL ViewL WalkL WalkV Vat WalkKa WalkKb DirsK DirsKa DirsKb DirsKc
open Own hiding keeps
variable {Rep : RepT} {w : World} {v : Value} {s : Vs} {S D : Nat → Prop}
theorem when_t (er : Int) (w : World) : Calls Tryz.prog 72 #[.bool true,.int .i64 er] w fun e w' => e = .returned (.int .i64 er) ∧ w = w' := when_calls true er w
theorem when_f (er : Int) (w : World) : Calls Tryz.prog 72 #[.bool false,.int .i64 er] w fun e w' => e = .returned (.int .i64 0) ∧ w = w' := when_calls false er w
def FndC (Rep : RepT) (v : Value) (s t : Vs) (y : Spot) (er : Int) (S D : Nat → Prop) (w : World) (e : Ending) (w' : World) : Prop := ∃ s' S' D',e = .returned (.tuple #[.agg #[.int .u32 y.dir,.string y.name,.int .u32 y.ino,.int .u8 y.node.k,.int .u32 y.node.l,.int .u32 y.node.s,.int .u32 y.node.p],.int .i64 er]) ∧ Rep w' v s' S' D' ∧ Stp S D S' D' w w' ∧ Sm s' t ∧ s'.rd.length ≤ t.rd.length + 40 ∧ s'.rg.length ≤ t.rg.length
theorem find_c (hW : Wk Rep) {w : World} {v : Value} {s t : Vs} {S D : Nat → Prop} (path : ByteArray) {y : Spot} {er : Int} (hy : findM s.shown path = (y,er)) (hr : Rep w v t S D) (hsm : Sm t s) (hl : Lim t) (h2 : t.rd.length ≤ 19000) (hp : path.size ≤ 100000) (hx : Mx w) : Calls Tryz.prog 28 #[v,.string path] w (FndC Rep v s t y er S D w) := by
 refine (hW.find path hr hl h2 hp hx).mono ?_
 rw [hsm.shown,hy]
 rintro e w' ⟨s',S',D',he,hr',st,hf⟩
 exact ⟨s',S',D',he,hr',st,Sm.of_find hf,hf.len,Nat.le_of_eq (by rw [hf.rg])⟩
def LeadC (Rep : RepT) (v : Value) (s t : Vs) (i : Int) (n : Ino) (er : Int) (S D : Nat → Prop) (w : World) (e : Ending) (w' : World) : Prop := ∃ s' S' D',e = .returned (.tuple #[.int .u32 i,.agg #[.int .u8 n.k,.int .u32 n.l,.int .u32 n.s,.int .u32 n.p],.int .i64 er]) ∧ Rep w' v s' S' D' ∧ Stp S D S' D' w w' ∧ Sm s' t ∧ s'.rd.length ≤ t.rd.length + 40 ∧ s'.rg.length ≤ t.rg.length
theorem lead_c (hW : Wk Rep) {w : World} {v : Value} {s t : Vs} {S D : Nat → Prop} (path : ByteArray) {i : Int} {n : Ino} {er : Int} (hy : leadM s.shown path = (i,n,er)) (hr : Rep w v t S D) (hsm : Sm t s) (hl : Lim t) (h2 : t.rd.length ≤ 19000) (hp : path.size ≤ 100000) (hx : Mxs w S) : Calls Tryz.prog 77 #[v,.string path] w (LeadC Rep v s t i n er S D w) := by
 refine (lead_calls hW path hr hl h2 hp hx).mono ?_
 rw [hsm.shown,hy]
 rintro e w' ⟨s',S',D',he,hr',st,hf⟩
 exact ⟨s',S',D',he,hr',st,Sm.of_find hf,hf.len,Nat.le_of_eq (by rw [hf.rg])⟩
theorem Aft.found {s t t' : Vs} {ps : List Wrt} {k m : Nat} (h : Aft s t ps k m) (hs : Sm t' t) (h1 : t'.rd.length ≤ t.rd.length + 40) (h2 : t'.rg.length ≤ t.rg.length) : Aft s t' ps (k + 40) m := ⟨hs.trans h.sm,by have := h.rd; omega,by have := h.rg; omega⟩
theorem Aft.sm0 {s t : Vs} {k m : Nat} (h : Aft s t [] k m) : Sm t s := h.sm
theorem Aft.thru {s t s' : Vs} {ps : List Wrt} {a b k m : Nat} {x : Bool} (C : Aft s t [] a b ∧ (goW s []).2 = true) (h : Aft t s' ps k m ∧ (goW t ps).2 = x) : Aft s s' ps (a + k) (b + m) ∧ (goW s ps).2 = x := by
 have h1 := h.1.from_ (Aft.sm0 C.1) C.1.rd C.1.rg
 exact ⟨h1.1,h1.2.trans h.2⟩
theorem clr_err {L : List Pr} {x : Spot} {d : Bool} (h : (clrV L x d).1 ≠ 0) : (clrV L x d).2 = [] := by
 unfold clrV at h ⊢
 split
 ·rfl
 ·rename_i h0
  rw [if_neg h0] at h
  split
  ·rename_i hd
   rw [if_pos hd] at h
   unfold remV at h ⊢
   split
   ·rfl
   ·rename_i h1
    rw [if_neg h1] at h
    split
    ·rfl
    ·rename_i h2
     rw [if_neg h2] at h
     exact absurd rfl h
  ·rename_i hd
   rw [if_neg hd] at h
   unfold unlV at h ⊢
   split
   ·rfl
   ·rename_i h1
    rw [if_neg h1] at h
    split
    ·rename_i h2
     rw [if_pos h2] at h
     exact absurd rfl h
    ·rename_i h2
     rw [if_neg h2] at h
     exact absurd rfl h
theorem find_ib (L : List Pr) (path : ByteArray) : InoB (findM L path).1.node.k (findM L path).1.node.l (findM L path).1.node.s (findM L path).1.node.p := by
 have hz : InoB 0 0 0 0 := ⟨by decide,by decide,by decide,by decide,by decide,by decide,by decide,by decide⟩
 have hl : ∀ i,InoB (loadM L i).1.k (loadM L i).1.l (loadM L i).1.s (loadM L i).1.p := fun i => by
  have := load_k L i
  exact ⟨this.1,this.2.1,this.2.2.1,this.2.2.2.1,this.2.2.2.2.1,this.2.2.2.2.2.1,this.2.2.2.2.2.2.1,this.2.2.2.2.2.2.2⟩
 unfold findM
 split
 ·exact hz
 ·suffices H : ∀ (l : List ByteArray) (x : Spot),InoB x.node.k x.node.l x.node.s x.node.p → InoB (findL L x l).1.node.k (findL L x l).1.node.l (findL L x l).1.node.s (findL L x l).1.node.p from H _ _ (hl 1)
  intro l
  induction l with
  | nil => intro x h; exact h
  | cons n r ih =>
    intro x h
    unfold findL
    split
    ·exact hz
    ·split
     ·exact hz
     ·refine ih _ ?_
      unfold stepM
      split
      ·exact hl _
      ·exact hz
theorem unlink_calls (hW0 : Wk Rep) (xd xi xk xl xz xp : Int) (xn : ByteArray) (hr : Rep w v s S D) (hl : Lim s) (h2 : s.rd.length ≤ 19900) (h3 : s.rg.length ≤ 990) (hd0 : 0 ≤ xd) (hd1 : xd ≤ 4294967295) (hi0 : 0 ≤ xi) (hi1 : xi ≤ 4294967295) (hn0 : xn.size ≤ 32) (hb : InoB xk xl xz xp) (hk : ∀ p ∈ s.shown,(sp p.key).letter ≠ 0) (hnb : ∀ p ∈ s.shown,blkB xi p = false) :
 Calls Tryz.prog 80 #[v,.agg #[.int .u32 xd,.string xn,.int .u32 xi,.int .u8 xk,.int .u32 xl,.int .u32 xz,.int .u32 xp]] w (Ans Rep v s (unlV ⟨xd,xn,xi,⟨xk,xl,xz,xp⟩⟩).1 (unlV ⟨xd,xn,xi,⟨xk,xl,xz,xp⟩⟩).2 1 1 S D w) := by
 unfold unlV
 dsimp only
 by_cases h1 : xk = 1
 ·rw [if_neg (fun h => h h1)]
  by_cases hl1 : 1 < xl
  ·rw [if_pos hl1]
   exact unlink_more hW0 xd xi xk xl xz xp xn hr hl h2 h3 hd0 hd1 hi0 hi1 (by omega) hb hk hnb h1 hl1
  ·rw [if_neg hl1]
   exact unlink_last hW0 xd xi xk xl xz xp xn hr hl h2 h3 hd0 hd1 hi0 hi1 (by omega) hb hk hnb h1 (by omega) hn0
 ·rw [if_pos h1]
  exact unlink_no hW0 xd xi xk xl xz xp xn hr hl h2 h3 hd0 hd1 hi0 hi1 (by omega) hb hk hnb h1
theorem move_calls (hW0 : Wk Rep) (xd xi xk xl xz xp : Int) (xn : ByteArray) (yd yi yk yl yz yp : Int) (yn : ByteArray) (hr : Rep w v s S D) (hl : Lim s) (h2 : s.rd.length ≤ 19900) (h3 : s.rg.length ≤ 990) (hd0 : 0 ≤ xd) (hd1 : xd ≤ 4294967295) (hi0 : 0 ≤ xi) (hi1 : xi ≤ 4294967295) (hn0 : xn.size ≤ 100000) (jd0 : 0 ≤ yd) (jd1 : yd ≤ 4294967295) (ji0 : 0 ≤ yi) (ji1 : yi ≤ 4294967295) (jn0 : yn.size ≤ 100000) :
 Calls Tryz.prog 76 #[v,.agg #[.int .u32 xd,.string xn,.int .u32 xi,.int .u8 xk,.int .u32 xl,.int .u32 xz,.int .u32 xp],.agg #[.int .u32 yd,.string yn,.int .u32 yi,.int .u8 yk,.int .u32 yl,.int .u32 yz,.int .u32 yp]] w (Wrote Rep v s (movPs ⟨xd,xn,xi,⟨xk,xl,xz,xp⟩⟩ ⟨yd,yn,yi,⟨yk,yl,yz,yp⟩⟩) 3 0 S D w) := by
 unfold movPs
 dsimp only
 by_cases h : xk = 2 ∧ xd ≠ yd
 ·rw [if_pos h]
  exact move_far hW0 xd xi xk xl xz xp xn yd yi yk yl yz yp yn hr hl h2 h3 hd0 hd1 hi0 hi1 hn0 jd0 jd1 ji0 ji1 jn0 h.1 h.2
 ·rw [if_neg h]
  exact move_near hW0 xd xi xk xl xz xp xn yd yi yk yl yz yp yn hr hl h2 h3 hd0 hd1 hi0 hi1 hn0 jd0 jd1 ji0 ji1 jn0 (fun hk => Classical.byContradiction fun hne => h ⟨hk,hne⟩)
theorem replace_none (hW0 : Wk Rep) (xd xi xk xl xz xp kind : Int) (xn : ByteArray) (hr : Rep w v s S D) (hl : Lim s) (h2 : s.rd.length ≤ 19900) (h3 : s.rg.length ≤ 990) (hd0 : 0 ≤ xd) (hd1 : xd ≤ 4294967295) (hi0 : 0 ≤ xi) (hi1 : xi ≤ 4294967295) (hn0 : xn.size ≤ 32) (hb : InoB xk xl xz xp) (d : Bool) (hi : xi = 0) :
 Calls Tryz.prog 74 #[v,.agg #[.int .u32 xd,.string xn,.int .u32 xi,.int .u8 xk,.int .u32 xl,.int .u32 xz,.int .u32 xp],.int .u8 kind] w (Ans Rep v s (clrV s.shown ⟨xd,xn,xi,⟨xk,xl,xz,xp⟩⟩ d).1 (clrV s.shown ⟨xd,xn,xi,⟨xk,xl,xz,xp⟩⟩ d).2 1 1 S D w) := by
 obtain ⟨W,hW⟩ : ∃ W,w.alloc (.cells #[.int .u32 xd,.string xn,.int .u32 xi,.int .u8 xk,.int .u32 xl,.int .u32 xz,.int .u32 xp] 65) = W := ⟨_,rfl⟩
 have hbW : Below w.heap.size w W := by rw [← hW]; exact bW_
 have A0 := hQ_ ((At.start hr).own hW0.stays hbW (Nat.le_refl w.heap.size) (by rw [← hW]; simp))
 have X0 := hQ_ (show Blk W w.heap.size #[.int .u32 xd,.string xn,.int .u32 xi,.int .u8 xk,.int .u32 xl,.int .u32 xz,.int .u32 xp] 65 from hW ▸ Blk.new_ w _ _)
 have HW := hQ_ hW
 have C0 := hQ_ (aft0 s)
 have f0_X0 := cC7 X0.out
 have HV : clrV s.shown ⟨xd,xn,xi,⟨xk,xl,xz,xp⟩⟩ d = (0,[]) := if_pos hi
 rw [HV]
 dsimp only
 have d1 : (xi == 0) = true := by simpa using hi
 clear hr hl hW hbW HV hi hb
 go_enter Tryz.func74,Tryz.ntmps74
 go_wp2_with fail
 rw [HW.out]
 go_wp2_with fail
 go_ret
 exact Ans.ok A0.out ⟨C0.out.1.more (by omega) (by omega),C0.out.2⟩
theorem replace_dir (hW0 : Wk Rep) (xd xi xk xl xz xp kind : Int) (xn : ByteArray) (hr : Rep w v s S D) (hl : Lim s) (h2 : s.rd.length ≤ 19900) (h3 : s.rg.length ≤ 990) (hd0 : 0 ≤ xd) (hd1 : xd ≤ 4294967295) (hi0 : 0 ≤ xi) (hi1 : xi ≤ 4294967295) (hn0 : xn.size ≤ 32) (hb : InoB xk xl xz xp) (hi : xi ≠ 0) (hkd : kind = 2) (hk : ∀ p ∈ s.shown,(sp p.key).letter ≠ 0) :
 Calls Tryz.prog 74 #[v,.agg #[.int .u32 xd,.string xn,.int .u32 xi,.int .u8 xk,.int .u32 xl,.int .u32 xz,.int .u32 xp],.int .u8 kind] w (Ans Rep v s (clrV s.shown ⟨xd,xn,xi,⟨xk,xl,xz,xp⟩⟩ true).1 (clrV s.shown ⟨xd,xn,xi,⟨xk,xl,xz,xp⟩⟩ true).2 1 1 S D w) := by
 obtain ⟨W,hW⟩ : ∃ W,w.alloc (.cells #[.int .u32 xd,.string xn,.int .u32 xi,.int .u8 xk,.int .u32 xl,.int .u32 xz,.int .u32 xp] 65) = W := ⟨_,rfl⟩
 have hbW : Below w.heap.size w W := by rw [← hW]; exact bW_
 have A0 := hQ_ ((At.start hr).own hW0.stays hbW (Nat.le_refl w.heap.size) (by rw [← hW]; simp))
 have X0 := hQ_ (show Blk W w.heap.size #[.int .u32 xd,.string xn,.int .u32 xi,.int .u8 xk,.int .u32 xl,.int .u32 xz,.int .u32 xp] 65 from hW ▸ Blk.new_ w _ _)
 have HW := hQ_ hW
 have HS := hQ_ hW0.stays
 have f0_X0 := cC7 X0.out
 have HV : clrV s.shown ⟨xd,xn,xi,⟨xk,xl,xz,xp⟩⟩ true = remV s.shown ⟨xd,xn,xi,⟨xk,xl,xz,xp⟩⟩ := by unfold clrV; rw [if_neg hi,if_pos rfl]
 rw [HV]
 have d1 : (xi == 0) = false := by simpa using hi
 have d2 : (kind == 2) = true := by simpa using hkd
 have HC := hQ_ (fun w (S D : Nat → Prop) (hr : Rep w v s S D) => remove_calls hW0 xd xi xk xl xz xp xn hr hl h2 h3 hd0 hd1 hi0 hi1 (by omega) hk)
 obtain ⟨⟨rx,ps⟩,hrx⟩ : ∃ r,remV s.shown ⟨xd,xn,xi,⟨xk,xl,xz,xp⟩⟩ = r := ⟨_,rfl⟩
 rw [hrx] at HC ⊢
 dsimp only at HC ⊢
 clear hr hl hW hbW HV hi hb hkd hrx hk
 go_enter Tryz.func74,Tryz.ntmps74
 go_wp2_with fail
 rw [HW.out]
 go_wp2_with fail
 refine (HC.out _ _ _ A0.out.rep).mono ?_
 intro e w1 hh
 rcases Ans.split hh with ⟨s1,S1,D1,rfl,ho,hr,st,ha⟩ | ⟨s1,S1,D1,rfl,ho,hr,st,ha⟩
 ·have A1 := hQ_ (A0.out.step HS.out hr st)
  have HA := hQ_ (And.intro ha ho)
  clear hr st ha ho
  go_wp2_with fail
  go_ret
  exact Ans.ok A1.out HA.out
 ·have A1 := hQ_ (A0.out.step HS.out hr st)
  have HA := hQ_ (And.intro ha ho)
  clear hr st ha ho
  go_wp2_with fail
  go_ret
  exact Ans.full A1.out HA.out
theorem replace_file (hW0 : Wk Rep) (xd xi xk xl xz xp kind : Int) (xn : ByteArray) (hr : Rep w v s S D) (hl : Lim s) (h2 : s.rd.length ≤ 19900) (h3 : s.rg.length ≤ 990) (hd0 : 0 ≤ xd) (hd1 : xd ≤ 4294967295) (hi0 : 0 ≤ xi) (hi1 : xi ≤ 4294967295) (hn0 : xn.size ≤ 32) (hb : InoB xk xl xz xp) (hi : xi ≠ 0) (hkd : kind ≠ 2) (hk : ∀ p ∈ s.shown,(sp p.key).letter ≠ 0) (hnb : ∀ p ∈ s.shown,blkB xi p = false) :
 Calls Tryz.prog 74 #[v,.agg #[.int .u32 xd,.string xn,.int .u32 xi,.int .u8 xk,.int .u32 xl,.int .u32 xz,.int .u32 xp],.int .u8 kind] w (Ans Rep v s (clrV s.shown ⟨xd,xn,xi,⟨xk,xl,xz,xp⟩⟩ false).1 (clrV s.shown ⟨xd,xn,xi,⟨xk,xl,xz,xp⟩⟩ false).2 1 1 S D w) := by
 obtain ⟨W,hW⟩ : ∃ W,w.alloc (.cells #[.int .u32 xd,.string xn,.int .u32 xi,.int .u8 xk,.int .u32 xl,.int .u32 xz,.int .u32 xp] 65) = W := ⟨_,rfl⟩
 have hbW : Below w.heap.size w W := by rw [← hW]; exact bW_
 have A0 := hQ_ ((At.start hr).own hW0.stays hbW (Nat.le_refl w.heap.size) (by rw [← hW]; simp))
 have X0 := hQ_ (show Blk W w.heap.size #[.int .u32 xd,.string xn,.int .u32 xi,.int .u8 xk,.int .u32 xl,.int .u32 xz,.int .u32 xp] 65 from hW ▸ Blk.new_ w _ _)
 have HW := hQ_ hW
 have HS := hQ_ hW0.stays
 have f0_X0 := cC7 X0.out
 have HV : clrV s.shown ⟨xd,xn,xi,⟨xk,xl,xz,xp⟩⟩ false = unlV ⟨xd,xn,xi,⟨xk,xl,xz,xp⟩⟩ := by unfold clrV; rw [if_neg hi,if_neg (by decide)]
 rw [HV]
 have d1 : (xi == 0) = false := by simpa using hi
 have d2 : (kind == 2) = false := by simpa using hkd
 have HC := hQ_ (fun w (S D : Nat → Prop) (hr : Rep w v s S D) => unlink_calls hW0 xd xi xk xl xz xp xn hr hl h2 h3 hd0 hd1 hi0 hi1 hn0 hb hk hnb)
 obtain ⟨⟨rx,ps⟩,hrx⟩ : ∃ r,unlV ⟨xd,xn,xi,⟨xk,xl,xz,xp⟩⟩ = r := ⟨_,rfl⟩
 rw [hrx] at HC ⊢
 dsimp only at HC ⊢
 clear hr hl hW hbW HV hi hb hkd hrx hk hnb
 go_enter Tryz.func74,Tryz.ntmps74
 go_wp2_with fail
 rw [HW.out]
 go_wp2_with fail
 refine (HC.out _ _ _ A0.out.rep).mono ?_
 intro e w1 hh
 rcases Ans.split hh with ⟨s1,S1,D1,rfl,ho,hr,st,ha⟩ | ⟨s1,S1,D1,rfl,ho,hr,st,ha⟩
 ·have A1 := hQ_ (A0.out.step HS.out hr st)
  have HA := hQ_ (And.intro ha ho)
  clear hr st ha ho
  go_wp2_with fail
  go_ret
  exact Ans.ok A1.out HA.out
 ·have A1 := hQ_ (A0.out.step HS.out hr st)
  have HA := hQ_ (And.intro ha ho)
  clear hr st ha ho
  go_wp2_with fail
  go_ret
  exact Ans.full A1.out HA.out
theorem replace_calls (hW0 : Wk Rep) (xd xi xk xl xz xp kind : Int) (xn : ByteArray) (hr : Rep w v s S D) (hl : Lim s) (h2 : s.rd.length ≤ 19900) (h3 : s.rg.length ≤ 990) (hd0 : 0 ≤ xd) (hd1 : xd ≤ 4294967295) (hi0 : 0 ≤ xi) (hi1 : xi ≤ 4294967295) (hn0 : xn.size ≤ 32) (hb : InoB xk xl xz xp) (hk : ∀ p ∈ s.shown,(sp p.key).letter ≠ 0) (hnb : ∀ p ∈ s.shown,blkB xi p = false) :
 Calls Tryz.prog 74 #[v,.agg #[.int .u32 xd,.string xn,.int .u32 xi,.int .u8 xk,.int .u32 xl,.int .u32 xz,.int .u32 xp],.int .u8 kind] w (Ans Rep v s (clrV s.shown ⟨xd,xn,xi,⟨xk,xl,xz,xp⟩⟩ (decide (kind = 2))).1 (clrV s.shown ⟨xd,xn,xi,⟨xk,xl,xz,xp⟩⟩ (decide (kind = 2))).2 1 1 S D w) := by
 by_cases hi : xi = 0
 ·exact replace_none hW0 xd xi xk xl xz xp kind xn hr hl h2 h3 hd0 hd1 hi0 hi1 hn0 hb _ hi
 ·by_cases hkd : kind = 2
  ·rw [decide_eq_true hkd]
   exact replace_dir hW0 xd xi xk xl xz xp kind xn hr hl h2 h3 hd0 hd1 hi0 hi1 hn0 hb hi hkd hk
  ·rw [decide_eq_false hkd]
   exact replace_file hW0 xd xi xk xl xz xp kind xn hr hl h2 h3 hd0 hd1 hi0 hi1 hn0 hb hi hkd hk hnb
theorem aftF {s t t' : Vs} {k m : Nat} (C : Aft s t [] k m ∧ (goW s []).2 = true) (hs : Sm t' t) (h1 : t'.rd.length ≤ t.rd.length + 40) (h2 : t'.rg.length ≤ t.rg.length) : Aft s t' [] (k + 40) m ∧ (goW s []).2 = true := ⟨Aft.found C.1 hs h1 h2,rfl⟩
end Go.Proofs.YtepjjndfodcggaaGreatDoor.DirsKd
namespace Go.Proofs.YtepjjndfodcggaaGreatDoor.DirsKe
open Go.RowKit
open Byte KeysM TreeM ViewM ViewKm NodeM NodeG NamesM NamesL WalkM WalkF WalkKm DirsV Lst Chg TreeL ViewL WalkL WalkV Vat WalkKa WalkKb DirsK DirsKa DirsKb DirsKc DirsKd
open Own hiding keeps
variable {Rep : RepT} {w : World} {v : Value} {s : Vs} {S D : Nat → Prop}
theorem first_2g (a b : Int) (w : World) (g : Nat) (hg : w.heap.size = g) : Calls Tryz.prog 71 #[.slice (some ⟨g,0,none⟩) 2 2] (w.alloc (.cells #[.int .i64 a,.int .i64 b] 66)) fun e w' => e = .returned (.int .i64 (fst_ [a,b])) ∧ (w.alloc (.cells #[.int .i64 a,.int .i64 b] 66)) = w' := by
 subst hg
 exact first_2 a b w
theorem first_2d (a b : Int) (w : World) (g : Nat) (hg : w.heap.size = g) : Calls Tryz.prog 71 #[.slice (some ⟨g,0,none⟩) 2 2] (w.alloc (.cells #[.int .i64 a,.int .i64 b] 66)).drew fun e w' => e = .returned (.int .i64 (fst_ [a,b])) ∧ (w.alloc (.cells #[.int .i64 a,.int .i64 b] 66)).drew = w' := by
 subst hg
 exact first_calls _ 2 2 [a,b] _ ((So.lit erE 66 w (base := w.heap.size) [a,b] #[.int .i64 a,.int .i64 b] 2 rfl rfl (Nat.le_refl _) (by decide)).sl.below ((Below.refl _ _).drew)) (by decide)
theorem first_2b (a b : Int) (w : World) (g : Nat) (hg : w.heap.size = g) : (Calls Tryz.prog 71 #[.slice (some ⟨g,0,none⟩) 2 2] (w.alloc (.cells #[.int .i64 a,.int .i64 b] 66)) fun e w' => e = .returned (.int .i64 (fst_ [a,b])) ∧ (w.alloc (.cells #[.int .i64 a,.int .i64 b] 66)) = w') ∧ (Calls Tryz.prog 71 #[.slice (some ⟨g,0,none⟩) 2 2] (w.alloc (.cells #[.int .i64 a,.int .i64 b] 66)).drew fun e w' => e = .returned (.int .i64 (fst_ [a,b])) ∧ (w.alloc (.cells #[.int .i64 a,.int .i64 b] 66)).drew = w') := ⟨first_2g a b w g hg,first_2d a b w g hg⟩
theorem make_err (hW0 : Wk Rep) (path : ByteArray) (kind ino : Int) {xd xi xk xl xz xp er : Int} {xn : ByteArray} (hr : Rep w v s S D) (hl : Lim s) (h2 : s.rd.length ≤ 18000) (h3 : s.rg.length ≤ 900) (hx : Mxs w S) (hp : path.size ≤ 100000) (k0 : 0 ≤ kind) (k1 : kind ≤ 255) (i0 : 0 ≤ ino) (i1 : ino ≤ 4294967295) (hR : findM s.shown path = (⟨xd,xn,xi,⟨xk,xl,xz,xp⟩⟩,er)) (he : er ≠ 0) :
 Calls Tryz.prog 43 #[v,.string path,.int .u8 kind,.int .u32 ino] w (Ans Rep v s er [] 41 0 S D w) := by
 have A0 := hQ_ (At.start hr)
 have HX := hQ_ hx
 have HS := hQ_ hW0.stays
 have HL := hQ_ hl
 have C0 := hQ_ (aft0 s)
 have HWT := hQ_ when_t
 have HWF := hQ_ when_f
 have HFI := hQ_ (fun w (S D : Nat → Prop) (t : Vs) (hr : Rep w v t S D) (hsm : Sm t s) hl h2 hx => find_c hW0 path hR hr hsm hl h2 hp hx)
 unfold FndC at HFI
 have hsb := find_bd s.shown path
 rw [hR] at hsb
 obtain ⟨hd0,hd1,hi0,hi1,hn0⟩ := hsb
 dsimp only at hd0 hd1 hi0 hi1 hn0 HFI
 have d0 : (er != 0) = true := by simpa using he
 clear hr hl hp hR hx hW0
 by_cases h0 : xi = 0
 ·have d1 : (xi != 0) = false := by simpa using h0
  clear h0
  go_enter Tryz.func43,Tryz.ntmps43
  go_wp2_with fail
  refine (HFI.out _ _ _ _ A0.out.rep (Aft.sm0 C0.out.1) (lim_aft C0.out.1 HL.out (by omega) (by omega)) (by have := C0.out.1.rd; omega) (HX.out.at_ A0.out).1).mono ?_
  rintro e w1 ⟨s1,S1,D1,rfl,hr,st,hsm,hrd,hrg⟩
  have C1 := hQ_ (aftF C0.out hsm hrd hrg)
  have X1 := hQ_ (Blk.new_ w1 #[.int .u32 xd,.string xn,.int .u32 xi,.int .u8 xk,.int .u32 xl,.int .u32 xz,.int .u32 xp] 65)
  have hbn := bX_ X1.out
  have AQ := A0.out.step HS.out hr st
  have A1 := hQ_ (AQ.own HS.out hbn (Nat.le_refl w1.heap.size) (by simp))
  have f1_X0 := cC7 X1.out
  clear hr st hsm hrd hrg hbn AQ
  have FE2 : fst_ [er,0] = er := by unfold fst_; rw [if_neg he]
  have HF2 := hQ_ (first_2b (er) (0) (w1.alloc (.cells #[.int .u32 xd,.string xn,.int .u32 xi,.int .u8 xk,.int .u32 xl,.int .u32 xz,.int .u32 xp] 65)) (w1.heap.size + 1) (by simp))
  rw [FE2] at HF2
  clear FE2
  go_upto_region 2 with (fail)
  go_cut [11] (fun p wx => p = .int .i64 (er) ∧ BL_ (w1.alloc (.cells #[.int .u32 xd,.string xn,.int .u32 xi,.int .u8 xk,.int .u32 xl,.int .u32 xz,.int .u32 xp] 65)) wx)
  case first =>
   go_wp2_with (first | (go_at_call 72; (with_reducible refine (HWT.out _ _).mono ?_); rintro e w9 ⟨rfl,rfl⟩) | (go_at_call 72; (with_reducible refine (HWF.out _ _).mono ?_); rintro e w9 ⟨rfl,rfl⟩) | (go_at_call 71; (with_reducible refine HF2.out.1.mono ?_); rintro e w9 ⟨rfl,rfl⟩))
   all_goals
    go_meet
    exact fB_
  case rest =>
   obtain ⟨rfl,hbc⟩ := hcut
   have A2 := hQ_ (A1.out.below HS.out hbc)
   have X2 := hQ_ (X1.out.below hbc)
   skip
   have f2_X0 := cC7 X2.out
   clear hbc f1_X0
   clear he
   go_wp2_with fail
   go_ret
   exact Ans.ok A2.out ⟨C1.out.1.more (by omega) (by omega),C1.out.2⟩
 ·have d1 : (xi != 0) = true := by simpa using h0
  clear h0
  go_enter Tryz.func43,Tryz.ntmps43
  go_wp2_with fail
  refine (HFI.out _ _ _ _ A0.out.rep (Aft.sm0 C0.out.1) (lim_aft C0.out.1 HL.out (by omega) (by omega)) (by have := C0.out.1.rd; omega) (HX.out.at_ A0.out).1).mono ?_
  rintro e w3 ⟨s3,S3,D3,rfl,hr,st,hsm,hrd,hrg⟩
  have C3 := hQ_ (aftF C0.out hsm hrd hrg)
  have X3 := hQ_ (Blk.new_ w3 #[.int .u32 xd,.string xn,.int .u32 xi,.int .u8 xk,.int .u32 xl,.int .u32 xz,.int .u32 xp] 65)
  have hbn := bX_ X3.out
  have AQ := A0.out.step HS.out hr st
  have A3 := hQ_ (AQ.own HS.out hbn (Nat.le_refl w3.heap.size) (by simp))
  have f3_X0 := cC7 X3.out
  clear hr st hsm hrd hrg hbn AQ
  have FE4 : fst_ [er,11] = er := by unfold fst_; rw [if_neg he]
  have HF4 := hQ_ (first_2b (er) (11) (w3.alloc (.cells #[.int .u32 xd,.string xn,.int .u32 xi,.int .u8 xk,.int .u32 xl,.int .u32 xz,.int .u32 xp] 65)) (w3.heap.size + 1) (by simp))
  rw [FE4] at HF4
  clear FE4
  go_upto_region 2 with (fail)
  go_cut [11] (fun p wx => p = .int .i64 (er) ∧ BL_ (w3.alloc (.cells #[.int .u32 xd,.string xn,.int .u32 xi,.int .u8 xk,.int .u32 xl,.int .u32 xz,.int .u32 xp] 65)) wx)
  case first =>
   go_wp2_with (first | (go_at_call 72; (with_reducible refine (HWT.out _ _).mono ?_); rintro e w9 ⟨rfl,rfl⟩) | (go_at_call 72; (with_reducible refine (HWF.out _ _).mono ?_); rintro e w9 ⟨rfl,rfl⟩) | (go_at_call 71; (with_reducible refine HF4.out.1.mono ?_); rintro e w9 ⟨rfl,rfl⟩))
   all_goals
    go_meet
    exact fB_
  case rest =>
   obtain ⟨rfl,hbc⟩ := hcut
   have A4 := hQ_ (A3.out.below HS.out hbc)
   have X4 := hQ_ (X3.out.below hbc)
   skip
   have f4_X0 := cC7 X4.out
   clear hbc f3_X0
   clear he
   go_wp2_with fail
   go_ret
   exact Ans.ok A4.out ⟨C3.out.1.more (by omega) (by omega),C3.out.2⟩
theorem make_there (hW0 : Wk Rep) (path : ByteArray) (kind ino : Int) {xd xi xk xl xz xp er : Int} {xn : ByteArray} (hr : Rep w v s S D) (hl : Lim s) (h2 : s.rd.length ≤ 18000) (h3 : s.rg.length ≤ 900) (hx : Mxs w S) (hp : path.size ≤ 100000) (k0 : 0 ≤ kind) (k1 : kind ≤ 255) (i0 : 0 ≤ ino) (i1 : ino ≤ 4294967295) (hR : findM s.shown path = (⟨xd,xn,xi,⟨xk,xl,xz,xp⟩⟩,er)) (he : er = 0) (h0 : xi ≠ 0) :
 Calls Tryz.prog 43 #[v,.string path,.int .u8 kind,.int .u32 ino] w (Ans Rep v s 11 [] 41 0 S D w) := by
 have A0 := hQ_ (At.start hr)
 have HX := hQ_ hx
 have HS := hQ_ hW0.stays
 have HL := hQ_ hl
 have C0 := hQ_ (aft0 s)
 have HWT := hQ_ when_t
 have HWF := hQ_ when_f
 have HFI := hQ_ (fun w (S D : Nat → Prop) (t : Vs) (hr : Rep w v t S D) (hsm : Sm t s) hl h2 hx => find_c hW0 path hR hr hsm hl h2 hp hx)
 unfold FndC at HFI
 have hsb := find_bd s.shown path
 rw [hR] at hsb
 obtain ⟨hd0,hd1,hi0,hi1,hn0⟩ := hsb
 dsimp only at hd0 hd1 hi0 hi1 hn0 HFI
 subst he
 have d1 : (xi != 0) = true := by simpa using h0
 clear hr hl hp hR hx hW0 h0
 go_enter Tryz.func43,Tryz.ntmps43
 go_wp2_with fail
 refine (HFI.out _ _ _ _ A0.out.rep (Aft.sm0 C0.out.1) (lim_aft C0.out.1 HL.out (by omega) (by omega)) (by have := C0.out.1.rd; omega) (HX.out.at_ A0.out).1).mono ?_
 rintro e w1 ⟨s1,S1,D1,rfl,hr,st,hsm,hrd,hrg⟩
 have C1 := hQ_ (aftF C0.out hsm hrd hrg)
 have X1 := hQ_ (Blk.new_ w1 #[.int .u32 xd,.string xn,.int .u32 xi,.int .u8 xk,.int .u32 xl,.int .u32 xz,.int .u32 xp] 65)
 have hbn := bX_ X1.out
 have AQ := A0.out.step HS.out hr st
 have A1 := hQ_ (AQ.own HS.out hbn (Nat.le_refl w1.heap.size) (by simp))
 have f1_X0 := cC7 X1.out
 clear hr st hsm hrd hrg hbn AQ
 have FE2 : fst_ [0,11] = 11 := rfl
 have HF2 := hQ_ (first_2b (0) (11) (w1.alloc (.cells #[.int .u32 xd,.string xn,.int .u32 xi,.int .u8 xk,.int .u32 xl,.int .u32 xz,.int .u32 xp] 65)) (w1.heap.size + 1) (by simp))
 rw [FE2] at HF2
 clear FE2
 go_upto_region 2 with (fail)
 go_cut [11] (fun p wx => p = .int .i64 (11) ∧ BL_ (w1.alloc (.cells #[.int .u32 xd,.string xn,.int .u32 xi,.int .u8 xk,.int .u32 xl,.int .u32 xz,.int .u32 xp] 65)) wx)
 case first =>
  go_wp2_with (first | (go_at_call 72; (with_reducible refine (HWT.out _ _).mono ?_); rintro e w9 ⟨rfl,rfl⟩) | (go_at_call 72; (with_reducible refine (HWF.out _ _).mono ?_); rintro e w9 ⟨rfl,rfl⟩) | (go_at_call 71; (with_reducible refine HF2.out.1.mono ?_); rintro e w9 ⟨rfl,rfl⟩))
  all_goals
   go_meet
   exact fB_
 case rest =>
  obtain ⟨rfl,hbc⟩ := hcut
  have A2 := hQ_ (A1.out.below HS.out hbc)
  have X2 := hQ_ (X1.out.below hbc)
  skip
  have f2_X0 := cC7 X2.out
  clear hbc f1_X0
  go_wp2_with fail
  go_ret
  exact Ans.ok A2.out ⟨C1.out.1.more (by omega) (by omega),C1.out.2⟩
theorem make_file (hW0 : Wk Rep) (path : ByteArray) (kind ino : Int) {xd xi xk xl xz xp er : Int} {xn : ByteArray} (hr : Rep w v s S D) (hl : Lim s) (h2 : s.rd.length ≤ 18000) (h3 : s.rg.length ≤ 900) (hx : Mxs w S) (hp : path.size ≤ 100000) (k0 : 0 ≤ kind) (k1 : kind ≤ 255) (i0 : 0 ≤ ino) (i1 : ino ≤ 4294967295) (hR : findM s.shown path = (⟨xd,xn,xi,⟨xk,xl,xz,xp⟩⟩,er)) (he : er = 0) (h0 : xi = 0) (hkd : kind = 1) :
 Calls Tryz.prog 43 #[v,.string path,.int .u8 kind,.int .u32 ino] w (Ans Rep v s 0 [saveP ino 1 1 0 0,hangP xd xn ino] 41 0 S D w) := by
 have A0 := hQ_ (At.start hr)
 have HX := hQ_ hx
 have HS := hQ_ hW0.stays
 have HWK := hQ_ hW0
 have HL := hQ_ hl
 have HRO := hQ_ room_calls
 have C0 := hQ_ (aft0 s)
 have HWT := hQ_ when_t
 have HWF := hQ_ when_f
 have HFI := hQ_ (fun w (S D : Nat → Prop) (t : Vs) (hr : Rep w v t S D) (hsm : Sm t s) hl h2 hx => find_c hW0 path hR hr hsm hl h2 hp hx)
 unfold FndC at HFI
 have HNW := hQ_ (fun w => NodeK.new_ok kind xd w k0 k1 (by have := (find_bd s.shown path).d0; rw [hR] at this; exact this) (by have := (find_bd s.shown path).d1; rw [hR] at this; exact this))
 have hsb := find_bd s.shown path
 rw [hR] at hsb
 obtain ⟨hd0,hd1,hi0,hi1,hn0⟩ := hsb
 dsimp only at hd0 hd1 hi0 hi1 hn0 HFI
 subst he
 have d1 : (xi != 0) = false := by simpa using h0
 unfold NodeL.newV at HNW
 rw [if_pos hkd] at HNW
 clear hr hl hp hR hx hW0 h0 hkd
 go_enter Tryz.func43,Tryz.ntmps43
 go_wp2_with fail
 refine (HFI.out _ _ _ _ A0.out.rep (Aft.sm0 C0.out.1) (lim_aft C0.out.1 HL.out (by omega) (by omega)) (by have := C0.out.1.rd; omega) (HX.out.at_ A0.out).1).mono ?_
 rintro e w1 ⟨s1,S1,D1,rfl,hr,st,hsm,hrd,hrg⟩
 have C1 := hQ_ (aftF C0.out hsm hrd hrg)
 have X1 := hQ_ (Blk.new_ w1 #[.int .u32 xd,.string xn,.int .u32 xi,.int .u8 xk,.int .u32 xl,.int .u32 xz,.int .u32 xp] 65)
 have hbn := bX_ X1.out
 have AQ := A0.out.step HS.out hr st
 have A1 := hQ_ (AQ.own HS.out hbn (Nat.le_refl w1.heap.size) (by simp))
 have f1_X0 := cC7 X1.out
 clear hr st hsm hrd hrg hbn AQ
 have FE2 : fst_ [0,0] = 0 := rfl
 have HF2 := hQ_ (first_2b (0) (0) (w1.alloc (.cells #[.int .u32 xd,.string xn,.int .u32 xi,.int .u8 xk,.int .u32 xl,.int .u32 xz,.int .u32 xp] 65)) (w1.heap.size + 1) (by simp))
 rw [FE2] at HF2
 clear FE2
 go_upto_region 2 with (fail)
 go_cut [11] (fun p wx => p = .int .i64 (0) ∧ BL_ (w1.alloc (.cells #[.int .u32 xd,.string xn,.int .u32 xi,.int .u8 xk,.int .u32 xl,.int .u32 xz,.int .u32 xp] 65)) wx)
 case first =>
  go_wp2_with (first | (go_at_call 72; (with_reducible refine (HWT.out _ _).mono ?_); rintro e w9 ⟨rfl,rfl⟩) | (go_at_call 72; (with_reducible refine (HWF.out _ _).mono ?_); rintro e w9 ⟨rfl,rfl⟩) | (go_at_call 71; (with_reducible refine HF2.out.1.mono ?_); rintro e w9 ⟨rfl,rfl⟩))
  all_goals
   go_meet
   exact fB_
 case rest =>
  obtain ⟨rfl,hbc⟩ := hcut
  have A2 := hQ_ (A1.out.below HS.out hbc)
  have X2 := hQ_ (X1.out.below hbc)
  skip
  have f2_X0 := cC7 X2.out
  clear hbc f1_X0
  go_wp2_with fail
  refine (HNW.out _).mono ?_
  rintro e w3 ⟨rfl,hbw⟩
  have hbn := nW_ hbw (.cells #[.int .u8 1,.int .u32 1,.int .u32 0,.int .u32 0] 59)
  have A3 := hQ_ (A2.out.own HS.out hbn hbw.size (by simp))
  have X3 := hQ_ (X2.out.below hbn)
  have I3 := hQ_ (Blk.new_ w3 #[.int .u8 1,.int .u32 1,.int .u32 0,.int .u32 0] 59)
  have f3_X0 := cC7 X3.out
  have f3_I0 := cC4 I3.out
  clear hbw hbn f2_X0
  go_wp2_with fail
  refine (save_w HWK.out ino 1 (1) 0 0 A3.out.rep (lim_aft C1.out.1 HL.out (by omega) (by omega)) (by omega) (by omega) ⟨by omega,by omega,by omega,by omega,by omega,by omega,by omega,by omega⟩).mono ?_
  intro e w4 hh
  rcases Wrote.split hh with ⟨s4,S4,D4,rfl,ho,hr,st,ha⟩ | ⟨s4,S4,D4,rfl,ho,hr,st,ha⟩
  ·obtain ⟨x1,x2⟩ := C1.out.1.app C1.out.2 ha
   have C4 := hQ_ (And.intro x1 (x2.trans ho))
   clear x1 x2 ho ha
   have A4 := hQ_ (A3.out.step HS.out hr st)
   have X4 := hQ_ (A3.out.blk HS.out X3.out (.inl (.inr rfl)) st)
   have I4 := hQ_ (A3.out.blk HS.out I3.out (.inr rfl) st)
   obtain ⟨f4_X0,f4_X1,f4_X2,f4_X3,f4_X4,f4_X5,f4_X6⟩ := cC7 X4.out
   obtain ⟨f4_I0,f4_I1,f4_I2,f4_I3⟩ := cC4 I4.out
   clear st hr f3_X0 f3_I0
   go_wp2_with fail
   refine (hang_w HWK.out xd xn ino A4.out.rep (lim_aft C4.out.1 HL.out (by omega) (by omega)) (by omega) (by omega) (by omega) (by omega) (by omega)).mono ?_
   intro e w5 hh
   rcases Wrote.split hh with ⟨s5,S5,D5,rfl,ho,hr,st,ha⟩ | ⟨s5,S5,D5,rfl,ho,hr,st,ha⟩
   ·obtain ⟨x1,x2⟩ := C4.out.1.app C4.out.2 ha
    have C5 := hQ_ (And.intro x1 (x2.trans ho))
    clear x1 x2 ho ha
    have A5 := hQ_ (A4.out.step HS.out hr st)
    have X5 := hQ_ (A4.out.blk HS.out X4.out (.inl (.inr rfl)) st)
    have I5 := hQ_ (A4.out.blk HS.out I4.out (.inr rfl) st)
    obtain ⟨f5_X0,f5_X1,f5_X2,f5_X3,f5_X4,f5_X5,f5_X6⟩ := cC7 X5.out
    obtain ⟨f5_I0,f5_I1,f5_I2,f5_I3⟩ := cC4 I5.out
    clear st hr f4_X0 f4_X1 f4_X2 f4_X3 f4_X4 f4_X5 f4_X6 f4_I0 f4_I1 f4_I2 f4_I3
    go_wp2_with (go_at_call 75; refine (HRO.out _ _).mono ?_; rintro e w9 ⟨rfl,rfl⟩)
    go_ret
    exact Ans.ok A5.out ⟨C5.out.1.more (by omega) (by omega),C5.out.2⟩
   ·obtain ⟨x1,x2⟩ := C4.out.1.app C4.out.2 ha
    have C5 := hQ_ (And.intro x1 (x2.trans ho))
    clear x1 x2 ho ha
    have A5 := hQ_ (A4.out.step HS.out hr st)
    have X5 := hQ_ (A4.out.blk HS.out X4.out (.inl (.inr rfl)) st)
    have I5 := hQ_ (A4.out.blk HS.out I4.out (.inr rfl) st)
    obtain ⟨f5_X0,f5_X1,f5_X2,f5_X3,f5_X4,f5_X5,f5_X6⟩ := cC7 X5.out
    obtain ⟨f5_I0,f5_I1,f5_I2,f5_I3⟩ := cC4 I5.out
    clear st hr f4_X0 f4_X1 f4_X2 f4_X3 f4_X4 f4_X5 f4_X6 f4_I0 f4_I1 f4_I2 f4_I3
    go_wp2_with (go_at_call 75; refine (HRO.out _ _).mono ?_; rintro e w9 ⟨rfl,rfl⟩)
    go_ret
    exact Ans.full A5.out ⟨(Aft.stop (qs := []) C5.out.1 C5.out.2).1.more (by omega) (by omega),(Aft.stop (qs := []) C5.out.1 C5.out.2).2⟩
  ·obtain ⟨x1,x2⟩ := C1.out.1.app C1.out.2 ha
   have C4 := hQ_ (And.intro x1 (x2.trans ho))
   clear x1 x2 ho ha
   have A4 := hQ_ (A3.out.step HS.out hr st)
   have X4 := hQ_ (A3.out.blk HS.out X3.out (.inl (.inr rfl)) st)
   have I4 := hQ_ (A3.out.blk HS.out I3.out (.inr rfl) st)
   obtain ⟨f4_X0,f4_X1,f4_X2,f4_X3,f4_X4,f4_X5,f4_X6⟩ := cC7 X4.out
   obtain ⟨f4_I0,f4_I1,f4_I2,f4_I3⟩ := cC4 I4.out
   clear st hr f3_X0 f3_I0
   go_wp2_with (go_at_call 75; refine (HRO.out _ _).mono ?_; rintro e w9 ⟨rfl,rfl⟩)
   go_ret
   exact Ans.full A4.out ⟨(Aft.stop (qs := [hangP xd xn ino]) C4.out.1 C4.out.2).1.more (by omega) (by omega),(Aft.stop (qs := [hangP xd xn ino]) C4.out.1 C4.out.2).2⟩
theorem make_dir (hW0 : Wk Rep) (path : ByteArray) (kind ino : Int) {xd xi xk xl xz xp er : Int} {xn : ByteArray} (hr : Rep w v s S D) (hl : Lim s) (h2 : s.rd.length ≤ 18000) (h3 : s.rg.length ≤ 900) (hx : Mxs w S) (hp : path.size ≤ 100000) (k0 : 0 ≤ kind) (k1 : kind ≤ 255) (i0 : 0 ≤ ino) (i1 : ino ≤ 4294967295) (hR : findM s.shown path = (⟨xd,xn,xi,⟨xk,xl,xz,xp⟩⟩,er)) (he : er = 0) (h0 : xi = 0) (hkd : kind ≠ 1) :
 Calls Tryz.prog 43 #[v,.string path,.int .u8 kind,.int .u32 ino] w (Ans Rep v s 0 [saveP ino 2 2 0 xd,hangP xd xn ino,tieP xd 1] 41 0 S D w) := by
 have A0 := hQ_ (At.start hr)
 have HX := hQ_ hx
 have HS := hQ_ hW0.stays
 have HWK := hQ_ hW0
 have HL := hQ_ hl
 have HRO := hQ_ room_calls
 have C0 := hQ_ (aft0 s)
 have HWT := hQ_ when_t
 have HWF := hQ_ when_f
 have HFI := hQ_ (fun w (S D : Nat → Prop) (t : Vs) (hr : Rep w v t S D) (hsm : Sm t s) hl h2 hx => find_c hW0 path hR hr hsm hl h2 hp hx)
 unfold FndC at HFI
 have HNW := hQ_ (fun w => NodeK.new_ok kind xd w k0 k1 (by have := (find_bd s.shown path).d0; rw [hR] at this; exact this) (by have := (find_bd s.shown path).d1; rw [hR] at this; exact this))
 have hsb := find_bd s.shown path
 rw [hR] at hsb
 obtain ⟨hd0,hd1,hi0,hi1,hn0⟩ := hsb
 dsimp only at hd0 hd1 hi0 hi1 hn0 HFI
 subst he
 have d1 : (xi != 0) = false := by simpa using h0
 unfold NodeL.newV at HNW
 rw [if_neg hkd] at HNW
 clear hr hl hp hR hx hW0 h0 hkd
 go_enter Tryz.func43,Tryz.ntmps43
 go_wp2_with fail
 refine (HFI.out _ _ _ _ A0.out.rep (Aft.sm0 C0.out.1) (lim_aft C0.out.1 HL.out (by omega) (by omega)) (by have := C0.out.1.rd; omega) (HX.out.at_ A0.out).1).mono ?_
 rintro e w1 ⟨s1,S1,D1,rfl,hr,st,hsm,hrd,hrg⟩
 have C1 := hQ_ (aftF C0.out hsm hrd hrg)
 have X1 := hQ_ (Blk.new_ w1 #[.int .u32 xd,.string xn,.int .u32 xi,.int .u8 xk,.int .u32 xl,.int .u32 xz,.int .u32 xp] 65)
 have hbn := bX_ X1.out
 have AQ := A0.out.step HS.out hr st
 have A1 := hQ_ (AQ.own HS.out hbn (Nat.le_refl w1.heap.size) (by simp))
 have f1_X0 := cC7 X1.out
 clear hr st hsm hrd hrg hbn AQ
 have FE2 : fst_ [0,0] = 0 := rfl
 have HF2 := hQ_ (first_2b (0) (0) (w1.alloc (.cells #[.int .u32 xd,.string xn,.int .u32 xi,.int .u8 xk,.int .u32 xl,.int .u32 xz,.int .u32 xp] 65)) (w1.heap.size + 1) (by simp))
 rw [FE2] at HF2
 clear FE2
 go_upto_region 2 with (fail)
 go_cut [11] (fun p wx => p = .int .i64 (0) ∧ BL_ (w1.alloc (.cells #[.int .u32 xd,.string xn,.int .u32 xi,.int .u8 xk,.int .u32 xl,.int .u32 xz,.int .u32 xp] 65)) wx)
 case first =>
  go_wp2_with (first | (go_at_call 72; (with_reducible refine (HWT.out _ _).mono ?_); rintro e w9 ⟨rfl,rfl⟩) | (go_at_call 72; (with_reducible refine (HWF.out _ _).mono ?_); rintro e w9 ⟨rfl,rfl⟩) | (go_at_call 71; (with_reducible refine HF2.out.1.mono ?_); rintro e w9 ⟨rfl,rfl⟩))
  all_goals
   go_meet
   exact fB_
 case rest =>
  obtain ⟨rfl,hbc⟩ := hcut
  have A2 := hQ_ (A1.out.below HS.out hbc)
  have X2 := hQ_ (X1.out.below hbc)
  skip
  have f2_X0 := cC7 X2.out
  clear hbc f1_X0
  go_wp2_with fail
  refine (HNW.out _).mono ?_
  rintro e w3 ⟨rfl,hbw⟩
  have hbn := nW_ hbw (.cells #[.int .u8 2,.int .u32 2,.int .u32 0,.int .u32 xd] 59)
  have A3 := hQ_ (A2.out.own HS.out hbn hbw.size (by simp))
  have X3 := hQ_ (X2.out.below hbn)
  have I3 := hQ_ (Blk.new_ w3 #[.int .u8 2,.int .u32 2,.int .u32 0,.int .u32 xd] 59)
  have f3_X0 := cC7 X3.out
  have f3_I0 := cC4 I3.out
  clear hbw hbn f2_X0
  go_wp2_with fail
  refine (save_w HWK.out ino 2 (2) 0 xd A3.out.rep (lim_aft C1.out.1 HL.out (by omega) (by omega)) (by omega) (by omega) ⟨by omega,by omega,by omega,by omega,by omega,by omega,by omega,by omega⟩).mono ?_
  intro e w4 hh
  rcases Wrote.split hh with ⟨s4,S4,D4,rfl,ho,hr,st,ha⟩ | ⟨s4,S4,D4,rfl,ho,hr,st,ha⟩
  ·obtain ⟨x1,x2⟩ := C1.out.1.app C1.out.2 ha
   have C4 := hQ_ (And.intro x1 (x2.trans ho))
   clear x1 x2 ho ha
   have A4 := hQ_ (A3.out.step HS.out hr st)
   have X4 := hQ_ (A3.out.blk HS.out X3.out (.inl (.inr rfl)) st)
   have I4 := hQ_ (A3.out.blk HS.out I3.out (.inr rfl) st)
   obtain ⟨f4_X0,f4_X1,f4_X2,f4_X3,f4_X4,f4_X5,f4_X6⟩ := cC7 X4.out
   obtain ⟨f4_I0,f4_I1,f4_I2,f4_I3⟩ := cC4 I4.out
   clear st hr f3_X0 f3_I0
   go_wp2_with fail
   refine (hang_w HWK.out xd xn ino A4.out.rep (lim_aft C4.out.1 HL.out (by omega) (by omega)) (by omega) (by omega) (by omega) (by omega) (by omega)).mono ?_
   intro e w5 hh
   rcases Wrote.split hh with ⟨s5,S5,D5,rfl,ho,hr,st,ha⟩ | ⟨s5,S5,D5,rfl,ho,hr,st,ha⟩
   ·obtain ⟨x1,x2⟩ := C4.out.1.app C4.out.2 ha
    have C5 := hQ_ (And.intro x1 (x2.trans ho))
    clear x1 x2 ho ha
    have A5 := hQ_ (A4.out.step HS.out hr st)
    have X5 := hQ_ (A4.out.blk HS.out X4.out (.inl (.inr rfl)) st)
    have I5 := hQ_ (A4.out.blk HS.out I4.out (.inr rfl) st)
    obtain ⟨f5_X0,f5_X1,f5_X2,f5_X3,f5_X4,f5_X5,f5_X6⟩ := cC7 X5.out
    obtain ⟨f5_I0,f5_I1,f5_I2,f5_I3⟩ := cC4 I5.out
    clear st hr f4_X0 f4_X1 f4_X2 f4_X3 f4_X4 f4_X5 f4_X6 f4_I0 f4_I1 f4_I2 f4_I3
    go_wp2_with fail
    refine (tie_calls HWK.out xd (1) A5.out.rep (lim_aft C5.out.1 HL.out (by omega) (by omega)) (by have := C5.out.1.rd; omega) (by omega) (by omega) (by omega) (by omega)).mono ?_
    intro e w6 hh
    rcases Wrote.split hh with ⟨s6,S6,D6,rfl,ho,hr,st,ha⟩ | ⟨s6,S6,D6,rfl,ho,hr,st,ha⟩
    ·obtain ⟨x1,x2⟩ := C5.out.1.app C5.out.2 ha
     have C6 := hQ_ (And.intro x1 (x2.trans ho))
     clear x1 x2 ho ha
     have A6 := hQ_ (A5.out.step HS.out hr st)
     have X6 := hQ_ (A5.out.blk HS.out X5.out (.inl (.inr rfl)) st)
     have I6 := hQ_ (A5.out.blk HS.out I5.out (.inr rfl) st)
     obtain ⟨f6_X0,f6_X1,f6_X2,f6_X3,f6_X4,f6_X5,f6_X6⟩ := cC7 X6.out
     obtain ⟨f6_I0,f6_I1,f6_I2,f6_I3⟩ := cC4 I6.out
     clear st hr f5_X0 f5_X1 f5_X2 f5_X3 f5_X4 f5_X5 f5_X6 f5_I0 f5_I1 f5_I2 f5_I3
     go_wp2_with (go_at_call 75; refine (HRO.out _ _).mono ?_; rintro e w9 ⟨rfl,rfl⟩)
     go_ret
     exact Ans.ok A6.out ⟨C6.out.1.more (by omega) (by omega),C6.out.2⟩
    ·obtain ⟨x1,x2⟩ := C5.out.1.app C5.out.2 ha
     have C6 := hQ_ (And.intro x1 (x2.trans ho))
     clear x1 x2 ho ha
     have A6 := hQ_ (A5.out.step HS.out hr st)
     have X6 := hQ_ (A5.out.blk HS.out X5.out (.inl (.inr rfl)) st)
     have I6 := hQ_ (A5.out.blk HS.out I5.out (.inr rfl) st)
     obtain ⟨f6_X0,f6_X1,f6_X2,f6_X3,f6_X4,f6_X5,f6_X6⟩ := cC7 X6.out
     obtain ⟨f6_I0,f6_I1,f6_I2,f6_I3⟩ := cC4 I6.out
     clear st hr f5_X0 f5_X1 f5_X2 f5_X3 f5_X4 f5_X5 f5_X6 f5_I0 f5_I1 f5_I2 f5_I3
     go_wp2_with (go_at_call 75; refine (HRO.out _ _).mono ?_; rintro e w9 ⟨rfl,rfl⟩)
     go_ret
     exact Ans.full A6.out ⟨(Aft.stop (qs := []) C6.out.1 C6.out.2).1.more (by omega) (by omega),(Aft.stop (qs := []) C6.out.1 C6.out.2).2⟩
   ·obtain ⟨x1,x2⟩ := C4.out.1.app C4.out.2 ha
    have C5 := hQ_ (And.intro x1 (x2.trans ho))
    clear x1 x2 ho ha
    have A5 := hQ_ (A4.out.step HS.out hr st)
    have X5 := hQ_ (A4.out.blk HS.out X4.out (.inl (.inr rfl)) st)
    have I5 := hQ_ (A4.out.blk HS.out I4.out (.inr rfl) st)
    obtain ⟨f5_X0,f5_X1,f5_X2,f5_X3,f5_X4,f5_X5,f5_X6⟩ := cC7 X5.out
    obtain ⟨f5_I0,f5_I1,f5_I2,f5_I3⟩ := cC4 I5.out
    clear st hr f4_X0 f4_X1 f4_X2 f4_X3 f4_X4 f4_X5 f4_X6 f4_I0 f4_I1 f4_I2 f4_I3
    go_wp2_with (go_at_call 75; refine (HRO.out _ _).mono ?_; rintro e w9 ⟨rfl,rfl⟩)
    go_ret
    exact Ans.full A5.out ⟨(Aft.stop (qs := [tieP xd (1)]) C5.out.1 C5.out.2).1.more (by omega) (by omega),(Aft.stop (qs := [tieP xd (1)]) C5.out.1 C5.out.2).2⟩
  ·obtain ⟨x1,x2⟩ := C1.out.1.app C1.out.2 ha
   have C4 := hQ_ (And.intro x1 (x2.trans ho))
   clear x1 x2 ho ha
   have A4 := hQ_ (A3.out.step HS.out hr st)
   have X4 := hQ_ (A3.out.blk HS.out X3.out (.inl (.inr rfl)) st)
   have I4 := hQ_ (A3.out.blk HS.out I3.out (.inr rfl) st)
   obtain ⟨f4_X0,f4_X1,f4_X2,f4_X3,f4_X4,f4_X5,f4_X6⟩ := cC7 X4.out
   obtain ⟨f4_I0,f4_I1,f4_I2,f4_I3⟩ := cC4 I4.out
   clear st hr f3_X0 f3_I0
   go_wp2_with (go_at_call 75; refine (HRO.out _ _).mono ?_; rintro e w9 ⟨rfl,rfl⟩)
   go_ret
   exact Ans.full A4.out ⟨(Aft.stop (qs := [hangP xd xn ino,tieP xd (1)]) C4.out.1 C4.out.2).1.more (by omega) (by omega),(Aft.stop (qs := [hangP xd xn ino,tieP xd (1)]) C4.out.1 C4.out.2).2⟩
theorem make_calls (hW0 : Wk Rep) (path : ByteArray) (kind ino : Int) (hr : Rep w v s S D) (hl : Lim s) (h2 : s.rd.length ≤ 18000) (h3 : s.rg.length ≤ 900) (hx : Mxs w S) (hp : path.size ≤ 100000) (k0 : 0 ≤ kind) (k1 : kind ≤ 255) (i0 : 0 ≤ ino) (i1 : ino ≤ 4294967295) :
 Calls Tryz.prog 43 #[v,.string path,.int .u8 kind,.int .u32 ino] w (Ans Rep v s (makV s.shown path kind ino).1 (makV s.shown path kind ino).2 41 0 S D w) := by
 unfold makV
 obtain ⟨⟨⟨xd,xn,xi,⟨xk,xl,xz,xp⟩⟩,er⟩,hR⟩ : ∃ R,findM s.shown path = R := ⟨_,rfl⟩
 have h := hR
 rw [hR]
 dsimp only
 by_cases he : er = 0
 ·rw [if_neg (fun h => h he)]
  by_cases h0 : xi = 0
  ·rw [if_neg (fun h => h h0)]
   by_cases hkd : kind = 1
   ·rw [if_pos hkd]
    exact make_file hW0 path kind ino hr hl h2 h3 hx hp k0 k1 i0 i1 h he h0 hkd
   ·rw [if_neg hkd]
    exact make_dir hW0 path kind ino hr hl h2 h3 hx hp k0 k1 i0 i1 h he h0 hkd
  ·rw [if_pos h0]
   exact make_there hW0 path kind ino hr hl h2 h3 hx hp k0 k1 i0 i1 h he h0
 ·rw [if_pos he]
  exact make_err hW0 path kind ino hr hl h2 h3 hx hp k0 k1 i0 i1 h he
end Go.Proofs.YtepjjndfodcggaaGreatDoor.DirsKe
namespace Go.Proofs.YtepjjndfodcggaaGreatDoor.DirsKf
open Go.RowKit
open Byte KeysM TreeM ViewM ViewKm NodeM NodeG NamesM NamesL WalkM WalkF WalkKm DirsV Lst Chg TreeL ViewL WalkL WalkV Vat WalkKa WalkKb DirsK DirsKa DirsKb DirsKc DirsKd
open Own hiding keeps
variable {Rep : RepT} {w : World} {v : Value} {s : Vs} {S D : Nat → Prop}
theorem first_2g (a b : Int) (w : World) (g : Nat) (hg : w.heap.size = g) : Calls Tryz.prog 71 #[.slice (some ⟨g,0,none⟩) 2 2] (w.alloc (.cells #[.int .i64 a,.int .i64 b] 66)) fun e w' => e = .returned (.int .i64 (fst_ [a,b])) ∧ (w.alloc (.cells #[.int .i64 a,.int .i64 b] 66)) = w' := by
 subst hg
 exact first_2 a b w
theorem first_3g (a b c : Int) (w : World) (g : Nat) (hg : w.heap.size = g) : Calls Tryz.prog 71 #[.slice (some ⟨g,0,none⟩) 3 3] (w.alloc (.cells #[.int .i64 a,.int .i64 b,.int .i64 c] 66)) fun e w' => e = .returned (.int .i64 (fst_ [a,b,c])) ∧ (w.alloc (.cells #[.int .i64 a,.int .i64 b,.int .i64 c] 66)) = w' := by
 subst hg
 exact first_3 a b c w
theorem first_2d (a b : Int) (w : World) (g : Nat) (hg : w.heap.size = g) : Calls Tryz.prog 71 #[.slice (some ⟨g,0,none⟩) 2 2] (w.alloc (.cells #[.int .i64 a,.int .i64 b] 66)).drew fun e w' => e = .returned (.int .i64 (fst_ [a,b])) ∧ (w.alloc (.cells #[.int .i64 a,.int .i64 b] 66)).drew = w' := by
 subst hg
 exact first_calls _ 2 2 [a,b] _ ((So.lit erE 66 w (base := w.heap.size) [a,b] #[.int .i64 a,.int .i64 b] 2 rfl rfl (Nat.le_refl _) (by decide)).sl.below ((Below.refl _ _).drew)) (by decide)
theorem first_2b (a b : Int) (w : World) (g : Nat) (hg : w.heap.size = g) : (Calls Tryz.prog 71 #[.slice (some ⟨g,0,none⟩) 2 2] (w.alloc (.cells #[.int .i64 a,.int .i64 b] 66)) fun e w' => e = .returned (.int .i64 (fst_ [a,b])) ∧ (w.alloc (.cells #[.int .i64 a,.int .i64 b] 66)) = w') ∧ (Calls Tryz.prog 71 #[.slice (some ⟨g,0,none⟩) 2 2] (w.alloc (.cells #[.int .i64 a,.int .i64 b] 66)).drew fun e w' => e = .returned (.int .i64 (fst_ [a,b])) ∧ (w.alloc (.cells #[.int .i64 a,.int .i64 b] 66)).drew = w') := ⟨first_2g a b w g hg,first_2d a b w g hg⟩
theorem first_3d (a b c : Int) (w : World) (g : Nat) (hg : w.heap.size = g) : Calls Tryz.prog 71 #[.slice (some ⟨g,0,none⟩) 3 3] (w.alloc (.cells #[.int .i64 a,.int .i64 b,.int .i64 c] 66)).drew fun e w' => e = .returned (.int .i64 (fst_ [a,b,c])) ∧ (w.alloc (.cells #[.int .i64 a,.int .i64 b,.int .i64 c] 66)).drew = w' := by
 subst hg
 exact first_calls _ 3 3 [a,b,c] _ ((So.lit erE 66 w (base := w.heap.size) [a,b,c] #[.int .i64 a,.int .i64 b,.int .i64 c] 3 rfl rfl (Nat.le_refl _) (by decide)).sl.below ((Below.refl _ _).drew)) (by decide)
theorem first_3b (a b c : Int) (w : World) (g : Nat) (hg : w.heap.size = g) : (Calls Tryz.prog 71 #[.slice (some ⟨g,0,none⟩) 3 3] (w.alloc (.cells #[.int .i64 a,.int .i64 b,.int .i64 c] 66)) fun e w' => e = .returned (.int .i64 (fst_ [a,b,c])) ∧ (w.alloc (.cells #[.int .i64 a,.int .i64 b,.int .i64 c] 66)) = w') ∧ (Calls Tryz.prog 71 #[.slice (some ⟨g,0,none⟩) 3 3] (w.alloc (.cells #[.int .i64 a,.int .i64 b,.int .i64 c] 66)).drew fun e w' => e = .returned (.int .i64 (fst_ [a,b,c])) ∧ (w.alloc (.cells #[.int .i64 a,.int .i64 b,.int .i64 c] 66)).drew = w') := ⟨first_3g a b c w g hg,first_3d a b c w g hg⟩
theorem rmd_err (hW0 : Wk Rep) (path : ByteArray) {xd xi xk xl xz xp er : Int} {xn : ByteArray} (hr : Rep w v s S D) (hl : Lim s) (h2 : s.rd.length ≤ 18000) (h3 : s.rg.length ≤ 900) (hx : Mxs w S) (hp : path.size ≤ 100000) (hR : findM s.shown path = (⟨xd,xn,xi,⟨xk,xl,xz,xp⟩⟩,er)) (hk : ∀ p ∈ s.shown,(sp p.key).letter ≠ 0) (he : er ≠ 0) :
 Calls Tryz.prog 45 #[v,.string path] w (Ans Rep v s er [] 41 1 S D w) := by
 have A0 := hQ_ (At.start hr)
 have HX := hQ_ hx
 have HS := hQ_ hW0.stays
 have HL := hQ_ hl
 have C0 := hQ_ (aft0 s)
 have HWT := hQ_ when_t
 have HWF := hQ_ when_f
 have HFI := hQ_ (fun w (S D : Nat → Prop) (t : Vs) (hr : Rep w v t S D) (hsm : Sm t s) hl h2 hx => find_c hW0 path hR hr hsm hl h2 hp hx)
 unfold FndC at HFI
 have hsbx := find_bd s.shown path
 have hibx := find_ib s.shown path
 rw [hR] at hsbx hibx
 obtain ⟨x0,x1,x2,x3,x4⟩ := hsbx
 dsimp only at x0 x1 x2 x3 x4 HFI hibx
 have d0 : (er != 0) = true := by simpa using he
 clear hr hl hp hR hx hW0 hk
 rcases (show (xi ≠ 1 ∧ xi ≠ 0) ∨ (xi ≠ 1 ∧ xi = 0) ∨ xi = 1 by omega) with h0 | h0 | h0
 ·have d1 : (xi == 1) = false := by simp; omega
  have d2 : (xi == 0) = false := by simp; omega
  clear h0
  go_enter Tryz.func45,Tryz.ntmps45
  go_wp2_with fail
  refine (HFI.out _ _ _ _ A0.out.rep (Aft.sm0 C0.out.1) (lim_aft C0.out.1 HL.out (by omega) (by omega)) (by have := C0.out.1.rd; omega) (HX.out.at_ A0.out).1).mono ?_
  rintro e w1 ⟨s1,S1,D1,rfl,hr,st,hsm,hrd,hrg⟩
  have C1 := hQ_ (aftF C0.out hsm hrd hrg)
  have X1 := hQ_ (Blk.new_ w1 #[.int .u32 xd,.string xn,.int .u32 xi,.int .u8 xk,.int .u32 xl,.int .u32 xz,.int .u32 xp] 65)
  have hbn := bX_ X1.out
  have AQ := A0.out.step HS.out hr st
  have A1 := hQ_ (AQ.own HS.out hbn (Nat.le_refl w1.heap.size) (by simp))
  have f1_X0 := cC7 X1.out
  clear hr st hsm hrd hrg hbn AQ
  have FE2 : fst_ [er,0,0] = er := by unfold fst_; rw [if_neg he]
  have HF2 := hQ_ (first_3b (er) (0) (0) (w1.alloc (.cells #[.int .u32 xd,.string xn,.int .u32 xi,.int .u8 xk,.int .u32 xl,.int .u32 xz,.int .u32 xp] 65)) (w1.heap.size + 1) (by simp))
  rw [FE2] at HF2
  clear FE2
  go_upto_region 2 with (fail)
  go_cut [7] (fun p wx => p = .int .i64 (er) ∧ BL_ (w1.alloc (.cells #[.int .u32 xd,.string xn,.int .u32 xi,.int .u8 xk,.int .u32 xl,.int .u32 xz,.int .u32 xp] 65)) wx)
  case first =>
   go_region_law (first | (go_simp; go_at_call 72; (with_reducible refine (HWT.out _ _).mono ?_); rintro e w9 ⟨rfl,rfl⟩) | (go_simp; go_at_call 72; (with_reducible refine (HWF.out _ _).mono ?_); rintro e w9 ⟨rfl,rfl⟩) | (go_simp; go_at_call 71; (first | (with_reducible refine HF2.out.1.mono ?_) | (with_reducible refine HF2.out.2.mono ?_)); rintro e w9 ⟨rfl,rfl⟩))
   all_goals
    go_wp2_with fail
    go_meet
    exact fB_
  case rest =>
   obtain ⟨rfl,hbc⟩ := hcut
   have A2 := hQ_ (A1.out.below HS.out hbc)
   have X2 := hQ_ (X1.out.below hbc)
   skip
   have f2_X0 := cC7 X2.out
   clear hbc f1_X0
   clear he
   go_wp2_with fail
   go_ret
   exact Ans.ok A2.out ⟨C1.out.1.more (by omega) (by omega),C1.out.2⟩
 ·have d1 : (xi == 1) = false := by simp; omega
  have d2 : (xi == 0) = true := by simp; omega
  clear h0
  go_enter Tryz.func45,Tryz.ntmps45
  go_wp2_with fail
  refine (HFI.out _ _ _ _ A0.out.rep (Aft.sm0 C0.out.1) (lim_aft C0.out.1 HL.out (by omega) (by omega)) (by have := C0.out.1.rd; omega) (HX.out.at_ A0.out).1).mono ?_
  rintro e w3 ⟨s3,S3,D3,rfl,hr,st,hsm,hrd,hrg⟩
  have C3 := hQ_ (aftF C0.out hsm hrd hrg)
  have X3 := hQ_ (Blk.new_ w3 #[.int .u32 xd,.string xn,.int .u32 xi,.int .u8 xk,.int .u32 xl,.int .u32 xz,.int .u32 xp] 65)
  have hbn := bX_ X3.out
  have AQ := A0.out.step HS.out hr st
  have A3 := hQ_ (AQ.own HS.out hbn (Nat.le_refl w3.heap.size) (by simp))
  have f3_X0 := cC7 X3.out
  clear hr st hsm hrd hrg hbn AQ
  have FE4 : fst_ [er,0,10] = er := by unfold fst_; rw [if_neg he]
  have HF4 := hQ_ (first_3b (er) (0) (10) (w3.alloc (.cells #[.int .u32 xd,.string xn,.int .u32 xi,.int .u8 xk,.int .u32 xl,.int .u32 xz,.int .u32 xp] 65)) (w3.heap.size + 1) (by simp))
  rw [FE4] at HF4
  clear FE4
  go_upto_region 2 with (fail)
  go_cut [7] (fun p wx => p = .int .i64 (er) ∧ BL_ (w3.alloc (.cells #[.int .u32 xd,.string xn,.int .u32 xi,.int .u8 xk,.int .u32 xl,.int .u32 xz,.int .u32 xp] 65)) wx)
  case first =>
   go_region_law (first | (go_simp; go_at_call 72; (with_reducible refine (HWT.out _ _).mono ?_); rintro e w9 ⟨rfl,rfl⟩) | (go_simp; go_at_call 72; (with_reducible refine (HWF.out _ _).mono ?_); rintro e w9 ⟨rfl,rfl⟩) | (go_simp; go_at_call 71; (first | (with_reducible refine HF4.out.1.mono ?_) | (with_reducible refine HF4.out.2.mono ?_)); rintro e w9 ⟨rfl,rfl⟩))
   all_goals
    go_wp2_with fail
    go_meet
    exact fB_
  case rest =>
   obtain ⟨rfl,hbc⟩ := hcut
   have A4 := hQ_ (A3.out.below HS.out hbc)
   have X4 := hQ_ (X3.out.below hbc)
   skip
   have f4_X0 := cC7 X4.out
   clear hbc f3_X0
   clear he
   go_wp2_with fail
   go_ret
   exact Ans.ok A4.out ⟨C3.out.1.more (by omega) (by omega),C3.out.2⟩
 ·have d1 : (xi == 1) = true := by simp; omega
  have d2 : (xi == 0) = false := by simp; omega
  clear h0
  go_enter Tryz.func45,Tryz.ntmps45
  go_wp2_with fail
  refine (HFI.out _ _ _ _ A0.out.rep (Aft.sm0 C0.out.1) (lim_aft C0.out.1 HL.out (by omega) (by omega)) (by have := C0.out.1.rd; omega) (HX.out.at_ A0.out).1).mono ?_
  rintro e w5 ⟨s5,S5,D5,rfl,hr,st,hsm,hrd,hrg⟩
  have C5 := hQ_ (aftF C0.out hsm hrd hrg)
  have X5 := hQ_ (Blk.new_ w5 #[.int .u32 xd,.string xn,.int .u32 xi,.int .u8 xk,.int .u32 xl,.int .u32 xz,.int .u32 xp] 65)
  have hbn := bX_ X5.out
  have AQ := A0.out.step HS.out hr st
  have A5 := hQ_ (AQ.own HS.out hbn (Nat.le_refl w5.heap.size) (by simp))
  have f5_X0 := cC7 X5.out
  clear hr st hsm hrd hrg hbn AQ
  have FE6 : fst_ [er,29,0] = er := by unfold fst_; rw [if_neg he]
  have HF6 := hQ_ (first_3b (er) (29) (0) (w5.alloc (.cells #[.int .u32 xd,.string xn,.int .u32 xi,.int .u8 xk,.int .u32 xl,.int .u32 xz,.int .u32 xp] 65)) (w5.heap.size + 1) (by simp))
  rw [FE6] at HF6
  clear FE6
  go_upto_region 2 with (fail)
  go_cut [7] (fun p wx => p = .int .i64 (er) ∧ BL_ (w5.alloc (.cells #[.int .u32 xd,.string xn,.int .u32 xi,.int .u8 xk,.int .u32 xl,.int .u32 xz,.int .u32 xp] 65)) wx)
  case first =>
   go_region_law (first | (go_simp; go_at_call 72; (with_reducible refine (HWT.out _ _).mono ?_); rintro e w9 ⟨rfl,rfl⟩) | (go_simp; go_at_call 72; (with_reducible refine (HWF.out _ _).mono ?_); rintro e w9 ⟨rfl,rfl⟩) | (go_simp; go_at_call 71; (first | (with_reducible refine HF6.out.1.mono ?_) | (with_reducible refine HF6.out.2.mono ?_)); rintro e w9 ⟨rfl,rfl⟩))
   all_goals
    go_wp2_with fail
    go_meet
    exact fB_
  case rest =>
   obtain ⟨rfl,hbc⟩ := hcut
   have A6 := hQ_ (A5.out.below HS.out hbc)
   have X6 := hQ_ (X5.out.below hbc)
   skip
   have f6_X0 := cC7 X6.out
   clear hbc f5_X0
   clear he
   go_wp2_with fail
   go_ret
   exact Ans.ok A6.out ⟨C5.out.1.more (by omega) (by omega),C5.out.2⟩
theorem rmd_root (hW0 : Wk Rep) (path : ByteArray) {xd xi xk xl xz xp er : Int} {xn : ByteArray} (hr : Rep w v s S D) (hl : Lim s) (h2 : s.rd.length ≤ 18000) (h3 : s.rg.length ≤ 900) (hx : Mxs w S) (hp : path.size ≤ 100000) (hR : findM s.shown path = (⟨xd,xn,xi,⟨xk,xl,xz,xp⟩⟩,er)) (hk : ∀ p ∈ s.shown,(sp p.key).letter ≠ 0) (he : er = 0) (h1 : xi = 1) :
 Calls Tryz.prog 45 #[v,.string path] w (Ans Rep v s 29 [] 41 1 S D w) := by
 have A0 := hQ_ (At.start hr)
 have HX := hQ_ hx
 have HS := hQ_ hW0.stays
 have HL := hQ_ hl
 have C0 := hQ_ (aft0 s)
 have HWT := hQ_ when_t
 have HWF := hQ_ when_f
 have HFI := hQ_ (fun w (S D : Nat → Prop) (t : Vs) (hr : Rep w v t S D) (hsm : Sm t s) hl h2 hx => find_c hW0 path hR hr hsm hl h2 hp hx)
 unfold FndC at HFI
 have hsbx := find_bd s.shown path
 have hibx := find_ib s.shown path
 rw [hR] at hsbx hibx
 obtain ⟨x0,x1,x2,x3,x4⟩ := hsbx
 dsimp only at x0 x1 x2 x3 x4 HFI hibx
 subst he
 have d1 : (xi == 1) = true := by simpa using h1
 have d2 : (xi == 0) = false := by simp; omega
 clear hr hl hp hR hx hW0 hk h1
 go_enter Tryz.func45,Tryz.ntmps45
 go_wp2_with fail
 refine (HFI.out _ _ _ _ A0.out.rep (Aft.sm0 C0.out.1) (lim_aft C0.out.1 HL.out (by omega) (by omega)) (by have := C0.out.1.rd; omega) (HX.out.at_ A0.out).1).mono ?_
 rintro e w1 ⟨s1,S1,D1,rfl,hr,st,hsm,hrd,hrg⟩
 have C1 := hQ_ (aftF C0.out hsm hrd hrg)
 have X1 := hQ_ (Blk.new_ w1 #[.int .u32 xd,.string xn,.int .u32 xi,.int .u8 xk,.int .u32 xl,.int .u32 xz,.int .u32 xp] 65)
 have hbn := bX_ X1.out
 have AQ := A0.out.step HS.out hr st
 have A1 := hQ_ (AQ.own HS.out hbn (Nat.le_refl w1.heap.size) (by simp))
 have f1_X0 := cC7 X1.out
 clear hr st hsm hrd hrg hbn AQ
 have FE2 : fst_ [0,29,0] = 29 := rfl
 have HF2 := hQ_ (first_3b (0) (29) (0) (w1.alloc (.cells #[.int .u32 xd,.string xn,.int .u32 xi,.int .u8 xk,.int .u32 xl,.int .u32 xz,.int .u32 xp] 65)) (w1.heap.size + 1) (by simp))
 rw [FE2] at HF2
 clear FE2
 go_upto_region 2 with (fail)
 go_cut [7] (fun p wx => p = .int .i64 (29) ∧ BL_ (w1.alloc (.cells #[.int .u32 xd,.string xn,.int .u32 xi,.int .u8 xk,.int .u32 xl,.int .u32 xz,.int .u32 xp] 65)) wx)
 case first =>
  go_region_law (first | (go_simp; go_at_call 72; (with_reducible refine (HWT.out _ _).mono ?_); rintro e w9 ⟨rfl,rfl⟩) | (go_simp; go_at_call 72; (with_reducible refine (HWF.out _ _).mono ?_); rintro e w9 ⟨rfl,rfl⟩) | (go_simp; go_at_call 71; (first | (with_reducible refine HF2.out.1.mono ?_) | (with_reducible refine HF2.out.2.mono ?_)); rintro e w9 ⟨rfl,rfl⟩))
  all_goals
   go_wp2_with fail
   go_meet
   exact fB_
 case rest =>
  obtain ⟨rfl,hbc⟩ := hcut
  have A2 := hQ_ (A1.out.below HS.out hbc)
  have X2 := hQ_ (X1.out.below hbc)
  skip
  have f2_X0 := cC7 X2.out
  clear hbc f1_X0
  go_wp2_with fail
  go_ret
  exact Ans.ok A2.out ⟨C1.out.1.more (by omega) (by omega),C1.out.2⟩
theorem rmd_none (hW0 : Wk Rep) (path : ByteArray) {xd xi xk xl xz xp er : Int} {xn : ByteArray} (hr : Rep w v s S D) (hl : Lim s) (h2 : s.rd.length ≤ 18000) (h3 : s.rg.length ≤ 900) (hx : Mxs w S) (hp : path.size ≤ 100000) (hR : findM s.shown path = (⟨xd,xn,xi,⟨xk,xl,xz,xp⟩⟩,er)) (hk : ∀ p ∈ s.shown,(sp p.key).letter ≠ 0) (he : er = 0) (h0 : xi = 0) :
 Calls Tryz.prog 45 #[v,.string path] w (Ans Rep v s 10 [] 41 1 S D w) := by
 have A0 := hQ_ (At.start hr)
 have HX := hQ_ hx
 have HS := hQ_ hW0.stays
 have HL := hQ_ hl
 have C0 := hQ_ (aft0 s)
 have HWT := hQ_ when_t
 have HWF := hQ_ when_f
 have HFI := hQ_ (fun w (S D : Nat → Prop) (t : Vs) (hr : Rep w v t S D) (hsm : Sm t s) hl h2 hx => find_c hW0 path hR hr hsm hl h2 hp hx)
 unfold FndC at HFI
 have hsbx := find_bd s.shown path
 have hibx := find_ib s.shown path
 rw [hR] at hsbx hibx
 obtain ⟨x0,x1,x2,x3,x4⟩ := hsbx
 dsimp only at x0 x1 x2 x3 x4 HFI hibx
 subst he
 have d1 : (xi == 1) = false := by simp; omega
 have d2 : (xi == 0) = true := by simpa using h0
 clear hr hl hp hR hx hW0 hk h0
 go_enter Tryz.func45,Tryz.ntmps45
 go_wp2_with fail
 refine (HFI.out _ _ _ _ A0.out.rep (Aft.sm0 C0.out.1) (lim_aft C0.out.1 HL.out (by omega) (by omega)) (by have := C0.out.1.rd; omega) (HX.out.at_ A0.out).1).mono ?_
 rintro e w1 ⟨s1,S1,D1,rfl,hr,st,hsm,hrd,hrg⟩
 have C1 := hQ_ (aftF C0.out hsm hrd hrg)
 have X1 := hQ_ (Blk.new_ w1 #[.int .u32 xd,.string xn,.int .u32 xi,.int .u8 xk,.int .u32 xl,.int .u32 xz,.int .u32 xp] 65)
 have hbn := bX_ X1.out
 have AQ := A0.out.step HS.out hr st
 have A1 := hQ_ (AQ.own HS.out hbn (Nat.le_refl w1.heap.size) (by simp))
 have f1_X0 := cC7 X1.out
 clear hr st hsm hrd hrg hbn AQ
 have FE2 : fst_ [0,0,10] = 10 := rfl
 have HF2 := hQ_ (first_3b (0) (0) (10) (w1.alloc (.cells #[.int .u32 xd,.string xn,.int .u32 xi,.int .u8 xk,.int .u32 xl,.int .u32 xz,.int .u32 xp] 65)) (w1.heap.size + 1) (by simp))
 rw [FE2] at HF2
 clear FE2
 go_upto_region 2 with (fail)
 go_cut [7] (fun p wx => p = .int .i64 (10) ∧ BL_ (w1.alloc (.cells #[.int .u32 xd,.string xn,.int .u32 xi,.int .u8 xk,.int .u32 xl,.int .u32 xz,.int .u32 xp] 65)) wx)
 case first =>
  go_region_law (first | (go_simp; go_at_call 72; (with_reducible refine (HWT.out _ _).mono ?_); rintro e w9 ⟨rfl,rfl⟩) | (go_simp; go_at_call 72; (with_reducible refine (HWF.out _ _).mono ?_); rintro e w9 ⟨rfl,rfl⟩) | (go_simp; go_at_call 71; (first | (with_reducible refine HF2.out.1.mono ?_) | (with_reducible refine HF2.out.2.mono ?_)); rintro e w9 ⟨rfl,rfl⟩))
  all_goals
   go_wp2_with fail
   go_meet
   exact fB_
 case rest =>
  obtain ⟨rfl,hbc⟩ := hcut
  have A2 := hQ_ (A1.out.below HS.out hbc)
  have X2 := hQ_ (X1.out.below hbc)
  skip
  have f2_X0 := cC7 X2.out
  clear hbc f1_X0
  go_wp2_with fail
  go_ret
  exact Ans.ok A2.out ⟨C1.out.1.more (by omega) (by omega),C1.out.2⟩
theorem rmd_there (hW0 : Wk Rep) (path : ByteArray) {xd xi xk xl xz xp er : Int} {xn : ByteArray} (hr : Rep w v s S D) (hl : Lim s) (h2 : s.rd.length ≤ 18000) (h3 : s.rg.length ≤ 900) (hx : Mxs w S) (hp : path.size ≤ 100000) (hR : findM s.shown path = (⟨xd,xn,xi,⟨xk,xl,xz,xp⟩⟩,er)) (hk : ∀ p ∈ s.shown,(sp p.key).letter ≠ 0) (he : er = 0) (h0 : xi ≠ 0) (h1 : xi ≠ 1) :
 Calls Tryz.prog 45 #[v,.string path] w (Ans Rep v s (remV s.shown ⟨xd,xn,xi,⟨xk,xl,xz,xp⟩⟩).1 (remV s.shown ⟨xd,xn,xi,⟨xk,xl,xz,xp⟩⟩).2 41 1 S D w) := by
 have A0 := hQ_ (At.start hr)
 have HX := hQ_ hx
 have HS := hQ_ hW0.stays
 have HL := hQ_ hl
 have C0 := hQ_ (aft0 s)
 have HWT := hQ_ when_t
 have HWF := hQ_ when_f
 have HFI := hQ_ (fun w (S D : Nat → Prop) (t : Vs) (hr : Rep w v t S D) (hsm : Sm t s) hl h2 hx => find_c hW0 path hR hr hsm hl h2 hp hx)
 unfold FndC at HFI
 have hsbx := find_bd s.shown path
 have hibx := find_ib s.shown path
 rw [hR] at hsbx hibx
 obtain ⟨x0,x1,x2,x3,x4⟩ := hsbx
 dsimp only at x0 x1 x2 x3 x4 HFI hibx
 subst he
 have d1 : (xi == 1) = false := by simpa using h1
 have d2 : (xi == 0) = false := by simpa using h0
 have HC := hQ_ (fun w (S D : Nat → Prop) (t : Vs) (hr : Rep w v t S D) (hsm : Sm t s) hl h2 h3 => show Calls _ _ _ _ (Ans Rep v t (remV s.shown ⟨xd,xn,xi,⟨xk,xl,xz,xp⟩⟩).1 (remV s.shown ⟨xd,xn,xi,⟨xk,xl,xz,xp⟩⟩).2 1 1 S D w) by rw [← hsm.shown]; exact remove_calls hW0 xd xi xk xl xz xp xn hr hl h2 h3 x0 x1 x2 x3 (by omega) (by rw [hsm.shown]; exact hk))
 obtain ⟨⟨rx,ps⟩,hrx⟩ : ∃ r,remV s.shown ⟨xd,xn,xi,⟨xk,xl,xz,xp⟩⟩ = r := ⟨_,rfl⟩
 rw [hrx] at HC ⊢
 dsimp only at HC ⊢
 clear hrx h0 h1
 clear hr hl hp hR hx hW0 hk
 go_enter Tryz.func45,Tryz.ntmps45
 go_wp2_with fail
 refine (HFI.out _ _ _ _ A0.out.rep (Aft.sm0 C0.out.1) (lim_aft C0.out.1 HL.out (by omega) (by omega)) (by have := C0.out.1.rd; omega) (HX.out.at_ A0.out).1).mono ?_
 rintro e w1 ⟨s1,S1,D1,rfl,hr,st,hsm,hrd,hrg⟩
 have C1 := hQ_ (aftF C0.out hsm hrd hrg)
 have X1 := hQ_ (Blk.new_ w1 #[.int .u32 xd,.string xn,.int .u32 xi,.int .u8 xk,.int .u32 xl,.int .u32 xz,.int .u32 xp] 65)
 have hbn := bX_ X1.out
 have AQ := A0.out.step HS.out hr st
 have A1 := hQ_ (AQ.own HS.out hbn (Nat.le_refl w1.heap.size) (by simp))
 have f1_X0 := cC7 X1.out
 clear hr st hsm hrd hrg hbn AQ
 have FE2 : fst_ [0,0,0] = 0 := rfl
 have HF2 := hQ_ (first_3b (0) (0) (0) (w1.alloc (.cells #[.int .u32 xd,.string xn,.int .u32 xi,.int .u8 xk,.int .u32 xl,.int .u32 xz,.int .u32 xp] 65)) (w1.heap.size + 1) (by simp))
 rw [FE2] at HF2
 clear FE2
 go_upto_region 2 with (fail)
 go_cut [7] (fun p wx => p = .int .i64 (0) ∧ BL_ (w1.alloc (.cells #[.int .u32 xd,.string xn,.int .u32 xi,.int .u8 xk,.int .u32 xl,.int .u32 xz,.int .u32 xp] 65)) wx)
 case first =>
  go_region_law (first | (go_simp; go_at_call 72; (with_reducible refine (HWT.out _ _).mono ?_); rintro e w9 ⟨rfl,rfl⟩) | (go_simp; go_at_call 72; (with_reducible refine (HWF.out _ _).mono ?_); rintro e w9 ⟨rfl,rfl⟩) | (go_simp; go_at_call 71; (first | (with_reducible refine HF2.out.1.mono ?_) | (with_reducible refine HF2.out.2.mono ?_)); rintro e w9 ⟨rfl,rfl⟩))
  all_goals
   go_wp2_with fail
   go_meet
   exact fB_
 case rest =>
  obtain ⟨rfl,hbc⟩ := hcut
  have A2 := hQ_ (A1.out.below HS.out hbc)
  have X2 := hQ_ (X1.out.below hbc)
  skip
  have f2_X0 := cC7 X2.out
  clear hbc f1_X0
  go_wp2_with fail
  refine (HC.out _ _ _ _ A2.out.rep (Aft.sm0 C1.out.1) (lim_aft C1.out.1 HL.out (by omega) (by omega)) (by have := C1.out.1.rd; omega) (by have := C1.out.1.rg; omega)).mono ?_
  intro e w3 hh
  rcases Ans.split hh with ⟨s3,S3,D3,rfl,ho,hr,st,ha⟩ | ⟨s3,S3,D3,rfl,ho,hr,st,ha⟩
  ·have A3 := hQ_ (A2.out.step HS.out hr st)
   have C3 := hQ_ (Aft.thru C1.out (And.intro ha ho))
   clear hr st ha ho
   go_wp2_with fail
   go_ret
   exact Ans.ok A3.out ⟨C3.out.1.more (by omega) (by omega),C3.out.2⟩
  ·have A3 := hQ_ (A2.out.step HS.out hr st)
   have C3 := hQ_ (Aft.thru C1.out (And.intro ha ho))
   clear hr st ha ho
   go_wp2_with fail
   go_ret
   exact Ans.full A3.out ⟨C3.out.1.more (by omega) (by omega),C3.out.2⟩
theorem rmd_calls (hW0 : Wk Rep) (path : ByteArray) (hr : Rep w v s S D) (hl : Lim s) (h2 : s.rd.length ≤ 18000) (h3 : s.rg.length ≤ 900) (hx : Mxs w S) (hp : path.size ≤ 100000) (hk : ∀ p ∈ s.shown,(sp p.key).letter ≠ 0) :
 Calls Tryz.prog 45 #[v,.string path] w (Ans Rep v s (rmdV s.shown path).1 (rmdV s.shown path).2 41 1 S D w) := by
 unfold rmdV
 obtain ⟨⟨⟨xd,xn,xi,⟨xk,xl,xz,xp⟩⟩,er⟩,hR⟩ : ∃ R,findM s.shown path = R := ⟨_,rfl⟩
 have h := hR
 rw [hR]
 dsimp only
 by_cases he : er = 0
 ·rw [if_neg (fun h => h he)]
  by_cases h1 : xi = 1
  ·rw [if_pos h1]
   exact rmd_root hW0 path hr hl h2 h3 hx hp h hk he h1
  ·rw [if_neg h1]
   by_cases h0 : xi = 0
   ·rw [if_pos h0]
    exact rmd_none hW0 path hr hl h2 h3 hx hp h hk he h0
   ·rw [if_neg h0]
    exact rmd_there hW0 path hr hl h2 h3 hx hp h hk he h0 h1
 ·rw [if_pos he]
  exact rmd_err hW0 path hr hl h2 h3 hx hp h hk he
theorem ulk_err (hW0 : Wk Rep) (path : ByteArray) {xd xi xk xl xz xp er : Int} {xn : ByteArray} (hr : Rep w v s S D) (hl : Lim s) (h2 : s.rd.length ≤ 18000) (h3 : s.rg.length ≤ 900) (hx : Mxs w S) (hp : path.size ≤ 100000) (hR : findM s.shown path = (⟨xd,xn,xi,⟨xk,xl,xz,xp⟩⟩,er)) (hk : ∀ p ∈ s.shown,(sp p.key).letter ≠ 0) (hnb : ∀ p ∈ s.shown,∀ i,blkB i p = false) (he : er ≠ 0) :
 Calls Tryz.prog 32 #[v,.string path] w (Ans Rep v s er [] 41 1 S D w) := by
 have A0 := hQ_ (At.start hr)
 have HX := hQ_ hx
 have HS := hQ_ hW0.stays
 have HL := hQ_ hl
 have C0 := hQ_ (aft0 s)
 have HWT := hQ_ when_t
 have HWF := hQ_ when_f
 have HFI := hQ_ (fun w (S D : Nat → Prop) (t : Vs) (hr : Rep w v t S D) (hsm : Sm t s) hl h2 hx => find_c hW0 path hR hr hsm hl h2 hp hx)
 unfold FndC at HFI
 have hsbx := find_bd s.shown path
 have hibx := find_ib s.shown path
 rw [hR] at hsbx hibx
 obtain ⟨x0,x1,x2,x3,x4⟩ := hsbx
 dsimp only at x0 x1 x2 x3 x4 HFI hibx
 have d0 : (er != 0) = true := by simpa using he
 clear hr hl hp hR hx hW0 hk hnb
 rcases (show xi ≠ 0 ∨ xi = 0 by omega) with h0 | h0
 ·have d2 : (xi == 0) = false := by simp; omega
  clear h0
  go_enter Tryz.func32,Tryz.ntmps32
  go_wp2_with fail
  refine (HFI.out _ _ _ _ A0.out.rep (Aft.sm0 C0.out.1) (lim_aft C0.out.1 HL.out (by omega) (by omega)) (by have := C0.out.1.rd; omega) (HX.out.at_ A0.out).1).mono ?_
  rintro e w1 ⟨s1,S1,D1,rfl,hr,st,hsm,hrd,hrg⟩
  have C1 := hQ_ (aftF C0.out hsm hrd hrg)
  have X1 := hQ_ (Blk.new_ w1 #[.int .u32 xd,.string xn,.int .u32 xi,.int .u8 xk,.int .u32 xl,.int .u32 xz,.int .u32 xp] 65)
  have hbn := bX_ X1.out
  have AQ := A0.out.step HS.out hr st
  have A1 := hQ_ (AQ.own HS.out hbn (Nat.le_refl w1.heap.size) (by simp))
  have f1_X0 := cC7 X1.out
  clear hr st hsm hrd hrg hbn AQ
  have FE2 : fst_ [er,0] = er := by unfold fst_; rw [if_neg he]
  have HF2 := hQ_ (first_2b (er) (0) (w1.alloc (.cells #[.int .u32 xd,.string xn,.int .u32 xi,.int .u8 xk,.int .u32 xl,.int .u32 xz,.int .u32 xp] 65)) (w1.heap.size + 1) (by simp))
  rw [FE2] at HF2
  clear FE2
  go_upto_region 2 with (fail)
  go_cut [7] (fun p wx => p = .int .i64 (er) ∧ BL_ (w1.alloc (.cells #[.int .u32 xd,.string xn,.int .u32 xi,.int .u8 xk,.int .u32 xl,.int .u32 xz,.int .u32 xp] 65)) wx)
  case first =>
   go_wp2_with (first | (go_at_call 72; (with_reducible refine (HWT.out _ _).mono ?_); rintro e w9 ⟨rfl,rfl⟩) | (go_at_call 72; (with_reducible refine (HWF.out _ _).mono ?_); rintro e w9 ⟨rfl,rfl⟩) | (go_at_call 71; (with_reducible refine HF2.out.1.mono ?_); rintro e w9 ⟨rfl,rfl⟩))
   all_goals
    go_meet
    exact fB_
  case rest =>
   obtain ⟨rfl,hbc⟩ := hcut
   have A2 := hQ_ (A1.out.below HS.out hbc)
   have X2 := hQ_ (X1.out.below hbc)
   skip
   have f2_X0 := cC7 X2.out
   clear hbc f1_X0
   clear he
   go_wp2_with fail
   go_ret
   exact Ans.ok A2.out ⟨C1.out.1.more (by omega) (by omega),C1.out.2⟩
 ·have d2 : (xi == 0) = true := by simp; omega
  clear h0
  go_enter Tryz.func32,Tryz.ntmps32
  go_wp2_with fail
  refine (HFI.out _ _ _ _ A0.out.rep (Aft.sm0 C0.out.1) (lim_aft C0.out.1 HL.out (by omega) (by omega)) (by have := C0.out.1.rd; omega) (HX.out.at_ A0.out).1).mono ?_
  rintro e w3 ⟨s3,S3,D3,rfl,hr,st,hsm,hrd,hrg⟩
  have C3 := hQ_ (aftF C0.out hsm hrd hrg)
  have X3 := hQ_ (Blk.new_ w3 #[.int .u32 xd,.string xn,.int .u32 xi,.int .u8 xk,.int .u32 xl,.int .u32 xz,.int .u32 xp] 65)
  have hbn := bX_ X3.out
  have AQ := A0.out.step HS.out hr st
  have A3 := hQ_ (AQ.own HS.out hbn (Nat.le_refl w3.heap.size) (by simp))
  have f3_X0 := cC7 X3.out
  clear hr st hsm hrd hrg hbn AQ
  have FE4 : fst_ [er,10] = er := by unfold fst_; rw [if_neg he]
  have HF4 := hQ_ (first_2b (er) (10) (w3.alloc (.cells #[.int .u32 xd,.string xn,.int .u32 xi,.int .u8 xk,.int .u32 xl,.int .u32 xz,.int .u32 xp] 65)) (w3.heap.size + 1) (by simp))
  rw [FE4] at HF4
  clear FE4
  go_upto_region 2 with (fail)
  go_cut [7] (fun p wx => p = .int .i64 (er) ∧ BL_ (w3.alloc (.cells #[.int .u32 xd,.string xn,.int .u32 xi,.int .u8 xk,.int .u32 xl,.int .u32 xz,.int .u32 xp] 65)) wx)
  case first =>
   go_wp2_with (first | (go_at_call 72; (with_reducible refine (HWT.out _ _).mono ?_); rintro e w9 ⟨rfl,rfl⟩) | (go_at_call 72; (with_reducible refine (HWF.out _ _).mono ?_); rintro e w9 ⟨rfl,rfl⟩) | (go_at_call 71; (with_reducible refine HF4.out.1.mono ?_); rintro e w9 ⟨rfl,rfl⟩))
   all_goals
    go_meet
    exact fB_
  case rest =>
   obtain ⟨rfl,hbc⟩ := hcut
   have A4 := hQ_ (A3.out.below HS.out hbc)
   have X4 := hQ_ (X3.out.below hbc)
   skip
   have f4_X0 := cC7 X4.out
   clear hbc f3_X0
   clear he
   go_wp2_with fail
   go_ret
   exact Ans.ok A4.out ⟨C3.out.1.more (by omega) (by omega),C3.out.2⟩
theorem ulk_none (hW0 : Wk Rep) (path : ByteArray) {xd xi xk xl xz xp er : Int} {xn : ByteArray} (hr : Rep w v s S D) (hl : Lim s) (h2 : s.rd.length ≤ 18000) (h3 : s.rg.length ≤ 900) (hx : Mxs w S) (hp : path.size ≤ 100000) (hR : findM s.shown path = (⟨xd,xn,xi,⟨xk,xl,xz,xp⟩⟩,er)) (hk : ∀ p ∈ s.shown,(sp p.key).letter ≠ 0) (hnb : ∀ p ∈ s.shown,∀ i,blkB i p = false) (he : er = 0) (h0 : xi = 0) :
 Calls Tryz.prog 32 #[v,.string path] w (Ans Rep v s 10 [] 41 1 S D w) := by
 have A0 := hQ_ (At.start hr)
 have HX := hQ_ hx
 have HS := hQ_ hW0.stays
 have HL := hQ_ hl
 have C0 := hQ_ (aft0 s)
 have HWT := hQ_ when_t
 have HWF := hQ_ when_f
 have HFI := hQ_ (fun w (S D : Nat → Prop) (t : Vs) (hr : Rep w v t S D) (hsm : Sm t s) hl h2 hx => find_c hW0 path hR hr hsm hl h2 hp hx)
 unfold FndC at HFI
 have hsbx := find_bd s.shown path
 have hibx := find_ib s.shown path
 rw [hR] at hsbx hibx
 obtain ⟨x0,x1,x2,x3,x4⟩ := hsbx
 dsimp only at x0 x1 x2 x3 x4 HFI hibx
 subst he
 have d2 : (xi == 0) = true := by simpa using h0
 clear hr hl hp hR hx hW0 hk hnb h0
 go_enter Tryz.func32,Tryz.ntmps32
 go_wp2_with fail
 refine (HFI.out _ _ _ _ A0.out.rep (Aft.sm0 C0.out.1) (lim_aft C0.out.1 HL.out (by omega) (by omega)) (by have := C0.out.1.rd; omega) (HX.out.at_ A0.out).1).mono ?_
 rintro e w1 ⟨s1,S1,D1,rfl,hr,st,hsm,hrd,hrg⟩
 have C1 := hQ_ (aftF C0.out hsm hrd hrg)
 have X1 := hQ_ (Blk.new_ w1 #[.int .u32 xd,.string xn,.int .u32 xi,.int .u8 xk,.int .u32 xl,.int .u32 xz,.int .u32 xp] 65)
 have hbn := bX_ X1.out
 have AQ := A0.out.step HS.out hr st
 have A1 := hQ_ (AQ.own HS.out hbn (Nat.le_refl w1.heap.size) (by simp))
 have f1_X0 := cC7 X1.out
 clear hr st hsm hrd hrg hbn AQ
 have FE2 : fst_ [0,10] = 10 := rfl
 have HF2 := hQ_ (first_2b (0) (10) (w1.alloc (.cells #[.int .u32 xd,.string xn,.int .u32 xi,.int .u8 xk,.int .u32 xl,.int .u32 xz,.int .u32 xp] 65)) (w1.heap.size + 1) (by simp))
 rw [FE2] at HF2
 clear FE2
 go_upto_region 2 with (fail)
 go_cut [7] (fun p wx => p = .int .i64 (10) ∧ BL_ (w1.alloc (.cells #[.int .u32 xd,.string xn,.int .u32 xi,.int .u8 xk,.int .u32 xl,.int .u32 xz,.int .u32 xp] 65)) wx)
 case first =>
  go_wp2_with (first | (go_at_call 72; (with_reducible refine (HWT.out _ _).mono ?_); rintro e w9 ⟨rfl,rfl⟩) | (go_at_call 72; (with_reducible refine (HWF.out _ _).mono ?_); rintro e w9 ⟨rfl,rfl⟩) | (go_at_call 71; (with_reducible refine HF2.out.1.mono ?_); rintro e w9 ⟨rfl,rfl⟩))
  all_goals
   go_meet
   exact fB_
 case rest =>
  obtain ⟨rfl,hbc⟩ := hcut
  have A2 := hQ_ (A1.out.below HS.out hbc)
  have X2 := hQ_ (X1.out.below hbc)
  skip
  have f2_X0 := cC7 X2.out
  clear hbc f1_X0
  go_wp2_with fail
  go_ret
  exact Ans.ok A2.out ⟨C1.out.1.more (by omega) (by omega),C1.out.2⟩
theorem ulk_there (hW0 : Wk Rep) (path : ByteArray) {xd xi xk xl xz xp er : Int} {xn : ByteArray} (hr : Rep w v s S D) (hl : Lim s) (h2 : s.rd.length ≤ 18000) (h3 : s.rg.length ≤ 900) (hx : Mxs w S) (hp : path.size ≤ 100000) (hR : findM s.shown path = (⟨xd,xn,xi,⟨xk,xl,xz,xp⟩⟩,er)) (hk : ∀ p ∈ s.shown,(sp p.key).letter ≠ 0) (hnb : ∀ p ∈ s.shown,∀ i,blkB i p = false) (he : er = 0) (h0 : xi ≠ 0) :
 Calls Tryz.prog 32 #[v,.string path] w (Ans Rep v s (unlV ⟨xd,xn,xi,⟨xk,xl,xz,xp⟩⟩).1 (unlV ⟨xd,xn,xi,⟨xk,xl,xz,xp⟩⟩).2 41 1 S D w) := by
 have A0 := hQ_ (At.start hr)
 have HX := hQ_ hx
 have HS := hQ_ hW0.stays
 have HL := hQ_ hl
 have C0 := hQ_ (aft0 s)
 have HWT := hQ_ when_t
 have HWF := hQ_ when_f
 have HFI := hQ_ (fun w (S D : Nat → Prop) (t : Vs) (hr : Rep w v t S D) (hsm : Sm t s) hl h2 hx => find_c hW0 path hR hr hsm hl h2 hp hx)
 unfold FndC at HFI
 have hsbx := find_bd s.shown path
 have hibx := find_ib s.shown path
 rw [hR] at hsbx hibx
 obtain ⟨x0,x1,x2,x3,x4⟩ := hsbx
 dsimp only at x0 x1 x2 x3 x4 HFI hibx
 subst he
 have d2 : (xi == 0) = false := by simpa using h0
 have HC := hQ_ (fun w (S D : Nat → Prop) (t : Vs) (hr : Rep w v t S D) (hsm : Sm t s) hl h2 h3 => unlink_calls hW0 xd xi xk xl xz xp xn hr hl h2 h3 x0 x1 x2 x3 x4 hibx (by rw [hsm.shown]; exact hk) (by rw [hsm.shown]; exact fun p hp => hnb p hp xi))
 obtain ⟨⟨rx,ps⟩,hrx⟩ : ∃ r,unlV ⟨xd,xn,xi,⟨xk,xl,xz,xp⟩⟩ = r := ⟨_,rfl⟩
 rw [hrx] at HC ⊢
 dsimp only at HC ⊢
 clear hrx h0
 clear hr hl hp hR hx hW0 hk hnb
 go_enter Tryz.func32,Tryz.ntmps32
 go_wp2_with fail
 refine (HFI.out _ _ _ _ A0.out.rep (Aft.sm0 C0.out.1) (lim_aft C0.out.1 HL.out (by omega) (by omega)) (by have := C0.out.1.rd; omega) (HX.out.at_ A0.out).1).mono ?_
 rintro e w1 ⟨s1,S1,D1,rfl,hr,st,hsm,hrd,hrg⟩
 have C1 := hQ_ (aftF C0.out hsm hrd hrg)
 have X1 := hQ_ (Blk.new_ w1 #[.int .u32 xd,.string xn,.int .u32 xi,.int .u8 xk,.int .u32 xl,.int .u32 xz,.int .u32 xp] 65)
 have hbn := bX_ X1.out
 have AQ := A0.out.step HS.out hr st
 have A1 := hQ_ (AQ.own HS.out hbn (Nat.le_refl w1.heap.size) (by simp))
 have f1_X0 := cC7 X1.out
 clear hr st hsm hrd hrg hbn AQ
 have FE2 : fst_ [0,0] = 0 := rfl
 have HF2 := hQ_ (first_2b (0) (0) (w1.alloc (.cells #[.int .u32 xd,.string xn,.int .u32 xi,.int .u8 xk,.int .u32 xl,.int .u32 xz,.int .u32 xp] 65)) (w1.heap.size + 1) (by simp))
 rw [FE2] at HF2
 clear FE2
 go_upto_region 2 with (fail)
 go_cut [7] (fun p wx => p = .int .i64 (0) ∧ BL_ (w1.alloc (.cells #[.int .u32 xd,.string xn,.int .u32 xi,.int .u8 xk,.int .u32 xl,.int .u32 xz,.int .u32 xp] 65)) wx)
 case first =>
  go_wp2_with (first | (go_at_call 72; (with_reducible refine (HWT.out _ _).mono ?_); rintro e w9 ⟨rfl,rfl⟩) | (go_at_call 72; (with_reducible refine (HWF.out _ _).mono ?_); rintro e w9 ⟨rfl,rfl⟩) | (go_at_call 71; (with_reducible refine HF2.out.1.mono ?_); rintro e w9 ⟨rfl,rfl⟩))
  all_goals
   go_meet
   exact fB_
 case rest =>
  obtain ⟨rfl,hbc⟩ := hcut
  have A2 := hQ_ (A1.out.below HS.out hbc)
  have X2 := hQ_ (X1.out.below hbc)
  skip
  have f2_X0 := cC7 X2.out
  clear hbc f1_X0
  go_wp2_with fail
  refine (HC.out _ _ _ _ A2.out.rep (Aft.sm0 C1.out.1) (lim_aft C1.out.1 HL.out (by omega) (by omega)) (by have := C1.out.1.rd; omega) (by have := C1.out.1.rg; omega)).mono ?_
  intro e w3 hh
  rcases Ans.split hh with ⟨s3,S3,D3,rfl,ho,hr,st,ha⟩ | ⟨s3,S3,D3,rfl,ho,hr,st,ha⟩
  ·have A3 := hQ_ (A2.out.step HS.out hr st)
   have C3 := hQ_ (Aft.thru C1.out (And.intro ha ho))
   clear hr st ha ho
   go_wp2_with fail
   go_ret
   exact Ans.ok A3.out ⟨C3.out.1.more (by omega) (by omega),C3.out.2⟩
  ·have A3 := hQ_ (A2.out.step HS.out hr st)
   have C3 := hQ_ (Aft.thru C1.out (And.intro ha ho))
   clear hr st ha ho
   go_wp2_with fail
   go_ret
   exact Ans.full A3.out ⟨C3.out.1.more (by omega) (by omega),C3.out.2⟩
theorem ulk_calls (hW0 : Wk Rep) (path : ByteArray) (hr : Rep w v s S D) (hl : Lim s) (h2 : s.rd.length ≤ 18000) (h3 : s.rg.length ≤ 900) (hx : Mxs w S) (hp : path.size ≤ 100000) (hk : ∀ p ∈ s.shown,(sp p.key).letter ≠ 0) (hnb : ∀ p ∈ s.shown,∀ i,blkB i p = false) :
 Calls Tryz.prog 32 #[v,.string path] w (Ans Rep v s (ulkV s.shown path).1 (ulkV s.shown path).2 41 1 S D w) := by
 unfold ulkV
 obtain ⟨⟨⟨xd,xn,xi,⟨xk,xl,xz,xp⟩⟩,er⟩,hR⟩ : ∃ R,findM s.shown path = R := ⟨_,rfl⟩
 have h := hR
 rw [hR]
 dsimp only
 by_cases he : er = 0
 ·rw [if_neg (fun h => h he)]
  by_cases h0 : xi = 0
  ·rw [if_pos h0]
   exact ulk_none hW0 path hr hl h2 h3 hx hp h hk hnb he h0
  ·rw [if_neg h0]
   exact ulk_there hW0 path hr hl h2 h3 hx hp h hk hnb he h0
 ·rw [if_pos he]
  exact ulk_err hW0 path hr hl h2 h3 hx hp h hk hnb he
end Go.Proofs.YtepjjndfodcggaaGreatDoor.DirsKf
namespace Go.Proofs.YtepjjndfodcggaaGreatDoor.DirsKg
open Go.RowKit
open Byte KeysM TreeM ViewM ViewKm NodeM NodeG NamesM NamesL WalkM WalkF WalkKm DirsV Lst Chg TreeL ViewL WalkL WalkV Vat WalkKa WalkKb DirsK DirsKa DirsKb DirsKc DirsKd
open Own hiding keeps
variable {Rep : RepT} {w : World} {v : Value} {s : Vs} {S D : Nat → Prop}
theorem first_2g (a b : Int) (w : World) (g : Nat) (hg : w.heap.size = g) : Calls Tryz.prog 71 #[.slice (some ⟨g,0,none⟩) 2 2] (w.alloc (.cells #[.int .i64 a,.int .i64 b] 66)) fun e w' => e = .returned (.int .i64 (fst_ [a,b])) ∧ (w.alloc (.cells #[.int .i64 a,.int .i64 b] 66)) = w' := by
 subst hg
 exact first_2 a b w
theorem first_3g (a b c : Int) (w : World) (g : Nat) (hg : w.heap.size = g) : Calls Tryz.prog 71 #[.slice (some ⟨g,0,none⟩) 3 3] (w.alloc (.cells #[.int .i64 a,.int .i64 b,.int .i64 c] 66)) fun e w' => e = .returned (.int .i64 (fst_ [a,b,c])) ∧ (w.alloc (.cells #[.int .i64 a,.int .i64 b,.int .i64 c] 66)) = w' := by
 subst hg
 exact first_3 a b c w
theorem first_2d (a b : Int) (w : World) (g : Nat) (hg : w.heap.size = g) : Calls Tryz.prog 71 #[.slice (some ⟨g,0,none⟩) 2 2] (w.alloc (.cells #[.int .i64 a,.int .i64 b] 66)).drew fun e w' => e = .returned (.int .i64 (fst_ [a,b])) ∧ (w.alloc (.cells #[.int .i64 a,.int .i64 b] 66)).drew = w' := by
 subst hg
 exact first_calls _ 2 2 [a,b] _ ((So.lit erE 66 w (base := w.heap.size) [a,b] #[.int .i64 a,.int .i64 b] 2 rfl rfl (Nat.le_refl _) (by decide)).sl.below ((Below.refl _ _).drew)) (by decide)
theorem first_2b (a b : Int) (w : World) (g : Nat) (hg : w.heap.size = g) : (Calls Tryz.prog 71 #[.slice (some ⟨g,0,none⟩) 2 2] (w.alloc (.cells #[.int .i64 a,.int .i64 b] 66)) fun e w' => e = .returned (.int .i64 (fst_ [a,b])) ∧ (w.alloc (.cells #[.int .i64 a,.int .i64 b] 66)) = w') ∧ (Calls Tryz.prog 71 #[.slice (some ⟨g,0,none⟩) 2 2] (w.alloc (.cells #[.int .i64 a,.int .i64 b] 66)).drew fun e w' => e = .returned (.int .i64 (fst_ [a,b])) ∧ (w.alloc (.cells #[.int .i64 a,.int .i64 b] 66)).drew = w') := ⟨first_2g a b w g hg,first_2d a b w g hg⟩
theorem first_3d (a b c : Int) (w : World) (g : Nat) (hg : w.heap.size = g) : Calls Tryz.prog 71 #[.slice (some ⟨g,0,none⟩) 3 3] (w.alloc (.cells #[.int .i64 a,.int .i64 b,.int .i64 c] 66)).drew fun e w' => e = .returned (.int .i64 (fst_ [a,b,c])) ∧ (w.alloc (.cells #[.int .i64 a,.int .i64 b,.int .i64 c] 66)).drew = w' := by
 subst hg
 exact first_calls _ 3 3 [a,b,c] _ ((So.lit erE 66 w (base := w.heap.size) [a,b,c] #[.int .i64 a,.int .i64 b,.int .i64 c] 3 rfl rfl (Nat.le_refl _) (by decide)).sl.below ((Below.refl _ _).drew)) (by decide)
theorem first_3b (a b c : Int) (w : World) (g : Nat) (hg : w.heap.size = g) : (Calls Tryz.prog 71 #[.slice (some ⟨g,0,none⟩) 3 3] (w.alloc (.cells #[.int .i64 a,.int .i64 b,.int .i64 c] 66)) fun e w' => e = .returned (.int .i64 (fst_ [a,b,c])) ∧ (w.alloc (.cells #[.int .i64 a,.int .i64 b,.int .i64 c] 66)) = w') ∧ (Calls Tryz.prog 71 #[.slice (some ⟨g,0,none⟩) 3 3] (w.alloc (.cells #[.int .i64 a,.int .i64 b,.int .i64 c] 66)).drew fun e w' => e = .returned (.int .i64 (fst_ [a,b,c])) ∧ (w.alloc (.cells #[.int .i64 a,.int .i64 b,.int .i64 c] 66)).drew = w') := ⟨first_3g a b c w g hg,first_3d a b c w g hg⟩
theorem blk_ne {u : World} {a b : Nat} {cs ds : Array Value} {U V : TypeId} (h : Blk u a cs U) (k : Blk u b ds V) (hne : U ≠ V) : a ≠ b := by
 rintro rfl
 unfold Blk at h k
 rw [h] at k
 injection k with k
 injection k with _ k
 exact hne k
def ListA (Rep : RepT) (v : Value) (s : Vs) (r : List ByteArray × Int) (k m : Nat) (S D : Nat → Prop) (w : World) (e : Ending) (w' : World) : Prop := ∃ A n c s' S' D',e = .returned (.tuple #[.slice A n c,.int .i64 r.2]) ∧ Sl Tx.txE w' A n r.1 ∧ Rep w' v s' S' D' ∧ Stp S D S' D' w w' ∧ Aft s s' [] k m
theorem ListA.none_ {v : Value} {s s' : Vs} {er : Int} {k m : Nat} {S D M S' D' : Nat → Prop} {w w' : World} (A : At Rep w S D M w' v s' S' D') (h : Aft s s' [] k m) : ListA Rep v s ([],er) k m S D w (.returned (.tuple #[.slice none 0 0,.int .i64 er])) w' := ⟨none,0,0,s',S',D',rfl,Sl.nil_ _ _ _,A.rep,A.st,h⟩
theorem lst_err (hW0 : Wk Rep) (path : ByteArray) {li lk ll lz lp er : Int} (hr : Rep w v s S D) (hl : Lim s) (h2 : s.rd.length ≤ 18000) (h3 : s.rg.length ≤ 900) (hx : Mxs w S) (hp : path.size ≤ 100000) (hL : leadM s.shown path = (li,⟨lk,ll,lz,lp⟩,er)) (he : er ≠ 0) (hk2 : lk = 0) :
 Calls Tryz.prog 47 #[v,.string path] w (ListA Rep v s ([],er) 40 1 S D w) := by
 have A0 := hQ_ (At.start hr)
 have HX := hQ_ hx
 have HS := hQ_ hW0.stays
 have HL := hQ_ hl
 have C0 := hQ_ (aft0 s)
 have HWT := hQ_ when_t
 have HWF := hQ_ when_f
 have HLE := hQ_ (fun w (S D : Nat → Prop) (t : Vs) (hr : Rep w v t S D) (hsm : Sm t s) hl h2 hx => lead_c hW0 path hL hr hsm hl h2 hp hx)
 unfold LeadC at HLE
 dsimp only at HLE
 have d1 : (lk != 2) = true := by rw [hk2]; rfl
 have d0 : (er != 0) = true := by simpa using he
 clear hr hl hp hL hx hW0 hk2
 go_enter Tryz.func47,Tryz.ntmps47
 go_wp2_with fail
 refine (HLE.out _ _ _ _ A0.out.rep (Aft.sm0 C0.out.1) (lim_aft C0.out.1 HL.out (by omega) (by omega)) (by have := C0.out.1.rd; omega) (HX.out.at_ A0.out)).mono ?_
 rintro e w1 ⟨s1,S1,D1,rfl,hr,st,hsm,hrd,hrg⟩
 have C1 := hQ_ (aftF C0.out hsm hrd hrg)
 have I1 := hQ_ (Blk.new_ w1 #[.int .u8 lk,.int .u32 ll,.int .u32 lz,.int .u32 lp] 59)
 have hbn := bX_ I1.out
 have A1 := hQ_ ((A0.out.step HS.out hr st).own HS.out hbn (Nat.le_refl w1.heap.size) (by simp))
 have f1_I0 := cC4 I1.out
 clear hr st hsm hrd hrg hbn
 have FE2 : fst_ [er,12] = er := by unfold fst_; rw [if_neg he]
 have HF2 := hQ_ (first_2b (er) (12) (w1.alloc (.cells #[.int .u8 lk,.int .u32 ll,.int .u32 lz,.int .u32 lp] 59)) (w1.heap.size + 1) (by simp))
 rw [FE2] at HF2
 clear FE2
 go_upto_region 2 with (fail)
 go_cut [9] (fun p wx => p = .int .i64 (er) ∧ BL_ (w1.alloc (.cells #[.int .u8 lk,.int .u32 ll,.int .u32 lz,.int .u32 lp] 59)) wx)
 case first =>
  go_wp2_with (first | (go_at_call 72; (with_reducible refine (HWT.out _ _).mono ?_); rintro e w9 ⟨rfl,rfl⟩) | (go_at_call 72; (with_reducible refine (HWF.out _ _).mono ?_); rintro e w9 ⟨rfl,rfl⟩) | (go_at_call 71; (with_reducible refine HF2.out.1.mono ?_); rintro e w9 ⟨rfl,rfl⟩))
  all_goals
   go_meet
   exact fB_
 case rest =>
  obtain ⟨rfl,hbc⟩ := hcut
  have A2 := hQ_ (A1.out.below HS.out hbc)
  have I2 := hQ_ (I1.out.below hbc)
  skip
  have f2_I0 := cC4 I2.out
  clear hbc f1_I0
  clear he
  go_wp2_with fail
  go_ret2
  exact ListA.none_ A2.out (C1.out.1.more (by omega) (by omega))
theorem lst_file (hW0 : Wk Rep) (path : ByteArray) {li lk ll lz lp er : Int} (hr : Rep w v s S D) (hl : Lim s) (h2 : s.rd.length ≤ 18000) (h3 : s.rg.length ≤ 900) (hx : Mxs w S) (hp : path.size ≤ 100000) (hL : leadM s.shown path = (li,⟨lk,ll,lz,lp⟩,er)) (he : er = 0) (hk2 : lk ≠ 2) :
 Calls Tryz.prog 47 #[v,.string path] w (ListA Rep v s ([],12) 40 1 S D w) := by
 have A0 := hQ_ (At.start hr)
 have HX := hQ_ hx
 have HS := hQ_ hW0.stays
 have HL := hQ_ hl
 have C0 := hQ_ (aft0 s)
 have HWT := hQ_ when_t
 have HWF := hQ_ when_f
 have HLE := hQ_ (fun w (S D : Nat → Prop) (t : Vs) (hr : Rep w v t S D) (hsm : Sm t s) hl h2 hx => lead_c hW0 path hL hr hsm hl h2 hp hx)
 unfold LeadC at HLE
 dsimp only at HLE
 subst he
 have d0 : (lk != 2) = true := by simpa using hk2
 clear hr hl hp hL hx hk2 hW0
 go_enter Tryz.func47,Tryz.ntmps47
 go_wp2_with fail
 refine (HLE.out _ _ _ _ A0.out.rep (Aft.sm0 C0.out.1) (lim_aft C0.out.1 HL.out (by omega) (by omega)) (by have := C0.out.1.rd; omega) (HX.out.at_ A0.out)).mono ?_
 rintro e w1 ⟨s1,S1,D1,rfl,hr,st,hsm,hrd,hrg⟩
 have C1 := hQ_ (aftF C0.out hsm hrd hrg)
 have I1 := hQ_ (Blk.new_ w1 #[.int .u8 lk,.int .u32 ll,.int .u32 lz,.int .u32 lp] 59)
 have hbn := bX_ I1.out
 have A1 := hQ_ ((A0.out.step HS.out hr st).own HS.out hbn (Nat.le_refl w1.heap.size) (by simp))
 have f1_I0 := cC4 I1.out
 clear hr st hsm hrd hrg hbn
 have FE2 : fst_ [0,12] = 12 := rfl
 have HF2 := hQ_ (first_2b (0) (12) (w1.alloc (.cells #[.int .u8 lk,.int .u32 ll,.int .u32 lz,.int .u32 lp] 59)) (w1.heap.size + 1) (by simp))
 rw [FE2] at HF2
 clear FE2
 go_upto_region 2 with (fail)
 go_cut [9] (fun p wx => p = .int .i64 (12) ∧ BL_ (w1.alloc (.cells #[.int .u8 lk,.int .u32 ll,.int .u32 lz,.int .u32 lp] 59)) wx)
 case first =>
  go_wp2_with (first | (go_at_call 72; (with_reducible refine (HWT.out _ _).mono ?_); rintro e w9 ⟨rfl,rfl⟩) | (go_at_call 72; (with_reducible refine (HWF.out _ _).mono ?_); rintro e w9 ⟨rfl,rfl⟩) | (go_at_call 71; (with_reducible refine HF2.out.1.mono ?_); rintro e w9 ⟨rfl,rfl⟩))
  all_goals
   go_meet
   exact fB_
 case rest =>
  obtain ⟨rfl,hbc⟩ := hcut
  have A2 := hQ_ (A1.out.below HS.out hbc)
  have I2 := hQ_ (I1.out.below hbc)
  skip
  have f2_I0 := cC4 I2.out
  clear hbc f1_I0
  go_wp2_with fail
  go_ret2
  exact ListA.none_ A2.out (C1.out.1.more (by omega) (by omega))
theorem lst_dir (hW0 : Wk Rep) (path : ByteArray) {li lk ll lz lp er : Int} (hr : Rep w v s S D) (hl : Lim s) (h2 : s.rd.length ≤ 18000) (h3 : s.rg.length ≤ 900) (hx : Mxs w S) (hp : path.size ≤ 100000) (hL : leadM s.shown path = (li,⟨lk,ll,lz,lp⟩,er)) (he : er = 0) (hk2 : lk = 2) (l0 : 0 ≤ li) (l1 : li ≤ 4294967295) (hk : ∀ p ∈ s.shown,(sp p.key).letter ≠ 0) :
 Calls Tryz.prog 47 #[v,.string path] w (ListA Rep v s (listM li s.shown,0) 40 1 S D w) := by
 have A0 := hQ_ (At.start hr)
 have HX := hQ_ hx
 have HS := hQ_ hW0.stays
 have HL := hQ_ hl
 have C0 := hQ_ (aft0 s)
 have HWT := hQ_ when_t
 have HWF := hQ_ when_f
 have HLE := hQ_ (fun w (S D : Nat → Prop) (t : Vs) (hr : Rep w v t S D) (hsm : Sm t s) hl h2 hx => lead_c hW0 path hL hr hsm hl h2 hp hx)
 unfold LeadC at HLE
 dsimp only at HLE
 have HLS := hQ_ (fun w (S D : Nat → Prop) (t : Vs) (hr : Rep w v t S D) (hsm : Sm t s) (hl : Lim t) => show Calls _ _ _ _ (fun e w' => ∃ A m c a b S' D',e = .returned (.slice A m c) ∧ Sl Tx.txE w' A m (listM li s.shown) ∧ Rep w' v (t.ranged a b) S' D' ∧ Stp S D S' D' w w') by rw [← hsm.shown]; exact hW0.list li hr hl l0 l1 (by rw [hsm.shown]; exact hk))
 subst he
 have d1 : (lk != 2) = false := by rw [hk2]; rfl
 clear hr hl hp hL hx hk hW0 hk2
 go_enter Tryz.func47,Tryz.ntmps47
 go_wp2_with fail
 refine (HLE.out _ _ _ _ A0.out.rep (Aft.sm0 C0.out.1) (lim_aft C0.out.1 HL.out (by omega) (by omega)) (by have := C0.out.1.rd; omega) (HX.out.at_ A0.out)).mono ?_
 rintro e w1 ⟨s1,S1,D1,rfl,hr,st,hsm,hrd,hrg⟩
 have C1 := hQ_ (aftF C0.out hsm hrd hrg)
 have I1 := hQ_ (Blk.new_ w1 #[.int .u8 lk,.int .u32 ll,.int .u32 lz,.int .u32 lp] 59)
 have hbn := bX_ I1.out
 have A1 := hQ_ ((A0.out.step HS.out hr st).own HS.out hbn (Nat.le_refl w1.heap.size) (by simp))
 have f1_I0 := cC4 I1.out
 clear hr st hsm hrd hrg hbn
 have FE2 : fst_ [0,0] = 0 := rfl
 have HF2 := hQ_ (first_2b (0) (0) (w1.alloc (.cells #[.int .u8 lk,.int .u32 ll,.int .u32 lz,.int .u32 lp] 59)) (w1.heap.size + 1) (by simp))
 rw [FE2] at HF2
 clear FE2
 go_upto_region 2 with (fail)
 go_cut [9] (fun p wx => p = .int .i64 (0) ∧ BL_ (w1.alloc (.cells #[.int .u8 lk,.int .u32 ll,.int .u32 lz,.int .u32 lp] 59)) wx)
 case first =>
  go_wp2_with (first | (go_at_call 72; (with_reducible refine (HWT.out _ _).mono ?_); rintro e w9 ⟨rfl,rfl⟩) | (go_at_call 72; (with_reducible refine (HWF.out _ _).mono ?_); rintro e w9 ⟨rfl,rfl⟩) | (go_at_call 71; (with_reducible refine HF2.out.1.mono ?_); rintro e w9 ⟨rfl,rfl⟩))
  all_goals
   go_meet
   exact fB_
 case rest =>
  obtain ⟨rfl,hbc⟩ := hcut
  have A2 := hQ_ (A1.out.below HS.out hbc)
  have I2 := hQ_ (I1.out.below hbc)
  skip
  have f2_I0 := cC4 I2.out
  clear hbc f1_I0
  go_wp2_with fail
  refine (HLS.out _ _ _ _ A2.out.rep (Aft.sm0 C1.out.1) (lim_aft C1.out.1 HL.out (by omega) (by omega))).mono ?_
  rintro e w7 ⟨ra,rm,rc,a,b,S7,D7,rfl,hsl,hr,st⟩
  have A7 := hQ_ (A2.out.step HS.out hr st)
  have C7 := hQ_ (show Aft s (s1.ranged a b) [] 40 1 from ⟨((Sm.refl _).ranged a b).trans C1.out.1.sm,Nat.le_trans (Nat.le_of_eq (ranged_rd s1 a b)) C1.out.1.rd,Nat.le_trans (ranged_rg s1 a b) (Nat.succ_le_succ C1.out.1.rg)⟩)
  have HSL := hQ_ hsl
  clear hsl hr st
  go_wp2_with fail
  go_ret2
  exact ⟨ra,rm,rc,_,S7,D7,rfl,HSL.out,A7.out.rep,A7.out.st,C7.out⟩
theorem lst_calls (hW0 : Wk Rep) (path : ByteArray) (hr : Rep w v s S D) (hl : Lim s) (h2 : s.rd.length ≤ 18000) (h3 : s.rg.length ≤ 900) (hx : Mxs w S) (hp : path.size ≤ 100000) (hk : ∀ p ∈ s.shown,(sp p.key).letter ≠ 0) :
 Calls Tryz.prog 47 #[v,.string path] w (ListA Rep v s (lstV s.shown path) 40 1 S D w) := by
 obtain ⟨⟨li,⟨lk,ll,lz,lp⟩,er⟩,hL⟩ : ∃ R,leadM s.shown path = R := ⟨_,rfl⟩
 have h := hL
 unfold leadM at h
 unfold lstV
 have hsb := find_bd s.shown path
 by_cases he : (findM s.shown path).2 = 0
 ·rw [if_neg (fun h => h he)] at h ⊢
  by_cases h0 : (findM s.shown path).1.ino = 0
  ·rw [if_pos h0] at h ⊢
   injection h with h1 h
   injection h with h5 h6
   injection h5 with h5
   subst h6
   exact lst_err hW0 path hr hl h2 h3 hx hp hL (by decide) h5.symm
  ·rw [if_neg h0] at h ⊢
   injection h with h1 h
   injection h with h5 h6
   rw [h1,h5]
   by_cases hk2 : lk = 2
   ·rw [if_neg (fun h => h hk2)]
    exact lst_dir hW0 path hr hl h2 h3 hx hp hL h6.symm hk2 (by rw [← h1]; exact hsb.i0) (by rw [← h1]; exact hsb.i1) hk
   ·rw [if_pos hk2]
    exact lst_file hW0 path hr hl h2 h3 hx hp hL h6.symm hk2
 ·rw [if_pos he] at h ⊢
  injection h with h1 h
  injection h with h5 h6
  injection h5 with h5
  rw [h6] at he ⊢
  exact lst_err hW0 path hr hl h2 h3 hx hp hL he h5.symm
theorem lnk_err (hW0 : Wk Rep) (old path : ByteArray) {li lk ll lz lp er : Int} (hr : Rep w v s S D) (hl : Lim s) (h2 : s.rd.length ≤ 18000) (h3 : s.rg.length ≤ 900) (hx : Mxs w S) (hp : old.size ≤ 100000) (hp2 : path.size ≤ 100000) (hL : leadM s.shown old = (li,⟨lk,ll,lz,lp⟩,er)) (he : er ≠ 0) (hk2 : lk = 0) :
 Calls Tryz.prog 31 #[v,.string old,.string path] w (Ans Rep v s er [] 81 0 S D w) := by
 have A0 := hQ_ (At.start hr)
 have HX := hQ_ hx
 have HS := hQ_ hW0.stays
 have HL := hQ_ hl
 have C0 := hQ_ (aft0 s)
 have HWT := hQ_ when_t
 have HWF := hQ_ when_f
 have HLE := hQ_ (fun w (S D : Nat → Prop) (t : Vs) (hr : Rep w v t S D) (hsm : Sm t s) hl h2 hx => lead_c hW0 old hL hr hsm hl h2 hp hx)
 unfold LeadC at HLE
 dsimp only at HLE
 have d1 : (lk != 1) = true := by rw [hk2]; rfl
 have d0 : (er != 0) = true := by simpa using he
 clear hr hl hp hp2 hL hx hW0 hk2
 go_enter Tryz.func31,Tryz.ntmps31
 go_wp2_with fail
 refine (HLE.out _ _ _ _ A0.out.rep (Aft.sm0 C0.out.1) (lim_aft C0.out.1 HL.out (by omega) (by omega)) (by have := C0.out.1.rd; omega) (HX.out.at_ A0.out)).mono ?_
 rintro e w1 ⟨s1,S1,D1,rfl,hr,st,hsm,hrd,hrg⟩
 have C1 := hQ_ (aftF C0.out hsm hrd hrg)
 have I1 := hQ_ (Blk.new_ w1 #[.int .u8 lk,.int .u32 ll,.int .u32 lz,.int .u32 lp] 59)
 have hbn := bX_ I1.out
 have A1 := hQ_ ((A0.out.step HS.out hr st).own HS.out hbn (Nat.le_refl w1.heap.size) (by simp))
 have f1_I0 := cC4 I1.out
 clear hr st hsm hrd hrg hbn
 have FE2 : fst_ [er,13] = er := by unfold fst_; rw [if_neg he]
 have HF2 := hQ_ (first_2b (er) (13) (w1.alloc (.cells #[.int .u8 lk,.int .u32 ll,.int .u32 lz,.int .u32 lp] 59)) (w1.heap.size + 1) (by simp))
 rw [FE2] at HF2
 clear FE2
 go_upto_region 2 with (fail)
 go_cut [10] (fun p wx => p = .int .i64 (er) ∧ BL_ (w1.alloc (.cells #[.int .u8 lk,.int .u32 ll,.int .u32 lz,.int .u32 lp] 59)) wx)
 case first =>
  go_wp2_with (first | (go_at_call 72; (with_reducible refine (HWT.out _ _).mono ?_); rintro e w9 ⟨rfl,rfl⟩) | (go_at_call 72; (with_reducible refine (HWF.out _ _).mono ?_); rintro e w9 ⟨rfl,rfl⟩) | (go_at_call 71; (with_reducible refine HF2.out.1.mono ?_); rintro e w9 ⟨rfl,rfl⟩))
  all_goals
   go_meet
   exact fB_
 case rest =>
  obtain ⟨rfl,hbc⟩ := hcut
  have A2 := hQ_ (A1.out.below HS.out hbc)
  have I2 := hQ_ (I1.out.below hbc)
  skip
  have f2_I0 := cC4 I2.out
  clear hbc f1_I0
  clear he
  go_wp2_with fail
  go_ret
  exact Ans.ok A2.out ⟨C1.out.1.more (by omega) (by omega),C1.out.2⟩
theorem lnk_dir (hW0 : Wk Rep) (old path : ByteArray) {li lk ll lz lp er : Int} (hr : Rep w v s S D) (hl : Lim s) (h2 : s.rd.length ≤ 18000) (h3 : s.rg.length ≤ 900) (hx : Mxs w S) (hp : old.size ≤ 100000) (hp2 : path.size ≤ 100000) (hL : leadM s.shown old = (li,⟨lk,ll,lz,lp⟩,er)) (he : er = 0) (hk2 : lk ≠ 1) :
 Calls Tryz.prog 31 #[v,.string old,.string path] w (Ans Rep v s 13 [] 81 0 S D w) := by
 have A0 := hQ_ (At.start hr)
 have HX := hQ_ hx
 have HS := hQ_ hW0.stays
 have HL := hQ_ hl
 have C0 := hQ_ (aft0 s)
 have HWT := hQ_ when_t
 have HWF := hQ_ when_f
 have HLE := hQ_ (fun w (S D : Nat → Prop) (t : Vs) (hr : Rep w v t S D) (hsm : Sm t s) hl h2 hx => lead_c hW0 old hL hr hsm hl h2 hp hx)
 unfold LeadC at HLE
 dsimp only at HLE
 subst he
 have d0 : (lk != 1) = true := by simpa using hk2
 clear hr hl hp hp2 hL hx hk2 hW0
 go_enter Tryz.func31,Tryz.ntmps31
 go_wp2_with fail
 refine (HLE.out _ _ _ _ A0.out.rep (Aft.sm0 C0.out.1) (lim_aft C0.out.1 HL.out (by omega) (by omega)) (by have := C0.out.1.rd; omega) (HX.out.at_ A0.out)).mono ?_
 rintro e w1 ⟨s1,S1,D1,rfl,hr,st,hsm,hrd,hrg⟩
 have C1 := hQ_ (aftF C0.out hsm hrd hrg)
 have I1 := hQ_ (Blk.new_ w1 #[.int .u8 lk,.int .u32 ll,.int .u32 lz,.int .u32 lp] 59)
 have hbn := bX_ I1.out
 have A1 := hQ_ ((A0.out.step HS.out hr st).own HS.out hbn (Nat.le_refl w1.heap.size) (by simp))
 have f1_I0 := cC4 I1.out
 clear hr st hsm hrd hrg hbn
 have FE2 : fst_ [0,13] = 13 := rfl
 have HF2 := hQ_ (first_2b (0) (13) (w1.alloc (.cells #[.int .u8 lk,.int .u32 ll,.int .u32 lz,.int .u32 lp] 59)) (w1.heap.size + 1) (by simp))
 rw [FE2] at HF2
 clear FE2
 go_upto_region 2 with (fail)
 go_cut [10] (fun p wx => p = .int .i64 (13) ∧ BL_ (w1.alloc (.cells #[.int .u8 lk,.int .u32 ll,.int .u32 lz,.int .u32 lp] 59)) wx)
 case first =>
  go_wp2_with (first | (go_at_call 72; (with_reducible refine (HWT.out _ _).mono ?_); rintro e w9 ⟨rfl,rfl⟩) | (go_at_call 72; (with_reducible refine (HWF.out _ _).mono ?_); rintro e w9 ⟨rfl,rfl⟩) | (go_at_call 71; (with_reducible refine HF2.out.1.mono ?_); rintro e w9 ⟨rfl,rfl⟩))
  all_goals
   go_meet
   exact fB_
 case rest =>
  obtain ⟨rfl,hbc⟩ := hcut
  have A2 := hQ_ (A1.out.below HS.out hbc)
  have I2 := hQ_ (I1.out.below hbc)
  skip
  have f2_I0 := cC4 I2.out
  clear hbc f1_I0
  go_wp2_with fail
  go_ret
  exact Ans.ok A2.out ⟨C1.out.1.more (by omega) (by omega),C1.out.2⟩
theorem lnk_err2_00 (hW0 : Wk Rep) (old path : ByteArray) {li lk ll lz lp er : Int} {xd xi xk xl xz xp er2 : Int} {xn : ByteArray} (hr : Rep w v s S D) (hl : Lim s) (h2 : s.rd.length ≤ 18000) (h3 : s.rg.length ≤ 900) (hx : Mxs w S) (hp : old.size ≤ 100000) (hp2 : path.size ≤ 100000) (hL : leadM s.shown old = (li,⟨lk,ll,lz,lp⟩,er)) (hR : findM s.shown path = (⟨xd,xn,xi,⟨xk,xl,xz,xp⟩⟩,er2)) (he : er = 0) (hk2 : lk = 1) (he2 : er2 ≠ 0) (ha : xi = 0) (hb : ll < 1000) :
 Calls Tryz.prog 31 #[v,.string old,.string path] w (Ans Rep v s er2 [] 81 0 S D w) := by
 have A0 := hQ_ (At.start hr)
 have HX := hQ_ hx
 have HS := hQ_ hW0.stays
 have HL := hQ_ hl
 have C0 := hQ_ (aft0 s)
 have HWT := hQ_ when_t
 have HWF := hQ_ when_f
 have HLE := hQ_ (fun w (S D : Nat → Prop) (t : Vs) (hr : Rep w v t S D) (hsm : Sm t s) hl h2 hx => lead_c hW0 old hL hr hsm hl h2 hp hx)
 unfold LeadC at HLE
 dsimp only at HLE
 have HFI := hQ_ (fun w (S D : Nat → Prop) (t : Vs) (hr : Rep w v t S D) (hsm : Sm t s) hl h2 hx => find_c hW0 path hR hr hsm hl h2 hp2 hx)
 unfold FndC at HFI
 have hsbx := find_bd s.shown path
 have hibx := find_ib s.shown path
 rw [hR] at hsbx hibx
 obtain ⟨x0,x1,x2,x3,x4⟩ := hsbx
 dsimp only at x0 x1 x2 x3 x4 HFI hibx
 subst he
 have e1 : (lk != 1) = false := by simpa using hk2
 have d0 : (er2 != 0) = true := by simpa using he2
 have d1 : (xi != 0) = false := by simpa using ha
 have d2 : decide ((1000 : Int) ≤ ll) = false := by simp; omega
 clear ha hb hk2 hr hl hp hp2 hL hx hR hW0
 go_enter Tryz.func31,Tryz.ntmps31
 go_wp2_with fail
 refine (HLE.out _ _ _ _ A0.out.rep (Aft.sm0 C0.out.1) (lim_aft C0.out.1 HL.out (by omega) (by omega)) (by have := C0.out.1.rd; omega) (HX.out.at_ A0.out)).mono ?_
 rintro e w1 ⟨s1,S1,D1,rfl,hr,st,hsm,hrd,hrg⟩
 have C1 := hQ_ (aftF C0.out hsm hrd hrg)
 have I1 := hQ_ (Blk.new_ w1 #[.int .u8 lk,.int .u32 ll,.int .u32 lz,.int .u32 lp] 59)
 have hbn := bX_ I1.out
 have A1 := hQ_ ((A0.out.step HS.out hr st).own HS.out hbn (Nat.le_refl w1.heap.size) (by simp))
 have f1_I0 := cC4 I1.out
 clear hr st hsm hrd hrg hbn
 have FE2 : fst_ [0,0] = 0 := rfl
 have HF2 := hQ_ (first_2b (0) (0) (w1.alloc (.cells #[.int .u8 lk,.int .u32 ll,.int .u32 lz,.int .u32 lp] 59)) (w1.heap.size + 1) (by simp))
 rw [FE2] at HF2
 clear FE2
 go_upto_region 2 with (fail)
 go_cut [10] (fun p wx => p = .int .i64 (0) ∧ BL_ (w1.alloc (.cells #[.int .u8 lk,.int .u32 ll,.int .u32 lz,.int .u32 lp] 59)) wx)
 case first =>
  go_wp2_with (first | (go_at_call 72; (with_reducible refine (HWT.out _ _).mono ?_); rintro e w9 ⟨rfl,rfl⟩) | (go_at_call 72; (with_reducible refine (HWF.out _ _).mono ?_); rintro e w9 ⟨rfl,rfl⟩) | (go_at_call 71; (with_reducible refine HF2.out.1.mono ?_); rintro e w9 ⟨rfl,rfl⟩))
  all_goals
   go_meet
   exact fB_
 case rest =>
  obtain ⟨rfl,hbc⟩ := hcut
  have A2 := hQ_ (A1.out.below HS.out hbc)
  have I2 := hQ_ (I1.out.below hbc)
  skip
  have f2_I0 := cC4 I2.out
  clear hbc f1_I0
  go_wp2_with fail
  refine (HFI.out _ _ _ _ A2.out.rep (Aft.sm0 C1.out.1) (lim_aft C1.out.1 HL.out (by omega) (by omega)) (by have := C1.out.1.rd; omega) (HX.out.at_ A2.out).1).mono ?_
  rintro e w3 ⟨s3,S3,D3,rfl,hr,st,hsm,hrd,hrg⟩
  have C3 := hQ_ (aftF C1.out hsm hrd hrg)
  have X3 := hQ_ (Blk.new_ w3 #[.int .u32 xd,.string xn,.int .u32 xi,.int .u8 xk,.int .u32 xl,.int .u32 xz,.int .u32 xp] 65)
  have hbn := bX_ X3.out
  have AQ := A2.out.step HS.out hr st
  have A3 := hQ_ (AQ.own HS.out hbn (Nat.le_refl w3.heap.size) (by simp))
  have I3 := hQ_ ((A2.out.blk HS.out I2.out (.inr rfl) st).below hbn)
  have f3_I0 := cC4 I3.out
  have f3_X0 := cC7 X3.out
  clear hr st hsm hrd hrg hbn AQ f2_I0
  have FE4 : fst_ [er2,0,0] = er2 := by unfold fst_; rw [if_neg he2]
  have HF4 := hQ_ (first_3b (er2) (0) (0) (w3.alloc (.cells #[.int .u32 xd,.string xn,.int .u32 xi,.int .u8 xk,.int .u32 xl,.int .u32 xz,.int .u32 xp] 65)) (w3.heap.size + 1) (by simp))
  rw [FE4] at HF4
  clear FE4
  go_upto_region 6 with (fail)
  go_cut [12] (fun p wx => p = .int .i64 (er2) ∧ BL_ (w3.alloc (.cells #[.int .u32 xd,.string xn,.int .u32 xi,.int .u8 xk,.int .u32 xl,.int .u32 xz,.int .u32 xp] 65)) wx)
  case first =>
   go_region_law (first | (go_simp; go_at_call 72; (with_reducible refine (HWT.out _ _).mono ?_); rintro e w9 ⟨rfl,rfl⟩) | (go_simp; go_at_call 72; (with_reducible refine (HWF.out _ _).mono ?_); rintro e w9 ⟨rfl,rfl⟩) | (go_simp; go_at_call 71; (first | (with_reducible refine HF4.out.1.mono ?_) | (with_reducible refine HF4.out.2.mono ?_)); rintro e w9 ⟨rfl,rfl⟩))
   all_goals
    go_wp2_with fail
    go_meet
    exact fB_
  case rest =>
   obtain ⟨rfl,hbc⟩ := hcut
   have A4 := hQ_ (A3.out.below HS.out hbc)
   have I4 := hQ_ (I3.out.below hbc)
   have X4 := hQ_ (X3.out.below hbc)
   skip
   have f4_I0 := cC4 I4.out
   have f4_X0 := cC7 X4.out
   clear hbc f3_I0 f3_X0
   clear he2
   go_wp2_with fail
   go_ret
   exact Ans.ok A4.out ⟨C3.out.1.more (by omega) (by omega),C3.out.2⟩
theorem lnk_err2_01 (hW0 : Wk Rep) (old path : ByteArray) {li lk ll lz lp er : Int} {xd xi xk xl xz xp er2 : Int} {xn : ByteArray} (hr : Rep w v s S D) (hl : Lim s) (h2 : s.rd.length ≤ 18000) (h3 : s.rg.length ≤ 900) (hx : Mxs w S) (hp : old.size ≤ 100000) (hp2 : path.size ≤ 100000) (hL : leadM s.shown old = (li,⟨lk,ll,lz,lp⟩,er)) (hR : findM s.shown path = (⟨xd,xn,xi,⟨xk,xl,xz,xp⟩⟩,er2)) (he : er = 0) (hk2 : lk = 1) (he2 : er2 ≠ 0) (ha : xi = 0) (hb : 1000 ≤ ll) :
 Calls Tryz.prog 31 #[v,.string old,.string path] w (Ans Rep v s er2 [] 81 0 S D w) := by
 have A0 := hQ_ (At.start hr)
 have HX := hQ_ hx
 have HS := hQ_ hW0.stays
 have HL := hQ_ hl
 have C0 := hQ_ (aft0 s)
 have HWT := hQ_ when_t
 have HWF := hQ_ when_f
 have HLE := hQ_ (fun w (S D : Nat → Prop) (t : Vs) (hr : Rep w v t S D) (hsm : Sm t s) hl h2 hx => lead_c hW0 old hL hr hsm hl h2 hp hx)
 unfold LeadC at HLE
 dsimp only at HLE
 have HFI := hQ_ (fun w (S D : Nat → Prop) (t : Vs) (hr : Rep w v t S D) (hsm : Sm t s) hl h2 hx => find_c hW0 path hR hr hsm hl h2 hp2 hx)
 unfold FndC at HFI
 have hsbx := find_bd s.shown path
 have hibx := find_ib s.shown path
 rw [hR] at hsbx hibx
 obtain ⟨x0,x1,x2,x3,x4⟩ := hsbx
 dsimp only at x0 x1 x2 x3 x4 HFI hibx
 subst he
 have e1 : (lk != 1) = false := by simpa using hk2
 have d0 : (er2 != 0) = true := by simpa using he2
 have d1 : (xi != 0) = false := by simpa using ha
 have d2 : decide ((1000 : Int) ≤ ll) = true := by simp; omega
 clear ha hb hk2 hr hl hp hp2 hL hx hR hW0
 go_enter Tryz.func31,Tryz.ntmps31
 go_wp2_with fail
 refine (HLE.out _ _ _ _ A0.out.rep (Aft.sm0 C0.out.1) (lim_aft C0.out.1 HL.out (by omega) (by omega)) (by have := C0.out.1.rd; omega) (HX.out.at_ A0.out)).mono ?_
 rintro e w1 ⟨s1,S1,D1,rfl,hr,st,hsm,hrd,hrg⟩
 have C1 := hQ_ (aftF C0.out hsm hrd hrg)
 have I1 := hQ_ (Blk.new_ w1 #[.int .u8 lk,.int .u32 ll,.int .u32 lz,.int .u32 lp] 59)
 have hbn := bX_ I1.out
 have A1 := hQ_ ((A0.out.step HS.out hr st).own HS.out hbn (Nat.le_refl w1.heap.size) (by simp))
 have f1_I0 := cC4 I1.out
 clear hr st hsm hrd hrg hbn
 have FE2 : fst_ [0,0] = 0 := rfl
 have HF2 := hQ_ (first_2b (0) (0) (w1.alloc (.cells #[.int .u8 lk,.int .u32 ll,.int .u32 lz,.int .u32 lp] 59)) (w1.heap.size + 1) (by simp))
 rw [FE2] at HF2
 clear FE2
 go_upto_region 2 with (fail)
 go_cut [10] (fun p wx => p = .int .i64 (0) ∧ BL_ (w1.alloc (.cells #[.int .u8 lk,.int .u32 ll,.int .u32 lz,.int .u32 lp] 59)) wx)
 case first =>
  go_wp2_with (first | (go_at_call 72; (with_reducible refine (HWT.out _ _).mono ?_); rintro e w9 ⟨rfl,rfl⟩) | (go_at_call 72; (with_reducible refine (HWF.out _ _).mono ?_); rintro e w9 ⟨rfl,rfl⟩) | (go_at_call 71; (with_reducible refine HF2.out.1.mono ?_); rintro e w9 ⟨rfl,rfl⟩))
  all_goals
   go_meet
   exact fB_
 case rest =>
  obtain ⟨rfl,hbc⟩ := hcut
  have A2 := hQ_ (A1.out.below HS.out hbc)
  have I2 := hQ_ (I1.out.below hbc)
  skip
  have f2_I0 := cC4 I2.out
  clear hbc f1_I0
  go_wp2_with fail
  refine (HFI.out _ _ _ _ A2.out.rep (Aft.sm0 C1.out.1) (lim_aft C1.out.1 HL.out (by omega) (by omega)) (by have := C1.out.1.rd; omega) (HX.out.at_ A2.out).1).mono ?_
  rintro e w3 ⟨s3,S3,D3,rfl,hr,st,hsm,hrd,hrg⟩
  have C3 := hQ_ (aftF C1.out hsm hrd hrg)
  have X3 := hQ_ (Blk.new_ w3 #[.int .u32 xd,.string xn,.int .u32 xi,.int .u8 xk,.int .u32 xl,.int .u32 xz,.int .u32 xp] 65)
  have hbn := bX_ X3.out
  have AQ := A2.out.step HS.out hr st
  have A3 := hQ_ (AQ.own HS.out hbn (Nat.le_refl w3.heap.size) (by simp))
  have I3 := hQ_ ((A2.out.blk HS.out I2.out (.inr rfl) st).below hbn)
  have f3_I0 := cC4 I3.out
  have f3_X0 := cC7 X3.out
  clear hr st hsm hrd hrg hbn AQ f2_I0
  have FE4 : fst_ [er2,0,18] = er2 := by unfold fst_; rw [if_neg he2]
  have HF4 := hQ_ (first_3b (er2) (0) (18) (w3.alloc (.cells #[.int .u32 xd,.string xn,.int .u32 xi,.int .u8 xk,.int .u32 xl,.int .u32 xz,.int .u32 xp] 65)) (w3.heap.size + 1) (by simp))
  rw [FE4] at HF4
  clear FE4
  go_upto_region 6 with (fail)
  go_cut [12] (fun p wx => p = .int .i64 (er2) ∧ BL_ (w3.alloc (.cells #[.int .u32 xd,.string xn,.int .u32 xi,.int .u8 xk,.int .u32 xl,.int .u32 xz,.int .u32 xp] 65)) wx)
  case first =>
   go_region_law (first | (go_simp; go_at_call 72; (with_reducible refine (HWT.out _ _).mono ?_); rintro e w9 ⟨rfl,rfl⟩) | (go_simp; go_at_call 72; (with_reducible refine (HWF.out _ _).mono ?_); rintro e w9 ⟨rfl,rfl⟩) | (go_simp; go_at_call 71; (first | (with_reducible refine HF4.out.1.mono ?_) | (with_reducible refine HF4.out.2.mono ?_)); rintro e w9 ⟨rfl,rfl⟩))
   all_goals
    go_wp2_with fail
    go_meet
    exact fB_
  case rest =>
   obtain ⟨rfl,hbc⟩ := hcut
   have A4 := hQ_ (A3.out.below HS.out hbc)
   have I4 := hQ_ (I3.out.below hbc)
   have X4 := hQ_ (X3.out.below hbc)
   skip
   have f4_I0 := cC4 I4.out
   have f4_X0 := cC7 X4.out
   clear hbc f3_I0 f3_X0
   clear he2
   go_wp2_with fail
   go_ret
   exact Ans.ok A4.out ⟨C3.out.1.more (by omega) (by omega),C3.out.2⟩
theorem lnk_err2_10 (hW0 : Wk Rep) (old path : ByteArray) {li lk ll lz lp er : Int} {xd xi xk xl xz xp er2 : Int} {xn : ByteArray} (hr : Rep w v s S D) (hl : Lim s) (h2 : s.rd.length ≤ 18000) (h3 : s.rg.length ≤ 900) (hx : Mxs w S) (hp : old.size ≤ 100000) (hp2 : path.size ≤ 100000) (hL : leadM s.shown old = (li,⟨lk,ll,lz,lp⟩,er)) (hR : findM s.shown path = (⟨xd,xn,xi,⟨xk,xl,xz,xp⟩⟩,er2)) (he : er = 0) (hk2 : lk = 1) (he2 : er2 ≠ 0) (ha : xi ≠ 0) (hb : ll < 1000) :
 Calls Tryz.prog 31 #[v,.string old,.string path] w (Ans Rep v s er2 [] 81 0 S D w) := by
 have A0 := hQ_ (At.start hr)
 have HX := hQ_ hx
 have HS := hQ_ hW0.stays
 have HL := hQ_ hl
 have C0 := hQ_ (aft0 s)
 have HWT := hQ_ when_t
 have HWF := hQ_ when_f
 have HLE := hQ_ (fun w (S D : Nat → Prop) (t : Vs) (hr : Rep w v t S D) (hsm : Sm t s) hl h2 hx => lead_c hW0 old hL hr hsm hl h2 hp hx)
 unfold LeadC at HLE
 dsimp only at HLE
 have HFI := hQ_ (fun w (S D : Nat → Prop) (t : Vs) (hr : Rep w v t S D) (hsm : Sm t s) hl h2 hx => find_c hW0 path hR hr hsm hl h2 hp2 hx)
 unfold FndC at HFI
 have hsbx := find_bd s.shown path
 have hibx := find_ib s.shown path
 rw [hR] at hsbx hibx
 obtain ⟨x0,x1,x2,x3,x4⟩ := hsbx
 dsimp only at x0 x1 x2 x3 x4 HFI hibx
 subst he
 have e1 : (lk != 1) = false := by simpa using hk2
 have d0 : (er2 != 0) = true := by simpa using he2
 have d1 : (xi != 0) = true := by simpa using ha
 have d2 : decide ((1000 : Int) ≤ ll) = false := by simp; omega
 clear ha hb hk2 hr hl hp hp2 hL hx hR hW0
 go_enter Tryz.func31,Tryz.ntmps31
 go_wp2_with fail
 refine (HLE.out _ _ _ _ A0.out.rep (Aft.sm0 C0.out.1) (lim_aft C0.out.1 HL.out (by omega) (by omega)) (by have := C0.out.1.rd; omega) (HX.out.at_ A0.out)).mono ?_
 rintro e w1 ⟨s1,S1,D1,rfl,hr,st,hsm,hrd,hrg⟩
 have C1 := hQ_ (aftF C0.out hsm hrd hrg)
 have I1 := hQ_ (Blk.new_ w1 #[.int .u8 lk,.int .u32 ll,.int .u32 lz,.int .u32 lp] 59)
 have hbn := bX_ I1.out
 have A1 := hQ_ ((A0.out.step HS.out hr st).own HS.out hbn (Nat.le_refl w1.heap.size) (by simp))
 have f1_I0 := cC4 I1.out
 clear hr st hsm hrd hrg hbn
 have FE2 : fst_ [0,0] = 0 := rfl
 have HF2 := hQ_ (first_2b (0) (0) (w1.alloc (.cells #[.int .u8 lk,.int .u32 ll,.int .u32 lz,.int .u32 lp] 59)) (w1.heap.size + 1) (by simp))
 rw [FE2] at HF2
 clear FE2
 go_upto_region 2 with (fail)
 go_cut [10] (fun p wx => p = .int .i64 (0) ∧ BL_ (w1.alloc (.cells #[.int .u8 lk,.int .u32 ll,.int .u32 lz,.int .u32 lp] 59)) wx)
 case first =>
  go_wp2_with (first | (go_at_call 72; (with_reducible refine (HWT.out _ _).mono ?_); rintro e w9 ⟨rfl,rfl⟩) | (go_at_call 72; (with_reducible refine (HWF.out _ _).mono ?_); rintro e w9 ⟨rfl,rfl⟩) | (go_at_call 71; (with_reducible refine HF2.out.1.mono ?_); rintro e w9 ⟨rfl,rfl⟩))
  all_goals
   go_meet
   exact fB_
 case rest =>
  obtain ⟨rfl,hbc⟩ := hcut
  have A2 := hQ_ (A1.out.below HS.out hbc)
  have I2 := hQ_ (I1.out.below hbc)
  skip
  have f2_I0 := cC4 I2.out
  clear hbc f1_I0
  go_wp2_with fail
  refine (HFI.out _ _ _ _ A2.out.rep (Aft.sm0 C1.out.1) (lim_aft C1.out.1 HL.out (by omega) (by omega)) (by have := C1.out.1.rd; omega) (HX.out.at_ A2.out).1).mono ?_
  rintro e w3 ⟨s3,S3,D3,rfl,hr,st,hsm,hrd,hrg⟩
  have C3 := hQ_ (aftF C1.out hsm hrd hrg)
  have X3 := hQ_ (Blk.new_ w3 #[.int .u32 xd,.string xn,.int .u32 xi,.int .u8 xk,.int .u32 xl,.int .u32 xz,.int .u32 xp] 65)
  have hbn := bX_ X3.out
  have AQ := A2.out.step HS.out hr st
  have A3 := hQ_ (AQ.own HS.out hbn (Nat.le_refl w3.heap.size) (by simp))
  have I3 := hQ_ ((A2.out.blk HS.out I2.out (.inr rfl) st).below hbn)
  have f3_I0 := cC4 I3.out
  have f3_X0 := cC7 X3.out
  clear hr st hsm hrd hrg hbn AQ f2_I0
  have FE4 : fst_ [er2,11,0] = er2 := by unfold fst_; rw [if_neg he2]
  have HF4 := hQ_ (first_3b (er2) (11) (0) (w3.alloc (.cells #[.int .u32 xd,.string xn,.int .u32 xi,.int .u8 xk,.int .u32 xl,.int .u32 xz,.int .u32 xp] 65)) (w3.heap.size + 1) (by simp))
  rw [FE4] at HF4
  clear FE4
  go_upto_region 6 with (fail)
  go_cut [12] (fun p wx => p = .int .i64 (er2) ∧ BL_ (w3.alloc (.cells #[.int .u32 xd,.string xn,.int .u32 xi,.int .u8 xk,.int .u32 xl,.int .u32 xz,.int .u32 xp] 65)) wx)
  case first =>
   go_region_law (first | (go_simp; go_at_call 72; (with_reducible refine (HWT.out _ _).mono ?_); rintro e w9 ⟨rfl,rfl⟩) | (go_simp; go_at_call 72; (with_reducible refine (HWF.out _ _).mono ?_); rintro e w9 ⟨rfl,rfl⟩) | (go_simp; go_at_call 71; (first | (with_reducible refine HF4.out.1.mono ?_) | (with_reducible refine HF4.out.2.mono ?_)); rintro e w9 ⟨rfl,rfl⟩))
   all_goals
    go_wp2_with fail
    go_meet
    exact fB_
  case rest =>
   obtain ⟨rfl,hbc⟩ := hcut
   have A4 := hQ_ (A3.out.below HS.out hbc)
   have I4 := hQ_ (I3.out.below hbc)
   have X4 := hQ_ (X3.out.below hbc)
   skip
   have f4_I0 := cC4 I4.out
   have f4_X0 := cC7 X4.out
   clear hbc f3_I0 f3_X0
   clear he2
   go_wp2_with fail
   go_ret
   exact Ans.ok A4.out ⟨C3.out.1.more (by omega) (by omega),C3.out.2⟩
theorem lnk_err2_11 (hW0 : Wk Rep) (old path : ByteArray) {li lk ll lz lp er : Int} {xd xi xk xl xz xp er2 : Int} {xn : ByteArray} (hr : Rep w v s S D) (hl : Lim s) (h2 : s.rd.length ≤ 18000) (h3 : s.rg.length ≤ 900) (hx : Mxs w S) (hp : old.size ≤ 100000) (hp2 : path.size ≤ 100000) (hL : leadM s.shown old = (li,⟨lk,ll,lz,lp⟩,er)) (hR : findM s.shown path = (⟨xd,xn,xi,⟨xk,xl,xz,xp⟩⟩,er2)) (he : er = 0) (hk2 : lk = 1) (he2 : er2 ≠ 0) (ha : xi ≠ 0) (hb : 1000 ≤ ll) :
 Calls Tryz.prog 31 #[v,.string old,.string path] w (Ans Rep v s er2 [] 81 0 S D w) := by
 have A0 := hQ_ (At.start hr)
 have HX := hQ_ hx
 have HS := hQ_ hW0.stays
 have HL := hQ_ hl
 have C0 := hQ_ (aft0 s)
 have HWT := hQ_ when_t
 have HWF := hQ_ when_f
 have HLE := hQ_ (fun w (S D : Nat → Prop) (t : Vs) (hr : Rep w v t S D) (hsm : Sm t s) hl h2 hx => lead_c hW0 old hL hr hsm hl h2 hp hx)
 unfold LeadC at HLE
 dsimp only at HLE
 have HFI := hQ_ (fun w (S D : Nat → Prop) (t : Vs) (hr : Rep w v t S D) (hsm : Sm t s) hl h2 hx => find_c hW0 path hR hr hsm hl h2 hp2 hx)
 unfold FndC at HFI
 have hsbx := find_bd s.shown path
 have hibx := find_ib s.shown path
 rw [hR] at hsbx hibx
 obtain ⟨x0,x1,x2,x3,x4⟩ := hsbx
 dsimp only at x0 x1 x2 x3 x4 HFI hibx
 subst he
 have e1 : (lk != 1) = false := by simpa using hk2
 have d0 : (er2 != 0) = true := by simpa using he2
 have d1 : (xi != 0) = true := by simpa using ha
 have d2 : decide ((1000 : Int) ≤ ll) = true := by simp; omega
 clear ha hb hk2 hr hl hp hp2 hL hx hR hW0
 go_enter Tryz.func31,Tryz.ntmps31
 go_wp2_with fail
 refine (HLE.out _ _ _ _ A0.out.rep (Aft.sm0 C0.out.1) (lim_aft C0.out.1 HL.out (by omega) (by omega)) (by have := C0.out.1.rd; omega) (HX.out.at_ A0.out)).mono ?_
 rintro e w1 ⟨s1,S1,D1,rfl,hr,st,hsm,hrd,hrg⟩
 have C1 := hQ_ (aftF C0.out hsm hrd hrg)
 have I1 := hQ_ (Blk.new_ w1 #[.int .u8 lk,.int .u32 ll,.int .u32 lz,.int .u32 lp] 59)
 have hbn := bX_ I1.out
 have A1 := hQ_ ((A0.out.step HS.out hr st).own HS.out hbn (Nat.le_refl w1.heap.size) (by simp))
 have f1_I0 := cC4 I1.out
 clear hr st hsm hrd hrg hbn
 have FE2 : fst_ [0,0] = 0 := rfl
 have HF2 := hQ_ (first_2b (0) (0) (w1.alloc (.cells #[.int .u8 lk,.int .u32 ll,.int .u32 lz,.int .u32 lp] 59)) (w1.heap.size + 1) (by simp))
 rw [FE2] at HF2
 clear FE2
 go_upto_region 2 with (fail)
 go_cut [10] (fun p wx => p = .int .i64 (0) ∧ BL_ (w1.alloc (.cells #[.int .u8 lk,.int .u32 ll,.int .u32 lz,.int .u32 lp] 59)) wx)
 case first =>
  go_wp2_with (first | (go_at_call 72; (with_reducible refine (HWT.out _ _).mono ?_); rintro e w9 ⟨rfl,rfl⟩) | (go_at_call 72; (with_reducible refine (HWF.out _ _).mono ?_); rintro e w9 ⟨rfl,rfl⟩) | (go_at_call 71; (with_reducible refine HF2.out.1.mono ?_); rintro e w9 ⟨rfl,rfl⟩))
  all_goals
   go_meet
   exact fB_
 case rest =>
  obtain ⟨rfl,hbc⟩ := hcut
  have A2 := hQ_ (A1.out.below HS.out hbc)
  have I2 := hQ_ (I1.out.below hbc)
  skip
  have f2_I0 := cC4 I2.out
  clear hbc f1_I0
  go_wp2_with fail
  refine (HFI.out _ _ _ _ A2.out.rep (Aft.sm0 C1.out.1) (lim_aft C1.out.1 HL.out (by omega) (by omega)) (by have := C1.out.1.rd; omega) (HX.out.at_ A2.out).1).mono ?_
  rintro e w3 ⟨s3,S3,D3,rfl,hr,st,hsm,hrd,hrg⟩
  have C3 := hQ_ (aftF C1.out hsm hrd hrg)
  have X3 := hQ_ (Blk.new_ w3 #[.int .u32 xd,.string xn,.int .u32 xi,.int .u8 xk,.int .u32 xl,.int .u32 xz,.int .u32 xp] 65)
  have hbn := bX_ X3.out
  have AQ := A2.out.step HS.out hr st
  have A3 := hQ_ (AQ.own HS.out hbn (Nat.le_refl w3.heap.size) (by simp))
  have I3 := hQ_ ((A2.out.blk HS.out I2.out (.inr rfl) st).below hbn)
  have f3_I0 := cC4 I3.out
  have f3_X0 := cC7 X3.out
  clear hr st hsm hrd hrg hbn AQ f2_I0
  have FE4 : fst_ [er2,11,18] = er2 := by unfold fst_; rw [if_neg he2]
  have HF4 := hQ_ (first_3b (er2) (11) (18) (w3.alloc (.cells #[.int .u32 xd,.string xn,.int .u32 xi,.int .u8 xk,.int .u32 xl,.int .u32 xz,.int .u32 xp] 65)) (w3.heap.size + 1) (by simp))
  rw [FE4] at HF4
  clear FE4
  go_upto_region 6 with (fail)
  go_cut [12] (fun p wx => p = .int .i64 (er2) ∧ BL_ (w3.alloc (.cells #[.int .u32 xd,.string xn,.int .u32 xi,.int .u8 xk,.int .u32 xl,.int .u32 xz,.int .u32 xp] 65)) wx)
  case first =>
   go_region_law (first | (go_simp; go_at_call 72; (with_reducible refine (HWT.out _ _).mono ?_); rintro e w9 ⟨rfl,rfl⟩) | (go_simp; go_at_call 72; (with_reducible refine (HWF.out _ _).mono ?_); rintro e w9 ⟨rfl,rfl⟩) | (go_simp; go_at_call 71; (first | (with_reducible refine HF4.out.1.mono ?_) | (with_reducible refine HF4.out.2.mono ?_)); rintro e w9 ⟨rfl,rfl⟩))
   all_goals
    go_wp2_with fail
    go_meet
    exact fB_
  case rest =>
   obtain ⟨rfl,hbc⟩ := hcut
   have A4 := hQ_ (A3.out.below HS.out hbc)
   have I4 := hQ_ (I3.out.below hbc)
   have X4 := hQ_ (X3.out.below hbc)
   skip
   have f4_I0 := cC4 I4.out
   have f4_X0 := cC7 X4.out
   clear hbc f3_I0 f3_X0
   clear he2
   go_wp2_with fail
   go_ret
   exact Ans.ok A4.out ⟨C3.out.1.more (by omega) (by omega),C3.out.2⟩
theorem lnk_there_0 (hW0 : Wk Rep) (old path : ByteArray) {li lk ll lz lp er : Int} {xd xi xk xl xz xp er2 : Int} {xn : ByteArray} (hr : Rep w v s S D) (hl : Lim s) (h2 : s.rd.length ≤ 18000) (h3 : s.rg.length ≤ 900) (hx : Mxs w S) (hp : old.size ≤ 100000) (hp2 : path.size ≤ 100000) (hL : leadM s.shown old = (li,⟨lk,ll,lz,lp⟩,er)) (hR : findM s.shown path = (⟨xd,xn,xi,⟨xk,xl,xz,xp⟩⟩,er2)) (he : er = 0) (hk2 : lk = 1) (he2 : er2 = 0) (ha : xi ≠ 0) (hb : ll < 1000) :
 Calls Tryz.prog 31 #[v,.string old,.string path] w (Ans Rep v s 11 [] 81 0 S D w) := by
 have A0 := hQ_ (At.start hr)
 have HX := hQ_ hx
 have HS := hQ_ hW0.stays
 have HL := hQ_ hl
 have C0 := hQ_ (aft0 s)
 have HWT := hQ_ when_t
 have HWF := hQ_ when_f
 have HLE := hQ_ (fun w (S D : Nat → Prop) (t : Vs) (hr : Rep w v t S D) (hsm : Sm t s) hl h2 hx => lead_c hW0 old hL hr hsm hl h2 hp hx)
 unfold LeadC at HLE
 dsimp only at HLE
 have HFI := hQ_ (fun w (S D : Nat → Prop) (t : Vs) (hr : Rep w v t S D) (hsm : Sm t s) hl h2 hx => find_c hW0 path hR hr hsm hl h2 hp2 hx)
 unfold FndC at HFI
 have hsbx := find_bd s.shown path
 have hibx := find_ib s.shown path
 rw [hR] at hsbx hibx
 obtain ⟨x0,x1,x2,x3,x4⟩ := hsbx
 dsimp only at x0 x1 x2 x3 x4 HFI hibx
 subst he
 have e1 : (lk != 1) = false := by simpa using hk2
 subst he2
 have d1 : (xi != 0) = true := by simpa using ha
 have d2 : decide ((1000 : Int) ≤ ll) = false := by simp; omega
 clear ha hb hk2 hr hl hp hp2 hL hx hR hW0
 go_enter Tryz.func31,Tryz.ntmps31
 go_wp2_with fail
 refine (HLE.out _ _ _ _ A0.out.rep (Aft.sm0 C0.out.1) (lim_aft C0.out.1 HL.out (by omega) (by omega)) (by have := C0.out.1.rd; omega) (HX.out.at_ A0.out)).mono ?_
 rintro e w1 ⟨s1,S1,D1,rfl,hr,st,hsm,hrd,hrg⟩
 have C1 := hQ_ (aftF C0.out hsm hrd hrg)
 have I1 := hQ_ (Blk.new_ w1 #[.int .u8 lk,.int .u32 ll,.int .u32 lz,.int .u32 lp] 59)
 have hbn := bX_ I1.out
 have A1 := hQ_ ((A0.out.step HS.out hr st).own HS.out hbn (Nat.le_refl w1.heap.size) (by simp))
 have f1_I0 := cC4 I1.out
 clear hr st hsm hrd hrg hbn
 have FE2 : fst_ [0,0] = 0 := rfl
 have HF2 := hQ_ (first_2b (0) (0) (w1.alloc (.cells #[.int .u8 lk,.int .u32 ll,.int .u32 lz,.int .u32 lp] 59)) (w1.heap.size + 1) (by simp))
 rw [FE2] at HF2
 clear FE2
 go_upto_region 2 with (fail)
 go_cut [10] (fun p wx => p = .int .i64 (0) ∧ BL_ (w1.alloc (.cells #[.int .u8 lk,.int .u32 ll,.int .u32 lz,.int .u32 lp] 59)) wx)
 case first =>
  go_wp2_with (first | (go_at_call 72; (with_reducible refine (HWT.out _ _).mono ?_); rintro e w9 ⟨rfl,rfl⟩) | (go_at_call 72; (with_reducible refine (HWF.out _ _).mono ?_); rintro e w9 ⟨rfl,rfl⟩) | (go_at_call 71; (with_reducible refine HF2.out.1.mono ?_); rintro e w9 ⟨rfl,rfl⟩))
  all_goals
   go_meet
   exact fB_
 case rest =>
  obtain ⟨rfl,hbc⟩ := hcut
  have A2 := hQ_ (A1.out.below HS.out hbc)
  have I2 := hQ_ (I1.out.below hbc)
  skip
  have f2_I0 := cC4 I2.out
  clear hbc f1_I0
  go_wp2_with fail
  refine (HFI.out _ _ _ _ A2.out.rep (Aft.sm0 C1.out.1) (lim_aft C1.out.1 HL.out (by omega) (by omega)) (by have := C1.out.1.rd; omega) (HX.out.at_ A2.out).1).mono ?_
  rintro e w3 ⟨s3,S3,D3,rfl,hr,st,hsm,hrd,hrg⟩
  have C3 := hQ_ (aftF C1.out hsm hrd hrg)
  have X3 := hQ_ (Blk.new_ w3 #[.int .u32 xd,.string xn,.int .u32 xi,.int .u8 xk,.int .u32 xl,.int .u32 xz,.int .u32 xp] 65)
  have hbn := bX_ X3.out
  have AQ := A2.out.step HS.out hr st
  have A3 := hQ_ (AQ.own HS.out hbn (Nat.le_refl w3.heap.size) (by simp))
  have I3 := hQ_ ((A2.out.blk HS.out I2.out (.inr rfl) st).below hbn)
  have f3_I0 := cC4 I3.out
  have f3_X0 := cC7 X3.out
  clear hr st hsm hrd hrg hbn AQ f2_I0
  have FE4 : fst_ [0,11,0] = 11 := rfl
  have HF4 := hQ_ (first_3b (0) (11) (0) (w3.alloc (.cells #[.int .u32 xd,.string xn,.int .u32 xi,.int .u8 xk,.int .u32 xl,.int .u32 xz,.int .u32 xp] 65)) (w3.heap.size + 1) (by simp))
  rw [FE4] at HF4
  clear FE4
  go_upto_region 6 with (fail)
  go_cut [12] (fun p wx => p = .int .i64 (11) ∧ BL_ (w3.alloc (.cells #[.int .u32 xd,.string xn,.int .u32 xi,.int .u8 xk,.int .u32 xl,.int .u32 xz,.int .u32 xp] 65)) wx)
  case first =>
   go_region_law (first | (go_simp; go_at_call 72; (with_reducible refine (HWT.out _ _).mono ?_); rintro e w9 ⟨rfl,rfl⟩) | (go_simp; go_at_call 72; (with_reducible refine (HWF.out _ _).mono ?_); rintro e w9 ⟨rfl,rfl⟩) | (go_simp; go_at_call 71; (first | (with_reducible refine HF4.out.1.mono ?_) | (with_reducible refine HF4.out.2.mono ?_)); rintro e w9 ⟨rfl,rfl⟩))
   all_goals
    go_wp2_with fail
    go_meet
    exact fB_
  case rest =>
   obtain ⟨rfl,hbc⟩ := hcut
   have A4 := hQ_ (A3.out.below HS.out hbc)
   have I4 := hQ_ (I3.out.below hbc)
   have X4 := hQ_ (X3.out.below hbc)
   skip
   have f4_I0 := cC4 I4.out
   have f4_X0 := cC7 X4.out
   clear hbc f3_I0 f3_X0
   go_wp2_with fail
   go_ret
   exact Ans.ok A4.out ⟨C3.out.1.more (by omega) (by omega),C3.out.2⟩
theorem lnk_there_1 (hW0 : Wk Rep) (old path : ByteArray) {li lk ll lz lp er : Int} {xd xi xk xl xz xp er2 : Int} {xn : ByteArray} (hr : Rep w v s S D) (hl : Lim s) (h2 : s.rd.length ≤ 18000) (h3 : s.rg.length ≤ 900) (hx : Mxs w S) (hp : old.size ≤ 100000) (hp2 : path.size ≤ 100000) (hL : leadM s.shown old = (li,⟨lk,ll,lz,lp⟩,er)) (hR : findM s.shown path = (⟨xd,xn,xi,⟨xk,xl,xz,xp⟩⟩,er2)) (he : er = 0) (hk2 : lk = 1) (he2 : er2 = 0) (ha : xi ≠ 0) (hb : 1000 ≤ ll) :
 Calls Tryz.prog 31 #[v,.string old,.string path] w (Ans Rep v s 11 [] 81 0 S D w) := by
 have A0 := hQ_ (At.start hr)
 have HX := hQ_ hx
 have HS := hQ_ hW0.stays
 have HL := hQ_ hl
 have C0 := hQ_ (aft0 s)
 have HWT := hQ_ when_t
 have HWF := hQ_ when_f
 have HLE := hQ_ (fun w (S D : Nat → Prop) (t : Vs) (hr : Rep w v t S D) (hsm : Sm t s) hl h2 hx => lead_c hW0 old hL hr hsm hl h2 hp hx)
 unfold LeadC at HLE
 dsimp only at HLE
 have HFI := hQ_ (fun w (S D : Nat → Prop) (t : Vs) (hr : Rep w v t S D) (hsm : Sm t s) hl h2 hx => find_c hW0 path hR hr hsm hl h2 hp2 hx)
 unfold FndC at HFI
 have hsbx := find_bd s.shown path
 have hibx := find_ib s.shown path
 rw [hR] at hsbx hibx
 obtain ⟨x0,x1,x2,x3,x4⟩ := hsbx
 dsimp only at x0 x1 x2 x3 x4 HFI hibx
 subst he
 have e1 : (lk != 1) = false := by simpa using hk2
 subst he2
 have d1 : (xi != 0) = true := by simpa using ha
 have d2 : decide ((1000 : Int) ≤ ll) = true := by simp; omega
 clear ha hb hk2 hr hl hp hp2 hL hx hR hW0
 go_enter Tryz.func31,Tryz.ntmps31
 go_wp2_with fail
 refine (HLE.out _ _ _ _ A0.out.rep (Aft.sm0 C0.out.1) (lim_aft C0.out.1 HL.out (by omega) (by omega)) (by have := C0.out.1.rd; omega) (HX.out.at_ A0.out)).mono ?_
 rintro e w1 ⟨s1,S1,D1,rfl,hr,st,hsm,hrd,hrg⟩
 have C1 := hQ_ (aftF C0.out hsm hrd hrg)
 have I1 := hQ_ (Blk.new_ w1 #[.int .u8 lk,.int .u32 ll,.int .u32 lz,.int .u32 lp] 59)
 have hbn := bX_ I1.out
 have A1 := hQ_ ((A0.out.step HS.out hr st).own HS.out hbn (Nat.le_refl w1.heap.size) (by simp))
 have f1_I0 := cC4 I1.out
 clear hr st hsm hrd hrg hbn
 have FE2 : fst_ [0,0] = 0 := rfl
 have HF2 := hQ_ (first_2b (0) (0) (w1.alloc (.cells #[.int .u8 lk,.int .u32 ll,.int .u32 lz,.int .u32 lp] 59)) (w1.heap.size + 1) (by simp))
 rw [FE2] at HF2
 clear FE2
 go_upto_region 2 with (fail)
 go_cut [10] (fun p wx => p = .int .i64 (0) ∧ BL_ (w1.alloc (.cells #[.int .u8 lk,.int .u32 ll,.int .u32 lz,.int .u32 lp] 59)) wx)
 case first =>
  go_wp2_with (first | (go_at_call 72; (with_reducible refine (HWT.out _ _).mono ?_); rintro e w9 ⟨rfl,rfl⟩) | (go_at_call 72; (with_reducible refine (HWF.out _ _).mono ?_); rintro e w9 ⟨rfl,rfl⟩) | (go_at_call 71; (with_reducible refine HF2.out.1.mono ?_); rintro e w9 ⟨rfl,rfl⟩))
  all_goals
   go_meet
   exact fB_
 case rest =>
  obtain ⟨rfl,hbc⟩ := hcut
  have A2 := hQ_ (A1.out.below HS.out hbc)
  have I2 := hQ_ (I1.out.below hbc)
  skip
  have f2_I0 := cC4 I2.out
  clear hbc f1_I0
  go_wp2_with fail
  refine (HFI.out _ _ _ _ A2.out.rep (Aft.sm0 C1.out.1) (lim_aft C1.out.1 HL.out (by omega) (by omega)) (by have := C1.out.1.rd; omega) (HX.out.at_ A2.out).1).mono ?_
  rintro e w3 ⟨s3,S3,D3,rfl,hr,st,hsm,hrd,hrg⟩
  have C3 := hQ_ (aftF C1.out hsm hrd hrg)
  have X3 := hQ_ (Blk.new_ w3 #[.int .u32 xd,.string xn,.int .u32 xi,.int .u8 xk,.int .u32 xl,.int .u32 xz,.int .u32 xp] 65)
  have hbn := bX_ X3.out
  have AQ := A2.out.step HS.out hr st
  have A3 := hQ_ (AQ.own HS.out hbn (Nat.le_refl w3.heap.size) (by simp))
  have I3 := hQ_ ((A2.out.blk HS.out I2.out (.inr rfl) st).below hbn)
  have f3_I0 := cC4 I3.out
  have f3_X0 := cC7 X3.out
  clear hr st hsm hrd hrg hbn AQ f2_I0
  have FE4 : fst_ [0,11,18] = 11 := rfl
  have HF4 := hQ_ (first_3b (0) (11) (18) (w3.alloc (.cells #[.int .u32 xd,.string xn,.int .u32 xi,.int .u8 xk,.int .u32 xl,.int .u32 xz,.int .u32 xp] 65)) (w3.heap.size + 1) (by simp))
  rw [FE4] at HF4
  clear FE4
  go_upto_region 6 with (fail)
  go_cut [12] (fun p wx => p = .int .i64 (11) ∧ BL_ (w3.alloc (.cells #[.int .u32 xd,.string xn,.int .u32 xi,.int .u8 xk,.int .u32 xl,.int .u32 xz,.int .u32 xp] 65)) wx)
  case first =>
   go_region_law (first | (go_simp; go_at_call 72; (with_reducible refine (HWT.out _ _).mono ?_); rintro e w9 ⟨rfl,rfl⟩) | (go_simp; go_at_call 72; (with_reducible refine (HWF.out _ _).mono ?_); rintro e w9 ⟨rfl,rfl⟩) | (go_simp; go_at_call 71; (first | (with_reducible refine HF4.out.1.mono ?_) | (with_reducible refine HF4.out.2.mono ?_)); rintro e w9 ⟨rfl,rfl⟩))
   all_goals
    go_wp2_with fail
    go_meet
    exact fB_
  case rest =>
   obtain ⟨rfl,hbc⟩ := hcut
   have A4 := hQ_ (A3.out.below HS.out hbc)
   have I4 := hQ_ (I3.out.below hbc)
   have X4 := hQ_ (X3.out.below hbc)
   skip
   have f4_I0 := cC4 I4.out
   have f4_X0 := cC7 X4.out
   clear hbc f3_I0 f3_X0
   go_wp2_with fail
   go_ret
   exact Ans.ok A4.out ⟨C3.out.1.more (by omega) (by omega),C3.out.2⟩
theorem lnk_many (hW0 : Wk Rep) (old path : ByteArray) {li lk ll lz lp er : Int} {xd xi xk xl xz xp er2 : Int} {xn : ByteArray} (hr : Rep w v s S D) (hl : Lim s) (h2 : s.rd.length ≤ 18000) (h3 : s.rg.length ≤ 900) (hx : Mxs w S) (hp : old.size ≤ 100000) (hp2 : path.size ≤ 100000) (hL : leadM s.shown old = (li,⟨lk,ll,lz,lp⟩,er)) (hR : findM s.shown path = (⟨xd,xn,xi,⟨xk,xl,xz,xp⟩⟩,er2)) (he : er = 0) (hk2 : lk = 1) (he2 : er2 = 0) (ha : xi = 0) (hb : 1000 ≤ ll) :
 Calls Tryz.prog 31 #[v,.string old,.string path] w (Ans Rep v s 18 [] 81 0 S D w) := by
 have A0 := hQ_ (At.start hr)
 have HX := hQ_ hx
 have HS := hQ_ hW0.stays
 have HL := hQ_ hl
 have C0 := hQ_ (aft0 s)
 have HWT := hQ_ when_t
 have HWF := hQ_ when_f
 have HLE := hQ_ (fun w (S D : Nat → Prop) (t : Vs) (hr : Rep w v t S D) (hsm : Sm t s) hl h2 hx => lead_c hW0 old hL hr hsm hl h2 hp hx)
 unfold LeadC at HLE
 dsimp only at HLE
 have HFI := hQ_ (fun w (S D : Nat → Prop) (t : Vs) (hr : Rep w v t S D) (hsm : Sm t s) hl h2 hx => find_c hW0 path hR hr hsm hl h2 hp2 hx)
 unfold FndC at HFI
 have hsbx := find_bd s.shown path
 have hibx := find_ib s.shown path
 rw [hR] at hsbx hibx
 obtain ⟨x0,x1,x2,x3,x4⟩ := hsbx
 dsimp only at x0 x1 x2 x3 x4 HFI hibx
 subst he
 have e1 : (lk != 1) = false := by simpa using hk2
 subst he2
 have d1 : (xi != 0) = false := by simpa using ha
 have d2 : decide ((1000 : Int) ≤ ll) = true := by simp; omega
 clear ha hb hk2 hr hl hp hp2 hL hx hR hW0
 go_enter Tryz.func31,Tryz.ntmps31
 go_wp2_with fail
 refine (HLE.out _ _ _ _ A0.out.rep (Aft.sm0 C0.out.1) (lim_aft C0.out.1 HL.out (by omega) (by omega)) (by have := C0.out.1.rd; omega) (HX.out.at_ A0.out)).mono ?_
 rintro e w1 ⟨s1,S1,D1,rfl,hr,st,hsm,hrd,hrg⟩
 have C1 := hQ_ (aftF C0.out hsm hrd hrg)
 have I1 := hQ_ (Blk.new_ w1 #[.int .u8 lk,.int .u32 ll,.int .u32 lz,.int .u32 lp] 59)
 have hbn := bX_ I1.out
 have A1 := hQ_ ((A0.out.step HS.out hr st).own HS.out hbn (Nat.le_refl w1.heap.size) (by simp))
 have f1_I0 := cC4 I1.out
 clear hr st hsm hrd hrg hbn
 have FE2 : fst_ [0,0] = 0 := rfl
 have HF2 := hQ_ (first_2b (0) (0) (w1.alloc (.cells #[.int .u8 lk,.int .u32 ll,.int .u32 lz,.int .u32 lp] 59)) (w1.heap.size + 1) (by simp))
 rw [FE2] at HF2
 clear FE2
 go_upto_region 2 with (fail)
 go_cut [10] (fun p wx => p = .int .i64 (0) ∧ BL_ (w1.alloc (.cells #[.int .u8 lk,.int .u32 ll,.int .u32 lz,.int .u32 lp] 59)) wx)
 case first =>
  go_wp2_with (first | (go_at_call 72; (with_reducible refine (HWT.out _ _).mono ?_); rintro e w9 ⟨rfl,rfl⟩) | (go_at_call 72; (with_reducible refine (HWF.out _ _).mono ?_); rintro e w9 ⟨rfl,rfl⟩) | (go_at_call 71; (with_reducible refine HF2.out.1.mono ?_); rintro e w9 ⟨rfl,rfl⟩))
  all_goals
   go_meet
   exact fB_
 case rest =>
  obtain ⟨rfl,hbc⟩ := hcut
  have A2 := hQ_ (A1.out.below HS.out hbc)
  have I2 := hQ_ (I1.out.below hbc)
  skip
  have f2_I0 := cC4 I2.out
  clear hbc f1_I0
  go_wp2_with fail
  refine (HFI.out _ _ _ _ A2.out.rep (Aft.sm0 C1.out.1) (lim_aft C1.out.1 HL.out (by omega) (by omega)) (by have := C1.out.1.rd; omega) (HX.out.at_ A2.out).1).mono ?_
  rintro e w3 ⟨s3,S3,D3,rfl,hr,st,hsm,hrd,hrg⟩
  have C3 := hQ_ (aftF C1.out hsm hrd hrg)
  have X3 := hQ_ (Blk.new_ w3 #[.int .u32 xd,.string xn,.int .u32 xi,.int .u8 xk,.int .u32 xl,.int .u32 xz,.int .u32 xp] 65)
  have hbn := bX_ X3.out
  have AQ := A2.out.step HS.out hr st
  have A3 := hQ_ (AQ.own HS.out hbn (Nat.le_refl w3.heap.size) (by simp))
  have I3 := hQ_ ((A2.out.blk HS.out I2.out (.inr rfl) st).below hbn)
  have f3_I0 := cC4 I3.out
  have f3_X0 := cC7 X3.out
  clear hr st hsm hrd hrg hbn AQ f2_I0
  have FE4 : fst_ [0,0,18] = 18 := rfl
  have HF4 := hQ_ (first_3b (0) (0) (18) (w3.alloc (.cells #[.int .u32 xd,.string xn,.int .u32 xi,.int .u8 xk,.int .u32 xl,.int .u32 xz,.int .u32 xp] 65)) (w3.heap.size + 1) (by simp))
  rw [FE4] at HF4
  clear FE4
  go_upto_region 6 with (fail)
  go_cut [12] (fun p wx => p = .int .i64 (18) ∧ BL_ (w3.alloc (.cells #[.int .u32 xd,.string xn,.int .u32 xi,.int .u8 xk,.int .u32 xl,.int .u32 xz,.int .u32 xp] 65)) wx)
  case first =>
   go_region_law (first | (go_simp; go_at_call 72; (with_reducible refine (HWT.out _ _).mono ?_); rintro e w9 ⟨rfl,rfl⟩) | (go_simp; go_at_call 72; (with_reducible refine (HWF.out _ _).mono ?_); rintro e w9 ⟨rfl,rfl⟩) | (go_simp; go_at_call 71; (first | (with_reducible refine HF4.out.1.mono ?_) | (with_reducible refine HF4.out.2.mono ?_)); rintro e w9 ⟨rfl,rfl⟩))
   all_goals
    go_wp2_with fail
    go_meet
    exact fB_
  case rest =>
   obtain ⟨rfl,hbc⟩ := hcut
   have A4 := hQ_ (A3.out.below HS.out hbc)
   have I4 := hQ_ (I3.out.below hbc)
   have X4 := hQ_ (X3.out.below hbc)
   skip
   have f4_I0 := cC4 I4.out
   have f4_X0 := cC7 X4.out
   clear hbc f3_I0 f3_X0
   go_wp2_with fail
   go_ret
   exact Ans.ok A4.out ⟨C3.out.1.more (by omega) (by omega),C3.out.2⟩
theorem lnk_do (hW0 : Wk Rep) (old path : ByteArray) {li lk ll lz lp er : Int} {xd xi xk xl xz xp er2 : Int} {xn : ByteArray} (hr : Rep w v s S D) (hl : Lim s) (h2 : s.rd.length ≤ 18000) (h3 : s.rg.length ≤ 900) (hx : Mxs w S) (hp : old.size ≤ 100000) (hp2 : path.size ≤ 100000) (hL : leadM s.shown old = (li,⟨lk,ll,lz,lp⟩,er)) (hR : findM s.shown path = (⟨xd,xn,xi,⟨xk,xl,xz,xp⟩⟩,er2)) (he : er = 0) (hk2 : lk = 1) (he2 : er2 = 0) (ha : xi = 0) (hb : ll < 1000) (i0 : 0 ≤ li) (i1 : li ≤ 4294967295) (hib : InoB lk ll lz lp) :
 Calls Tryz.prog 31 #[v,.string old,.string path] w (Ans Rep v s 0 [hangP xd xn li,saveP li lk (ll + 1) lz lp] 81 0 S D w) := by
 have A0 := hQ_ (At.start hr)
 have HX := hQ_ hx
 have HS := hQ_ hW0.stays
 have HWK := hQ_ hW0
 have HL := hQ_ hl
 have HRO := hQ_ room_calls
 have C0 := hQ_ (aft0 s)
 have HWT := hQ_ when_t
 have HWF := hQ_ when_f
 have HLE := hQ_ (fun w (S D : Nat → Prop) (t : Vs) (hr : Rep w v t S D) (hsm : Sm t s) hl h2 hx => lead_c hW0 old hL hr hsm hl h2 hp hx)
 unfold LeadC at HLE
 dsimp only at HLE
 have HFI := hQ_ (fun w (S D : Nat → Prop) (t : Vs) (hr : Rep w v t S D) (hsm : Sm t s) hl h2 hx => find_c hW0 path hR hr hsm hl h2 hp2 hx)
 unfold FndC at HFI
 have hsbx := find_bd s.shown path
 have hibx := find_ib s.shown path
 rw [hR] at hsbx hibx
 obtain ⟨x0,x1,x2,x3,x4⟩ := hsbx
 dsimp only at x0 x1 x2 x3 x4 HFI hibx
 subst he
 have e1 : (lk != 1) = false := by simpa using hk2
 subst he2
 have d1 : (xi != 0) = false := by simpa using ha
 have d2 : decide ((1000 : Int) ≤ ll) = false := by simp; omega
 obtain ⟨b0,b1,b2,b3,b4,b5,b6,b7⟩ := hib
 clear ha hk2 hr hl hp hp2 hL hx hR hW0
 go_enter Tryz.func31,Tryz.ntmps31
 go_wp2_with fail
 refine (HLE.out _ _ _ _ A0.out.rep (Aft.sm0 C0.out.1) (lim_aft C0.out.1 HL.out (by omega) (by omega)) (by have := C0.out.1.rd; omega) (HX.out.at_ A0.out)).mono ?_
 rintro e w1 ⟨s1,S1,D1,rfl,hr,st,hsm,hrd,hrg⟩
 have C1 := hQ_ (aftF C0.out hsm hrd hrg)
 have I1 := hQ_ (Blk.new_ w1 #[.int .u8 lk,.int .u32 ll,.int .u32 lz,.int .u32 lp] 59)
 have hbn := bX_ I1.out
 have A1 := hQ_ ((A0.out.step HS.out hr st).own HS.out hbn (Nat.le_refl w1.heap.size) (by simp))
 have f1_I0 := cC4 I1.out
 clear hr st hsm hrd hrg hbn
 have FE2 : fst_ [0,0] = 0 := rfl
 have HF2 := hQ_ (first_2b (0) (0) (w1.alloc (.cells #[.int .u8 lk,.int .u32 ll,.int .u32 lz,.int .u32 lp] 59)) (w1.heap.size + 1) (by simp))
 rw [FE2] at HF2
 clear FE2
 go_upto_region 2 with (fail)
 go_cut [10] (fun p wx => p = .int .i64 (0) ∧ BL_ (w1.alloc (.cells #[.int .u8 lk,.int .u32 ll,.int .u32 lz,.int .u32 lp] 59)) wx)
 case first =>
  go_wp2_with (first | (go_at_call 72; (with_reducible refine (HWT.out _ _).mono ?_); rintro e w9 ⟨rfl,rfl⟩) | (go_at_call 72; (with_reducible refine (HWF.out _ _).mono ?_); rintro e w9 ⟨rfl,rfl⟩) | (go_at_call 71; (with_reducible refine HF2.out.1.mono ?_); rintro e w9 ⟨rfl,rfl⟩))
  all_goals
   go_meet
   exact fB_
 case rest =>
  obtain ⟨rfl,hbc⟩ := hcut
  have A2 := hQ_ (A1.out.below HS.out hbc)
  have I2 := hQ_ (I1.out.below hbc)
  skip
  have f2_I0 := cC4 I2.out
  clear hbc f1_I0
  go_wp2_with fail
  refine (HFI.out _ _ _ _ A2.out.rep (Aft.sm0 C1.out.1) (lim_aft C1.out.1 HL.out (by omega) (by omega)) (by have := C1.out.1.rd; omega) (HX.out.at_ A2.out).1).mono ?_
  rintro e w3 ⟨s3,S3,D3,rfl,hr,st,hsm,hrd,hrg⟩
  have C3 := hQ_ (aftF C1.out hsm hrd hrg)
  have X3 := hQ_ (Blk.new_ w3 #[.int .u32 xd,.string xn,.int .u32 xi,.int .u8 xk,.int .u32 xl,.int .u32 xz,.int .u32 xp] 65)
  have hbn := bX_ X3.out
  have AQ := A2.out.step HS.out hr st
  have A3 := hQ_ (AQ.own HS.out hbn (Nat.le_refl w3.heap.size) (by simp))
  have I3 := hQ_ ((A2.out.blk HS.out I2.out (.inr rfl) st).below hbn)
  have f3_I0 := cC4 I3.out
  have f3_X0 := cC7 X3.out
  clear hr st hsm hrd hrg hbn AQ f2_I0
  have FE4 : fst_ [0,0,0] = 0 := rfl
  have HF4 := hQ_ (first_3b (0) (0) (0) (w3.alloc (.cells #[.int .u32 xd,.string xn,.int .u32 xi,.int .u8 xk,.int .u32 xl,.int .u32 xz,.int .u32 xp] 65)) (w3.heap.size + 1) (by simp))
  rw [FE4] at HF4
  clear FE4
  go_upto_region 6 with (fail)
  go_cut [12] (fun p wx => p = .int .i64 (0) ∧ BL_ (w3.alloc (.cells #[.int .u32 xd,.string xn,.int .u32 xi,.int .u8 xk,.int .u32 xl,.int .u32 xz,.int .u32 xp] 65)) wx)
  case first =>
   go_region_law (first | (go_simp; go_at_call 72; (with_reducible refine (HWT.out _ _).mono ?_); rintro e w9 ⟨rfl,rfl⟩) | (go_simp; go_at_call 72; (with_reducible refine (HWF.out _ _).mono ?_); rintro e w9 ⟨rfl,rfl⟩) | (go_simp; go_at_call 71; (first | (with_reducible refine HF4.out.1.mono ?_) | (with_reducible refine HF4.out.2.mono ?_)); rintro e w9 ⟨rfl,rfl⟩))
   all_goals
    go_wp2_with fail
    go_meet
    exact fB_
  case rest =>
   obtain ⟨rfl,hbc⟩ := hcut
   have A4 := hQ_ (A3.out.below HS.out hbc)
   have I4 := hQ_ (I3.out.below hbc)
   have X4 := hQ_ (X3.out.below hbc)
   skip
   have f4_I0 := cC4 I4.out
   have f4_X0 := cC7 X4.out
   clear hbc f3_I0 f3_X0
   have y1 : wc.frozen? ⟨w1.heap.size,1,none⟩ = false := I4.out.frozen 1
   have AZ := hQ_ (A4.out.set HS.out I4.out (.inl (.inr rfl)) (by decide) 1 (.int .u32 (ll + 1)))
   have hIZ := I4.out.set_ 1 (.int .u32 (ll + 1))
   have IZ := hQ_ (show Blk (wc.setCell ⟨w1.heap.size,1,none⟩ (.int .u32 (ll + 1))) w1.heap.size #[.int .u8 lk,.int .u32 (ll + 1),.int .u32 lz,.int .u32 lp] 59 from hIZ)
   clear hIZ
   have XZ := hQ_ (X4.out.far (p := ⟨w1.heap.size,1,none⟩) (blk_ne X4.out I4.out (by decide)) (.int .u32 (ll + 1)))
   have f99_I0 := cC4 IZ.out
   have f99_X0 := cC7 XZ.out
   go_wp2_with fail
   refine (hang_w HWK.out xd xn li AZ.out.rep (lim_aft C3.out.1 HL.out (by omega) (by omega)) (by omega) (by omega) (by omega) (by omega) (by omega)).mono ?_
   intro e w5 hh
   rcases Wrote.split hh with ⟨s5,S5,D5,rfl,ho,hr,st,ha⟩ | ⟨s5,S5,D5,rfl,ho,hr,st,ha⟩
   ·obtain ⟨x1,x2⟩ := C3.out.1.app C3.out.2 ha
    have C5 := hQ_ (And.intro x1 (x2.trans ho))
    clear x1 x2 ho ha
    have A5 := hQ_ (AZ.out.step HS.out hr st)
    have I5 := hQ_ (AZ.out.blk HS.out IZ.out (.inl (.inr rfl)) st)
    have X5 := hQ_ (AZ.out.blk HS.out XZ.out (.inr rfl) st)
    obtain ⟨f5_I0,f5_I1,f5_I2,f5_I3⟩ := cC4 I5.out
    obtain ⟨f5_X0,f5_X1,f5_X2,f5_X3,f5_X4,f5_X5,f5_X6⟩ := cC7 X5.out
    clear st hr y1 f4_I0 f4_X0 f99_I0 f99_X0
    go_wp2_with fail
    refine (save_w HWK.out li lk (ll + 1) lz lp A5.out.rep (lim_aft C5.out.1 HL.out (by omega) (by omega)) (by omega) (by omega) ⟨by omega,by omega,by omega,by omega,by omega,by omega,by omega,by omega⟩).mono ?_
    intro e w6 hh
    rcases Wrote.split hh with ⟨s6,S6,D6,rfl,ho,hr,st,ha⟩ | ⟨s6,S6,D6,rfl,ho,hr,st,ha⟩
    ·obtain ⟨x1,x2⟩ := C5.out.1.app C5.out.2 ha
     have C6 := hQ_ (And.intro x1 (x2.trans ho))
     clear x1 x2 ho ha
     have A6 := hQ_ (A5.out.step HS.out hr st)
     have I6 := hQ_ (A5.out.blk HS.out I5.out (.inl (.inr rfl)) st)
     have X6 := hQ_ (A5.out.blk HS.out X5.out (.inr rfl) st)
     obtain ⟨f6_I0,f6_I1,f6_I2,f6_I3⟩ := cC4 I6.out
     obtain ⟨f6_X0,f6_X1,f6_X2,f6_X3,f6_X4,f6_X5,f6_X6⟩ := cC7 X6.out
     clear st hr f5_I0 f5_I1 f5_I2 f5_I3 f5_X0 f5_X1 f5_X2 f5_X3 f5_X4 f5_X5 f5_X6
     go_wp2_with (go_at_call 75; refine (HRO.out _ _).mono ?_; rintro e w9 ⟨rfl,rfl⟩)
     go_ret
     exact Ans.ok A6.out ⟨C6.out.1.more (by omega) (by omega),C6.out.2⟩
    ·obtain ⟨x1,x2⟩ := C5.out.1.app C5.out.2 ha
     have C6 := hQ_ (And.intro x1 (x2.trans ho))
     clear x1 x2 ho ha
     have A6 := hQ_ (A5.out.step HS.out hr st)
     have I6 := hQ_ (A5.out.blk HS.out I5.out (.inl (.inr rfl)) st)
     have X6 := hQ_ (A5.out.blk HS.out X5.out (.inr rfl) st)
     obtain ⟨f6_I0,f6_I1,f6_I2,f6_I3⟩ := cC4 I6.out
     obtain ⟨f6_X0,f6_X1,f6_X2,f6_X3,f6_X4,f6_X5,f6_X6⟩ := cC7 X6.out
     clear st hr f5_I0 f5_I1 f5_I2 f5_I3 f5_X0 f5_X1 f5_X2 f5_X3 f5_X4 f5_X5 f5_X6
     go_wp2_with (go_at_call 75; refine (HRO.out _ _).mono ?_; rintro e w9 ⟨rfl,rfl⟩)
     go_ret
     exact Ans.full A6.out ⟨(Aft.stop (qs := []) C6.out.1 C6.out.2).1.more (by omega) (by omega),(Aft.stop (qs := []) C6.out.1 C6.out.2).2⟩
   ·obtain ⟨x1,x2⟩ := C3.out.1.app C3.out.2 ha
    have C5 := hQ_ (And.intro x1 (x2.trans ho))
    clear x1 x2 ho ha
    have A5 := hQ_ (AZ.out.step HS.out hr st)
    have I5 := hQ_ (AZ.out.blk HS.out IZ.out (.inl (.inr rfl)) st)
    have X5 := hQ_ (AZ.out.blk HS.out XZ.out (.inr rfl) st)
    obtain ⟨f5_I0,f5_I1,f5_I2,f5_I3⟩ := cC4 I5.out
    obtain ⟨f5_X0,f5_X1,f5_X2,f5_X3,f5_X4,f5_X5,f5_X6⟩ := cC7 X5.out
    clear st hr y1 f4_I0 f4_X0 f99_I0 f99_X0
    go_wp2_with (go_at_call 75; refine (HRO.out _ _).mono ?_; rintro e w9 ⟨rfl,rfl⟩)
    go_ret
    exact Ans.full A5.out ⟨(Aft.stop (qs := [saveP li lk (ll + 1) lz lp]) C5.out.1 C5.out.2).1.more (by omega) (by omega),(Aft.stop (qs := [saveP li lk (ll + 1) lz lp]) C5.out.1 C5.out.2).2⟩
theorem lnk_calls (hW0 : Wk Rep) (old path : ByteArray) (hr : Rep w v s S D) (hl : Lim s) (h2 : s.rd.length ≤ 18000) (h3 : s.rg.length ≤ 900) (hx : Mxs w S) (hp : old.size ≤ 100000) (hp2 : path.size ≤ 100000) :
 Calls Tryz.prog 31 #[v,.string old,.string path] w (Ans Rep v s (lnkV s.shown old path).1 (lnkV s.shown old path).2 81 0 S D w) := by
 obtain ⟨⟨li,⟨lk,ll,lz,lp⟩,er⟩,hL⟩ : ∃ R,leadM s.shown old = R := ⟨_,rfl⟩
 obtain ⟨⟨⟨xd,xn,xi,⟨xk,xl,xz,xp⟩⟩,er2⟩,hR⟩ : ∃ R,findM s.shown path = R := ⟨_,rfl⟩
 have h := hL
 unfold leadM at h
 unfold lnkV
 have hsb := find_bd s.shown old
 have hib := find_ib s.shown old
 rw [hR]
 by_cases he : (findM s.shown old).2 = 0
 ·rw [if_neg (fun h => h he)] at h ⊢
  by_cases h0 : (findM s.shown old).1.ino = 0
  ·rw [if_pos h0] at h ⊢
   injection h with h1 h
   injection h with h5 h6
   injection h5 with h5
   subst h6
   exact lnk_err hW0 old path hr hl h2 h3 hx hp hp2 hL (by decide) h5.symm
  ·rw [if_neg h0] at h ⊢
   injection h with h1 h
   injection h with h5 h6
   rw [h5] at hib
   rw [h1,h5]
   dsimp only at hib ⊢
   have h6 := h6.symm
   by_cases hk2 : lk = 1
   ·rw [if_neg (fun h => h hk2)]
    by_cases he2 : er2 = 0
    ·rw [if_neg (fun h => h he2)]
     by_cases ha : xi = 0
     ·rw [if_neg (fun h => h ha)]
      by_cases hb : 1000 ≤ ll
      ·rw [if_pos hb]
       exact lnk_many hW0 old path hr hl h2 h3 hx hp hp2 hL hR h6 hk2 he2 ha hb
      ·rw [if_neg hb]
       exact lnk_do hW0 old path hr hl h2 h3 hx hp hp2 hL hR h6 hk2 he2 ha (by omega) (by rw [← h1]; exact hsb.i0) (by rw [← h1]; exact hsb.i1) hib
     ·rw [if_pos ha]
      by_cases hb : 1000 ≤ ll
      ·exact lnk_there_1 hW0 old path hr hl h2 h3 hx hp hp2 hL hR h6 hk2 he2 ha hb
      ·exact lnk_there_0 hW0 old path hr hl h2 h3 hx hp hp2 hL hR h6 hk2 he2 ha (by omega)
    ·rw [if_pos he2]
     by_cases ha : xi = 0
     ·by_cases hb : 1000 ≤ ll
      ·exact lnk_err2_01 hW0 old path hr hl h2 h3 hx hp hp2 hL hR h6 hk2 he2 ha hb
      ·exact lnk_err2_00 hW0 old path hr hl h2 h3 hx hp hp2 hL hR h6 hk2 he2 ha (by omega)
     ·by_cases hb : 1000 ≤ ll
      ·exact lnk_err2_11 hW0 old path hr hl h2 h3 hx hp hp2 hL hR h6 hk2 he2 ha hb
      ·exact lnk_err2_10 hW0 old path hr hl h2 h3 hx hp hp2 hL hR h6 hk2 he2 ha (by omega)
   ·rw [if_pos hk2]
    exact lnk_dir hW0 old path hr hl h2 h3 hx hp hp2 hL h6 hk2
 ·rw [if_pos he] at h ⊢
  injection h with h1 h
  injection h with h5 h6
  injection h5 with h5
  rw [h6] at he ⊢
  exact lnk_err hW0 old path hr hl h2 h3 hx hp hp2 hL he h5.symm
end Go.Proofs.YtepjjndfodcggaaGreatDoor.DirsKg