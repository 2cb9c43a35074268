import Derived.Test.YtfalhnomhidkcaaGreatDoorSq
import Derived.Test.YtfalhnomhidkcaaGreatDoorDirsM
import Derived.Test.YtfalhnomhidkcaaGreatDoorViewR
import Derived.Test.YtfalhnomhidkcaaGreatDoorTx
import Derived.Test.YtfalhnomhidkcaaGreatDoorChg
import Derived.Test.YtfalhnomhidkcaaGreatDoorNamesS
set_option maxHeartbeats 16000000
set_option linter.unusedVariables false
set_option linter.unusedSimpArgs false
set_option maxRecDepth 100000
namespace Go.Proofs.YtfalhnomhidkcaaGreatDoor.DirsR
open Go.RowKit
open Byte KeysM TreeM Lst Ho Tx DirsM Chg
open Own hiding keeps
open ViewR (Sh)
def enE : Enc En := ⟨fun e => [.string e.name,.int .u32 e.ino],2,fun _ => rfl,fun x u hu => by
 simp only [List.mem_cons,List.mem_nil_iff,or_false] at hu
 rcases hu with rfl | rfl <;> rfl,by decide⟩
def nhE : Enc (Nd × Sh) := ⟨fun p => [.int .u32 p.1.ino,.int .u8 p.1.kind,.int .i64 p.1.links,.string p.1.data,.slice p.2.a p.2.n p.2.c],5,fun _ => rfl,fun x u hu => by
 simp only [List.mem_cons,List.mem_nil_iff,or_false] at hu
 rcases hu with rfl | rfl | rfl | rfl | rfl <;> rfl,by decide⟩
theorem info_en : (Tryz.prog.info? 115).map (fun i => (i.zero,i.size,i.bytes)) = some (some (.agg #[.string ⟨#[]⟩,.int .u32 0]),enE.size,24) := by kernel_rfl
theorem info_nh : (Tryz.prog.info? 85).map (fun i => (i.zero,i.size,i.bytes)) = some (some (.agg #[.int .u32 0,.int .u8 0,.int .i64 0,.string ⟨#[]⟩,.slice none 0 0]),nhE.size,56) := by kernel_rfl
theorem info_node : (Tryz.prog.info? 85).map (·.size) = some 5 := by kernel_rfl
theorem info_fs : (Tryz.prog.info? 29).map (·.size) = some 1 := by kernel_rfl
theorem info_spt : (Tryz.prog.info? 156).map (·.size) = some 3 := by kernel_rfl
def EntA (T : Nat → Prop) (w : World) (h : Sh) (l : List En) : Prop := Sl enE w h.a h.n l ∧ ∀ b o,h.a = some ⟨b,o,none⟩ → T b ∧ b < w.heap.size
def FsA (T : Nat → Prop) (w : World) (h : Sh) (F : Fs) : Prop := ∃ L : List (Nd × Sh),L.map (·.1) = F ∧ Sl nhE w h.a h.n L ∧ (∀ b o,h.a = some ⟨b,o,none⟩ → T b ∧ b < w.heap.size) ∧ ∀ p ∈ L,EntA T w p.2 p.1.ents
section
variable {T T' : Nat → Prop} {w w' : World} {h : Sh} {F : Fs} {l : List En}
theorem EntA.below (e : EntA T w h l) (hb : Below w.heap.size w w') : EntA T w' h l := ⟨e.1.below hb,fun b o x => ⟨(e.2 b o x).1,Nat.lt_of_lt_of_le (e.2 b o x).2 hb.size⟩⟩
theorem FsA.below (f : FsA T w h F) (hb : Below w.heap.size w w') : FsA T w' h F := by
 obtain ⟨L,h1,h2,h3,h4⟩ := f
 exact ⟨L,h1,h2.below hb,fun b o x => ⟨(h3 b o x).1,Nat.lt_of_lt_of_le (h3 b o x).2 hb.size⟩,fun p hp => (h4 p hp).below hb⟩
theorem EntA.chg {S : Nat → Prop} (e : EntA T w h l) (c : Chg S w w') (hT : ∀ b,T b → b < w.heap.size → ¬ S b ∧ T' b) : EntA T' w' h l :=
 ⟨Chg.Sl.chg e.1 c (fun b o x => (hT b (e.2 b o x).1 (e.2 b o x).2).1),fun b o x => ⟨(hT b (e.2 b o x).1 (e.2 b o x).2).2,Nat.lt_of_lt_of_le (e.2 b o x).2 c.size⟩⟩
theorem FsA.chg {S : Nat → Prop} (f : FsA T w h F) (c : Chg S w w') (hT : ∀ b,T b → b < w.heap.size → ¬ S b ∧ T' b) : FsA T' w' h F := by
 obtain ⟨L,h1,h2,h3,h4⟩ := f
 exact ⟨L,h1,Chg.Sl.chg h2 c (fun b o x => (hT b (h3 b o x).1 (h3 b o x).2).1),fun b o x => ⟨(hT b (h3 b o x).1 (h3 b o x).2).2,Nat.lt_of_lt_of_le (h3 b o x).2 c.size⟩,fun p hp => (h4 p hp).chg c hT⟩
theorem EntA.len (e : EntA T w h l) : l.length = h.n := e.1.1
theorem FsA.len (f : FsA T w h F) : F.length = h.n := by
 obtain ⟨L,h1,h2,_⟩ := f
 rw [← h1,List.length_map,h2.1]
theorem FsA.get (f : FsA T w h F) {k : Nat} {n : Nd} (hk : F[k]? = some n) : ∃ (b o : Nat) (he : Sh),h.a = some ⟨b,o,none⟩ ∧ b < w.heap.size ∧ k < h.n ∧ w.rangeAt b (o + k * 5) [.int .u32 n.ino,.int .u8 n.kind,.int .i64 n.links,.string n.data,.slice he.a he.n he.c] ∧ EntA T w he n.ents := by
 obtain ⟨L,h1,h2,h3,h4⟩ := f
 subst h1
 rw [List.getElem?_map] at hk
 cases hp : L[k]? with
 | none => rw [hp] at hk; cases hk
 | some p =>
   rw [hp] at hk
   injection hk with hk
   subst hk
   have hl := (List.getElem?_eq_some_iff.1 hp).1
   obtain ⟨b,o,e1,hb,hc⟩ := h2.2 k p hp
   exact ⟨b,o,p.2,e1,hb,by rw [← h2.1]; exact hl,hc,h4 p (List.mem_of_getElem? hp)⟩
end
theorem drop_some {α : Type} {l : List α} {k : Nat} {x : α} (h : l[k]? = some x) : l.drop k = x :: l.drop (k + 1) := by
 obtain ⟨hk,he⟩ := List.getElem?_eq_some_iff.1 h
 rw [List.drop_eq_getElem_cons hk,he]
structure SmN (n : Nd) : Prop where
 i0 : 0 ≤ n.ino
 i1 : n.ino ≤ 4294967295
 k0 : 0 ≤ n.kind
 k1 : n.kind ≤ 255
 l0 : -1000000 ≤ n.links
 l1 : n.links ≤ 1000000
 d : n.data.size ≤ 100000
 e : n.ents.length ≤ 1000
 en : ∀ e ∈ n.ents,e.name.size ≤ 100000 ∧ 0 ≤ e.ino ∧ e.ino ≤ 4294967295
structure SmF (F : Fs) : Prop where
 len : F.length ≤ 1000
 all : ∀ n ∈ F,SmN n
theorem boxed {T : Nat → Prop} {w : World} {h : Sh} {F : Fs} (hf : FsA T w h F) : ∃ W,w.alloc (.cells #[.slice h.a h.n h.c] 29) = W ∧ Hid (FsA T W h F) ∧ Hid (Below w.heap.size w W) ∧ W.cell? ⟨w.heap.size,0,none⟩ = some (.slice h.a h.n h.c) := by
 have hb1 := bN_ w (.cells #[.slice h.a h.n h.c] 29)
 exact ⟨_,rfl,hQ_ (hf.below hb1),hQ_ hb1,(Blk.new_ w _ _).cell 0⟩
def idx (F : Fs) (i : Int) : Nat := F.findIdx fun n => decide (n.ino = i)
theorem idx_at {F : Fs} {i : Int} {n : Nd} (h : nodeM F i = some n) : F[idx F i]? = some n ∧ idx F i < F.length := by
 have hm := node_mem h
 have hl : idx F i < F.length := List.findIdx_lt_length_of_exists ⟨n,hm.1,by simpa using hm.2⟩
 refine ⟨?_,hl⟩
 unfold nodeM at h
 rw [List.find?_eq_getElem?_findIdx] at h
 exact h
theorem idx_cons (x : Nd) (r : Fs) (i : Int) : idx (x :: r) i = if x.ino = i then 0 else idx r i + 1 := by
 unfold idx
 rw [List.findIdx_cons]
 by_cases h : x.ino = i <;> simp [h]
def AtE (F : Fs) (i : Int) (w : World) (e : Ending) (w' : World) : Prop := e = .returned (.int .i64 (idx F i)) ∧ Below w.heap.size w w'
theorem at_calls {T : Nat → Prop} (h : Sh) (F : Fs) (i : Int) (n : Nd) (w : World) (hf : FsA T w h F) (hn : nodeM F i = some n) (hs : F.length ≤ 1000) :
 Calls Tryz.prog 39 #[.agg #[.slice h.a h.n h.c],.int .u32 i] w (AtE F i w) := by
 obtain ⟨W,hW,HF,HB,c0⟩ := boxed hf
 have hlen : h.n ≤ 1000 := by rw [← hf.len]; exact hs
 have HLN := hQ_ hf.len
 have HN := hQ_ (idx_at hn).2
 obtain ⟨ha,hm,hc⟩ := h
 obtain ⟨K,hK⟩ : ∃ K,idx F i = K := ⟨_,rfl⟩
 have HK := hQ_ hK
 unfold AtE
 rw [hK] at HN ⊢
 dsimp only at hlen HLN c0 hW
 have HW := hQ_ hW
 clear hf hn hs hW hK
 go_enter Tryz.func39,Tryz.ntmps39
 go_wp2_with fail
 rw [HW.out]
 go_loop [9] (fun j => ∃ k : Nat,k ≤ hm ∧ j = .int .i64 k ∧ Hid (idx (F.drop k) i + k = K)) (fun j => hm - (intOf j).toNat)
 case atStart => exact ⟨0,Nat.zero_le _,rfl,hQ_ (by rw [List.drop_zero]; exact HK.out)⟩
 case round =>
  obtain ⟨k,hk,rfl,HR⟩ := hrel
  by_cases hlt : k < hm
  ·obtain ⟨x,hx⟩ : ∃ x,F[k]? = some x := ⟨_,List.getElem?_eq_getElem (by rw [HLN.out]; exact hlt)⟩
   obtain ⟨b,o,he,rfl,hb,_,hcl,_⟩ := HF.out.get hx
   have c1 : W.cell? ⟨b,o + k * 5,none⟩ = some (.int .u32 x.ino) := hcl 0 _ rfl
   have hr := HR.out
   rw [drop_some hx,idx_cons] at hr
   clear hcl hx
   by_cases hi : x.ino = i
   ·rw [if_pos hi] at hr
    have HXN : Hid (k = K) := hQ_ (by omega)
    have d1 : (x.ino == i) = true := by simpa using hi
    clear hr hi
    go_wp2_with fail
    go_ret
    exact ⟨by rw [HXN.out]; rfl,HB.out⟩
   ·rw [if_neg hi] at hr
    have HR2 : Hid (idx (F.drop (k + 1)) i + (k + 1) = K) := hQ_ (by omega)
    have d1 : (x.ino == i) = false := by simpa using hi
    clear hr hi HR
    go_wp2_with fail
    go_round
    case rel => exact ⟨k + 1,by omega,by go_num,HR2⟩
    case measure => simp [intOf]; omega
  ·have hr := HR.out
   rw [List.drop_eq_nil_of_le (by rw [HLN.out]; omega)] at hr
   have h1 := HN.out
   have h2 := HLN.out
   have h3 : idx [] i = 0 := rfl
   omega
def nodeV (n : Nd) (he : Sh) : Value := .agg #[.int .u32 n.ino,.int .u8 n.kind,.int .i64 n.links,.string n.data,.slice he.a he.n he.c]
def entL (l : List En) (nm : ByteArray) : Int := match l.find? (fun e => decide (e.name = nm)) with
 | some e => e.ino
 | none => 0
theorem entry_calls {T : Nat → Prop} (n : Nd) (he : Sh) (nm : ByteArray) (w : World) (hf : EntA T w he n.ents) (hs : SmN n) (hnm : nm.size ≤ 100000) :
 Calls Tryz.prog 137 #[nodeV n he,.string nm] w fun e w' => e = .returned (.int .u32 (entryM n nm)) ∧ Below w.heap.size w w' := by
 have hb1 := bN_ w (.cells #[.int .u32 n.ino,.int .u8 n.kind,.int .i64 n.links,.string n.data,.slice he.a he.n he.c] 85)
 have hW0 := Blk.new_ w #[.int .u32 n.ino,.int .u8 n.kind,.int .i64 n.links,.string n.data,.slice he.a he.n he.c] 85
 obtain ⟨W,hW⟩ : ∃ W,w.alloc (.cells #[.int .u32 n.ino,.int .u8 n.kind,.int .i64 n.links,.string n.data,.slice he.a he.n he.c] 85) = W := ⟨_,rfl⟩
 rw [hW] at hb1 hW0
 have HE := hQ_ (hf.below hb1).1
 have HB := hQ_ hb1
 have HW := hQ_ hW
 have c4 := cZ4 hW0
 have HR : Hid (entryM n nm = entL n.ents nm) := hQ_ rfl
 have HSM := hQ_ hs.en
 have hlen : he.n ≤ 1000 := by rw [← hf.len]; exact hs.e
 have HLN := hQ_ hf.len
 rw [HR.out]
 obtain ⟨ni,nk,nl,nd,ne⟩ := n
 obtain ⟨ha,hm,hc⟩ := he
 dsimp only [nodeV] at hlen HLN HE HSM HW HB ⊢ c4
 clear hf hs hb1 hW0 hW HR
 go_enter Tryz.func137,Tryz.ntmps137
 go_wp2_with fail
 rw [HW.out]
 go_loop [9] (fun j => ∃ k : Nat,k ≤ hm ∧ j = .int .i64 k ∧ Hid (entL (ne.drop k) nm = entL ne nm)) (fun j => hm - (intOf j).toNat)
 case atStart => exact ⟨0,Nat.zero_le _,rfl,hQ_ rfl⟩
 case round =>
  obtain ⟨k,hk,rfl,HR⟩ := hrel
  by_cases hlt : k < hm
  ·obtain ⟨x,b,o,hx,rfl,hb,hcl⟩ := HE.out.get k hlt
   have c1 : W.cell? ⟨b,o + k * 2,none⟩ = some (.string x.name) := hcl 0 _ rfl
   have c2 : W.cell? ⟨b,o + k * 2 + 1,none⟩ = some (.int .u32 x.ino) := hcl 1 _ rfl
   have hr := HR.out
   rw [drop_some hx] at hr
   unfold entL at hr
   rw [List.find?_cons] at hr
   clear hcl hx
   by_cases hi : x.name = nm
   ·rw [decide_eq_true hi] at hr
    have HXN : Hid (x.ino = entL ne nm) := hQ_ hr
    have d1 : (x.name.toList == nm.toList) = true := (TreeR.eq_list _ _).trans (decide_eq_true hi)
    clear hr hi
    go_wp2_with fail
    go_ret
    exact ⟨by rw [HXN.out]; rfl,HB.out⟩
   ·rw [decide_eq_false hi] at hr
    have HR2 := hQ_ (show entL (ne.drop (k + 1)) nm = entL ne nm from hr)
    have d1 : (x.name.toList == nm.toList) = false := (TreeR.eq_list _ _).trans (decide_eq_false hi)
    clear hr hi HR
    go_wp2_with fail
    go_round
    case rel => exact ⟨k + 1,by omega,by go_num,HR2⟩
    case measure => simp [intOf]; omega
  ·have hr := HR.out
   rw [List.drop_eq_nil_of_le (by rw [HLN.out]; omega)] at hr
   have HXN : Hid (0 = entL ne nm) := hQ_ hr
   clear hr HR
   go_wp2_with fail
   go_ret
   exact ⟨by rw [HXN.out]; rfl,HB.out⟩
def Ents (T : Nat → Prop) (w : World) (M : List (Nd × Sh)) : Prop := ∀ p ∈ M,EntA T w p.2 p.1.ents
theorem Ents.below {T : Nat → Prop} {w w' : World} {M : List (Nd × Sh)} (h : Ents T w M) (hb : Below w.heap.size w w') : Ents T w' M := fun p hp => (h p hp).below hb
theorem Ents.snoc {T : Nat → Prop} {w : World} {M : List (Nd × Sh)} {n : Nd} {he : Sh} (h : Ents T w M) (h2 : EntA T w he n.ents) : Ents T w (M ++ [(n,he)]) := fun p hp => by
 rcases List.mem_append.1 hp with h1 | h1
 ·exact h p h1
 ·rw [List.mem_singleton.1 h1]; exact h2
def FsE (T : Nat → Prop) (F : Fs) (w : World) (e : Ending) (w' : World) : Prop := ∃ h : Sh,e = .returned (.agg #[.slice h.a h.n h.c]) ∧ FsA T w' h F ∧ Below w.heap.size w w'
theorem fs_done {T : Nat → Prop} {w W w' : World} {h : Sh} {F : Fs} {M : List (Nd × Sh)} {base n : Nat} (hT : ∀ b,w.heap.size ≤ b → T b) (hb : w.heap.size ≤ base) (hso : So nhE 85 w' base (.slice h.a h.n h.c) n M) (hM : M.map (·.1) = F) (he : Ents T w' M) : FsA T w' h F := by
 rcases hso.form with ⟨h1,h2⟩ | ⟨g,cap,h1,h2,h3,_⟩
 ·have hl := hso.1
  rw [h2] at hl
  have hM0 := List.eq_nil_of_length_eq_zero hl
  subst hM0
  injection h1 with h1 h4 h5
  refine ⟨[],hM,?_,(fun b o e => by rw [h1] at e; cases e),(fun p hp => by cases hp)⟩
  rw [h1,h4]
  exact Sl.nil_ _ _ _
 ·injection h1 with h1 h4 h5
  subst h4
  refine ⟨M,hM,hso.sl,fun b o e => ?_,he⟩
  rw [h1] at e
  injection e with e
  injection e with e1 e2
  subst e1
  exact ⟨hT _ (by omega),h3⟩
theorem So.off {α : Type} {e : Enc α} {U : TypeId} {w : World} {base n : Nat} {v : Value} {L : List α} (h : So e U w base v n L) {g : Nat} (hg : g < base) : v.ownBlock = none ∨ v.ownBlock ≠ some g := by
 cases hv : v.ownBlock with
 | none => exact .inl rfl
 | some k =>
   refine .inr (fun e => ?_)
   injection e with e
   have := (h.lt hv).1
   omega
theorem fs_end {T : Nat → Prop} {w wr w5 : World} {A : Option Addr} {m c base g : Nat} {F : Fs} {M : List (Nd × Sh)} (hT : ∀ b,w.heap.size ≤ b → T b) (hso : So nhE 85 wr base (.slice A m c) m M) (hb : Below w.heap.size w wr) (hg5 : wr.grownBy w5 (some g)) (hg : w.heap.size ≤ g) (hgb : g < base) (hM : M.map (·.1) = F) (he : Ents T w M) : FsA T w5 ⟨A,m,c⟩ F ∧ Below w.heap.size w w5 := by
 have hb5 : Below w.heap.size w w5 := hb.grown hg5 hb.size (fun k hk => by injection hk with hk; omega)
 exact ⟨fs_done (W := wr) (n := m) hT (by omega) (hso.grown hg5 (So.off hso hgb)) hM (he.below hb5),hb5⟩
theorem with_calls {T : Nat → Prop} (h : Sh) (F : Fs) (n : Nd) (he : Sh) (w : World) (hf : FsA T w h F) (hn : EntA T w he n.ents) (hs : F.length ≤ 1000) (hT : ∀ b,w.heap.size ≤ b → T b) :
 Calls Tryz.prog 94 #[.agg #[.slice h.a h.n h.c],nodeV n he] w (FsE T (withM F n) w) := by
 have hlen : h.n ≤ 1000 := by rw [← hf.len]; exact hs
 have HLN := hQ_ hf.len
 obtain ⟨W,hW⟩ : ∃ W,((w.alloc (.cells #[.slice h.a h.n h.c] 29)).alloc (.cells #[.int .u32 n.ino,.int .u8 n.kind,.int .i64 n.links,.string n.data,.slice he.a he.n he.c] 85)).alloc (.cells #[.slice none 0 0] 29) = W := ⟨_,rfl⟩
 have hb : Below w.heap.size w W := by rw [← hW]; exact ((bW_).alloc (by simp) _).alloc (by simp; omega) _
 have hB0 : Blk W w.heap.size #[.slice h.a h.n h.c] 29 := by rw [← hW]; exact ((Blk.new_ w _ _).alloc _).alloc _
 have hB1 : Blk W (w.heap.size + 1) #[.int .u32 n.ino,.int .u8 n.kind,.int .i64 n.links,.string n.data,.slice he.a he.n he.c] 85 := by
  rw [← hW]
  have := (Blk.new_ (w.alloc (.cells #[.slice h.a h.n h.c] 29)) #[.int .u32 n.ino,.int .u8 n.kind,.int .i64 n.links,.string n.data,.slice he.a he.n he.c] 85).alloc (.cells #[.slice none 0 0] 29)
  simpa using this
 have hB2 : Blk W (w.heap.size + 2) #[.slice none 0 0] 29 := by
  rw [← hW]
  have := Blk.new_ ((w.alloc (.cells #[.slice h.a h.n h.c] 29)).alloc (.cells #[.int .u32 n.ino,.int .u8 n.kind,.int .i64 n.links,.string n.data,.slice he.a he.n he.c] 85)) #[.slice none 0 0] 29
  simpa using this
 have HWS : Hid (W.heap.size = w.heap.size + 1 + 1 + 1) := hQ_ (by rw [← hW]; simp)
 have HF := hQ_ hf
 have HE := hQ_ hn
 have HB := hQ_ hb
 have B0 := hQ_ hB0
 have B1 := hQ_ hB1
 have B2 := hQ_ hB2
 have HW := hQ_ hW
 have HT := hQ_ hT
 obtain ⟨R,hR⟩ : ∃ R,withM F n = R := ⟨_,rfl⟩
 have HR := hQ_ hR
 rw [hR]
 obtain ⟨ha,hm,hc⟩ := h
 obtain ⟨ni,nk,nl,nd,ne⟩ := n
 obtain ⟨ea,em,ec⟩ := he
 dsimp only [nodeV] at hlen HLN HE HW B0 B1 B2 ⊢
 clear hf hn hs hb hB0 hB1 hB2 hW hT hR
 go_enter Tryz.func94,Tryz.ntmps94
 go_wp2_with fail
 rw [HW.out]
 have SO0 : Hid (So nhE 85 (W.alloc (.cells #[] 85)) W.heap.size (.slice (some ⟨w.heap.size + 1 + 1 + 1,0,none⟩) 0 0) 0 []) := hQ_ (by rw [← HWS.out]; exact So.new_ nhE 85 W (Nat.le_refl W.heap.size))
 have SB0 := hQ_ ((Below.refl W.heap.size W).alloc (Nat.le_refl _) (.cells #[] 85))
 obtain ⟨W1,hW1⟩ : ∃ W1,W.alloc (.cells #[] 85) = W1 := ⟨_,rfl⟩
 rw [hW1] at SO0 SB0 ⊢
 go_loopw [5,6,12] (fun v d j wr => ∃ (A : Option Addr) (m c k : Nat) (dn : Bool) (M : List (Nd × Sh)),v = .slice A m c ∧ d = .bool dn ∧ j = .int .i64 k ∧ k ≤ hm ∧ m ≤ k ∧ So nhE 85 wr W.heap.size (.slice A m c) m M ∧ Hid (M.map (·.1) ++ withL ⟨ni,nk,nl,nd,ne⟩ dn (F.drop k) = R) ∧ Hid (Ents T w M) ∧ Below W.heap.size W wr) (fun _ _ j _ => hm - (intOf j).toNat)
 case atStart => exact ⟨_,0,0,0,false,[],rfl,rfl,rfl,Nat.zero_le _,Nat.le_refl _,SO0.out,hQ_ (by rw [List.map_nil,List.nil_append,List.drop_zero]; exact HR.out),hQ_ (fun p hp => by cases hp),SB0.out⟩
 case round =>
  obtain ⟨A,m,c,k,dn,M,rfl,rfl,rfl,hk,hmk,hso,HRR,HEN,hbel⟩ := hrel
  have HSO := hQ_ hso
  have HBL := hQ_ hbel
  have HBX := hQ_ (Own.keeps HB.out hbel)
  have hbs := hbel.size
  have c0 : wr.cell? ⟨w.heap.size,0,none⟩ = some (.slice ha hm hc) := (B0.out.below hbel).cell 0
  have c1 : wr.cell? ⟨w.heap.size + 1,0,none⟩ = some (.int .u32 ni) := (B1.out.below hbel).cell 0
  have N1 := hQ_ (B1.out.below hbel)
  clear hso hbel
  by_cases hlt : k < hm
  ·obtain ⟨x,hx⟩ : ∃ x,F[k]? = some x := ⟨_,List.getElem?_eq_getElem (by rw [HLN.out]; exact hlt)⟩
   obtain ⟨b,o,xe,rfl,hb,_,hcl,hxe⟩ := HF.out.get hx
   have hcl2 : wr.rangeAt b (o + k * 5) [.int .u32 x.ino,.int .u8 x.kind,.int .i64 x.links,.string x.data,.slice xe.a xe.n xe.c] := fun i v hv => (HBX.out.cell (p := ⟨b,o + k * 5 + i,none⟩) hb).trans (hcl i v hv)
   have c2 : wr.cell? ⟨b,o + k * 5,none⟩ = some (.int .u32 x.ino) := hcl2 0 _ rfl
   have HCL := hQ_ hcl2
   have HXE := hQ_ hxe
   have hr := HRR.out
   rw [drop_some hx] at hr
   unfold withL at hr
   clear hcl hcl2 hxe hx
   obtain ⟨xi,xk,xl,xd,xn⟩ := x
   dsimp only at hr HCL HXE c2
   by_cases hi : xi = ni
   ·rw [if_pos hi] at hr
    have HR2 : Hid ((M ++ [((⟨ni,nk,nl,nd,ne⟩ : Nd),(⟨ea,em,ec⟩ : Sh))]).map (·.1) ++ withL ⟨ni,nk,nl,nd,ne⟩ true (F.drop (k + 1)) = R) := hQ_ (by rw [List.map_append,List.append_assoc]; exact hr)
    have d1 : (xi == ni) = true := by simpa using hi
    clear hr hi HRR
    go_wp2_with fail
    go_quiet (fail)
    go_wp2_with (first
     | ((with_reducible refine pick (some 25) ?_); refine load_blk rfl 85 _ rfl (w.heap.size + 1) rfl 85 _ _ N1.out Tryz.underlying85 rfl info_node ?_)
     | ((with_reducible refine pick (some 27) ?_); refine wpList_append_any nhE 85 rfl _ _ _ rfl Tryz.underlying27 info_nh rfl W.heap.size _ m M rfl (HSO.out.below ((NamesS.below_drewN (Below.refl _ _) _).alloc (Nat.le_refl _) _)) _ 1 1 [((⟨ni,nk,nl,nd,ne⟩ : Nd),(⟨ea,em,ec⟩ : Sh))] rfl (Sl.new_ nhE _ _ _ _ rfl) (fun h => by cases h) (m + 1) rfl _ rfl (by unfold maxLen; omega) (by omega) (by simp; omega) ?_; intro v' w' hown' hg' hat'; obtain ⟨A3,c3',rfl,_⟩ := Tx.So.head hown'))
    have HBB : Hid (Below W.heap.size W w') := hQ_ (Below.grown (Below.alloc (NamesS.below_drewN HBL.out _) hbs _) hg' (by simp; omega) (fun k hk => (HSO.out.lt hk).1))
    have HEN2 := hQ_ (HEN.out.snoc (n := ⟨ni,nk,nl,nd,ne⟩) HE.out)
    go_roundw
    case rel => exact ⟨A3,m + 1,c3',k + 1,true,_,rfl,rfl,by go_num,by omega,by omega,hown',HR2,HEN2,HBB.out⟩
    case measure => simp [intOf]; omega
   ·rw [if_neg hi] at hr
    have HR2 : Hid ((M ++ [((⟨xi,xk,xl,xd,xn⟩ : Nd),xe)]).map (·.1) ++ withL ⟨ni,nk,nl,nd,ne⟩ dn (F.drop (k + 1)) = R) := hQ_ (by rw [List.map_append,List.append_assoc]; exact hr)
    have d1 : (xi == ni) = false := by simpa using hi
    clear hr hi HRR
    obtain ⟨xa,xm,xc⟩ := xe
    dsimp only at HCL HXE
    go_wp2_with fail
    go_quiet (fail)
    go_wp2_with (first
     | ((with_reducible refine pick (some 33) ?_); refine wpList_load_mid rfl 85 _ rfl b (o + k * 5) rfl [.int .u32 xi,.int .u8 xk,.int .i64 xl,.string xd,.slice xa xm xc] _ HCL.out Tryz.underlying85 rfl info_node ?_)
     | ((with_reducible refine pick (some 35) ?_); refine wpList_append_any nhE 85 rfl _ _ _ rfl Tryz.underlying27 info_nh rfl W.heap.size _ m M rfl (HSO.out.below ((NamesS.below_drewN (Below.refl _ _) _).alloc (Nat.le_refl _) _)) _ 1 1 [((⟨xi,xk,xl,xd,xn⟩ : Nd),(⟨xa,xm,xc⟩ : Sh))] rfl (Sl.new_ nhE _ _ _ _ rfl) (fun h => by cases h) (m + 1) rfl _ rfl (by unfold maxLen; omega) (by omega) (by simp; omega) ?_; intro v' w' hown' hg' hat'; obtain ⟨A3,c3',rfl,_⟩ := Tx.So.head hown'))
    have HBB : Hid (Below W.heap.size W w') := hQ_ (Below.grown (Below.alloc (NamesS.below_drewN HBL.out _) hbs _) hg' (by simp; omega) (fun k hk => (HSO.out.lt hk).1))
    have HEN2 := hQ_ (HEN.out.snoc (n := ⟨xi,xk,xl,xd,xn⟩) HXE.out)
    go_roundw
    case rel => exact ⟨A3,m + 1,c3',k + 1,dn,_,rfl,rfl,by go_num,by omega,by omega,hown',HR2,HEN2,HBB.out⟩
    case measure => simp [intOf]; omega
  ·have hr := HRR.out
   rw [List.drop_eq_nil_of_le (by rw [HLN.out]; omega)] at hr
   unfold withL at hr
   have N2 := hQ_ (B2.out.below HBL.out)
   have hws := HWS.out
   cases dn with
   | true =>
     rw [if_pos rfl,List.append_nil] at hr
     have HRM := hQ_ hr
     clear hr HRR
     go_wp2_with ((with_reducible refine pick none ?_); refine store_blk rfl 29 _ _ rfl (w.heap.size + 2) #[.slice A m c] rfl rfl 29 _ N2.out info_fs rfl (by simp [Value.oneCell']) ?_; intro w5 hk5 hg5)
     obtain ⟨h1,h2⟩ := fs_end HT.out HSO.out HBX.out hg5 (by omega) (by omega) HRM.out HEN.out
     exact bodyPost_ret (v := .agg #[.slice A m c]) (results_cell_row rfl _ _ (w.heap.size + 2) 29 _ (0,0) _ rfl hk5 Tryz.underlying29 rfl info_fs) rfl ⟨⟨A,m,c⟩,rfl,h1,h2⟩
   | false =>
     rw [if_neg (by decide)] at hr
     have HRM : Hid ((M ++ [((⟨ni,nk,nl,nd,ne⟩ : Nd),(⟨ea,em,ec⟩ : Sh))]).map (·.1) = R) := hQ_ (by rw [List.map_append]; exact hr)
     have HEN2 := hQ_ (HEN.out.snoc (n := ⟨ni,nk,nl,nd,ne⟩) HE.out)
     clear hr HRR
     go_wp2_with (first
      | ((with_reducible refine pick (some 40) ?_); refine load_blk rfl 85 _ rfl (w.heap.size + 1) rfl 85 _ _ N1.out Tryz.underlying85 rfl info_node ?_)
      | ((with_reducible refine pick (some 42) ?_); refine wpList_append_any nhE 85 rfl _ _ _ rfl Tryz.underlying27 info_nh rfl W.heap.size _ m M rfl (HSO.out.below (bW_)) _ 1 1 [((⟨ni,nk,nl,nd,ne⟩ : Nd),(⟨ea,em,ec⟩ : Sh))] rfl (Sl.new_ nhE _ _ _ _ rfl) (fun h => by cases h) (m + 1) rfl _ rfl (by unfold maxLen; omega) (by omega) (by simp; omega) ?_; intro v' w' hown' hg' hat'; obtain ⟨A3,c3',rfl,_⟩ := Tx.So.head hown'; have hal := HBL.out.alloc hbs (.cells #[.int .u32 ni,.int .u8 nk,.int .i64 nl,.string nd,.slice ea em ec] 85); have HBB : Hid (Below W.heap.size W w') := hQ_ (hal.grown hg' hal.size (fun k hk => (HSO.out.lt hk).1)); have N3 := hQ_ (B2.out.below HBB.out); have HBX3 := hQ_ (Own.keeps HB.out HBB.out); have HOW := hQ_ hown'; clear hal hown' hg')
      | ((with_reducible refine pick none ?_); refine store_blk rfl 29 _ _ rfl (w.heap.size + 2) #[.slice A3 (m + 1) c3'] rfl rfl 29 _ N3.out info_fs rfl (by simp [Value.oneCell']) ?_; intro w5 hk5 hg5))
     obtain ⟨h1,h2⟩ := fs_end HT.out HOW.out HBX3.out hg5 (by omega) (by omega) HRM.out HEN2.out
     exact bodyPost_ret (v := .agg #[.slice A3 (m + 1) c3']) (results_cell_row rfl _ _ (w.heap.size + 2) 29 _ (0,0) _ rfl hk5 Tryz.underlying29 rfl info_fs) rfl ⟨⟨A3,m + 1,c3'⟩,rfl,h1,h2⟩
end Go.Proofs.YtfalhnomhidkcaaGreatDoor.DirsR