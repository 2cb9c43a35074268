import Derived.Test.YtfalhnomhidkcaaGreatDoorSq
import Derived.Test.YtfalhnomhidkcaaGreatDoorDirsRb
import Derived.Test.YtfalhnomhidkcaaGreatDoorDirsRd
import Derived.Test.YtfalhnomhidkcaaGreatDoorDirsM
import Derived.Laws.ResultCell
import Derived.Deep.Cut
import Derived.Deep.RegionLaw
import Derived.Test.YtfalhnomhidkcaaGreatDoorViewR
set_option maxHeartbeats 16000000
set_option linter.unusedVariables false
set_option linter.unusedSimpArgs false
set_option maxRecDepth 100000
namespace Go.Proofs.YtfalhnomhidkcaaGreatDoor.DirsRe
open Go.RowKit
open Byte KeysM TreeM Lst Ho Tx NamesM NamesR WalkF DirsM Chg DirsR DirsRa DirsRb DirsRc DirsRd
open Own hiding keeps
open ViewR (Sh)
theorem results_tmp_row {P : Program} {fn : Func} {u p : Tmp} {ty : TypeId} (h : fn.results = #[.tmp u,.cell p ty]) (tmps : Array Value) (w : World) (g : Nat) (t : TypeId) (cs : Array Value) (fr : Nat × Nat) (d : TypeDesc)
 (hp : tmps.getD p undef = .pointer (some ⟨g,0,none⟩)) (v : Value) (hv : tmps.getD u undef = v) (hg : w.heap[g]? = some (.cells cs t fr)) (hu : P.underlying ty = some d) (hd : (match d with | .struct _ | .array _ _ => true | _ => false) = true) (hi : (P.info? ty).map (·.size) = some cs.size) :
 (results fn tmps).run P w = .ok (.tuple #[v,.agg cs]) w := by
 subst hv
 have hp' : tmps[p]?.getD undef = .pointer (some ⟨g,0,none⟩) := by simpa using hp
 simp [results,h,hp',asAddr,run_loadVar_row w g t ty cs fr d hg hu hd hi]
def Out (T : Nat → Prop) (n r b : Nat) : Prop := T b ∧ b ≠ n ∧ b ≠ r
structure InvF (T : Nat → Prop) (w : World) (r : Nat) (u : World) (h : Sh) (F : Fs) : Prop where
 bel : Below w.heap.size w u
 fs : Blk u w.heap.size #[.slice h.a h.n h.c] 29
 res : Blk u r #[.slice none 0 0] 29
 hr : w.heap.size < r
 lies : FsA (Out T w.heap.size r) u h F
section
variable {T : Nat → Prop} {w u u' : World} {h h' : Sh} {F F' : Fs} {r : Nat}
theorem InvF.below (I : InvF T w r u h F) (hb : Below u.heap.size u u') : InvF T w r u' h F := ⟨Own.keeps I.bel hb,I.fs.below hb,I.res.below hb,I.hr,I.lies.below hb⟩
theorem InvF.lt (I : InvF T w r u h F) : w.heap.size < r ∧ r < u.heap.size := ⟨I.hr,I.res.lt⟩
theorem InvF.room (I : InvF T w r u h F) (hT : ∀ b,w.heap.size ≤ b → T b) : ∀ b,u.heap.size ≤ b → Out T w.heap.size r b := fun b hb => by
 have := I.lt
 exact ⟨hT b (by omega),by omega,by omega⟩
theorem InvF.put (I : InvF T w r u h F) (hf : FsA (Out T w.heap.size r) u h' F') (hg : u.grownBy u' (some w.heap.size)) (hk : Blk u' w.heap.size #[.slice h'.a h'.n h'.c] 29) : InvF T w r u' h' F' :=
 ⟨I.bel.grown hg I.bel.size (fun k hk => by injection hk with hk; omega),hk,I.res.grown hg (by have := I.hr; omega),I.hr,
   hf.chg (S := fun b => b = w.heap.size) (Chg.of_grown hg (fun k e => .inl (by injection e with e; exact e.symm))) (fun b hb _ => ⟨hb.2.1,hb⟩)⟩
theorem InvF.ret (I : InvF T w r u h F) (hf : FsA (Out T w.heap.size r) u h' F') (hg : u.grownBy u' (some r)) : FsA T u' h' F' ∧ Below w.heap.size w u' :=
 ⟨hf.chg (S := fun b => b = r) (Chg.of_grown hg (fun k e => .inl (by injection e with e; exact e.symm))) (fun b hb _ => ⟨hb.2.2,hb.1⟩),I.bel.grown hg I.bel.size (fun k hk => by injection hk with hk; have := I.hr; omega)⟩
theorem InvF.ret' (I : InvF T w r u h F) (hf : FsA (Out T w.heap.size r) u h' F') (x : Value) : FsA T (u.setCell ⟨r,0,none⟩ x) h' F' ∧ Below w.heap.size w (u.setCell ⟨r,0,none⟩ x) ∧ Blk (u.setCell ⟨r,0,none⟩ x) r #[x] 29 :=
 ⟨hf.chg (S := fun b => b = r) ((Chg.refl (fun b => b = r) u).setCell (p := ⟨r,0,none⟩) (.inl rfl) x) (fun b hb _ => ⟨hb.2.2,hb.1⟩),I.bel.setCell (p := ⟨r,0,none⟩) (by show w.heap.size ≤ r; have := I.hr; omega) x,I.res.set_ 0 x⟩
theorem InvF.start (hf : FsA T w h F) : InvF T w (w.heap.size + 1) ((w.alloc (.cells #[.slice h.a h.n h.c] 29)).alloc (.cells #[.slice none 0 0] 29)) h F := by
 have hb : Below w.heap.size w ((w.alloc (.cells #[.slice h.a h.n h.c] 29)).alloc (.cells #[.slice none 0 0] 29)) := (bW_).alloc (by simp) _
 refine ⟨hb,(Blk.new_ w _ _).alloc _,?_,Nat.lt_succ_self _,?_⟩
 ·have := Blk.new_ (w.alloc (.cells #[.slice h.a h.n h.c] 29)) #[.slice none 0 0] 29
  simpa using this
 ·exact (hf.chg (S := fun _ => False) (Chg.refl _ w) (fun b hb hlt => ⟨fun h => h,hb,by omega,by omega⟩)).below hb
end
theorem ent_nil {T : Nat → Prop} {u : World} : EntA T u ⟨none,0,0⟩ [] := ⟨Sl.nil_ _ _ _,fun b o e => by cases e⟩
def AnsE (T : Nat → Prop) (r : Int × Fs) (w : World) (e : Ending) (w' : World) : Prop := ∃ h : Sh,e = .returned (.tuple #[.int .i64 r.1,.agg #[.slice h.a h.n h.c]]) ∧ FsA T w' h r.2 ∧ Below w.heap.size w w'
theorem AnsE.of {T : Nat → Prop} {r : Int × Fs} {w w' : World} {x : Int} {h : Sh} {F : Fs} (hr : r = (x,F)) (hf : FsA T w' h F ∧ Below w.heap.size w w') : AnsE T r w (.returned (.tuple #[.int .i64 x,.agg #[.slice h.a h.n h.c]])) w' := by
 subst hr
 exact ⟨h,rfl,hf.1,hf.2⟩
structure MakeOk (F : Fs) (d : Int) (kind ino : Int) : Prop where
 f1 : SmF (withM F (newNd kind ino))
 n1 : ∃ n,nodeM (withM F (newNd kind ino)) d = some n
 f2 : SmF (if kind = 1 then withM F (newNd kind ino) else linkedM (withM F (newNd kind ino)) d 1)
 n2 : ∃ n,nodeM (if kind = 1 then withM F (newNd kind ino) else linkedM (withM F (newNd kind ino)) d 1) d = some n
theorem make_calls {T : Nat → Prop} (h : Sh) (F : Fs) (path : ByteArray) (kind ino : Int) (w : World) (hf : FsA T w h F) (hs : SmF F) (hcl : Cl F) (hp : path.size ≤ maxLen) (hok : (fndM F path).2 = 0 → (fndM F path).1.ino = 0 → MakeOk F (fndM F path).1.dir kind ino) (hT : ∀ b,w.heap.size ≤ b → T b) :
 Calls Tryz.prog 44 #[.agg #[.slice h.a h.n h.c],.string path,.int .u8 kind,.int .u32 ino] w (AnsE T (makeM F path kind ino) w) := by
 obtain ⟨W,hW⟩ : ∃ W,(w.alloc (.cells #[.slice h.a h.n h.c] 29)).alloc (.cells #[.slice none 0 0] 29) = W := ⟨_,rfl⟩
 have I0 := hQ_ (InvF.start hf)
 rw [hW] at I0
 have HW := hQ_ hW
 have W_0 := cZ0 I0.out.fs
 have HFI := hQ_ (fun u (hl : FsA (Out T w.heap.size (w.heap.size + 1)) u h F) => find_calls h F path u hl hs hcl hp)
 unfold FndE at HFI
 have HM : Hid (makeM F path kind ino = if (fndM F path).2 ≠ 0 then ((fndM F path).2,F) else if (fndM F path).1.ino ≠ 0 then (11,F) else (0,makeAt F (fndM F path).1 kind ino)) := hQ_ rfl
 have HOK := hQ_ hok
 have HT := hQ_ hT
 have HSL := hQ_ hs.len
 obtain ⟨⟨⟨sd,sn,si⟩,er⟩,hR⟩ : ∃ R,fndM F path = R := ⟨_,rfl⟩
 rw [hR] at HFI HM HOK
 dsimp only [spotA] at HFI HM HOK
 rw [HM.out]
 clear hf hs hcl hp hT hok hW hR HM
 by_cases he : er = 0
 ·subst he
  rw [if_neg (fun h => h rfl)]
  by_cases hi : si = 0
  ·subst hi
   rw [if_neg (fun h => h rfl)]
   have OK := hQ_ (HOK.out rfl rfl)
   clear HOK
   by_cases hk : kind = 1
   ·subst hk
    have HN : newNd 1 ino = (⟨ino,1,1,NE,[]⟩ : Nd) := rfl
    have e1 : (if (1 : Int) = 1 then withM F (newNd 1 ino) else linkedM (withM F (newNd 1 ino)) sd 1) = withM F ⟨ino,1,1,NE,[]⟩ := rfl
    have HMA : Hid (makeAt F ⟨sd,sn,0⟩ 1 ino = namedM (withM F ⟨ino,1,1,NE,[]⟩) sd sn ino) := hQ_ rfl
    obtain ⟨of1,⟨m1,on1⟩,of2,⟨m2,on2⟩⟩ := OK.out
    rw [HN] at of1 on1
    rw [e1] at of2 on2
    rw [HMA.out]
    have OF1 := hQ_ of1
    have ON1 := hQ_ on1
    have OF2 := hQ_ of2
    have ON2 := hQ_ on2
    clear of1 on1 of2 on2 HN e1 HMA OK
    go_enter Tryz.func44,Tryz.ntmps44
    go_wp2_with fail
    rw [HW.out]
    go_wp2_with fail
    refine (HFI.out W I0.out.lies).mono ?_
    rintro e v1 ⟨rfl,hb1⟩
    have hbU1 := nW_ hb1 (.cells #[.int .u32 sd,.string sn,.int .u32 0] 156)
    have I1 := hQ_ (I0.out.below hbU1)
    have A1 := hQ_ (Blk.new_ v1 #[.int .u32 sd,.string sn,.int .u32 0] 156)
    have LA : Hid (w.heap.size + 1 ≤ v1.heap.size) := hQ_ (by have := I0.out.lt; have := hb1.size; omega)
    have f1_0 := cZ0 I1.out.fs
    have f1_A0 := cC3 A1.out
    clear hbU1 W_0 hb1
    go_wp2_with fail
    refine (with_calls h F ⟨ino,1,1,NE,[]⟩ ⟨none,0,0⟩ (v1.alloc (.cells #[.int .u32 sd,.string sn,.int .u32 0] 156)) I1.out.lies ent_nil HSL.out (I1.out.room HT.out)).mono ?_
    rintro e u2 ⟨h2,rfl,hf2,hb2⟩
    have I2 := hQ_ (I1.out.below hb2)
    have A2 := hQ_ (A1.out.below hb2)
    have f2_0 := cZ0 I2.out.fs
    obtain ⟨f2_A0,f2_A1,f2_A2⟩ := cC3 A2.out
    have L2 := hQ_ hf2
    clear hf2 hb2 f1_0 f1_A0
    go_wp2_with (first | ((with_reducible refine pick none ?_); refine store_blk rfl 29 _ _ rfl w.heap.size #[.slice h2.a h2.n h2.c] rfl rfl 29 _ I2.out.fs info_fs rfl (by simp [Value.oneCell']) ?_; intro u3 hk3 hg3; have I3 := hQ_ (I2.out.put L2.out hg3 hk3); have A3 := hQ_ (A2.out.grown hg3 (by have := LA.out; omega)); have f3_0 : u3.cell? ⟨w.heap.size,0,none⟩ = some (.slice h2.a h2.n h2.c) := I3.out.fs.cell 0; have f3_A0 : u3.cell? ⟨v1.heap.size,0,none⟩ = some (.int .u32 sd) := A3.out.cell 0; have f3_A1 : u3.cell? ⟨v1.heap.size,1,none⟩ = some (.string sn) := A3.out.cell 1; have f3_A2 : u3.cell? ⟨v1.heap.size,2,none⟩ = some (.int .u32 0) := A3.out.cell 2; clear hk3 hg3 f2_0 f2_A0 f2_A1 f2_A2))
    refine (named_calls h2 (withM F ⟨ino,1,1,NE,[]⟩) sd sn ino m2 u3 I3.out.lies ON2.out OF2.out (I3.out.room HT.out)).mono ?_
    rintro e u4 ⟨h4,rfl,hf4,hb4⟩
    have I4 := hQ_ (I3.out.below hb4)
    have A4 := hQ_ (A3.out.below hb4)
    have f4_0 := cZ0 I4.out.fs
    have f4_A0 := cC3 A4.out
    have L4 := hQ_ hf4
    clear hf4 hb4 f3_0 f3_A0 f3_A1 f3_A2
    go_wp2_with ((with_reducible refine pick none ?_); refine store_blk rfl 29 _ _ rfl (w.heap.size + 1) #[.slice h4.a h4.n h4.c] rfl rfl 29 _ I4.out.res info_fs rfl (by simp [Value.oneCell']) ?_; intro z5 hk5 hg5)
    exact bodyPost_ret (v := .tuple #[.int .i64 (0),.agg #[.slice h4.a h4.n h4.c]]) (results_tmp_row rfl _ _ (w.heap.size + 1) 29 _ (0,0) _ rfl _ rfl hk5 Tryz.underlying29 rfl info_fs) rfl (AnsE.of rfl (I4.out.ret L4.out hg5))
   ·have d3 : (kind == 1) = false := by simpa using hk
    have HN : newNd kind ino = (⟨ino,2,2,NE,[]⟩ : Nd) := if_neg hk
    have e1 : (if kind = 1 then withM F (newNd kind ino) else linkedM (withM F (newNd kind ino)) sd 1) = linkedM (withM F ⟨ino,2,2,NE,[]⟩) sd 1 := by rw [if_neg hk,HN]
    have HMA : Hid (makeAt F ⟨sd,sn,0⟩ kind ino = namedM (linkedM (withM F ⟨ino,2,2,NE,[]⟩) sd 1) sd sn ino) := hQ_ (by unfold makeAt; rw [if_neg hk])
    obtain ⟨of1,⟨m1,on1⟩,of2,⟨m2,on2⟩⟩ := OK.out
    rw [HN] at of1 on1
    rw [e1] at of2 on2
    rw [HMA.out]
    have OF1 := hQ_ of1
    have ON1 := hQ_ on1
    have OF2 := hQ_ of2
    have ON2 := hQ_ on2
    clear of1 on1 of2 on2 HN e1 HMA OK hk
    go_enter Tryz.func44,Tryz.ntmps44
    go_wp2_with fail
    rw [HW.out]
    go_wp2_with fail
    refine (HFI.out W I0.out.lies).mono ?_
    rintro e v6 ⟨rfl,hb6⟩
    have hbU6 := nW_ hb6 (.cells #[.int .u32 sd,.string sn,.int .u32 0] 156)
    have I6 := hQ_ (I0.out.below hbU6)
    have A6 := hQ_ (Blk.new_ v6 #[.int .u32 sd,.string sn,.int .u32 0] 156)
    have LA : Hid (w.heap.size + 1 ≤ v6.heap.size) := hQ_ (by have := I0.out.lt; have := hb6.size; omega)
    have f6_0 := cZ0 I6.out.fs
    have f6_A0 := cC3 A6.out
    clear hbU6 W_0 hb6
    go_wp2_with fail
    refine (with_calls h F ⟨ino,2,2,NE,[]⟩ ⟨none,0,0⟩ (v6.alloc (.cells #[.int .u32 sd,.string sn,.int .u32 0] 156)) I6.out.lies ent_nil HSL.out (I6.out.room HT.out)).mono ?_
    rintro e u7 ⟨h7,rfl,hf7,hb7⟩
    have I7 := hQ_ (I6.out.below hb7)
    have A7 := hQ_ (A6.out.below hb7)
    have f7_0 := cZ0 I7.out.fs
    obtain ⟨f7_A0,f7_A1,f7_A2⟩ := cC3 A7.out
    have L7 := hQ_ hf7
    clear hf7 hb7 f6_0 f6_A0
    go_wp2_with (first | ((with_reducible refine pick none ?_); refine store_blk rfl 29 _ _ rfl w.heap.size #[.slice h7.a h7.n h7.c] rfl rfl 29 _ I7.out.fs info_fs rfl (by simp [Value.oneCell']) ?_; intro u8 hk8 hg8; have I8 := hQ_ (I7.out.put L7.out hg8 hk8); have A8 := hQ_ (A7.out.grown hg8 (by have := LA.out; omega)); have f8_0 : u8.cell? ⟨w.heap.size,0,none⟩ = some (.slice h7.a h7.n h7.c) := I8.out.fs.cell 0; have f8_A0 : u8.cell? ⟨v6.heap.size,0,none⟩ = some (.int .u32 sd) := A8.out.cell 0; have f8_A1 : u8.cell? ⟨v6.heap.size,1,none⟩ = some (.string sn) := A8.out.cell 1; have f8_A2 : u8.cell? ⟨v6.heap.size,2,none⟩ = some (.int .u32 0) := A8.out.cell 2; clear hk8 hg8 f7_0 f7_A0 f7_A1 f7_A2))
    refine (linked_calls h7 (withM F ⟨ino,2,2,NE,[]⟩) sd 1 m1 u8 I8.out.lies ON1.out OF1.out (by omega) (by omega) (I8.out.room HT.out)).mono ?_
    rintro e u9 ⟨h9,rfl,hf9,hb9⟩
    have I9 := hQ_ (I8.out.below hb9)
    have A9 := hQ_ (A8.out.below hb9)
    have f9_0 := cZ0 I9.out.fs
    obtain ⟨f9_A0,f9_A1,f9_A2⟩ := cC3 A9.out
    have L9 := hQ_ hf9
    clear hf9 hb9 f8_0 f8_A0 f8_A1 f8_A2
    go_wp2_with (first | ((with_reducible refine pick none ?_); refine store_blk rfl 29 _ _ rfl w.heap.size #[.slice h9.a h9.n h9.c] rfl rfl 29 _ I9.out.fs info_fs rfl (by simp [Value.oneCell']) ?_; intro u10 hk10 hg10; have I10 := hQ_ (I9.out.put L9.out hg10 hk10); have A10 := hQ_ (A9.out.grown hg10 (by have := LA.out; omega)); have f10_0 : u10.cell? ⟨w.heap.size,0,none⟩ = some (.slice h9.a h9.n h9.c) := I10.out.fs.cell 0; have f10_A0 : u10.cell? ⟨v6.heap.size,0,none⟩ = some (.int .u32 sd) := A10.out.cell 0; have f10_A1 : u10.cell? ⟨v6.heap.size,1,none⟩ = some (.string sn) := A10.out.cell 1; have f10_A2 : u10.cell? ⟨v6.heap.size,2,none⟩ = some (.int .u32 0) := A10.out.cell 2; clear hk10 hg10 f9_0 f9_A0 f9_A1 f9_A2))
    refine (named_calls h9 (linkedM (withM F ⟨ino,2,2,NE,[]⟩) sd 1) sd sn ino m2 u10 I10.out.lies ON2.out OF2.out (I10.out.room HT.out)).mono ?_
    rintro e u11 ⟨h11,rfl,hf11,hb11⟩
    have I11 := hQ_ (I10.out.below hb11)
    have A11 := hQ_ (A10.out.below hb11)
    have f11_0 := cZ0 I11.out.fs
    have f11_A0 := cC3 A11.out
    have L11 := hQ_ hf11
    clear hf11 hb11 f10_0 f10_A0 f10_A1 f10_A2
    go_wp2_with ((with_reducible refine pick none ?_); refine store_blk rfl 29 _ _ rfl (w.heap.size + 1) #[.slice h11.a h11.n h11.c] rfl rfl 29 _ I11.out.res info_fs rfl (by simp [Value.oneCell']) ?_; intro z12 hk12 hg12)
    exact bodyPost_ret (v := .tuple #[.int .i64 (0),.agg #[.slice h11.a h11.n h11.c]]) (results_tmp_row rfl _ _ (w.heap.size + 1) 29 _ (0,0) _ rfl _ rfl hk12 Tryz.underlying29 rfl info_fs) rfl (AnsE.of rfl (I11.out.ret L11.out hg12))
  ·rw [if_pos hi]
   have d2 : (si != 0) = true := by simpa using hi
   clear hi
   go_enter Tryz.func44,Tryz.ntmps44
   go_wp2_with fail
   rw [HW.out]
   go_wp2_with fail
   refine (HFI.out W I0.out.lies).mono ?_
   rintro e v13 ⟨rfl,hb13⟩
   have hbU13 := nW_ hb13 (.cells #[.int .u32 sd,.string sn,.int .u32 si] 156)
   have I13 := hQ_ (I0.out.below hbU13)
   have A13 := hQ_ (Blk.new_ v13 #[.int .u32 sd,.string sn,.int .u32 si] 156)
   have LA : Hid (w.heap.size + 1 ≤ v13.heap.size) := hQ_ (by have := I0.out.lt; have := hb13.size; omega)
   have f13_0 := cZ0 I13.out.fs
   have f13_A0 := cC3 A13.out
   clear hbU13 W_0 hb13
   go_wp2_with fail
   have r1 := cZ0 I13.out.res
   have r2 : (v13.alloc (.cells #[.int .u32 sd,.string sn,.int .u32 si] 156)).frozen? ⟨(w.heap.size + 1),0,none⟩ = false := I13.out.res.frozen 0
   go_region_law (fail)
   all_goals
    obtain ⟨f1,f2,f3⟩ := I13.out.ret' I13.out.lies (.slice h.a h.n h.c)
    have HF1 := hQ_ (And.intro f1 f2)
    have HF3 := hQ_ f3
    clear f1 f2 f3
    go_wp2_with fail
    first
     | exact bodyPost_ret (v := .tuple #[.int .i64 (11),.agg #[.slice h.a h.n h.c]]) (results_tmp_row rfl _ _ (w.heap.size + 1) 29 _ (0,0) _ rfl _ rfl HF3.out Tryz.underlying29 rfl info_fs) rfl (AnsE.of rfl HF1.out)
     | exact bodyPost_ret (v := .tuple #[.int .i64 (11),.agg #[.slice h.a h.n h.c]]) (results_tmp_row rfl _ _ (w.heap.size + 1) 29 _ (0,0) _ rfl _ rfl HF3.out.drew Tryz.underlying29 rfl info_fs) rfl (AnsE.of rfl ⟨HF1.out.1.below ((Below.refl _ _).drew),HF1.out.2.drew⟩)
 ·have d1 : (er != 0) = true := by simpa using he
  rw [if_pos he]
  clear he
  go_enter Tryz.func44,Tryz.ntmps44
  go_wp2_with fail
  rw [HW.out]
  go_wp2_with fail
  refine (HFI.out W I0.out.lies).mono ?_
  rintro e v14 ⟨rfl,hb14⟩
  have hbU14 := nW_ hb14 (.cells #[.int .u32 sd,.string sn,.int .u32 si] 156)
  have I14 := hQ_ (I0.out.below hbU14)
  have A14 := hQ_ (Blk.new_ v14 #[.int .u32 sd,.string sn,.int .u32 si] 156)
  have LA : Hid (w.heap.size + 1 ≤ v14.heap.size) := hQ_ (by have := I0.out.lt; have := hb14.size; omega)
  have f14_0 := cZ0 I14.out.fs
  have f14_A0 := cC3 A14.out
  clear hbU14 W_0 hb14
  go_wp2_with fail
  have r1 := cZ0 I14.out.res
  have r2 : (v14.alloc (.cells #[.int .u32 sd,.string sn,.int .u32 si] 156)).frozen? ⟨(w.heap.size + 1),0,none⟩ = false := I14.out.res.frozen 0
  go_region_law (fail)
  all_goals
   obtain ⟨f1,f2,f3⟩ := I14.out.ret' I14.out.lies (.slice h.a h.n h.c)
   have HF1 := hQ_ (And.intro f1 f2)
   have HF3 := hQ_ f3
   clear f1 f2 f3
   go_wp2_with fail
   first
    | exact bodyPost_ret (v := .tuple #[.int .i64 (er),.agg #[.slice h.a h.n h.c]]) (results_tmp_row rfl _ _ (w.heap.size + 1) 29 _ (0,0) _ rfl _ rfl HF3.out Tryz.underlying29 rfl info_fs) rfl (AnsE.of rfl HF1.out)
    | exact bodyPost_ret (v := .tuple #[.int .i64 (er),.agg #[.slice h.a h.n h.c]]) (results_tmp_row rfl _ _ (w.heap.size + 1) 29 _ (0,0) _ rfl _ rfl HF3.out.drew Tryz.underlying29 rfl info_fs) rfl (AnsE.of rfl ⟨HF1.out.1.below ((Below.refl _ _).drew),HF1.out.2.drew⟩)
end Go.Proofs.YtfalhnomhidkcaaGreatDoor.DirsRe
namespace Go.Proofs.YtfalhnomhidkcaaGreatDoor.DirsV
open Byte PackM KeysM TreeM ViewM ViewKm NodeM NamesM WalkM WalkF WalkKm
abbrev Wrt := List Pr → Pr
def goW (s : Vs) : List Wrt → Vs × Bool
 | [] => (s,true)
 | p :: ps => if fullW s.wr (p s.shown) = true then (s,false) else goW (s.write (p s.shown)) ps
theorem goW_full {s : Vs} {p : Wrt} {ps : List Wrt} (h : fullW s.wr (p s.shown) = true) : goW s (p :: ps) = (s,false) := if_pos h
theorem goW_room {s : Vs} {p : Wrt} {ps : List Wrt} (h : fullW s.wr (p s.shown) = false) : goW s (p :: ps) = goW (s.write (p s.shown)) ps := if_neg (by rw [h]; decide)
structure Sm (s t : Vs) : Prop where
 base : s.base = t.base
 wr : s.wr = t.wr
theorem Sm.refl (s : Vs) : Sm s s := ⟨rfl,rfl⟩
theorem Sm.trans {s t u : Vs} (h : Sm s t) (k : Sm t u) : Sm s u := ⟨h.base.trans k.base,h.wr.trans k.wr⟩
theorem Sm.shown {s t : Vs} (h : Sm s t) : s.shown = t.shown := by unfold Vs.shown; rw [h.base,h.wr]
theorem Sm.write {s t : Vs} (h : Sm s t) (p : Pr) : Sm (s.write p) (t.write p) := by
 unfold Vs.write
 rw [h.wr]
 split
 ·exact h
 ·exact ⟨h.base,by show writeW s.base t.wr p = writeW t.base t.wr p; rw [h.base]⟩
theorem Sm.read {s t : Vs} (h : Sm s t) (k : ByteArray) : Sm (s.read k) t := ⟨h.base,h.wr⟩
theorem Sm.of_find {s s' : Vs} {path : ByteArray} (h : FindR s path s') : Sm s' s := ⟨h.base,h.wr⟩
theorem goW_sm : ∀ (ps : List Wrt) {s t : Vs},Sm s t → Sm (goW s ps).1 (goW t ps).1 ∧ (goW s ps).2 = (goW t ps).2
 | [],s,t,h => ⟨h,rfl⟩
 | p :: ps,s,t,h => by
   unfold goW
   rw [h.shown,h.wr]
   split
   ·exact ⟨h,rfl⟩
   ·exact goW_sm ps (h.write _)
theorem write_base (s : Vs) (p : Pr) : (s.write p).base = s.base := by
 unfold Vs.write
 split <;> rfl
theorem goW_base : ∀ (ps : List Wrt) (s : Vs),(goW s ps).1.base = s.base
 | [],s => rfl
 | p :: ps,s => by
   unfold goW
   split
   ·rfl
   ·rw [goW_base ps,write_base]
theorem goW_app : ∀ (ps qs : List Wrt) (s : Vs),goW s (ps ++ qs) = if (goW s ps).2 = true then goW (goW s ps).1 qs else goW s ps
 | [],qs,s => rfl
 | p :: ps,qs,s => by
   rw [List.cons_append]
   cases h : fullW s.wr (p s.shown) with
   | true => rw [goW_full h,goW_full h]; rfl
   | false => rw [goW_room h,goW_room h]; exact goW_app ps qs _
theorem write_room {s : Vs} {p : Pr} (h : fullW s.wr p = true) : s.write p = s := if_pos h
structure Aft (s s' : Vs) (ps : List Wrt) (k m : Nat) : Prop where
 sm : Sm s' (goW s ps).1
 rd : s'.rd.length ≤ s.rd.length + k
 rg : s'.rg.length ≤ s.rg.length + m
theorem Aft.one {s s' : Vs} {p : Wrt} {k : Nat} (h : Sm s' (s.write (p s.shown))) (h1 : s'.rd.length ≤ s.rd.length + k) (h2 : s'.rg.length ≤ s.rg.length) : Aft s s' [p] k 0 := by
 refine ⟨?_,h1,h2⟩
 cases hf : fullW s.wr (p s.shown) with
 | true => rw [goW_full hf]; rw [write_room hf] at h; exact h
 | false => rw [goW_room hf]; exact h
theorem one_ok {s : Vs} {p : Wrt} : (goW s [p]).2 = !fullW s.wr (p s.shown) := by
 cases hf : fullW s.wr (p s.shown) with
 | true => rw [goW_full hf]; rfl
 | false => rw [goW_room hf]; rfl
theorem Aft.nil {s s' : Vs} {k m : Nat} (h : Sm s' s) (h1 : s'.rd.length ≤ s.rd.length + k) (h2 : s'.rg.length ≤ s.rg.length + m) : Aft s s' [] k m := ⟨h,h1,h2⟩
theorem Aft.app {s s' s'' : Vs} {ps qs : List Wrt} {k m k' m' : Nat} (h : Aft s s' ps k m) (ho : (goW s ps).2 = true) (h' : Aft s' s'' qs k' m') : Aft s s'' (ps ++ qs) (k + k') (m + m') ∧ (goW s (ps ++ qs)).2 = (goW s' qs).2 := by
 have h1 := goW_sm qs h.sm
 refine ⟨⟨?_,by have := h.rd; have := h'.rd; omega,by have := h.rg; have := h'.rg; omega⟩,?_⟩
 ·rw [goW_app,if_pos ho]
  exact h'.sm.trans h1.1
 ·rw [goW_app,if_pos ho]
  exact h1.2.symm
theorem Aft.stop {s s' : Vs} {ps qs : List Wrt} {k m : Nat} (h : Aft s s' ps k m) (ho : (goW s ps).2 = false) : Aft s s' (ps ++ qs) k m ∧ (goW s (ps ++ qs)).2 = false := by
 have e : goW s (ps ++ qs) = goW s ps := by rw [goW_app,ho]; rfl
 refine ⟨⟨?_,h.rd,h.rg⟩,by rw [e]; exact ho⟩
 rw [e]
 exact h.sm
theorem Aft.more {s s' : Vs} {ps : List Wrt} {k m k' m' : Nat} (h : Aft s s' ps k m) (hk : k ≤ k') (hm : m ≤ m') : Aft s s' ps k' m' := ⟨h.sm,by have := h.rd; omega,by have := h.rg; omega⟩
theorem write_rd (s : Vs) (p : Pr) : (s.write p).rd = s.rd ∧ (s.write p).rg = s.rg := by
 unfold Vs.write
 split <;> exact ⟨rfl,rfl⟩
def u32 (x : Int) : Int := x % 4294967296
def saveP (ino k l z p : Int) : Wrt := fun _ => ⟨kI ino,nput k l z p,false⟩
def hangP (dir : Int) (name : ByteArray) (ino : Int) : Wrt := fun _ => ⟨kE dir name,hangV ino,false⟩
def tieP (dir more : Int) : Wrt := fun L => ⟨kI dir,nput (loadM L dir).1.k (u32 ((loadM L dir).1.l + more)) (loadM L dir).1.s (loadM L dir).1.p,false⟩
theorem load_k (L : List Pr) (ino : Int) : 0 ≤ (loadM L ino).1.k ∧ (loadM L ino).1.k ≤ 255 ∧ 0 ≤ (loadM L ino).1.l ∧ (loadM L ino).1.l ≤ 4294967295 ∧ 0 ≤ (loadM L ino).1.s ∧ (loadM L ino).1.s ≤ 4294967295 ∧ 0 ≤ (loadM L ino).1.p ∧ (loadM L ino).1.p ≤ 4294967295 := by
 unfold loadM
 split
 ·split
  ·exact ⟨by decide,by decide,by decide,by decide,by decide,by decide,by decide,by decide⟩
  ·exact ⟨by decide,by decide,by decide,by decide,by decide,by decide,by decide,by decide⟩
 ·rename_i q _
  split
  ·have a := gk_bd q.value
   have b := g_bd q.value 1
   have c := g_bd q.value 5
   have d := g_bd q.value 9
   exact ⟨a.1,a.2,b.1,b.2,c.1,c.2,d.1,d.2⟩
  ·exact ⟨by decide,by decide,by decide,by decide,by decide,by decide,by decide,by decide⟩
def makV (L : List Pr) (path : ByteArray) (kind ino : Int) : Int × List Wrt :=
 if (findM L path).2 ≠ 0 then ((findM L path).2,[]) else if (findM L path).1.ino ≠ 0 then (11,[])
 else if kind = 1 then (0,[saveP ino 1 1 0 0,hangP (findM L path).1.dir (findM L path).1.name ino])
 else (0,[saveP ino 2 2 0 (findM L path).1.dir,hangP (findM L path).1.dir (findM L path).1.name ino,tieP (findM L path).1.dir 1])
theorem aft0 (s : Vs) : Aft s s [] 0 0 ∧ (goW s []).2 = true := ⟨Aft.nil (Sm.refl s) (Nat.le_refl _) (Nat.le_refl _),rfl⟩
end Go.Proofs.YtfalhnomhidkcaaGreatDoor.DirsV
namespace Go.Proofs.YtfalhnomhidkcaaGreatDoor.ViewS
open Go.RowKit
open Byte KeysM TreeM ViewM Own Lst TreeR Ho ViewR
theorem has_yes {G : List (ByteArray × ByteArray)} {a b : ByteArray} {j : Nat} {x : ByteArray × ByteArray} (h : G[j]? = some x) (h1 : x.1 = a) (h2 : x.2 = b) : hasR a b G = true := by
 unfold hasR
 rw [List.any_eq_true]
 exact ⟨x,List.mem_of_getElem? h,by simp [h1,h2]⟩
theorem has_no {G : List (ByteArray × ByteArray)} {a b : ByteArray} (h : ∀ j x,j < G.length → G[j]? = some x → ¬ (x.1 = a ∧ x.2 = b)) : hasR a b G = false := by
 unfold hasR
 rw [List.any_eq_false]
 intro x hx
 obtain ⟨j,hj,rfl⟩ := List.mem_iff_getElem.1 hx
 have := h j _ hj (List.getElem?_eq_getElem hj)
 simpa using this
end Go.Proofs.YtfalhnomhidkcaaGreatDoor.ViewS