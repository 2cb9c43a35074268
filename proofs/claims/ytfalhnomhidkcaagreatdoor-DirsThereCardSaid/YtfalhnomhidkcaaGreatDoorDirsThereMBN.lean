import Derived.Test.YtfalhnomhidkcaaGreatDoorSq
import Derived.Test.YtfalhnomhidkcaaGreatDoorDirsRb
import Derived.Test.YtfalhnomhidkcaaGreatDoorDirsRd
import Derived.Test.YtfalhnomhidkcaaGreatDoorDirsM
import Derived.Laws.ResultCell
import Derived.Deep.Cut
import Derived.Deep.RegionLaw
import Derived.Test.YtfalhnomhidkcaaGreatDoorViewR
set_option maxHeartbeats 16000000
set_option linter.unusedVariables false
set_option linter.unusedSimpArgs false
set_option maxRecDepth 100000
namespace Go.Proofs.YtfalhnomhidkcaaGreatDoor.DirsRe
open Go.RowKit
open Byte KeysM TreeM Lst Ho Tx NamesM NamesR WalkF DirsM Chg DirsR DirsRa DirsRb DirsRc DirsRd
open Own hiding keeps
open ViewR (Sh)
theorem results_tmp_row {P : Program} {fn : Func} {u p : Tmp} {ty : TypeId} (h : fn.results = #[.tmp u,.cell p ty]) (tmps : Array Value) (w : World) (g : Nat) (t : TypeId) (cs : Array Value) (fr : Nat × Nat) (d : TypeDesc)
 (hp : tmps.getD p undef = .pointer (some ⟨g,0,none⟩)) (v : Value) (hv : tmps.getD u undef = v) (hg : w.heap[g]? = some (.cells cs t fr)) (hu : P.underlying ty = some d) (hd : (match d with | .struct _ | .array _ _ => true | _ => false) = true) (hi : (P.info? ty).map (·.size) = some cs.size) :
 (results fn tmps).run P w = .ok (.tuple #[v,.agg cs]) w := by
 subst hv
 have hp' : tmps[p]?.getD undef = .pointer (some ⟨g,0,none⟩) := by simpa using hp
 simp [results,h,hp',asAddr,run_loadVar_row w g t ty cs fr d hg hu hd hi]
def Out (T : Nat → Prop) (n r b : Nat) : Prop := T b ∧ b ≠ n ∧ b ≠ r
structure InvF (T : Nat → Prop) (w : World) (r : Nat) (u : World) (h : Sh) (F : Fs) : Prop where
 bel : Below w.heap.size w u
 fs : Blk u w.heap.size #[.slice h.a h.n h.c] 29
 res : Blk u r #[.slice none 0 0] 29
 hr : w.heap.size < r
 lies : FsA (Out T w.heap.size r) u h F
section
variable {T : Nat → Prop} {w u u' : World} {h h' : Sh} {F F' : Fs} {r : Nat}
theorem InvF.below (I : InvF T w r u h F) (hb : Below u.heap.size u u') : InvF T w r u' h F := ⟨Own.keeps I.bel hb,I.fs.below hb,I.res.below hb,I.hr,I.lies.below hb⟩
theorem InvF.lt (I : InvF T w r u h F) : w.heap.size < r ∧ r < u.heap.size := ⟨I.hr,I.res.lt⟩
theorem InvF.room (I : InvF T w r u h F) (hT : ∀ b,w.heap.size ≤ b → T b) : ∀ b,u.heap.size ≤ b → Out T w.heap.size r b := fun b hb => by
 have := I.lt
 exact ⟨hT b (by omega),by omega,by omega⟩
theorem InvF.put (I : InvF T w r u h F) (hf : FsA (Out T w.heap.size r) u h' F') (hg : u.grownBy u' (some w.heap.size)) (hk : Blk u' w.heap.size #[.slice h'.a h'.n h'.c] 29) : InvF T w r u' h' F' :=
 ⟨I.bel.grown hg I.bel.size (fun k hk => by injection hk with hk; omega),hk,I.res.grown hg (by have := I.hr; omega),I.hr,
   hf.chg (S := fun b => b = w.heap.size) (Chg.of_grown hg (fun k e => .inl (by injection e with e; exact e.symm))) (fun b hb _ => ⟨hb.2.1,hb⟩)⟩
theorem InvF.aside (I : InvF T w r u h F) {g : Nat} {cs : Array Value} (hB : Blk u g cs 29) (hg : u.grownBy u' (some g)) (h1 : w.heap.size < g) (h2 : g ≠ r) (hl : FsA (Out (But T g) w.heap.size r) u h F) : InvF T w r u' h F :=
 ⟨I.bel.grown hg I.bel.size (fun k hk => by injection hk with hk; omega),I.fs.grown hg (by omega),I.res.grown hg (fun e => h2 e.symm),I.hr,
   hl.chg (S := fun b => b = g) (Chg.of_grown hg (fun k e => .inl (by injection e with e; exact e.symm))) (fun b hb _ => ⟨hb.1.2,hb.1.1,hb.2⟩)⟩
theorem InvF.ret (I : InvF T w r u h F) (hf : FsA (Out T w.heap.size r) u h' F') (hg : u.grownBy u' (some r)) : FsA T u' h' F' ∧ Below w.heap.size w u' :=
 ⟨hf.chg (S := fun b => b = r) (Chg.of_grown hg (fun k e => .inl (by injection e with e; exact e.symm))) (fun b hb _ => ⟨hb.2.2,hb.1⟩),I.bel.grown hg I.bel.size (fun k hk => by injection hk with hk; have := I.hr; omega)⟩
theorem InvF.ret' (I : InvF T w r u h F) (hf : FsA (Out T w.heap.size r) u h' F') (x : Value) : FsA T (u.setCell ⟨r,0,none⟩ x) h' F' ∧ Below w.heap.size w (u.setCell ⟨r,0,none⟩ x) ∧ Blk (u.setCell ⟨r,0,none⟩ x) r #[x] 29 :=
 ⟨hf.chg (S := fun b => b = r) ((Chg.refl (fun b => b = r) u).setCell (p := ⟨r,0,none⟩) (.inl rfl) x) (fun b hb _ => ⟨hb.2.2,hb.1⟩),I.bel.setCell (p := ⟨r,0,none⟩) (by show w.heap.size ≤ r; have := I.hr; omega) x,I.res.set_ 0 x⟩
theorem InvF.start (hf : FsA T w h F) : InvF T w (w.heap.size + 1) ((w.alloc (.cells #[.slice h.a h.n h.c] 29)).alloc (.cells #[.slice none 0 0] 29)) h F := by
 have hb : Below w.heap.size w ((w.alloc (.cells #[.slice h.a h.n h.c] 29)).alloc (.cells #[.slice none 0 0] 29)) := (bW_).alloc (by simp) _
 refine ⟨hb,(Blk.new_ w _ _).alloc _,?_,Nat.lt_succ_self _,?_⟩
 ·have := Blk.new_ (w.alloc (.cells #[.slice h.a h.n h.c] 29)) #[.slice none 0 0] 29
  simpa using this
 ·exact (hf.chg (S := fun _ => False) (Chg.refl _ w) (fun b hb hlt => ⟨fun h => h,hb,by omega,by omega⟩)).below hb
theorem InvF.start2 (hf : FsA T w h F) (cs : Array Value) (U : TypeId) : InvF T w (w.heap.size + 2) (((w.alloc (.cells #[.slice h.a h.n h.c] 29)).alloc (.cells cs U)).alloc (.cells #[.slice none 0 0] 29)) h F ∧ Blk (((w.alloc (.cells #[.slice h.a h.n h.c] 29)).alloc (.cells cs U)).alloc (.cells #[.slice none 0 0] 29)) (w.heap.size + 1) cs U := by
 have hb : Below w.heap.size w (((w.alloc (.cells #[.slice h.a h.n h.c] 29)).alloc (.cells cs U)).alloc (.cells #[.slice none 0 0] 29)) := ((bW_).alloc (by simp) _).alloc (by simp; omega) _
 refine ⟨⟨hb,((Blk.new_ w _ _).alloc _).alloc _,?_,by omega,?_⟩,?_⟩
 ·have := Blk.new_ ((w.alloc (.cells #[.slice h.a h.n h.c] 29)).alloc (.cells cs U)) #[.slice none 0 0] 29
  simpa using this
 ·exact (hf.chg (S := fun _ => False) (Chg.refl _ w) (fun b hb hlt => ⟨fun h => h,hb,by omega,by omega⟩)).below hb
 ·have := (Blk.new_ (w.alloc (.cells #[.slice h.a h.n h.c] 29)) cs U).alloc (.cells #[.slice none 0 0] 29)
  simpa using this
end
theorem field_1 (a b c d e : Value) (w : World) : (Instr.field 85 (.agg #[a,b,c,d,e]) 1).run Tryz.prog w = .ok b w := by kernel_rfl
theorem field_2 (a b c d e : Value) (w : World) : (Instr.field 85 (.agg #[a,b,c,d,e]) 2).run Tryz.prog w = .ok c w := by kernel_rfl
theorem ent_nil {T : Nat → Prop} {u : World} : EntA T u ⟨none,0,0⟩ [] := ⟨Sl.nil_ _ _ _,fun b o e => by cases e⟩
def AnsE (T : Nat → Prop) (r : Int × Fs) (w : World) (e : Ending) (w' : World) : Prop := ∃ h : Sh,e = .returned (.tuple #[.int .i64 r.1,.agg #[.slice h.a h.n h.c]]) ∧ FsA T w' h r.2 ∧ Below w.heap.size w w'
theorem AnsE.of {T : Nat → Prop} {r : Int × Fs} {w w' : World} {x : Int} {h : Sh} {F : Fs} (hr : r = (x,F)) (hf : FsA T w' h F ∧ Below w.heap.size w w') : AnsE T r w (.returned (.tuple #[.int .i64 x,.agg #[.slice h.a h.n h.c]])) w' := by
 subst hr
 exact ⟨h,rfl,hf.1,hf.2⟩
structure MakeOk (F : Fs) (d : Int) (kind ino : Int) : Prop where
 f1 : SmF (withM F (newNd kind ino))
 n1 : ∃ n,nodeM (withM F (newNd kind ino)) d = some n
 f2 : SmF (if kind = 1 then withM F (newNd kind ino) else linkedM (withM F (newNd kind ino)) d 1)
 n2 : ∃ n,nodeM (if kind = 1 then withM F (newNd kind ino) else linkedM (withM F (newNd kind ino)) d 1) d = some n
theorem make_calls {T : Nat → Prop} (h : Sh) (F : Fs) (path : ByteArray) (kind ino : Int) (w : World) (hf : FsA T w h F) (hs : SmF F) (hcl : Cl F) (hp : path.size ≤ maxLen) (hok : (fndM F path).2 = 0 → (fndM F path).1.ino = 0 → MakeOk F (fndM F path).1.dir kind ino) (hT : ∀ b,w.heap.size ≤ b → T b) :
 Calls Tryz.prog 44 #[.agg #[.slice h.a h.n h.c],.string path,.int .u8 kind,.int .u32 ino] w (AnsE T (makeM F path kind ino) w) := by
 obtain ⟨W,hW⟩ : ∃ W,(w.alloc (.cells #[.slice h.a h.n h.c] 29)).alloc (.cells #[.slice none 0 0] 29) = W := ⟨_,rfl⟩
 have I0 := hQ_ (InvF.start hf)
 rw [hW] at I0
 have HW := hQ_ hW
 have W_0 := cZ0 I0.out.fs
 have HFI := hQ_ (fun u (hl : FsA (Out T w.heap.size (w.heap.size + 1)) u h F) => find_calls h F path u hl hs hcl hp)
 unfold FndE at HFI
 have HM : Hid (makeM F path kind ino = if (fndM F path).2 ≠ 0 then ((fndM F path).2,F) else if (fndM F path).1.ino ≠ 0 then (11,F) else (0,makeAt F (fndM F path).1 kind ino)) := hQ_ rfl
 have HOK := hQ_ hok
 have HT := hQ_ hT
 have HSL := hQ_ hs.len
 obtain ⟨⟨⟨sd,sn,si⟩,er⟩,hR⟩ : ∃ R,fndM F path = R := ⟨_,rfl⟩
 rw [hR] at HFI HM HOK
 dsimp only [spotA] at HFI HM HOK
 rw [HM.out]
 clear hf hs hcl hp hT hok hW hR HM
 by_cases he : er = 0
 ·subst he
  rw [if_neg (fun h => h rfl)]
  by_cases hi : si = 0
  ·subst hi
   rw [if_neg (fun h => h rfl)]
   have OK := hQ_ (HOK.out rfl rfl)
   clear HOK
   by_cases hk : kind = 1
   ·subst hk
    have HN : newNd 1 ino = (⟨ino,1,1,NE,[]⟩ : Nd) := rfl
    have e1 : (if (1 : Int) = 1 then withM F (newNd 1 ino) else linkedM (withM F (newNd 1 ino)) sd 1) = withM F ⟨ino,1,1,NE,[]⟩ := rfl
    have HMA : Hid (makeAt F ⟨sd,sn,0⟩ 1 ino = namedM (withM F ⟨ino,1,1,NE,[]⟩) sd sn ino) := hQ_ rfl
    obtain ⟨of1,⟨m1,on1⟩,of2,⟨m2,on2⟩⟩ := OK.out
    rw [HN] at of1 on1
    rw [e1] at of2 on2
    rw [HMA.out]
    have OF1 := hQ_ of1
    have ON1 := hQ_ on1
    have OF2 := hQ_ of2
    have ON2 := hQ_ on2
    clear of1 on1 of2 on2 HN e1 HMA OK
    go_enter Tryz.func44,Tryz.ntmps44
    go_wp2_with fail
    rw [HW.out]
    go_wp2_with fail
    refine (HFI.out W I0.out.lies).mono ?_
    rintro e v1 ⟨rfl,hb1⟩
    have hbU1 := nW_ hb1 (.cells #[.int .u32 sd,.string sn,.int .u32 0] 156)
    have I1 := hQ_ (I0.out.below hbU1)
    have A1 := hQ_ (Blk.new_ v1 #[.int .u32 sd,.string sn,.int .u32 0] 156)
    have LA : Hid (w.heap.size + 1 ≤ v1.heap.size) := hQ_ (by have := I0.out.lt; have := hb1.size; omega)
    have f1_0 := cZ0 I1.out.fs
    have f1_A0 := cC3 A1.out
    clear hbU1 W_0 hb1
    go_wp2_with fail
    refine (with_calls h F ⟨ino,1,1,NE,[]⟩ ⟨none,0,0⟩ (v1.alloc (.cells #[.int .u32 sd,.string sn,.int .u32 0] 156)) I1.out.lies ent_nil HSL.out (I1.out.room HT.out)).mono ?_
    rintro e u2 ⟨h2,rfl,hf2,hb2⟩
    have I2 := hQ_ (I1.out.below hb2)
    have A2 := hQ_ (A1.out.below hb2)
    have f2_0 := cZ0 I2.out.fs
    obtain ⟨f2_A0,f2_A1,f2_A2⟩ := cC3 A2.out
    have L2 := hQ_ hf2
    clear hf2 hb2 f1_0 f1_A0
    go_wp2_with (first | ((with_reducible refine pick none ?_); refine store_blk rfl 29 _ _ rfl w.heap.size #[.slice h2.a h2.n h2.c] rfl rfl 29 _ I2.out.fs info_fs rfl (by simp [Value.oneCell']) ?_; intro u3 hk3 hg3; have I3 := hQ_ (I2.out.put L2.out hg3 hk3); have A3 := hQ_ (A2.out.grown hg3 (by have := LA.out; omega)); have f3_0 : u3.cell? ⟨w.heap.size,0,none⟩ = some (.slice h2.a h2.n h2.c) := I3.out.fs.cell 0; have f3_A0 : u3.cell? ⟨v1.heap.size,0,none⟩ = some (.int .u32 sd) := A3.out.cell 0; have f3_A1 : u3.cell? ⟨v1.heap.size,1,none⟩ = some (.string sn) := A3.out.cell 1; have f3_A2 : u3.cell? ⟨v1.heap.size,2,none⟩ = some (.int .u32 0) := A3.out.cell 2; clear hk3 hg3 f2_0 f2_A0 f2_A1 f2_A2))
    refine (named_calls h2 (withM F ⟨ino,1,1,NE,[]⟩) sd sn ino m2 u3 I3.out.lies ON2.out OF2.out (I3.out.room HT.out)).mono ?_
    rintro e u4 ⟨h4,rfl,hf4,hb4⟩
    have I4 := hQ_ (I3.out.below hb4)
    have A4 := hQ_ (A3.out.below hb4)
    have f4_0 := cZ0 I4.out.fs
    have f4_A0 := cC3 A4.out
    have L4 := hQ_ hf4
    clear hf4 hb4 f3_0 f3_A0 f3_A1 f3_A2
    go_wp2_with ((with_reducible refine pick none ?_); refine store_blk rfl 29 _ _ rfl (w.heap.size + 1) #[.slice h4.a h4.n h4.c] rfl rfl 29 _ I4.out.res info_fs rfl (by simp [Value.oneCell']) ?_; intro z5 hk5 hg5)
    exact bodyPost_ret (v := .tuple #[.int .i64 (0),.agg #[.slice h4.a h4.n h4.c]]) (results_tmp_row rfl _ _ (w.heap.size + 1) 29 _ (0,0) _ rfl _ rfl hk5 Tryz.underlying29 rfl info_fs) rfl (AnsE.of rfl (I4.out.ret L4.out hg5))
   ·have d3 : (kind == 1) = false := by simpa using hk
    have HN : newNd kind ino = (⟨ino,2,2,NE,[]⟩ : Nd) := if_neg hk
    have e1 : (if kind = 1 then withM F (newNd kind ino) else linkedM (withM F (newNd kind ino)) sd 1) = linkedM (withM F ⟨ino,2,2,NE,[]⟩) sd 1 := by rw [if_neg hk,HN]
    have HMA : Hid (makeAt F ⟨sd,sn,0⟩ kind ino = namedM (linkedM (withM F ⟨ino,2,2,NE,[]⟩) sd 1) sd sn ino) := hQ_ (by unfold makeAt; rw [if_neg hk])
    obtain ⟨of1,⟨m1,on1⟩,of2,⟨m2,on2⟩⟩ := OK.out
    rw [HN] at of1 on1
    rw [e1] at of2 on2
    rw [HMA.out]
    have OF1 := hQ_ of1
    have ON1 := hQ_ on1
    have OF2 := hQ_ of2
    have ON2 := hQ_ on2
    clear of1 on1 of2 on2 HN e1 HMA OK hk
    go_enter Tryz.func44,Tryz.ntmps44
    go_wp2_with fail
    rw [HW.out]
    go_wp2_with fail
    refine (HFI.out W I0.out.lies).mono ?_
    rintro e v6 ⟨rfl,hb6⟩
    have hbU6 := nW_ hb6 (.cells #[.int .u32 sd,.string sn,.int .u32 0] 156)
    have I6 := hQ_ (I0.out.below hbU6)
    have A6 := hQ_ (Blk.new_ v6 #[.int .u32 sd,.string sn,.int .u32 0] 156)
    have LA : Hid (w.heap.size + 1 ≤ v6.heap.size) := hQ_ (by have := I0.out.lt; have := hb6.size; omega)
    have f6_0 := cZ0 I6.out.fs
    have f6_A0 := cC3 A6.out
    clear hbU6 W_0 hb6
    go_wp2_with fail
    refine (with_calls h F ⟨ino,2,2,NE,[]⟩ ⟨none,0,0⟩ (v6.alloc (.cells #[.int .u32 sd,.string sn,.int .u32 0] 156)) I6.out.lies ent_nil HSL.out (I6.out.room HT.out)).mono ?_
    rintro e u7 ⟨h7,rfl,hf7,hb7⟩
    have I7 := hQ_ (I6.out.below hb7)
    have A7 := hQ_ (A6.out.below hb7)
    have f7_0 := cZ0 I7.out.fs
    obtain ⟨f7_A0,f7_A1,f7_A2⟩ := cC3 A7.out
    have L7 := hQ_ hf7
    clear hf7 hb7 f6_0 f6_A0
    go_wp2_with (first | ((with_reducible refine pick none ?_); refine store_blk rfl 29 _ _ rfl w.heap.size #[.slice h7.a h7.n h7.c] rfl rfl 29 _ I7.out.fs info_fs rfl (by simp [Value.oneCell']) ?_; intro u8 hk8 hg8; have I8 := hQ_ (I7.out.put L7.out hg8 hk8); have A8 := hQ_ (A7.out.grown hg8 (by have := LA.out; omega)); have f8_0 : u8.cell? ⟨w.heap.size,0,none⟩ = some (.slice h7.a h7.n h7.c) := I8.out.fs.cell 0; have f8_A0 : u8.cell? ⟨v6.heap.size,0,none⟩ = some (.int .u32 sd) := A8.out.cell 0; have f8_A1 : u8.cell? ⟨v6.heap.size,1,none⟩ = some (.string sn) := A8.out.cell 1; have f8_A2 : u8.cell? ⟨v6.heap.size,2,none⟩ = some (.int .u32 0) := A8.out.cell 2; clear hk8 hg8 f7_0 f7_A0 f7_A1 f7_A2))
    refine (linked_calls h7 (withM F ⟨ino,2,2,NE,[]⟩) sd 1 m1 u8 I8.out.lies ON1.out OF1.out (by omega) (by omega) (I8.out.room HT.out)).mono ?_
    rintro e u9 ⟨h9,rfl,hf9,hb9⟩
    have I9 := hQ_ (I8.out.below hb9)
    have A9 := hQ_ (A8.out.below hb9)
    have f9_0 := cZ0 I9.out.fs
    obtain ⟨f9_A0,f9_A1,f9_A2⟩ := cC3 A9.out
    have L9 := hQ_ hf9
    clear hf9 hb9 f8_0 f8_A0 f8_A1 f8_A2
    go_wp2_with (first | ((with_reducible refine pick none ?_); refine store_blk rfl 29 _ _ rfl w.heap.size #[.slice h9.a h9.n h9.c] rfl rfl 29 _ I9.out.fs info_fs rfl (by simp [Value.oneCell']) ?_; intro u10 hk10 hg10; have I10 := hQ_ (I9.out.put L9.out hg10 hk10); have A10 := hQ_ (A9.out.grown hg10 (by have := LA.out; omega)); have f10_0 : u10.cell? ⟨w.heap.size,0,none⟩ = some (.slice h9.a h9.n h9.c) := I10.out.fs.cell 0; have f10_A0 : u10.cell? ⟨v6.heap.size,0,none⟩ = some (.int .u32 sd) := A10.out.cell 0; have f10_A1 : u10.cell? ⟨v6.heap.size,1,none⟩ = some (.string sn) := A10.out.cell 1; have f10_A2 : u10.cell? ⟨v6.heap.size,2,none⟩ = some (.int .u32 0) := A10.out.cell 2; clear hk10 hg10 f9_0 f9_A0 f9_A1 f9_A2))
    refine (named_calls h9 (linkedM (withM F ⟨ino,2,2,NE,[]⟩) sd 1) sd sn ino m2 u10 I10.out.lies ON2.out OF2.out (I10.out.room HT.out)).mono ?_
    rintro e u11 ⟨h11,rfl,hf11,hb11⟩
    have I11 := hQ_ (I10.out.below hb11)
    have A11 := hQ_ (A10.out.below hb11)
    have f11_0 := cZ0 I11.out.fs
    have f11_A0 := cC3 A11.out
    have L11 := hQ_ hf11
    clear hf11 hb11 f10_0 f10_A0 f10_A1 f10_A2
    go_wp2_with ((with_reducible refine pick none ?_); refine store_blk rfl 29 _ _ rfl (w.heap.size + 1) #[.slice h11.a h11.n h11.c] rfl rfl 29 _ I11.out.res info_fs rfl (by simp [Value.oneCell']) ?_; intro z12 hk12 hg12)
    exact bodyPost_ret (v := .tuple #[.int .i64 (0),.agg #[.slice h11.a h11.n h11.c]]) (results_tmp_row rfl _ _ (w.heap.size + 1) 29 _ (0,0) _ rfl _ rfl hk12 Tryz.underlying29 rfl info_fs) rfl (AnsE.of rfl (I11.out.ret L11.out hg12))
  ·rw [if_pos hi]
   have d2 : (si != 0) = true := by simpa using hi
   clear hi
   go_enter Tryz.func44,Tryz.ntmps44
   go_wp2_with fail
   rw [HW.out]
   go_wp2_with fail
   refine (HFI.out W I0.out.lies).mono ?_
   rintro e v13 ⟨rfl,hb13⟩
   have hbU13 := nW_ hb13 (.cells #[.int .u32 sd,.string sn,.int .u32 si] 156)
   have I13 := hQ_ (I0.out.below hbU13)
   have A13 := hQ_ (Blk.new_ v13 #[.int .u32 sd,.string sn,.int .u32 si] 156)
   have LA : Hid (w.heap.size + 1 ≤ v13.heap.size) := hQ_ (by have := I0.out.lt; have := hb13.size; omega)
   have f13_0 := cZ0 I13.out.fs
   have f13_A0 := cC3 A13.out
   clear hbU13 W_0 hb13
   go_wp2_with fail
   have r1 := cZ0 I13.out.res
   have r2 : (v13.alloc (.cells #[.int .u32 sd,.string sn,.int .u32 si] 156)).frozen? ⟨(w.heap.size + 1),0,none⟩ = false := I13.out.res.frozen 0
   go_region_law (fail)
   all_goals
    obtain ⟨f1,f2,f3⟩ := I13.out.ret' I13.out.lies (.slice h.a h.n h.c)
    have HF1 := hQ_ (And.intro f1 f2)
    have HF3 := hQ_ f3
    clear f1 f2 f3
    go_wp2_with fail
    first
     | exact bodyPost_ret (v := .tuple #[.int .i64 (11),.agg #[.slice h.a h.n h.c]]) (results_tmp_row rfl _ _ (w.heap.size + 1) 29 _ (0,0) _ rfl _ rfl HF3.out Tryz.underlying29 rfl info_fs) rfl (AnsE.of rfl HF1.out)
     | exact bodyPost_ret (v := .tuple #[.int .i64 (11),.agg #[.slice h.a h.n h.c]]) (results_tmp_row rfl _ _ (w.heap.size + 1) 29 _ (0,0) _ rfl _ rfl HF3.out.drew Tryz.underlying29 rfl info_fs) rfl (AnsE.of rfl ⟨HF1.out.1.below ((Below.refl _ _).drew),HF1.out.2.drew⟩)
 ·have d1 : (er != 0) = true := by simpa using he
  rw [if_pos he]
  clear he
  go_enter Tryz.func44,Tryz.ntmps44
  go_wp2_with fail
  rw [HW.out]
  go_wp2_with fail
  refine (HFI.out W I0.out.lies).mono ?_
  rintro e v14 ⟨rfl,hb14⟩
  have hbU14 := nW_ hb14 (.cells #[.int .u32 sd,.string sn,.int .u32 si] 156)
  have I14 := hQ_ (I0.out.below hbU14)
  have A14 := hQ_ (Blk.new_ v14 #[.int .u32 sd,.string sn,.int .u32 si] 156)
  have LA : Hid (w.heap.size + 1 ≤ v14.heap.size) := hQ_ (by have := I0.out.lt; have := hb14.size; omega)
  have f14_0 := cZ0 I14.out.fs
  have f14_A0 := cC3 A14.out
  clear hbU14 W_0 hb14
  go_wp2_with fail
  have r1 := cZ0 I14.out.res
  have r2 : (v14.alloc (.cells #[.int .u32 sd,.string sn,.int .u32 si] 156)).frozen? ⟨(w.heap.size + 1),0,none⟩ = false := I14.out.res.frozen 0
  go_region_law (fail)
  all_goals
   obtain ⟨f1,f2,f3⟩ := I14.out.ret' I14.out.lies (.slice h.a h.n h.c)
   have HF1 := hQ_ (And.intro f1 f2)
   have HF3 := hQ_ f3
   clear f1 f2 f3
   go_wp2_with fail
   first
    | exact bodyPost_ret (v := .tuple #[.int .i64 (er),.agg #[.slice h.a h.n h.c]]) (results_tmp_row rfl _ _ (w.heap.size + 1) 29 _ (0,0) _ rfl _ rfl HF3.out Tryz.underlying29 rfl info_fs) rfl (AnsE.of rfl HF1.out)
    | exact bodyPost_ret (v := .tuple #[.int .i64 (er),.agg #[.slice h.a h.n h.c]]) (results_tmp_row rfl _ _ (w.heap.size + 1) 29 _ (0,0) _ rfl _ rfl HF3.out.drew Tryz.underlying29 rfl info_fs) rfl (AnsE.of rfl ⟨HF1.out.1.below ((Below.refl _ _).drew),HF1.out.2.drew⟩)
end Go.Proofs.YtfalhnomhidkcaaGreatDoor.DirsRe
namespace Go.Proofs.YtfalhnomhidkcaaGreatDoor.DirsRf
open Go.RowKit
open Byte KeysM TreeM Lst Ho Tx NamesM NamesR WalkF DirsM Chg DirsR DirsRa DirsRb DirsRc DirsRd DirsRe
open Own hiding keeps
open ViewR (Sh)
structure RemOk (F : Fs) (s : Spt) : Prop where
 f1 : SmF (withoutM F s.ino)
 n1 : ∃ n,nodeM (withoutM F s.ino) s.dir = some n
 f2 : SmF (linkedM (withoutM F s.ino) s.dir (-1))
 n2 : ∃ n,nodeM (linkedM (withoutM F s.ino) s.dir (-1)) s.dir = some n
theorem remove_calls {T : Nat → Prop} (h : Sh) (F : Fs) (s : Spt) (nd0 : Nd) (w : World) (hf : FsA T w h F) (hs : SmF F) (hn : nodeM F s.ino = some nd0) (hok : nd0.kind = 2 → nd0.ents.length = 0 → RemOk F s) (hT : ∀ b,w.heap.size ≤ b → T b) :
 Calls Tryz.prog 98 #[.agg #[.slice h.a h.n h.c],spotA s] w (AnsE T (removeAt F s) w) := by
 obtain ⟨W,hW⟩ : ∃ W,((w.alloc (.cells #[.slice h.a h.n h.c] 29)).alloc (.cells #[.int .u32 s.dir,.string s.name,.int .u32 s.ino] 156)).alloc (.cells #[.slice none 0 0] 29) = W := ⟨_,rfl⟩
 obtain ⟨i0,a0⟩ := InvF.start2 hf #[.int .u32 s.dir,.string s.name,.int .u32 s.ino] 156
 rw [hW] at i0 a0
 have I0 := hQ_ i0
 have A0 := hQ_ a0
 have HW := hQ_ hW
 have LA : Hid (w.heap.size + 1 ≤ w.heap.size + 1) := hQ_ (Nat.le_refl _)
 have W_0 := cZ0 I0.out.fs
 obtain ⟨W_1,W_2,W_3⟩ := cC3 A0.out
 have HNO := hQ_ (fun u (hl : FsA (Out T w.heap.size (w.heap.size + 2)) u h F) => node_calls (T := Out T w.heap.size (w.heap.size + 2)) h F s nd0 u hl hn hs.len)
 unfold NodeE at HNO
 have HM : Hid (removeAt F s = if nd0.kind ≠ 2 then (12,F) else if nd0.ents.length ≠ 0 then (14,F) else (0,namedM (linkedM (withoutM F s.ino) s.dir (-1)) s.dir s.name 0)) := hQ_ (by unfold removeAt; rw [hn])
 have HOK := hQ_ hok
 have HT := hQ_ hT
 have HSL := hQ_ hs.len
 have hel := (hs.all nd0 (node_mem hn).1).e
 obtain ⟨ni,nk,nl,nd,ne⟩ := nd0
 obtain ⟨sd,sn,si⟩ := s
 dsimp only [spotA] at HNO HM HOK A0 W_1 W_2 W_3 hel HW
 unfold spotA
 dsimp only
 rw [HM.out]
 clear hf hs hT hok hW HM i0 a0 hn
 by_cases hk : nk = 2
 ·rw [if_neg (fun h => h hk)]
  have d1 : (nk != 2) = false := by simpa using hk
  by_cases hl : ne.length = 0
  ·rw [if_neg (fun h => h hl)]
   obtain ⟨of1,⟨m1,on1⟩,of2,⟨m2,on2⟩⟩ := HOK.out hk hl
   dsimp only at of1 on1 of2 on2
   have OF1 := hQ_ of1
   have ON1 := hQ_ on1
   have OF2 := hQ_ of2
   have ON2 := hQ_ on2
   clear of1 on1 of2 on2 HOK hk
   go_enter Tryz.func98,Tryz.ntmps98
   go_wp2_with fail
   rw [HW.out]
   go_wp2_with fail
   refine (HNO.out W I0.out.lies).mono ?_
   rintro e v1 ⟨h1,rfl,hf1,hb1⟩
   have hz1 := hf1.len
   dsimp only [nodeV] at hz1 ⊢
   have hbU1 := nW_ hb1 (.cells #[.int .u32 ni,.int .u8 nk,.int .i64 nl,.string nd,.slice h1.a h1.n h1.c] 85)
   have I1 := hQ_ (I0.out.below hbU1)
   have A1 := hQ_ (A0.out.below hbU1)
   have f1_0 := cZ0 I1.out.fs
   have f1_A0 := cC3 A1.out
   have N1 := hQ_ (Blk.new_ v1 #[.int .u32 ni,.int .u8 nk,.int .i64 nl,.string nd,.slice h1.a h1.n h1.c] 85)
   have g1_1 := cZ1 N1.out
   have g1_2 := cZ2 N1.out
   have g1_4 := cZ4 N1.out
   clear hbU1 W_0 W_1 W_2 W_3 hb1 hf1
   have hz0 : h1.n = 0 := by omega
   have q1 : decide ((0 : Int) < (h1.n : Int)) = false := by simp; omega
   have q2 : decide (0 < h1.n) = false := by simp; omega
   clear hl hz0 hz1
   go_wp2_with fail
   refine (without_calls h F si (v1.alloc (.cells #[.int .u32 ni,.int .u8 nk,.int .i64 nl,.string nd,.slice h1.a h1.n h1.c] 85)) I1.out.lies HSL.out (I1.out.room HT.out)).mono ?_
   rintro e u2 ⟨h2,rfl,hf2,hb2⟩
   have I2 := hQ_ (I1.out.below hb2)
   have A2 := hQ_ (A1.out.below hb2)
   have f2_0 := cZ0 I2.out.fs
   obtain ⟨f2_A0,f2_A1,f2_A2⟩ := cC3 A2.out
   have L2 := hQ_ hf2
   clear hf2 hb2 f1_0 f1_A0
   go_wp2_with (first | ((with_reducible refine pick none ?_); refine store_blk rfl 29 _ _ rfl w.heap.size #[.slice h2.a h2.n h2.c] rfl rfl 29 _ I2.out.fs info_fs rfl (by simp [Value.oneCell']) ?_; intro u3 hk3 hg3; have I3 := hQ_ (I2.out.put L2.out hg3 hk3); have A3 := hQ_ (A2.out.grown hg3 (by have := LA.out; omega)); have f3_0 : u3.cell? ⟨w.heap.size,0,none⟩ = some (.slice h2.a h2.n h2.c) := I3.out.fs.cell 0; have f3_A0 : u3.cell? ⟨(w.heap.size + 1),0,none⟩ = some (.int .u32 sd) := A3.out.cell 0; have f3_A1 : u3.cell? ⟨(w.heap.size + 1),1,none⟩ = some (.string sn) := A3.out.cell 1; have f3_A2 : u3.cell? ⟨(w.heap.size + 1),2,none⟩ = some (.int .u32 si) := A3.out.cell 2; clear hk3 hg3 f2_0 f2_A0 f2_A1 f2_A2))
   refine (linked_calls h2 (withoutM F si) sd (-1) m1 u3 I3.out.lies ON1.out OF1.out (by omega) (by omega) (I3.out.room HT.out)).mono ?_
   rintro e u4 ⟨h4,rfl,hf4,hb4⟩
   have I4 := hQ_ (I3.out.below hb4)
   have A4 := hQ_ (A3.out.below hb4)
   have f4_0 := cZ0 I4.out.fs
   obtain ⟨f4_A0,f4_A1,f4_A2⟩ := cC3 A4.out
   have L4 := hQ_ hf4
   clear hf4 hb4 f3_0 f3_A0 f3_A1 f3_A2
   go_wp2_with (first | ((with_reducible refine pick none ?_); refine store_blk rfl 29 _ _ rfl w.heap.size #[.slice h4.a h4.n h4.c] rfl rfl 29 _ I4.out.fs info_fs rfl (by simp [Value.oneCell']) ?_; intro u5 hk5 hg5; have I5 := hQ_ (I4.out.put L4.out hg5 hk5); have A5 := hQ_ (A4.out.grown hg5 (by have := LA.out; omega)); have f5_0 : u5.cell? ⟨w.heap.size,0,none⟩ = some (.slice h4.a h4.n h4.c) := I5.out.fs.cell 0; have f5_A0 : u5.cell? ⟨(w.heap.size + 1),0,none⟩ = some (.int .u32 sd) := A5.out.cell 0; have f5_A1 : u5.cell? ⟨(w.heap.size + 1),1,none⟩ = some (.string sn) := A5.out.cell 1; have f5_A2 : u5.cell? ⟨(w.heap.size + 1),2,none⟩ = some (.int .u32 si) := A5.out.cell 2; clear hk5 hg5 f4_0 f4_A0 f4_A1 f4_A2))
   refine (named_calls h4 (linkedM (withoutM F si) sd (-1)) sd sn 0 m2 u5 I5.out.lies ON2.out OF2.out (I5.out.room HT.out)).mono ?_
   rintro e u6 ⟨h6,rfl,hf6,hb6⟩
   have I6 := hQ_ (I5.out.below hb6)
   have A6 := hQ_ (A5.out.below hb6)
   have f6_0 := cZ0 I6.out.fs
   have f6_A0 := cC3 A6.out
   have L6 := hQ_ hf6
   clear hf6 hb6 f5_0 f5_A0 f5_A1 f5_A2
   go_wp2_with ((with_reducible refine pick none ?_); refine store_blk rfl 29 _ _ rfl (w.heap.size + 2) #[.slice h6.a h6.n h6.c] rfl rfl 29 _ I6.out.res info_fs rfl (by simp [Value.oneCell']) ?_; intro z7 hk7 hg7)
   exact bodyPost_ret (v := .tuple #[.int .i64 (0),.agg #[.slice h6.a h6.n h6.c]]) (results_tmp_row rfl _ _ (w.heap.size + 2) 29 _ (0,0) _ rfl _ rfl hk7 Tryz.underlying29 rfl info_fs) rfl (AnsE.of rfl (I6.out.ret L6.out hg7))
  ·rw [if_pos hl]
   clear HOK hk
   go_enter Tryz.func98,Tryz.ntmps98
   go_wp2_with fail
   rw [HW.out]
   go_wp2_with fail
   refine (HNO.out W I0.out.lies).mono ?_
   rintro e v8 ⟨h8,rfl,hf8,hb8⟩
   have hz8 := hf8.len
   dsimp only [nodeV] at hz8 ⊢
   have hbU8 := nW_ hb8 (.cells #[.int .u32 ni,.int .u8 nk,.int .i64 nl,.string nd,.slice h8.a h8.n h8.c] 85)
   have I8 := hQ_ (I0.out.below hbU8)
   have A8 := hQ_ (A0.out.below hbU8)
   have f8_0 := cZ0 I8.out.fs
   have f8_A0 := cC3 A8.out
   have N8 := hQ_ (Blk.new_ v8 #[.int .u32 ni,.int .u8 nk,.int .i64 nl,.string nd,.slice h8.a h8.n h8.c] 85)
   have g8_1 := cZ1 N8.out
   have g8_2 := cZ2 N8.out
   have g8_4 := cZ4 N8.out
   clear hbU8 W_0 W_1 W_2 W_3 hb8 hf8
   have q1 : decide ((0 : Int) < (h8.n : Int)) = true := by simp; omega
   have q2 : decide (0 < h8.n) = true := by simp; omega
   clear hl hz8
   go_wp2_with fail
   have r1 := cZ0 I8.out.res
   have r2 : (v8.alloc (.cells #[.int .u32 ni,.int .u8 nk,.int .i64 nl,.string nd,.slice h8.a h8.n h8.c] 85)).frozen? ⟨(w.heap.size + 2),0,none⟩ = false := I8.out.res.frozen 0
   go_region_law (fail)
   all_goals
    obtain ⟨f1,f2,f3⟩ := I8.out.ret' I8.out.lies (.slice h.a h.n h.c)
    have HF1 := hQ_ (And.intro f1 f2)
    have HF3 := hQ_ f3
    clear f1 f2 f3
    go_wp2_with fail
    first
     | exact bodyPost_ret (v := .tuple #[.int .i64 (14),.agg #[.slice h.a h.n h.c]]) (results_tmp_row rfl _ _ (w.heap.size + 2) 29 _ (0,0) _ rfl _ rfl HF3.out Tryz.underlying29 rfl info_fs) rfl (AnsE.of rfl HF1.out)
     | exact bodyPost_ret (v := .tuple #[.int .i64 (14),.agg #[.slice h.a h.n h.c]]) (results_tmp_row rfl _ _ (w.heap.size + 2) 29 _ (0,0) _ rfl _ rfl HF3.out.drew Tryz.underlying29 rfl info_fs) rfl (AnsE.of rfl ⟨HF1.out.1.below ((Below.refl _ _).drew),HF1.out.2.drew⟩)
 ·rw [if_pos hk]
  have d1 : (nk != 2) = true := by simpa using hk
  clear HOK hk
  go_enter Tryz.func98,Tryz.ntmps98
  go_wp2_with fail
  rw [HW.out]
  go_wp2_with fail
  refine (HNO.out W I0.out.lies).mono ?_
  rintro e v9 ⟨h9,rfl,hf9,hb9⟩
  have hz9 := hf9.len
  dsimp only [nodeV] at hz9 ⊢
  have hbU9 := nW_ hb9 (.cells #[.int .u32 ni,.int .u8 nk,.int .i64 nl,.string nd,.slice h9.a h9.n h9.c] 85)
  have I9 := hQ_ (I0.out.below hbU9)
  have A9 := hQ_ (A0.out.below hbU9)
  have f9_0 := cZ0 I9.out.fs
  have f9_A0 := cC3 A9.out
  have N9 := hQ_ (Blk.new_ v9 #[.int .u32 ni,.int .u8 nk,.int .i64 nl,.string nd,.slice h9.a h9.n h9.c] 85)
  have g9_1 := cZ1 N9.out
  have g9_2 := cZ2 N9.out
  have g9_4 := cZ4 N9.out
  clear hbU9 W_0 W_1 W_2 W_3 hb9 hf9
  clear hz9
  go_wp2_with fail
  have r1 := cZ0 I9.out.res
  have r2 : (v9.alloc (.cells #[.int .u32 ni,.int .u8 nk,.int .i64 nl,.string nd,.slice h9.a h9.n h9.c] 85)).frozen? ⟨(w.heap.size + 2),0,none⟩ = false := I9.out.res.frozen 0
  go_region_law (fail)
  all_goals
   obtain ⟨f1,f2,f3⟩ := I9.out.ret' I9.out.lies (.slice h.a h.n h.c)
   have HF1 := hQ_ (And.intro f1 f2)
   have HF3 := hQ_ f3
   clear f1 f2 f3
   go_wp2_with fail
   first
    | exact bodyPost_ret (v := .tuple #[.int .i64 (12),.agg #[.slice h.a h.n h.c]]) (results_tmp_row rfl _ _ (w.heap.size + 2) 29 _ (0,0) _ rfl _ rfl HF3.out Tryz.underlying29 rfl info_fs) rfl (AnsE.of rfl HF1.out)
    | exact bodyPost_ret (v := .tuple #[.int .i64 (12),.agg #[.slice h.a h.n h.c]]) (results_tmp_row rfl _ _ (w.heap.size + 2) 29 _ (0,0) _ rfl _ rfl HF3.out.drew Tryz.underlying29 rfl info_fs) rfl (AnsE.of rfl ⟨HF1.out.1.below ((Below.refl _ _).drew),HF1.out.2.drew⟩)
structure UnlOk (F : Fs) (s : Spt) (l : Int) : Prop where
 f1 : SmF (if l = 1 then withoutM F s.ino else linkedM F s.ino (-1))
 n1 : ∃ n,nodeM (if l = 1 then withoutM F s.ino else linkedM F s.ino (-1)) s.dir = some n
theorem unlink_calls {T : Nat → Prop} (h : Sh) (F : Fs) (s : Spt) (nd0 : Nd) (w : World) (hf : FsA T w h F) (hs : SmF F) (hn : nodeM F s.ino = some nd0) (hok : nd0.kind ≠ 2 → UnlOk F s nd0.links) (hT : ∀ b,w.heap.size ≤ b → T b) :
 Calls Tryz.prog 100 #[.agg #[.slice h.a h.n h.c],spotA s] w (AnsE T (unlinkAt F s) w) := by
 obtain ⟨W,hW⟩ : ∃ W,((w.alloc (.cells #[.slice h.a h.n h.c] 29)).alloc (.cells #[.int .u32 s.dir,.string s.name,.int .u32 s.ino] 156)).alloc (.cells #[.slice none 0 0] 29) = W := ⟨_,rfl⟩
 obtain ⟨i0,a0⟩ := InvF.start2 hf #[.int .u32 s.dir,.string s.name,.int .u32 s.ino] 156
 rw [hW] at i0 a0
 have I0 := hQ_ i0
 have A0 := hQ_ a0
 have HW := hQ_ hW
 have LA : Hid (w.heap.size + 1 ≤ w.heap.size + 1) := hQ_ (Nat.le_refl _)
 have W_0 := cZ0 I0.out.fs
 obtain ⟨W_1,W_2,W_3⟩ := cC3 A0.out
 have HNO := hQ_ (fun u (hl : FsA (Out T w.heap.size (w.heap.size + 2)) u h F) => node_calls (T := Out T w.heap.size (w.heap.size + 2)) h F s nd0 u hl hn hs.len)
 unfold NodeE at HNO
 have HM : Hid (unlinkAt F s = if nd0.kind = 2 then (13,F) else (0,namedM (if nd0.links = 1 then withoutM F s.ino else linkedM F s.ino (-1)) s.dir s.name 0)) := hQ_ (by unfold unlinkAt; rw [hn])
 have HOK := hQ_ hok
 have HT := hQ_ hT
 have HSF := hQ_ hs
 have HNN := hQ_ hn
 obtain ⟨ni,nk,nl,nd,ne⟩ := nd0
 obtain ⟨sd,sn,si⟩ := s
 dsimp only [spotA] at HNO HM HOK A0 W_1 W_2 W_3 HW HNN
 unfold spotA
 dsimp only
 rw [HM.out]
 clear hf hs hT hok hW HM i0 a0 hn
 by_cases hk : nk = 2
 ·rw [if_pos hk]
  have d1 : (nk == 2) = true := by simpa using hk
  clear HOK hk
  go_enter Tryz.func100,Tryz.ntmps100
  go_wp2_with fail
  rw [HW.out]
  go_wp2_with fail
  refine (HNO.out W I0.out.lies).mono ?_
  rintro e v1 ⟨h1,rfl,hf1,hb1⟩
  have hz1 := hf1.len
  dsimp only [nodeV] at hz1 ⊢
  have hbU1 := nW_ hb1 (.cells #[.int .u32 ni,.int .u8 nk,.int .i64 nl,.string nd,.slice h1.a h1.n h1.c] 85)
  have I1 := hQ_ (I0.out.below hbU1)
  have A1 := hQ_ (A0.out.below hbU1)
  have f1_0 := cZ0 I1.out.fs
  have f1_A0 := cC3 A1.out
  have N1 := hQ_ (Blk.new_ v1 #[.int .u32 ni,.int .u8 nk,.int .i64 nl,.string nd,.slice h1.a h1.n h1.c] 85)
  have g1_1 := cZ1 N1.out
  have g1_2 := cZ2 N1.out
  have g1_4 := cZ4 N1.out
  clear hbU1 W_0 W_1 W_2 W_3 hb1 hf1
  clear hz1
  go_wp2_with fail
  have r1 := cZ0 I1.out.res
  have r2 : (v1.alloc (.cells #[.int .u32 ni,.int .u8 nk,.int .i64 nl,.string nd,.slice h1.a h1.n h1.c] 85)).frozen? ⟨(w.heap.size + 2),0,none⟩ = false := I1.out.res.frozen 0
  go_region_law (fail)
  all_goals
   obtain ⟨f1,f2,f3⟩ := I1.out.ret' I1.out.lies (.slice h.a h.n h.c)
   have HF1 := hQ_ (And.intro f1 f2)
   have HF3 := hQ_ f3
   clear f1 f2 f3
   go_wp2_with fail
   first
    | exact bodyPost_ret (v := .tuple #[.int .i64 (13),.agg #[.slice h.a h.n h.c]]) (results_tmp_row rfl _ _ (w.heap.size + 2) 29 _ (0,0) _ rfl _ rfl HF3.out Tryz.underlying29 rfl info_fs) rfl (AnsE.of rfl HF1.out)
    | exact bodyPost_ret (v := .tuple #[.int .i64 (13),.agg #[.slice h.a h.n h.c]]) (results_tmp_row rfl _ _ (w.heap.size + 2) 29 _ (0,0) _ rfl _ rfl HF3.out.drew Tryz.underlying29 rfl info_fs) rfl (AnsE.of rfl ⟨HF1.out.1.below ((Below.refl _ _).drew),HF1.out.2.drew⟩)
 ·rw [if_neg hk]
  have d1 : (nk == 2) = false := by simpa using hk
  obtain ⟨of1,⟨m1,on1⟩⟩ := HOK.out hk
  dsimp only at of1 on1
  clear HOK hk
  by_cases hl : nl = 1
  ·rw [if_pos hl] at of1 on1 ⊢
   have d2 : (nl == 1) = true := by simpa using hl
   have OF1 := hQ_ of1
   have ON1 := hQ_ on1
   clear of1 on1 hl
   go_enter Tryz.func100,Tryz.ntmps100
   go_wp2_with fail
   rw [HW.out]
   go_wp2_with fail
   refine (HNO.out W I0.out.lies).mono ?_
   rintro e v2 ⟨h2,rfl,hf2,hb2⟩
   have hz2 := hf2.len
   dsimp only [nodeV] at hz2 ⊢
   have hbU2 := nW_ hb2 (.cells #[.int .u32 ni,.int .u8 nk,.int .i64 nl,.string nd,.slice h2.a h2.n h2.c] 85)
   have I2 := hQ_ (I0.out.below hbU2)
   have A2 := hQ_ (A0.out.below hbU2)
   have f2_0 := cZ0 I2.out.fs
   have f2_A0 := cC3 A2.out
   have N2 := hQ_ (Blk.new_ v2 #[.int .u32 ni,.int .u8 nk,.int .i64 nl,.string nd,.slice h2.a h2.n h2.c] 85)
   have g2_1 := cZ1 N2.out
   have g2_2 := cZ2 N2.out
   have g2_4 := cZ4 N2.out
   clear hbU2 W_0 W_1 W_2 W_3 hb2 hf2
   clear hz2
   go_wp2_with fail
   refine (without_calls h F si (v2.alloc (.cells #[.int .u32 ni,.int .u8 nk,.int .i64 nl,.string nd,.slice h2.a h2.n h2.c] 85)) I2.out.lies HSF.out.len (I2.out.room HT.out)).mono ?_
   rintro e u3 ⟨h3,rfl,hf3,hb3⟩
   have I3 := hQ_ (I2.out.below hb3)
   have A3 := hQ_ (A2.out.below hb3)
   have f3_0 := cZ0 I3.out.fs
   obtain ⟨f3_A0,f3_A1,f3_A2⟩ := cC3 A3.out
   have L3 := hQ_ hf3
   clear hf3 hb3 f2_0 f2_A0
   go_wp2_with (first | ((with_reducible refine pick none ?_); refine store_blk rfl 29 _ _ rfl w.heap.size #[.slice h3.a h3.n h3.c] rfl rfl 29 _ I3.out.fs info_fs rfl (by simp [Value.oneCell']) ?_; intro u4 hk4 hg4; have I4 := hQ_ (I3.out.put L3.out hg4 hk4); have A4 := hQ_ (A3.out.grown hg4 (by have := LA.out; omega)); have f4_0 : u4.cell? ⟨w.heap.size,0,none⟩ = some (.slice h3.a h3.n h3.c) := I4.out.fs.cell 0; have f4_A0 : u4.cell? ⟨(w.heap.size + 1),0,none⟩ = some (.int .u32 sd) := A4.out.cell 0; have f4_A1 : u4.cell? ⟨(w.heap.size + 1),1,none⟩ = some (.string sn) := A4.out.cell 1; have f4_A2 : u4.cell? ⟨(w.heap.size + 1),2,none⟩ = some (.int .u32 si) := A4.out.cell 2; clear hk4 hg4 f3_0 f3_A0 f3_A1 f3_A2))
   refine (named_calls h3 (withoutM F si) sd sn 0 m1 u4 I4.out.lies ON1.out OF1.out (I4.out.room HT.out)).mono ?_
   rintro e u5 ⟨h5,rfl,hf5,hb5⟩
   have I5 := hQ_ (I4.out.below hb5)
   have A5 := hQ_ (A4.out.below hb5)
   have f5_0 := cZ0 I5.out.fs
   have f5_A0 := cC3 A5.out
   have L5 := hQ_ hf5
   clear hf5 hb5 f4_0 f4_A0 f4_A1 f4_A2
   go_wp2_with ((with_reducible refine pick none ?_); refine store_blk rfl 29 _ _ rfl (w.heap.size + 2) #[.slice h5.a h5.n h5.c] rfl rfl 29 _ I5.out.res info_fs rfl (by simp [Value.oneCell']) ?_; intro z6 hk6 hg6)
   exact bodyPost_ret (v := .tuple #[.int .i64 (0),.agg #[.slice h5.a h5.n h5.c]]) (results_tmp_row rfl _ _ (w.heap.size + 2) 29 _ (0,0) _ rfl _ rfl hk6 Tryz.underlying29 rfl info_fs) rfl (AnsE.of rfl (I5.out.ret L5.out hg6))
  ·rw [if_neg hl] at of1 on1 ⊢
   have d2 : (nl == 1) = false := by simpa using hl
   have OF1 := hQ_ of1
   have ON1 := hQ_ on1
   clear of1 on1 hl
   go_enter Tryz.func100,Tryz.ntmps100
   go_wp2_with fail
   rw [HW.out]
   go_wp2_with fail
   refine (HNO.out W I0.out.lies).mono ?_
   rintro e v7 ⟨h7,rfl,hf7,hb7⟩
   have hz7 := hf7.len
   dsimp only [nodeV] at hz7 ⊢
   have hbU7 := nW_ hb7 (.cells #[.int .u32 ni,.int .u8 nk,.int .i64 nl,.string nd,.slice h7.a h7.n h7.c] 85)
   have I7 := hQ_ (I0.out.below hbU7)
   have A7 := hQ_ (A0.out.below hbU7)
   have f7_0 := cZ0 I7.out.fs
   have f7_A0 := cC3 A7.out
   have N7 := hQ_ (Blk.new_ v7 #[.int .u32 ni,.int .u8 nk,.int .i64 nl,.string nd,.slice h7.a h7.n h7.c] 85)
   have g7_1 := cZ1 N7.out
   have g7_2 := cZ2 N7.out
   have g7_4 := cZ4 N7.out
   clear hbU7 W_0 W_1 W_2 W_3 hb7 hf7
   clear hz7
   go_wp2_with fail
   refine (linked_calls h F si (-1) ⟨ni,nk,nl,nd,ne⟩ (v7.alloc (.cells #[.int .u32 ni,.int .u8 nk,.int .i64 nl,.string nd,.slice h7.a h7.n h7.c] 85)) I7.out.lies HNN.out HSF.out (by omega) (by omega) (I7.out.room HT.out)).mono ?_
   rintro e u8 ⟨h8,rfl,hf8,hb8⟩
   have I8 := hQ_ (I7.out.below hb8)
   have A8 := hQ_ (A7.out.below hb8)
   have f8_0 := cZ0 I8.out.fs
   obtain ⟨f8_A0,f8_A1,f8_A2⟩ := cC3 A8.out
   have L8 := hQ_ hf8
   clear hf8 hb8 f7_0 f7_A0
   go_wp2_with (first | ((with_reducible refine pick none ?_); refine store_blk rfl 29 _ _ rfl w.heap.size #[.slice h8.a h8.n h8.c] rfl rfl 29 _ I8.out.fs info_fs rfl (by simp [Value.oneCell']) ?_; intro u9 hk9 hg9; have I9 := hQ_ (I8.out.put L8.out hg9 hk9); have A9 := hQ_ (A8.out.grown hg9 (by have := LA.out; omega)); have f9_0 : u9.cell? ⟨w.heap.size,0,none⟩ = some (.slice h8.a h8.n h8.c) := I9.out.fs.cell 0; have f9_A0 : u9.cell? ⟨(w.heap.size + 1),0,none⟩ = some (.int .u32 sd) := A9.out.cell 0; have f9_A1 : u9.cell? ⟨(w.heap.size + 1),1,none⟩ = some (.string sn) := A9.out.cell 1; have f9_A2 : u9.cell? ⟨(w.heap.size + 1),2,none⟩ = some (.int .u32 si) := A9.out.cell 2; clear hk9 hg9 f8_0 f8_A0 f8_A1 f8_A2))
   refine (named_calls h8 (linkedM F si (-1)) sd sn 0 m1 u9 I9.out.lies ON1.out OF1.out (I9.out.room HT.out)).mono ?_
   rintro e u10 ⟨h10,rfl,hf10,hb10⟩
   have I10 := hQ_ (I9.out.below hb10)
   have A10 := hQ_ (A9.out.below hb10)
   have f10_0 := cZ0 I10.out.fs
   have f10_A0 := cC3 A10.out
   have L10 := hQ_ hf10
   clear hf10 hb10 f9_0 f9_A0 f9_A1 f9_A2
   go_wp2_with ((with_reducible refine pick none ?_); refine store_blk rfl 29 _ _ rfl (w.heap.size + 2) #[.slice h10.a h10.n h10.c] rfl rfl 29 _ I10.out.res info_fs rfl (by simp [Value.oneCell']) ?_; intro z11 hk11 hg11)
   exact bodyPost_ret (v := .tuple #[.int .i64 (0),.agg #[.slice h10.a h10.n h10.c]]) (results_tmp_row rfl _ _ (w.heap.size + 2) 29 _ (0,0) _ rfl _ rfl hk11 Tryz.underlying29 rfl info_fs) rfl (AnsE.of rfl (I10.out.ret L10.out hg11))
end Go.Proofs.YtfalhnomhidkcaaGreatDoor.DirsRf
namespace Go.Proofs.YtfalhnomhidkcaaGreatDoor.DirsRi
open Go.RowKit
open Byte KeysM TreeM Lst Ho Tx NamesM NamesR WalkF DirsM Chg DirsR DirsRa DirsRc DirsRd DirsRe
open Own hiding keeps
open ViewR (Sh)
theorem und_no {L M : List ByteArray} {k : Nat} (hk : k < L.length) {x y : ByteArray} (hx : L[k]? = some x) (hy : M[k]? = some y) (h : x ≠ y) : under L M = false := by
 unfold under
 rw [Bool.and_eq_false_iff]
 right
 rw [decide_eq_false_iff_not]
 intro e
 have h1 : (M.take L.length)[k]? = M[k]? := List.getElem?_take_of_lt hk
 rw [e,hx,hy] at h1
 exact h (Option.some.inj h1)
theorem und_yes {L M : List ByteArray} (hl : L.length < M.length) (h : M.take L.length = L) : under L M = true := by
 unfold under
 rw [decide_eq_true hl,decide_eq_true h]
 rfl
theorem und_short {L M : List ByteArray} (hl : ¬ L.length < M.length) : under L M = false := by
 unfold under
 rw [decide_eq_false hl]
 rfl
theorem take_eq {L M : List ByteArray} {k : Nat} {x : ByteArray} (h : M.take k = L.take k) (hx : L[k]? = some x) (hy : M[k]? = some x) : M.take (k + 1) = L.take (k + 1) := by
 rw [TreeM.take_next hx,TreeM.take_next hy,h]
theorem under_calls (a b : ByteArray) (w : World) (ha : a.size ≤ maxLen) (hb : b.size ≤ maxLen) :
 Calls Tryz.prog 101 #[.string a,.string b] w fun e w' => e = .returned (.bool (under (spl a).1 (spl b).1)) ∧ Below w.heap.size w w' := by
 have HA := hQ_ (refspl_calls a w ha)
 have HB := hQ_ (fun w => refspl_calls b w hb)
 unfold SplE at HA HB
 have hsa := (NamesL.spl_small a).1
 have hsb := (NamesL.spl_small b).1
 generalize (spl a).1 = L at *
 generalize (spl b).1 = M at *
 generalize (spl a).2 = ea at *
 generalize (spl b).2 = eb at *
 go_enter Tryz.func101,Tryz.ntmps101
 go_wp2_with fail
 refine HA.out.mono ?_
 rintro e w1 ⟨A,m,c,rfl,hso,hb1⟩
 have HL1 := hQ_ hso.sl
 have HB1 := hQ_ hb1
 have hm : L.length = m := hso.1
 have HM := hQ_ hm
 have hm16 : m ≤ 16 := by omega
 clear hso hb1 hm hsa
 go_wp2_with fail
 refine (HB.out _).mono ?_
 rintro e w2 ⟨A2,m2,c2,rfl,hso,hb2⟩
 have HL := hQ_ (HL1.out.below hb2)
 have HL2 := hQ_ hso.sl
 have HB2 := hQ_ (Own.keeps HB1.out hb2)
 have hm2 : M.length = m2 := hso.1
 have HM2 := hQ_ hm2
 have hm216 : m2 ≤ 16 := by omega
 clear hso hb2 hm2 hsb
 by_cases hlt : m < m2
 ·have d1 : decide ((m2 : Int) ≤ (m : Int)) = false := by simp; omega
  have d2 : decide (m2 ≤ m) = false := by simp; omega
  go_wp2_with fail
  go_loopw [27] (fun i wr => ∃ k : Nat,k ≤ m ∧ i = .int .i64 k ∧ Hid (M.take k = L.take k) ∧ Below w2.heap.size w2 wr) (fun i _ => m - (intOf i).toNat)
  case atStart => exact ⟨0,Nat.zero_le _,rfl,hQ_ (by simp),Below.refl _ _⟩
  case round =>
   obtain ⟨k,hk,rfl,HT,hbel⟩ := hrel
   have HBL := hQ_ hbel
   by_cases hkm : k < m
   ·obtain ⟨x,g,o,hx,rfl,hg,hcl⟩ := (HL.out.below hbel).get k hkm
    obtain ⟨y,g2,o2,hy,rfl,hg2,hcl2⟩ := (HL2.out.below hbel).get k (by omega)
    have c1 := tx_cell hcl
    have c2 := tx_cell hcl2
    have q1 : (0 : Int) ≤ (k : Int) := by omega
    have q2 : (k : Int) < (m : Int) := by omega
    have q3 : (k : Int) < (m2 : Int) := by omega
    by_cases hxy : x = y
    ·subst hxy
     have HT2 := hQ_ (take_eq HT.out hx hy)
     have e2 : (x.toList == x.toList) = true := (TreeR.eq_list _ _).trans (decide_eq_true rfl)
     have e3 : (x.toList != x.toList) = false := by rw [bne,e2]; rfl
     clear hcl hcl2 hx hy hbel
     go_wp2_with fail
     go_quiet (fail)
     go_wp2_with fail
     go_roundw
     case rel => exact ⟨k + 1,by omega,by go_num,HT2,NamesS.below_drewN HBL.out _⟩
     case measure => simp [intOf]; omega
    ·have HU : Hid (under L M = false) := hQ_ (und_no (by rw [HM.out]; exact hkm) hx hy hxy)
     have e2 : (x.toList == y.toList) = false := (TreeR.eq_list _ _).trans (decide_eq_false hxy)
     have e3 : (x.toList != y.toList) = true := by rw [bne,e2]; rfl
     clear hcl hcl2 hx hy hbel hxy
     go_wp2_with fail
     go_quiet (fail)
     go_wp2_with fail
     go_ret
     exact ⟨by rw [HU.out]; rfl,Own.keeps HB2.out (NamesS.below_drewN HBL.out _)⟩
   ·have HU : Hid (under L M = true) := hQ_ (und_yes (by rw [HM.out,HM2.out]; exact hlt) (by
     have := HT.out
     rw [show k = L.length by rw [HM.out]; omega] at this
     rw [this,List.take_length]))
    clear hbel
    go_wp2_with fail
    go_ret
    exact ⟨by rw [HU.out]; rfl,Own.keeps HB2.out HBL.out⟩
 ·have HU : Hid (under L M = false) := hQ_ (und_short (by rw [HM.out,HM2.out]; exact hlt))
  have d1 : decide ((m2 : Int) ≤ (m : Int)) = true := by simp; omega
  have d2 : decide (m2 ≤ m) = true := by simp; omega
  go_wp2_with fail
  go_ret
  exact ⟨by rw [HU.out]; rfl,HB2.out⟩
theorem below_into {w U u : World} {r : Nat} (hb : Below w.heap.size w U) (c : Chg (fun b => b = r) U u) (hr : w.heap.size ≤ r) : Below w.heap.size w u := hb.trans (c.below hb.size (fun k hk e => by omega))
def ListE (r : List ByteArray × Int) (w : World) (e : Ending) (w' : World) : Prop := ∃ A m c,e = .returned (.tuple #[.slice A m c,.int .i64 r.2]) ∧ So txE 9 w' w.heap.size (.slice A m c) m r.1 ∧ Below w.heap.size w w'
theorem ListE.of {r : List ByteArray × Int} {w w' : World} {A : Option Addr} {m c : Nat} {L : List ByteArray} {x : Int} (h : r = (L,x)) (ho : So txE 9 w' w.heap.size (.slice A m c) m L) (hb : Below w.heap.size w w') : ListE r w (.returned (.tuple #[.slice A m c,.int .i64 x])) w' := by
 subst h
 exact ⟨A,m,c,rfl,ho,hb⟩
theorem list_calls {T : Nat → Prop} (h : Sh) (F : Fs) (path : ByteArray) (w : World) (hf : FsA T w h F) (hs : SmF F) (hcl : Cl F) (hp : path.size ≤ maxLen) (hok : (fndM F path).2 = 0 → (fndM F path).1.ino ≠ 0 → ∃ nd,nodeM F (fndM F path).1.ino = some nd) :
 Calls Tryz.prog 48 #[.agg #[.slice h.a h.n h.c],.string path] w (ListE (listF F path) w) := by
 obtain ⟨W,hW,HF,HB,c0⟩ := boxed hf
 have HW := hQ_ hW
 have HOK := hQ_ hok
 have SO0 : Hid (So txE 9 (W.alloc (.cells #[] 9)) W.heap.size (.slice (some ⟨w.heap.size + 1,0,none⟩) 0 0) 0 []) := hQ_ (by
  have h1 : W.heap.size = w.heap.size + 1 := by rw [← hW]; simp
  rw [← h1]
  exact So.new_ txE 9 W (Nat.le_refl W.heap.size))
 have SB0 := hQ_ ((Below.refl W.heap.size W).alloc (Nat.le_refl _) (.cells #[] 9))
 obtain ⟨W1,hW1⟩ : ∃ W1,W.alloc (.cells #[] 9) = W1 := ⟨_,rfl⟩
 rw [hW1] at SO0 SB0
 have HW1 := hQ_ hW1
 have HF1 := hQ_ (((fs_but (r := w.heap.size + 1) hf (by omega)).below HB.out).below SB0.out)
 have HBX := hQ_ (Own.keeps HB.out SB0.out)
 have hbw := HB.out.size
 have SO1 := hQ_ (SO0.out.lower hbw)
 have hws : W.heap.size = w.heap.size + 1 := by rw [← hW]; simp
 have c1 : W1.cell? ⟨w.heap.size,0,none⟩ = some (.slice h.a h.n h.c) := (SB0.out.cell (p := ⟨w.heap.size,0,none⟩) (show w.heap.size < W.heap.size by omega)).trans c0
 have hwl : w.heap.size < W1.heap.size := World.block_lt_of_cell? W1 ⟨w.heap.size,0,none⟩ c1
 have HFI := hQ_ (fun u (hl : FsA (But T (w.heap.size + 1)) u h F) => find_calls h F path u hl hs hcl hp)
 unfold FndE at HFI
 have HS := hQ_ hs
 unfold listF
 obtain ⟨⟨⟨sd,sn,si⟩,er⟩,hR⟩ : ∃ R,fndM F path = R := ⟨_,rfl⟩
 rw [hR] at HFI HOK ⊢
 dsimp only [spotA] at HFI HOK ⊢
 clear hf hs hcl hp hok hW hW1 hR SB0 c0 hws
 by_cases he : er = 0
 ·subst he
  rw [if_neg (fun h => h rfl)]
  by_cases h0 : si = 0
  ·rw [if_pos h0]
   have d0 : (si == 0) = true := by simpa using h0
   clear h0 HOK
   go_enter Tryz.func48,Tryz.ntmps48
   go_wp2_with fail
   rw [HW.out,HW1.out]
   go_wp2_with fail
   refine (HFI.out W1 HF1.out).mono ?_
   rintro e v1 ⟨rfl,hb1⟩
   have hb2 := (hb1.alloc hb1.size (.cells #[.int .u32 sd,.string sn,.int .u32 si] 156))
   have B2 := hQ_ hb2
   clear hb1 hb2
   go_wp2_with fail
   go_ret2
   exact ListE.of rfl (SO1.out.below B2.out) (Own.keeps HBX.out B2.out)
  ·rw [if_neg h0]
   have d0 : (si == 0) = false := by simpa using h0
   obtain ⟨nd0,hn⟩ := HOK.out rfl h0
   have HNO := hQ_ (fun u (hl : FsA (But T (w.heap.size + 1)) u h F) => node_calls (T := But T (w.heap.size + 1)) h F ⟨sd,sn,si⟩ nd0 u hl hn HS.out.len)
   have hel := (HS.out.all nd0 (node_mem hn).1).e
   unfold NodeE at HNO
   rw [hn]
   dsimp only
   obtain ⟨ni,nk,nl,nd,ne⟩ := nd0
   dsimp only [spotA,nodeV] at HNO hel ⊢
   clear h0 hn HOK
   by_cases hk : nk = 2
   ·rw [if_neg (fun h => h hk)]
    have d1 : (nk != 2) = false := by simpa using hk
    clear hk
    go_enter Tryz.func48,Tryz.ntmps48
    go_wp2_with fail
    rw [HW.out,HW1.out]
    go_wp2_with fail
    refine (HFI.out W1 HF1.out).mono ?_
    rintro e v1 ⟨rfl,hb1⟩
    have hb2 := (hb1.alloc hb1.size (.cells #[.int .u32 sd,.string sn,.int .u32 si] 156))
    have B2 := hQ_ hb2
    have S2 := hQ_ (Blk.new_ v1 #[.int .u32 sd,.string sn,.int .u32 si] 156)
    have e0 : (v1.alloc (.cells #[.int .u32 sd,.string sn,.int .u32 si] 156)).cell? ⟨w.heap.size,0,none⟩ = some (.slice h.a h.n h.c) := (hb2.cell (p := ⟨w.heap.size,0,none⟩) hwl).trans c1
    have e1 := S2.out.cell 0
    have e2 := S2.out.cell 1
    have e3 := S2.out.cell 2
    clear hb1 hb2
    go_wp2_with fail
    refine (HNO.out _ (HF1.out.below B2.out)).mono ?_
    rintro e v3 ⟨h3,rfl,hf3,hb3⟩
    have hn3 : h3.n ≤ 1000 := by have := hf3.len; omega
    have hb4 := hb3.alloc hb3.size (.cells #[.int .u32 ni,.int .u8 nk,.int .i64 nl,.string nd,.slice h3.a h3.n h3.c] 85)
    have HE4 := hQ_ (hf3.1.below ((Below.refl _ _).alloc (Nat.le_refl _) (.cells #[.int .u32 ni,.int .u8 nk,.int .i64 nl,.string nd,.slice h3.a h3.n h3.c] 85)))
    have N4 := hQ_ (Blk.new_ v3 #[.int .u32 ni,.int .u8 nk,.int .i64 nl,.string nd,.slice h3.a h3.n h3.c] 85)
    obtain ⟨U,hU⟩ : ∃ U,v3.alloc (.cells #[.int .u32 ni,.int .u8 nk,.int .i64 nl,.string nd,.slice h3.a h3.n h3.c] 85) = U := ⟨_,rfl⟩
    rw [hU] at hb4 HE4 N4
    have HU := hQ_ hU
    have HV3 : Hid (¬ v3.heap.size = w.heap.size + 1) := hQ_ (by have h1 := SO0.out.lt (g := w.heap.size + 1) rfl; have h2 := B2.out.size; have h3 := hb3.size; omega)
    have n1 := cZ1 N4.out
    have n4 := cZ4 N4.out
    have n1' : (v3.alloc (.cells #[.int .u32 ni,.int .u8 nk,.int .i64 nl,.string nd,.slice h3.a h3.n h3.c] 85)).cell? ⟨v3.heap.size,1,none⟩ = some (.int .u8 nk) := by rw [hU]; exact n1
    have n4' : (v3.alloc (.cells #[.int .u32 ni,.int .u8 nk,.int .i64 nl,.string nd,.slice h3.a h3.n h3.c] 85)).cell? ⟨v3.heap.size,4,none⟩ = some (.slice h3.a h3.n h3.c) := by rw [hU]; exact n4
    have B4 := hQ_ (Own.keeps (Own.keeps HBX.out B2.out) hb4)
    have SO4 := hQ_ ((SO1.out.below B2.out).below hb4)
    have hwU := B4.out.size
    have HLN := hQ_ hf3.len
    have HFAR := hQ_ hf3.2
    have hr0 : w.heap.size + 1 < U.heap.size := by
     have h1 := SO0.out.lt (g := w.heap.size + 1) rfl
     have h2 := B2.out.size
     have h4 := hb4.size
     omega
    obtain ⟨ea,em,ec⟩ := h3
    dsimp only at HE4 n4 hn3 HLN
    clear hb3 hb4 hf3 hU e0 e1 e2 e3 c1
    go_wp2_with fail
    rw [HU.out]
    go_loopw [6,36] (fun v i wr => ∃ (A : Option Addr) (m c k : Nat),v = .slice A m c ∧ i = .int .i64 k ∧ k ≤ em ∧ m = k ∧ So txE 9 wr w.heap.size (.slice A m c) m ((ne.take k).map (·.name)) ∧ Hid (∀ b,(Value.slice A m c).ownBlock = some b → b = w.heap.size + 1 ∨ U.heap.size ≤ b) ∧ Hid (Chg (fun b => b = w.heap.size + 1) U wr)) (fun _ i _ => em - (intOf i).toNat)
    case atStart => exact ⟨_,0,0,0,rfl,rfl,Nat.zero_le _,rfl,SO4.out,hQ_ (fun b e => .inl (by injection e with e; exact e.symm)),hQ_ (Chg.refl _ _)⟩
    case round =>
     obtain ⟨A,m,c,k,rfl,rfl,hk,rfl,hso,HOWN,HCH⟩ := hrel
     have HSO := hQ_ hso
     have hbs := HCH.out.size
     have N4w : wr.heap[v3.heap.size]? = some (.cells #[.int .u32 ni,.int .u8 nk,.int .i64 nl,.string nd,.slice ea em ec] 85 (0,0)) := (HCH.out.block v3.heap.size N4.out.lt HV3.out).trans N4.out
     have c4 : wr.cell? ⟨v3.heap.size,4,none⟩ = some (.slice ea em ec) := Blk.cell N4w 4
     by_cases hlt : m < em
     ·obtain ⟨x,b,o,hx,rfl,hb,hcl⟩ := (Chg.Sl.chg HE4.out HCH.out (fun b o e => (HFAR.out b o e).1.2)).get m hlt
      have c5 : wr.cell? ⟨b,o + m * 2,none⟩ = some (.string x.name) := hcl 0 _ rfl
      have HNX := hQ_ (WalkKm.map_nx hx (fun e : En => e.name))
      clear hso hcl hx N4w
      obtain ⟨xn,xi⟩ := x
      dsimp only at c5 HNX
      generalize hK : List.map (fun e : En => e.name) (ne.take m) = K at *
      clear hK
      go_wp2_with ((with_reducible refine pick (some 47) ?_); refine wpList_append_any txE 9 rfl _ _ _ rfl Tryz.underlying105 info_tx rfl w.heap.size _ m K rfl (HSO.out.below (bW_)) _ 1 1 [xn] rfl (Sl.new_ txE _ _ xn _ rfl) (fun h => by cases h) (m + 1) rfl _ rfl (by unfold maxLen; omega) (by omega) (by simp; omega) ?_; intro v' w' hown' hg' hat'; obtain ⟨A3,c3',rfl,_⟩ := Tx.So.head hown')
      have HCH2 : Hid (Chg (fun b => b = w.heap.size + 1) U w') := hQ_ ((HCH.out.alloc _).then_ (Chg.of_grown (S := fun b => (Value.slice A m c).ownBlock = some b) hg' (fun k e => .inl e)) (fun i hi e => by
       rcases HOWN.out i e with h1 | h1
       ·exact h1
       ·omega))
      have HOWN2 : Hid (∀ b,(Value.slice A3 (m + 1) c3').ownBlock = some b → b = w.heap.size + 1 ∨ U.heap.size ≤ b) := hQ_ (fun b e => by
       rcases hat' with h1 | h1
       ·have h2 : (Value.slice A3 (m + 1) c3').ownBlock = (Value.slice A m c).ownBlock := h1
        exact HOWN.out b (h2.symm.trans e)
       ·rw [e] at h1
        injection h1 with h1
        right
        rw [h1]
        simp
        omega)
      clear hat' hg'
      go_roundw
      case rel => exact ⟨A3,m + 1,c3',m + 1,rfl,by go_num,by omega,rfl,by rw [HNX.out]; exact hown',HOWN2,HCH2⟩
      case measure => simp [intOf]; omega
     ·obtain rfl : m = em := by omega
      have HTK : Hid (ne.take m = ne) := hQ_ (List.take_of_length_le (by rw [HLN.out]; exact Nat.le_refl _))
      clear hso N4w
      go_wp2_with fail
      go_ret2
      exact ListE.of rfl (by have := HSO.out; rw [HTK.out] at this; exact this) (below_into B4.out HCH.out (Nat.le_succ _))
   ·rw [if_pos hk]
    have d1 : (nk != 2) = true := by simpa using hk
    clear hk
    go_enter Tryz.func48,Tryz.ntmps48
    go_wp2_with fail
    rw [HW.out,HW1.out]
    go_wp2_with fail
    refine (HFI.out W1 HF1.out).mono ?_
    rintro e v1 ⟨rfl,hb1⟩
    have hb2 := (hb1.alloc hb1.size (.cells #[.int .u32 sd,.string sn,.int .u32 si] 156))
    have B2 := hQ_ hb2
    have S2 := hQ_ (Blk.new_ v1 #[.int .u32 sd,.string sn,.int .u32 si] 156)
    have e0 : (v1.alloc (.cells #[.int .u32 sd,.string sn,.int .u32 si] 156)).cell? ⟨w.heap.size,0,none⟩ = some (.slice h.a h.n h.c) := (hb2.cell (p := ⟨w.heap.size,0,none⟩) hwl).trans c1
    clear hb1 hb2
    go_wp2_with fail
    refine (HNO.out _ (HF1.out.below B2.out)).mono ?_
    rintro e v3 ⟨h3,rfl,hf3,hb3⟩
    have hb4 := hb3.alloc hb3.size (.cells #[.int .u32 ni,.int .u8 nk,.int .i64 nl,.string nd,.slice h3.a h3.n h3.c] 85)
    have B4 := hQ_ (Own.keeps (Own.keeps HBX.out B2.out) hb4)
    have SO4 := hQ_ ((SO1.out.below B2.out).below hb4)
    have N4 := hQ_ (Blk.new_ v3 #[.int .u32 ni,.int .u8 nk,.int .i64 nl,.string nd,.slice h3.a h3.n h3.c] 85)
    have n1 := N4.out.cell 1
    clear hb3 hb4 hf3 e0 c1
    go_wp2_with fail
    go_ret2
    exact ListE.of rfl SO4.out B4.out
 ·rw [if_pos he]
  have d0 : (er != 0) = true := by simpa using he
  clear he HOK
  go_enter Tryz.func48,Tryz.ntmps48
  go_wp2_with fail
  rw [HW.out,HW1.out]
  go_wp2_with fail
  refine (HFI.out W1 HF1.out).mono ?_
  rintro e v1 ⟨rfl,hb1⟩
  have hb2 := (hb1.alloc hb1.size (.cells #[.int .u32 sd,.string sn,.int .u32 si] 156))
  have B2 := hQ_ hb2
  clear hb1 hb2
  go_wp2_with fail
  go_ret2
  exact ListE.of rfl (SO1.out.below B2.out) (Own.keeps HBX.out B2.out)
end Go.Proofs.YtfalhnomhidkcaaGreatDoor.DirsRi
namespace Go.Proofs.YtfalhnomhidkcaaGreatDoor.DirsRh
open Go.RowKit
open Byte KeysM TreeM Lst Ho Tx NamesM NamesR WalkF DirsM Chg DirsR DirsRa DirsRb DirsRc DirsRd DirsRe DirsRf DirsRi
open Own hiding keeps
open ViewR (Sh)
theorem lies_but {T : Nat → Prop} {n q : Nat} {w : World} {h : Sh} {F : Fs} {r : Nat} (hf : FsA (Out T n q) w h F) (hr : w.heap.size ≤ r) : FsA (Out (But T r) n q) w h F :=
 hf.chg (S := fun _ => False) (Chg.refl _ w) (fun b hb hlt => ⟨fun h => h,⟨hb.1,by omega⟩,hb.2⟩)
theorem fs_aside {T : Nat → Prop} {n q : Nat} {u u' : World} {h : Sh} {F : Fs} {g : Nat} (hf : FsA (Out (But T g) n q) u h F) (hg : u.grownBy u' (some g)) : FsA (Out T n q) u' h F :=
 hf.chg (S := fun b => b = g) (Chg.of_grown hg (fun k e => .inl (by injection e with e; exact e.symm))) (fun b hb _ => ⟨hb.1.2,hb.1.1,hb.2⟩)
theorem blk_ne {u : World} {a b : Nat} {cs ds : Array Value} {U V : TypeId} (h : Blk u a cs U) (k : Blk u b ds V) (hne : U ≠ V) : a ≠ b := by
 rintro rfl
 unfold Blk at h k
 rw [h] at k
 injection k with k
 injection k with _ k
 exact hne k
structure MoveOk (F : Fs) (s t : Spt) (dir : Bool) : Prop where
 f1 : SmF F
 n1 : ∃ n,nodeM F s.dir = some n
 f2 : SmF (namedM F s.dir s.name 0)
 n2 : ∃ n,nodeM (namedM F s.dir s.name 0) t.dir = some n
 f3 : dir = true → SmF (namedM (namedM F s.dir s.name 0) t.dir t.name s.ino)
 n3 : dir = true → ∃ n,nodeM (namedM (namedM F s.dir s.name 0) t.dir t.name s.ino) s.dir = some n
 f4 : dir = true → SmF (linkedM (namedM (namedM F s.dir s.name 0) t.dir t.name s.ino) s.dir (-1))
 n4 : dir = true → ∃ n,nodeM (linkedM (namedM (namedM F s.dir s.name 0) t.dir t.name s.ino) s.dir (-1)) t.dir = some n
def ClrOk (F : Fs) (t : Spt) (dir : Bool) : Prop := t.ino ≠ 0 → ∃ nd,nodeM F t.ino = some nd ∧ (dir = true → nd.kind = 2 → nd.ents.length = 0 → RemOk F t) ∧ (dir = false → nd.kind ≠ 2 → UnlOk F t nd.links)
theorem ren_w1 {T : Nat → Prop} (h : Sh) (F : Fs) (old path : ByteArray) (w : World) (hf : FsA T w h F) (hs : SmF F) (hcl : Cl F) (hp : old.size ≤ maxLen) (hp2 : path.size ≤ maxLen) (hT : ∀ b,w.heap.size ≤ b → T b) {sd si er : Int} {sn : ByteArray} (hR : fndM F old = (⟨sd,sn,si⟩,er)) (he : er ≠ 0) :
 Calls Tryz.prog 52 #[.agg #[.slice h.a h.n h.c],.string old,.string path] w (AnsE T (er,F) w) := by
 obtain ⟨W,hW⟩ : ∃ W,(w.alloc (.cells #[.slice h.a h.n h.c] 29)).alloc (.cells #[.slice none 0 0] 29) = W := ⟨_,rfl⟩
 have I0 := hQ_ (InvF.start hf)
 rw [hW] at I0
 have HW := hQ_ hW
 have W_0 := cZ0 I0.out.fs
 have HFI := hQ_ (fun u (hl : FsA (Out T w.heap.size (w.heap.size + 1)) u h F) => find_calls h F old u hl hs hcl hp)
 unfold FndE at HFI
 rw [hR] at HFI
 dsimp only [spotA] at HFI
 have d1 : (er != 0) = true := by simpa using he
 clear hf hs hcl hp hp2 hT hW hR he
 go_enter Tryz.func52,Tryz.ntmps52
 go_wp2_with fail
 rw [HW.out]
 go_wp2_with fail
 refine (HFI.out W I0.out.lies).mono ?_
 rintro e v1 ⟨rfl,hb1⟩
 have hbU1 := nW_ hb1 (.cells #[.int .u32 sd,.string sn,.int .u32 si] 156)
 have I1 := hQ_ (I0.out.below hbU1)
 have A1 := hQ_ (Blk.new_ v1 #[.int .u32 sd,.string sn,.int .u32 si] 156)
 have f1_0 := cZ0 I1.out.fs
 have f1_A0 := cC3 A1.out
 clear hbU1 W_0 hb1
 go_wp2_with fail
 have r1 := cZ0 I1.out.res
 have r2 : (v1.alloc (.cells #[.int .u32 sd,.string sn,.int .u32 si] 156)).frozen? ⟨(w.heap.size + 1),0,none⟩ = false := I1.out.res.frozen 0
 go_region_law (fail)
 all_goals
  obtain ⟨f1,f2,f3⟩ := I1.out.ret' I1.out.lies (.slice h.a h.n h.c)
  have HF1 := hQ_ (And.intro f1 f2)
  have HF3 := hQ_ f3
  clear f1 f2 f3
  go_wp2_with fail
  first
   | exact bodyPost_ret (v := .tuple #[.int .i64 (er),.agg #[.slice h.a h.n h.c]]) (results_tmp_row rfl _ _ (w.heap.size + 1) 29 _ (0,0) _ rfl _ rfl HF3.out Tryz.underlying29 rfl info_fs) rfl (AnsE.of rfl HF1.out)
   | exact bodyPost_ret (v := .tuple #[.int .i64 (er),.agg #[.slice h.a h.n h.c]]) (results_tmp_row rfl _ _ (w.heap.size + 1) 29 _ (0,0) _ rfl _ rfl HF3.out.drew Tryz.underlying29 rfl info_fs) rfl (AnsE.of rfl ⟨HF1.out.1.below ((Below.refl _ _).drew),HF1.out.2.drew⟩)
theorem ren_w2 {T : Nat → Prop} (h : Sh) (F : Fs) (old path : ByteArray) (w : World) (hf : FsA T w h F) (hs : SmF F) (hcl : Cl F) (hp : old.size ≤ maxLen) (hp2 : path.size ≤ maxLen) (hT : ∀ b,w.heap.size ≤ b → T b) {sd si : Int} {sn : ByteArray} (hR : fndM F old = (⟨sd,sn,si⟩,0)) (h1 : si = 1) :
 Calls Tryz.prog 52 #[.agg #[.slice h.a h.n h.c],.string old,.string path] w (AnsE T (29,F) w) := by
 obtain ⟨W,hW⟩ : ∃ W,(w.alloc (.cells #[.slice h.a h.n h.c] 29)).alloc (.cells #[.slice none 0 0] 29) = W := ⟨_,rfl⟩
 have I0 := hQ_ (InvF.start hf)
 rw [hW] at I0
 have HW := hQ_ hW
 have W_0 := cZ0 I0.out.fs
 have HFI := hQ_ (fun u (hl : FsA (Out T w.heap.size (w.heap.size + 1)) u h F) => find_calls h F old u hl hs hcl hp)
 unfold FndE at HFI
 rw [hR] at HFI
 dsimp only [spotA] at HFI
 have d1 : (si == 1) = true := by simpa using h1
 clear hf hs hcl hp hp2 hT hW hR h1
 go_enter Tryz.func52,Tryz.ntmps52
 go_wp2_with fail
 rw [HW.out]
 go_wp2_with fail
 refine (HFI.out W I0.out.lies).mono ?_
 rintro e v1 ⟨rfl,hb1⟩
 have hbU1 := nW_ hb1 (.cells #[.int .u32 sd,.string sn,.int .u32 si] 156)
 have I1 := hQ_ (I0.out.below hbU1)
 have A1 := hQ_ (Blk.new_ v1 #[.int .u32 sd,.string sn,.int .u32 si] 156)
 have f1_0 := cZ0 I1.out.fs
 have f1_A0 := cC3 A1.out
 clear hbU1 W_0 hb1
 go_wp2_with fail
 have r1 := cZ0 I1.out.res
 have r2 : (v1.alloc (.cells #[.int .u32 sd,.string sn,.int .u32 si] 156)).frozen? ⟨(w.heap.size + 1),0,none⟩ = false := I1.out.res.frozen 0
 go_region_law (fail)
 all_goals
  obtain ⟨f1,f2,f3⟩ := I1.out.ret' I1.out.lies (.slice h.a h.n h.c)
  have HF1 := hQ_ (And.intro f1 f2)
  have HF3 := hQ_ f3
  clear f1 f2 f3
  go_wp2_with fail
  first
   | exact bodyPost_ret (v := .tuple #[.int .i64 (29),.agg #[.slice h.a h.n h.c]]) (results_tmp_row rfl _ _ (w.heap.size + 1) 29 _ (0,0) _ rfl _ rfl HF3.out Tryz.underlying29 rfl info_fs) rfl (AnsE.of rfl HF1.out)
   | exact bodyPost_ret (v := .tuple #[.int .i64 (29),.agg #[.slice h.a h.n h.c]]) (results_tmp_row rfl _ _ (w.heap.size + 1) 29 _ (0,0) _ rfl _ rfl HF3.out.drew Tryz.underlying29 rfl info_fs) rfl (AnsE.of rfl ⟨HF1.out.1.below ((Below.refl _ _).drew),HF1.out.2.drew⟩)
theorem ren_w3 {T : Nat → Prop} (h : Sh) (F : Fs) (old path : ByteArray) (w : World) (hf : FsA T w h F) (hs : SmF F) (hcl : Cl F) (hp : old.size ≤ maxLen) (hp2 : path.size ≤ maxLen) (hT : ∀ b,w.heap.size ≤ b → T b) {sd si : Int} {sn : ByteArray} (hR : fndM F old = (⟨sd,sn,si⟩,0)) (h1 : si ≠ 1) (h0 : si = 0) :
 Calls Tryz.prog 52 #[.agg #[.slice h.a h.n h.c],.string old,.string path] w (AnsE T (10,F) w) := by
 obtain ⟨W,hW⟩ : ∃ W,(w.alloc (.cells #[.slice h.a h.n h.c] 29)).alloc (.cells #[.slice none 0 0] 29) = W := ⟨_,rfl⟩
 have I0 := hQ_ (InvF.start hf)
 rw [hW] at I0
 have HW := hQ_ hW
 have W_0 := cZ0 I0.out.fs
 have HFI := hQ_ (fun u (hl : FsA (Out T w.heap.size (w.heap.size + 1)) u h F) => find_calls h F old u hl hs hcl hp)
 unfold FndE at HFI
 rw [hR] at HFI
 dsimp only [spotA] at HFI
 have d0 : (si == 1) = false := by simpa using h1
 have d1 : (si == 0) = true := by simpa using h0
 clear hf hs hcl hp hp2 hT hW hR h1 h0
 go_enter Tryz.func52,Tryz.ntmps52
 go_wp2_with fail
 rw [HW.out]
 go_wp2_with fail
 refine (HFI.out W I0.out.lies).mono ?_
 rintro e v1 ⟨rfl,hb1⟩
 have hbU1 := nW_ hb1 (.cells #[.int .u32 sd,.string sn,.int .u32 si] 156)
 have I1 := hQ_ (I0.out.below hbU1)
 have A1 := hQ_ (Blk.new_ v1 #[.int .u32 sd,.string sn,.int .u32 si] 156)
 have f1_0 := cZ0 I1.out.fs
 have f1_A0 := cC3 A1.out
 clear hbU1 W_0 hb1
 go_wp2_with fail
 have r1 := cZ0 I1.out.res
 have r2 : (v1.alloc (.cells #[.int .u32 sd,.string sn,.int .u32 si] 156)).frozen? ⟨(w.heap.size + 1),0,none⟩ = false := I1.out.res.frozen 0
 go_region_law (fail)
 all_goals
  obtain ⟨f1,f2,f3⟩ := I1.out.ret' I1.out.lies (.slice h.a h.n h.c)
  have HF1 := hQ_ (And.intro f1 f2)
  have HF3 := hQ_ f3
  clear f1 f2 f3
  go_wp2_with fail
  first
   | exact bodyPost_ret (v := .tuple #[.int .i64 (10),.agg #[.slice h.a h.n h.c]]) (results_tmp_row rfl _ _ (w.heap.size + 1) 29 _ (0,0) _ rfl _ rfl HF3.out Tryz.underlying29 rfl info_fs) rfl (AnsE.of rfl HF1.out)
   | exact bodyPost_ret (v := .tuple #[.int .i64 (10),.agg #[.slice h.a h.n h.c]]) (results_tmp_row rfl _ _ (w.heap.size + 1) 29 _ (0,0) _ rfl _ rfl HF3.out.drew Tryz.underlying29 rfl info_fs) rfl (AnsE.of rfl ⟨HF1.out.1.below ((Below.refl _ _).drew),HF1.out.2.drew⟩)
theorem ren_w4 {T : Nat → Prop} (h : Sh) (F : Fs) (old path : ByteArray) (w : World) (hf : FsA T w h F) (hs : SmF F) (hcl : Cl F) (hp : old.size ≤ maxLen) (hp2 : path.size ≤ maxLen) (hT : ∀ b,w.heap.size ≤ b → T b) {sd si : Int} {sn : ByteArray} (hR : fndM F old = (⟨sd,sn,si⟩,0)) (h1 : si ≠ 1) (h0 : si ≠ 0) {td ti er2 : Int} {tn : ByteArray} (hR2 : fndM F path = (⟨td,tn,ti⟩,er2)) (he2 : er2 ≠ 0) :
 Calls Tryz.prog 52 #[.agg #[.slice h.a h.n h.c],.string old,.string path] w (AnsE T (er2,F) w) := by
 obtain ⟨W,hW⟩ : ∃ W,(w.alloc (.cells #[.slice h.a h.n h.c] 29)).alloc (.cells #[.slice none 0 0] 29) = W := ⟨_,rfl⟩
 have I0 := hQ_ (InvF.start hf)
 rw [hW] at I0
 have HW := hQ_ hW
 have W_0 := cZ0 I0.out.fs
 have HFI := hQ_ (fun u (hl : FsA (Out T w.heap.size (w.heap.size + 1)) u h F) => find_calls h F old u hl hs hcl hp)
 unfold FndE at HFI
 have HFJ := hQ_ (fun u (hl : FsA (Out T w.heap.size (w.heap.size + 1)) u h F) => find_calls h F path u hl hs hcl hp2)
 unfold FndE at HFJ
 rw [hR] at HFI
 dsimp only [spotA] at HFI
 rw [hR2] at HFJ
 dsimp only [spotA] at HFJ
 have d0 : (si == 1) = false := by simpa using h1
 have d1 : (si == 0) = false := by simpa using h0
 have d2 : (er2 != 0) = true := by simpa using he2
 clear hf hs hcl hp hp2 hT hW hR hR2 h1 h0 he2
 go_enter Tryz.func52,Tryz.ntmps52
 go_wp2_with fail
 rw [HW.out]
 go_wp2_with fail
 refine (HFI.out W I0.out.lies).mono ?_
 rintro e v1 ⟨rfl,hb1⟩
 have hbU1 := nW_ hb1 (.cells #[.int .u32 sd,.string sn,.int .u32 si] 156)
 have I1 := hQ_ (I0.out.below hbU1)
 have A1 := hQ_ (Blk.new_ v1 #[.int .u32 sd,.string sn,.int .u32 si] 156)
 have f1_0 := cZ0 I1.out.fs
 have f1_A0 := cC3 A1.out
 clear hbU1 W_0 hb1
 go_wp2_with fail
 refine (HFJ.out (v1.alloc (.cells #[.int .u32 sd,.string sn,.int .u32 si] 156)) I1.out.lies).mono ?_
 rintro e v2 ⟨rfl,hb2⟩
 have hbU2 := nW_ hb2 (.cells #[.int .u32 td,.string tn,.int .u32 ti] 156)
 have I2 := hQ_ (I1.out.below hbU2)
 have A2 := hQ_ (A1.out.below hbU2)
 have B2 := hQ_ (Blk.new_ v2 #[.int .u32 td,.string tn,.int .u32 ti] 156)
 have f2_0 := cZ0 I2.out.fs
 have f2_A0 := cC3 A2.out
 have f2_B0 := cC3 B2.out
 clear hbU2 f1_0 hb2 f1_A0
 go_wp2_with fail
 have r1 := cZ0 I2.out.res
 have r2 : (v2.alloc (.cells #[.int .u32 td,.string tn,.int .u32 ti] 156)).frozen? ⟨(w.heap.size + 1),0,none⟩ = false := I2.out.res.frozen 0
 go_region_law (fail)
 all_goals
  obtain ⟨f1,f2,f3⟩ := I2.out.ret' I2.out.lies (.slice h.a h.n h.c)
  have HF1 := hQ_ (And.intro f1 f2)
  have HF3 := hQ_ f3
  clear f1 f2 f3
  go_wp2_with fail
  first
   | exact bodyPost_ret (v := .tuple #[.int .i64 (er2),.agg #[.slice h.a h.n h.c]]) (results_tmp_row rfl _ _ (w.heap.size + 1) 29 _ (0,0) _ rfl _ rfl HF3.out Tryz.underlying29 rfl info_fs) rfl (AnsE.of rfl HF1.out)
   | exact bodyPost_ret (v := .tuple #[.int .i64 (er2),.agg #[.slice h.a h.n h.c]]) (results_tmp_row rfl _ _ (w.heap.size + 1) 29 _ (0,0) _ rfl _ rfl HF3.out.drew Tryz.underlying29 rfl info_fs) rfl (AnsE.of rfl ⟨HF1.out.1.below ((Below.refl _ _).drew),HF1.out.2.drew⟩)
theorem ren_w5 {T : Nat → Prop} (h : Sh) (F : Fs) (old path : ByteArray) (w : World) (hf : FsA T w h F) (hs : SmF F) (hcl : Cl F) (hp : old.size ≤ maxLen) (hp2 : path.size ≤ maxLen) (hT : ∀ b,w.heap.size ≤ b → T b) {sd si : Int} {sn : ByteArray} (hR : fndM F old = (⟨sd,sn,si⟩,0)) (h1 : si ≠ 1) (h0 : si ≠ 0) {td ti : Int} {tn : ByteArray} (hR2 : fndM F path = (⟨td,tn,ti⟩,0)) (h2 : ti = 1) :
 Calls Tryz.prog 52 #[.agg #[.slice h.a h.n h.c],.string old,.string path] w (AnsE T (29,F) w) := by
 obtain ⟨W,hW⟩ : ∃ W,(w.alloc (.cells #[.slice h.a h.n h.c] 29)).alloc (.cells #[.slice none 0 0] 29) = W := ⟨_,rfl⟩
 have I0 := hQ_ (InvF.start hf)
 rw [hW] at I0
 have HW := hQ_ hW
 have W_0 := cZ0 I0.out.fs
 have HFI := hQ_ (fun u (hl : FsA (Out T w.heap.size (w.heap.size + 1)) u h F) => find_calls h F old u hl hs hcl hp)
 unfold FndE at HFI
 have HFJ := hQ_ (fun u (hl : FsA (Out T w.heap.size (w.heap.size + 1)) u h F) => find_calls h F path u hl hs hcl hp2)
 unfold FndE at HFJ
 rw [hR] at HFI
 dsimp only [spotA] at HFI
 rw [hR2] at HFJ
 dsimp only [spotA] at HFJ
 have d0 : (si == 1) = false := by simpa using h1
 have d1 : (si == 0) = false := by simpa using h0
 have d2 : (ti == 1) = true := by simpa using h2
 clear hf hs hcl hp hp2 hT hW hR hR2 h1 h0 h2
 go_enter Tryz.func52,Tryz.ntmps52
 go_wp2_with fail
 rw [HW.out]
 go_wp2_with fail
 refine (HFI.out W I0.out.lies).mono ?_
 rintro e v1 ⟨rfl,hb1⟩
 have hbU1 := nW_ hb1 (.cells #[.int .u32 sd,.string sn,.int .u32 si] 156)
 have I1 := hQ_ (I0.out.below hbU1)
 have A1 := hQ_ (Blk.new_ v1 #[.int .u32 sd,.string sn,.int .u32 si] 156)
 have f1_0 := cZ0 I1.out.fs
 have f1_A0 := cC3 A1.out
 clear hbU1 W_0 hb1
 go_wp2_with fail
 refine (HFJ.out (v1.alloc (.cells #[.int .u32 sd,.string sn,.int .u32 si] 156)) I1.out.lies).mono ?_
 rintro e v2 ⟨rfl,hb2⟩
 have hbU2 := nW_ hb2 (.cells #[.int .u32 td,.string tn,.int .u32 ti] 156)
 have I2 := hQ_ (I1.out.below hbU2)
 have A2 := hQ_ (A1.out.below hbU2)
 have B2 := hQ_ (Blk.new_ v2 #[.int .u32 td,.string tn,.int .u32 ti] 156)
 have f2_0 := cZ0 I2.out.fs
 have f2_A0 := cC3 A2.out
 have f2_B0 := cC3 B2.out
 clear hbU2 f1_0 hb2 f1_A0
 go_wp2_with fail
 have r1 := cZ0 I2.out.res
 have r2 : (v2.alloc (.cells #[.int .u32 td,.string tn,.int .u32 ti] 156)).frozen? ⟨(w.heap.size + 1),0,none⟩ = false := I2.out.res.frozen 0
 go_region_law (fail)
 all_goals
  obtain ⟨f1,f2,f3⟩ := I2.out.ret' I2.out.lies (.slice h.a h.n h.c)
  have HF1 := hQ_ (And.intro f1 f2)
  have HF3 := hQ_ f3
  clear f1 f2 f3
  go_wp2_with fail
  first
   | exact bodyPost_ret (v := .tuple #[.int .i64 (29),.agg #[.slice h.a h.n h.c]]) (results_tmp_row rfl _ _ (w.heap.size + 1) 29 _ (0,0) _ rfl _ rfl HF3.out Tryz.underlying29 rfl info_fs) rfl (AnsE.of rfl HF1.out)
   | exact bodyPost_ret (v := .tuple #[.int .i64 (29),.agg #[.slice h.a h.n h.c]]) (results_tmp_row rfl _ _ (w.heap.size + 1) 29 _ (0,0) _ rfl _ rfl HF3.out.drew Tryz.underlying29 rfl info_fs) rfl (AnsE.of rfl ⟨HF1.out.1.below ((Below.refl _ _).drew),HF1.out.2.drew⟩)
theorem ren_w6 {T : Nat → Prop} (h : Sh) (F : Fs) (old path : ByteArray) (w : World) (hf : FsA T w h F) (hs : SmF F) (hcl : Cl F) (hp : old.size ≤ maxLen) (hp2 : path.size ≤ maxLen) (hT : ∀ b,w.heap.size ≤ b → T b) {sd si : Int} {sn : ByteArray} (hR : fndM F old = (⟨sd,sn,si⟩,0)) (h1 : si ≠ 1) (h0 : si ≠ 0) {td ti : Int} {tn : ByteArray} (hR2 : fndM F path = (⟨td,tn,ti⟩,0)) (h2 : ti ≠ 1) (h3 : ti = si) :
 Calls Tryz.prog 52 #[.agg #[.slice h.a h.n h.c],.string old,.string path] w (AnsE T (0,F) w) := by
 obtain ⟨W,hW⟩ : ∃ W,(w.alloc (.cells #[.slice h.a h.n h.c] 29)).alloc (.cells #[.slice none 0 0] 29) = W := ⟨_,rfl⟩
 have I0 := hQ_ (InvF.start hf)
 rw [hW] at I0
 have HW := hQ_ hW
 have W_0 := cZ0 I0.out.fs
 have HFI := hQ_ (fun u (hl : FsA (Out T w.heap.size (w.heap.size + 1)) u h F) => find_calls h F old u hl hs hcl hp)
 unfold FndE at HFI
 have HFJ := hQ_ (fun u (hl : FsA (Out T w.heap.size (w.heap.size + 1)) u h F) => find_calls h F path u hl hs hcl hp2)
 unfold FndE at HFJ
 rw [hR] at HFI
 dsimp only [spotA] at HFI
 rw [hR2] at HFJ
 dsimp only [spotA] at HFJ
 have d0 : (si == 1) = false := by simpa using h1
 have d1 : (si == 0) = false := by simpa using h0
 have d2 : (ti == 1) = false := by simpa using h2
 have d3 : (ti == si) = true := by simpa using h3
 clear hf hs hcl hp hp2 hT hW hR hR2 h1 h0 h2 h3
 go_enter Tryz.func52,Tryz.ntmps52
 go_wp2_with fail
 rw [HW.out]
 go_wp2_with fail
 refine (HFI.out W I0.out.lies).mono ?_
 rintro e v1 ⟨rfl,hb1⟩
 have hbU1 := nW_ hb1 (.cells #[.int .u32 sd,.string sn,.int .u32 si] 156)
 have I1 := hQ_ (I0.out.below hbU1)
 have A1 := hQ_ (Blk.new_ v1 #[.int .u32 sd,.string sn,.int .u32 si] 156)
 have f1_0 := cZ0 I1.out.fs
 have f1_A0 := cC3 A1.out
 clear hbU1 W_0 hb1
 go_wp2_with fail
 refine (HFJ.out (v1.alloc (.cells #[.int .u32 sd,.string sn,.int .u32 si] 156)) I1.out.lies).mono ?_
 rintro e v2 ⟨rfl,hb2⟩
 have hbU2 := nW_ hb2 (.cells #[.int .u32 td,.string tn,.int .u32 ti] 156)
 have I2 := hQ_ (I1.out.below hbU2)
 have A2 := hQ_ (A1.out.below hbU2)
 have B2 := hQ_ (Blk.new_ v2 #[.int .u32 td,.string tn,.int .u32 ti] 156)
 have f2_0 := cZ0 I2.out.fs
 have f2_A0 := cC3 A2.out
 have f2_B0 := cC3 B2.out
 clear hbU2 f1_0 hb2 f1_A0
 go_wp2_with fail
 have r1 := cZ0 I2.out.res
 have r2 : (v2.alloc (.cells #[.int .u32 td,.string tn,.int .u32 ti] 156)).frozen? ⟨(w.heap.size + 1),0,none⟩ = false := I2.out.res.frozen 0
 go_region_law (fail)
 all_goals
  obtain ⟨f1,f2,f3⟩ := I2.out.ret' I2.out.lies (.slice h.a h.n h.c)
  have HF1 := hQ_ (And.intro f1 f2)
  have HF3 := hQ_ f3
  clear f1 f2 f3
  go_wp2_with fail
  first
   | exact bodyPost_ret (v := .tuple #[.int .i64 (0),.agg #[.slice h.a h.n h.c]]) (results_tmp_row rfl _ _ (w.heap.size + 1) 29 _ (0,0) _ rfl _ rfl HF3.out Tryz.underlying29 rfl info_fs) rfl (AnsE.of rfl HF1.out)
   | exact bodyPost_ret (v := .tuple #[.int .i64 (0),.agg #[.slice h.a h.n h.c]]) (results_tmp_row rfl _ _ (w.heap.size + 1) 29 _ (0,0) _ rfl _ rfl HF3.out.drew Tryz.underlying29 rfl info_fs) rfl (AnsE.of rfl ⟨HF1.out.1.below ((Below.refl _ _).drew),HF1.out.2.drew⟩)
theorem ren_w7 {T : Nat → Prop} (h : Sh) (F : Fs) (old path : ByteArray) (w : World) (hf : FsA T w h F) (hs : SmF F) (hcl : Cl F) (hp : old.size ≤ maxLen) (hp2 : path.size ≤ maxLen) (hT : ∀ b,w.heap.size ≤ b → T b) {sd si : Int} {sn : ByteArray} (hR : fndM F old = (⟨sd,sn,si⟩,0)) (h1 : si ≠ 1) (h0 : si ≠ 0) {td ti : Int} {tn : ByteArray} (hR2 : fndM F path = (⟨td,tn,ti⟩,0)) (h2 : ti ≠ 1) (h3 : ti ≠ si) {ni nk nl : Int} {nd : ByteArray} {ne : List En} (hn : nodeM F si = some ⟨ni,nk,nl,nd,ne⟩) (hk : nk = 2) (hu : under (spl old).1 (spl path).1 = true) :
 Calls Tryz.prog 52 #[.agg #[.slice h.a h.n h.c],.string old,.string path] w (AnsE T (15,F) w) := by
 obtain ⟨W,hW⟩ : ∃ W,(w.alloc (.cells #[.slice h.a h.n h.c] 29)).alloc (.cells #[.slice none 0 0] 29) = W := ⟨_,rfl⟩
 have I0 := hQ_ (InvF.start hf)
 rw [hW] at I0
 have HW := hQ_ hW
 have W_0 := cZ0 I0.out.fs
 have HFI := hQ_ (fun u (hl : FsA (Out T w.heap.size (w.heap.size + 1)) u h F) => find_calls h F old u hl hs hcl hp)
 unfold FndE at HFI
 have HFJ := hQ_ (fun u (hl : FsA (Out T w.heap.size (w.heap.size + 1)) u h F) => find_calls h F path u hl hs hcl hp2)
 unfold FndE at HFJ
 have HUN := hQ_ (fun w => under_calls old path w hp hp2)
 rw [hR] at HFI
 dsimp only [spotA] at HFI
 rw [hR2] at HFJ
 dsimp only [spotA] at HFJ
 have d0 : (si == 1) = false := by simpa using h1
 have d1 : (si == 0) = false := by simpa using h0
 have HNO := hQ_ (fun u (hl : FsA (Out T w.heap.size (w.heap.size + 1)) u h F) => node_calls (T := Out T w.heap.size (w.heap.size + 1)) h F ⟨sd,sn,si⟩ ⟨ni,nk,nl,nd,ne⟩ u hl hn hs.len)
 unfold NodeE at HNO
 dsimp only [spotA] at HNO
 have d2 : (ti == 1) = false := by simpa using h2
 have d3 : (ti == si) = false := by simpa using h3
 have d4 : (nk == 2) = true := by simpa using hk
 have HUX := hQ_ hu
 clear hu
 clear hf hs hcl hp hp2 hT hW hR hR2 h1 h0 h2 h3 hk hn
 go_enter Tryz.func52,Tryz.ntmps52
 go_wp2_with fail
 rw [HW.out]
 go_wp2_with fail
 refine (HFI.out W I0.out.lies).mono ?_
 rintro e v1 ⟨rfl,hb1⟩
 have hbU1 := nW_ hb1 (.cells #[.int .u32 sd,.string sn,.int .u32 si] 156)
 have I1 := hQ_ (I0.out.below hbU1)
 have A1 := hQ_ (Blk.new_ v1 #[.int .u32 sd,.string sn,.int .u32 si] 156)
 have f1_0 := cZ0 I1.out.fs
 have f1_A0 := cC3 A1.out
 clear hbU1 W_0 hb1
 go_wp2_with fail
 refine (HFJ.out (v1.alloc (.cells #[.int .u32 sd,.string sn,.int .u32 si] 156)) I1.out.lies).mono ?_
 rintro e v2 ⟨rfl,hb2⟩
 have hbU2 := nW_ hb2 (.cells #[.int .u32 td,.string tn,.int .u32 ti] 156)
 have I2 := hQ_ (I1.out.below hbU2)
 have A2 := hQ_ (A1.out.below hbU2)
 have B2 := hQ_ (Blk.new_ v2 #[.int .u32 td,.string tn,.int .u32 ti] 156)
 have f2_0 := cZ0 I2.out.fs
 have f2_A0 := cC3 A2.out
 have f2_B0 := cC3 B2.out
 clear hbU2 f1_0 hb2 f1_A0
 go_wp2_with fail
 refine (HNO.out (v2.alloc (.cells #[.int .u32 td,.string tn,.int .u32 ti] 156)) I2.out.lies).mono ?_
 rintro e v3 ⟨h3,rfl,hf3,hb3⟩
 have hz3 := hf3.len
 dsimp only [nodeV] at hz3 ⊢
 have hbU3 : Below (v2.alloc (.cells #[.int .u32 td,.string tn,.int .u32 ti] 156)).heap.size (v2.alloc (.cells #[.int .u32 td,.string tn,.int .u32 ti] 156)) v3 := hb3
 have I3 := hQ_ (I2.out.below hbU3)
 have A3 := hQ_ (A2.out.below hbU3)
 have B3 := hQ_ (B2.out.below hbU3)
 have f3_0 := cZ0 I3.out.fs
 have f3_A0 := cC3 A3.out
 have f3_B0 := cC3 B3.out
 have q3_1 := field_1 (.int .u32 ni) (.int .u8 nk) (.int .i64 nl) (.string nd) (.slice h3.a h3.n h3.c) v3
 have q3_2 := field_2 (.int .u32 ni) (.int .u8 nk) (.int .i64 nl) (.string nd) (.slice h3.a h3.n h3.c) v3
 clear hbU3 f2_0 hb3 hf3 f2_A0 f2_B0
 clear hz3
 go_wp2_with fail
 refine (HUN.out _).mono ?_
 rw [HUX.out]
 rintro e u4 ⟨rfl,hb4⟩
 have I4 := hQ_ (I3.out.below hb4)
 have A4 := hQ_ (A3.out.below hb4)
 have B4 := hQ_ (B3.out.below hb4)
 have f4_0 := cZ0 I4.out.fs
 have f4_A0 := cC3 A4.out
 have f4_B0 := cC3 B4.out
 clear hb4 f3_0 f3_A0 f3_B0
 go_wp2_with fail
 have r1 := cZ0 I4.out.res
 have r2 : u4.frozen? ⟨(w.heap.size + 1),0,none⟩ = false := I4.out.res.frozen 0
 go_region_law (fail)
 all_goals
  obtain ⟨f1,f2,f3⟩ := I4.out.ret' I4.out.lies (.slice h.a h.n h.c)
  have HF1 := hQ_ (And.intro f1 f2)
  have HF3 := hQ_ f3
  clear f1 f2 f3
  go_wp2_with fail
  first
   | exact bodyPost_ret (v := .tuple #[.int .i64 (15),.agg #[.slice h.a h.n h.c]]) (results_tmp_row rfl _ _ (w.heap.size + 1) 29 _ (0,0) _ rfl _ rfl HF3.out Tryz.underlying29 rfl info_fs) rfl (AnsE.of rfl HF1.out)
   | exact bodyPost_ret (v := .tuple #[.int .i64 (15),.agg #[.slice h.a h.n h.c]]) (results_tmp_row rfl _ _ (w.heap.size + 1) 29 _ (0,0) _ rfl _ rfl HF3.out.drew Tryz.underlying29 rfl info_fs) rfl (AnsE.of rfl ⟨HF1.out.1.below ((Below.refl _ _).drew),HF1.out.2.drew⟩)
theorem ren_w8t {T : Nat → Prop} (h : Sh) (F : Fs) (old path : ByteArray) (w : World) (hf : FsA T w h F) (hs : SmF F) (hcl : Cl F) (hp : old.size ≤ maxLen) (hp2 : path.size ≤ maxLen) (hT : ∀ b,w.heap.size ≤ b → T b) {sd si : Int} {sn : ByteArray} (hR : fndM F old = (⟨sd,sn,si⟩,0)) (h1 : si ≠ 1) (h0 : si ≠ 0) {td ti : Int} {tn : ByteArray} (hR2 : fndM F path = (⟨td,tn,ti⟩,0)) (h2 : ti ≠ 1) (h3 : ti ≠ si) {ni nk nl : Int} {nd : ByteArray} {ne : List En} (hn : nodeM F si = some ⟨ni,nk,nl,nd,ne⟩) (hk : nk = 2) (hu : under (spl old).1 (spl path).1 = false) (h4 : ti = 0) (hmv : MoveOk F ⟨sd,sn,si⟩ ⟨td,tn,ti⟩ true) :
 Calls Tryz.prog 52 #[.agg #[.slice h.a h.n h.c],.string old,.string path] w (AnsE T (0,moveAt F ⟨sd,sn,si⟩ ⟨td,tn,ti⟩ true) w) := by
 obtain ⟨W,hW⟩ : ∃ W,(w.alloc (.cells #[.slice h.a h.n h.c] 29)).alloc (.cells #[.slice none 0 0] 29) = W := ⟨_,rfl⟩
 have I0 := hQ_ (InvF.start hf)
 rw [hW] at I0
 have HW := hQ_ hW
 have W_0 := cZ0 I0.out.fs
 have HFI := hQ_ (fun u (hl : FsA (Out T w.heap.size (w.heap.size + 1)) u h F) => find_calls h F old u hl hs hcl hp)
 unfold FndE at HFI
 have HFJ := hQ_ (fun u (hl : FsA (Out T w.heap.size (w.heap.size + 1)) u h F) => find_calls h F path u hl hs hcl hp2)
 unfold FndE at HFJ
 have HUN := hQ_ (fun w => under_calls old path w hp hp2)
 have HT := hQ_ hT
 have HMV := hQ_ hmv
 obtain ⟨of1,⟨m1,on1⟩,of2,⟨m2,on2⟩,of3,on3,of4,on4⟩ := HMV.out
 dsimp only at of1 on1 of2 on2 of3 on3 of4 on4
 obtain ⟨m3,on3⟩ := on3 rfl
 obtain ⟨m4,on4⟩ := on4 rfl
 have OF3 := hQ_ (of3 rfl)
 have OF4 := hQ_ (of4 rfl)
 have ON3 := hQ_ on3
 have ON4 := hQ_ on4
 clear on3 on4
 have OF1 := hQ_ of1
 have ON1 := hQ_ on1
 have OF2 := hQ_ of2
 have ON2 := hQ_ on2
 clear of1 on1 of2 on2 of3 of4 HMV
 rw [hR] at HFI
 dsimp only [spotA] at HFI
 rw [hR2] at HFJ
 dsimp only [spotA] at HFJ
 have d0 : (si == 1) = false := by simpa using h1
 have d1 : (si == 0) = false := by simpa using h0
 have HNO := hQ_ (fun u (hl : FsA (Out T w.heap.size (w.heap.size + 1)) u h F) => node_calls (T := Out T w.heap.size (w.heap.size + 1)) h F ⟨sd,sn,si⟩ ⟨ni,nk,nl,nd,ne⟩ u hl hn hs.len)
 unfold NodeE at HNO
 dsimp only [spotA] at HNO
 have d2 : (ti == 1) = false := by simpa using h2
 have d3 : (ti == si) = false := by simpa using h3
 have d4 : (nk == 2) = true := by simpa using hk
 have HUX := hQ_ hu
 clear hu
 have d5 : (ti != 0) = false := by simpa using h4
 clear hmv h4
 clear hf hs hcl hp hp2 hT hW hR hR2 h1 h0 h2 h3 hk hn
 go_enter Tryz.func52,Tryz.ntmps52
 go_wp2_with fail
 rw [HW.out]
 go_wp2_with fail
 refine (HFI.out W I0.out.lies).mono ?_
 rintro e v1 ⟨rfl,hb1⟩
 have hbU1 := nW_ hb1 (.cells #[.int .u32 sd,.string sn,.int .u32 si] 156)
 have I1 := hQ_ (I0.out.below hbU1)
 have A1 := hQ_ (Blk.new_ v1 #[.int .u32 sd,.string sn,.int .u32 si] 156)
 have LA : Hid (w.heap.size + 1 ≤ v1.heap.size) := hQ_ (by have := I0.out.lt; have := hb1.size; omega)
 have f1_0 := cZ0 I1.out.fs
 have f1_A0 := cC3 A1.out
 clear hbU1 W_0 hb1
 go_wp2_with fail
 refine (HFJ.out (v1.alloc (.cells #[.int .u32 sd,.string sn,.int .u32 si] 156)) I1.out.lies).mono ?_
 rintro e v2 ⟨rfl,hb2⟩
 have hbU2 := nW_ hb2 (.cells #[.int .u32 td,.string tn,.int .u32 ti] 156)
 have I2 := hQ_ (I1.out.below hbU2)
 have A2 := hQ_ (A1.out.below hbU2)
 have B2 := hQ_ (Blk.new_ v2 #[.int .u32 td,.string tn,.int .u32 ti] 156)
 have LB : Hid (w.heap.size + 1 ≤ v2.heap.size) := hQ_ (by have := I1.out.lt; have := hb2.size; omega)
 have f2_0 := cZ0 I2.out.fs
 have f2_A0 := cC3 A2.out
 have f2_B0 := cC3 B2.out
 clear hbU2 f1_0 hb2 f1_A0
 go_wp2_with fail
 refine (HNO.out (v2.alloc (.cells #[.int .u32 td,.string tn,.int .u32 ti] 156)) I2.out.lies).mono ?_
 rintro e v3 ⟨h3,rfl,hf3,hb3⟩
 have hz3 := hf3.len
 dsimp only [nodeV] at hz3 ⊢
 have hbU3 : Below (v2.alloc (.cells #[.int .u32 td,.string tn,.int .u32 ti] 156)).heap.size (v2.alloc (.cells #[.int .u32 td,.string tn,.int .u32 ti] 156)) v3 := hb3
 have I3 := hQ_ (I2.out.below hbU3)
 have A3 := hQ_ (A2.out.below hbU3)
 have B3 := hQ_ (B2.out.below hbU3)
 have f3_0 := cZ0 I3.out.fs
 have f3_A0 := cC3 A3.out
 have f3_B0 := cC3 B3.out
 have q3_1 := field_1 (.int .u32 ni) (.int .u8 nk) (.int .i64 nl) (.string nd) (.slice h3.a h3.n h3.c) v3
 have q3_2 := field_2 (.int .u32 ni) (.int .u8 nk) (.int .i64 nl) (.string nd) (.slice h3.a h3.n h3.c) v3
 clear hbU3 f2_0 hb3 hf3 f2_A0 f2_B0
 clear hz3
 go_wp2_with fail
 refine (HUN.out _).mono ?_
 rw [HUX.out]
 rintro e u4 ⟨rfl,hb4⟩
 have I4 := hQ_ (I3.out.below hb4)
 have A4 := hQ_ (A3.out.below hb4)
 have B4 := hQ_ (B3.out.below hb4)
 have f4_0 := cZ0 I4.out.fs
 have f4_A0 := cC3 A4.out
 have f4_B0 := cC3 B4.out
 clear hb4 f3_0 f3_A0 f3_B0
 go_wp2_with fail
 refine (named_calls h F sd sn 0 m1 u4 I4.out.lies ON1.out OF1.out (I4.out.room HT.out)).mono ?_
 rintro e u5 ⟨h5,rfl,hf5,hb5⟩
 have I5 := hQ_ (I4.out.below hb5)
 have A5 := hQ_ (A4.out.below hb5)
 have B5 := hQ_ (B4.out.below hb5)
 have f5_0 := cZ0 I5.out.fs
 obtain ⟨f5_A0,f5_A1,f5_A2⟩ := cC3 A5.out
 obtain ⟨f5_B0,f5_B1,f5_B2⟩ := cC3 B5.out
 have L5 := hQ_ hf5
 clear hf5 hb5 f4_0 f4_A0 f4_B0
 go_wp2_with (first | ((with_reducible refine pick none ?_); refine store_blk rfl 29 _ _ rfl w.heap.size #[.slice h5.a h5.n h5.c] rfl rfl 29 _ I5.out.fs info_fs rfl (by simp [Value.oneCell']) ?_; intro u6 hk6 hg6; have I6 := hQ_ (I5.out.put L5.out hg6 hk6); have A6 := hQ_ (A5.out.grown hg6 (by have := LA.out; omega)); have B6 := hQ_ (B5.out.grown hg6 (by have := LB.out; omega)); have f6_0 : u6.cell? ⟨w.heap.size,0,none⟩ = some (.slice h5.a h5.n h5.c) := I6.out.fs.cell 0; have f6_A0 : u6.cell? ⟨v1.heap.size,0,none⟩ = some (.int .u32 sd) := A6.out.cell 0; have f6_A1 : u6.cell? ⟨v1.heap.size,1,none⟩ = some (.string sn) := A6.out.cell 1; have f6_A2 : u6.cell? ⟨v1.heap.size,2,none⟩ = some (.int .u32 si) := A6.out.cell 2; have f6_B0 : u6.cell? ⟨v2.heap.size,0,none⟩ = some (.int .u32 td) := B6.out.cell 0; have f6_B1 : u6.cell? ⟨v2.heap.size,1,none⟩ = some (.string tn) := B6.out.cell 1; have f6_B2 : u6.cell? ⟨v2.heap.size,2,none⟩ = some (.int .u32 ti) := B6.out.cell 2; clear hk6 hg6 f5_0 f5_A0 f5_A1 f5_A2 f5_B0 f5_B1 f5_B2))
 refine (named_calls h5 (namedM F sd sn 0) td tn si m2 u6 I6.out.lies ON2.out OF2.out (I6.out.room HT.out)).mono ?_
 rintro e u7 ⟨h7,rfl,hf7,hb7⟩
 have I7 := hQ_ (I6.out.below hb7)
 have A7 := hQ_ (A6.out.below hb7)
 have B7 := hQ_ (B6.out.below hb7)
 have f7_0 := cZ0 I7.out.fs
 obtain ⟨f7_A0,f7_A1,f7_A2⟩ := cC3 A7.out
 obtain ⟨f7_B0,f7_B1,f7_B2⟩ := cC3 B7.out
 have L7 := hQ_ hf7
 clear hf7 hb7 f6_0 f6_A0 f6_A1 f6_A2 f6_B0 f6_B1 f6_B2
 go_wp2_with (first | ((with_reducible refine pick none ?_); refine store_blk rfl 29 _ _ rfl w.heap.size #[.slice h7.a h7.n h7.c] rfl rfl 29 _ I7.out.fs info_fs rfl (by simp [Value.oneCell']) ?_; intro u8 hk8 hg8; have I8 := hQ_ (I7.out.put L7.out hg8 hk8); have A8 := hQ_ (A7.out.grown hg8 (by have := LA.out; omega)); have B8 := hQ_ (B7.out.grown hg8 (by have := LB.out; omega)); have f8_0 : u8.cell? ⟨w.heap.size,0,none⟩ = some (.slice h7.a h7.n h7.c) := I8.out.fs.cell 0; have f8_A0 : u8.cell? ⟨v1.heap.size,0,none⟩ = some (.int .u32 sd) := A8.out.cell 0; have f8_A1 : u8.cell? ⟨v1.heap.size,1,none⟩ = some (.string sn) := A8.out.cell 1; have f8_A2 : u8.cell? ⟨v1.heap.size,2,none⟩ = some (.int .u32 si) := A8.out.cell 2; have f8_B0 : u8.cell? ⟨v2.heap.size,0,none⟩ = some (.int .u32 td) := B8.out.cell 0; have f8_B1 : u8.cell? ⟨v2.heap.size,1,none⟩ = some (.string tn) := B8.out.cell 1; have f8_B2 : u8.cell? ⟨v2.heap.size,2,none⟩ = some (.int .u32 ti) := B8.out.cell 2; clear hk8 hg8 f7_0 f7_A0 f7_A1 f7_A2 f7_B0 f7_B1 f7_B2))
 refine (linked_calls h7 (namedM (namedM F sd sn 0) td tn si) sd (-1) m3 u8 I8.out.lies ON3.out OF3.out (by omega) (by omega) (I8.out.room HT.out)).mono ?_
 rintro e u9 ⟨h9,rfl,hf9,hb9⟩
 have I9 := hQ_ (I8.out.below hb9)
 have A9 := hQ_ (A8.out.below hb9)
 have B9 := hQ_ (B8.out.below hb9)
 have f9_0 := cZ0 I9.out.fs
 obtain ⟨f9_A0,f9_A1,f9_A2⟩ := cC3 A9.out
 obtain ⟨f9_B0,f9_B1,f9_B2⟩ := cC3 B9.out
 have L9 := hQ_ hf9
 clear hf9 hb9 f8_0 f8_A0 f8_A1 f8_A2 f8_B0 f8_B1 f8_B2
 go_wp2_with (first | ((with_reducible refine pick none ?_); refine store_blk rfl 29 _ _ rfl w.heap.size #[.slice h9.a h9.n h9.c] rfl rfl 29 _ I9.out.fs info_fs rfl (by simp [Value.oneCell']) ?_; intro u10 hk10 hg10; have I10 := hQ_ (I9.out.put L9.out hg10 hk10); have A10 := hQ_ (A9.out.grown hg10 (by have := LA.out; omega)); have B10 := hQ_ (B9.out.grown hg10 (by have := LB.out; omega)); have f10_0 : u10.cell? ⟨w.heap.size,0,none⟩ = some (.slice h9.a h9.n h9.c) := I10.out.fs.cell 0; have f10_A0 : u10.cell? ⟨v1.heap.size,0,none⟩ = some (.int .u32 sd) := A10.out.cell 0; have f10_A1 : u10.cell? ⟨v1.heap.size,1,none⟩ = some (.string sn) := A10.out.cell 1; have f10_A2 : u10.cell? ⟨v1.heap.size,2,none⟩ = some (.int .u32 si) := A10.out.cell 2; have f10_B0 : u10.cell? ⟨v2.heap.size,0,none⟩ = some (.int .u32 td) := B10.out.cell 0; have f10_B1 : u10.cell? ⟨v2.heap.size,1,none⟩ = some (.string tn) := B10.out.cell 1; have f10_B2 : u10.cell? ⟨v2.heap.size,2,none⟩ = some (.int .u32 ti) := B10.out.cell 2; clear hk10 hg10 f9_0 f9_A0 f9_A1 f9_A2 f9_B0 f9_B1 f9_B2))
 refine (linked_calls h9 (linkedM (namedM (namedM F sd sn 0) td tn si) sd (-1)) td 1 m4 u10 I10.out.lies ON4.out OF4.out (by omega) (by omega) (I10.out.room HT.out)).mono ?_
 rintro e u11 ⟨h11,rfl,hf11,hb11⟩
 have I11 := hQ_ (I10.out.below hb11)
 have A11 := hQ_ (A10.out.below hb11)
 have B11 := hQ_ (B10.out.below hb11)
 have f11_0 := cZ0 I11.out.fs
 obtain ⟨f11_A0,f11_A1,f11_A2⟩ := cC3 A11.out
 obtain ⟨f11_B0,f11_B1,f11_B2⟩ := cC3 B11.out
 have L11 := hQ_ hf11
 clear hf11 hb11 f10_0 f10_A0 f10_A1 f10_A2 f10_B0 f10_B1 f10_B2
 go_wp2_with (first | ((with_reducible refine pick none ?_); refine store_blk rfl 29 _ _ rfl w.heap.size #[.slice h11.a h11.n h11.c] rfl rfl 29 _ I11.out.fs info_fs rfl (by simp [Value.oneCell']) ?_; intro u12 hk12 hg12; have I12 := hQ_ (I11.out.put L11.out hg12 hk12); have A12 := hQ_ (A11.out.grown hg12 (by have := LA.out; omega)); have B12 := hQ_ (B11.out.grown hg12 (by have := LB.out; omega)); have f12_0 : u12.cell? ⟨w.heap.size,0,none⟩ = some (.slice h11.a h11.n h11.c) := I12.out.fs.cell 0; have f12_A0 : u12.cell? ⟨v1.heap.size,0,none⟩ = some (.int .u32 sd) := A12.out.cell 0; have f12_A1 : u12.cell? ⟨v1.heap.size,1,none⟩ = some (.string sn) := A12.out.cell 1; have f12_A2 : u12.cell? ⟨v1.heap.size,2,none⟩ = some (.int .u32 si) := A12.out.cell 2; have f12_B0 : u12.cell? ⟨v2.heap.size,0,none⟩ = some (.int .u32 td) := B12.out.cell 0; have f12_B1 : u12.cell? ⟨v2.heap.size,1,none⟩ = some (.string tn) := B12.out.cell 1; have f12_B2 : u12.cell? ⟨v2.heap.size,2,none⟩ = some (.int .u32 ti) := B12.out.cell 2; clear hk12 hg12 f11_0 f11_A0 f11_A1 f11_A2 f11_B0 f11_B1 f11_B2))
 have r1 := cZ0 I12.out.res
 have r2 : u12.frozen? ⟨(w.heap.size + 1),0,none⟩ = false := I12.out.res.frozen 0
 go_region_law (fail)
 all_goals
  obtain ⟨f1,f2,f3⟩ := I12.out.ret' I12.out.lies (.slice h11.a h11.n h11.c)
  have HF1 := hQ_ (And.intro f1 f2)
  have HF3 := hQ_ f3
  clear f1 f2 f3
  go_wp2_with fail
  first
   | exact bodyPost_ret (v := .tuple #[.int .i64 (0),.agg #[.slice h11.a h11.n h11.c]]) (results_tmp_row rfl _ _ (w.heap.size + 1) 29 _ (0,0) _ rfl _ rfl HF3.out Tryz.underlying29 rfl info_fs) rfl (AnsE.of rfl HF1.out)
   | exact bodyPost_ret (v := .tuple #[.int .i64 (0),.agg #[.slice h11.a h11.n h11.c]]) (results_tmp_row rfl _ _ (w.heap.size + 1) 29 _ (0,0) _ rfl _ rfl HF3.out.drew Tryz.underlying29 rfl info_fs) rfl (AnsE.of rfl ⟨HF1.out.1.below ((Below.refl _ _).drew),HF1.out.2.drew⟩)
theorem ren_w9t {T : Nat → Prop} (h : Sh) (F : Fs) (old path : ByteArray) (w : World) (hf : FsA T w h F) (hs : SmF F) (hcl : Cl F) (hp : old.size ≤ maxLen) (hp2 : path.size ≤ maxLen) (hT : ∀ b,w.heap.size ≤ b → T b) {sd si : Int} {sn : ByteArray} (hR : fndM F old = (⟨sd,sn,si⟩,0)) (h1 : si ≠ 1) (h0 : si ≠ 0) {td ti : Int} {tn : ByteArray} (hR2 : fndM F path = (⟨td,tn,ti⟩,0)) (h2 : ti ≠ 1) (h3 : ti ≠ si) {ni nk nl : Int} {nd : ByteArray} {ne : List En} (hn : nodeM F si = some ⟨ni,nk,nl,nd,ne⟩) (hk : nk = 2) (hu : under (spl old).1 (spl path).1 = false) (h4 : ti ≠ 0) {rx1 : Int} {rx2 : Fs} (hrx : removeAt F ⟨td,tn,ti⟩ = (rx1,rx2)) {md : Nd} (hmd : nodeM F ti = some md) (hclr : md.kind = 2 → md.ents.length = 0 → RemOk F ⟨td,tn,ti⟩) (hx : rx1 ≠ 0) :
 Calls Tryz.prog 52 #[.agg #[.slice h.a h.n h.c],.string old,.string path] w (AnsE T (rx1,F) w) := by
 obtain ⟨W,hW⟩ : ∃ W,(w.alloc (.cells #[.slice h.a h.n h.c] 29)).alloc (.cells #[.slice none 0 0] 29) = W := ⟨_,rfl⟩
 have I0 := hQ_ (InvF.start hf)
 rw [hW] at I0
 have HW := hQ_ hW
 have W_0 := cZ0 I0.out.fs
 have HFI := hQ_ (fun u (hl : FsA (Out T w.heap.size (w.heap.size + 1)) u h F) => find_calls h F old u hl hs hcl hp)
 unfold FndE at HFI
 have HFJ := hQ_ (fun u (hl : FsA (Out T w.heap.size (w.heap.size + 1)) u h F) => find_calls h F path u hl hs hcl hp2)
 unfold FndE at HFJ
 have HUN := hQ_ (fun w => under_calls old path w hp hp2)
 have HT := hQ_ hT
 rw [hR] at HFI
 dsimp only [spotA] at HFI
 rw [hR2] at HFJ
 dsimp only [spotA] at HFJ
 have d0 : (si == 1) = false := by simpa using h1
 have d1 : (si == 0) = false := by simpa using h0
 have HNO := hQ_ (fun u (hl : FsA (Out T w.heap.size (w.heap.size + 1)) u h F) => node_calls (T := Out T w.heap.size (w.heap.size + 1)) h F ⟨sd,sn,si⟩ ⟨ni,nk,nl,nd,ne⟩ u hl hn hs.len)
 unfold NodeE at HNO
 dsimp only [spotA] at HNO
 have d2 : (ti == 1) = false := by simpa using h2
 have d3 : (ti == si) = false := by simpa using h3
 have d4 : (nk == 2) = true := by simpa using hk
 have HUX := hQ_ hu
 clear hu
 have HC := hQ_ (fun g u (hl : FsA (Out (But T g) w.heap.size (w.heap.size + 1)) u h F) hT => remove_calls (T := Out (But T g) w.heap.size (w.heap.size + 1)) h F ⟨td,tn,ti⟩ md u hl hs hmd hclr hT)
 unfold AnsE at HC
 rw [hrx] at HC
 dsimp only [spotA] at HC
 have d5 : (ti != 0) = true := by simpa using h4
 have d6 : (rx1 != 0) = true := by simpa using hx
 clear h4 hx hrx hmd hclr
 clear hf hs hcl hp hp2 hT hW hR hR2 h1 h0 h2 h3 hk hn
 go_enter Tryz.func52,Tryz.ntmps52
 go_wp2_with fail
 rw [HW.out]
 go_wp2_with fail
 refine (HFI.out W I0.out.lies).mono ?_
 rintro e v1 ⟨rfl,hb1⟩
 have hbU1 := nW_ hb1 (.cells #[.int .u32 sd,.string sn,.int .u32 si] 156)
 have I1 := hQ_ (I0.out.below hbU1)
 have A1 := hQ_ (Blk.new_ v1 #[.int .u32 sd,.string sn,.int .u32 si] 156)
 have f1_0 := cZ0 I1.out.fs
 have f1_A0 := cC3 A1.out
 clear hbU1 W_0 hb1
 go_wp2_with fail
 refine (HFJ.out (v1.alloc (.cells #[.int .u32 sd,.string sn,.int .u32 si] 156)) I1.out.lies).mono ?_
 rintro e v2 ⟨rfl,hb2⟩
 have hbU2 := nW_ hb2 (.cells #[.int .u32 td,.string tn,.int .u32 ti] 156)
 have I2 := hQ_ (I1.out.below hbU2)
 have A2 := hQ_ (A1.out.below hbU2)
 have B2 := hQ_ (Blk.new_ v2 #[.int .u32 td,.string tn,.int .u32 ti] 156)
 have f2_0 := cZ0 I2.out.fs
 have f2_A0 := cC3 A2.out
 have f2_B0 := cC3 B2.out
 clear hbU2 f1_0 hb2 f1_A0
 go_wp2_with fail
 refine (HNO.out (v2.alloc (.cells #[.int .u32 td,.string tn,.int .u32 ti] 156)) I2.out.lies).mono ?_
 rintro e v3 ⟨h3,rfl,hf3,hb3⟩
 have hz3 := hf3.len
 dsimp only [nodeV] at hz3 ⊢
 have hbU3 : Below (v2.alloc (.cells #[.int .u32 td,.string tn,.int .u32 ti] 156)).heap.size (v2.alloc (.cells #[.int .u32 td,.string tn,.int .u32 ti] 156)) v3 := hb3
 have I3 := hQ_ (I2.out.below hbU3)
 have A3 := hQ_ (A2.out.below hbU3)
 have B3 := hQ_ (B2.out.below hbU3)
 have f3_0 := cZ0 I3.out.fs
 have f3_A0 := cC3 A3.out
 have f3_B0 := cC3 B3.out
 have q3_1 := field_1 (.int .u32 ni) (.int .u8 nk) (.int .i64 nl) (.string nd) (.slice h3.a h3.n h3.c) v3
 have q3_2 := field_2 (.int .u32 ni) (.int .u8 nk) (.int .i64 nl) (.string nd) (.slice h3.a h3.n h3.c) v3
 clear hbU3 f2_0 hb3 hf3 f2_A0 f2_B0
 clear hz3
 go_wp2_with fail
 refine (HUN.out _).mono ?_
 rw [HUX.out]
 rintro e u4 ⟨rfl,hb4⟩
 have I4 := hQ_ (I3.out.below hb4)
 have A4 := hQ_ (A3.out.below hb4)
 have B4 := hQ_ (B3.out.below hb4)
 have f4_0 := cZ0 I4.out.fs
 have f4_A0 := cC3 A4.out
 have f4_B0 := cC3 B4.out
 clear hb4 f3_0 f3_A0 f3_B0
 have hbU5 := bN_ u4 (.cells #[.slice h.a h.n h.c] 29)
 have HQ5 := hQ_ ((lies_but (r := u4.heap.size) I4.out.lies (Nat.le_refl _)).below hbU5)
 have LX : Hid (w.heap.size + 1 < u4.heap.size ∧ u4.heap.size ≠ w.heap.size + 1) := hQ_ (by have := I4.out.lt; omega)
 have I5 := hQ_ (I4.out.below hbU5)
 have A5 := hQ_ (A4.out.below hbU5)
 have B5 := hQ_ (B4.out.below hbU5)
 have X5 : Hid (Blk (u4.alloc (.cells #[.slice h.a h.n h.c] 29)) (u4.heap.size) #[.slice h.a h.n h.c] 29) := hQ_ (Blk.new_ u4 _ _)
 have f5_0 := cZ0 I5.out.fs
 have f5_A0 := cC3 A5.out
 have f5_B0 := cC3 B5.out
 have f5_X := cZ0 X5.out
 clear hbU5
 have RM5 : ∀ b,(u4.alloc (.cells #[.slice h.a h.n h.c] 29)).heap.size ≤ b → Out (But T (u4.heap.size)) w.heap.size (w.heap.size + 1) b := fun b hb => by
  have h1 := I5.out.room HT.out b hb
  have h2 := X5.out.lt
  exact ⟨⟨h1.1,by omega⟩,h1.2⟩
 have HRM := hQ_ RM5
 clear RM5
 go_wp2_with fail
 refine (HC.out _ (u4.alloc (.cells #[.slice h.a h.n h.c] 29)) HQ5.out HRM.out).mono ?_
 rintro e u6 ⟨h6,rfl,hf6,hb6⟩
 have I6 := hQ_ (I5.out.below hb6)
 have A6 := hQ_ (A5.out.below hb6)
 have B6 := hQ_ (B5.out.below hb6)
 have X6 := hQ_ (X5.out.below hb6)
 have f6_0 := cZ0 I6.out.fs
 obtain ⟨f6_A0,f6_A1,f6_A2⟩ := cC3 A6.out
 obtain ⟨f6_B0,f6_B1,f6_B2⟩ := cC3 B6.out
 have f6_X := cZ0 X6.out
 have HQ6 := hQ_ (HQ5.out.below hb6)
 have L6 := hQ_ hf6
 clear hf6 hb6 f5_0 f5_X f4_0 f4_A0 f4_B0 f5_A0 f5_B0
 go_wp2_with ((with_reducible refine pick none ?_); refine store_blk rfl 29 _ _ rfl (u4.heap.size) #[.slice h6.a h6.n h6.c] rfl rfl 29 _ X6.out info_fs rfl (by simp [Value.oneCell']) ?_; intro z7 hk7 hg7; have I7 := hQ_ (I6.out.aside X6.out hg7 (Nat.lt_of_succ_lt LX.out.1) LX.out.2 HQ6.out); have L7 := hQ_ (fs_aside L6.out hg7); have X7 := hQ_ (show Blk z7 (u4.heap.size) #[.slice h6.a h6.n h6.c] 29 from hk7); have A7 := hQ_ (A6.out.grown hg7 (blk_ne A6.out X6.out (by decide))); have B7 := hQ_ (B6.out.grown hg7 (blk_ne B6.out X6.out (by decide))); have f7_0 : z7.cell? ⟨w.heap.size,0,none⟩ = some (.slice h.a h.n h.c) := I7.out.fs.cell 0; have f7_A0 : z7.cell? ⟨v1.heap.size,0,none⟩ = some (.int .u32 sd) := A7.out.cell 0; have f7_A1 : z7.cell? ⟨v1.heap.size,1,none⟩ = some (.string sn) := A7.out.cell 1; have f7_A2 : z7.cell? ⟨v1.heap.size,2,none⟩ = some (.int .u32 si) := A7.out.cell 2; have f7_B0 : z7.cell? ⟨v2.heap.size,0,none⟩ = some (.int .u32 td) := B7.out.cell 0; have f7_B1 : z7.cell? ⟨v2.heap.size,1,none⟩ = some (.string tn) := B7.out.cell 1; have f7_B2 : z7.cell? ⟨v2.heap.size,2,none⟩ = some (.int .u32 ti) := B7.out.cell 2; have f7_X : z7.cell? ⟨(u4.heap.size),0,none⟩ = some (.slice h6.a h6.n h6.c) := X7.out.cell 0; clear hk7 hg7 f6_0 f6_A0 f6_A1 f6_A2 f6_B0 f6_B1 f6_B2 f6_X)
 have r1 := cZ0 I7.out.res
 have r2 : z7.frozen? ⟨(w.heap.size + 1),0,none⟩ = false := I7.out.res.frozen 0
 go_region_law (fail)
 all_goals
  obtain ⟨f1,f2,f3⟩ := I7.out.ret' I7.out.lies (.slice h.a h.n h.c)
  have HF1 := hQ_ (And.intro f1 f2)
  have HF3 := hQ_ f3
  clear f1 f2 f3
  go_wp2_with fail
  first
   | exact bodyPost_ret (v := .tuple #[.int .i64 (rx1),.agg #[.slice h.a h.n h.c]]) (results_tmp_row rfl _ _ (w.heap.size + 1) 29 _ (0,0) _ rfl _ rfl HF3.out Tryz.underlying29 rfl info_fs) rfl (AnsE.of rfl HF1.out)
   | exact bodyPost_ret (v := .tuple #[.int .i64 (rx1),.agg #[.slice h.a h.n h.c]]) (results_tmp_row rfl _ _ (w.heap.size + 1) 29 _ (0,0) _ rfl _ rfl HF3.out.drew Tryz.underlying29 rfl info_fs) rfl (AnsE.of rfl ⟨HF1.out.1.below ((Below.refl _ _).drew),HF1.out.2.drew⟩)
theorem ren_wat {T : Nat → Prop} (h : Sh) (F : Fs) (old path : ByteArray) (w : World) (hf : FsA T w h F) (hs : SmF F) (hcl : Cl F) (hp : old.size ≤ maxLen) (hp2 : path.size ≤ maxLen) (hT : ∀ b,w.heap.size ≤ b → T b) {sd si : Int} {sn : ByteArray} (hR : fndM F old = (⟨sd,sn,si⟩,0)) (h1 : si ≠ 1) (h0 : si ≠ 0) {td ti : Int} {tn : ByteArray} (hR2 : fndM F path = (⟨td,tn,ti⟩,0)) (h2 : ti ≠ 1) (h3 : ti ≠ si) {ni nk nl : Int} {nd : ByteArray} {ne : List En} (hn : nodeM F si = some ⟨ni,nk,nl,nd,ne⟩) (hk : nk = 2) (hu : under (spl old).1 (spl path).1 = false) (h4 : ti ≠ 0) {rx1 : Int} {rx2 : Fs} (hrx : removeAt F ⟨td,tn,ti⟩ = (rx1,rx2)) {md : Nd} (hmd : nodeM F ti = some md) (hclr : md.kind = 2 → md.ents.length = 0 → RemOk F ⟨td,tn,ti⟩) (hx : rx1 = 0) (hmv : MoveOk rx2 ⟨sd,sn,si⟩ ⟨td,tn,ti⟩ true) :
 Calls Tryz.prog 52 #[.agg #[.slice h.a h.n h.c],.string old,.string path] w (AnsE T (0,moveAt rx2 ⟨sd,sn,si⟩ ⟨td,tn,ti⟩ true) w) := by
 obtain ⟨W,hW⟩ : ∃ W,(w.alloc (.cells #[.slice h.a h.n h.c] 29)).alloc (.cells #[.slice none 0 0] 29) = W := ⟨_,rfl⟩
 have I0 := hQ_ (InvF.start hf)
 rw [hW] at I0
 have HW := hQ_ hW
 have W_0 := cZ0 I0.out.fs
 have HFI := hQ_ (fun u (hl : FsA (Out T w.heap.size (w.heap.size + 1)) u h F) => find_calls h F old u hl hs hcl hp)
 unfold FndE at HFI
 have HFJ := hQ_ (fun u (hl : FsA (Out T w.heap.size (w.heap.size + 1)) u h F) => find_calls h F path u hl hs hcl hp2)
 unfold FndE at HFJ
 have HUN := hQ_ (fun w => under_calls old path w hp hp2)
 have HT := hQ_ hT
 have HMV := hQ_ hmv
 obtain ⟨of1,⟨m1,on1⟩,of2,⟨m2,on2⟩,of3,on3,of4,on4⟩ := HMV.out
 dsimp only at of1 on1 of2 on2 of3 on3 of4 on4
 obtain ⟨m3,on3⟩ := on3 rfl
 obtain ⟨m4,on4⟩ := on4 rfl
 have OF3 := hQ_ (of3 rfl)
 have OF4 := hQ_ (of4 rfl)
 have ON3 := hQ_ on3
 have ON4 := hQ_ on4
 clear on3 on4
 have OF1 := hQ_ of1
 have ON1 := hQ_ on1
 have OF2 := hQ_ of2
 have ON2 := hQ_ on2
 clear of1 on1 of2 on2 of3 of4 HMV
 rw [hR] at HFI
 dsimp only [spotA] at HFI
 rw [hR2] at HFJ
 dsimp only [spotA] at HFJ
 have d0 : (si == 1) = false := by simpa using h1
 have d1 : (si == 0) = false := by simpa using h0
 have HNO := hQ_ (fun u (hl : FsA (Out T w.heap.size (w.heap.size + 1)) u h F) => node_calls (T := Out T w.heap.size (w.heap.size + 1)) h F ⟨sd,sn,si⟩ ⟨ni,nk,nl,nd,ne⟩ u hl hn hs.len)
 unfold NodeE at HNO
 dsimp only [spotA] at HNO
 have d2 : (ti == 1) = false := by simpa using h2
 have d3 : (ti == si) = false := by simpa using h3
 have d4 : (nk == 2) = true := by simpa using hk
 have HUX := hQ_ hu
 clear hu
 have HC := hQ_ (fun g u (hl : FsA (Out (But T g) w.heap.size (w.heap.size + 1)) u h F) hT => remove_calls (T := Out (But T g) w.heap.size (w.heap.size + 1)) h F ⟨td,tn,ti⟩ md u hl hs hmd hclr hT)
 unfold AnsE at HC
 rw [hrx] at HC
 dsimp only [spotA] at HC
 have d5 : (ti != 0) = true := by simpa using h4
 have d6 : (rx1 != 0) = false := by simpa using hx
 clear h4 hx hrx hmd hclr hmv
 clear hf hs hcl hp hp2 hT hW hR hR2 h1 h0 h2 h3 hk hn
 go_enter Tryz.func52,Tryz.ntmps52
 go_wp2_with fail
 rw [HW.out]
 go_wp2_with fail
 refine (HFI.out W I0.out.lies).mono ?_
 rintro e v1 ⟨rfl,hb1⟩
 have hbU1 := nW_ hb1 (.cells #[.int .u32 sd,.string sn,.int .u32 si] 156)
 have I1 := hQ_ (I0.out.below hbU1)
 have A1 := hQ_ (Blk.new_ v1 #[.int .u32 sd,.string sn,.int .u32 si] 156)
 have LA : Hid (w.heap.size + 1 ≤ v1.heap.size) := hQ_ (by have := I0.out.lt; have := hb1.size; omega)
 have f1_0 := cZ0 I1.out.fs
 have f1_A0 := cC3 A1.out
 clear hbU1 W_0 hb1
 go_wp2_with fail
 refine (HFJ.out (v1.alloc (.cells #[.int .u32 sd,.string sn,.int .u32 si] 156)) I1.out.lies).mono ?_
 rintro e v2 ⟨rfl,hb2⟩
 have hbU2 := nW_ hb2 (.cells #[.int .u32 td,.string tn,.int .u32 ti] 156)
 have I2 := hQ_ (I1.out.below hbU2)
 have A2 := hQ_ (A1.out.below hbU2)
 have B2 := hQ_ (Blk.new_ v2 #[.int .u32 td,.string tn,.int .u32 ti] 156)
 have LB : Hid (w.heap.size + 1 ≤ v2.heap.size) := hQ_ (by have := I1.out.lt; have := hb2.size; omega)
 have f2_0 := cZ0 I2.out.fs
 have f2_A0 := cC3 A2.out
 have f2_B0 := cC3 B2.out
 clear hbU2 f1_0 hb2 f1_A0
 go_wp2_with fail
 refine (HNO.out (v2.alloc (.cells #[.int .u32 td,.string tn,.int .u32 ti] 156)) I2.out.lies).mono ?_
 rintro e v3 ⟨h3,rfl,hf3,hb3⟩
 have hz3 := hf3.len
 dsimp only [nodeV] at hz3 ⊢
 have hbU3 : Below (v2.alloc (.cells #[.int .u32 td,.string tn,.int .u32 ti] 156)).heap.size (v2.alloc (.cells #[.int .u32 td,.string tn,.int .u32 ti] 156)) v3 := hb3
 have I3 := hQ_ (I2.out.below hbU3)
 have A3 := hQ_ (A2.out.below hbU3)
 have B3 := hQ_ (B2.out.below hbU3)
 have f3_0 := cZ0 I3.out.fs
 have f3_A0 := cC3 A3.out
 have f3_B0 := cC3 B3.out
 have q3_1 := field_1 (.int .u32 ni) (.int .u8 nk) (.int .i64 nl) (.string nd) (.slice h3.a h3.n h3.c) v3
 have q3_2 := field_2 (.int .u32 ni) (.int .u8 nk) (.int .i64 nl) (.string nd) (.slice h3.a h3.n h3.c) v3
 clear hbU3 f2_0 hb3 hf3 f2_A0 f2_B0
 clear hz3
 go_wp2_with fail
 refine (HUN.out _).mono ?_
 rw [HUX.out]
 rintro e u4 ⟨rfl,hb4⟩
 have I4 := hQ_ (I3.out.below hb4)
 have A4 := hQ_ (A3.out.below hb4)
 have B4 := hQ_ (B3.out.below hb4)
 have f4_0 := cZ0 I4.out.fs
 have f4_A0 := cC3 A4.out
 have f4_B0 := cC3 B4.out
 clear hb4 f3_0 f3_A0 f3_B0
 have hbU5 := bN_ u4 (.cells #[.slice h.a h.n h.c] 29)
 have HQ5 := hQ_ ((lies_but (r := u4.heap.size) I4.out.lies (Nat.le_refl _)).below hbU5)
 have LX : Hid (w.heap.size + 1 < u4.heap.size ∧ u4.heap.size ≠ w.heap.size + 1) := hQ_ (by have := I4.out.lt; omega)
 have I5 := hQ_ (I4.out.below hbU5)
 have A5 := hQ_ (A4.out.below hbU5)
 have B5 := hQ_ (B4.out.below hbU5)
 have X5 : Hid (Blk (u4.alloc (.cells #[.slice h.a h.n h.c] 29)) (u4.heap.size) #[.slice h.a h.n h.c] 29) := hQ_ (Blk.new_ u4 _ _)
 have f5_0 := cZ0 I5.out.fs
 have f5_A0 := cC3 A5.out
 have f5_B0 := cC3 B5.out
 have f5_X := cZ0 X5.out
 clear hbU5
 have RM5 : ∀ b,(u4.alloc (.cells #[.slice h.a h.n h.c] 29)).heap.size ≤ b → Out (But T (u4.heap.size)) w.heap.size (w.heap.size + 1) b := fun b hb => by
  have h1 := I5.out.room HT.out b hb
  have h2 := X5.out.lt
  exact ⟨⟨h1.1,by omega⟩,h1.2⟩
 have HRM := hQ_ RM5
 clear RM5
 go_wp2_with fail
 refine (HC.out _ (u4.alloc (.cells #[.slice h.a h.n h.c] 29)) HQ5.out HRM.out).mono ?_
 rintro e u6 ⟨h6,rfl,hf6,hb6⟩
 have I6 := hQ_ (I5.out.below hb6)
 have A6 := hQ_ (A5.out.below hb6)
 have B6 := hQ_ (B5.out.below hb6)
 have X6 := hQ_ (X5.out.below hb6)
 have f6_0 := cZ0 I6.out.fs
 obtain ⟨f6_A0,f6_A1,f6_A2⟩ := cC3 A6.out
 obtain ⟨f6_B0,f6_B1,f6_B2⟩ := cC3 B6.out
 have f6_X := cZ0 X6.out
 have HQ6 := hQ_ (HQ5.out.below hb6)
 have L6 := hQ_ hf6
 clear hf6 hb6 f5_0 f5_X f4_0 f4_A0 f4_B0 f5_A0 f5_B0
 go_wp2_with (first | ((with_reducible refine pick none ?_); refine store_blk rfl 29 _ _ rfl (u4.heap.size) #[.slice h6.a h6.n h6.c] rfl rfl 29 _ X6.out info_fs rfl (by simp [Value.oneCell']) ?_; intro z7 hk7 hg7; have I7 := hQ_ (I6.out.aside X6.out hg7 (Nat.lt_of_succ_lt LX.out.1) LX.out.2 HQ6.out); have L7 := hQ_ (fs_aside L6.out hg7); have X7 := hQ_ (show Blk z7 (u4.heap.size) #[.slice h6.a h6.n h6.c] 29 from hk7); have A7 := hQ_ (A6.out.grown hg7 (blk_ne A6.out X6.out (by decide))); have B7 := hQ_ (B6.out.grown hg7 (blk_ne B6.out X6.out (by decide))); have f7_0 : z7.cell? ⟨w.heap.size,0,none⟩ = some (.slice h.a h.n h.c) := I7.out.fs.cell 0; have f7_A0 : z7.cell? ⟨v1.heap.size,0,none⟩ = some (.int .u32 sd) := A7.out.cell 0; have f7_A1 : z7.cell? ⟨v1.heap.size,1,none⟩ = some (.string sn) := A7.out.cell 1; have f7_A2 : z7.cell? ⟨v1.heap.size,2,none⟩ = some (.int .u32 si) := A7.out.cell 2; have f7_B0 : z7.cell? ⟨v2.heap.size,0,none⟩ = some (.int .u32 td) := B7.out.cell 0; have f7_B1 : z7.cell? ⟨v2.heap.size,1,none⟩ = some (.string tn) := B7.out.cell 1; have f7_B2 : z7.cell? ⟨v2.heap.size,2,none⟩ = some (.int .u32 ti) := B7.out.cell 2; have f7_X : z7.cell? ⟨(u4.heap.size),0,none⟩ = some (.slice h6.a h6.n h6.c) := X7.out.cell 0; clear hk7 hg7 f6_0 f6_A0 f6_A1 f6_A2 f6_B0 f6_B1 f6_B2 f6_X) | ((with_reducible refine pick none ?_); refine store_blk rfl 29 _ _ rfl w.heap.size #[.slice h6.a h6.n h6.c] rfl rfl 29 _ I7.out.fs info_fs rfl (by simp [Value.oneCell']) ?_; intro u8 hk8 hg8; have I8 := hQ_ (I7.out.put L7.out hg8 hk8); have A8 := hQ_ (A7.out.grown hg8 (by have := LA.out; omega)); have B8 := hQ_ (B7.out.grown hg8 (by have := LB.out; omega)); have X8 := hQ_ (X7.out.grown hg8 (by have := LX.out; omega)); have f8_0 : u8.cell? ⟨w.heap.size,0,none⟩ = some (.slice h6.a h6.n h6.c) := I8.out.fs.cell 0; have f8_A0 : u8.cell? ⟨v1.heap.size,0,none⟩ = some (.int .u32 sd) := A8.out.cell 0; have f8_A1 : u8.cell? ⟨v1.heap.size,1,none⟩ = some (.string sn) := A8.out.cell 1; have f8_A2 : u8.cell? ⟨v1.heap.size,2,none⟩ = some (.int .u32 si) := A8.out.cell 2; have f8_B0 : u8.cell? ⟨v2.heap.size,0,none⟩ = some (.int .u32 td) := B8.out.cell 0; have f8_B1 : u8.cell? ⟨v2.heap.size,1,none⟩ = some (.string tn) := B8.out.cell 1; have f8_B2 : u8.cell? ⟨v2.heap.size,2,none⟩ = some (.int .u32 ti) := B8.out.cell 2; have f8_X : u8.cell? ⟨(u4.heap.size),0,none⟩ = some (.slice h6.a h6.n h6.c) := X8.out.cell 0; clear hk8 hg8 f7_0 f7_A0 f7_A1 f7_A2 f7_B0 f7_B1 f7_B2 f7_X))
 refine (named_calls h6 rx2 sd sn 0 m1 u8 I8.out.lies ON1.out OF1.out (I8.out.room HT.out)).mono ?_
 rintro e u9 ⟨h9,rfl,hf9,hb9⟩
 have I9 := hQ_ (I8.out.below hb9)
 have A9 := hQ_ (A8.out.below hb9)
 have B9 := hQ_ (B8.out.below hb9)
 have X9 := hQ_ (X8.out.below hb9)
 have f9_0 := cZ0 I9.out.fs
 obtain ⟨f9_A0,f9_A1,f9_A2⟩ := cC3 A9.out
 obtain ⟨f9_B0,f9_B1,f9_B2⟩ := cC3 B9.out
 have f9_X := cZ0 X9.out
 have L9 := hQ_ hf9
 clear hf9 hb9 f8_0 f8_A0 f8_A1 f8_A2 f8_B0 f8_B1 f8_B2 f8_X
 go_wp2_with (first | ((with_reducible refine pick none ?_); refine store_blk rfl 29 _ _ rfl w.heap.size #[.slice h9.a h9.n h9.c] rfl rfl 29 _ I9.out.fs info_fs rfl (by simp [Value.oneCell']) ?_; intro u10 hk10 hg10; have I10 := hQ_ (I9.out.put L9.out hg10 hk10); have A10 := hQ_ (A9.out.grown hg10 (by have := LA.out; omega)); have B10 := hQ_ (B9.out.grown hg10 (by have := LB.out; omega)); have X10 := hQ_ (X9.out.grown hg10 (by have := LX.out; omega)); have f10_0 : u10.cell? ⟨w.heap.size,0,none⟩ = some (.slice h9.a h9.n h9.c) := I10.out.fs.cell 0; have f10_A0 : u10.cell? ⟨v1.heap.size,0,none⟩ = some (.int .u32 sd) := A10.out.cell 0; have f10_A1 : u10.cell? ⟨v1.heap.size,1,none⟩ = some (.string sn) := A10.out.cell 1; have f10_A2 : u10.cell? ⟨v1.heap.size,2,none⟩ = some (.int .u32 si) := A10.out.cell 2; have f10_B0 : u10.cell? ⟨v2.heap.size,0,none⟩ = some (.int .u32 td) := B10.out.cell 0; have f10_B1 : u10.cell? ⟨v2.heap.size,1,none⟩ = some (.string tn) := B10.out.cell 1; have f10_B2 : u10.cell? ⟨v2.heap.size,2,none⟩ = some (.int .u32 ti) := B10.out.cell 2; have f10_X : u10.cell? ⟨(u4.heap.size),0,none⟩ = some (.slice h6.a h6.n h6.c) := X10.out.cell 0; clear hk10 hg10 f9_0 f9_A0 f9_A1 f9_A2 f9_B0 f9_B1 f9_B2 f9_X))
 refine (named_calls h9 (namedM rx2 sd sn 0) td tn si m2 u10 I10.out.lies ON2.out OF2.out (I10.out.room HT.out)).mono ?_
 rintro e u11 ⟨h11,rfl,hf11,hb11⟩
 have I11 := hQ_ (I10.out.below hb11)
 have A11 := hQ_ (A10.out.below hb11)
 have B11 := hQ_ (B10.out.below hb11)
 have X11 := hQ_ (X10.out.below hb11)
 have f11_0 := cZ0 I11.out.fs
 obtain ⟨f11_A0,f11_A1,f11_A2⟩ := cC3 A11.out
 obtain ⟨f11_B0,f11_B1,f11_B2⟩ := cC3 B11.out
 have f11_X := cZ0 X11.out
 have L11 := hQ_ hf11
 clear hf11 hb11 f10_0 f10_A0 f10_A1 f10_A2 f10_B0 f10_B1 f10_B2 f10_X
 go_wp2_with (first | ((with_reducible refine pick none ?_); refine store_blk rfl 29 _ _ rfl w.heap.size #[.slice h11.a h11.n h11.c] rfl rfl 29 _ I11.out.fs info_fs rfl (by simp [Value.oneCell']) ?_; intro u12 hk12 hg12; have I12 := hQ_ (I11.out.put L11.out hg12 hk12); have A12 := hQ_ (A11.out.grown hg12 (by have := LA.out; omega)); have B12 := hQ_ (B11.out.grown hg12 (by have := LB.out; omega)); have X12 := hQ_ (X11.out.grown hg12 (by have := LX.out; omega)); have f12_0 : u12.cell? ⟨w.heap.size,0,none⟩ = some (.slice h11.a h11.n h11.c) := I12.out.fs.cell 0; have f12_A0 : u12.cell? ⟨v1.heap.size,0,none⟩ = some (.int .u32 sd) := A12.out.cell 0; have f12_A1 : u12.cell? ⟨v1.heap.size,1,none⟩ = some (.string sn) := A12.out.cell 1; have f12_A2 : u12.cell? ⟨v1.heap.size,2,none⟩ = some (.int .u32 si) := A12.out.cell 2; have f12_B0 : u12.cell? ⟨v2.heap.size,0,none⟩ = some (.int .u32 td) := B12.out.cell 0; have f12_B1 : u12.cell? ⟨v2.heap.size,1,none⟩ = some (.string tn) := B12.out.cell 1; have f12_B2 : u12.cell? ⟨v2.heap.size,2,none⟩ = some (.int .u32 ti) := B12.out.cell 2; have f12_X : u12.cell? ⟨(u4.heap.size),0,none⟩ = some (.slice h6.a h6.n h6.c) := X12.out.cell 0; clear hk12 hg12 f11_0 f11_A0 f11_A1 f11_A2 f11_B0 f11_B1 f11_B2 f11_X))
 refine (linked_calls h11 (namedM (namedM rx2 sd sn 0) td tn si) sd (-1) m3 u12 I12.out.lies ON3.out OF3.out (by omega) (by omega) (I12.out.room HT.out)).mono ?_
 rintro e u13 ⟨h13,rfl,hf13,hb13⟩
 have I13 := hQ_ (I12.out.below hb13)
 have A13 := hQ_ (A12.out.below hb13)
 have B13 := hQ_ (B12.out.below hb13)
 have X13 := hQ_ (X12.out.below hb13)
 have f13_0 := cZ0 I13.out.fs
 obtain ⟨f13_A0,f13_A1,f13_A2⟩ := cC3 A13.out
 obtain ⟨f13_B0,f13_B1,f13_B2⟩ := cC3 B13.out
 have f13_X := cZ0 X13.out
 have L13 := hQ_ hf13
 clear hf13 hb13 f12_0 f12_A0 f12_A1 f12_A2 f12_B0 f12_B1 f12_B2 f12_X
 go_wp2_with (first | ((with_reducible refine pick none ?_); refine store_blk rfl 29 _ _ rfl w.heap.size #[.slice h13.a h13.n h13.c] rfl rfl 29 _ I13.out.fs info_fs rfl (by simp [Value.oneCell']) ?_; intro u14 hk14 hg14; have I14 := hQ_ (I13.out.put L13.out hg14 hk14); have A14 := hQ_ (A13.out.grown hg14 (by have := LA.out; omega)); have B14 := hQ_ (B13.out.grown hg14 (by have := LB.out; omega)); have X14 := hQ_ (X13.out.grown hg14 (by have := LX.out; omega)); have f14_0 : u14.cell? ⟨w.heap.size,0,none⟩ = some (.slice h13.a h13.n h13.c) := I14.out.fs.cell 0; have f14_A0 : u14.cell? ⟨v1.heap.size,0,none⟩ = some (.int .u32 sd) := A14.out.cell 0; have f14_A1 : u14.cell? ⟨v1.heap.size,1,none⟩ = some (.string sn) := A14.out.cell 1; have f14_A2 : u14.cell? ⟨v1.heap.size,2,none⟩ = some (.int .u32 si) := A14.out.cell 2; have f14_B0 : u14.cell? ⟨v2.heap.size,0,none⟩ = some (.int .u32 td) := B14.out.cell 0; have f14_B1 : u14.cell? ⟨v2.heap.size,1,none⟩ = some (.string tn) := B14.out.cell 1; have f14_B2 : u14.cell? ⟨v2.heap.size,2,none⟩ = some (.int .u32 ti) := B14.out.cell 2; have f14_X : u14.cell? ⟨(u4.heap.size),0,none⟩ = some (.slice h6.a h6.n h6.c) := X14.out.cell 0; clear hk14 hg14 f13_0 f13_A0 f13_A1 f13_A2 f13_B0 f13_B1 f13_B2 f13_X))
 refine (linked_calls h13 (linkedM (namedM (namedM rx2 sd sn 0) td tn si) sd (-1)) td 1 m4 u14 I14.out.lies ON4.out OF4.out (by omega) (by omega) (I14.out.room HT.out)).mono ?_
 rintro e u15 ⟨h15,rfl,hf15,hb15⟩
 have I15 := hQ_ (I14.out.below hb15)
 have A15 := hQ_ (A14.out.below hb15)
 have B15 := hQ_ (B14.out.below hb15)
 have X15 := hQ_ (X14.out.below hb15)
 have f15_0 := cZ0 I15.out.fs
 obtain ⟨f15_A0,f15_A1,f15_A2⟩ := cC3 A15.out
 obtain ⟨f15_B0,f15_B1,f15_B2⟩ := cC3 B15.out
 have f15_X := cZ0 X15.out
 have L15 := hQ_ hf15
 clear hf15 hb15 f14_0 f14_A0 f14_A1 f14_A2 f14_B0 f14_B1 f14_B2 f14_X
 go_wp2_with (first | ((with_reducible refine pick none ?_); refine store_blk rfl 29 _ _ rfl w.heap.size #[.slice h15.a h15.n h15.c] rfl rfl 29 _ I15.out.fs info_fs rfl (by simp [Value.oneCell']) ?_; intro u16 hk16 hg16; have I16 := hQ_ (I15.out.put L15.out hg16 hk16); have A16 := hQ_ (A15.out.grown hg16 (by have := LA.out; omega)); have B16 := hQ_ (B15.out.grown hg16 (by have := LB.out; omega)); have X16 := hQ_ (X15.out.grown hg16 (by have := LX.out; omega)); have f16_0 : u16.cell? ⟨w.heap.size,0,none⟩ = some (.slice h15.a h15.n h15.c) := I16.out.fs.cell 0; have f16_A0 : u16.cell? ⟨v1.heap.size,0,none⟩ = some (.int .u32 sd) := A16.out.cell 0; have f16_A1 : u16.cell? ⟨v1.heap.size,1,none⟩ = some (.string sn) := A16.out.cell 1; have f16_A2 : u16.cell? ⟨v1.heap.size,2,none⟩ = some (.int .u32 si) := A16.out.cell 2; have f16_B0 : u16.cell? ⟨v2.heap.size,0,none⟩ = some (.int .u32 td) := B16.out.cell 0; have f16_B1 : u16.cell? ⟨v2.heap.size,1,none⟩ = some (.string tn) := B16.out.cell 1; have f16_B2 : u16.cell? ⟨v2.heap.size,2,none⟩ = some (.int .u32 ti) := B16.out.cell 2; have f16_X : u16.cell? ⟨(u4.heap.size),0,none⟩ = some (.slice h6.a h6.n h6.c) := X16.out.cell 0; clear hk16 hg16 f15_0 f15_A0 f15_A1 f15_A2 f15_B0 f15_B1 f15_B2 f15_X))
 have r1 := cZ0 I16.out.res
 have r2 : u16.frozen? ⟨(w.heap.size + 1),0,none⟩ = false := I16.out.res.frozen 0
 go_region_law (fail)
 all_goals
  obtain ⟨f1,f2,f3⟩ := I16.out.ret' I16.out.lies (.slice h15.a h15.n h15.c)
  have HF1 := hQ_ (And.intro f1 f2)
  have HF3 := hQ_ f3
  clear f1 f2 f3
  go_wp2_with fail
  first
   | exact bodyPost_ret (v := .tuple #[.int .i64 (0),.agg #[.slice h15.a h15.n h15.c]]) (results_tmp_row rfl _ _ (w.heap.size + 1) 29 _ (0,0) _ rfl _ rfl HF3.out Tryz.underlying29 rfl info_fs) rfl (AnsE.of rfl HF1.out)
   | exact bodyPost_ret (v := .tuple #[.int .i64 (0),.agg #[.slice h15.a h15.n h15.c]]) (results_tmp_row rfl _ _ (w.heap.size + 1) 29 _ (0,0) _ rfl _ rfl HF3.out.drew Tryz.underlying29 rfl info_fs) rfl (AnsE.of rfl ⟨HF1.out.1.below ((Below.refl _ _).drew),HF1.out.2.drew⟩)
theorem ren_w8f {T : Nat → Prop} (h : Sh) (F : Fs) (old path : ByteArray) (w : World) (hf : FsA T w h F) (hs : SmF F) (hcl : Cl F) (hp : old.size ≤ maxLen) (hp2 : path.size ≤ maxLen) (hT : ∀ b,w.heap.size ≤ b → T b) {sd si : Int} {sn : ByteArray} (hR : fndM F old = (⟨sd,sn,si⟩,0)) (h1 : si ≠ 1) (h0 : si ≠ 0) {td ti : Int} {tn : ByteArray} (hR2 : fndM F path = (⟨td,tn,ti⟩,0)) (h2 : ti ≠ 1) (h3 : ti ≠ si) {ni nk nl : Int} {nd : ByteArray} {ne : List En} (hn : nodeM F si = some ⟨ni,nk,nl,nd,ne⟩) (hk : nk ≠ 2) (h4 : ti = 0) (hmv : MoveOk F ⟨sd,sn,si⟩ ⟨td,tn,ti⟩ false) :
 Calls Tryz.prog 52 #[.agg #[.slice h.a h.n h.c],.string old,.string path] w (AnsE T (0,moveAt F ⟨sd,sn,si⟩ ⟨td,tn,ti⟩ false) w) := by
 obtain ⟨W,hW⟩ : ∃ W,(w.alloc (.cells #[.slice h.a h.n h.c] 29)).alloc (.cells #[.slice none 0 0] 29) = W := ⟨_,rfl⟩
 have I0 := hQ_ (InvF.start hf)
 rw [hW] at I0
 have HW := hQ_ hW
 have W_0 := cZ0 I0.out.fs
 have HFI := hQ_ (fun u (hl : FsA (Out T w.heap.size (w.heap.size + 1)) u h F) => find_calls h F old u hl hs hcl hp)
 unfold FndE at HFI
 have HFJ := hQ_ (fun u (hl : FsA (Out T w.heap.size (w.heap.size + 1)) u h F) => find_calls h F path u hl hs hcl hp2)
 unfold FndE at HFJ
 have HT := hQ_ hT
 have HMV := hQ_ hmv
 obtain ⟨of1,⟨m1,on1⟩,of2,⟨m2,on2⟩,of3,on3,of4,on4⟩ := HMV.out
 dsimp only at of1 on1 of2 on2 of3 on3 of4 on4
 have OF1 := hQ_ of1
 have ON1 := hQ_ on1
 have OF2 := hQ_ of2
 have ON2 := hQ_ on2
 clear of1 on1 of2 on2 of3 of4 HMV on3 on4
 rw [hR] at HFI
 dsimp only [spotA] at HFI
 rw [hR2] at HFJ
 dsimp only [spotA] at HFJ
 have d0 : (si == 1) = false := by simpa using h1
 have d1 : (si == 0) = false := by simpa using h0
 have HNO := hQ_ (fun u (hl : FsA (Out T w.heap.size (w.heap.size + 1)) u h F) => node_calls (T := Out T w.heap.size (w.heap.size + 1)) h F ⟨sd,sn,si⟩ ⟨ni,nk,nl,nd,ne⟩ u hl hn hs.len)
 unfold NodeE at HNO
 dsimp only [spotA] at HNO
 have d2 : (ti == 1) = false := by simpa using h2
 have d3 : (ti == si) = false := by simpa using h3
 have d4 : (nk == 2) = false := by simpa using hk
 have d5 : (ti != 0) = false := by simpa using h4
 clear hmv h4
 clear hf hs hcl hp hp2 hT hW hR hR2 h1 h0 h2 h3 hk hn
 go_enter Tryz.func52,Tryz.ntmps52
 go_wp2_with fail
 rw [HW.out]
 go_wp2_with fail
 refine (HFI.out W I0.out.lies).mono ?_
 rintro e v1 ⟨rfl,hb1⟩
 have hbU1 := nW_ hb1 (.cells #[.int .u32 sd,.string sn,.int .u32 si] 156)
 have I1 := hQ_ (I0.out.below hbU1)
 have A1 := hQ_ (Blk.new_ v1 #[.int .u32 sd,.string sn,.int .u32 si] 156)
 have LA : Hid (w.heap.size + 1 ≤ v1.heap.size) := hQ_ (by have := I0.out.lt; have := hb1.size; omega)
 have f1_0 := cZ0 I1.out.fs
 have f1_A0 := cC3 A1.out
 clear hbU1 W_0 hb1
 go_wp2_with fail
 refine (HFJ.out (v1.alloc (.cells #[.int .u32 sd,.string sn,.int .u32 si] 156)) I1.out.lies).mono ?_
 rintro e v2 ⟨rfl,hb2⟩
 have hbU2 := nW_ hb2 (.cells #[.int .u32 td,.string tn,.int .u32 ti] 156)
 have I2 := hQ_ (I1.out.below hbU2)
 have A2 := hQ_ (A1.out.below hbU2)
 have B2 := hQ_ (Blk.new_ v2 #[.int .u32 td,.string tn,.int .u32 ti] 156)
 have LB : Hid (w.heap.size + 1 ≤ v2.heap.size) := hQ_ (by have := I1.out.lt; have := hb2.size; omega)
 have f2_0 := cZ0 I2.out.fs
 have f2_A0 := cC3 A2.out
 have f2_B0 := cC3 B2.out
 clear hbU2 f1_0 hb2 f1_A0
 go_wp2_with fail
 refine (HNO.out (v2.alloc (.cells #[.int .u32 td,.string tn,.int .u32 ti] 156)) I2.out.lies).mono ?_
 rintro e v3 ⟨h3,rfl,hf3,hb3⟩
 have hz3 := hf3.len
 dsimp only [nodeV] at hz3 ⊢
 have hbU3 : Below (v2.alloc (.cells #[.int .u32 td,.string tn,.int .u32 ti] 156)).heap.size (v2.alloc (.cells #[.int .u32 td,.string tn,.int .u32 ti] 156)) v3 := hb3
 have I3 := hQ_ (I2.out.below hbU3)
 have A3 := hQ_ (A2.out.below hbU3)
 have B3 := hQ_ (B2.out.below hbU3)
 have f3_0 := cZ0 I3.out.fs
 have f3_A0 := cC3 A3.out
 have f3_B0 := cC3 B3.out
 have q3_1 := field_1 (.int .u32 ni) (.int .u8 nk) (.int .i64 nl) (.string nd) (.slice h3.a h3.n h3.c) v3
 have q3_2 := field_2 (.int .u32 ni) (.int .u8 nk) (.int .i64 nl) (.string nd) (.slice h3.a h3.n h3.c) v3
 clear hbU3 f2_0 hb3 hf3 f2_A0 f2_B0
 clear hz3
 go_wp2_with fail
 refine (named_calls h F sd sn 0 m1 v3 I3.out.lies ON1.out OF1.out (I3.out.room HT.out)).mono ?_
 rintro e u4 ⟨h4,rfl,hf4,hb4⟩
 have I4 := hQ_ (I3.out.below hb4)
 have A4 := hQ_ (A3.out.below hb4)
 have B4 := hQ_ (B3.out.below hb4)
 have f4_0 := cZ0 I4.out.fs
 obtain ⟨f4_A0,f4_A1,f4_A2⟩ := cC3 A4.out
 obtain ⟨f4_B0,f4_B1,f4_B2⟩ := cC3 B4.out
 have L4 := hQ_ hf4
 clear hf4 hb4 f3_0 f3_A0 f3_B0
 go_wp2_with (first | ((with_reducible refine pick none ?_); refine store_blk rfl 29 _ _ rfl w.heap.size #[.slice h4.a h4.n h4.c] rfl rfl 29 _ I4.out.fs info_fs rfl (by simp [Value.oneCell']) ?_; intro u5 hk5 hg5; have I5 := hQ_ (I4.out.put L4.out hg5 hk5); have A5 := hQ_ (A4.out.grown hg5 (by have := LA.out; omega)); have B5 := hQ_ (B4.out.grown hg5 (by have := LB.out; omega)); have f5_0 : u5.cell? ⟨w.heap.size,0,none⟩ = some (.slice h4.a h4.n h4.c) := I5.out.fs.cell 0; have f5_A0 : u5.cell? ⟨v1.heap.size,0,none⟩ = some (.int .u32 sd) := A5.out.cell 0; have f5_A1 : u5.cell? ⟨v1.heap.size,1,none⟩ = some (.string sn) := A5.out.cell 1; have f5_A2 : u5.cell? ⟨v1.heap.size,2,none⟩ = some (.int .u32 si) := A5.out.cell 2; have f5_B0 : u5.cell? ⟨v2.heap.size,0,none⟩ = some (.int .u32 td) := B5.out.cell 0; have f5_B1 : u5.cell? ⟨v2.heap.size,1,none⟩ = some (.string tn) := B5.out.cell 1; have f5_B2 : u5.cell? ⟨v2.heap.size,2,none⟩ = some (.int .u32 ti) := B5.out.cell 2; clear hk5 hg5 f4_0 f4_A0 f4_A1 f4_A2 f4_B0 f4_B1 f4_B2))
 refine (named_calls h4 (namedM F sd sn 0) td tn si m2 u5 I5.out.lies ON2.out OF2.out (I5.out.room HT.out)).mono ?_
 rintro e u6 ⟨h6,rfl,hf6,hb6⟩
 have I6 := hQ_ (I5.out.below hb6)
 have A6 := hQ_ (A5.out.below hb6)
 have B6 := hQ_ (B5.out.below hb6)
 have f6_0 := cZ0 I6.out.fs
 obtain ⟨f6_A0,f6_A1,f6_A2⟩ := cC3 A6.out
 obtain ⟨f6_B0,f6_B1,f6_B2⟩ := cC3 B6.out
 have L6 := hQ_ hf6
 clear hf6 hb6 f5_0 f5_A0 f5_A1 f5_A2 f5_B0 f5_B1 f5_B2
 go_wp2_with (first | ((with_reducible refine pick none ?_); refine store_blk rfl 29 _ _ rfl w.heap.size #[.slice h6.a h6.n h6.c] rfl rfl 29 _ I6.out.fs info_fs rfl (by simp [Value.oneCell']) ?_; intro u7 hk7 hg7; have I7 := hQ_ (I6.out.put L6.out hg7 hk7); have A7 := hQ_ (A6.out.grown hg7 (by have := LA.out; omega)); have B7 := hQ_ (B6.out.grown hg7 (by have := LB.out; omega)); have f7_0 : u7.cell? ⟨w.heap.size,0,none⟩ = some (.slice h6.a h6.n h6.c) := I7.out.fs.cell 0; have f7_A0 : u7.cell? ⟨v1.heap.size,0,none⟩ = some (.int .u32 sd) := A7.out.cell 0; have f7_A1 : u7.cell? ⟨v1.heap.size,1,none⟩ = some (.string sn) := A7.out.cell 1; have f7_A2 : u7.cell? ⟨v1.heap.size,2,none⟩ = some (.int .u32 si) := A7.out.cell 2; have f7_B0 : u7.cell? ⟨v2.heap.size,0,none⟩ = some (.int .u32 td) := B7.out.cell 0; have f7_B1 : u7.cell? ⟨v2.heap.size,1,none⟩ = some (.string tn) := B7.out.cell 1; have f7_B2 : u7.cell? ⟨v2.heap.size,2,none⟩ = some (.int .u32 ti) := B7.out.cell 2; clear hk7 hg7 f6_0 f6_A0 f6_A1 f6_A2 f6_B0 f6_B1 f6_B2))
 have r1 := cZ0 I7.out.res
 have r2 : u7.frozen? ⟨(w.heap.size + 1),0,none⟩ = false := I7.out.res.frozen 0
 go_region_law (fail)
 all_goals
  obtain ⟨f1,f2,f3⟩ := I7.out.ret' I7.out.lies (.slice h6.a h6.n h6.c)
  have HF1 := hQ_ (And.intro f1 f2)
  have HF3 := hQ_ f3
  clear f1 f2 f3
  go_wp2_with fail
  first
   | exact bodyPost_ret (v := .tuple #[.int .i64 (0),.agg #[.slice h6.a h6.n h6.c]]) (results_tmp_row rfl _ _ (w.heap.size + 1) 29 _ (0,0) _ rfl _ rfl HF3.out Tryz.underlying29 rfl info_fs) rfl (AnsE.of rfl HF1.out)
   | exact bodyPost_ret (v := .tuple #[.int .i64 (0),.agg #[.slice h6.a h6.n h6.c]]) (results_tmp_row rfl _ _ (w.heap.size + 1) 29 _ (0,0) _ rfl _ rfl HF3.out.drew Tryz.underlying29 rfl info_fs) rfl (AnsE.of rfl ⟨HF1.out.1.below ((Below.refl _ _).drew),HF1.out.2.drew⟩)
theorem ren_w9f {T : Nat → Prop} (h : Sh) (F : Fs) (old path : ByteArray) (w : World) (hf : FsA T w h F) (hs : SmF F) (hcl : Cl F) (hp : old.size ≤ maxLen) (hp2 : path.size ≤ maxLen) (hT : ∀ b,w.heap.size ≤ b → T b) {sd si : Int} {sn : ByteArray} (hR : fndM F old = (⟨sd,sn,si⟩,0)) (h1 : si ≠ 1) (h0 : si ≠ 0) {td ti : Int} {tn : ByteArray} (hR2 : fndM F path = (⟨td,tn,ti⟩,0)) (h2 : ti ≠ 1) (h3 : ti ≠ si) {ni nk nl : Int} {nd : ByteArray} {ne : List En} (hn : nodeM F si = some ⟨ni,nk,nl,nd,ne⟩) (hk : nk ≠ 2) (h4 : ti ≠ 0) {rx1 : Int} {rx2 : Fs} (hrx : unlinkAt F ⟨td,tn,ti⟩ = (rx1,rx2)) {md : Nd} (hmd : nodeM F ti = some md) (hclr : md.kind ≠ 2 → UnlOk F ⟨td,tn,ti⟩ md.links) (hx : rx1 ≠ 0) :
 Calls Tryz.prog 52 #[.agg #[.slice h.a h.n h.c],.string old,.string path] w (AnsE T (rx1,F) w) := by
 obtain ⟨W,hW⟩ : ∃ W,(w.alloc (.cells #[.slice h.a h.n h.c] 29)).alloc (.cells #[.slice none 0 0] 29) = W := ⟨_,rfl⟩
 have I0 := hQ_ (InvF.start hf)
 rw [hW] at I0
 have HW := hQ_ hW
 have W_0 := cZ0 I0.out.fs
 have HFI := hQ_ (fun u (hl : FsA (Out T w.heap.size (w.heap.size + 1)) u h F) => find_calls h F old u hl hs hcl hp)
 unfold FndE at HFI
 have HFJ := hQ_ (fun u (hl : FsA (Out T w.heap.size (w.heap.size + 1)) u h F) => find_calls h F path u hl hs hcl hp2)
 unfold FndE at HFJ
 have HT := hQ_ hT
 rw [hR] at HFI
 dsimp only [spotA] at HFI
 rw [hR2] at HFJ
 dsimp only [spotA] at HFJ
 have d0 : (si == 1) = false := by simpa using h1
 have d1 : (si == 0) = false := by simpa using h0
 have HNO := hQ_ (fun u (hl : FsA (Out T w.heap.size (w.heap.size + 1)) u h F) => node_calls (T := Out T w.heap.size (w.heap.size + 1)) h F ⟨sd,sn,si⟩ ⟨ni,nk,nl,nd,ne⟩ u hl hn hs.len)
 unfold NodeE at HNO
 dsimp only [spotA] at HNO
 have d2 : (ti == 1) = false := by simpa using h2
 have d3 : (ti == si) = false := by simpa using h3
 have d4 : (nk == 2) = false := by simpa using hk
 have HC := hQ_ (fun g u (hl : FsA (Out (But T g) w.heap.size (w.heap.size + 1)) u h F) hT => unlink_calls (T := Out (But T g) w.heap.size (w.heap.size + 1)) h F ⟨td,tn,ti⟩ md u hl hs hmd hclr hT)
 unfold AnsE at HC
 rw [hrx] at HC
 dsimp only [spotA] at HC
 have d5 : (ti != 0) = true := by simpa using h4
 have d6 : (rx1 != 0) = true := by simpa using hx
 clear h4 hx hrx hmd hclr
 clear hf hs hcl hp hp2 hT hW hR hR2 h1 h0 h2 h3 hk hn
 go_enter Tryz.func52,Tryz.ntmps52
 go_wp2_with fail
 rw [HW.out]
 go_wp2_with fail
 refine (HFI.out W I0.out.lies).mono ?_
 rintro e v1 ⟨rfl,hb1⟩
 have hbU1 := nW_ hb1 (.cells #[.int .u32 sd,.string sn,.int .u32 si] 156)
 have I1 := hQ_ (I0.out.below hbU1)
 have A1 := hQ_ (Blk.new_ v1 #[.int .u32 sd,.string sn,.int .u32 si] 156)
 have f1_0 := cZ0 I1.out.fs
 have f1_A0 := cC3 A1.out
 clear hbU1 W_0 hb1
 go_wp2_with fail
 refine (HFJ.out (v1.alloc (.cells #[.int .u32 sd,.string sn,.int .u32 si] 156)) I1.out.lies).mono ?_
 rintro e v2 ⟨rfl,hb2⟩
 have hbU2 := nW_ hb2 (.cells #[.int .u32 td,.string tn,.int .u32 ti] 156)
 have I2 := hQ_ (I1.out.below hbU2)
 have A2 := hQ_ (A1.out.below hbU2)
 have B2 := hQ_ (Blk.new_ v2 #[.int .u32 td,.string tn,.int .u32 ti] 156)
 have f2_0 := cZ0 I2.out.fs
 have f2_A0 := cC3 A2.out
 have f2_B0 := cC3 B2.out
 clear hbU2 f1_0 hb2 f1_A0
 go_wp2_with fail
 refine (HNO.out (v2.alloc (.cells #[.int .u32 td,.string tn,.int .u32 ti] 156)) I2.out.lies).mono ?_
 rintro e v3 ⟨h3,rfl,hf3,hb3⟩
 have hz3 := hf3.len
 dsimp only [nodeV] at hz3 ⊢
 have hbU3 : Below (v2.alloc (.cells #[.int .u32 td,.string tn,.int .u32 ti] 156)).heap.size (v2.alloc (.cells #[.int .u32 td,.string tn,.int .u32 ti] 156)) v3 := hb3
 have I3 := hQ_ (I2.out.below hbU3)
 have A3 := hQ_ (A2.out.below hbU3)
 have B3 := hQ_ (B2.out.below hbU3)
 have f3_0 := cZ0 I3.out.fs
 have f3_A0 := cC3 A3.out
 have f3_B0 := cC3 B3.out
 have q3_1 := field_1 (.int .u32 ni) (.int .u8 nk) (.int .i64 nl) (.string nd) (.slice h3.a h3.n h3.c) v3
 have q3_2 := field_2 (.int .u32 ni) (.int .u8 nk) (.int .i64 nl) (.string nd) (.slice h3.a h3.n h3.c) v3
 clear hbU3 f2_0 hb3 hf3 f2_A0 f2_B0
 clear hz3
 have hbU4 := bN_ v3 (.cells #[.slice h.a h.n h.c] 29)
 have HQ4 := hQ_ ((lies_but (r := v3.heap.size) I3.out.lies (Nat.le_refl _)).below hbU4)
 have LX : Hid (w.heap.size + 1 < v3.heap.size ∧ v3.heap.size ≠ w.heap.size + 1) := hQ_ (by have := I3.out.lt; omega)
 have I4 := hQ_ (I3.out.below hbU4)
 have A4 := hQ_ (A3.out.below hbU4)
 have B4 := hQ_ (B3.out.below hbU4)
 have X4 : Hid (Blk (v3.alloc (.cells #[.slice h.a h.n h.c] 29)) (v3.heap.size) #[.slice h.a h.n h.c] 29) := hQ_ (Blk.new_ v3 _ _)
 have f4_0 := cZ0 I4.out.fs
 have f4_A0 := cC3 A4.out
 have f4_B0 := cC3 B4.out
 have f4_X := cZ0 X4.out
 clear hbU4
 have RM4 : ∀ b,(v3.alloc (.cells #[.slice h.a h.n h.c] 29)).heap.size ≤ b → Out (But T (v3.heap.size)) w.heap.size (w.heap.size + 1) b := fun b hb => by
  have h1 := I4.out.room HT.out b hb
  have h2 := X4.out.lt
  exact ⟨⟨h1.1,by omega⟩,h1.2⟩
 have HRM := hQ_ RM4
 clear RM4
 go_wp2_with fail
 refine (HC.out _ (v3.alloc (.cells #[.slice h.a h.n h.c] 29)) HQ4.out HRM.out).mono ?_
 rintro e u5 ⟨h5,rfl,hf5,hb5⟩
 have I5 := hQ_ (I4.out.below hb5)
 have A5 := hQ_ (A4.out.below hb5)
 have B5 := hQ_ (B4.out.below hb5)
 have X5 := hQ_ (X4.out.below hb5)
 have f5_0 := cZ0 I5.out.fs
 obtain ⟨f5_A0,f5_A1,f5_A2⟩ := cC3 A5.out
 obtain ⟨f5_B0,f5_B1,f5_B2⟩ := cC3 B5.out
 have f5_X := cZ0 X5.out
 have HQ5 := hQ_ (HQ4.out.below hb5)
 have L5 := hQ_ hf5
 clear hf5 hb5 f4_0 f4_X f3_0 f3_A0 f3_B0 f4_A0 f4_B0
 go_wp2_with ((with_reducible refine pick none ?_); refine store_blk rfl 29 _ _ rfl (v3.heap.size) #[.slice h5.a h5.n h5.c] rfl rfl 29 _ X5.out info_fs rfl (by simp [Value.oneCell']) ?_; intro z6 hk6 hg6; have I6 := hQ_ (I5.out.aside X5.out hg6 (Nat.lt_of_succ_lt LX.out.1) LX.out.2 HQ5.out); have L6 := hQ_ (fs_aside L5.out hg6); have X6 := hQ_ (show Blk z6 (v3.heap.size) #[.slice h5.a h5.n h5.c] 29 from hk6); have A6 := hQ_ (A5.out.grown hg6 (blk_ne A5.out X5.out (by decide))); have B6 := hQ_ (B5.out.grown hg6 (blk_ne B5.out X5.out (by decide))); have f6_0 : z6.cell? ⟨w.heap.size,0,none⟩ = some (.slice h.a h.n h.c) := I6.out.fs.cell 0; have f6_A0 : z6.cell? ⟨v1.heap.size,0,none⟩ = some (.int .u32 sd) := A6.out.cell 0; have f6_A1 : z6.cell? ⟨v1.heap.size,1,none⟩ = some (.string sn) := A6.out.cell 1; have f6_A2 : z6.cell? ⟨v1.heap.size,2,none⟩ = some (.int .u32 si) := A6.out.cell 2; have f6_B0 : z6.cell? ⟨v2.heap.size,0,none⟩ = some (.int .u32 td) := B6.out.cell 0; have f6_B1 : z6.cell? ⟨v2.heap.size,1,none⟩ = some (.string tn) := B6.out.cell 1; have f6_B2 : z6.cell? ⟨v2.heap.size,2,none⟩ = some (.int .u32 ti) := B6.out.cell 2; have f6_X : z6.cell? ⟨(v3.heap.size),0,none⟩ = some (.slice h5.a h5.n h5.c) := X6.out.cell 0; clear hk6 hg6 f5_0 f5_A0 f5_A1 f5_A2 f5_B0 f5_B1 f5_B2 f5_X)
 have r1 := cZ0 I6.out.res
 have r2 : z6.frozen? ⟨(w.heap.size + 1),0,none⟩ = false := I6.out.res.frozen 0
 go_region_law (fail)
 all_goals
  obtain ⟨f1,f2,f3⟩ := I6.out.ret' I6.out.lies (.slice h.a h.n h.c)
  have HF1 := hQ_ (And.intro f1 f2)
  have HF3 := hQ_ f3
  clear f1 f2 f3
  go_wp2_with fail
  first
   | exact bodyPost_ret (v := .tuple #[.int .i64 (rx1),.agg #[.slice h.a h.n h.c]]) (results_tmp_row rfl _ _ (w.heap.size + 1) 29 _ (0,0) _ rfl _ rfl HF3.out Tryz.underlying29 rfl info_fs) rfl (AnsE.of rfl HF1.out)
   | exact bodyPost_ret (v := .tuple #[.int .i64 (rx1),.agg #[.slice h.a h.n h.c]]) (results_tmp_row rfl _ _ (w.heap.size + 1) 29 _ (0,0) _ rfl _ rfl HF3.out.drew Tryz.underlying29 rfl info_fs) rfl (AnsE.of rfl ⟨HF1.out.1.below ((Below.refl _ _).drew),HF1.out.2.drew⟩)
theorem ren_waf {T : Nat → Prop} (h : Sh) (F : Fs) (old path : ByteArray) (w : World) (hf : FsA T w h F) (hs : SmF F) (hcl : Cl F) (hp : old.size ≤ maxLen) (hp2 : path.size ≤ maxLen) (hT : ∀ b,w.heap.size ≤ b → T b) {sd si : Int} {sn : ByteArray} (hR : fndM F old = (⟨sd,sn,si⟩,0)) (h1 : si ≠ 1) (h0 : si ≠ 0) {td ti : Int} {tn : ByteArray} (hR2 : fndM F path = (⟨td,tn,ti⟩,0)) (h2 : ti ≠ 1) (h3 : ti ≠ si) {ni nk nl : Int} {nd : ByteArray} {ne : List En} (hn : nodeM F si = some ⟨ni,nk,nl,nd,ne⟩) (hk : nk ≠ 2) (h4 : ti ≠ 0) {rx1 : Int} {rx2 : Fs} (hrx : unlinkAt F ⟨td,tn,ti⟩ = (rx1,rx2)) {md : Nd} (hmd : nodeM F ti = some md) (hclr : md.kind ≠ 2 → UnlOk F ⟨td,tn,ti⟩ md.links) (hx : rx1 = 0) (hmv : MoveOk rx2 ⟨sd,sn,si⟩ ⟨td,tn,ti⟩ false) :
 Calls Tryz.prog 52 #[.agg #[.slice h.a h.n h.c],.string old,.string path] w (AnsE T (0,moveAt rx2 ⟨sd,sn,si⟩ ⟨td,tn,ti⟩ false) w) := by
 obtain ⟨W,hW⟩ : ∃ W,(w.alloc (.cells #[.slice h.a h.n h.c] 29)).alloc (.cells #[.slice none 0 0] 29) = W := ⟨_,rfl⟩
 have I0 := hQ_ (InvF.start hf)
 rw [hW] at I0
 have HW := hQ_ hW
 have W_0 := cZ0 I0.out.fs
 have HFI := hQ_ (fun u (hl : FsA (Out T w.heap.size (w.heap.size + 1)) u h F) => find_calls h F old u hl hs hcl hp)
 unfold FndE at HFI
 have HFJ := hQ_ (fun u (hl : FsA (Out T w.heap.size (w.heap.size + 1)) u h F) => find_calls h F path u hl hs hcl hp2)
 unfold FndE at HFJ
 have HT := hQ_ hT
 have HMV := hQ_ hmv
 obtain ⟨of1,⟨m1,on1⟩,of2,⟨m2,on2⟩,of3,on3,of4,on4⟩ := HMV.out
 dsimp only at of1 on1 of2 on2 of3 on3 of4 on4
 have OF1 := hQ_ of1
 have ON1 := hQ_ on1
 have OF2 := hQ_ of2
 have ON2 := hQ_ on2
 clear of1 on1 of2 on2 of3 of4 HMV on3 on4
 rw [hR] at HFI
 dsimp only [spotA] at HFI
 rw [hR2] at HFJ
 dsimp only [spotA] at HFJ
 have d0 : (si == 1) = false := by simpa using h1
 have d1 : (si == 0) = false := by simpa using h0
 have HNO := hQ_ (fun u (hl : FsA (Out T w.heap.size (w.heap.size + 1)) u h F) => node_calls (T := Out T w.heap.size (w.heap.size + 1)) h F ⟨sd,sn,si⟩ ⟨ni,nk,nl,nd,ne⟩ u hl hn hs.len)
 unfold NodeE at HNO
 dsimp only [spotA] at HNO
 have d2 : (ti == 1) = false := by simpa using h2
 have d3 : (ti == si) = false := by simpa using h3
 have d4 : (nk == 2) = false := by simpa using hk
 have HC := hQ_ (fun g u (hl : FsA (Out (But T g) w.heap.size (w.heap.size + 1)) u h F) hT => unlink_calls (T := Out (But T g) w.heap.size (w.heap.size + 1)) h F ⟨td,tn,ti⟩ md u hl hs hmd hclr hT)
 unfold AnsE at HC
 rw [hrx] at HC
 dsimp only [spotA] at HC
 have d5 : (ti != 0) = true := by simpa using h4
 have d6 : (rx1 != 0) = false := by simpa using hx
 clear h4 hx hrx hmd hclr hmv
 clear hf hs hcl hp hp2 hT hW hR hR2 h1 h0 h2 h3 hk hn
 go_enter Tryz.func52,Tryz.ntmps52
 go_wp2_with fail
 rw [HW.out]
 go_wp2_with fail
 refine (HFI.out W I0.out.lies).mono ?_
 rintro e v1 ⟨rfl,hb1⟩
 have hbU1 := nW_ hb1 (.cells #[.int .u32 sd,.string sn,.int .u32 si] 156)
 have I1 := hQ_ (I0.out.below hbU1)
 have A1 := hQ_ (Blk.new_ v1 #[.int .u32 sd,.string sn,.int .u32 si] 156)
 have LA : Hid (w.heap.size + 1 ≤ v1.heap.size) := hQ_ (by have := I0.out.lt; have := hb1.size; omega)
 have f1_0 := cZ0 I1.out.fs
 have f1_A0 := cC3 A1.out
 clear hbU1 W_0 hb1
 go_wp2_with fail
 refine (HFJ.out (v1.alloc (.cells #[.int .u32 sd,.string sn,.int .u32 si] 156)) I1.out.lies).mono ?_
 rintro e v2 ⟨rfl,hb2⟩
 have hbU2 := nW_ hb2 (.cells #[.int .u32 td,.string tn,.int .u32 ti] 156)
 have I2 := hQ_ (I1.out.below hbU2)
 have A2 := hQ_ (A1.out.below hbU2)
 have B2 := hQ_ (Blk.new_ v2 #[.int .u32 td,.string tn,.int .u32 ti] 156)
 have LB : Hid (w.heap.size + 1 ≤ v2.heap.size) := hQ_ (by have := I1.out.lt; have := hb2.size; omega)
 have f2_0 := cZ0 I2.out.fs
 have f2_A0 := cC3 A2.out
 have f2_B0 := cC3 B2.out
 clear hbU2 f1_0 hb2 f1_A0
 go_wp2_with fail
 refine (HNO.out (v2.alloc (.cells #[.int .u32 td,.string tn,.int .u32 ti] 156)) I2.out.lies).mono ?_
 rintro e v3 ⟨h3,rfl,hf3,hb3⟩
 have hz3 := hf3.len
 dsimp only [nodeV] at hz3 ⊢
 have hbU3 : Below (v2.alloc (.cells #[.int .u32 td,.string tn,.int .u32 ti] 156)).heap.size (v2.alloc (.cells #[.int .u32 td,.string tn,.int .u32 ti] 156)) v3 := hb3
 have I3 := hQ_ (I2.out.below hbU3)
 have A3 := hQ_ (A2.out.below hbU3)
 have B3 := hQ_ (B2.out.below hbU3)
 have f3_0 := cZ0 I3.out.fs
 have f3_A0 := cC3 A3.out
 have f3_B0 := cC3 B3.out
 have q3_1 := field_1 (.int .u32 ni) (.int .u8 nk) (.int .i64 nl) (.string nd) (.slice h3.a h3.n h3.c) v3
 have q3_2 := field_2 (.int .u32 ni) (.int .u8 nk) (.int .i64 nl) (.string nd) (.slice h3.a h3.n h3.c) v3
 clear hbU3 f2_0 hb3 hf3 f2_A0 f2_B0
 clear hz3
 have hbU4 := bN_ v3 (.cells #[.slice h.a h.n h.c] 29)
 have HQ4 := hQ_ ((lies_but (r := v3.heap.size) I3.out.lies (Nat.le_refl _)).below hbU4)
 have LX : Hid (w.heap.size + 1 < v3.heap.size ∧ v3.heap.size ≠ w.heap.size + 1) := hQ_ (by have := I3.out.lt; omega)
 have I4 := hQ_ (I3.out.below hbU4)
 have A4 := hQ_ (A3.out.below hbU4)
 have B4 := hQ_ (B3.out.below hbU4)
 have X4 : Hid (Blk (v3.alloc (.cells #[.slice h.a h.n h.c] 29)) (v3.heap.size) #[.slice h.a h.n h.c] 29) := hQ_ (Blk.new_ v3 _ _)
 have f4_0 := cZ0 I4.out.fs
 have f4_A0 := cC3 A4.out
 have f4_B0 := cC3 B4.out
 have f4_X := cZ0 X4.out
 clear hbU4
 have RM4 : ∀ b,(v3.alloc (.cells #[.slice h.a h.n h.c] 29)).heap.size ≤ b → Out (But T (v3.heap.size)) w.heap.size (w.heap.size + 1) b := fun b hb => by
  have h1 := I4.out.room HT.out b hb
  have h2 := X4.out.lt
  exact ⟨⟨h1.1,by omega⟩,h1.2⟩
 have HRM := hQ_ RM4
 clear RM4
 go_wp2_with fail
 refine (HC.out _ (v3.alloc (.cells #[.slice h.a h.n h.c] 29)) HQ4.out HRM.out).mono ?_
 rintro e u5 ⟨h5,rfl,hf5,hb5⟩
 have I5 := hQ_ (I4.out.below hb5)
 have A5 := hQ_ (A4.out.below hb5)
 have B5 := hQ_ (B4.out.below hb5)
 have X5 := hQ_ (X4.out.below hb5)
 have f5_0 := cZ0 I5.out.fs
 obtain ⟨f5_A0,f5_A1,f5_A2⟩ := cC3 A5.out
 obtain ⟨f5_B0,f5_B1,f5_B2⟩ := cC3 B5.out
 have f5_X := cZ0 X5.out
 have HQ5 := hQ_ (HQ4.out.below hb5)
 have L5 := hQ_ hf5
 clear hf5 hb5 f4_0 f4_X f3_0 f3_A0 f3_B0 f4_A0 f4_B0
 go_wp2_with (first | ((with_reducible refine pick none ?_); refine store_blk rfl 29 _ _ rfl (v3.heap.size) #[.slice h5.a h5.n h5.c] rfl rfl 29 _ X5.out info_fs rfl (by simp [Value.oneCell']) ?_; intro z6 hk6 hg6; have I6 := hQ_ (I5.out.aside X5.out hg6 (Nat.lt_of_succ_lt LX.out.1) LX.out.2 HQ5.out); have L6 := hQ_ (fs_aside L5.out hg6); have X6 := hQ_ (show Blk z6 (v3.heap.size) #[.slice h5.a h5.n h5.c] 29 from hk6); have A6 := hQ_ (A5.out.grown hg6 (blk_ne A5.out X5.out (by decide))); have B6 := hQ_ (B5.out.grown hg6 (blk_ne B5.out X5.out (by decide))); have f6_0 : z6.cell? ⟨w.heap.size,0,none⟩ = some (.slice h.a h.n h.c) := I6.out.fs.cell 0; have f6_A0 : z6.cell? ⟨v1.heap.size,0,none⟩ = some (.int .u32 sd) := A6.out.cell 0; have f6_A1 : z6.cell? ⟨v1.heap.size,1,none⟩ = some (.string sn) := A6.out.cell 1; have f6_A2 : z6.cell? ⟨v1.heap.size,2,none⟩ = some (.int .u32 si) := A6.out.cell 2; have f6_B0 : z6.cell? ⟨v2.heap.size,0,none⟩ = some (.int .u32 td) := B6.out.cell 0; have f6_B1 : z6.cell? ⟨v2.heap.size,1,none⟩ = some (.string tn) := B6.out.cell 1; have f6_B2 : z6.cell? ⟨v2.heap.size,2,none⟩ = some (.int .u32 ti) := B6.out.cell 2; have f6_X : z6.cell? ⟨(v3.heap.size),0,none⟩ = some (.slice h5.a h5.n h5.c) := X6.out.cell 0; clear hk6 hg6 f5_0 f5_A0 f5_A1 f5_A2 f5_B0 f5_B1 f5_B2 f5_X) | ((with_reducible refine pick none ?_); refine store_blk rfl 29 _ _ rfl w.heap.size #[.slice h5.a h5.n h5.c] rfl rfl 29 _ I6.out.fs info_fs rfl (by simp [Value.oneCell']) ?_; intro u7 hk7 hg7; have I7 := hQ_ (I6.out.put L6.out hg7 hk7); have A7 := hQ_ (A6.out.grown hg7 (by have := LA.out; omega)); have B7 := hQ_ (B6.out.grown hg7 (by have := LB.out; omega)); have X7 := hQ_ (X6.out.grown hg7 (by have := LX.out; omega)); have f7_0 : u7.cell? ⟨w.heap.size,0,none⟩ = some (.slice h5.a h5.n h5.c) := I7.out.fs.cell 0; have f7_A0 : u7.cell? ⟨v1.heap.size,0,none⟩ = some (.int .u32 sd) := A7.out.cell 0; have f7_A1 : u7.cell? ⟨v1.heap.size,1,none⟩ = some (.string sn) := A7.out.cell 1; have f7_A2 : u7.cell? ⟨v1.heap.size,2,none⟩ = some (.int .u32 si) := A7.out.cell 2; have f7_B0 : u7.cell? ⟨v2.heap.size,0,none⟩ = some (.int .u32 td) := B7.out.cell 0; have f7_B1 : u7.cell? ⟨v2.heap.size,1,none⟩ = some (.string tn) := B7.out.cell 1; have f7_B2 : u7.cell? ⟨v2.heap.size,2,none⟩ = some (.int .u32 ti) := B7.out.cell 2; have f7_X : u7.cell? ⟨(v3.heap.size),0,none⟩ = some (.slice h5.a h5.n h5.c) := X7.out.cell 0; clear hk7 hg7 f6_0 f6_A0 f6_A1 f6_A2 f6_B0 f6_B1 f6_B2 f6_X))
 refine (named_calls h5 rx2 sd sn 0 m1 u7 I7.out.lies ON1.out OF1.out (I7.out.room HT.out)).mono ?_
 rintro e u8 ⟨h8,rfl,hf8,hb8⟩
 have I8 := hQ_ (I7.out.below hb8)
 have A8 := hQ_ (A7.out.below hb8)
 have B8 := hQ_ (B7.out.below hb8)
 have X8 := hQ_ (X7.out.below hb8)
 have f8_0 := cZ0 I8.out.fs
 obtain ⟨f8_A0,f8_A1,f8_A2⟩ := cC3 A8.out
 obtain ⟨f8_B0,f8_B1,f8_B2⟩ := cC3 B8.out
 have f8_X := cZ0 X8.out
 have L8 := hQ_ hf8
 clear hf8 hb8 f7_0 f7_A0 f7_A1 f7_A2 f7_B0 f7_B1 f7_B2 f7_X
 go_wp2_with (first | ((with_reducible refine pick none ?_); refine store_blk rfl 29 _ _ rfl w.heap.size #[.slice h8.a h8.n h8.c] rfl rfl 29 _ I8.out.fs info_fs rfl (by simp [Value.oneCell']) ?_; intro u9 hk9 hg9; have I9 := hQ_ (I8.out.put L8.out hg9 hk9); have A9 := hQ_ (A8.out.grown hg9 (by have := LA.out; omega)); have B9 := hQ_ (B8.out.grown hg9 (by have := LB.out; omega)); have X9 := hQ_ (X8.out.grown hg9 (by have := LX.out; omega)); have f9_0 : u9.cell? ⟨w.heap.size,0,none⟩ = some (.slice h8.a h8.n h8.c) := I9.out.fs.cell 0; have f9_A0 : u9.cell? ⟨v1.heap.size,0,none⟩ = some (.int .u32 sd) := A9.out.cell 0; have f9_A1 : u9.cell? ⟨v1.heap.size,1,none⟩ = some (.string sn) := A9.out.cell 1; have f9_A2 : u9.cell? ⟨v1.heap.size,2,none⟩ = some (.int .u32 si) := A9.out.cell 2; have f9_B0 : u9.cell? ⟨v2.heap.size,0,none⟩ = some (.int .u32 td) := B9.out.cell 0; have f9_B1 : u9.cell? ⟨v2.heap.size,1,none⟩ = some (.string tn) := B9.out.cell 1; have f9_B2 : u9.cell? ⟨v2.heap.size,2,none⟩ = some (.int .u32 ti) := B9.out.cell 2; have f9_X : u9.cell? ⟨(v3.heap.size),0,none⟩ = some (.slice h5.a h5.n h5.c) := X9.out.cell 0; clear hk9 hg9 f8_0 f8_A0 f8_A1 f8_A2 f8_B0 f8_B1 f8_B2 f8_X))
 refine (named_calls h8 (namedM rx2 sd sn 0) td tn si m2 u9 I9.out.lies ON2.out OF2.out (I9.out.room HT.out)).mono ?_
 rintro e u10 ⟨h10,rfl,hf10,hb10⟩
 have I10 := hQ_ (I9.out.below hb10)
 have A10 := hQ_ (A9.out.below hb10)
 have B10 := hQ_ (B9.out.below hb10)
 have X10 := hQ_ (X9.out.below hb10)
 have f10_0 := cZ0 I10.out.fs
 obtain ⟨f10_A0,f10_A1,f10_A2⟩ := cC3 A10.out
 obtain ⟨f10_B0,f10_B1,f10_B2⟩ := cC3 B10.out
 have f10_X := cZ0 X10.out
 have L10 := hQ_ hf10
 clear hf10 hb10 f9_0 f9_A0 f9_A1 f9_A2 f9_B0 f9_B1 f9_B2 f9_X
 go_wp2_with (first | ((with_reducible refine pick none ?_); refine store_blk rfl 29 _ _ rfl w.heap.size #[.slice h10.a h10.n h10.c] rfl rfl 29 _ I10.out.fs info_fs rfl (by simp [Value.oneCell']) ?_; intro u11 hk11 hg11; have I11 := hQ_ (I10.out.put L10.out hg11 hk11); have A11 := hQ_ (A10.out.grown hg11 (by have := LA.out; omega)); have B11 := hQ_ (B10.out.grown hg11 (by have := LB.out; omega)); have X11 := hQ_ (X10.out.grown hg11 (by have := LX.out; omega)); have f11_0 : u11.cell? ⟨w.heap.size,0,none⟩ = some (.slice h10.a h10.n h10.c) := I11.out.fs.cell 0; have f11_A0 : u11.cell? ⟨v1.heap.size,0,none⟩ = some (.int .u32 sd) := A11.out.cell 0; have f11_A1 : u11.cell? ⟨v1.heap.size,1,none⟩ = some (.string sn) := A11.out.cell 1; have f11_A2 : u11.cell? ⟨v1.heap.size,2,none⟩ = some (.int .u32 si) := A11.out.cell 2; have f11_B0 : u11.cell? ⟨v2.heap.size,0,none⟩ = some (.int .u32 td) := B11.out.cell 0; have f11_B1 : u11.cell? ⟨v2.heap.size,1,none⟩ = some (.string tn) := B11.out.cell 1; have f11_B2 : u11.cell? ⟨v2.heap.size,2,none⟩ = some (.int .u32 ti) := B11.out.cell 2; have f11_X : u11.cell? ⟨(v3.heap.size),0,none⟩ = some (.slice h5.a h5.n h5.c) := X11.out.cell 0; clear hk11 hg11 f10_0 f10_A0 f10_A1 f10_A2 f10_B0 f10_B1 f10_B2 f10_X))
 have r1 := cZ0 I11.out.res
 have r2 : u11.frozen? ⟨(w.heap.size + 1),0,none⟩ = false := I11.out.res.frozen 0
 go_region_law (fail)
 all_goals
  obtain ⟨f1,f2,f3⟩ := I11.out.ret' I11.out.lies (.slice h10.a h10.n h10.c)
  have HF1 := hQ_ (And.intro f1 f2)
  have HF3 := hQ_ f3
  clear f1 f2 f3
  go_wp2_with fail
  first
   | exact bodyPost_ret (v := .tuple #[.int .i64 (0),.agg #[.slice h10.a h10.n h10.c]]) (results_tmp_row rfl _ _ (w.heap.size + 1) 29 _ (0,0) _ rfl _ rfl HF3.out Tryz.underlying29 rfl info_fs) rfl (AnsE.of rfl HF1.out)
   | exact bodyPost_ret (v := .tuple #[.int .i64 (0),.agg #[.slice h10.a h10.n h10.c]]) (results_tmp_row rfl _ _ (w.heap.size + 1) 29 _ (0,0) _ rfl _ rfl HF3.out.drew Tryz.underlying29 rfl info_fs) rfl (AnsE.of rfl ⟨HF1.out.1.below ((Below.refl _ _).drew),HF1.out.2.drew⟩)
end Go.Proofs.YtfalhnomhidkcaaGreatDoor.DirsRh
namespace Go.Proofs.YtfalhnomhidkcaaGreatDoor.DirsRg
open Go.RowKit
open Byte KeysM TreeM Lst Ho Tx NamesM NamesR WalkF DirsM Chg DirsR DirsRa DirsRb DirsRc DirsRd DirsRe DirsRf
open Own hiding keeps
open ViewR (Sh)
theorem rem_calls {T : Nat → Prop} (h : Sh) (F : Fs) (path : ByteArray) (w : World) (hf : FsA T w h F) (hs : SmF F) (hcl : Cl F) (hp : path.size ≤ maxLen) (hok : (fndM F path).2 = 0 → (fndM F path).1.ino ≠ 0 → (fndM F path).1.ino ≠ 1 → ∃ nd,nodeM F (fndM F path).1.ino = some nd ∧ (nd.kind = 2 → nd.ents.length = 0 → RemOk F (fndM F path).1)) (hT : ∀ b,w.heap.size ≤ b → T b) :
 Calls Tryz.prog 46 #[.agg #[.slice h.a h.n h.c],.string path] w (AnsE T (removeM F path) w) := by
 obtain ⟨W,hW⟩ : ∃ W,(w.alloc (.cells #[.slice h.a h.n h.c] 29)).alloc (.cells #[.slice none 0 0] 29) = W := ⟨_,rfl⟩
 have I0 := hQ_ (InvF.start hf)
 rw [hW] at I0
 have HW := hQ_ hW
 have W_0 := cZ0 I0.out.fs
 have HFI := hQ_ (fun u (hl : FsA (Out T w.heap.size (w.heap.size + 1)) u h F) => find_calls h F path u hl hs hcl hp)
 unfold FndE at HFI
 have HM : Hid (removeM F path = if (fndM F path).2 ≠ 0 then ((fndM F path).2,F) else if (fndM F path).1.ino = 1 then (29,F) else if (fndM F path).1.ino = 0 then (10,F) else removeAt F (fndM F path).1) := hQ_ rfl
 have HOK := hQ_ hok
 have HT := hQ_ hT
 have HS := hQ_ hs
 obtain ⟨⟨⟨sd,sn,si⟩,er⟩,hR⟩ : ∃ R,fndM F path = R := ⟨_,rfl⟩
 rw [hR] at HFI HM HOK
 dsimp only [spotA] at HFI HM HOK
 rw [HM.out]
 clear hf hs hcl hp hT hok hW hR HM
 by_cases he : er = 0
 ·subst he
  rw [if_neg (fun h => h rfl)]
  by_cases h1 : si = 1
  ·rw [if_pos h1]
   have d1 : (si == 1) = true := by simpa using h1
   clear h1 HOK
   go_enter Tryz.func46,Tryz.ntmps46
   go_wp2_with fail
   rw [HW.out]
   go_wp2_with fail
   refine (HFI.out W I0.out.lies).mono ?_
   rintro e v1 ⟨rfl,hb1⟩
   have hbU1 := nW_ hb1 (.cells #[.int .u32 sd,.string sn,.int .u32 si] 156)
   have I1 := hQ_ (I0.out.below hbU1)
   have A1 := hQ_ (Blk.new_ v1 #[.int .u32 sd,.string sn,.int .u32 si] 156)
   have LA : Hid (w.heap.size + 1 ≤ v1.heap.size) := hQ_ (by have := I0.out.lt; have := hb1.size; omega)
   have f1_0 := cZ0 I1.out.fs
   have f1_A0 := cC3 A1.out
   clear hbU1 W_0 hb1
   go_wp2_with fail
   have r1 := cZ0 I1.out.res
   have r2 : (v1.alloc (.cells #[.int .u32 sd,.string sn,.int .u32 si] 156)).frozen? ⟨(w.heap.size + 1),0,none⟩ = false := I1.out.res.frozen 0
   go_region_law (fail)
   all_goals
    obtain ⟨f1,f2,f3⟩ := I1.out.ret' I1.out.lies (.slice h.a h.n h.c)
    have HF1 := hQ_ (And.intro f1 f2)
    have HF3 := hQ_ f3
    clear f1 f2 f3
    go_wp2_with fail
    first
     | exact bodyPost_ret (v := .tuple #[.int .i64 (29),.agg #[.slice h.a h.n h.c]]) (results_tmp_row rfl _ _ (w.heap.size + 1) 29 _ (0,0) _ rfl _ rfl HF3.out Tryz.underlying29 rfl info_fs) rfl (AnsE.of rfl HF1.out)
     | exact bodyPost_ret (v := .tuple #[.int .i64 (29),.agg #[.slice h.a h.n h.c]]) (results_tmp_row rfl _ _ (w.heap.size + 1) 29 _ (0,0) _ rfl _ rfl HF3.out.drew Tryz.underlying29 rfl info_fs) rfl (AnsE.of rfl ⟨HF1.out.1.below ((Below.refl _ _).drew),HF1.out.2.drew⟩)
  ·rw [if_neg h1]
   have d1 : (si == 1) = false := by simpa using h1
   by_cases h0 : si = 0
   ·rw [if_pos h0]
    have d0 : (si == 0) = true := by simpa using h0
    clear h0 HOK
    go_enter Tryz.func46,Tryz.ntmps46
    go_wp2_with fail
    rw [HW.out]
    go_wp2_with fail
    refine (HFI.out W I0.out.lies).mono ?_
    rintro e v2 ⟨rfl,hb2⟩
    have hbU2 := nW_ hb2 (.cells #[.int .u32 sd,.string sn,.int .u32 si] 156)
    have I2 := hQ_ (I0.out.below hbU2)
    have A2 := hQ_ (Blk.new_ v2 #[.int .u32 sd,.string sn,.int .u32 si] 156)
    have LA : Hid (w.heap.size + 1 ≤ v2.heap.size) := hQ_ (by have := I0.out.lt; have := hb2.size; omega)
    have f2_0 := cZ0 I2.out.fs
    have f2_A0 := cC3 A2.out
    clear hbU2 W_0 hb2
    go_wp2_with fail
    have r1 := cZ0 I2.out.res
    have r2 : (v2.alloc (.cells #[.int .u32 sd,.string sn,.int .u32 si] 156)).frozen? ⟨(w.heap.size + 1),0,none⟩ = false := I2.out.res.frozen 0
    go_region_law (fail)
    all_goals
     obtain ⟨f1,f2,f3⟩ := I2.out.ret' I2.out.lies (.slice h.a h.n h.c)
     have HF1 := hQ_ (And.intro f1 f2)
     have HF3 := hQ_ f3
     clear f1 f2 f3
     go_wp2_with fail
     first
      | exact bodyPost_ret (v := .tuple #[.int .i64 (10),.agg #[.slice h.a h.n h.c]]) (results_tmp_row rfl _ _ (w.heap.size + 1) 29 _ (0,0) _ rfl _ rfl HF3.out Tryz.underlying29 rfl info_fs) rfl (AnsE.of rfl HF1.out)
      | exact bodyPost_ret (v := .tuple #[.int .i64 (10),.agg #[.slice h.a h.n h.c]]) (results_tmp_row rfl _ _ (w.heap.size + 1) 29 _ (0,0) _ rfl _ rfl HF3.out.drew Tryz.underlying29 rfl info_fs) rfl (AnsE.of rfl ⟨HF1.out.1.below ((Below.refl _ _).drew),HF1.out.2.drew⟩)
   ·rw [if_neg h0]
    have d0 : (si == 0) = false := by simpa using h0
    obtain ⟨nd,hn,hok⟩ := HOK.out rfl h0 h1
    obtain ⟨rx,hrx⟩ : ∃ rx,removeAt F ⟨sd,sn,si⟩ = rx := ⟨_,rfl⟩
    have HC := hQ_ (fun u (hl : FsA (Out T w.heap.size (w.heap.size + 1)) u h F) hT => remove_calls (T := Out T w.heap.size (w.heap.size + 1)) h F ⟨sd,sn,si⟩ nd u hl HS.out hn hok hT)
    unfold AnsE at HC
    rw [hrx] at HC
    rw [hrx]
    dsimp only [spotA] at HC
    obtain ⟨rx1,rx2⟩ := rx
    dsimp only at HC ⊢
    clear h0 hn hok hrx HOK h1
    go_enter Tryz.func46,Tryz.ntmps46
    go_wp2_with fail
    rw [HW.out]
    go_wp2_with fail
    refine (HFI.out W I0.out.lies).mono ?_
    rintro e v3 ⟨rfl,hb3⟩
    have hbU3 := nW_ hb3 (.cells #[.int .u32 sd,.string sn,.int .u32 si] 156)
    have I3 := hQ_ (I0.out.below hbU3)
    have A3 := hQ_ (Blk.new_ v3 #[.int .u32 sd,.string sn,.int .u32 si] 156)
    have LA : Hid (w.heap.size + 1 ≤ v3.heap.size) := hQ_ (by have := I0.out.lt; have := hb3.size; omega)
    have f3_0 := cZ0 I3.out.fs
    have f3_A0 := cC3 A3.out
    clear hbU3 W_0 hb3
    go_wp2_with fail
    refine (HC.out (v3.alloc (.cells #[.int .u32 sd,.string sn,.int .u32 si] 156)) I3.out.lies (I3.out.room HT.out)).mono ?_
    rintro e u4 ⟨h4,rfl,hf4,hb4⟩
    have I4 := hQ_ (I3.out.below hb4)
    have A4 := hQ_ (A3.out.below hb4)
    have f4_0 := cZ0 I4.out.fs
    have f4_A0 := cC3 A4.out
    have L4 := hQ_ hf4
    clear hf4 hb4 f3_0 f3_A0
    go_wp2_with ((with_reducible refine pick none ?_); refine store_blk rfl 29 _ _ rfl (w.heap.size + 1) #[.slice h4.a h4.n h4.c] rfl rfl 29 _ I4.out.res info_fs rfl (by simp [Value.oneCell']) ?_; intro z5 hk5 hg5)
    exact bodyPost_ret (v := .tuple #[.int .i64 (rx1),.agg #[.slice h4.a h4.n h4.c]]) (results_tmp_row rfl _ _ (w.heap.size + 1) 29 _ (0,0) _ rfl _ rfl hk5 Tryz.underlying29 rfl info_fs) rfl (AnsE.of rfl (I4.out.ret L4.out hg5))
 ·have d1 : (er != 0) = true := by simpa using he
  rw [if_pos he]
  clear he HOK
  go_enter Tryz.func46,Tryz.ntmps46
  go_wp2_with fail
  rw [HW.out]
  go_wp2_with fail
  refine (HFI.out W I0.out.lies).mono ?_
  rintro e v6 ⟨rfl,hb6⟩
  have hbU6 := nW_ hb6 (.cells #[.int .u32 sd,.string sn,.int .u32 si] 156)
  have I6 := hQ_ (I0.out.below hbU6)
  have A6 := hQ_ (Blk.new_ v6 #[.int .u32 sd,.string sn,.int .u32 si] 156)
  have LA : Hid (w.heap.size + 1 ≤ v6.heap.size) := hQ_ (by have := I0.out.lt; have := hb6.size; omega)
  have f6_0 := cZ0 I6.out.fs
  have f6_A0 := cC3 A6.out
  clear hbU6 W_0 hb6
  go_wp2_with fail
  have r1 := cZ0 I6.out.res
  have r2 : (v6.alloc (.cells #[.int .u32 sd,.string sn,.int .u32 si] 156)).frozen? ⟨(w.heap.size + 1),0,none⟩ = false := I6.out.res.frozen 0
  go_region_law (fail)
  all_goals
   obtain ⟨f1,f2,f3⟩ := I6.out.ret' I6.out.lies (.slice h.a h.n h.c)
   have HF1 := hQ_ (And.intro f1 f2)
   have HF3 := hQ_ f3
   clear f1 f2 f3
   go_wp2_with fail
   first
    | exact bodyPost_ret (v := .tuple #[.int .i64 (er),.agg #[.slice h.a h.n h.c]]) (results_tmp_row rfl _ _ (w.heap.size + 1) 29 _ (0,0) _ rfl _ rfl HF3.out Tryz.underlying29 rfl info_fs) rfl (AnsE.of rfl HF1.out)
    | exact bodyPost_ret (v := .tuple #[.int .i64 (er),.agg #[.slice h.a h.n h.c]]) (results_tmp_row rfl _ _ (w.heap.size + 1) 29 _ (0,0) _ rfl _ rfl HF3.out.drew Tryz.underlying29 rfl info_fs) rfl (AnsE.of rfl ⟨HF1.out.1.below ((Below.refl _ _).drew),HF1.out.2.drew⟩)
theorem unl_calls {T : Nat → Prop} (h : Sh) (F : Fs) (path : ByteArray) (w : World) (hf : FsA T w h F) (hs : SmF F) (hcl : Cl F) (hp : path.size ≤ maxLen) (hok : (fndM F path).2 = 0 → (fndM F path).1.ino ≠ 0 → ∃ nd,nodeM F (fndM F path).1.ino = some nd ∧ (nd.kind ≠ 2 → UnlOk F (fndM F path).1 nd.links)) (hT : ∀ b,w.heap.size ≤ b → T b) :
 Calls Tryz.prog 51 #[.agg #[.slice h.a h.n h.c],.string path] w (AnsE T (unlinkM F path) w) := by
 obtain ⟨W,hW⟩ : ∃ W,(w.alloc (.cells #[.slice h.a h.n h.c] 29)).alloc (.cells #[.slice none 0 0] 29) = W := ⟨_,rfl⟩
 have I0 := hQ_ (InvF.start hf)
 rw [hW] at I0
 have HW := hQ_ hW
 have W_0 := cZ0 I0.out.fs
 have HFI := hQ_ (fun u (hl : FsA (Out T w.heap.size (w.heap.size + 1)) u h F) => find_calls h F path u hl hs hcl hp)
 unfold FndE at HFI
 have HM : Hid (unlinkM F path = if (fndM F path).2 ≠ 0 then ((fndM F path).2,F) else if (fndM F path).1.ino = 0 then (10,F) else unlinkAt F (fndM F path).1) := hQ_ rfl
 have HOK := hQ_ hok
 have HT := hQ_ hT
 have HS := hQ_ hs
 obtain ⟨⟨⟨sd,sn,si⟩,er⟩,hR⟩ : ∃ R,fndM F path = R := ⟨_,rfl⟩
 rw [hR] at HFI HM HOK
 dsimp only [spotA] at HFI HM HOK
 rw [HM.out]
 clear hf hs hcl hp hT hok hW hR HM
 by_cases he : er = 0
 ·subst he
  rw [if_neg (fun h => h rfl)]
  by_cases h0 : si = 0
  ·rw [if_pos h0]
   have d0 : (si == 0) = true := by simpa using h0
   clear h0 HOK
   go_enter Tryz.func51,Tryz.ntmps51
   go_wp2_with fail
   rw [HW.out]
   go_wp2_with fail
   refine (HFI.out W I0.out.lies).mono ?_
   rintro e v1 ⟨rfl,hb1⟩
   have hbU1 := nW_ hb1 (.cells #[.int .u32 sd,.string sn,.int .u32 si] 156)
   have I1 := hQ_ (I0.out.below hbU1)
   have A1 := hQ_ (Blk.new_ v1 #[.int .u32 sd,.string sn,.int .u32 si] 156)
   have LA : Hid (w.heap.size + 1 ≤ v1.heap.size) := hQ_ (by have := I0.out.lt; have := hb1.size; omega)
   have f1_0 := cZ0 I1.out.fs
   have f1_A0 := cC3 A1.out
   clear hbU1 W_0 hb1
   go_wp2_with fail
   have r1 := cZ0 I1.out.res
   have r2 : (v1.alloc (.cells #[.int .u32 sd,.string sn,.int .u32 si] 156)).frozen? ⟨(w.heap.size + 1),0,none⟩ = false := I1.out.res.frozen 0
   go_region_law (fail)
   all_goals
    obtain ⟨f1,f2,f3⟩ := I1.out.ret' I1.out.lies (.slice h.a h.n h.c)
    have HF1 := hQ_ (And.intro f1 f2)
    have HF3 := hQ_ f3
    clear f1 f2 f3
    go_wp2_with fail
    first
     | exact bodyPost_ret (v := .tuple #[.int .i64 (10),.agg #[.slice h.a h.n h.c]]) (results_tmp_row rfl _ _ (w.heap.size + 1) 29 _ (0,0) _ rfl _ rfl HF3.out Tryz.underlying29 rfl info_fs) rfl (AnsE.of rfl HF1.out)
     | exact bodyPost_ret (v := .tuple #[.int .i64 (10),.agg #[.slice h.a h.n h.c]]) (results_tmp_row rfl _ _ (w.heap.size + 1) 29 _ (0,0) _ rfl _ rfl HF3.out.drew Tryz.underlying29 rfl info_fs) rfl (AnsE.of rfl ⟨HF1.out.1.below ((Below.refl _ _).drew),HF1.out.2.drew⟩)
  ·rw [if_neg h0]
   have d0 : (si == 0) = false := by simpa using h0
   obtain ⟨nd,hn,hok⟩ := HOK.out rfl h0
   obtain ⟨rx,hrx⟩ : ∃ rx,unlinkAt F ⟨sd,sn,si⟩ = rx := ⟨_,rfl⟩
   have HC := hQ_ (fun u (hl : FsA (Out T w.heap.size (w.heap.size + 1)) u h F) hT => unlink_calls (T := Out T w.heap.size (w.heap.size + 1)) h F ⟨sd,sn,si⟩ nd u hl HS.out hn hok hT)
   unfold AnsE at HC
   rw [hrx] at HC
   rw [hrx]
   dsimp only [spotA] at HC
   obtain ⟨rx1,rx2⟩ := rx
   dsimp only at HC ⊢
   clear h0 hn hok hrx HOK
   go_enter Tryz.func51,Tryz.ntmps51
   go_wp2_with fail
   rw [HW.out]
   go_wp2_with fail
   refine (HFI.out W I0.out.lies).mono ?_
   rintro e v2 ⟨rfl,hb2⟩
   have hbU2 := nW_ hb2 (.cells #[.int .u32 sd,.string sn,.int .u32 si] 156)
   have I2 := hQ_ (I0.out.below hbU2)
   have A2 := hQ_ (Blk.new_ v2 #[.int .u32 sd,.string sn,.int .u32 si] 156)
   have LA : Hid (w.heap.size + 1 ≤ v2.heap.size) := hQ_ (by have := I0.out.lt; have := hb2.size; omega)
   have f2_0 := cZ0 I2.out.fs
   have f2_A0 := cC3 A2.out
   clear hbU2 W_0 hb2
   go_wp2_with fail
   refine (HC.out (v2.alloc (.cells #[.int .u32 sd,.string sn,.int .u32 si] 156)) I2.out.lies (I2.out.room HT.out)).mono ?_
   rintro e u3 ⟨h3,rfl,hf3,hb3⟩
   have I3 := hQ_ (I2.out.below hb3)
   have A3 := hQ_ (A2.out.below hb3)
   have f3_0 := cZ0 I3.out.fs
   have f3_A0 := cC3 A3.out
   have L3 := hQ_ hf3
   clear hf3 hb3 f2_0 f2_A0
   go_wp2_with ((with_reducible refine pick none ?_); refine store_blk rfl 29 _ _ rfl (w.heap.size + 1) #[.slice h3.a h3.n h3.c] rfl rfl 29 _ I3.out.res info_fs rfl (by simp [Value.oneCell']) ?_; intro z4 hk4 hg4)
   exact bodyPost_ret (v := .tuple #[.int .i64 (rx1),.agg #[.slice h3.a h3.n h3.c]]) (results_tmp_row rfl _ _ (w.heap.size + 1) 29 _ (0,0) _ rfl _ rfl hk4 Tryz.underlying29 rfl info_fs) rfl (AnsE.of rfl (I3.out.ret L3.out hg4))
 ·have d1 : (er != 0) = true := by simpa using he
  rw [if_pos he]
  clear he HOK
  go_enter Tryz.func51,Tryz.ntmps51
  go_wp2_with fail
  rw [HW.out]
  go_wp2_with fail
  refine (HFI.out W I0.out.lies).mono ?_
  rintro e v5 ⟨rfl,hb5⟩
  have hbU5 := nW_ hb5 (.cells #[.int .u32 sd,.string sn,.int .u32 si] 156)
  have I5 := hQ_ (I0.out.below hbU5)
  have A5 := hQ_ (Blk.new_ v5 #[.int .u32 sd,.string sn,.int .u32 si] 156)
  have LA : Hid (w.heap.size + 1 ≤ v5.heap.size) := hQ_ (by have := I0.out.lt; have := hb5.size; omega)
  have f5_0 := cZ0 I5.out.fs
  have f5_A0 := cC3 A5.out
  clear hbU5 W_0 hb5
  go_wp2_with fail
  have r1 := cZ0 I5.out.res
  have r2 : (v5.alloc (.cells #[.int .u32 sd,.string sn,.int .u32 si] 156)).frozen? ⟨(w.heap.size + 1),0,none⟩ = false := I5.out.res.frozen 0
  go_region_law (fail)
  all_goals
   obtain ⟨f1,f2,f3⟩ := I5.out.ret' I5.out.lies (.slice h.a h.n h.c)
   have HF1 := hQ_ (And.intro f1 f2)
   have HF3 := hQ_ f3
   clear f1 f2 f3
   go_wp2_with fail
   first
    | exact bodyPost_ret (v := .tuple #[.int .i64 (er),.agg #[.slice h.a h.n h.c]]) (results_tmp_row rfl _ _ (w.heap.size + 1) 29 _ (0,0) _ rfl _ rfl HF3.out Tryz.underlying29 rfl info_fs) rfl (AnsE.of rfl HF1.out)
    | exact bodyPost_ret (v := .tuple #[.int .i64 (er),.agg #[.slice h.a h.n h.c]]) (results_tmp_row rfl _ _ (w.heap.size + 1) 29 _ (0,0) _ rfl _ rfl HF3.out.drew Tryz.underlying29 rfl info_fs) rfl (AnsE.of rfl ⟨HF1.out.1.below ((Below.refl _ _).drew),HF1.out.2.drew⟩)
structure LinkOk (F : Fs) (i d : Int) : Prop where
 f1 : SmF (linkedM F i 1)
 n1 : ∃ n,nodeM (linkedM F i 1) d = some n
theorem link_calls {T : Nat → Prop} (h : Sh) (F : Fs) (old path : ByteArray) (w : World) (hf : FsA T w h F) (hs : SmF F) (hcl : Cl F) (hp : old.size ≤ maxLen) (hp2 : path.size ≤ maxLen) (hnd : (fndM F old).2 = 0 → (fndM F old).1.ino ≠ 0 → ∃ nd,nodeM F (fndM F old).1.ino = some nd ∧ (nd.kind ≠ 2 → (fndM F path).2 = 0 → (fndM F path).1.ino = 0 → nd.links < 1000 → LinkOk F (fndM F old).1.ino (fndM F path).1.dir)) (hT : ∀ b,w.heap.size ≤ b → T b) :
 Calls Tryz.prog 50 #[.agg #[.slice h.a h.n h.c],.string old,.string path] w (AnsE T (linkM F old path) w) := by
 obtain ⟨W,hW⟩ : ∃ W,(w.alloc (.cells #[.slice h.a h.n h.c] 29)).alloc (.cells #[.slice none 0 0] 29) = W := ⟨_,rfl⟩
 have I0 := hQ_ (InvF.start hf)
 rw [hW] at I0
 have HW := hQ_ hW
 have W_0 := cZ0 I0.out.fs
 have HFI := hQ_ (fun u (hl : FsA (Out T w.heap.size (w.heap.size + 1)) u h F) => find_calls h F old u hl hs hcl hp)
 unfold FndE at HFI
 have HFJ := hQ_ (fun u (hl : FsA (Out T w.heap.size (w.heap.size + 1)) u h F) => find_calls h F path u hl hs hcl hp2)
 unfold FndE at HFJ
 have HOK := hQ_ hnd
 have HT := hQ_ hT
 have HS := hQ_ hs
 unfold linkM
 obtain ⟨⟨⟨sd,sn,si⟩,er⟩,hR⟩ : ∃ R,fndM F old = R := ⟨_,rfl⟩
 rw [hR] at HFI HOK ⊢
 obtain ⟨⟨⟨td,tn,ti⟩,er2⟩,hR2⟩ : ∃ R,fndM F path = R := ⟨_,rfl⟩
 rw [hR2] at HFJ HOK ⊢
 dsimp only [spotA] at HFI HFJ HOK ⊢
 clear hf hs hcl hp hp2 hT hnd hW hR hR2
 by_cases he : er = 0
 ·subst he
  rw [if_neg (fun h => h rfl)]
  by_cases h0 : si = 0
  ·rw [if_pos h0]
   have d0 : (si == 0) = true := by simpa using h0
   clear h0 HOK
   go_enter Tryz.func50,Tryz.ntmps50
   go_wp2_with fail
   rw [HW.out]
   go_wp2_with fail
   refine (HFI.out W I0.out.lies).mono ?_
   rintro e v1 ⟨rfl,hb1⟩
   have hbU1 := nW_ hb1 (.cells #[.int .u32 sd,.string sn,.int .u32 si] 156)
   have I1 := hQ_ (I0.out.below hbU1)
   have A1 := hQ_ (Blk.new_ v1 #[.int .u32 sd,.string sn,.int .u32 si] 156)
   have LA : Hid (w.heap.size + 1 ≤ v1.heap.size) := hQ_ (by have := I0.out.lt; have := hb1.size; omega)
   have f1_0 := cZ0 I1.out.fs
   have f1_A0 := cC3 A1.out
   clear hbU1 W_0 hb1
   go_wp2_with fail
   have r1 := cZ0 I1.out.res
   have r2 : (v1.alloc (.cells #[.int .u32 sd,.string sn,.int .u32 si] 156)).frozen? ⟨(w.heap.size + 1),0,none⟩ = false := I1.out.res.frozen 0
   go_region_law (fail)
   all_goals
    obtain ⟨f1,f2,f3⟩ := I1.out.ret' I1.out.lies (.slice h.a h.n h.c)
    have HF1 := hQ_ (And.intro f1 f2)
    have HF3 := hQ_ f3
    clear f1 f2 f3
    go_wp2_with fail
    first
     | exact bodyPost_ret (v := .tuple #[.int .i64 (10),.agg #[.slice h.a h.n h.c]]) (results_tmp_row rfl _ _ (w.heap.size + 1) 29 _ (0,0) _ rfl _ rfl HF3.out Tryz.underlying29 rfl info_fs) rfl (AnsE.of rfl HF1.out)
     | exact bodyPost_ret (v := .tuple #[.int .i64 (10),.agg #[.slice h.a h.n h.c]]) (results_tmp_row rfl _ _ (w.heap.size + 1) 29 _ (0,0) _ rfl _ rfl HF3.out.drew Tryz.underlying29 rfl info_fs) rfl (AnsE.of rfl ⟨HF1.out.1.below ((Below.refl _ _).drew),HF1.out.2.drew⟩)
  ·rw [if_neg h0]
   have d0 : (si == 0) = false := by simpa using h0
   obtain ⟨nd0,hn,hok⟩ := HOK.out rfl h0
   have HNN := hQ_ hn
   have HNO := hQ_ (fun u (hl : FsA (Out T w.heap.size (w.heap.size + 1)) u h F) => node_calls (T := Out T w.heap.size (w.heap.size + 1)) h F ⟨sd,sn,si⟩ nd0 u hl hn HS.out.len)
   have hsn := HS.out.all nd0 (node_mem hn).1
   have hl0 := hsn.l0
   have hl1 := hsn.l1
   unfold NodeE at HNO
   try dsimp only at hn
   rw [hn]
   obtain ⟨ni,nk,nl,nd,ne⟩ := nd0
   dsimp only [spotA] at HNO HNN hok hl0 hl1 ⊢
   have HO2 := hQ_ hok
   clear h0 hn hok HOK hsn
   by_cases hk : nk = 2
   ·rw [if_pos hk]
    have d1 : (nk == 2) = true := by simpa using hk
    clear hk HO2
    go_enter Tryz.func50,Tryz.ntmps50
    go_wp2_with fail
    rw [HW.out]
    go_wp2_with fail
    refine (HFI.out W I0.out.lies).mono ?_
    rintro e v2 ⟨rfl,hb2⟩
    have hbU2 := nW_ hb2 (.cells #[.int .u32 sd,.string sn,.int .u32 si] 156)
    have I2 := hQ_ (I0.out.below hbU2)
    have A2 := hQ_ (Blk.new_ v2 #[.int .u32 sd,.string sn,.int .u32 si] 156)
    have LA : Hid (w.heap.size + 1 ≤ v2.heap.size) := hQ_ (by have := I0.out.lt; have := hb2.size; omega)
    have f2_0 := cZ0 I2.out.fs
    have f2_A0 := cC3 A2.out
    clear hbU2 W_0 hb2
    go_wp2_with fail
    refine (HNO.out (v2.alloc (.cells #[.int .u32 sd,.string sn,.int .u32 si] 156)) I2.out.lies).mono ?_
    rintro e v3 ⟨h3,rfl,hf3,hb3⟩
    have hz3 := hf3.len
    dsimp only [nodeV] at hz3 ⊢
    have hbU3 : Below (v2.alloc (.cells #[.int .u32 sd,.string sn,.int .u32 si] 156)).heap.size (v2.alloc (.cells #[.int .u32 sd,.string sn,.int .u32 si] 156)) v3 := hb3
    have I3 := hQ_ (I2.out.below hbU3)
    have A3 := hQ_ (A2.out.below hbU3)
    have f3_0 := cZ0 I3.out.fs
    have f3_A0 := cC3 A3.out
    have q3_1 := field_1 (.int .u32 ni) (.int .u8 nk) (.int .i64 nl) (.string nd) (.slice h3.a h3.n h3.c) v3
    have q3_2 := field_2 (.int .u32 ni) (.int .u8 nk) (.int .i64 nl) (.string nd) (.slice h3.a h3.n h3.c) v3
    clear hbU3 f2_0 hb3 hf3 f2_A0
    clear hz3
    go_wp2_with fail
    have r1 := cZ0 I3.out.res
    have r2 : v3.frozen? ⟨(w.heap.size + 1),0,none⟩ = false := I3.out.res.frozen 0
    go_region_law (fail)
    all_goals
     obtain ⟨f1,f2,f3⟩ := I3.out.ret' I3.out.lies (.slice h.a h.n h.c)
     have HF1 := hQ_ (And.intro f1 f2)
     have HF3 := hQ_ f3
     clear f1 f2 f3
     go_wp2_with fail
     first
      | exact bodyPost_ret (v := .tuple #[.int .i64 (13),.agg #[.slice h.a h.n h.c]]) (results_tmp_row rfl _ _ (w.heap.size + 1) 29 _ (0,0) _ rfl _ rfl HF3.out Tryz.underlying29 rfl info_fs) rfl (AnsE.of rfl HF1.out)
      | exact bodyPost_ret (v := .tuple #[.int .i64 (13),.agg #[.slice h.a h.n h.c]]) (results_tmp_row rfl _ _ (w.heap.size + 1) 29 _ (0,0) _ rfl _ rfl HF3.out.drew Tryz.underlying29 rfl info_fs) rfl (AnsE.of rfl ⟨HF1.out.1.below ((Below.refl _ _).drew),HF1.out.2.drew⟩)
   ·rw [if_neg hk]
    have d1 : (nk == 2) = false := by simpa using hk
    by_cases he2 : er2 = 0
    ·subst he2
     rw [if_neg (fun h => h rfl)]
     by_cases h2 : ti = 0
     ·rw [if_neg (fun h => h h2)]
      have d2 : (ti != 0) = false := by simpa using h2
      by_cases hl : 1000 ≤ nl
      ·rw [if_pos hl]
       have d3 : decide ((1000 : Int) ≤ nl) = true := by simpa using hl
       clear hk h2 HO2
       go_enter Tryz.func50,Tryz.ntmps50
       go_wp2_with fail
       rw [HW.out]
       go_wp2_with fail
       refine (HFI.out W I0.out.lies).mono ?_
       rintro e v4 ⟨rfl,hb4⟩
       have hbU4 := nW_ hb4 (.cells #[.int .u32 sd,.string sn,.int .u32 si] 156)
       have I4 := hQ_ (I0.out.below hbU4)
       have A4 := hQ_ (Blk.new_ v4 #[.int .u32 sd,.string sn,.int .u32 si] 156)
       have LA : Hid (w.heap.size + 1 ≤ v4.heap.size) := hQ_ (by have := I0.out.lt; have := hb4.size; omega)
       have f4_0 := cZ0 I4.out.fs
       have f4_A0 := cC3 A4.out
       clear hbU4 W_0 hb4
       go_wp2_with fail
       refine (HNO.out (v4.alloc (.cells #[.int .u32 sd,.string sn,.int .u32 si] 156)) I4.out.lies).mono ?_
       rintro e v5 ⟨h5,rfl,hf5,hb5⟩
       have hz5 := hf5.len
       dsimp only [nodeV] at hz5 ⊢
       have hbU5 : Below (v4.alloc (.cells #[.int .u32 sd,.string sn,.int .u32 si] 156)).heap.size (v4.alloc (.cells #[.int .u32 sd,.string sn,.int .u32 si] 156)) v5 := hb5
       have I5 := hQ_ (I4.out.below hbU5)
       have A5 := hQ_ (A4.out.below hbU5)
       have f5_0 := cZ0 I5.out.fs
       have f5_A0 := cC3 A5.out
       have q5_1 := field_1 (.int .u32 ni) (.int .u8 nk) (.int .i64 nl) (.string nd) (.slice h5.a h5.n h5.c) v5
       have q5_2 := field_2 (.int .u32 ni) (.int .u8 nk) (.int .i64 nl) (.string nd) (.slice h5.a h5.n h5.c) v5
       clear hbU5 f4_0 hb5 hf5 f4_A0
       clear hz5
       go_wp2_with fail
       refine (HFJ.out v5 I5.out.lies).mono ?_
       rintro e v6 ⟨rfl,hb6⟩
       have hbU6 := nW_ hb6 (.cells #[.int .u32 td,.string tn,.int .u32 ti] 156)
       have I6 := hQ_ (I5.out.below hbU6)
       have A6 := hQ_ (A5.out.below hbU6)
       have B6 := hQ_ (Blk.new_ v6 #[.int .u32 td,.string tn,.int .u32 ti] 156)
       have LB : Hid (w.heap.size + 1 ≤ v6.heap.size) := hQ_ (by have := I5.out.lt; have := hb6.size; omega)
       have f6_0 := cZ0 I6.out.fs
       have f6_A0 := cC3 A6.out
       have f6_B0 := cC3 B6.out
       clear hbU6 f5_0 hb6 f5_A0
       go_wp2_with fail
       refine (HNO.out (v6.alloc (.cells #[.int .u32 td,.string tn,.int .u32 ti] 156)) I6.out.lies).mono ?_
       rintro e v7 ⟨h7,rfl,hf7,hb7⟩
       have hz7 := hf7.len
       dsimp only [nodeV] at hz7 ⊢
       have hbU7 : Below (v6.alloc (.cells #[.int .u32 td,.string tn,.int .u32 ti] 156)).heap.size (v6.alloc (.cells #[.int .u32 td,.string tn,.int .u32 ti] 156)) v7 := hb7
       have I7 := hQ_ (I6.out.below hbU7)
       have A7 := hQ_ (A6.out.below hbU7)
       have B7 := hQ_ (B6.out.below hbU7)
       have f7_0 := cZ0 I7.out.fs
       have f7_A0 := cC3 A7.out
       have f7_B0 := cC3 B7.out
       have q7_1 := field_1 (.int .u32 ni) (.int .u8 nk) (.int .i64 nl) (.string nd) (.slice h7.a h7.n h7.c) v7
       have q7_2 := field_2 (.int .u32 ni) (.int .u8 nk) (.int .i64 nl) (.string nd) (.slice h7.a h7.n h7.c) v7
       clear hbU7 f6_0 hb7 hf7 f6_A0 f6_B0
       clear hz7
       go_wp2_with fail
       have r1 := cZ0 I7.out.res
       have r2 : v7.frozen? ⟨(w.heap.size + 1),0,none⟩ = false := I7.out.res.frozen 0
       go_region_law (fail)
       all_goals
        obtain ⟨f1,f2,f3⟩ := I7.out.ret' I7.out.lies (.slice h.a h.n h.c)
        have HF1 := hQ_ (And.intro f1 f2)
        have HF3 := hQ_ f3
        clear f1 f2 f3
        go_wp2_with fail
        first
         | exact bodyPost_ret (v := .tuple #[.int .i64 (18),.agg #[.slice h.a h.n h.c]]) (results_tmp_row rfl _ _ (w.heap.size + 1) 29 _ (0,0) _ rfl _ rfl HF3.out Tryz.underlying29 rfl info_fs) rfl (AnsE.of rfl HF1.out)
         | exact bodyPost_ret (v := .tuple #[.int .i64 (18),.agg #[.slice h.a h.n h.c]]) (results_tmp_row rfl _ _ (w.heap.size + 1) 29 _ (0,0) _ rfl _ rfl HF3.out.drew Tryz.underlying29 rfl info_fs) rfl (AnsE.of rfl ⟨HF1.out.1.below ((Below.refl _ _).drew),HF1.out.2.drew⟩)
      ·rw [if_neg hl]
       have d3 : decide ((1000 : Int) ≤ nl) = false := by simpa using hl
       obtain ⟨of1,⟨m1,on1⟩⟩ := HO2.out hk rfl h2 (by omega)
       have OF1 := hQ_ of1
       have ON1 := hQ_ on1
       clear of1 on1 hk h2 HO2 hl
       go_enter Tryz.func50,Tryz.ntmps50
       go_wp2_with fail
       rw [HW.out]
       go_wp2_with fail
       refine (HFI.out W I0.out.lies).mono ?_
       rintro e v8 ⟨rfl,hb8⟩
       have hbU8 := nW_ hb8 (.cells #[.int .u32 sd,.string sn,.int .u32 si] 156)
       have I8 := hQ_ (I0.out.below hbU8)
       have A8 := hQ_ (Blk.new_ v8 #[.int .u32 sd,.string sn,.int .u32 si] 156)
       have LA : Hid (w.heap.size + 1 ≤ v8.heap.size) := hQ_ (by have := I0.out.lt; have := hb8.size; omega)
       have f8_0 := cZ0 I8.out.fs
       have f8_A0 := cC3 A8.out
       clear hbU8 W_0 hb8
       go_wp2_with fail
       refine (HNO.out (v8.alloc (.cells #[.int .u32 sd,.string sn,.int .u32 si] 156)) I8.out.lies).mono ?_
       rintro e v9 ⟨h9,rfl,hf9,hb9⟩
       have hz9 := hf9.len
       dsimp only [nodeV] at hz9 ⊢
       have hbU9 : Below (v8.alloc (.cells #[.int .u32 sd,.string sn,.int .u32 si] 156)).heap.size (v8.alloc (.cells #[.int .u32 sd,.string sn,.int .u32 si] 156)) v9 := hb9
       have I9 := hQ_ (I8.out.below hbU9)
       have A9 := hQ_ (A8.out.below hbU9)
       have f9_0 := cZ0 I9.out.fs
       have f9_A0 := cC3 A9.out
       have q9_1 := field_1 (.int .u32 ni) (.int .u8 nk) (.int .i64 nl) (.string nd) (.slice h9.a h9.n h9.c) v9
       have q9_2 := field_2 (.int .u32 ni) (.int .u8 nk) (.int .i64 nl) (.string nd) (.slice h9.a h9.n h9.c) v9
       clear hbU9 f8_0 hb9 hf9 f8_A0
       clear hz9
       go_wp2_with fail
       refine (HFJ.out v9 I9.out.lies).mono ?_
       rintro e v10 ⟨rfl,hb10⟩
       have hbU10 := nW_ hb10 (.cells #[.int .u32 td,.string tn,.int .u32 ti] 156)
       have I10 := hQ_ (I9.out.below hbU10)
       have A10 := hQ_ (A9.out.below hbU10)
       have B10 := hQ_ (Blk.new_ v10 #[.int .u32 td,.string tn,.int .u32 ti] 156)
       have LB : Hid (w.heap.size + 1 ≤ v10.heap.size) := hQ_ (by have := I9.out.lt; have := hb10.size; omega)
       have f10_0 := cZ0 I10.out.fs
       have f10_A0 := cC3 A10.out
       have f10_B0 := cC3 B10.out
       clear hbU10 f9_0 hb10 f9_A0
       go_wp2_with fail
       refine (HNO.out (v10.alloc (.cells #[.int .u32 td,.string tn,.int .u32 ti] 156)) I10.out.lies).mono ?_
       rintro e v11 ⟨h11,rfl,hf11,hb11⟩
       have hz11 := hf11.len
       dsimp only [nodeV] at hz11 ⊢
       have hbU11 : Below (v10.alloc (.cells #[.int .u32 td,.string tn,.int .u32 ti] 156)).heap.size (v10.alloc (.cells #[.int .u32 td,.string tn,.int .u32 ti] 156)) v11 := hb11
       have I11 := hQ_ (I10.out.below hbU11)
       have A11 := hQ_ (A10.out.below hbU11)
       have B11 := hQ_ (B10.out.below hbU11)
       have f11_0 := cZ0 I11.out.fs
       have f11_A0 := cC3 A11.out
       have f11_B0 := cC3 B11.out
       have q11_1 := field_1 (.int .u32 ni) (.int .u8 nk) (.int .i64 nl) (.string nd) (.slice h11.a h11.n h11.c) v11
       have q11_2 := field_2 (.int .u32 ni) (.int .u8 nk) (.int .i64 nl) (.string nd) (.slice h11.a h11.n h11.c) v11
       clear hbU11 f10_0 hb11 hf11 f10_A0 f10_B0
       clear hz11
       go_wp2_with fail
       refine (linked_calls h F si 1 ⟨ni,nk,nl,nd,ne⟩ v11 I11.out.lies HNN.out HS.out (by omega) (by omega) (I11.out.room HT.out)).mono ?_
       rintro e u12 ⟨h12,rfl,hf12,hb12⟩
       have I12 := hQ_ (I11.out.below hb12)
       have A12 := hQ_ (A11.out.below hb12)
       have B12 := hQ_ (B11.out.below hb12)
       have f12_0 := cZ0 I12.out.fs
       obtain ⟨f12_A0,f12_A1,f12_A2⟩ := cC3 A12.out
       obtain ⟨f12_B0,f12_B1,f12_B2⟩ := cC3 B12.out
       have L12 := hQ_ hf12
       clear hf12 hb12 f11_0 f11_A0 f11_B0
       go_wp2_with (first | ((with_reducible refine pick none ?_); refine store_blk rfl 29 _ _ rfl w.heap.size #[.slice h12.a h12.n h12.c] rfl rfl 29 _ I12.out.fs info_fs rfl (by simp [Value.oneCell']) ?_; intro u13 hk13 hg13; have I13 := hQ_ (I12.out.put L12.out hg13 hk13); have A13 := hQ_ (A12.out.grown hg13 (by have := LA.out; omega)); have B13 := hQ_ (B12.out.grown hg13 (by have := LB.out; omega)); have f13_0 : u13.cell? ⟨w.heap.size,0,none⟩ = some (.slice h12.a h12.n h12.c) := I13.out.fs.cell 0; have f13_A0 : u13.cell? ⟨v8.heap.size,0,none⟩ = some (.int .u32 sd) := A13.out.cell 0; have f13_A1 : u13.cell? ⟨v8.heap.size,1,none⟩ = some (.string sn) := A13.out.cell 1; have f13_A2 : u13.cell? ⟨v8.heap.size,2,none⟩ = some (.int .u32 si) := A13.out.cell 2; have f13_B0 : u13.cell? ⟨v10.heap.size,0,none⟩ = some (.int .u32 td) := B13.out.cell 0; have f13_B1 : u13.cell? ⟨v10.heap.size,1,none⟩ = some (.string tn) := B13.out.cell 1; have f13_B2 : u13.cell? ⟨v10.heap.size,2,none⟩ = some (.int .u32 ti) := B13.out.cell 2; clear hk13 hg13 f12_0 f12_A0 f12_A1 f12_A2 f12_B0 f12_B1 f12_B2))
       refine (named_calls h12 (linkedM F si 1) td tn si m1 u13 I13.out.lies ON1.out OF1.out (I13.out.room HT.out)).mono ?_
       rintro e u14 ⟨h14,rfl,hf14,hb14⟩
       have I14 := hQ_ (I13.out.below hb14)
       have A14 := hQ_ (A13.out.below hb14)
       have B14 := hQ_ (B13.out.below hb14)
       have f14_0 := cZ0 I14.out.fs
       have f14_A0 := cC3 A14.out
       have f14_B0 := cC3 B14.out
       have L14 := hQ_ hf14
       clear hf14 hb14 f13_0 f13_A0 f13_A1 f13_A2 f13_B0 f13_B1 f13_B2
       go_wp2_with ((with_reducible refine pick none ?_); refine store_blk rfl 29 _ _ rfl (w.heap.size + 1) #[.slice h14.a h14.n h14.c] rfl rfl 29 _ I14.out.res info_fs rfl (by simp [Value.oneCell']) ?_; intro z15 hk15 hg15)
       exact bodyPost_ret (v := .tuple #[.int .i64 (0),.agg #[.slice h14.a h14.n h14.c]]) (results_tmp_row rfl _ _ (w.heap.size + 1) 29 _ (0,0) _ rfl _ rfl hk15 Tryz.underlying29 rfl info_fs) rfl (AnsE.of rfl (I14.out.ret L14.out hg15))
     ·rw [if_pos h2]
      have d2 : (ti != 0) = true := by simpa using h2
      clear hk h2 HO2
      go_enter Tryz.func50,Tryz.ntmps50
      go_wp2_with fail
      rw [HW.out]
      go_wp2_with fail
      refine (HFI.out W I0.out.lies).mono ?_
      rintro e v16 ⟨rfl,hb16⟩
      have hbU16 := nW_ hb16 (.cells #[.int .u32 sd,.string sn,.int .u32 si] 156)
      have I16 := hQ_ (I0.out.below hbU16)
      have A16 := hQ_ (Blk.new_ v16 #[.int .u32 sd,.string sn,.int .u32 si] 156)
      have LA : Hid (w.heap.size + 1 ≤ v16.heap.size) := hQ_ (by have := I0.out.lt; have := hb16.size; omega)
      have f16_0 := cZ0 I16.out.fs
      have f16_A0 := cC3 A16.out
      clear hbU16 W_0 hb16
      go_wp2_with fail
      refine (HNO.out (v16.alloc (.cells #[.int .u32 sd,.string sn,.int .u32 si] 156)) I16.out.lies).mono ?_
      rintro e v17 ⟨h17,rfl,hf17,hb17⟩
      have hz17 := hf17.len
      dsimp only [nodeV] at hz17 ⊢
      have hbU17 : Below (v16.alloc (.cells #[.int .u32 sd,.string sn,.int .u32 si] 156)).heap.size (v16.alloc (.cells #[.int .u32 sd,.string sn,.int .u32 si] 156)) v17 := hb17
      have I17 := hQ_ (I16.out.below hbU17)
      have A17 := hQ_ (A16.out.below hbU17)
      have f17_0 := cZ0 I17.out.fs
      have f17_A0 := cC3 A17.out
      have q17_1 := field_1 (.int .u32 ni) (.int .u8 nk) (.int .i64 nl) (.string nd) (.slice h17.a h17.n h17.c) v17
      have q17_2 := field_2 (.int .u32 ni) (.int .u8 nk) (.int .i64 nl) (.string nd) (.slice h17.a h17.n h17.c) v17
      clear hbU17 f16_0 hb17 hf17 f16_A0
      clear hz17
      go_wp2_with fail
      refine (HFJ.out v17 I17.out.lies).mono ?_
      rintro e v18 ⟨rfl,hb18⟩
      have hbU18 := nW_ hb18 (.cells #[.int .u32 td,.string tn,.int .u32 ti] 156)
      have I18 := hQ_ (I17.out.below hbU18)
      have A18 := hQ_ (A17.out.below hbU18)
      have B18 := hQ_ (Blk.new_ v18 #[.int .u32 td,.string tn,.int .u32 ti] 156)
      have LB : Hid (w.heap.size + 1 ≤ v18.heap.size) := hQ_ (by have := I17.out.lt; have := hb18.size; omega)
      have f18_0 := cZ0 I18.out.fs
      have f18_A0 := cC3 A18.out
      have f18_B0 := cC3 B18.out
      clear hbU18 f17_0 hb18 f17_A0
      go_wp2_with fail
      have r1 := cZ0 I18.out.res
      have r2 : (v18.alloc (.cells #[.int .u32 td,.string tn,.int .u32 ti] 156)).frozen? ⟨(w.heap.size + 1),0,none⟩ = false := I18.out.res.frozen 0
      go_region_law (fail)
      all_goals
       obtain ⟨f1,f2,f3⟩ := I18.out.ret' I18.out.lies (.slice h.a h.n h.c)
       have HF1 := hQ_ (And.intro f1 f2)
       have HF3 := hQ_ f3
       clear f1 f2 f3
       go_wp2_with fail
       first
        | exact bodyPost_ret (v := .tuple #[.int .i64 (11),.agg #[.slice h.a h.n h.c]]) (results_tmp_row rfl _ _ (w.heap.size + 1) 29 _ (0,0) _ rfl _ rfl HF3.out Tryz.underlying29 rfl info_fs) rfl (AnsE.of rfl HF1.out)
        | exact bodyPost_ret (v := .tuple #[.int .i64 (11),.agg #[.slice h.a h.n h.c]]) (results_tmp_row rfl _ _ (w.heap.size + 1) 29 _ (0,0) _ rfl _ rfl HF3.out.drew Tryz.underlying29 rfl info_fs) rfl (AnsE.of rfl ⟨HF1.out.1.below ((Below.refl _ _).drew),HF1.out.2.drew⟩)
    ·have d2 : (er2 != 0) = true := by simpa using he2
     rw [if_pos he2]
     clear he2 hk HO2
     go_enter Tryz.func50,Tryz.ntmps50
     go_wp2_with fail
     rw [HW.out]
     go_wp2_with fail
     refine (HFI.out W I0.out.lies).mono ?_
     rintro e v19 ⟨rfl,hb19⟩
     have hbU19 := nW_ hb19 (.cells #[.int .u32 sd,.string sn,.int .u32 si] 156)
     have I19 := hQ_ (I0.out.below hbU19)
     have A19 := hQ_ (Blk.new_ v19 #[.int .u32 sd,.string sn,.int .u32 si] 156)
     have LA : Hid (w.heap.size + 1 ≤ v19.heap.size) := hQ_ (by have := I0.out.lt; have := hb19.size; omega)
     have f19_0 := cZ0 I19.out.fs
     have f19_A0 := cC3 A19.out
     clear hbU19 W_0 hb19
     go_wp2_with fail
     refine (HNO.out (v19.alloc (.cells #[.int .u32 sd,.string sn,.int .u32 si] 156)) I19.out.lies).mono ?_
     rintro e v20 ⟨h20,rfl,hf20,hb20⟩
     have hz20 := hf20.len
     dsimp only [nodeV] at hz20 ⊢
     have hbU20 : Below (v19.alloc (.cells #[.int .u32 sd,.string sn,.int .u32 si] 156)).heap.size (v19.alloc (.cells #[.int .u32 sd,.string sn,.int .u32 si] 156)) v20 := hb20
     have I20 := hQ_ (I19.out.below hbU20)
     have A20 := hQ_ (A19.out.below hbU20)
     have f20_0 := cZ0 I20.out.fs
     have f20_A0 := cC3 A20.out
     have q20_1 := field_1 (.int .u32 ni) (.int .u8 nk) (.int .i64 nl) (.string nd) (.slice h20.a h20.n h20.c) v20
     have q20_2 := field_2 (.int .u32 ni) (.int .u8 nk) (.int .i64 nl) (.string nd) (.slice h20.a h20.n h20.c) v20
     clear hbU20 f19_0 hb20 hf20 f19_A0
     clear hz20
     go_wp2_with fail
     refine (HFJ.out v20 I20.out.lies).mono ?_
     rintro e v21 ⟨rfl,hb21⟩
     have hbU21 := nW_ hb21 (.cells #[.int .u32 td,.string tn,.int .u32 ti] 156)
     have I21 := hQ_ (I20.out.below hbU21)
     have A21 := hQ_ (A20.out.below hbU21)
     have B21 := hQ_ (Blk.new_ v21 #[.int .u32 td,.string tn,.int .u32 ti] 156)
     have LB : Hid (w.heap.size + 1 ≤ v21.heap.size) := hQ_ (by have := I20.out.lt; have := hb21.size; omega)
     have f21_0 := cZ0 I21.out.fs
     have f21_A0 := cC3 A21.out
     have f21_B0 := cC3 B21.out
     clear hbU21 f20_0 hb21 f20_A0
     go_wp2_with fail
     have r1 := cZ0 I21.out.res
     have r2 : (v21.alloc (.cells #[.int .u32 td,.string tn,.int .u32 ti] 156)).frozen? ⟨(w.heap.size + 1),0,none⟩ = false := I21.out.res.frozen 0
     go_region_law (fail)
     all_goals
      obtain ⟨f1,f2,f3⟩ := I21.out.ret' I21.out.lies (.slice h.a h.n h.c)
      have HF1 := hQ_ (And.intro f1 f2)
      have HF3 := hQ_ f3
      clear f1 f2 f3
      go_wp2_with fail
      first
       | exact bodyPost_ret (v := .tuple #[.int .i64 (er2),.agg #[.slice h.a h.n h.c]]) (results_tmp_row rfl _ _ (w.heap.size + 1) 29 _ (0,0) _ rfl _ rfl HF3.out Tryz.underlying29 rfl info_fs) rfl (AnsE.of rfl HF1.out)
       | exact bodyPost_ret (v := .tuple #[.int .i64 (er2),.agg #[.slice h.a h.n h.c]]) (results_tmp_row rfl _ _ (w.heap.size + 1) 29 _ (0,0) _ rfl _ rfl HF3.out.drew Tryz.underlying29 rfl info_fs) rfl (AnsE.of rfl ⟨HF1.out.1.below ((Below.refl _ _).drew),HF1.out.2.drew⟩)
 ·have d1 : (er != 0) = true := by simpa using he
  rw [if_pos he]
  clear he HOK
  go_enter Tryz.func50,Tryz.ntmps50
  go_wp2_with fail
  rw [HW.out]
  go_wp2_with fail
  refine (HFI.out W I0.out.lies).mono ?_
  rintro e v22 ⟨rfl,hb22⟩
  have hbU22 := nW_ hb22 (.cells #[.int .u32 sd,.string sn,.int .u32 si] 156)
  have I22 := hQ_ (I0.out.below hbU22)
  have A22 := hQ_ (Blk.new_ v22 #[.int .u32 sd,.string sn,.int .u32 si] 156)
  have LA : Hid (w.heap.size + 1 ≤ v22.heap.size) := hQ_ (by have := I0.out.lt; have := hb22.size; omega)
  have f22_0 := cZ0 I22.out.fs
  have f22_A0 := cC3 A22.out
  clear hbU22 W_0 hb22
  go_wp2_with fail
  have r1 := cZ0 I22.out.res
  have r2 : (v22.alloc (.cells #[.int .u32 sd,.string sn,.int .u32 si] 156)).frozen? ⟨(w.heap.size + 1),0,none⟩ = false := I22.out.res.frozen 0
  go_region_law (fail)
  all_goals
   obtain ⟨f1,f2,f3⟩ := I22.out.ret' I22.out.lies (.slice h.a h.n h.c)
   have HF1 := hQ_ (And.intro f1 f2)
   have HF3 := hQ_ f3
   clear f1 f2 f3
   go_wp2_with fail
   first
    | exact bodyPost_ret (v := .tuple #[.int .i64 (er),.agg #[.slice h.a h.n h.c]]) (results_tmp_row rfl _ _ (w.heap.size + 1) 29 _ (0,0) _ rfl _ rfl HF3.out Tryz.underlying29 rfl info_fs) rfl (AnsE.of rfl HF1.out)
    | exact bodyPost_ret (v := .tuple #[.int .i64 (er),.agg #[.slice h.a h.n h.c]]) (results_tmp_row rfl _ _ (w.heap.size + 1) 29 _ (0,0) _ rfl _ rfl HF3.out.drew Tryz.underlying29 rfl info_fs) rfl (AnsE.of rfl ⟨HF1.out.1.below ((Below.refl _ _).drew),HF1.out.2.drew⟩)
end Go.Proofs.YtfalhnomhidkcaaGreatDoor.DirsRg
namespace Go.Proofs.YtfalhnomhidkcaaGreatDoor.DirsRj
open Go.RowKit
open Byte KeysM TreeM Lst NamesM DirsM Chg DirsR DirsRd DirsRe DirsRf DirsRh
open ViewR (Sh)
def RenOk (F : Fs) (old path : ByteArray) : Prop := (fndM F old).2 = 0 → (fndM F old).1.ino ≠ 1 → (fndM F old).1.ino ≠ 0 → (fndM F path).2 = 0 → (fndM F path).1.ino ≠ 1 → (fndM F path).1.ino ≠ (fndM F old).1.ino →
 ∃ nd,nodeM F (fndM F old).1.ino = some nd ∧ (¬ (nd.kind = 2 ∧ under (spl old).1 (spl path).1 = true) → ClrOk F (fndM F path).1 (decide (nd.kind = 2)) ∧ ((clearAt F (fndM F path).1 (decide (nd.kind = 2))).1 = 0 → MoveOk (clearAt F (fndM F path).1 (decide (nd.kind = 2))).2 (fndM F old).1 (fndM F path).1 (decide (nd.kind = 2))))
theorem rename_calls {T : Nat → Prop} (h : Sh) (F : Fs) (old path : ByteArray) (w : World) (hf : FsA T w h F) (hs : SmF F) (hcl : Cl F) (hp : old.size ≤ maxLen) (hp2 : path.size ≤ maxLen) (hT : ∀ b,w.heap.size ≤ b → T b) (hok : RenOk F old path) :
 Calls Tryz.prog 52 #[.agg #[.slice h.a h.n h.c],.string old,.string path] w (AnsE T (renameM F old path) w) := by
 unfold RenOk at hok
 unfold renameM
 obtain ⟨⟨⟨sd,sn,si⟩,er⟩,hR⟩ : ∃ R,fndM F old = R := ⟨_,rfl⟩
 obtain ⟨⟨⟨td,tn,ti⟩,er2⟩,hR2⟩ : ∃ R,fndM F path = R := ⟨_,rfl⟩
 rw [hR,hR2] at hok ⊢
 dsimp only at hok ⊢
 by_cases he : er = 0
 ·subst he
  rw [if_neg (fun h => h rfl)]
  by_cases h1 : si = 1
  ·rw [if_pos h1]
   exact ren_w2 h F old path w hf hs hcl hp hp2 hT hR h1
  ·rw [if_neg h1]
   by_cases h0 : si = 0
   ·rw [if_pos h0]
    exact ren_w3 h F old path w hf hs hcl hp hp2 hT hR h1 h0
   ·rw [if_neg h0]
    by_cases he2 : er2 = 0
    ·subst he2
     rw [if_neg (fun h => h rfl)]
     by_cases h2 : ti = 1
     ·rw [if_pos h2]
      exact ren_w5 h F old path w hf hs hcl hp hp2 hT hR h1 h0 hR2 h2
     ·rw [if_neg h2]
      by_cases h3 : ti = si
      ·rw [if_pos h3]
       exact ren_w6 h F old path w hf hs hcl hp hp2 hT hR h1 h0 hR2 h2 h3
      ·rw [if_neg h3]
       obtain ⟨⟨ni,nk,nl,nd,ne⟩,hn,hmv⟩ := hok rfl h1 h0 rfl h2 h3
       rw [hn]
       dsimp only at hmv ⊢
       by_cases hk : nk = 2
       ·by_cases hu : under (spl old).1 (spl path).1 = true
        ·rw [if_pos ⟨hk,hu⟩]
         exact ren_w7 h F old path w hf hs hcl hp hp2 hT hR h1 h0 hR2 h2 h3 hn hk hu
        ·have hn7 : ¬ (nk = 2 ∧ under (spl old).1 (spl path).1 = true) := fun h => hu h.2
         rw [if_neg hn7]
         obtain ⟨hc,hm⟩ := hmv hn7
         rw [decide_eq_true hk] at hc hm ⊢
         have hu' := Bool.eq_false_iff.2 hu
         by_cases h4 : ti = 0
         ·have e : clearAt F ⟨td,tn,ti⟩ true = (0,F) := if_pos h4
          rw [e] at hm ⊢
          rw [if_neg (fun h => h rfl)]
          exact ren_w8t h F old path w hf hs hcl hp hp2 hT hR h1 h0 hR2 h2 h3 hn hk hu' h4 (hm rfl)
         ·obtain ⟨md,hmd,hr,_⟩ := hc h4
          have e : clearAt F ⟨td,tn,ti⟩ true = removeAt F ⟨td,tn,ti⟩ := by unfold clearAt; rw [if_neg h4,if_pos rfl]
          rw [e] at hm ⊢
          obtain ⟨⟨rx1,rx2⟩,hrx⟩ : ∃ r,removeAt F ⟨td,tn,ti⟩ = r := ⟨_,rfl⟩
          rw [hrx] at hm ⊢
          dsimp only at hm ⊢
          by_cases hx : rx1 = 0
          ·rw [if_neg (fun h => h hx)]
           exact ren_wat h F old path w hf hs hcl hp hp2 hT hR h1 h0 hR2 h2 h3 hn hk hu' h4 hrx hmd (hr rfl) hx (hm hx)
          ·rw [if_pos hx]
           exact ren_w9t h F old path w hf hs hcl hp hp2 hT hR h1 h0 hR2 h2 h3 hn hk hu' h4 hrx hmd (hr rfl) hx
       ·have hn7 : ¬ (nk = 2 ∧ under (spl old).1 (spl path).1 = true) := fun h => hk h.1
        rw [if_neg hn7]
        obtain ⟨hc,hm⟩ := hmv hn7
        rw [decide_eq_false hk] at hc hm ⊢
        by_cases h4 : ti = 0
        ·have e : clearAt F ⟨td,tn,ti⟩ false = (0,F) := if_pos h4
         rw [e] at hm ⊢
         rw [if_neg (fun h => h rfl)]
         exact ren_w8f h F old path w hf hs hcl hp hp2 hT hR h1 h0 hR2 h2 h3 hn hk h4 (hm rfl)
        ·obtain ⟨md,hmd,_,hr⟩ := hc h4
         have e : clearAt F ⟨td,tn,ti⟩ false = unlinkAt F ⟨td,tn,ti⟩ := by unfold clearAt; rw [if_neg h4,if_neg (by decide)]
         rw [e] at hm ⊢
         obtain ⟨⟨rx1,rx2⟩,hrx⟩ : ∃ r,unlinkAt F ⟨td,tn,ti⟩ = r := ⟨_,rfl⟩
         rw [hrx] at hm ⊢
         dsimp only at hm ⊢
         by_cases hx : rx1 = 0
         ·rw [if_neg (fun h => h hx)]
          exact ren_waf h F old path w hf hs hcl hp hp2 hT hR h1 h0 hR2 h2 h3 hn hk h4 hrx hmd (hr rfl) hx (hm hx)
         ·rw [if_pos hx]
          exact ren_w9f h F old path w hf hs hcl hp hp2 hT hR h1 h0 hR2 h2 h3 hn hk h4 hrx hmd (hr rfl) hx
    ·rw [if_pos he2]
     exact ren_w4 h F old path w hf hs hcl hp hp2 hT hR h1 h0 hR2 he2
 ·rw [if_pos he]
  exact ren_w1 h F old path w hf hs hcl hp hp2 hT hR he
end Go.Proofs.YtfalhnomhidkcaaGreatDoor.DirsRj
namespace Go.Proofs.YtfalhnomhidkcaaGreatDoor.DirsV
open Byte PackM KeysM TreeM ViewM ViewKm NodeM NamesM WalkM WalkF WalkKm
abbrev Wrt := List Pr → Pr
def goW (s : Vs) : List Wrt → Vs × Bool
 | [] => (s,true)
 | p :: ps => if fullW s.wr (p s.shown) = true then (s,false) else goW (s.write (p s.shown)) ps
theorem goW_nil (s : Vs) : goW s [] = (s,true) := rfl
theorem goW_full {s : Vs} {p : Wrt} {ps : List Wrt} (h : fullW s.wr (p s.shown) = true) : goW s (p :: ps) = (s,false) := if_pos h
theorem goW_room {s : Vs} {p : Wrt} {ps : List Wrt} (h : fullW s.wr (p s.shown) = false) : goW s (p :: ps) = goW (s.write (p s.shown)) ps := if_neg (by rw [h]; decide)
structure Sm (s t : Vs) : Prop where
 base : s.base = t.base
 wr : s.wr = t.wr
theorem Sm.refl (s : Vs) : Sm s s := ⟨rfl,rfl⟩
theorem Sm.trans {s t u : Vs} (h : Sm s t) (k : Sm t u) : Sm s u := ⟨h.base.trans k.base,h.wr.trans k.wr⟩
theorem Sm.shown {s t : Vs} (h : Sm s t) : s.shown = t.shown := by unfold Vs.shown; rw [h.base,h.wr]
theorem Sm.write {s t : Vs} (h : Sm s t) (p : Pr) : Sm (s.write p) (t.write p) := by
 unfold Vs.write
 rw [h.wr]
 split
 ·exact h
 ·exact ⟨h.base,by show writeW s.base t.wr p = writeW t.base t.wr p; rw [h.base]⟩
theorem Sm.read {s t : Vs} (h : Sm s t) (k : ByteArray) : Sm (s.read k) t := ⟨h.base,h.wr⟩
theorem Sm.ranged {s t : Vs} (h : Sm s t) (a b : ByteArray) : Sm (s.ranged a b) t := by
 unfold Vs.ranged
 split
 ·exact ⟨h.base,h.wr⟩
 ·exact h
theorem Sm.of_find {s s' : Vs} {path : ByteArray} (h : FindR s path s') : Sm s' s := ⟨h.base,h.wr⟩
theorem goW_sm : ∀ (ps : List Wrt) {s t : Vs},Sm s t → Sm (goW s ps).1 (goW t ps).1 ∧ (goW s ps).2 = (goW t ps).2
 | [],s,t,h => ⟨h,rfl⟩
 | p :: ps,s,t,h => by
   unfold goW
   rw [h.shown,h.wr]
   split
   ·exact ⟨h,rfl⟩
   ·exact goW_sm ps (h.write _)
theorem write_base (s : Vs) (p : Pr) : (s.write p).base = s.base := by
 unfold Vs.write
 split <;> rfl
theorem goW_base : ∀ (ps : List Wrt) (s : Vs),(goW s ps).1.base = s.base
 | [],s => rfl
 | p :: ps,s => by
   unfold goW
   split
   ·rfl
   ·rw [goW_base ps,write_base]
theorem goW_app : ∀ (ps qs : List Wrt) (s : Vs),goW s (ps ++ qs) = if (goW s ps).2 = true then goW (goW s ps).1 qs else goW s ps
 | [],qs,s => rfl
 | p :: ps,qs,s => by
   rw [List.cons_append]
   cases h : fullW s.wr (p s.shown) with
   | true => rw [goW_full h,goW_full h]; rfl
   | false => rw [goW_room h,goW_room h]; exact goW_app ps qs _
theorem write_room {s : Vs} {p : Pr} (h : fullW s.wr p = true) : s.write p = s := if_pos h
structure Aft (s s' : Vs) (ps : List Wrt) (k m : Nat) : Prop where
 sm : Sm s' (goW s ps).1
 rd : s'.rd.length ≤ s.rd.length + k
 rg : s'.rg.length ≤ s.rg.length + m
theorem Aft.one {s s' : Vs} {p : Wrt} {k : Nat} (h : Sm s' (s.write (p s.shown))) (h1 : s'.rd.length ≤ s.rd.length + k) (h2 : s'.rg.length ≤ s.rg.length) : Aft s s' [p] k 0 := by
 refine ⟨?_,h1,h2⟩
 cases hf : fullW s.wr (p s.shown) with
 | true => rw [goW_full hf]; rw [write_room hf] at h; exact h
 | false => rw [goW_room hf]; exact h
theorem one_ok {s : Vs} {p : Wrt} : (goW s [p]).2 = !fullW s.wr (p s.shown) := by
 cases hf : fullW s.wr (p s.shown) with
 | true => rw [goW_full hf]; rfl
 | false => rw [goW_room hf]; rfl
theorem Aft.nil {s s' : Vs} {k m : Nat} (h : Sm s' s) (h1 : s'.rd.length ≤ s.rd.length + k) (h2 : s'.rg.length ≤ s.rg.length + m) : Aft s s' [] k m := ⟨h,h1,h2⟩
theorem Aft.app {s s' s'' : Vs} {ps qs : List Wrt} {k m k' m' : Nat} (h : Aft s s' ps k m) (ho : (goW s ps).2 = true) (h' : Aft s' s'' qs k' m') : Aft s s'' (ps ++ qs) (k + k') (m + m') ∧ (goW s (ps ++ qs)).2 = (goW s' qs).2 := by
 have h1 := goW_sm qs h.sm
 refine ⟨⟨?_,by have := h.rd; have := h'.rd; omega,by have := h.rg; have := h'.rg; omega⟩,?_⟩
 ·rw [goW_app,if_pos ho]
  exact h'.sm.trans h1.1
 ·rw [goW_app,if_pos ho]
  exact h1.2.symm
theorem Aft.stop {s s' : Vs} {ps qs : List Wrt} {k m : Nat} (h : Aft s s' ps k m) (ho : (goW s ps).2 = false) : Aft s s' (ps ++ qs) k m ∧ (goW s (ps ++ qs)).2 = false := by
 have e : goW s (ps ++ qs) = goW s ps := by rw [goW_app,ho]; rfl
 refine ⟨⟨?_,h.rd,h.rg⟩,by rw [e]; exact ho⟩
 rw [e]
 exact h.sm
theorem Aft.more {s s' : Vs} {ps : List Wrt} {k m k' m' : Nat} (h : Aft s s' ps k m) (hk : k ≤ k') (hm : m ≤ m') : Aft s s' ps k' m' := ⟨h.sm,by have := h.rd; omega,by have := h.rg; omega⟩
theorem Aft.from_ {s t s' : Vs} {ps : List Wrt} {k m a b : Nat} (h : Aft t s' ps k m) (hs : Sm t s) (h1 : t.rd.length ≤ s.rd.length + a) (h2 : t.rg.length ≤ s.rg.length + b) : Aft s s' ps (a + k) (b + m) ∧ (goW s ps).2 = (goW t ps).2 :=
 ⟨⟨h.sm.trans (goW_sm ps hs).1,by have := h.rd; omega,by have := h.rg; omega⟩,(goW_sm ps hs).2.symm⟩
theorem write_rd (s : Vs) (p : Pr) : (s.write p).rd = s.rd ∧ (s.write p).rg = s.rg := by
 unfold Vs.write
 split <;> exact ⟨rfl,rfl⟩
def u32 (x : Int) : Int := x % 4294967296
def saveP (ino k l z p : Int) : Wrt := fun _ => ⟨kI ino,nput k l z p,false⟩
def dropP (ino : Int) : Wrt := fun _ => ⟨kI ino,⟨#[]⟩,true⟩
def hangP (dir : Int) (name : ByteArray) (ino : Int) : Wrt := fun _ => ⟨kE dir name,hangV ino,false⟩
def unhangP (dir : Int) (name : ByteArray) : Wrt := fun _ => ⟨kE dir name,⟨#[]⟩,true⟩
def tieP (dir more : Int) : Wrt := fun L => ⟨kI dir,nput (loadM L dir).1.k (u32 ((loadM L dir).1.l + more)) (loadM L dir).1.s (loadM L dir).1.p,false⟩
def adoptP (parent ino : Int) : Wrt := fun L => ⟨kI ino,nput (loadM L ino).1.k (loadM L ino).1.l (loadM L ino).1.s parent,false⟩
theorem load_k (L : List Pr) (ino : Int) : 0 ≤ (loadM L ino).1.k ∧ (loadM L ino).1.k ≤ 255 ∧ 0 ≤ (loadM L ino).1.l ∧ (loadM L ino).1.l ≤ 4294967295 ∧ 0 ≤ (loadM L ino).1.s ∧ (loadM L ino).1.s ≤ 4294967295 ∧ 0 ≤ (loadM L ino).1.p ∧ (loadM L ino).1.p ≤ 4294967295 := by
 unfold loadM
 split
 ·split
  ·exact ⟨by decide,by decide,by decide,by decide,by decide,by decide,by decide,by decide⟩
  ·exact ⟨by decide,by decide,by decide,by decide,by decide,by decide,by decide,by decide⟩
 ·rename_i q _
  split
  ·have a := gk_bd q.value
   have b := g_bd q.value 1
   have c := g_bd q.value 5
   have d := g_bd q.value 9
   exact ⟨a.1,a.2,b.1,b.2,c.1,c.2,d.1,d.2⟩
  ·exact ⟨by decide,by decide,by decide,by decide,by decide,by decide,by decide,by decide⟩
def remPs (x : Spot) : List Wrt := [unhangP x.dir x.name,dropP x.ino,tieP x.dir (-1)]
def remV (L : List Pr) (x : Spot) : Int × List Wrt := if x.node.k ≠ 2 then (12,[]) else if (listM x.ino L).length ≠ 0 then (14,[]) else (0,remPs x)
def unlV (x : Spot) : Int × List Wrt := if x.node.k ≠ 1 then (13,[]) else if 1 < x.node.l then (0,[unhangP x.dir x.name,saveP x.ino x.node.k (x.node.l - 1) x.node.s x.node.p]) else (0,[unhangP x.dir x.name,dropP x.ino])
def clrV (L : List Pr) (x : Spot) (dir : Bool) : Int × List Wrt := if x.ino = 0 then (0,[]) else if dir = true then remV L x else unlV x
def movPs (x y : Spot) : List Wrt := if x.node.k = 2 ∧ x.dir ≠ y.dir then [unhangP x.dir x.name,hangP y.dir y.name x.ino,adoptP y.dir x.ino,tieP x.dir (-1),tieP y.dir 1] else [unhangP x.dir x.name,hangP y.dir y.name x.ino]
def makV (L : List Pr) (path : ByteArray) (kind ino : Int) : Int × List Wrt :=
 if (findM L path).2 ≠ 0 then ((findM L path).2,[]) else if (findM L path).1.ino ≠ 0 then (11,[])
 else if kind = 1 then (0,[saveP ino 1 1 0 0,hangP (findM L path).1.dir (findM L path).1.name ino])
 else (0,[saveP ino 2 2 0 (findM L path).1.dir,hangP (findM L path).1.dir (findM L path).1.name ino,tieP (findM L path).1.dir 1])
def rmdV (L : List Pr) (path : ByteArray) : Int × List Wrt :=
 if (findM L path).2 ≠ 0 then ((findM L path).2,[]) else if (findM L path).1.ino = 1 then (29,[]) else if (findM L path).1.ino = 0 then (10,[]) else remV L (findM L path).1
def lstV (L : List Pr) (path : ByteArray) : List ByteArray × Int :=
 if (findM L path).2 ≠ 0 then ([],(findM L path).2) else if (findM L path).1.ino = 0 then ([],10) else if (findM L path).1.node.k ≠ 2 then ([],12) else (listM (findM L path).1.ino L,0)
def lnkV (L : List Pr) (old path : ByteArray) : Int × List Wrt :=
 if (findM L old).2 ≠ 0 then ((findM L old).2,[]) else if (findM L old).1.ino = 0 then (10,[]) else if (findM L old).1.node.k ≠ 1 then (13,[])
 else if (findM L path).2 ≠ 0 then ((findM L path).2,[]) else if (findM L path).1.ino ≠ 0 then (11,[]) else if 1000 ≤ (findM L old).1.node.l then (18,[])
 else (0,[hangP (findM L path).1.dir (findM L path).1.name (findM L old).1.ino,saveP (findM L old).1.ino (findM L old).1.node.k ((findM L old).1.node.l + 1) (findM L old).1.node.s (findM L old).1.node.p])
def ulkV (L : List Pr) (path : ByteArray) : Int × List Wrt :=
 if (findM L path).2 ≠ 0 then ((findM L path).2,[]) else if (findM L path).1.ino = 0 then (10,[]) else unlV (findM L path).1
def renV (L : List Pr) (old path : ByteArray) : Int × List Wrt :=
 if (findM L old).2 ≠ 0 then ((findM L old).2,[]) else if (findM L old).1.ino = 1 then (29,[]) else if (findM L old).1.ino = 0 then (10,[])
 else if (findM L path).2 ≠ 0 then ((findM L path).2,[]) else if (findM L path).1.ino = 1 then (29,[]) else if (findM L old).1.ino = (findM L path).1.ino then (0,[])
 else if (findM L old).1.node.k = 2 ∧ under (spl old).1 (spl path).1 = true then (15,[])
 else if (clrV L (findM L path).1 (decide ((findM L old).1.node.k = 2))).1 ≠ 0 then ((clrV L (findM L path).1 (decide ((findM L old).1.node.k = 2))).1,[])
 else (0,(clrV L (findM L path).1 (decide ((findM L old).1.node.k = 2))).2 ++ movPs (findM L old).1 (findM L path).1)
theorem aft0 (s : Vs) : Aft s s [] 0 0 ∧ (goW s []).2 = true := ⟨Aft.nil (Sm.refl s) (Nat.le_refl _) (Nat.le_refl _),rfl⟩
end Go.Proofs.YtfalhnomhidkcaaGreatDoor.DirsV
namespace Go.Proofs.YtfalhnomhidkcaaGreatDoor.ViewS
open Go.RowKit
open Byte KeysM TreeM ViewM Own Lst TreeR Ho ViewR
theorem has_yes {G : List (ByteArray × ByteArray)} {a b : ByteArray} {j : Nat} {x : ByteArray × ByteArray} (h : G[j]? = some x) (h1 : x.1 = a) (h2 : x.2 = b) : hasR a b G = true := by
 unfold hasR
 rw [List.any_eq_true]
 exact ⟨x,List.mem_of_getElem? h,by simp [h1,h2]⟩
theorem has_no {G : List (ByteArray × ByteArray)} {a b : ByteArray} (h : ∀ j x,j < G.length → G[j]? = some x → ¬ (x.1 = a ∧ x.2 = b)) : hasR a b G = false := by
 unfold hasR
 rw [List.any_eq_false]
 intro x hx
 obtain ⟨j,hj,rfl⟩ := List.mem_iff_getElem.1 hx
 have := h j _ hj (List.getElem?_eq_getElem hj)
 simpa using this
end Go.Proofs.YtfalhnomhidkcaaGreatDoor.ViewS