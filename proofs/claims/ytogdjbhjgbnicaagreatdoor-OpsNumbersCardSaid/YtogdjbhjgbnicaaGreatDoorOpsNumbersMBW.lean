import Derived.Test.YtogdjbhjgbnicaaGreatDoorOpsNumbersMAP
import Derived.Test.YtogdjbhjgbnicaaGreatDoorOpsNumbersMBV
import Derived.Test.YtogdjbhjgbnicaaGreatDoorSq
import Derived.Test.YtogdjbhjgbnicaaGreatDoorOpsNumbersMBT
import Derived.Lib.BufferWrite
import Derived.Laws.CopyOwn
import Derived.StillTailTactics
import Derived.Test.YtogdjbhjgbnicaaGreatDoorOwn
import Derived.Test.YtogdjbhjgbnicaaGreatDoorPackM
import Derived.Test.YtogdjbhjgbnicaaGreatDoorProg
import Derived.Shelf.SlLaysV
import Derived.Shelf.Bytes.SlTrim
import Derived.KernelRfl
import Derived.Test.YtogdjbhjgbnicaaGreatDoorOpsNumbersMBQ
import Derived.Test.YtogdjbhjgbnicaaGreatDoorConvS
import Derived.Deep.DeepCutAuto
import Derived.Deep.CutBlock
set_option linter.unusedVariables false
set_option linter.unusedSimpArgs false
namespace Go.Proofs.YtogdjbhjgbnicaaGreatDoor.FileV
open Byte PackM KeysM TreeM ViewM ViewKm NodeM WalkM WalkF WalkKm DirsV FileM
def filV (L : List Pr) (ino : Int) : Ino × Int := if (loadM L ino).2 = true ∧ (loadM L ino).1.k = 1 then ((loadM L ino).1,0) else (ino0,16)
def putP (ino which : Int) (b : List Int) : Wrt := fun _ => ⟨kD ino which,str (cut0 b),decide (cut0 b = [])⟩
def getB (L : List Pr) (ino which : Int) : List Int := pad 64 (valL ((getL (kD ino which) L).map (·.value)))
theorem getB_len (L : List Pr) (ino which : Int) : (getB L ino which).length = 64 := pad_len _ _
def valB (L : List Pr) (ino which : Int) : List Int := valL ((getL (kD ino which) L).map (·.value))
def shoPs (L : List Pr) (ino size : Int) : List Wrt := if (valB L ino (size / 64)).length ≤ (size % 64).toNat then [] else [putP ino (size / 64) ((valB L ino (size / 64)).take (size % 64).toNat)]
def setB (l xs : List Int) (f : Nat) : List Int := l.take f ++ (xs ++ l.drop (f + xs.length))
theorem setB_len (l xs : List Int) (f : Nat) (h : f + xs.length ≤ l.length) : (setB l xs f).length = l.length := by
 unfold setB
 rw [List.length_append,List.length_append,List.length_take,List.length_drop]
 omega
def wrP (ino : Int) (p : Int × Int × Int) (xs : List Int) : Wrt := fun L => putP ino p.1 (setB (getB L ino p.1) xs p.2.1.toNat) L
def wrPs (ino : Int) : List Int → List (Int × Int × Int) → List Wrt
 | _,[] => []
 | xs,p :: P => wrP ino p (xs.take p.2.2.toNat) :: wrPs ino (xs.drop p.2.2.toNat) P
def blkF (ino from_ : Int) (p : Pr) : Bool := decide ((sp p.key).letter = 68) && decide ((sp p.key).ino = ino) && decide (from_ ≤ (sp p.key).n)
def delP (k : ByteArray) : Wrt := fun _ => ⟨k,⟨#[]⟩,true⟩
def drpPs (L : List Pr) (ino from_ : Int) : List Wrt := (L.filter (blkF ino from_)).map fun p => delP p.key
def pcB (L : List Pr) (ino : Int) (p : Int × Int × Int) : List Int := ((getB L ino p.1).drop p.2.1.toNat).take p.2.2.toNat
def rdL (L : List Pr) (ino : Int) (P : List (Int × Int × Int)) : List Int := P.flatMap (pcB L ino)
def cutV (a n : Int) : List (Int × Int × Int) := if a < 0 ∨ n ≤ 0 ∨ 4096 < a ∨ 4096 - a < n then [] else cuts n.toNat a n
def blkN (size : Int) : Int := if size ≤ 0 then 0 else (size - 1) / 64 + 1
def reaV (L : List Pr) (ino a n : Int) : List Int × Int := if (filV L ino).2 ≠ 0 then ([],(filV L ino).2) else if a < 0 ∨ n < 0 ∨ 1024 < n then ([],15) else (rdL L ino (cutV a (min n ((filV L ino).1.s - a))),0)
def wriV (L : List Pr) (ino a : Int) (b : List Int) : Int × List Wrt := if (filV L ino).2 ≠ 0 then ((filV L ino).2,[]) else if a < 0 ∨ 1024 < b.length then (15,[]) else if 4096 - (b.length : Int) < a then (19,[]) else if b.length = 0 then (0,[]) else (0,wrPs ino b (cutV a b.length) ++ [saveP ino (filV L ino).1.k (filV L ino).1.l (max (filV L ino).1.s (a + b.length)) (filV L ino).1.p])
def truV (L : List Pr) (ino z : Int) : Int × List Wrt := if (filV L ino).2 ≠ 0 then ((filV L ino).2,[]) else if z < 0 then (15,[]) else if 4096 < z then (19,[]) else (0,drpPs L ino (blkN z) ++ (shoPs (outV L (drpPs L ino (blkN z))) ino z ++ [saveP ino (filV L ino).1.k (filV L ino).1.l z (filV L ino).1.p]))
where
 outV (L : List Pr) : List Wrt → List Pr
 | [] => L
 | p :: ps => outV (doneW L (p L)) ps
end Go.Proofs.YtogdjbhjgbnicaaGreatDoor.FileV
set_option maxHeartbeats 16000000
set_option maxRecDepth 100000
namespace Go.Proofs.YtogdjbhjgbnicaaGreatDoor.FileK
open Go.RowKit
open Byte KeysM TreeM ViewM NodeM NodeG NodeK WalkM WalkF WalkKm DirsV FileM FileV Lst Chg TreeL ViewL WalkL WalkV Vat WalkKa WalkKb DirsK
open Own hiding keeps
variable {Rep : RepT}
theorem room_calls (b : Bool) (w : World) : Calls Tryz.prog 107 #[.bool b] w fun e w' => e = .returned (.int .i64 (if b then 0 else 21)) ∧ w = w' := by
 cases b
 all_goals
  go_enter Tryz.func107,Tryz.ntmps107
  go_wp2_with fail
  go_ret
  exact ⟨rfl,rfl⟩
def FilV (L : List Pr) (ino : Int) : Value := .tuple #[.agg #[.int .u8 (filV L ino).1.k,.int .u32 (filV L ino).1.l,.int .u32 (filV L ino).1.s,.int .u32 (filV L ino).1.p],.int .i64 (filV L ino).2]
theorem load_calls (hW : Wk Rep) {w : World} {v : Value} {s : Vs} {S D : Nat → Prop} (ino : Int) (hr : Rep w v s S D) (hl : Lim s) (h0 : 0 ≤ ino) (h1 : ino ≤ 4294967295) :
 Calls Tryz.prog 105 #[v,.int .u32 ino] w (WalkL.Stepped Rep v (s.read (kI ino)) (FilV s.shown ino) S D w) := by
 have R0 := hQ_ (Blk.new_ w #[.int .u8 0,.int .u32 0,.int .u32 0,.int .u32 0] 46)
 have hb0 := bX_ R0.out
 have A0 := hQ_ ((At.start hr).own hW.stays hb0 (Nat.le_refl _) (by simp))
 have HS := hQ_ hW.stays
 have HLD := hQ_ (fun (w1 : World) (S1 D1 : Nat → Prop) (hr1 : Rep w1 v s S1 D1) => WalkKa.load_calls hW.stays hW.get hW.small ino hr1 hl h0 h1)
 unfold LoadV at HLD
 unfold FilV filV
 clear hb0 hr
 generalize (loadM s.shown ino).2 = bb at *
 generalize (loadM s.shown ino).1 = xx at *
 obtain ⟨xk,xl,xz,xp⟩ := xx
 dsimp only at HLD ⊢
 clear hl
 cases bb with
 | false =>
   rw [if_neg (by rintro ⟨h,_⟩; cases h)]
   dsimp only [ino0]
   go_enter Tryz.func105,Tryz.ntmps105
   go_wp2_with fail
   refine (HLD.out _ _ _ A0.out.rep).mono ?_
   rintro e w1 ⟨S1,D1,rfl,hr1,st1⟩
   have hbn := bN_ w1 (.cells #[.int .u8 xk,.int .u32 xl,.int .u32 xz,.int .u32 xp] 46)
   have A1 := hQ_ ((A0.out.step HS.out hr1 st1).below HS.out hbn)
   have R1 := hQ_ ((A0.out.blk HS.out R0.out (.inr rfl) st1).below hbn)
   clear hr1 st1 hbn
   go_wp2_with ((with_reducible refine pick none ?_); refine store_blk rfl 46 _ _ rfl w.heap.size #[.int .u8 0,.int .u32 0,.int .u32 0,.int .u32 0] rfl rfl 46 _ R1.out info_ino rfl (by simp [Value.oneCell']) ?_; intro w5 hk5 hg5)
   have A5 := A1.out.stored HS.out R1.out (.inr rfl) (by decide) hg5
   exact bodyPost_ret (v := .tuple #[.agg #[.int .u8 0,.int .u32 0,.int .u32 0,.int .u32 0],.int .i64 16]) (results_row_tmp rfl _ _ w.heap.size 46 _ (0,0) _ rfl _ rfl hk5 Tryz.underlying46 rfl info_ino) rfl ⟨S1,D1,rfl,A5.rep,A5.st⟩
 | true =>
   by_cases hk : xk = 1
   ·subst hk
    rw [if_pos ⟨rfl,rfl⟩]
    dsimp only
    go_enter Tryz.func105,Tryz.ntmps105
    go_wp2_with fail
    refine (HLD.out _ _ _ A0.out.rep).mono ?_
    rintro e w1 ⟨S1,D1,rfl,hr1,st1⟩
    have hbn := bN_ w1 (.cells #[.int .u8 1,.int .u32 xl,.int .u32 xz,.int .u32 xp] 46)
    have A1 := hQ_ ((A0.out.step HS.out hr1 st1).below HS.out hbn)
    have R1 := hQ_ ((A0.out.blk HS.out R0.out (.inr rfl) st1).below hbn)
    clear hr1 st1 hbn
    go_wp2_with ((with_reducible refine pick none ?_); refine store_blk rfl 46 _ _ rfl w.heap.size #[.int .u8 1,.int .u32 xl,.int .u32 xz,.int .u32 xp] rfl rfl 46 _ R1.out info_ino rfl (by simp [Value.oneCell']) ?_; intro w5 hk5 hg5)
    have A5 := A1.out.stored HS.out R1.out (.inr rfl) (by decide) hg5
    exact bodyPost_ret (v := .tuple #[.agg #[.int .u8 1,.int .u32 xl,.int .u32 xz,.int .u32 xp],.int .i64 0]) (results_row_tmp rfl _ _ w.heap.size 46 _ (0,0) _ rfl _ rfl hk5 Tryz.underlying46 rfl info_ino) rfl ⟨S1,D1,rfl,A5.rep,A5.st⟩
   ·rw [if_neg (fun h => hk h.2)]
    dsimp only [ino0]
    have d1 : (xk != 1) = true := by simpa using hk
    go_enter Tryz.func105,Tryz.ntmps105
    go_wp2_with fail
    refine (HLD.out _ _ _ A0.out.rep).mono ?_
    rintro e w1 ⟨S1,D1,rfl,hr1,st1⟩
    have hbn := bN_ w1 (.cells #[.int .u8 xk,.int .u32 xl,.int .u32 xz,.int .u32 xp] 46)
    have A1 := hQ_ ((A0.out.step HS.out hr1 st1).below HS.out hbn)
    have R1 := hQ_ ((A0.out.blk HS.out R0.out (.inr rfl) st1).below hbn)
    clear hr1 st1 hbn hk
    go_wp2_with ((with_reducible refine pick none ?_); refine store_blk rfl 46 _ _ rfl w.heap.size #[.int .u8 0,.int .u32 0,.int .u32 0,.int .u32 0] rfl rfl 46 _ R1.out info_ino rfl (by simp [Value.oneCell']) ?_; intro w5 hk5 hg5)
    have A5 := A1.out.stored HS.out R1.out (.inr rfl) (by decide) hg5
    exact bodyPost_ret (v := .tuple #[.agg #[.int .u8 0,.int .u32 0,.int .u32 0,.int .u32 0],.int .i64 16]) (results_row_tmp rfl _ _ w.heap.size 46 _ (0,0) _ rfl _ rfl hk5 Tryz.underlying46 rfl info_ino) rfl ⟨S1,D1,rfl,A5.rep,A5.st⟩
end Go.Proofs.YtogdjbhjgbnicaaGreatDoor.FileK
namespace Go.Proofs.YtogdjbhjgbnicaaGreatDoor.Cpy
open Go.RowKit Go.Lib
open Byte PackM Own
def u8A (l : List Int) : Array Value := (l.map (Value.int .u8)).toArray
theorem u8A_size (l : List Int) : (u8A l).size = l.length := by simp [u8A]
theorem u8A_all (l : List Int) : (u8A l).all (·.oneCell') = true := by
 simp [u8A,Value.oneCell']
abbrev Z64 : Array Value := #[.int .u8 0,.int .u8 0,.int .u8 0,.int .u8 0,.int .u8 0,.int .u8 0,.int .u8 0,.int .u8 0,.int .u8 0,.int .u8 0,.int .u8 0,.int .u8 0,.int .u8 0,.int .u8 0,.int .u8 0,.int .u8 0,.int .u8 0,.int .u8 0,.int .u8 0,.int .u8 0,.int .u8 0,.int .u8 0,.int .u8 0,.int .u8 0,.int .u8 0,.int .u8 0,.int .u8 0,.int .u8 0,.int .u8 0,.int .u8 0,.int .u8 0,.int .u8 0,.int .u8 0,.int .u8 0,.int .u8 0,.int .u8 0,.int .u8 0,.int .u8 0,.int .u8 0,.int .u8 0,.int .u8 0,.int .u8 0,.int .u8 0,.int .u8 0,.int .u8 0,.int .u8 0,.int .u8 0,.int .u8 0,.int .u8 0,.int .u8 0,.int .u8 0,.int .u8 0,.int .u8 0,.int .u8 0,.int .u8 0,.int .u8 0,.int .u8 0,.int .u8 0,.int .u8 0,.int .u8 0,.int .u8 0,.int .u8 0,.int .u8 0,.int .u8 0]
theorem cells_txt (t : ByteArray) : byteCells t.data.toList = (txt t).map (Value.int .u8) := by
 unfold byteCells txt
 rw [List.map_map]
 rfl
theorem wpList_copy_str {P : Program} {w : World} {ops : Array Oper} {rest : List Oper} {o : Oper} {a : Act} {Q : Exit → Act → World → Prop} (hgd : o.guard = none) (d s : Operand) (dT sT : TypeId)
 (ho : o.op = .call { callee := .builtin .copy,args := #[d,s],argTypes := #[dT,sT] }) (elem : TypeId) (hu : P.underlying dT = some (.slice elem)) (hsz : (P.info? elem).map (·.size) = some 1)
 (g n c : Nat) (t : ByteArray) (hd : a.eval d = .slice (some ⟨g,0,none⟩) n c) (hs : a.eval s = .string t) (cur : List Int) (T : TypeId) (hg : Blk w g (u8A cur) T) (hle : t.size ≤ n) (hfit : t.size ≤ cur.length)
 (h : ∀ w',Blk w' g (u8A (txt t ++ cur.drop t.size)) T → w.grownBy w' (some g) → wpList P ops Q rest (a.put o.dst (goInt t.size)) w') : wpList P ops Q (o :: rest) a w := by
 refine wpList_plain hgd fun K hK => ?_
 have hrun := run_copy_row_string (P := P) w dT sT o.type elem g 0 n c t (u8A cur) T hu hsz hg hle (by rw [u8A_size]; omega)
 have e : ((u8A cur).toList.take 0 ++ byteCells t.data.toList ++ (u8A cur).toList.drop (0 + t.size)).toArray = u8A (txt t ++ cur.drop t.size) := by
  unfold u8A
  rw [cells_txt,List.take_zero,List.nil_append,Nat.zero_add,List.map_append,List.map_drop]
 rw [e] at hrun
 unfold Oper.wp
 simp [execOp,ho,resolve,invoke,builtin,hd,hs,hrun,Result.andThen]
 exact hK _ _ (h _ (setRow_heap w g (u8A cur) _ T (0,0) hg) (grown_setRow w g _))
def sp_ (l xs : List Int) (f : Nat) : List Int := l.take f ++ (xs ++ l.drop (f + xs.length))
theorem wpList_copy_row {P : Program} {w : World} {ops : Array Oper} {rest : List Oper} {o : Oper} {a : Act} {Q : Exit → Act → World → Prop} (hgd : o.guard = none) (d s : Operand) (dT sT : TypeId)
 (ho : o.op = .call { callee := .builtin .copy,args := #[d,s],argTypes := #[dT,sT] }) (elem : TypeId) (hu : P.underlying dT = some (.slice elem)) (hsz : (P.info? elem).map (·.size) = some 1)
 (g f dLen dCap : Nat) (ad : Addr) (sLen sCap : Nat) (hd : a.eval d = .slice (some ⟨g,f,none⟩) dLen dCap) (hs : a.eval s = .slice (some ad) sLen sCap) (cur : List Int) (T : TypeId) (hg : Blk w g (u8A cur) T) (xs : List Int) (hn : xs.length = Nat.min sLen dLen)
 (hsrc : ∀ j x,xs[j]? = some x → w.cell? (ad.add j) = some (.int .u8 x)) (hfit : f + xs.length ≤ cur.length)
 (h : ∀ w',Blk w' g (u8A (sp_ cur xs f)) T → w.grownBy w' (some g) → wpList P ops Q rest (a.put o.dst (goInt xs.length)) w') : wpList P ops Q (o :: rest) a w := by
 refine wpList_plain hgd fun K hK => ?_
 have hrun := run_copy_row (P := P) w dT sT o.type elem g f dLen dCap ad sLen sCap (u8A cur) T (xs.map (Value.int .u8)) hu hsz hg (by rw [List.length_map]; exact hn) (fun j v hv => by
  rw [List.getElem?_map] at hv
  obtain ⟨x,hx,rfl⟩ := Option.map_eq_some_iff.1 hv
  exact hsrc j x hx) (by rw [List.length_map,u8A_size]; exact hfit) (fun v hv => by
  obtain ⟨x,_,rfl⟩ := List.mem_map.1 hv
  rfl)
 have e : ((u8A cur).toList.take f ++ xs.map (Value.int .u8) ++ (u8A cur).toList.drop (f + (xs.map (Value.int .u8)).length)).toArray = u8A (sp_ cur xs f) := by
  unfold u8A sp_
  rw [List.length_map,List.map_append,List.map_append,List.map_take,List.map_drop,List.append_assoc]
 rw [e,List.length_map] at hrun
 unfold Oper.wp
 simp [execOp,ho,resolve,invoke,builtin,hd,hs,hrun,Result.andThen]
 exact hK _ _ (h _ (setRow_heap w g (u8A cur) _ T (0,0) hg) (grown_setRow w g _))
section
variable {P : Program} {ops : Array Oper} {w : World} {Q : Act → Prop} {a : Act} {o : Oper} {rest : List Oper}
theorem sr_val (v : Value) (hw : Region.wanted o (yielded ops a.tmps) = true) (hr : (execOp a.eval o).run P w = .ok (.value v) w) (h : wpStill P ops w Q rest (a.put o.dst v)) : wpStill P ops w Q (o :: rest) a :=
 wpStill_step fun K hK => by
  rw [if_pos hw]
  unfold Oper.still
  rw [hr,Oper.stillUpon_value]
  exact hK _ h
theorem sr_move (x : Operand) (ho : o.op = .move x) (hw : Region.wanted o (yielded ops a.tmps) = true) (v : Value) (hx : a.eval x = v) (h : wpStill P ops w Q rest (a.put o.dst v)) : wpStill P ops w Q (o :: rest) a :=
 sr_val v hw (by unfold execOp; rw [ho]; simp only [hx,Sem.run_pure]) h
theorem sr_slice (t : TypeId) (x : Operand) (lo hi mx : Option Operand) (ho : o.op = .slice t x lo hi mx) (hw : Region.wanted o (yielded ops a.tmps) = true) (r : Value) (hr : (Instr.sliceAt t (a.eval x) (lo.map a.eval) (hi.map a.eval) (mx.map a.eval)).run P w = .ok r w) (h : wpStill P ops w Q rest (a.put o.dst r)) : wpStill P ops w Q (o :: rest) a :=
 sr_val r hw (by unfold execOp; rw [ho]; simp only [Sem.run_bind,hr,Result.andThen_ok,Sem.run_pure]) h
end
end Go.Proofs.YtogdjbhjgbnicaaGreatDoor.Cpy
namespace Go.Proofs.YtogdjbhjgbnicaaGreatDoor.FileKa
open Go.RowKit
open Byte PackM KeysM KeysL KeysC TreeM TreeR ViewM NodeM WalkM WalkF WalkKm DirsV FileM FileV Lst Chg TreeL ViewL WalkL WalkV Vat DirsK Cpy
open Own hiding keeps
variable {Rep : RepT}
theorem info64 : (Tryz.prog.info? 184).map (·.size) = some 64 := by kernel_rfl
theorem kd_size (ino n : Int) : (kD ino n).size ≤ 100 := by
 unfold kD
 split
 ·decide
 ·rw [ByteArray.size_append,ks_size,str_size]
  simp
theorem got_val (q : Option Pr) : ∃ t b,GotV q = .tuple #[.string t,.bool b] ∧ valL (q.map (·.value)) = txt t := by
 cases q with
 | none => exact ⟨⟨#[]⟩,false,rfl,rfl⟩
 | some p => exact ⟨p.value,true,rfl,rfl⟩
theorem pad_app {l : List Int} (h : l.length ≤ 64) : l ++ (List.replicate 64 (0 : Int)).drop l.length = pad 64 l := by
 unfold pad
 rw [List.drop_replicate,List.take_append,List.take_of_length_le h,List.take_replicate]
 congr 2
 omega
def BlkV (l : List Int) : Value := .agg (u8A l)
theorem get_calls (hW : Wk Rep) (hK : LookOk Rep) {w : World} {v : Value} {s : Vs} {S D : Nat → Prop} (ino which : Int) (hr : Rep w v s S D) (hl : Lim s) (h0 : 0 ≤ ino) (h1 : ino ≤ 4294967295) (w0 : 0 ≤ which) (w1 : which ≤ 65535) (hv : (valL ((getL (kD ino which) s.shown).map (·.value))).length ≤ 64) :
 Calls Tryz.prog 129 #[v,.int .u32 ino,.int .i64 which] w (WalkL.Stepped Rep v s (BlkV (getB s.shown ino which)) S D w) := by
 unfold getB BlkV
 obtain ⟨t,b,e1,e2⟩ := got_val (getL (kD ino which) s.shown)
 rw [e2] at hv ⊢
 rw [txt_len] at hv
 have HP : Hid (txt t ++ (List.replicate 64 (0 : Int)).drop t.size = pad 64 (txt t)) := hQ_ (by rw [← txt_len]; exact pad_app (by rw [txt_len]; exact hv))
 have HLK := hQ_ (fun (w1 : World) (S1 D1 : Nat → Prop) (hr1 : Rep w1 v s S1 D1) => hK (kD ino which) hr1 hl (by have := kd_size ino which; omega))
 rw [e1] at HLK
 have HB := hQ_ (fun w => block_calls ino which w h0 h1 (by omega) (by omega))
 have HS := hQ_ hW.stays
 have hb0 : Below w.heap.size w ((w.alloc (.cells Z64 184)).alloc (.cells Z64 184)) := (bW_).alloc (by simp) _
 have A0 := hQ_ ((At.start hr).owns hW.stays hb0 (Q := fun b => b = w.heap.size ∨ b = w.heap.size + 1) (by rintro b (rfl | rfl) <;> simp <;> omega))
 have R0 : Hid (Blk ((w.alloc (.cells Z64 184)).alloc (.cells Z64 184)) w.heap.size (u8A (List.replicate 64 0)) 184) := hQ_ ((Blk.new_ w Z64 _).alloc _)
 have R1 : Hid (Blk ((w.alloc (.cells Z64 184)).alloc (.cells Z64 184)) (w.heap.size + 1) (u8A (List.replicate 64 0)) 184) := hQ_ (by
  have := Blk.new_ (w.alloc (.cells Z64 184)) Z64 184
  rw [show (w.alloc (.cells Z64 184)).heap.size = w.heap.size + 1 by simp] at this
  exact this)
 have HTS := hQ_ hv
 have HI : Hid (∀ l : List Int,l.length = 64 → (Tryz.prog.info? 184).map (·.size) = some (u8A l).size) := hQ_ (fun l hl => by rw [u8A_size,hl]; exact info64)
 clear hr hl hW hK hb0 e1 e2 hv h0 h1 w0 w1
 go_enter Tryz.func129,Tryz.ntmps129
 go_wp2_with fail
 refine (HB.out _).mono ?_
 rintro e w2 ⟨rfl,hb2⟩
 have A2 := hQ_ (A0.out.below HS.out hb2)
 have R02 := hQ_ (R0.out.below hb2)
 have R12 := hQ_ (R1.out.below hb2)
 clear hb2
 go_wp2_with fail
 refine (HLK.out _ _ _ A2.out.rep).mono ?_
 rintro e w3 ⟨S3,D3,rfl,hr3,st3⟩
 have A3 := hQ_ (A2.out.step HS.out hr3 st3)
 have R03 := hQ_ (A2.out.blk HS.out R02.out (.inr (.inl rfl)) st3)
 have R13 := hQ_ (A2.out.blk HS.out R12.out (.inr (.inr rfl)) st3)
 clear hr3 st3
 go_wp2_with (first
  | ((with_reducible refine pick (some 20) ?_); refine wpList_copy_str rfl _ _ 39 9 rfl 5 Tryz.underlying39 (by kernel_rfl) (w.heap.size + 1) 64 64 t rfl rfl (List.replicate 64 0) 184 R13.out HTS.out HTS.out ?_; rw [HP.out]; intro w4 hk4 hg4)
  | ((with_reducible refine pick (some 21) ?_); refine load_blk rfl 184 _ rfl (w.heap.size + 1) rfl 184 _ _ hk4 Tryz.underlying184 rfl (HI.out _ (pad_len _ _)) ?_)
  | ((with_reducible refine pick none ?_); refine store_blk rfl 184 _ _ rfl w.heap.size (u8A (pad 64 (txt t))) rfl rfl 184 _ (R03.out.grown hg4 (by omega)) (HI.out _ (pad_len _ _)) (by rw [u8A_size,u8A_size,pad_len,List.length_replicate]) (u8A_all _) ?_; intro w5 hk5 hg5))
 have A4 := A3.out.stored HS.out R13.out (.inr (.inr rfl)) (by decide) hg4
 have A5 := A4.stored HS.out (R03.out.grown hg4 (by omega)) (.inr (.inl rfl)) (by decide) hg5
 exact bodyPost_ret (v := .agg (u8A (pad 64 (txt t)))) (results_cell_row rfl _ _ w.heap.size 184 _ (0,0) _ rfl hk5 Tryz.underlying184 rfl (HI.out _ (pad_len _ _))) rfl ⟨S3,D3,rfl,A5.rep,A5.st⟩
end Go.Proofs.YtogdjbhjgbnicaaGreatDoor.FileKa
namespace Go.Proofs.YtogdjbhjgbnicaaGreatDoor.FileY
open Go.Proofs
def trimLay_ren : Go.Shelf.Ren := ⟨fun | 7 => 155 | 10 => 167 | 11 => 168 | 13 => 169 | 15 => 170 | 16 => 177 | 19 => 178 | 18 => 179 | 21 => 188 | 17 => 189 | 20 => 195 | n => n,fun | 22 => 39 | 9 => 9 | 3 => 3 | 4 => 4 | 5 => 5 | 28 => 217 | 27 => 216 | 0 => 0 | 31 => 220 | 21 => 21 | 33 => 226 | 36 => 233 | 37 => 221 | 40 => 236 | 39 => 235 | n => n,fun | 0 => 1 | 1 => 2 | n => n⟩
theorem trimLay : Go.Proofs.SlLaysV.n7 Tryz.prog trimLay_ren := {
 mixed := by kernel_rfl,
 f7 := Tryz.func155.trans (congrArg some (by kernel_rfl)),
 f10 := Tryz.func167.trans (congrArg some (by kernel_rfl)),
 f11 := Tryz.func168.trans (congrArg some (by kernel_rfl)),
 f13 := Tryz.func169.trans (congrArg some (by kernel_rfl)),
 f15 := Tryz.func170.trans (congrArg some (by kernel_rfl)),
 f16 := Tryz.func177.trans (congrArg some (by kernel_rfl)),
 f17 := Tryz.func189.trans (congrArg some (by kernel_rfl)),
 f18 := Tryz.func179.trans (congrArg some (by kernel_rfl)),
 f19 := Tryz.func178.trans (congrArg some (by kernel_rfl)),
 f20 := Tryz.func195.trans (congrArg some (by kernel_rfl)),
 f21 := Tryz.func188.trans (congrArg some (by kernel_rfl)),
 t0 := Tryz.underlying0,
 a0 := Tryz.isAgg0,
 z0 := Tryz.sizeOf0,
 v0 := Tryz.zeroValue0,
 t3 := Tryz.underlying3,
 a3 := Tryz.isAgg3,
 z3 := Tryz.sizeOf3,
 v3 := Tryz.zeroValue3,
 t4 := Tryz.underlying4,
 a4 := Tryz.isAgg4,
 z4 := Tryz.sizeOf4,
 v4 := Tryz.zeroValue4,
 t5 := Tryz.underlying5,
 a5 := Tryz.isAgg5,
 z5 := Tryz.sizeOf5,
 v5 := Tryz.zeroValue5,
 t9 := Tryz.underlying9,
 a9 := Tryz.isAgg9,
 z9 := Tryz.sizeOf9,
 v9 := Tryz.zeroValue9,
 t21 := Tryz.underlying21,
 a21 := Tryz.isAgg21,
 z21 := Tryz.sizeOf21,
 v21 := Tryz.zeroValue21,
 t22 := Tryz.underlying39,
 a22 := Tryz.isAgg39,
 z22 := Tryz.sizeOf39,
 v22 := Tryz.zeroValue39,
 t27 := Tryz.underlying216,
 a27 := Tryz.isAgg216,
 z27 := Tryz.sizeOf216,
 t28 := Tryz.underlying217,
 a28 := Tryz.isAgg217,
 z28 := Tryz.sizeOf217,
 v28 := Tryz.zeroValue217,
 t31 := Tryz.underlying220,
 a31 := Tryz.isAgg220,
 z31 := Tryz.sizeOf220,
 v31 := Tryz.zeroValue220,
 t33 := Tryz.underlying226,
 a33 := Tryz.isAgg226,
 z33 := Tryz.sizeOf226,
 v33 := Tryz.zeroValue226,
 t36 := Tryz.underlying233,
 a36 := Tryz.isAgg233,
 z36 := Tryz.sizeOf233,
 t37 := Tryz.underlying221,
 a37 := Tryz.isAgg221,
 z37 := Tryz.sizeOf221,
 v37 := Tryz.zeroValue221,
 t39 := Tryz.underlying235,
 a39 := Tryz.isAgg235,
 z39 := Tryz.sizeOf235,
 v39 := Tryz.zeroValue235,
 t40 := Tryz.underlying236,
 a40 := Tryz.isAgg236,
 z40 := Tryz.sizeOf236,
 v40 := Tryz.zeroValue236 }
open Go.RowKit
open Byte PackM FileM
theorem cut0_rev : ∀ (l : List Int),cut0 l = (l.reverse.dropWhile (fun x => decide (x = 0))).reverse
 | [] => rfl
 | x :: r => by
   have ih := cut0_rev r
   rw [List.reverse_cons,List.dropWhile_append,cut0]
   cases h : cut0 r with
   | nil =>
     rw [h] at ih
     have e : r.reverse.dropWhile (fun x => decide (x = 0)) = [] := by
      have := congrArg List.reverse ih
      rw [List.reverse_reverse] at this
      exact this.symm
     rw [e]
     by_cases hx : x = 0
     ·simp [hx]
     ·simp [hx]
   | cons y q =>
     rw [h] at ih
     have e : r.reverse.dropWhile (fun x => decide (x = 0)) = (y :: q).reverse := by
      have := congrArg List.reverse ih
      rw [List.reverse_reverse] at this
      exact this.symm
     rw [e]
     simp
theorem drop_len : ∀ (l : List Int),(∀ x ∈ l,0 ≤ x ∧ x ≤ 255) → ((l.map fun n => UInt8.ofNat n.toNat).dropWhile (([0] : List UInt8).contains ·)).length = (l.dropWhile (fun x => decide (x = 0))).length
 | [],_ => rfl
 | x :: r,h => by
   have hx := h x (by simp)
   have e : ([0] : List UInt8).contains (UInt8.ofNat x.toNat) = decide (x = 0) := by
    by_cases h0 : x = 0
    ·subst h0; rfl
    ·rw [decide_eq_false h0]
     simp only [List.contains_cons,List.contains_nil,Bool.or_false,beq_eq_false_iff_ne]
     intro hc
     have := congrArg UInt8.toNat hc
     rw [UInt8.toNat_ofNat'] at this
     have h2 : x.toNat % 256 = 0 := this
     omega
   rw [List.map_cons,List.dropWhile_cons,List.dropWhile_cons,e]
   by_cases h0 : x = 0
   ·rw [decide_eq_true h0,if_pos rfl,if_pos rfl]
    exact drop_len r fun y hy => h y (by simp [hy])
   ·rw [decide_eq_false h0]
    simp
theorem trim_len {l : List Int} (h : ∀ x ∈ l,0 ≤ x ∧ x ≤ 255) : (Lib.trimRightS (Lib.bytesOf l) [0]).length = (cut0 l).length := by
 unfold Lib.trimRightS Lib.bytesOf
 rw [cut0_rev,List.length_reverse,List.length_reverse,← List.map_reverse]
 exact drop_len _ fun x hx => h x (by simpa using hx)
theorem cut0_take (l : List Int) : l.take (cut0 l).length = cut0 l := by
 obtain ⟨k,hk⟩ := cut0_spec l
 conv => lhs; arg 2; rw [hk]
 rw [List.take_left' rfl]
theorem trim_pos {w : World} {g n c : Nat} {xs : List Int} (h : Bs w (some ⟨g,0,none⟩) n xs) (hn : 0 < n) (hc : n ≤ c) (hbig : c ≤ 9223372036854775807) :
 Calls Tryz.prog 155 #[.slice (some ⟨g,0,none⟩) n c,.string ⟨#[0]⟩] w fun e w' => e = .returned (.slice (some ⟨g,0,none⟩) (cut0 xs).length c) ∧ w' = w := by
 have := Any.bytes_TrimRight_one trimLay (some ⟨g,0,none⟩) n c (Lib.bytesOf xs) 0 w (by unfold Lib.bytesOf; rw [List.length_map,h.1]) hc hbig (fun _ => ⟨g,0,rfl,fun i hi => by
  rw [h.at_ i hi]
  have hb := h.bd i
  unfold Lib.bytesOf
  have hl : i < xs.length := by rw [h.1]; exact hi
  rw [List.getD_eq_getElem?_getD,List.getD_eq_getElem?_getD,List.getElem?_map,List.getElem?_eq_getElem hl]
  rw [List.getD_eq_getElem?_getD,List.getElem?_eq_getElem hl] at hb
  dsimp only [Option.map_some,Option.getD_some] at hb ⊢
  rw [UInt8.toNat_ofNat']
  have : xs[i].toNat % 256 = xs[i].toNat := Nat.mod_eq_of_lt (by omega)
  rw [this,Int.toNat_of_nonneg hb.1]⟩) hn (by decide)
 rw [trim_len h.2.1] at this
 exact this
theorem trim_calls {w : World} {g n c : Nat} {xs : List Int} (h : Bs w (some ⟨g,0,none⟩) n xs) (hc : n ≤ c) (hbig : c ≤ 9223372036854775807) :
 Calls Tryz.prog 155 #[.slice (some ⟨g,0,none⟩) n c,.string ⟨#[0]⟩] w fun e w' => e = .returned (.slice (some ⟨g,0,none⟩) (cut0 xs).length c) ∧ w' = w := by
 by_cases hn : 0 < n
 ·exact trim_pos h hn hc hbig
 ·have h0 : n = 0 := by omega
  subst h0
  have hx : xs = [] := List.eq_nil_of_length_eq_zero h.1
  subst hx
  exact Any.bytes_TrimRight_empty trimLay (some ⟨g,0,none⟩) 0 c ⟨#[0]⟩ w (.inl rfl)
end Go.Proofs.YtogdjbhjgbnicaaGreatDoor.FileY
namespace Go.Proofs.YtogdjbhjgbnicaaGreatDoor.FileKb
open Go.RowKit
open Byte PackM KeysM KeysL KeysC KeysB TreeM TreeR ViewM NodeM WalkM WalkF WalkKm DirsV FileM FileV Lst Chg TreeL ViewL WalkL WalkV Vat DirsK FileKa FileY
open Own hiding keeps
variable {Rep : RepT}
theorem put_calls (hW : Wk Rep) (hT : SetOk Rep) {w : World} {v : Value} {s : Vs} {S D : Nat → Prop} (ino which : Int) {g n c : Nat} {xs : List Int} (hr : Rep w v s S D) (hl : Lim s) (h0 : 0 ≤ ino) (h1 : ino ≤ 4294967295) (w0 : 0 ≤ which) (w1 : which ≤ 65535) (hx : Bs w (some ⟨g,0,none⟩) n xs) (hc : n ≤ c) (hbig : c ≤ 9223372036854775807) (hn : n ≤ 100000) :
 Calls Tryz.prog 130 #[v,.int .u32 ino,.int .i64 which,.slice (some ⟨g,0,none⟩) n c] w (Wrote Rep v s [putP ino which xs] 0 0 S D w) := by
 have HB := hQ_ (fun w => block_calls ino which w h0 h1 (by omega) (by omega))
 have HTR := hQ_ (fun (w1 : World) (h : Bs w1 (some ⟨g,0,none⟩) n xs) => trim_calls h hc hbig)
 have HCV := hQ_ (fun (w1 : World) (h : Bs w1 (some ⟨g,0,none⟩) n xs) => conv_front (cap := c) h (cut0 xs).length (by have := cut0_len xs; have := h.1; omega) (s := str (cut0 xs)) (by rw [cut0_take]))
 have HS := hQ_ hW.stays
 have A0 := hQ_ (At.start hr)
 have HX := hQ_ hx
 have hks := kd_size ino which
 have HP : Hid (putP ino which xs s.shown = ⟨kD ino which,str (cut0 xs),decide (cut0 xs = [])⟩) := hQ_ rfl
 by_cases he : cut0 xs = []
 ·have HCT := hQ_ (fun (w1 : World) (S1 D1 : Nat → Prop) (hr1 : Rep w1 v s S1 D1) => hW.cut (kD ino which) hr1 hl (by omega))
  have HQ : Hid (putP ino which xs s.shown = ⟨kD ino which,⟨#[]⟩,true⟩) := hQ_ (by rw [HP.out,he]; rfl)
  rw [he] at HTR HCV
  have e0 : str ([] : List Int) = ⟨#[]⟩ := rfl
  rw [e0] at HCV
  dsimp only [List.length_nil] at HTR HCV
  clear hr hl hW hx he HP hks e0
  go_enter Tryz.func130,Tryz.ntmps130
  go_wp2_with fail
  refine (HB.out _).mono ?_
  rintro e w2 ⟨rfl,hb2⟩
  have A2 := hQ_ (A0.out.below HS.out hb2)
  have X2 := hQ_ (HX.out.below hb2)
  clear hb2
  have ct := HCV.out _ X2.out
  go_wp2_with fail
  refine (HTR.out _ X2.out).mono ?_
  rintro e w3 ⟨rfl,rfl⟩
  go_wp2_with fail
  refine (HCT.out _ _ _ A2.out.rep).mono ?_
  rintro e w4 ⟨S4,D4,rfl,hr4,st4⟩
  have A4 := hQ_ (A2.out.step HS.out hr4 st4)
  clear st4 hr4
  go_wp2_with fail
  go_ret
  exact wrote_one HQ.out (Sm.refl s) (Nat.le_refl _) (Nat.le_refl _) A4.out.rep A4.out.st
 ·have HST := hQ_ (fun (w1 : World) (S1 D1 : Nat → Prop) (hr1 : Rep w1 v s S1 D1) => hT (kD ino which) (str (cut0 xs)) hr1 hl (by omega) (by rw [str_size]; have := cut0_len xs; have := hx.1; omega))
  have HQ : Hid (putP ino which xs s.shown = ⟨kD ino which,str (cut0 xs),false⟩) := hQ_ (by rw [HP.out,decide_eq_false he])
  have d1 : (str (cut0 xs)).toList.isEmpty = false := by
   rw [List.isEmpty_eq_false_iff]
   intro h
   have h2 := congrArg List.length h
   rw [ByteArray.toList_eq] at h2
   have hz : (str (cut0 xs)).data.toList.length = (str (cut0 xs)).size := by rw [Array.length_toList]; rfl
   rw [hz] at h2
   have h3 : (str (cut0 xs)).size = 0 := h2
   rw [str_size] at h3
   exact he (List.eq_nil_of_length_eq_zero h3)
  generalize str (cut0 xs) = z at *
  clear hr hl hW hx he HP hks
  go_enter Tryz.func130,Tryz.ntmps130
  go_wp2_with fail
  refine (HB.out _).mono ?_
  rintro e w2 ⟨rfl,hb2⟩
  have A2 := hQ_ (A0.out.below HS.out hb2)
  have X2 := hQ_ (HX.out.below hb2)
  clear hb2
  have ct := HCV.out _ X2.out
  go_wp2_with fail
  refine (HTR.out _ X2.out).mono ?_
  rintro e w3 ⟨rfl,rfl⟩
  go_wp2_with fail
  refine (HST.out _ _ _ A2.out.rep).mono ?_
  rintro e w4 ⟨S4,D4,rfl,hr4,st4⟩
  have A4 := hQ_ (A2.out.step HS.out hr4 st4)
  clear st4 hr4
  go_wp2_with fail
  go_ret
  exact wrote_one HQ.out (Sm.refl s) (Nat.le_refl _) (Nat.le_refl _) A4.out.rep A4.out.st
end Go.Proofs.YtogdjbhjgbnicaaGreatDoor.FileKb
namespace Go.Proofs.YtogdjbhjgbnicaaGreatDoor.FileKc
open Go.RowKit
open Byte PackM KeysM KeysL KeysC KeysB TreeM TreeR ViewM NodeM WalkM WalkF WalkKm DirsV FileM FileV Lst Chg TreeL ViewL WalkL WalkV Vat DirsK FileKa FileKb ConvS
open Own hiding keeps
variable {Rep : RepT}
theorem str_txt (t : ByteArray) : str (txt t) = t := by
 have h : (str (txt t)).data = t.data := by
  unfold str txt
  apply Array.toList_inj.1
  rw [List.map_map]
  show (List.map _ t.data.toList).toArray.toList = _
  rw [List.toList_toArray]
  conv => rhs; rw [← List.map_id t.data.toList]
  refine List.map_congr_left fun b _ => ?_
  show UInt8.ofNat ((b.toNat : Int).toNat) = b
  rw [Int.toNat_natCast]
  exact UInt8.ofNat_toNat
 cases t
 exact congrArg ByteArray.mk h
theorem conv_bs (w : World) (t : ByteArray) (hn : t.size ≤ 100000) : ∃ cap w',(convert 9 39 (.string t)).run Tryz.prog w = .ok (.slice (some ⟨w.heap.size,0,none⟩) t.size cap) w' ∧ Bs w' (some ⟨w.heap.size,0,none⟩) t.size (txt t) ∧ t.size ≤ cap ∧ cap ≤ 9223372036854775807 ∧ Below w.heap.size w w' := by
 obtain ⟨cap,w',h1,h2,h3⟩ := conv_fresh (P := Tryz.prog) w 9 39 5 (txt t) t.size (txt_len t) (txt_bd t) Tryz.underlying9 Tryz.underlying39 Tryz.underlying5
 rw [str_txt] at h1
 have h4 := run_bytes_of_string (P := Tryz.prog) w 9 39 5 t Tryz.underlying9 Tryz.underlying39 Tryz.underlying5
 rw [h1] at h4
 have hc : cap = grownCap w t.size 0 5 := by
  simp only [Result.ok.injEq,Value.slice.injEq] at h4
  exact h4.1.2.2
 refine ⟨cap,w',h1,h2.bs,h2.fit,?_,h3⟩
 rw [hc]
 have e : maxLen = 9223372036854775807 := by decide
 have := grownCap_le_maxLen w t.size 0 5 (by rw [e]; omega)
 rw [e] at this
 exact this
theorem shorten_calls (hW : Wk Rep) (hK : LookOk Rep) (hT : SetOk Rep) {w : World} {v : Value} {s : Vs} {S D : Nat → Prop} (ino size : Int) (hr : Rep w v s S D) (hl : Lim s) (h0 : 0 ≤ ino) (h1 : ino ≤ 4294967295) (z0 : 0 ≤ size) (z1 : size ≤ 4096) (hv : (valB s.shown ino (size / 64)).length ≤ 64) :
 Calls Tryz.prog 111 #[v,.int .u32 ino,.int .i64 size] w (Wrote Rep v s (shoPs s.shown ino size) 0 0 S D w) := by
 obtain ⟨q,hq⟩ : ∃ q : Nat,size / 64 = (q : Int) := ⟨(size / 64).toNat,by omega⟩
 obtain ⟨m,hm⟩ : ∃ m : Nat,size % 64 = (m : Int) := ⟨(size % 64).toNat,by omega⟩
 have hqt : size.tdiv 64 = (q : Int) := by rw [Int.tdiv_eq_ediv_of_nonneg z0,hq]
 have hmt : size.tmod 64 = (m : Int) := by rw [Int.tmod_eq_emod_of_nonneg z0,hm]
 have hwq : wrap64 (q : Int) = (q : Int) := by unfold wrap64; omega
 unfold shoPs
 rw [hq] at hv ⊢
 rw [hm]
 rw [Int.toNat_natCast]
 unfold valB at hv ⊢
 obtain ⟨t,b,e1,e2⟩ := got_val (getL (kD ino q) s.shown)
 rw [e2] at hv ⊢
 rw [txt_len] at hv ⊢
 have HLK := hQ_ (fun (w1 : World) (S1 D1 : Nat → Prop) (hr1 : Rep w1 v s S1 D1) => hK (kD ino q) hr1 hl (by have := kd_size ino q; omega))
 rw [e1] at HLK
 have HB := hQ_ (fun w => block_calls ino q w h0 h1 (by omega) (by omega))
 have HS := hQ_ hW.stays
 have A0 := hQ_ (At.start hr)
 by_cases hlt : t.size ≤ m
 ·rw [if_pos hlt]
  have d1 : ((t.size : Int) ≤ (m : Int)) = True := by simpa using hlt
  have d2 : (t.size ≤ m) = True := by simpa using hlt
  clear hr hl hW hK hT e1 e2 hv h0 h1 z0 z1 hq hm
  go_enter Tryz.func111,Tryz.ntmps111
  go_wp2_with fail
  refine (HB.out _).mono ?_
  rintro e w2 ⟨rfl,hb2⟩
  have A2 := hQ_ (A0.out.below HS.out hb2)
  clear hb2
  go_wp2_with fail
  refine (HLK.out _ _ _ A2.out.rep).mono ?_
  rintro e w3 ⟨S3,D3,rfl,hr3,st3⟩
  have A3 := hQ_ (A2.out.step HS.out hr3 st3)
  clear hr3 st3
  go_wp2_with fail
  go_ret
  exact ⟨s,S3,D3,rfl,A3.out.rep,A3.out.st,Aft.nil (Sm.refl s) (Nat.le_refl _) (Nat.le_refl _)⟩
 ·rw [if_neg hlt]
  have d1 : ((t.size : Int) ≤ (m : Int)) = False := by simpa using hlt
  have d2 : (t.size ≤ m) = False := by simpa using hlt
  have f1 : ¬ ((t.size : Int) < (m : Int)) := by omega
  have hsz : (t.extract 0 m).size = m := by rw [ByteArray.size_extract]; omega
  have HCV := hQ_ (fun w => conv_bs w (t.extract 0 m) (by omega))
  have HPT := hQ_ (fun (w1 : World) (S1 D1 : Nat → Prop) (g c : Nat) (hr1 : Rep w1 v s S1 D1) (hx : Bs w1 (some ⟨g,0,none⟩) m ((txt t).take m)) (hc : m ≤ c) (hbig : c ≤ 9223372036854775807) => put_calls hW hT ino q hr1 hl h0 h1 (by omega) (by omega) hx hc hbig (by omega))
  rw [txt_take,hsz] at HCV
  clear hr hl hW hK hT e1 e2 hv h0 h1 z0 z1 hq hm
  go_enter Tryz.func111,Tryz.ntmps111
  go_wp2_with fail
  refine (HB.out _).mono ?_
  rintro e w2 ⟨rfl,hb2⟩
  have A2 := hQ_ (A0.out.below HS.out hb2)
  clear hb2
  go_wp2_with fail
  refine (HLK.out _ _ _ A2.out.rep).mono ?_
  rintro e w3 ⟨S3,D3,rfl,hr3,st3⟩
  have A3 := hQ_ (A2.out.step HS.out hr3 st3)
  clear hr3 st3
  obtain ⟨cap,w4,hrun,hx4,hc4,hb4,hbl⟩ := HCV.out w3
  have A4 := hQ_ (A3.out.below HS.out hbl)
  have X4 := hQ_ hx4
  clear hx4 hbl
  go_wp2_with fail
  refine (HPT.out _ _ _ _ _ A4.out.rep X4.out hc4 hb4).mono ?_
  rintro e w5 ⟨s5,S5,D5,rfl,hr5,st5,af5⟩
  have A5 := hQ_ (A4.out.step HS.out hr5 st5)
  clear hr5 st5
  go_wp2_with fail
  go_ret
  exact ⟨s5,S5,D5,rfl,A5.out.rep,A5.out.st,af5⟩
end Go.Proofs.YtogdjbhjgbnicaaGreatDoor.FileKc
namespace Go.Proofs.YtogdjbhjgbnicaaGreatDoor.FileKd
open Go.RowKit
open Byte PackM KeysM KeysL TreeR ViewM NodeM NodeL NodeK WalkM WalkF WalkKm DirsV FileM FileV Lst Chg TreeL ViewL WalkL WalkV Vat DirsK Cpy FileKa FileKb
open TreeM hiding cutL
open Own hiding keeps
variable {Rep : RepT}
def u8E : Enc Int := ⟨fun x => [.int .u8 x],1,fun _ => rfl,fun x u hu => by
 rw [List.mem_singleton.1 hu]; rfl,by decide⟩
theorem info_u8 : (Tryz.prog.info? 5).map (fun i => (i.zero,i.size,i.bytes)) = some (some (.int .u8 0),u8E.size,1) := by kernel_rfl
structure PcOk (p : Int × Int × Int) : Prop where
 b0 : 0 ≤ p.1
 b1 : p.1 ≤ 63
 f0 : 0 ≤ p.2.1
 m0 : 1 ≤ p.2.2
 m1 : p.2.1 + p.2.2 ≤ 64
theorem cuts_ok : ∀ (f : Nat) {a n : Int},0 ≤ a → a + n ≤ 4096 → ∀ p ∈ cuts f a n,PcOk p
 | 0,a,n,_,_,p,hp => by cases hp
 | f + 1,a,n,ha,hn,p,hp => by
   unfold cuts at hp
   split at hp
   ·cases hp
   ·rcases List.mem_cons.1 hp with rfl | hp
    ·exact ⟨by show 0 ≤ a / 64; omega,by show a / 64 ≤ 63; omega,by show 0 ≤ a % 64; omega,by show 1 ≤ min n (64 - a % 64); omega,by show a % 64 + min n (64 - a % 64) ≤ 64; omega⟩
    ·exact cuts_ok f (by omega) (by omega) p hp
theorem cutL_ok {a n : Int} : ∀ p ∈ cutL a n,PcOk p := fun p hp => by
 unfold cutL at hp
 split at hp
 ·cases hp
 ·exact cuts_ok _ (by omega) (by omega) p hp
theorem cutL_len (a n : Int) : (cutL a n).length ≤ 4096 := by
 unfold cutL
 split
 ·exact Nat.zero_le _
 ·exact Nat.le_trans (cuts_len _ _ _) (by omega)
theorem rdL_next (L : List Pr) (ino : Int) {P : List (Int × Int × Int)} {k : Nat} {p : Int × Int × Int} (h : P[k]? = some p) : rdL L ino (P.take k) ++ pcB L ino p = rdL L ino (P.take (k + 1)) := by
 unfold rdL
 rw [List.take_add_one,h,Option.toList_some,List.flatMap_append,List.flatMap_singleton]
theorem tr_cells {w : World} {b o : Nat} {x : Int × Int × Int} (h : w.rangeAt b o (trE.cells x)) : w.cell? ⟨b,o,none⟩ = some (.int .i64 x.1) ∧ w.cell? ⟨b,o + 1,none⟩ = some (.int .i64 x.2.1) ∧ w.cell? ⟨b,o + 2,none⟩ = some (.int .i64 x.2.2) := by
 have h0 := h 0 _ rfl
 have h1 := h 1 _ rfl
 have h2 := h 2 _ rfl
 exact ⟨h0,h1,h2⟩
theorem sl_blk {w : World} {g : Nat} {l : List Int} {T : TypeId} (h : Blk w g (u8A l) T) (f q : Nat) (hl : f + q ≤ l.length) : Sl u8E w (some ⟨g,f,none⟩) q ((l.drop f).take q) := by
 have h0 : Sl u8E w (some ⟨g,0,none⟩) l.length l := ⟨rfl,fun j x hj => ⟨g,0,rfl,h.lt,fun i u hu => by
  cases i with
  | zero =>
    have e : u = .int .u8 x := by
     have : some (Value.int .u8 x) = some u := hu
     injection this with this
     exact this.symm
    rw [e]
    show w.cell? ⟨g,0 + j * 1 + 0,none⟩ = _
    rw [Nat.zero_add,Nat.mul_one,Nat.add_zero,h.cell j]
    unfold u8A
    rw [List.getElem?_toArray,List.getElem?_map,hj]
    rfl
  | succ i =>
    have : (none : Option Value) = some u := hu
    cases this⟩⟩
 have h1 := (h0.drop f).take q (by omega)
 have e : 0 + f * u8E.size = f := by show 0 + f * 1 = f; omega
 rw [e] at h1
 exact h1
theorem slice64 (w : World) (g f q : Nat) (h : f + q ≤ 64) (hq : 1 ≤ q) : (Instr.sliceAt 184 (.pointer (some ⟨g,0,none⟩)) (some (.int .i64 (f : Int))) (some (.int .i64 ((f : Int) + (q : Int)))) none).run Tryz.prog w = .ok (.slice (some ⟨g,f,none⟩) q (64 - f)) w := by
 have ht : Tryz.prog.underlying 184 = some (.array (Tryz.prog.arrayLen 184) (Tryz.prog.elem 184)) := by kernel_rfl
 have e64 : Tryz.prog.arrayLen 184 = 64 := by kernel_rfl
 have ee : Tryz.prog.elem 184 = 5 := by kernel_rfl
 rw [run_sliceAt_array_lh w 184 ⟨g,0,none⟩ ht .i64 .i64 (f : Int) ((f : Int) + (q : Int)) (by omega) (by omega) (by rw [e64]; omega),ee,Tryz.sizeOf5,e64]
 have h1 : ((f : Int) + (q : Int)).toNat = f + q := by omega
 rw [h1,Int.toNat_natCast]
 unfold slicedAt
 show Result.ok (Value.slice (some (if 64 = f then (⟨g,0,none⟩ : Addr) else (⟨g,0,none⟩ : Addr).add (f * 1))) (f + q - f) (64 - f)) w = _
 rw [if_neg (by omega),Nat.add_sub_cancel_left,Nat.mul_one]
 simp [Addr.add]
 exact fun h => h.symm
theorem wpList_slice {P : Program} {w : World} {ops : Array Oper} {rest : List Oper} {o : Oper} {a : Act} {Q : Exit → Act → World → Prop} (hgd : o.guard = none) (t : TypeId) (x : Operand) (lo hi mx : Option Operand) (ho : o.op = .slice t x lo hi mx) (r : Value) (hr : (Instr.sliceAt t (a.eval x) (lo.map a.eval) (hi.map a.eval) (mx.map a.eval)).run P w = .ok r w) (h : wpList P ops Q rest (a.put o.dst r) w) : wpList P ops Q (o :: rest) a w := by
 refine wpList_plain hgd fun K hK => ?_
 unfold Oper.wp execOp
 simp only [ho,Sem.run_bind,hr,Result.andThen_ok,Sem.run_pure]
 exact hK _ _ h
theorem so_chg {α : Type} {e : Enc α} {T : TypeId} {S : Nat → Prop} {w w' : World} {base n : Nat} {u : Value} {L : List α} (h : So e T w base u n L) (k : Chg S w w') (hA : ∀ b,u.ownBlock = some b → ¬ S b) : So e T w' base u n L := by
 obtain ⟨h1,h2,h4⟩ := h
 refine ⟨h1,h2,?_⟩
 rcases h4 with h4 | ⟨g,cap,cur,e1,e2,e3,rest⟩
 ·exact .inl h4
 ·have hlt : g < w.heap.size := by
   rcases Nat.lt_or_ge g w.heap.size with h | h
   ·exact h
   ·rw [Array.getElem?_eq_none h] at e3; cases e3
  exact .inr ⟨g,cap,cur,e1,e2,(k.block g hlt (hA g (by rw [e1]; rfl))).trans e3,rest⟩
theorem at_grown {α : Type} {e : Enc α} {T : TypeId} {M M' S0 D0 S D : Nat → Prop} {w0 w w' : World} {v u u' : Value} {s : Vs} {base n : Nat} {L : List α} (hS : Stays Rep) (p : At Rep w0 S0 D0 M w v s S D) (h : So e T w base u n L) (hr : ∀ r,u.ownBlock = some r → M r) (hne : 76 ≠ T ∧ 125 ≠ T) (hg : w.grownBy w' u.ownBlock) (ho : u'.ownBlock = u.ownBlock ∨ u'.ownBlock = some w.heap.size) {n' : Nat} {L' : List α} (h' : So e T w' base u' n' L') (hM : ∀ b,M' b → M b ∨ u'.ownBlock = some b) : At Rep w0 S0 D0 M' w' v s S D := by
 have q := p.grown hS h hr hne hg
 refine ⟨q.rep,q.st,fun b hb => ?_⟩
 rcases hM b hb with h1 | h1
 ·exact q.mine b h1
 ·rcases ho with h2 | h2
  ·exact q.mine b (hr b (by rw [← h2]; exact h1))
  ·rw [h2] at h1
   injection h1 with h1
   subst h1
   have h3 := p.st.chg.size
   exact ⟨h3,(h'.lt h2).2,fun hd => by have := hS.lt p.rep _ hd; omega⟩
theorem read_calls (hW : Wk Rep) (hK : LookOk Rep) {w : World} {v : Value} {s : Vs} {S D : Nat → Prop} (ino a n : Int) (hr : Rep w v s S D) (hl : Lim s) (h0 : 0 ≤ ino) (h1 : ino ≤ 4294967295) (a0 : 0 ≤ a) (a1 : a ≤ 9223372036854775807) (n0 : -9223372036854775808 ≤ n) (n1 : n ≤ 9223372036854775807) (hv : ∀ q,0 ≤ q → q ≤ 63 → (valL ((getL (kD ino q) s.shown).map (·.value))).length ≤ 64) :
 Calls Tryz.prog 106 #[v,.int .u32 ino,.int .i64 a,.int .i64 n] w (fun e w' => ∃ u m S' D',e = .returned u ∧ So u8E 5 w' w.heap.size u m (rdL s.shown ino (cutL a n)) ∧ Rep w' v s S' D' ∧ Stp S D S' D' w w' ∧ ∀ b,u.ownBlock = some b → ¬ D' b) := by
 have HG := hQ_ (fun (q : Int) (w1 : World) (S1 D1 : Nat → Prop) (hr1 : Rep w1 v s S1 D1) (b0 : 0 ≤ q) (b1 : q ≤ 63) => get_calls hW hK ino q hr1 hl h0 h1 b0 (by omega) (hv q b0 b1))
 have HC := hQ_ (cut_ok a n w (by omega) a1 n0 n1)
 unfold CutE at HC
 have HS := hQ_ hW.stays
 have A0 := hQ_ (At.start hr)
 have HPO : Hid (∀ p ∈ cutL a n,PcOk p) := hQ_ cutL_ok
 have HPL := hQ_ (cutL_len a n)
 generalize cutL a n = P at *
 clear hr hl hW hK hv h0 h1 a0 a1 n0 n1
 go_enter Tryz.func106,Tryz.ntmps106
 go_wp2_with fail
 refine HC.out.mono ?_
 rintro e w1 ⟨PA,pn,pc,rfl,hso,hb1⟩
 have HP := hQ_ hso
 clear hso
 have HPA : Hid (∀ b o,PA = some ⟨b,o,none⟩ → w.heap.size ≤ b ∧ b < w1.heap.size) := hQ_ (fun b o e => HP.out.lt (by rw [e]; rfl))
 have A2 := hQ_ (A0.out.owns HS.out hb1 (Q := fun b => ∃ o,PA = some ⟨b,o,none⟩) (fun b ⟨o,e⟩ => HPA.out b o e))
 clear hb1
 go_wp2_with fail
 go_loopw [9,20] (fun u i wr => ∃ (k m : Nat) (S' D' : Nat → Prop),i = .int .i64 k ∧ k ≤ pn ∧ Hid (So u8E 5 wr w.heap.size u m (rdL s.shown ino (P.take k))) ∧ Hid (At Rep w S D (fun b => u.ownBlock = some b ∨ ∃ o,PA = some ⟨b,o,none⟩) wr v s S' D') ∧ Hid (So trE 183 wr w.heap.size (.slice PA pn pc) pn P) ∧ Hid (m ≤ 64 * k)) (fun _ i _ => pn - (intOf i).toNat)
 case atStart => exact ⟨0,0,S,D,rfl,Nat.zero_le _,hQ_ (So.nil_ _ _ _ _),hQ_ (A2.out.less (fun b h => by rcases h with h | h; cases h; exact .inr h)),HP,hQ_ (Nat.zero_le _)⟩
 case round =>
  obtain ⟨k,m,S',D',rfl,hk,HO,HA,HL,HM⟩ := hrel
  by_cases hlt : k < pn
  ·obtain ⟨p,g,o,hp,rfl,hg,hcl⟩ := HL.out.sl.get k hlt
   have hok := HPO.out p (List.mem_of_getElem? hp)
   have HNX := hQ_ (rdL_next s.shown ino hp)
   obtain ⟨p1,p2,p3⟩ := p
   obtain ⟨o1,o2,o3,o4,o5⟩ := hok
   dsimp only at o1 o2 o3 o4 o5
   obtain ⟨f,rfl⟩ : ∃ f : Nat,p2 = (f : Int) := ⟨p2.toNat,by omega⟩
   obtain ⟨q,rfl⟩ : ∃ q : Nat,p3 = (q : Int) := ⟨p3.toNat,by omega⟩
   obtain ⟨c1,c2,c3⟩ := tr_cells hcl
   dsimp only at c1 c2 c3
   go_wp2_with ((with_reducible refine pick (some 23) ?_); refine wpList_load_mid rfl 183 _ rfl g (o + k * 3) rfl [.int .i64 p1,.int .i64 (f : Int),.int .i64 (q : Int)] _ hcl Tryz.underlying183 rfl info3 ?_)
   have Z := Blk.new_ wr #[.int .i64 p1,.int .i64 (f : Int),.int .i64 (q : Int)] 183
   have z1 : _ = some (Value.int .i64 p1) := Z.cell 0
   have z2 : _ = some (Value.int .i64 (f : Int)) := Z.cell 1
   have z3 : _ = some (Value.int .i64 (q : Int)) := Z.cell 2
   have hb2 : Below wr.heap.size wr (wr.alloc (.cells #[.int .i64 p1,.int .i64 (f : Int),.int .i64 (q : Int)] 183)).drew := (bW_).drew
   have A3 := hQ_ (HA.out.below HS.out hb2)
   have O3 := hQ_ (HO.out.below hb2)
   have L3 := hQ_ (HL.out.below hb2)
   have G3 := hQ_ (HG.out p1 _ _ _ A3.out.rep o1 o2)
   clear hcl c1 c2 c3 hb2
   go_region
   clear z1 z2 z3 Z
   go_wp2_with fail
   refine G3.out.mono ?_
   rintro e w4 ⟨S4,D4,rfl,hr4,st4⟩
   have A4 := hQ_ (A3.out.step HS.out hr4 st4)
   have O4 := hQ_ (so_chg O3.out st4.chg (fun b hb => A3.out.apart HS.out (.inl hb)))
   have L4 := hQ_ (so_chg L3.out st4.chg (fun b hb => by cases hb; exact A3.out.apart HS.out (.inr ⟨o,rfl⟩)))
   clear hr4 st4
   unfold BlkV
   have hgl := getB_len s.shown ino p1
   have HPC : Hid (pcB s.shown ino (p1,(f : Int),(q : Int)) = ((getB s.shown ino p1).drop f).take q) := hQ_ (by unfold pcB; rw [Int.toNat_natCast,Int.toNat_natCast])
   generalize getB s.shown ino p1 = l at *
   have hbz := bN_ w4 (.cells Z64 184)
   have R5 : Hid (Blk (w4.alloc (.cells Z64 184)) w4.heap.size (u8A (List.replicate 64 0)) 184) := hQ_ (Blk.new_ w4 Z64 _)
   go_wp2_with ((with_reducible refine pick none ?_); refine store_blk rfl 184 _ _ rfl w4.heap.size (u8A l) rfl rfl 184 _ R5.out (by rw [u8A_size,hgl]; exact info64) (by rw [u8A_size,u8A_size,hgl,List.length_replicate]) (u8A_all _) ?_; intro w5 hk5 hg5)
   have HB5 : Below w4.heap.size w4 w5 := hbz.grown hg5 hbz.size (fun k hk => by injection hk with hk; omega)
   have A5 := hQ_ (A4.out.below HS.out HB5)
   have O5 := hQ_ (O4.out.below HB5)
   have L5 := hQ_ (L4.out.below HB5)
   have K5 := hQ_ (sl_blk hk5 f q (by omega))
   rw [← HPC.out] at K5
   have hz5 := A5.out.size
   have hm := HM.out
   have hln := HP.out.1
   have hpl := HPL.out
   go_wp2_with fail
   rw [slice64 w5 w4.heap.size f q (by omega) (by omega)]
   rw [Result.andThen_ok]
   unfold Oper.upon
   dsimp only
   refine (‹∀ (a : Act) (w : World),wpList Tryz.prog _ _ _ a w → _›) _ _ ?_
   refine wpList_append_lst u8E 5 rfl _ _ _ rfl Tryz.underlying39 info_u8 rfl w.heap.size u9 m (rdL s.shown ino (P.take k)) rfl O5.out w4.heap.size f q (64 - f) (pcB s.shown ino (p1,(f : Int),(q : Int))) rfl K5.out (m + q) rfl (rdL s.shown ino (P.take (k + 1))) HNX.out (by unfold maxLen; omega) (by omega) hz5 ?_
   intro v6 w6 ho6 hg6 hat6 _
   go_wp2_with fail
   have A6 := hQ_ (at_grown (M' := fun b => v6.ownBlock = some b ∨ ∃ o',(some ⟨g,o,none⟩ : Option Addr) = some ⟨b,o',none⟩) HS.out A5.out O5.out (fun r e => .inl e) (by decide) hg6 hat6 ho6 (fun b hb => by
    rcases hb with hb | hb
    ·exact .inr hb
    ·exact .inl (.inr hb)))
   have L6 := hQ_ (L5.out.grown hg6 (L5.out.ne O5.out (by decide)))
   go_roundw
   case rel => exact ⟨k + 1,m + q,S4,D4,by go_num,by omega,hQ_ ho6,A6,L6,hQ_ (by omega)⟩
   case measure => simp [intOf]; omega
  ·obtain rfl : k = pn := by omega
   have hPk : P.take k = P := List.take_of_length_le (by rw [HP.out.1]; exact Nat.le_refl _)
   have hO := HO.out
   rw [hPk] at hO
   have A9 := HA
   go_wp2_with fail
   go_ret
   exact ⟨_,_,S',D',rfl,hO,A9.out.rep,A9.out.st,fun b hb => (A9.out.mine b (.inl hb)).2.2⟩
end Go.Proofs.YtogdjbhjgbnicaaGreatDoor.FileKd
namespace Go.Proofs.YtogdjbhjgbnicaaGreatDoor.DirsW
open Byte PackM KeysM TreeM ViewM ViewKm NodeM NamesM WalkM DirsM
def upd {α : Type} (f : Int → α) (i : Int) (x : α) : Int → α := fun j => if j = i then x else f j
theorem upd_same {α : Type} (f : Int → α) (i : Int) (x : α) : upd f i x i = x := if_pos rfl
theorem upd_ne {α : Type} (f : Int → α) {i j : Int} (x : α) (h : j ≠ i) : upd f i x j = f j := if_neg h
theorem node_with {F : Fs} (h : Nod F) {n m : Nd} (hm : m ∈ F) (hi : m.ino = n.ino) (j : Int) : nodeM (withM F n) j = if j = n.ino then some n else nodeM F j := by
 have hn := nod_with h hm hi
 by_cases hj : j = n.ino
 ·rw [if_pos hj]
  exact (node_iff hn).2 ⟨(mem_with h hm hi).2 (.inl rfl),hj.symm⟩
 ·rw [if_neg hj]
  cases hx : nodeM F j with
  | none =>
    refine node_no fun x hx2 e => ?_
    rcases (mem_with h hm hi).1 hx2 with rfl | ⟨h1,h2⟩
    ·exact hj e.symm
    ·have := node_of h h1
     rw [e,hx] at this
     cases this
  | some x =>
    have h1 := node_mem hx
    exact (node_iff hn).2 ⟨(mem_with h hm hi).2 (.inr ⟨h1.1,by rw [h1.2]; exact hj⟩),h1.2⟩
theorem node_none {F : Fs} {i : Int} (h : nodeM F i = none) : ∀ x ∈ F,x.ino ≠ i := fun x hx e => by
 unfold nodeM at h
 have := List.find?_eq_none.1 h x hx
 simp [e] at this
theorem node_new {F : Fs} (h : Nod F) {n : Nd} (hn : nodeM F n.ino = none) (j : Int) : nodeM (withM F n) j = if j = n.ino then some n else nodeM F j := by
 have hnn := node_none hn
 have hn2 := nod_new h hnn
 by_cases hj : j = n.ino
 ·rw [if_pos hj]
  exact (node_iff hn2).2 ⟨(mem_new hnn).2 (.inl rfl),hj.symm⟩
 ·rw [if_neg hj]
  cases hx : nodeM F j with
  | none =>
    refine node_no fun x hx2 e => ?_
    rcases (mem_new hnn).1 hx2 with rfl | h1
    ·exact hj e.symm
    ·have := node_of h h1
     rw [e,hx] at this
     cases this
  | some x =>
    have h1 := node_mem hx
    exact (node_iff hn2).2 ⟨(mem_new hnn).2 (.inr h1.1),h1.2⟩
theorem node_wo {F : Fs} (h : Nod F) (i j : Int) : nodeM (withoutM F i) j = if j = i then none else nodeM F j := by
 by_cases hj : j = i
 ·rw [if_pos hj]
  exact node_no fun x hx e => (mem_wo.1 hx).2 (by rw [e,hj])
 ·rw [if_neg hj]
  cases hx : nodeM F j with
  | none => exact node_no fun x hx2 => node_none hx x (mem_wo.1 hx2).1
  | some x =>
    have h1 := node_mem hx
    exact (node_iff (nod_wo h i)).2 ⟨mem_wo.2 ⟨h1.1,by rw [h1.2]; exact hj⟩,h1.2⟩
theorem linked_eq {F : Fs} {i by_ : Int} {n : Nd} (hn : nodeM F i = some n) : linkedM F i by_ = withM F { n with links := n.links + by_ } := by unfold linkedM; rw [hn]
theorem named_eq {F : Fs} {d i : Int} {nm : ByteArray} {n : Nd} (hn : nodeM F d = some n) : namedM F d nm i = withM F { n with ents := insE nm i (decide (i = 0)) n.ents } := by unfold namedM; rw [hn]
theorem nod_linked {F : Fs} (h : Nod F) {i by_ : Int} {n : Nd} (hn : nodeM F i = some n) : Nod (linkedM F i by_) := by
 rw [linked_eq hn]; exact nod_with h (node_mem hn).1 rfl
theorem nod_named {F : Fs} (h : Nod F) {d i : Int} {nm : ByteArray} {n : Nd} (hn : nodeM F d = some n) : Nod (namedM F d nm i) := by
 rw [named_eq hn]; exact nod_with h (node_mem hn).1 rfl
theorem node_linked {F : Fs} (h : Nod F) {i by_ : Int} {n : Nd} (hn : nodeM F i = some n) (j : Int) : nodeM (linkedM F i by_) j = if j = i then some { n with links := n.links + by_ } else nodeM F j := by
 have h1 := node_mem hn
 rw [linked_eq hn,node_with (n := { n with links := n.links + by_ }) h h1.1 rfl]
 show (if j = n.ino then _ else _) = _
 rw [h1.2]
theorem node_named {F : Fs} (h : Nod F) {d i : Int} {nm : ByteArray} {n : Nd} (hn : nodeM F d = some n) (j : Int) : nodeM (namedM F d nm i) j = if j = d then some { n with ents := insE nm i (decide (i = 0)) n.ents } else nodeM F j := by
 have h1 := node_mem hn
 rw [named_eq hn,node_with (n := { n with ents := insE nm i (decide (i = 0)) n.ents }) h h1.1 rfl]
 show (if j = n.ino then _ else _) = _
 rw [h1.2]
theorem cnt_linked {F : Fs} (h : Nod F) {i by_ : Int} {n : Nd} (hn : nodeM F i = some n) (j : Int) : cnt (linkedM F i by_) j = cnt F j := by
 have h1 := node_mem hn
 rw [linked_eq hn]
 have := S_with (n := { n with links := n.links + by_ }) h h1.1 rfl (toE j)
 have e : toE j { n with links := n.links + by_ } = toE j n := rfl
 unfold cnt
 omega
theorem cnt_new {F : Fs} {n : Nd} (hn : nodeM F n.ino = none) (he : n.ents = []) (j : Int) : cnt (withM F n) j = cnt F j := by
 have := S_new (node_none hn) (toE j)
 have e : toE j n = 0 := by unfold toE; rw [he]; rfl
 unfold cnt
 omega
theorem cnt_wo {F : Fs} (h : Nod F) {i : Int} {n : Nd} (hn : nodeM F i = some n) (he : n.ents = []) (j : Int) : cnt (withoutM F i) j = cnt F j := by
 have h1 := node_mem hn
 have := S_wo h h1.1 (toE j)
 have e : toE j n = 0 := by unfold toE; rw [he]; rfl
 rw [h1.2] at this
 unfold cnt
 omega
def oldE (n : Nd) (nm : ByteArray) (j : Int) : Nat := (n.ents.filter fun e => decide (e.name = nm)).countP fun e => decide (e.ino = j)
theorem old_some {n : Nd} (ho : Ord n.ents) {e : En} (he : e ∈ n.ents) (j : Int) : oldE n e.name j = if e.ino = j then 1 else 0 := by
 unfold oldE
 rcases name_filter ho e.name with h1 | ⟨x,h1,h2,h3⟩
 ·have := List.filter_eq_nil_iff.1 h1 e he
  simp at this
 ·rw [h3,ord_eq ho h1 he h2]
  by_cases h : e.ino = j <;> simp [h]
theorem old_none {n : Nd} {nm : ByteArray} (h : ∀ e ∈ n.ents,e.name ≠ nm) (j : Int) : oldE n nm j = 0 := by
 unfold oldE
 rw [List.filter_eq_nil_iff.2 (fun e he => by simpa using h e he)]
 rfl
theorem cnt_named {F : Fs} (h : Nod F) {d i : Int} {nm : ByteArray} {n : Nd} (hn : nodeM F d = some n) (ho : Ord n.ents) (j : Int) : cnt (namedM F d nm i) j + oldE n nm j = cnt F j + (if i ≠ 0 ∧ i = j then 1 else 0) := by
 have h1 := node_mem hn
 rw [named_eq hn]
 have h2 := S_with (n := { n with ents := insE nm i (decide (i = 0)) n.ents }) h h1.1 rfl (toE j)
 have h3 := count_ins ho nm i (fun e => decide (e.ino = j))
 have e1 : toE j { n with ents := insE nm i (decide (i = 0)) n.ents } = (insE nm i (decide (i = 0)) n.ents).countP (fun e => decide (e.ino = j)) := rfl
 have e2 : toE j n = n.ents.countP (fun e => decide (e.ino = j)) := rfl
 simp only [decide_eq_true_eq] at h3
 unfold cnt oldE
 omega
def dirB (F : Fs) (j : Int) : Bool := match nodeM F j with
 | some n => decide (n.kind = 2)
 | none => false
def subs (F : Fs) (l : List En) : Nat := l.countP fun e => dirB F e.ino
def wantC (m : Nd) : Int := if m.ino = 1 then 0 else if m.kind = 2 then 1 else m.links
structure Wd (F : Fs) (π δ ε : Int → Int) (x : Int) : Prop where
 nod : Nod F
 root : ∃ n,nodeM F 1 = some n ∧ n.kind = 2
 ino : ∀ n ∈ F,1 ≤ n.ino ∧ n.ino ≤ 4294967295
 kind : ∀ n ∈ F,n.kind = 2 ∨ (n.kind = 1 ∧ n.ents = [])
 data : ∀ n ∈ F,n.data.size ≤ 4096 ∧ (n.kind = 2 → n.data = NE)
 ord : ∀ n ∈ F,Ord n.ents
 name : ∀ n ∈ F,∀ e ∈ n.ents,nameOk e.name = true
 some_ : ∀ n ∈ F,∀ e ∈ n.ents,1 ≤ e.ino ∧ e.ino ≤ 4294967295
 goes : ∀ n ∈ F,∀ e ∈ n.ents,e.ino ≠ x → ∃ m,nodeM F e.ino = some m
 par : ∀ n ∈ F,∀ e ∈ n.ents,dirB F e.ino = true → π e.ino = n.ino
 par1 : π 1 = 1
 cnt : ∀ m ∈ F,(cnt F m.ino : Int) = wantC m + δ m.ino
 pos : ∀ m ∈ F,m.kind = 1 → 1 ≤ m.links ∧ m.links ≤ 1000
 dl : ∀ m ∈ F,m.kind = 2 → m.links = 2 + subs F m.ents + ε m.ino
def zro : Int → Int := fun _ => 0
abbrev Wf (F : Fs) (π : Int → Int) : Prop := Wd F π zro zro 0
theorem Wd.eq {F : Fs} {π δ ε δ' ε' : Int → Int} {x : Int} (h : Wd F π δ ε x) (h1 : ∀ j,δ j = δ' j) (h2 : ∀ j,ε j = ε' j) : Wd F π δ' ε' x := by
 rw [← funext h1,← funext h2]
 exact h
section
variable {F : Fs} {π δ ε : Int → Int} {x : Int}
theorem dir_some {F : Fs} {j : Int} {n : Nd} (h : nodeM F j = some n) : dirB F j = decide (n.kind = 2) := by unfold dirB; rw [h]
theorem dir_none {F : Fs} {j : Int} (h : nodeM F j = none) : dirB F j = false := by unfold dirB; rw [h]
theorem dir_eq {F F' : Fs} {j : Int} (h : nodeM F' j = nodeM F j) : dirB F' j = dirB F j := by unfold dirB; rw [h]
theorem Wd.ex_none (h : Wd F π δ ε x) {i : Int} (hi : nodeM F i = none) (hx : i ≠ x) : ∀ n ∈ F,∀ e ∈ n.ents,e.ino ≠ i := fun n hn e he ei => by
 obtain ⟨m,hm⟩ := h.goes n hn e he (by rw [ei]; exact hx)
 rw [ei,hi] at hm
 cases hm
theorem subs_eq {F F' : Fs} {l : List En} (h : ∀ e ∈ l,dirB F' e.ino = dirB F e.ino) : subs F' l = subs F l := by
 unfold subs
 exact List.countP_congr (fun e he => by rw [h e he])
theorem Wd.new_ (h : Wd F π δ ε x) {i k : Int} (hi : nodeM F i = none) (hx : i ≠ x) (h1 : 2 ≤ i) (h2 : i ≤ 4294967295) : Wd (withM F (newNd k i)) π (upd δ i (-1)) (upd ε i 0) x := by
 have hino : (newNd k i).ino = i := by unfold newNd; split <;> rfl
 have hents : (newNd k i).ents = [] := by unfold newNd; split <;> rfl
 have hi' : nodeM F (newNd k i).ino = none := by rw [hino]; exact hi
 have hne := h.ex_none hi hx
 have hN : ∀ j,nodeM (withM F (newNd k i)) j = if j = i then some (newNd k i) else nodeM F j := fun j => by rw [node_new h.nod hi',hino]
 have hmem : ∀ y,y ∈ withM F (newNd k i) ↔ y = newNd k i ∨ y ∈ F := fun y => mem_new (node_none hi')
 have hold : ∀ y ∈ F,y.ino ≠ i := node_none hi
 have hd : ∀ n ∈ F,∀ e ∈ n.ents,dirB (withM F (newNd k i)) e.ino = dirB F e.ino := fun n hn e he => dir_eq (by rw [hN,if_neg (hne n hn e he)])
 have hk : (newNd k i).kind = 1 ∧ (newNd k i).links = 1 ∨ (newNd k i).kind = 2 ∧ (newNd k i).links = 2 := by
  unfold newNd
  split
  ·exact .inl ⟨rfl,rfl⟩
  ·exact .inr ⟨rfl,rfl⟩
 have hdata : (newNd k i).data = NE := by unfold newNd; split <;> rfl
 refine ⟨nod_new h.nod (node_none hi'),?_,?_,?_,?_,?_,?_,?_,?_,?_,h.par1,?_,?_,?_⟩
 ·obtain ⟨n,h3,h4⟩ := h.root
  exact ⟨n,by rw [hN,if_neg (by omega)]; exact h3,h4⟩
 ·intro n hn
  rcases (hmem n).1 hn with rfl | hn
  ·rw [hino]; omega
  ·exact h.ino n hn
 ·intro n hn
  rcases (hmem n).1 hn with rfl | hn
  ·rcases hk with h3 | h3
   ·exact .inr ⟨h3.1,hents⟩
   ·exact .inl h3.1
  ·exact h.kind n hn
 ·intro n hn
  rcases (hmem n).1 hn with rfl | hn
  ·exact ⟨by rw [hdata]; decide,fun _ => hdata⟩
  ·exact h.data n hn
 ·intro n hn
  rcases (hmem n).1 hn with rfl | hn
  ·rw [hents]; exact List.Pairwise.nil
  ·exact h.ord n hn
 ·intro n hn e he
  rcases (hmem n).1 hn with rfl | hn
  ·rw [hents] at he; cases he
  ·exact h.name n hn e he
 ·intro n hn e he
  rcases (hmem n).1 hn with rfl | hn
  ·rw [hents] at he; cases he
  ·exact h.some_ n hn e he
 ·intro n hn e he hex
  rcases (hmem n).1 hn with rfl | hn
  ·rw [hents] at he; cases he
  ·obtain ⟨m,hm⟩ := h.goes n hn e he hex
   exact ⟨m,by rw [hN,if_neg (hne n hn e he)]; exact hm⟩
 ·intro n hn e he hdr
  rcases (hmem n).1 hn with rfl | hn
  ·rw [hents] at he; cases he
  ·rw [hd n hn e he] at hdr
   exact h.par n hn e he hdr
 ·intro m hm
  rcases (hmem m).1 hm with rfl | hm
  ·rw [hino,cnt_new hi' hents]
   have hz : DirsM.cnt F i = 0 := by
    have := (cnt_pos (f := F) (i := i)).1
    have h3 : ¬ 0 < DirsM.cnt F i := fun h4 => by
     obtain ⟨n,hn,e,he,hei⟩ := this h4
     exact hne n hn e he hei
    omega
   unfold wantC
   rw [hz,hino,upd_same,if_neg (by omega)]
   rcases hk with h3 | h3
   ·rw [h3.1,h3.2,if_neg (by decide)]; rfl
   ·rw [h3.1,if_pos rfl]; rfl
  ·rw [cnt_new hi' hents,upd_ne _ _ (hold m hm)]
   exact h.cnt m hm
 ·intro m hm hk1
  rcases (hmem m).1 hm with rfl | hm
  ·rcases hk with h3 | h3
   ·rw [h3.2]; omega
   ·rw [h3.1] at hk1; omega
  ·exact h.pos m hm hk1
 ·intro m hm hk1
  rcases (hmem m).1 hm with rfl | hm
  ·rw [hents,hino,upd_same]
   rcases hk with h3 | h3
   ·rw [h3.1] at hk1; omega
   ·rw [h3.2]; rfl
  ·rw [subs_eq (hd m hm),upd_ne _ _ (hold m hm)]
   exact h.dl m hm hk1
theorem Wd.link (h : Wd F π δ ε x) {i y : Int} {n : Nd} (hn : nodeM F i = some n) (hp : n.kind = 1 → 1 ≤ n.links + y ∧ n.links + y ≤ 1000) (hi1 : n.kind = 1 → i ≠ 1) : Wd (linkedM F i y) π (if n.kind = 2 then δ else upd δ i (δ i - y)) (if n.kind = 2 then upd ε i (ε i + y) else ε) x := by
 have hm := node_mem hn
 have hN := fun j => node_linked (by_ := y) h.nod hn j
 have hmem : ∀ z,z ∈ linkedM F i y ↔ z = { n with links := n.links + y } ∨ (z ∈ F ∧ z.ino ≠ i) := fun z => by
  rw [linked_eq hn,mem_with (n := { n with links := n.links + y }) h.nod hm.1 rfl]
  show _ ∨ (_ ∧ z.ino ≠ n.ino) ↔ _
  rw [hm.2]
 have hd : ∀ j,dirB (linkedM F i y) j = dirB F j := fun j => by
  unfold dirB
  rw [hN]
  by_cases hj : j = i
  ·rw [if_pos hj,hj,hn]
  ·rw [if_neg hj]
 have hs : ∀ l,subs (linkedM F i y) l = subs F l := fun l => subs_eq (fun e _ => hd e.ino)
 refine ⟨nod_linked h.nod hn,?_,?_,?_,?_,?_,?_,?_,?_,?_,h.par1,?_,?_,?_⟩
 ·obtain ⟨r,h3,h4⟩ := h.root
  rw [hN]
  by_cases hj : (1 : Int) = i
  ·rw [if_pos hj]
   rw [hj,hn] at h3
   injection h3 with h3
   subst h3
   exact ⟨_,rfl,h4⟩
  ·rw [if_neg hj]
   exact ⟨r,h3,h4⟩
 ·intro z hz
  rcases (hmem z).1 hz with rfl | ⟨hz,_⟩
  ·exact h.ino n hm.1
  ·exact h.ino z hz
 ·intro z hz
  rcases (hmem z).1 hz with rfl | ⟨hz,_⟩
  ·exact h.kind n hm.1
  ·exact h.kind z hz
 ·intro z hz
  rcases (hmem z).1 hz with rfl | ⟨hz,_⟩
  ·exact h.data n hm.1
  ·exact h.data z hz
 ·intro z hz
  rcases (hmem z).1 hz with rfl | ⟨hz,_⟩
  ·exact h.ord n hm.1
  ·exact h.ord z hz
 ·intro z hz e he
  rcases (hmem z).1 hz with rfl | ⟨hz,_⟩
  ·exact h.name n hm.1 e he
  ·exact h.name z hz e he
 ·intro z hz e he
  rcases (hmem z).1 hz with rfl | ⟨hz,_⟩
  ·exact h.some_ n hm.1 e he
  ·exact h.some_ z hz e he
 ·intro z hz e he hex
  obtain ⟨m,hm2⟩ : ∃ m,nodeM F e.ino = some m := by
   rcases (hmem z).1 hz with rfl | ⟨hz,_⟩
   ·exact h.goes n hm.1 e he hex
   ·exact h.goes z hz e he hex
  rw [hN]
  by_cases hj : e.ino = i
  ·rw [if_pos hj]; exact ⟨_,rfl⟩
  ·rw [if_neg hj]; exact ⟨m,hm2⟩
 ·intro z hz e he hdr
  rw [hd] at hdr
  rcases (hmem z).1 hz with rfl | ⟨hz,_⟩
  ·exact h.par n hm.1 e he hdr
  ·exact h.par z hz e he hdr
 ·intro z hz
  rw [cnt_linked h.nod hn]
  rcases (hmem z).1 hz with rfl | ⟨hz,hzi⟩
  ·have h3 := h.cnt n hm.1
   show (DirsM.cnt F n.ino : Int) = wantC { n with links := n.links + y } + _
   unfold wantC at h3 ⊢
   dsimp only
   by_cases hk : n.kind = 2
   ·rw [if_pos hk]
    rw [if_pos hk] at h3 ⊢
    exact h3
   ·rw [if_neg hk]
    rw [if_neg hk] at h3 ⊢
    have hk1 : n.kind = 1 := by rcases h.kind n hm.1 with h4 | h4; exact absurd h4 hk; exact h4.1
    have hne := hi1 hk1
    rw [hm.2] at h3 ⊢
    rw [if_neg hne] at h3 ⊢
    rw [upd_same,h3]
    show n.links + δ i = n.links + y + (δ i - y)
    omega
  ·have h3 := h.cnt z hz
   by_cases hk : n.kind = 2
   ·rw [if_pos hk]; exact h3
   ·rw [if_neg hk,upd_ne _ _ hzi]; exact h3
 ·intro z hz hk
  rcases (hmem z).1 hz with rfl | ⟨hz,_⟩
  ·exact hp hk
  ·exact h.pos z hz hk
 ·intro z hz hk
  rw [hs]
  rcases (hmem z).1 hz with rfl | ⟨hz,hzi⟩
  ·have hk2 : n.kind = 2 := hk
   have h3 := h.dl n hm.1 hk2
   rw [if_pos hk2]
   show n.links + y = 2 + subs F n.ents + upd ε i (ε i + y) n.ino
   rw [hm.2,upd_same]
   rw [hm.2] at h3
   omega
  ·have h3 := h.dl z hz hk
   by_cases hk2 : n.kind = 2
   ·rw [if_pos hk2,upd_ne _ _ hzi]; exact h3
   ·rw [if_neg hk2]; exact h3
theorem Wd.named (h : Wd F π δ ε x) {d i : Int} {nm : ByteArray} {n : Nd} {π' : Int → Int} (hn : nodeM F d = some n) (hk2 : n.kind = 2)
 (hi : i ≠ 0 → nameOk nm = true ∧ 1 ≤ i ∧ i ≤ 4294967295 ∧ ∃ m,nodeM F i = some m ∧ (m.kind = 2 → π' i = d))
 (hπ : ∀ z ∈ F,∀ e ∈ z.ents,(z.ino = d → e.name ≠ nm) → dirB F e.ino = true → π' e.ino = z.ino) (hπ1 : π' 1 = 1) :
 Wd (namedM F d nm i) π' (fun j => δ j + (if i ≠ 0 ∧ i = j then 1 else 0) - oldE n nm j) (upd ε d (ε d + ((n.ents.filter fun e => decide (e.name = nm)).countP fun e => dirB F e.ino : Nat) - (if i ≠ 0 ∧ dirB F i = true then 1 else 0))) x := by
 have hm := node_mem hn
 have ho := h.ord n hm.1
 have hN := fun j => node_named (i := i) (nm := nm) h.nod hn j
 have hmem : ∀ z,z ∈ namedM F d nm i ↔ z = { n with ents := insE nm i (decide (i = 0)) n.ents } ∨ (z ∈ F ∧ z.ino ≠ d) := fun z => by
  rw [named_eq hn,mem_with (n := { n with ents := insE nm i (decide (i = 0)) n.ents }) h.nod hm.1 rfl]
  show _ ∨ (_ ∧ z.ino ≠ n.ino) ↔ _
  rw [hm.2]
 have hd : ∀ j,dirB (namedM F d nm i) j = dirB F j := fun j => by
  unfold dirB
  rw [hN]
  by_cases hj : j = d
  ·rw [if_pos hj,hj,hn]
  ·rw [if_neg hj]
 have hs : ∀ l,subs (namedM F d nm i) l = subs F l := fun l => subs_eq (fun e _ => hd e.ino)
 have hins : ∀ e,e ∈ insE nm i (decide (i = 0)) n.ents ↔ (i ≠ 0 ∧ e = ⟨nm,i⟩) ∨ (e ∈ n.ents ∧ e.name ≠ nm) := fun e => mem_ins ho
 refine ⟨nod_named h.nod hn,?_,?_,?_,?_,?_,?_,?_,?_,?_,hπ1,?_,?_,?_⟩
 ·obtain ⟨r,h3,h4⟩ := h.root
  rw [hN]
  by_cases hj : (1 : Int) = d
  ·rw [if_pos hj]
   rw [hj,hn] at h3
   injection h3 with h3
   subst h3
   exact ⟨_,rfl,h4⟩
  ·rw [if_neg hj]
   exact ⟨r,h3,h4⟩
 ·intro z hz
  rcases (hmem z).1 hz with rfl | ⟨hz,_⟩
  ·exact h.ino n hm.1
  ·exact h.ino z hz
 ·intro z hz
  rcases (hmem z).1 hz with rfl | ⟨hz,_⟩
  ·exact .inl hk2
  ·exact h.kind z hz
 ·intro z hz
  rcases (hmem z).1 hz with rfl | ⟨hz,_⟩
  ·exact h.data n hm.1
  ·exact h.data z hz
 ·intro z hz
  rcases (hmem z).1 hz with rfl | ⟨hz,_⟩
  ·exact ord_ins ho nm i
  ·exact h.ord z hz
 ·intro z hz e he
  rcases (hmem z).1 hz with rfl | ⟨hz,_⟩
  ·rcases (hins e).1 he with ⟨h1,rfl⟩ | ⟨h1,_⟩
   ·exact (hi h1).1
   ·exact h.name n hm.1 e h1
  ·exact h.name z hz e he
 ·intro z hz e he
  rcases (hmem z).1 hz with rfl | ⟨hz,_⟩
  ·rcases (hins e).1 he with ⟨h1,rfl⟩ | ⟨h1,_⟩
   ·exact ⟨(hi h1).2.1,(hi h1).2.2.1⟩
   ·exact h.some_ n hm.1 e h1
  ·exact h.some_ z hz e he
 ·intro z hz e he hex
  obtain ⟨m,hm2⟩ : ∃ m,nodeM F e.ino = some m := by
   rcases (hmem z).1 hz with rfl | ⟨hz,_⟩
   ·rcases (hins e).1 he with ⟨h1,rfl⟩ | ⟨h1,_⟩
    ·obtain ⟨m,h3,_⟩ := (hi h1).2.2.2
     exact ⟨m,h3⟩
    ·exact h.goes n hm.1 e h1 hex
   ·exact h.goes z hz e he hex
  rw [hN]
  by_cases hj : e.ino = d
  ·rw [if_pos hj]; exact ⟨_,rfl⟩
  ·rw [if_neg hj]; exact ⟨m,hm2⟩
 ·intro z hz e he hdr
  rw [hd] at hdr
  rcases (hmem z).1 hz with rfl | ⟨hz,hzd⟩
  ·show π' e.ino = n.ino
   rcases (hins e).1 he with ⟨h1,rfl⟩ | ⟨h1,h2⟩
   ·obtain ⟨m,h3,h4⟩ := (hi h1).2.2.2
    rw [dir_some h3,decide_eq_true_eq] at hdr
    rw [hm.2]
    exact h4 hdr
   ·exact hπ n hm.1 e h1 (fun _ => h2) hdr
  ·exact hπ z hz e he (fun h5 => absurd h5 hzd) hdr
 ·intro z hz
  have hc := cnt_named (i := i) (nm := nm) h.nod hn ho z.ino
  have h3 : (DirsM.cnt F z.ino : Int) = wantC z + δ z.ino := by
   rcases (hmem z).1 hz with rfl | ⟨hz,_⟩
   ·exact h.cnt n hm.1
   ·exact h.cnt z hz
  show ((DirsM.cnt (namedM F d nm i) z.ino : Nat) : Int) = wantC z + (δ z.ino + (if i ≠ 0 ∧ i = z.ino then 1 else 0) - oldE n nm z.ino)
  by_cases hq : i ≠ 0 ∧ i = z.ino
  ·rw [if_pos hq] at hc ⊢
   omega
  ·rw [if_neg hq] at hc ⊢
   omega
 ·intro z hz hk
  rcases (hmem z).1 hz with rfl | ⟨hz,_⟩
  ·exact h.pos n hm.1 hk
  ·exact h.pos z hz hk
 ·intro z hz hk
  rw [hs]
  rcases (hmem z).1 hz with rfl | ⟨hz,hzd⟩
  ·have h3 := h.dl n hm.1 hk2
   have h4 := count_ins ho nm i (fun e => dirB F e.ino)
   show n.links = 2 + subs F (insE nm i (decide (i = 0)) n.ents) + upd ε d _ n.ino
   rw [hm.2,upd_same]
   rw [hm.2] at h3
   have e1 : subs F (insE nm i (decide (i = 0)) n.ents) = (insE nm i (decide (i = 0)) n.ents).countP (fun e => dirB F e.ino) := rfl
   have e2 : subs F n.ents = n.ents.countP (fun e => dirB F e.ino) := rfl
   by_cases hq : i ≠ 0 ∧ dirB F i = true
   ·rw [if_pos hq] at h4 ⊢
    omega
   ·rw [if_neg hq] at h4 ⊢
    omega
  ·rw [upd_ne _ _ hzd]
   exact h.dl z hz hk
theorem filter_one {l : List En} (h : Ord l) {e : En} (he : e ∈ l) : (l.filter fun y => decide (y.name = e.name)) = [e] := by
 rcases name_filter h e.name with h1 | ⟨y,h1,h2,h3⟩
 ·have := List.filter_eq_nil_iff.1 h1 e he
  simp at this
 ·rw [h3,ord_eq h h1 he h2]
theorem Wd.del (h : Wd F π δ ε x) {d : Int} {n : Nd} {e : En} (hn : nodeM F d = some n) (hk2 : n.kind = 2) (he : e ∈ n.ents) :
 Wd (namedM F d e.name 0) π (upd δ e.ino (δ e.ino - 1)) (if dirB F e.ino = true then upd ε d (ε d + 1) else ε) x := by
 have hm := node_mem hn
 have ho := h.ord n hm.1
 have h0 := h.named (i := 0) (nm := e.name) (π' := π) hn hk2 (fun h => absurd rfl h) (fun z hz y hy _ hd => h.par z hz y hy hd) h.par1
 refine h0.eq (fun j => ?_) (fun j => ?_)
 ·rw [old_some ho he]
  simp only [ne_eq,not_true_eq_false,false_and,if_false]
  unfold upd
  by_cases hj : j = e.ino
  ·rw [if_pos hj,if_pos hj.symm,hj]; omega
  ·rw [if_neg hj,if_neg (fun h => hj h.symm)]; omega
 ·rw [filter_one ho he]
  simp only [ne_eq,not_true_eq_false,false_and,if_false]
  unfold upd
  by_cases hd : dirB F e.ino = true
  ·rw [if_pos hd]
   by_cases hj : j = d
   ·rw [if_pos hj,if_pos hj]
    simp [List.countP_cons,hd]
   ·rw [if_neg hj,if_neg hj]
  ·rw [if_neg hd]
   by_cases hj : j = d
   ·rw [if_pos hj]
    simp [List.countP_cons,hd,hj]
   ·rw [if_neg hj]
theorem Wd.ins (h : Wd F π δ ε x) {d i : Int} {nm : ByteArray} {n m : Nd} {π' : Int → Int} (hn : nodeM F d = some n) (hk2 : n.kind = 2) (hno : ∀ e ∈ n.ents,e.name ≠ nm) (hnm : nameOk nm = true) (h1 : 1 ≤ i) (h2 : i ≤ 4294967295) (hmi : nodeM F i = some m)
 (hπ : (m.kind ≠ 2 ∧ π' = π) ∨ (m.kind = 2 ∧ i ≠ 1 ∧ π' = upd π i d ∧ ∀ z ∈ F,∀ e ∈ z.ents,e.ino ≠ i)) :
 Wd (namedM F d nm i) π' (upd δ i (δ i + 1)) (if m.kind = 2 then upd ε d (ε d - 1) else ε) x := by
 have hm := node_mem hn
 have ho := h.ord n hm.1
 have hdi := dir_some hmi
 have h0 := h.named (i := i) (nm := nm) (π' := π') hn hk2 (fun _ => ⟨hnm,h1,h2,m,hmi,fun hk => by
  rcases hπ with h3 | h3
  ·exact absurd hk h3.1
  ·rw [h3.2.2.1,upd_same]⟩) (fun z hz y hy _ hd => by
  rcases hπ with h3 | h3
  ·rw [h3.2]; exact h.par z hz y hy hd
  ·rw [h3.2.2.1,upd_ne _ _ (h3.2.2.2 z hz y hy)]; exact h.par z hz y hy hd) (by
  rcases hπ with h3 | h3
  ·rw [h3.2]; exact h.par1
  ·rw [h3.2.2.1,upd_ne _ _ (fun e => h3.2.1 e.symm)]; exact h.par1)
 have hf : (n.ents.filter fun e => decide (e.name = nm)) = [] := List.filter_eq_nil_iff.2 (fun e he => by simpa using hno e he)
 refine h0.eq (fun j => ?_) (fun j => ?_)
 ·rw [old_none hno]
  unfold upd
  by_cases hj : j = i
  ·rw [if_pos hj,if_pos ⟨by omega,hj.symm⟩,hj]; omega
  ·rw [if_neg hj,if_neg (fun h => hj h.2.symm)]; omega
 ·rw [hf]
  unfold upd
  rw [hdi]
  by_cases hk : m.kind = 2
  ·rw [if_pos hk,decide_eq_true hk]
   by_cases hj : j = d
   ·rw [if_pos hj,if_pos hj,if_pos ⟨by omega,rfl⟩]; simp
   ·rw [if_neg hj,if_neg hj]
  ·rw [if_neg hk,decide_eq_false hk]
   by_cases hj : j = d
   ·rw [if_pos hj,if_neg (fun h => by cases h.2),hj]; simp
   ·rw [if_neg hj]
theorem Wd.drop (h : Wd F π δ ε 0) {d i : Int} {n m : Nd} {e : En} (hn : nodeM F d = some n) (he : e ∈ n.ents) (hei : e.ino = i) (hmi : nodeM F i = some m) (hme : m.ents = []) (h1 : i ≠ 1) (hc : DirsM.cnt F i = 1) :
 Wd (withoutM F i) π δ (if m.kind = 2 then upd ε d (ε d + 1) else ε) i := by
 have hmn := node_mem hn
 have hmm := node_mem hmi
 have hN := fun j => node_wo h.nod i j
 have hdi : d ≠ i := fun hq => by
  rw [hq,hmi] at hn
  injection hn with hn
  rw [← hn,hme] at he
  cases he
 have hdj : ∀ j,dirB (withoutM F i) j = if j = i then false else dirB F j := fun j => by
  by_cases hj : j = i
  ·rw [if_pos hj]; exact dir_none (by rw [hN,if_pos hj])
  ·rw [if_neg hj]; exact dir_eq (by rw [hN,if_neg hj])
 have hother : ∀ z ∈ F,z.ino ≠ d → ∀ y ∈ z.ents,y.ino ≠ i := fun z hz hzd y hy hyi => by
  have := cnt_one h.nod (i := i) (by omega) hz hmn.1 hy he hyi hei
  exact hzd (by rw [this.1,hmn.2])
 refine ⟨nod_wo h.nod i,?_,fun z hz => h.ino z (mem_wo.1 hz).1,fun z hz => h.kind z (mem_wo.1 hz).1,fun z hz => h.data z (mem_wo.1 hz).1,fun z hz => h.ord z (mem_wo.1 hz).1,fun z hz => h.name z (mem_wo.1 hz).1,fun z hz => h.some_ z (mem_wo.1 hz).1,?_,?_,h.par1,?_,fun z hz => h.pos z (mem_wo.1 hz).1,?_⟩
 ·obtain ⟨r,h3,h4⟩ := h.root
  exact ⟨r,by rw [hN,if_neg (fun e => h1 e.symm)]; exact h3,h4⟩
 ·intro z hz y hy hyi
  obtain ⟨q,hq⟩ := h.goes z (mem_wo.1 hz).1 y hy (by have := (h.some_ z (mem_wo.1 hz).1 y hy).1; omega)
  exact ⟨q,by rw [hN,if_neg hyi]; exact hq⟩
 ·intro z hz y hy hd
  rw [hdj] at hd
  by_cases hj : y.ino = i
  ·rw [if_pos hj] at hd; cases hd
  ·rw [if_neg hj] at hd
   exact h.par z (mem_wo.1 hz).1 y hy hd
 ·intro z hz
  rw [cnt_wo h.nod hmi hme]
  exact h.cnt z (mem_wo.1 hz).1
 ·intro z hz hk
  have hz' := mem_wo.1 hz
  have h3 := h.dl z hz'.1 hk
  by_cases hk2 : m.kind = 2
  ·rw [if_pos hk2]
   have hsub : ∀ l : List En,subs F l = subs (withoutM F i) l + l.countP (fun y => decide (y.ino = i)) := by
    intro l
    unfold subs
    induction l with
    | nil => rfl
    | cons y l ih =>
      rw [List.countP_cons,List.countP_cons,List.countP_cons,ih,hdj]
      by_cases hj : y.ino = i
      ·rw [if_pos hj,hj,dir_some hmi,decide_eq_true hk2]; simp; omega
      ·rw [if_neg hj]; simp [hj]; omega
   have h4 := hsub z.ents
   by_cases hzd : z.ino = d
   ·have e1 : toE i z = 1 := by
     have h5 := S_le hz'.1 (toE i)
     have h6 : z = n := nod_eq h.nod hz'.1 hmn.1 (by rw [hzd,hmn.2])
     have h7 : 0 < toE i z := toE_pos.2 ⟨e,by rw [h6]; exact he,hei⟩
     unfold DirsM.cnt at hc
     omega
    unfold toE at e1
    rw [hzd,upd_same]
    rw [hzd] at h3
    omega
   ·have e1 : z.ents.countP (fun y => decide (y.ino = i)) = 0 := List.countP_eq_zero.2 (fun y hy => by simpa using hother z hz'.1 hzd y hy)
    rw [upd_ne _ _ hzd]
    omega
  ·rw [if_neg hk2,subs_eq (F := F) (F' := withoutM F i) (fun y hy => by
    rw [hdj]
    by_cases hj : y.ino = i
    ·rw [if_pos hj,hj,dir_some hmi,decide_eq_false hk2]
    ·rw [if_neg hj])]
   exact h3
theorem Wd.clean (h : Wd F π δ ε x) (hx : ∀ n ∈ F,∀ e ∈ n.ents,e.ino ≠ x) : Wd F π δ ε 0 :=
 { h with goes := fun n hn e he _ => h.goes n hn e he (hx n hn e he) }
end
end Go.Proofs.YtogdjbhjgbnicaaGreatDoor.DirsW
namespace Go.Proofs.YtogdjbhjgbnicaaGreatDoor.DirsX
open FileM Byte PackM KeysM TreeM ViewM ViewKm NodeM NamesM WalkM WalkF WalkKm DirsM DirsV DirsW
def gk (L : List Pr) (k : ByteArray) : Option ByteArray := (getL k L).map (·.value)
abbrev Gf := ByteArray → Option ByteArray
def setG (g : Gf) (p : Pr) : Gf := fun k => if k = p.key then (if p.gone = true then none else some p.value) else g k
theorem get_iff {L : List Pr} (hr : Rise L) {k : ByteArray} {p : Pr} : getL k L = some p ↔ p ∈ L ∧ p.key = k :=
 ⟨fun h => ⟨List.mem_of_find?_eq_some h,by simpa using List.find?_some h⟩,fun ⟨h1,h2⟩ => by rw [← h2]; exact get_mem hr h1⟩
theorem gk_done {L : List Pr} (hr : Rise L) (p : Pr) : gk (doneW L p) = setG (gk L) p := by
 funext k
 unfold gk setG
 have hr2 := rise_done hr p
 by_cases hk : k = p.key
 ·rw [if_pos hk]
  by_cases hg : p.gone = true
  ·rw [if_pos hg,get_none' (fun q hq e => by
    rcases mem_done.1 hq with ⟨h1,_⟩ | ⟨_,h2⟩
    ·rw [hg] at h1; cases h1
    ·exact h2 (by rw [e,hk]))]
   rfl
  ·rw [if_neg hg,(get_iff hr2 (p := ⟨p.key,p.value,false⟩)).2 ⟨mem_done.2 (.inl ⟨by simpa using hg,rfl⟩),hk.symm⟩]
   rfl
 ·rw [if_neg hk]
  cases hq : getL k L with
  | none =>
    rw [get_none' (fun q hq2 e => by
     rcases mem_done.1 hq2 with ⟨_,h1⟩ | ⟨h1,_⟩
     ·rw [h1] at e; exact hk e.symm
     ·exact get_none hq q h1 e)]
    show _ = Option.map _ (getL k L); rw [hq]
  | some q =>
    have h1 := (get_iff hr).1 hq
    rw [(get_iff hr2 (p := q)).2 ⟨mem_done.2 (.inr ⟨h1.1,fun e => hk (by rw [← h1.2,e])⟩),h1.2⟩]
    show _ = Option.map _ (getL k L); rw [hq]
theorem gone_done {L : List Pr} (h : ∀ p ∈ L,p.gone = false) (q : Pr) : ∀ p ∈ doneW L q,p.gone = false := fun p hp => by
 rcases mem_done.1 hp with ⟨_,h1⟩ | ⟨h1,_⟩
 ·rw [h1]
 ·exact h p h1
def outW (L : List Pr) : List Wrt → List Pr
 | [] => L
 | p :: ps => outW (doneW L (p L)) ps
theorem go_out : ∀ (ps : List Wrt) {s : Vs},s.Ok → (goW s ps).2 = true → (goW s ps).1.shown = outW s.shown ps ∧ (goW s ps).1.Ok
 | [],s,ho,_ => ⟨rfl,ho⟩
 | p :: ps,s,ho,h => by
   cases hf : fullW s.wr (p s.shown) with
   | true => rw [goW_full hf] at h; cases h
   | false =>
     rw [goW_room hf] at h ⊢
     have h1 : (s.write (p s.shown)).shown = doneW s.shown (p s.shown) := by
      unfold Vs.write
      rw [if_neg (by rw [hf]; decide)]
      exact shown_write ho.base ho.wr _
     have h2 := go_out ps (ok_write ho _) h
     rw [h1] at h2
     exact h2
def loadG (g : Gf) (i : Int) : Ino × Bool := match g (kI i) with
 | none => if i = 1 then (⟨2,2,0,1⟩,true) else (ino0,false)
 | some v => if gok v then (⟨gk v,gl v,gs v,gp v⟩,true) else (ino0,false)
where gk := NodeM.gk
theorem load_g (L : List Pr) (i : Int) : loadM L i = loadG (gk L) i := by
 unfold loadM loadG gk
 cases getL (kI i) L <;> rfl
def childG (g : Gf) (d : Int) (nm : ByteArray) : Int × Bool := match g (kE d nm) with
 | none => (0,false)
 | some v => if v.size = 4 then (PackM.getn (txt v) 0 4,true) else (0,false)
theorem child_g (L : List Pr) (d : Int) (nm : ByteArray) : childM L d nm = childG (gk L) d nm := by
 unfold childM childG gk
 cases getL (kE d nm) L <;> rfl
theorem kI_inj {i j : Int} (h0 : 0 ≤ i) (h1 : i ≤ 4294967295) (j0 : 0 ≤ j) (j1 : j ≤ 4294967295) (h : kI i = kI j) : i = j := by
 have a := sp_I i h0 h1
 rw [h,sp_I j j0 j1] at a
 injection a with _ a
 exact a.symm
theorem kE_inj {i j : Int} {a b : ByteArray} (h0 : 0 ≤ i) (h1 : i ≤ 4294967295) (j0 : 0 ≤ j) (j1 : j ≤ 4294967295) (ha : goodN a) (hb : goodN b) (h : kE i a = kE j b) : i = j ∧ a = b := by
 have x := sp_E i a h0 h1 ha.1 ha.2
 rw [h,sp_E j b j0 j1 hb.1 hb.2] at x
 injection x with _ x y
 exact ⟨x.symm,y.symm⟩
theorem kIE {i j : Int} {a : ByteArray} (h0 : 0 ≤ i) (h1 : i ≤ 4294967295) (j0 : 0 ≤ j) (j1 : j ≤ 4294967295) (ha : goodN a) : kI i ≠ kE j a := fun h => by
 have x := sp_I i h0 h1
 rw [h,sp_E j a j0 j1 ha.1 ha.2] at x
 injection x with x
 cases x
theorem kD_inj {i j v w : Int} (h0 : 0 ≤ i) (h1 : i ≤ 4294967295) (j0 : 0 ≤ j) (j1 : j ≤ 4294967295) (hv : 0 ≤ v ∧ v ≤ 65535) (hw : 0 ≤ w ∧ w ≤ 65535) (h : kD i v = kD j w) : i = j ∧ v = w := by
 have x := sp_D i v h0 h1 hv.1 hv.2
 rw [h,sp_D j w j0 j1 hw.1 hw.2] at x
 injection x with _ x _ y
 exact ⟨x.symm,y.symm⟩
theorem kID {i j w : Int} (h0 : 0 ≤ i) (h1 : i ≤ 4294967295) (j0 : 0 ≤ j) (j1 : j ≤ 4294967295) (hw : 0 ≤ w ∧ w ≤ 65535) : kI i ≠ kD j w := fun h => by
 have x := sp_I i h0 h1
 rw [h,sp_D j w j0 j1 hw.1 hw.2] at x
 injection x with x
 cases x
theorem kED {i j w : Int} {a : ByteArray} (h0 : 0 ≤ i) (h1 : i ≤ 4294967295) (j0 : 0 ≤ j) (j1 : j ≤ 4294967295) (ha : goodN a) (hw : 0 ≤ w ∧ w ≤ 65535) : kE i a ≠ kD j w := fun h => by
 have x := sp_E i a h0 h1 ha.1 ha.2
 rw [h,sp_D j w j0 j1 hw.1 hw.2] at x
 injection x with x
 cases x
theorem good_of {s : ByteArray} (h : nameOk s = true) : goodN s := name_pos h
def inoW (π : Int → Int) (n : Nd) : ByteArray := nput n.kind n.links n.data.size (if n.kind = 2 then π n.ino else 0)
structure Bs (F : Fs) : Prop where
 nod : Nod F
 ino : ∀ n ∈ F,1 ≤ n.ino ∧ n.ino ≤ 4294967295
 ord : ∀ n ∈ F,Ord n.ents
 name : ∀ n ∈ F,∀ e ∈ n.ents,goodN e.name
theorem Bs.of {F : Fs} {π δ ε : Int → Int} {x : Int} (h : Wd F π δ ε x) : Bs F := ⟨h.nod,h.ino,h.ord,fun n hn e he => good_of (h.name n hn e he)⟩
structure RG (F : Fs) (π : Int → Int) (g : Gf) : Prop where
 keys : ∀ k,g k ≠ none → (∃ n ∈ F,k = kI n.ino) ∨ (∃ n ∈ F,∃ e ∈ n.ents,k = kE n.ino e.name) ∨ (∃ n ∈ F,∃ w,(0 ≤ w ∧ w ≤ 65535) ∧ k = kD n.ino w ∧ blkG n.data w ≠ none)
 inos : ∀ n ∈ F,g (kI n.ino) = some (inoW π n) ∨ (n.ino = 1 ∧ n.kind = 2 ∧ n.links = 2 ∧ g (kI 1) = none)
 ents : ∀ n ∈ F,∀ e ∈ n.ents,g (kE n.ino e.name) = some (hangV e.ino)
 blks : ∀ n ∈ F,∀ w,0 ≤ w ∧ w ≤ 65535 → g (kD n.ino w) = blkG n.data w
section
variable {F : Fs} {π : Int → Int} {g : Gf}
theorem setG_same (g : Gf) (p : Pr) : setG g p p.key = if p.gone = true then none else some p.value := if_pos rfl
theorem setG_ne (g : Gf) {p : Pr} {k : ByteArray} (h : k ≠ p.key) : setG g p k = g k := if_neg h
theorem RG.new_ (h : RG F π g) (b : Bs F) {n : Nd} (hn : nodeM F n.ino = none) (he : n.ents = []) (hd : n.data = NE) (h1 : 1 ≤ n.ino) (h2 : n.ino ≤ 4294967295) : RG (withM F n) π (setG g ⟨kI n.ino,inoW π n,false⟩) := by
 have hne := node_none hn
 have hmem : ∀ z,z ∈ withM F n ↔ z = n ∨ z ∈ F := fun z => mem_new hne
 refine ⟨fun k hk => ?_,fun z hz => ?_,fun z hz e hez => ?_,fun z hz w hw => ?_⟩
 ·by_cases hq : k = kI n.ino
  ·exact .inl ⟨n,(hmem n).2 (.inl rfl),hq⟩
  ·rw [setG_ne g (p := ⟨kI n.ino,inoW π n,false⟩) hq] at hk
   rcases h.keys k hk with ⟨m,h3,h4⟩ | ⟨m,h3,e,h4,h5⟩ | ⟨m,h3,w,h4,h5,h6⟩
   ·exact .inl ⟨m,(hmem m).2 (.inr h3),h4⟩
   ·exact .inr (.inl ⟨m,(hmem m).2 (.inr h3),e,h4,h5⟩)
   ·exact .inr (.inr ⟨m,(hmem m).2 (.inr h3),w,h4,h5,h6⟩)
 ·rcases (hmem z).1 hz with rfl | hz
  ·left
   exact setG_same g ⟨kI z.ino,inoW π z,false⟩
  ·have hzi := b.ino z hz
   have hq : ∀ j,1 ≤ j → j ≤ 4294967295 → j ≠ n.ino → kI j ≠ kI n.ino := fun j a c d e => d (kI_inj (by omega) c (by omega) h2 e)
   rcases h.inos z hz with h3 | ⟨h3,h4,h5,h6⟩
   ·left
    rw [setG_ne g (p := ⟨kI n.ino,inoW π n,false⟩) (hq z.ino hzi.1 hzi.2 (hne z hz))]
    exact h3
   ·right
    exact ⟨h3,h4,h5,by rw [setG_ne g (p := ⟨kI n.ino,inoW π n,false⟩) (hq 1 (by omega) (by omega) (by rw [← h3]; exact hne z hz))]; exact h6⟩
 ·rcases (hmem z).1 hz with rfl | hz
  ·rw [he] at hez; cases hez
  ·have hzi := b.ino z hz
   rw [setG_ne g (p := ⟨kI n.ino,inoW π n,false⟩) (kIE (by omega) h2 (by omega) hzi.2 (b.name z hz e hez)).symm]
   exact h.ents z hz e hez
 ·rcases (hmem z).1 hz with rfl | hz
  ·rw [hd,blkG_nil,setG_ne g (p := ⟨kI z.ino,inoW π z,false⟩) (kID (by omega) h2 (by omega) h2 hw).symm]
   cases hg : g (kD z.ino w) with
   | none => rfl
   | some v =>
     exfalso
     rcases h.keys _ (by rw [hg]; simp) with ⟨m,h3,h4⟩ | ⟨m,h3,e,h4,h5⟩ | ⟨m,h3,u,h4,h5,h6⟩
     ·have hb := b.ino m h3
      exact kID (by omega) hb.2 (by omega) h2 hw h4.symm
     ·have hb := b.ino m h3
      exact kED (by omega) hb.2 (by omega) h2 (b.name m h3 e h4) hw h5.symm
     ·have hb := b.ino m h3
      exact hne m h3 (kD_inj (by omega) h2 (by omega) hb.2 hw h4 h5).1.symm
  ·have hzi := b.ino z hz
   rw [setG_ne g (p := ⟨kI n.ino,inoW π n,false⟩) (kID (by omega) h2 (by omega) hzi.2 hw).symm]
   exact h.blks z hz w hw
theorem RG.save_ (h : RG F π g) (b : Bs F) {n n' : Nd} {π' : Int → Int} (hn : nodeM F n.ino = some n) (hi : n'.ino = n.ino) (he : n'.ents = n.ents) (hd : n'.data = n.data) (hπ : ∀ j,j ≠ n.ino → π' j = π j) : RG (withM F n') π' (setG g ⟨kI n.ino,inoW π' n',false⟩) := by
 have hm := node_mem hn
 have hmem : ∀ z,z ∈ withM F n' ↔ z = n' ∨ (z ∈ F ∧ z.ino ≠ n.ino) := fun z => by rw [mem_with b.nod hm.1 hi.symm,hi]
 have hni := b.ino n hm.1
 refine ⟨fun k hk => ?_,fun z hz => ?_,fun z hz e hez => ?_,fun z hz w hw => ?_⟩
 ·by_cases hq : k = kI n.ino
  ·exact .inl ⟨n',(hmem n').2 (.inl rfl),by rw [hi]; exact hq⟩
  ·rw [setG_ne g (p := ⟨kI n.ino,inoW π' n',false⟩) hq] at hk
   rcases h.keys k hk with ⟨m,h3,h4⟩ | ⟨m,h3,e,h4,h5⟩ | ⟨m,h3,w,h4,h5,h6⟩
   ·refine .inl ⟨m,(hmem m).2 (.inr ⟨h3,fun e => hq (by rw [h4,e])⟩),h4⟩
   ·by_cases hmn : m.ino = n.ino
    ·have : m = n := nod_eq b.nod h3 hm.1 hmn
     subst this
     exact .inr (.inl ⟨n',(hmem n').2 (.inl rfl),e,by rw [he]; exact h4,by rw [hi]; exact h5⟩)
    ·exact .inr (.inl ⟨m,(hmem m).2 (.inr ⟨h3,hmn⟩),e,h4,h5⟩)
   ·by_cases hmn : m.ino = n.ino
    ·have : m = n := nod_eq b.nod h3 hm.1 hmn
     subst this
     exact .inr (.inr ⟨n',(hmem n').2 (.inl rfl),w,h4,by rw [hi]; exact h5,by rw [hd]; exact h6⟩)
    ·exact .inr (.inr ⟨m,(hmem m).2 (.inr ⟨h3,hmn⟩),w,h4,h5,h6⟩)
 ·rcases (hmem z).1 hz with rfl | ⟨hz,hzn⟩
  ·left
   rw [hi]
   exact setG_same g ⟨kI n.ino,inoW π' z,false⟩
  ·have hzi := b.ino z hz
   have hq : kI z.ino ≠ kI n.ino := fun e => hzn (kI_inj (by omega) hzi.2 (by omega) hni.2 e)
   have hw : inoW π' z = inoW π z := by unfold inoW; rw [hπ z.ino hzn]
   rcases h.inos z hz with h3 | ⟨h3,h4,h5,h6⟩
   ·left
    rw [setG_ne g (p := ⟨kI n.ino,inoW π' n',false⟩) hq,hw]
    exact h3
   ·right
    exact ⟨h3,h4,h5,by rw [setG_ne g (p := ⟨kI n.ino,inoW π' n',false⟩) (by rw [← h3]; exact hq)]; exact h6⟩
 ·obtain ⟨y,hy,hyi,hye⟩ : ∃ y ∈ F,y.ino = z.ino ∧ e ∈ y.ents := by
   rcases (hmem z).1 hz with rfl | ⟨hz,_⟩
   ·exact ⟨n,hm.1,hi.symm,by rw [← he]; exact hez⟩
   ·exact ⟨z,hz,rfl,hez⟩
  have hyb := b.ino y hy
  rw [← hyi,setG_ne g (p := ⟨kI n.ino,inoW π' n',false⟩) (kIE (by omega) hni.2 (by omega) hyb.2 (b.name y hy e hye)).symm]
  exact h.ents y hy e hye
 ·obtain ⟨y,hy,hyi,hye⟩ : ∃ y ∈ F,y.ino = z.ino ∧ y.data = z.data := by
   rcases (hmem z).1 hz with rfl | ⟨hz,_⟩
   ·exact ⟨n,hm.1,hi.symm,hd.symm⟩
   ·exact ⟨z,hz,rfl,rfl⟩
  have hyb := b.ino y hy
  rw [← hyi,← hye,setG_ne g (p := ⟨kI n.ino,inoW π' n',false⟩) (kID (by omega) hni.2 (by omega) hyb.2 hw).symm]
  exact h.blks y hy w hw
theorem RG.drop_ (h : RG F π g) (b : Bs F) {i : Int} {n : Nd} (hn : nodeM F i = some n) (he : n.ents = []) (hd : n.data = NE) : RG (withoutM F i) π (setG g ⟨kI i,⟨#[]⟩,true⟩) := by
 have hm := node_mem hn
 have hni := b.ino n hm.1
 rw [hm.2] at hni
 refine ⟨fun k hk => ?_,fun z hz => ?_,fun z hz e hez => ?_,fun z hz w hw => ?_⟩
 ·by_cases hq : k = kI i
  ·exact absurd (by rw [hq]; exact setG_same g ⟨kI i,⟨#[]⟩,true⟩) hk
  ·rw [setG_ne g (p := ⟨kI i,⟨#[]⟩,true⟩) hq] at hk
   rcases h.keys k hk with ⟨m,h3,h4⟩ | ⟨m,h3,e,h4,h5⟩ | ⟨m,h3,w,h4,h5,h6⟩
   ·exact .inl ⟨m,mem_wo.2 ⟨h3,fun e => hq (by rw [h4,e])⟩,h4⟩
   ·refine .inr (.inl ⟨m,mem_wo.2 ⟨h3,fun hmi => ?_⟩,e,h4,h5⟩)
    have : m = n := nod_eq b.nod h3 hm.1 (by rw [hmi,hm.2])
    rw [this,he] at h4
    cases h4
   ·refine .inr (.inr ⟨m,mem_wo.2 ⟨h3,fun hmi => ?_⟩,w,h4,h5,h6⟩)
    have : m = n := nod_eq b.nod h3 hm.1 (by rw [hmi,hm.2])
    rw [this,hd,blkG_nil] at h6
    exact h6 rfl
 ·have hz' := mem_wo.1 hz
  have hzi := b.ino z hz'.1
  have hq : kI z.ino ≠ kI i := fun e => hz'.2 (kI_inj (by omega) hzi.2 (by omega) hni.2 e)
  rcases h.inos z hz'.1 with h3 | ⟨h3,h4,h5,h6⟩
  ·left
   rw [setG_ne g (p := ⟨kI i,⟨#[]⟩,true⟩) hq]
   exact h3
  ·right
   exact ⟨h3,h4,h5,by rw [setG_ne g (p := ⟨kI i,⟨#[]⟩,true⟩) (by rw [← h3]; exact hq)]; exact h6⟩
 ·have hz' := mem_wo.1 hz
  have hzi := b.ino z hz'.1
  rw [setG_ne g (p := ⟨kI i,⟨#[]⟩,true⟩) (kIE (by omega) hni.2 (by omega) hzi.2 (b.name z hz'.1 e hez)).symm]
  exact h.ents z hz'.1 e hez
 ·have hz' := mem_wo.1 hz
  have hzi := b.ino z hz'.1
  rw [setG_ne g (p := ⟨kI i,⟨#[]⟩,true⟩) (kID (by omega) hni.2 (by omega) hzi.2 hw).symm]
  exact h.blks z hz'.1 w hw
theorem RG.hang_ (h : RG F π g) (b : Bs F) {d i : Int} {nm : ByteArray} {n : Nd} {p : Pr} (hn : nodeM F d = some n) (hnm : goodN nm) (hp : p.key = kE d nm) (hg : p.gone = decide (i = 0)) (hv : i ≠ 0 → p.value = hangV i) : RG (namedM F d nm i) π (setG g p) := by
 have hm := node_mem hn
 have hni := b.ino n hm.1
 have ho := b.ord n hm.1
 have hmem : ∀ z,z ∈ namedM F d nm i ↔ z = { n with ents := insE nm i (decide (i = 0)) n.ents } ∨ (z ∈ F ∧ z.ino ≠ d) := fun z => by
  rw [named_eq hn,mem_with (n := { n with ents := insE nm i (decide (i = 0)) n.ents }) b.nod hm.1 rfl]
  show _ ∨ (_ ∧ z.ino ≠ n.ino) ↔ _
  rw [hm.2]
 rw [hm.2] at hni
 have hins : ∀ e,e ∈ insE nm i (decide (i = 0)) n.ents ↔ (i ≠ 0 ∧ e = ⟨nm,i⟩) ∨ (e ∈ n.ents ∧ e.name ≠ nm) := fun e => mem_ins ho
 have hI : ∀ j,1 ≤ j → j ≤ 4294967295 → setG g p (kI j) = g (kI j) := fun j h1 h2 => setG_ne g (by rw [hp]; exact kIE (by omega) h2 (by omega) hni.2 hnm)
 refine ⟨fun k hk => ?_,fun z hz => ?_,fun z hz e hez => ?_,fun z hz w hw => ?_⟩
 ·by_cases hq : k = kE d nm
  ·by_cases hi0 : i = 0
   ·exact absurd (by rw [hq,← hp,setG_same,hg,decide_eq_true hi0]; rfl) hk
   ·exact .inr (.inl ⟨_,(hmem _).2 (.inl rfl),⟨nm,i⟩,(hins _).2 (.inl ⟨hi0,rfl⟩),by rw [hq]; show _ = kE n.ino nm; rw [hm.2]⟩)
  ·rw [setG_ne g (by rw [hp]; exact hq)] at hk
   rcases h.keys k hk with ⟨m,h3,h4⟩ | ⟨m,h3,e,h4,h5⟩ | ⟨m,h3,w,h4,h5,h6⟩
   ·by_cases hmd : m.ino = d
    ·exact .inl ⟨_,(hmem _).2 (.inl rfl),by rw [h4,hmd]; show _ = kI n.ino; rw [hm.2]⟩
    ·exact .inl ⟨m,(hmem m).2 (.inr ⟨h3,hmd⟩),h4⟩
   ·by_cases hmd : m.ino = d
    ·have : m = n := nod_eq b.nod h3 hm.1 (by rw [hmd,hm.2])
     subst this
     refine .inr (.inl ⟨_,(hmem _).2 (.inl rfl),e,(hins e).2 (.inr ⟨h4,fun en => hq (by rw [h5,en,hmd])⟩),h5⟩)
    ·exact .inr (.inl ⟨m,(hmem m).2 (.inr ⟨h3,hmd⟩),e,h4,h5⟩)
   ·by_cases hmd : m.ino = d
    ·have : m = n := nod_eq b.nod h3 hm.1 (by rw [hmd,hm.2])
     subst this
     exact .inr (.inr ⟨_,(hmem _).2 (.inl rfl),w,h4,h5,h6⟩)
    ·exact .inr (.inr ⟨m,(hmem m).2 (.inr ⟨h3,hmd⟩),w,h4,h5,h6⟩)
 ·rcases (hmem z).1 hz with rfl | ⟨hz,hzd⟩
  ·have hb := b.ino n hm.1
   show setG g p (kI n.ino) = some (inoW π n) ∨ (n.ino = 1 ∧ n.kind = 2 ∧ n.links = 2 ∧ setG g p (kI 1) = none)
   rw [hI n.ino hb.1 hb.2,hI 1 (by omega) (by omega)]
   exact h.inos n hm.1
  ·have hb := b.ino z hz
   rw [hI z.ino hb.1 hb.2,hI 1 (by omega) (by omega)]
   exact h.inos z hz
 ·rcases (hmem z).1 hz with rfl | ⟨hz,hzd⟩
  ·show setG g p (kE n.ino e.name) = _
   rcases (hins e).1 hez with ⟨h1,rfl⟩ | ⟨h1,h2⟩
   ·rw [hm.2,← hp,setG_same,hg,decide_eq_false h1,hv h1]; rfl
   ·have hb := b.ino n hm.1
    rw [setG_ne g (by rw [hp]; exact fun e1 => h2 (kE_inj (by omega) hb.2 (by omega) hni.2 (b.name n hm.1 e h1) hnm e1).2)]
    exact h.ents n hm.1 e h1
  ·have hb := b.ino z hz
   rw [setG_ne g (by rw [hp]; exact fun e1 => hzd (kE_inj (by omega) hb.2 (by omega) hni.2 (b.name z hz e hez) hnm e1).1)]
   exact h.ents z hz e hez
 ·obtain ⟨y,hy,hyi,hye⟩ : ∃ y ∈ F,y.ino = z.ino ∧ y.data = z.data := by
   rcases (hmem z).1 hz with rfl | ⟨hz,_⟩
   ·exact ⟨n,hm.1,rfl,rfl⟩
   ·exact ⟨z,hz,rfl,rfl⟩
  have hyb := b.ino y hy
  rw [← hyi,← hye,setG_ne g (by rw [hp]; exact (kED (by omega) hni.2 (by omega) hyb.2 hnm hw).symm)]
  exact h.blks y hy w hw
theorem RG.data_ (h : RG F π g) (b : Bs F) {g' : Gf} {n n' : Nd} (hn : nodeM F n.ino = some n) (hi : n'.ino = n.ino) (he : n'.ents = n.ents) (hI : g' (kI n.ino) = some (inoW π n')) (hB : ∀ w,0 ≤ w ∧ w ≤ 65535 → g' (kD n.ino w) = blkG n'.data w) (hO : ∀ k,k ≠ kI n.ino → (∀ w,0 ≤ w ∧ w ≤ 65535 → k ≠ kD n.ino w) → g' k = g k) : RG (withM F n') π g' := by
 have hm := node_mem hn
 have hmem : ∀ z,z ∈ withM F n' ↔ z = n' ∨ (z ∈ F ∧ z.ino ≠ n.ino) := fun z => by rw [mem_with b.nod hm.1 hi.symm,hi]
 have hni := b.ino n hm.1
 have hE : ∀ y ∈ F,∀ e ∈ y.ents,g' (kE y.ino e.name) = g (kE y.ino e.name) := fun y hy e hye => by
  have hyb := b.ino y hy
  exact hO _ (kIE (by omega) hni.2 (by omega) hyb.2 (b.name y hy e hye)).symm (fun w hw => kED (by omega) hyb.2 (by omega) hni.2 (b.name y hy e hye) hw)
 refine ⟨fun k hk => ?_,fun z hz => ?_,fun z hz e hez => ?_,fun z hz w hw => ?_⟩
 ·by_cases hq : k = kI n.ino
  ·exact .inl ⟨n',(hmem n').2 (.inl rfl),by rw [hi]; exact hq⟩
  ·by_cases hD : ∃ w,(0 ≤ w ∧ w ≤ 65535) ∧ k = kD n.ino w
   ·obtain ⟨w,hw,hkw⟩ := hD
    rw [hkw,hB w hw] at hk
    exact .inr (.inr ⟨n',(hmem n').2 (.inl rfl),w,hw,by rw [hi]; exact hkw,hk⟩)
   ·have hD2 : ∀ w,0 ≤ w ∧ w ≤ 65535 → k ≠ kD n.ino w := fun w hw e => hD ⟨w,hw,e⟩
    rw [hO k hq hD2] at hk
    rcases h.keys k hk with ⟨m,h3,h4⟩ | ⟨m,h3,e,h4,h5⟩ | ⟨m,h3,w,h4,h5,h6⟩
    ·exact .inl ⟨m,(hmem m).2 (.inr ⟨h3,fun e => hq (by rw [h4,e])⟩),h4⟩
    ·by_cases hmn : m.ino = n.ino
     ·have : m = n := nod_eq b.nod h3 hm.1 hmn
      subst this
      exact .inr (.inl ⟨n',(hmem n').2 (.inl rfl),e,by rw [he]; exact h4,by rw [hi]; exact h5⟩)
     ·exact .inr (.inl ⟨m,(hmem m).2 (.inr ⟨h3,hmn⟩),e,h4,h5⟩)
    ·exact .inr (.inr ⟨m,(hmem m).2 (.inr ⟨h3,fun e => hD2 w h4 (by rw [h5,e])⟩),w,h4,h5,h6⟩)
 ·rcases (hmem z).1 hz with rfl | ⟨hz,hzn⟩
  ·left
   rw [hi]
   exact hI
  ·have hzi := b.ino z hz
   have hq : ∀ j,1 ≤ j → j ≤ 4294967295 → j ≠ n.ino → g' (kI j) = g (kI j) := fun j a c d => hO _ (fun e => d (kI_inj (by omega) c (by omega) hni.2 e)) (fun w hw => kID (by omega) c (by omega) hni.2 hw)
   rcases h.inos z hz with h3 | ⟨h3,h4,h5,h6⟩
   ·left
    rw [hq z.ino hzi.1 hzi.2 hzn]
    exact h3
   ·right
    exact ⟨h3,h4,h5,by rw [hq 1 (by omega) (by omega) (by rw [← h3]; exact hzn)]; exact h6⟩
 ·obtain ⟨y,hy,hyi,hye⟩ : ∃ y ∈ F,y.ino = z.ino ∧ e ∈ y.ents := by
   rcases (hmem z).1 hz with rfl | ⟨hz,_⟩
   ·exact ⟨n,hm.1,hi.symm,by rw [← he]; exact hez⟩
   ·exact ⟨z,hz,rfl,hez⟩
  rw [← hyi,hE y hy e hye]
  exact h.ents y hy e hye
 ·rcases (hmem z).1 hz with rfl | ⟨hz,hzn⟩
  ·rw [hi]
   exact hB w hw
  ·have hzi := b.ino z hz
   rw [hO _ (kID (by omega) hni.2 (by omega) hzi.2 hw).symm (fun v hv e => hzn (kD_inj (by omega) hzi.2 (by omega) hni.2 hw hv e).1)]
   exact h.blks z hz w hw
theorem RG.gone_ (h : RG F π g) (b : Bs F) {g' : Gf} {i : Int} {n : Nd} (hn : nodeM F i = some n) (he : n.ents = []) (hI : g' (kI i) = none) (hB : ∀ w,0 ≤ w ∧ w ≤ 65535 → g' (kD i w) = none) (hO : ∀ k,k ≠ kI i → (∀ w,0 ≤ w ∧ w ≤ 65535 → k ≠ kD i w) → g' k = g k) : RG (withoutM F i) π g' := by
 have hm := node_mem hn
 have hni := b.ino n hm.1
 rw [hm.2] at hni
 have hq : ∀ j,1 ≤ j → j ≤ 4294967295 → j ≠ i → g' (kI j) = g (kI j) := fun j a c d => hO _ (fun e => d (kI_inj (by omega) c (by omega) hni.2 e)) (fun w hw => kID (by omega) c (by omega) hni.2 hw)
 refine ⟨fun k hk => ?_,fun z hz => ?_,fun z hz e hez => ?_,fun z hz w hw => ?_⟩
 ·have hqI : k ≠ kI i := fun e => hk (by rw [e]; exact hI)
  have hqD : ∀ w,0 ≤ w ∧ w ≤ 65535 → k ≠ kD i w := fun w hw e => hk (by rw [e]; exact hB w hw)
  rw [hO k hqI hqD] at hk
  rcases h.keys k hk with ⟨m,h3,h4⟩ | ⟨m,h3,e,h4,h5⟩ | ⟨m,h3,w,h4,h5,h6⟩
  ·exact .inl ⟨m,mem_wo.2 ⟨h3,fun e => hqI (by rw [h4,e])⟩,h4⟩
  ·refine .inr (.inl ⟨m,mem_wo.2 ⟨h3,fun hmi => ?_⟩,e,h4,h5⟩)
   have : m = n := nod_eq b.nod h3 hm.1 (by rw [hmi,hm.2])
   rw [this,he] at h4
   cases h4
  ·exact .inr (.inr ⟨m,mem_wo.2 ⟨h3,fun e => hqD w h4 (by rw [h5,e])⟩,w,h4,h5,h6⟩)
 ·have hz' := mem_wo.1 hz
  have hzi := b.ino z hz'.1
  rcases h.inos z hz'.1 with h3 | ⟨h3,h4,h5,h6⟩
  ·left
   rw [hq z.ino hzi.1 hzi.2 hz'.2]
   exact h3
  ·right
   exact ⟨h3,h4,h5,by rw [hq 1 (by omega) (by omega) (by rw [← h3]; exact hz'.2)]; exact h6⟩
 ·have hz' := mem_wo.1 hz
  have hzi := b.ino z hz'.1
  rw [hO _ (kIE (by omega) hni.2 (by omega) hzi.2 (b.name z hz'.1 e hez)).symm (fun w hw => kED (by omega) hzi.2 (by omega) hni.2 (b.name z hz'.1 e hez) hw)]
  exact h.ents z hz'.1 e hez
 ·have hz' := mem_wo.1 hz
  have hzi := b.ino z hz'.1
  rw [hO _ (kID (by omega) hni.2 (by omega) hzi.2 hw).symm (fun v hv e => hz'.2 (kD_inj (by omega) hzi.2 (by omega) hni.2 hw hv e).1)]
  exact h.blks z hz'.1 w hw
theorem RG.congr {F' : Fs} (h : RG F π g) (hm : ∀ z,z ∈ F' ↔ z ∈ F) : RG F' π g :=
 ⟨fun k hk => by
   rcases h.keys k hk with ⟨n,h1,h2⟩ | ⟨n,h1,e,h2,h3⟩ | ⟨n,h1,w,h2,h3⟩
   ·exact .inl ⟨n,(hm n).2 h1,h2⟩
   ·exact .inr (.inl ⟨n,(hm n).2 h1,e,h2,h3⟩)
   ·exact .inr (.inr ⟨n,(hm n).2 h1,w,h2,h3⟩),fun n hn => h.inos n ((hm n).1 hn),fun n hn => h.ents n ((hm n).1 hn),fun n hn => h.blks n ((hm n).1 hn)⟩
end
end Go.Proofs.YtogdjbhjgbnicaaGreatDoor.DirsX
namespace Go.Proofs.YtogdjbhjgbnicaaGreatDoor.FileN
open Byte PackM KeysM TreeM ViewKm WalkM WalkF WalkKm DirsV DirsX FileM FileV
open NodeM hiding gk
open ViewM hiding putP
def pf (l : List Int) : Nat → Int := fun i => l.getD i 0
theorem pf_far {l : List Int} {i : Nat} (h : l.length ≤ i) : l.getD i 0 = 0 := by
 rw [List.getD_eq_getElem?_getD,List.getElem?_eq_none h]; rfl
theorem app0_get (x : List Int) (k i : Nat) (hi : i < (x ++ List.replicate k 0).length) : (x ++ List.replicate k (0 : Int))[i] = x.getD i 0 := by
 rw [List.getElem_append]
 split
 ·rename_i h
  rw [List.getD_eq_getElem?_getD,List.getElem?_eq_getElem h]; rfl
 ·rename_i h
  rw [List.getElem_replicate,pf_far (by omega)]
theorem cut0_ext {l m : List Int} (h : ∀ i,l.getD i 0 = m.getD i 0) : cut0 l = cut0 m := by
 rw [← cut0_app0 l m.length,← cut0_app0 m l.length]
 congr 1
 refine List.ext_getElem (by simp; omega) (fun i h1 h2 => ?_)
 rw [app0_get,app0_get]
 exact h i
theorem take_get (l : List Int) (n i : Nat) : (l.take n).getD i 0 = if i < n then l.getD i 0 else 0 := by
 rw [List.getD_eq_getElem?_getD,List.getElem?_take]
 split
 ·rw [List.getD_eq_getElem?_getD]
 ·rfl
theorem drop_get (l : List Int) (n i : Nat) : (l.drop n).getD i 0 = l.getD (n + i) 0 := by
 rw [List.getD_eq_getElem?_getD,List.getElem?_drop,List.getD_eq_getElem?_getD]
theorem app_get (l m : List Int) (i : Nat) : (l ++ m).getD i 0 = if i < l.length then l.getD i 0 else m.getD (i - l.length) 0 := by
 rw [List.getD_eq_getElem?_getD]
 split
 ·rename_i h
  rw [List.getElem?_append_left h,List.getD_eq_getElem?_getD]
 ·rename_i h
  rw [List.getElem?_append_right (by omega),List.getD_eq_getElem?_getD]
theorem rep_get (k i : Nat) : (List.replicate k (0 : Int)).getD i 0 = 0 := by
 rw [List.getD_eq_getElem?_getD,List.getElem?_replicate]
 split <;> rfl
theorem cut0_get (l : List Int) (i : Nat) : (cut0 l).getD i 0 = l.getD i 0 := by
 obtain ⟨k,hk⟩ := cut0_spec l
 conv => rhs; rw [hk]
 rw [app_get]
 split
 ·rfl
 ·rw [rep_get,pf_far (by omega)]
def bfun (φ : Nat → Int) (q : Nat) : List Int := (List.range 64).map fun i => φ (64 * q + i)
theorem bfun_len (φ : Nat → Int) (q : Nat) : (bfun φ q).length = 64 := by unfold bfun; simp
theorem bfun_get (φ : Nat → Int) (q i : Nat) : (bfun φ q).getD i 0 = if i < 64 then φ (64 * q + i) else 0 := by
 split
 ·rename_i h
  unfold bfun
  rw [List.getD_eq_getElem?_getD,List.getElem?_map,List.getElem?_range h]; rfl
 ·rename_i h
  exact pf_far (by rw [bfun_len]; omega)
theorem bfun_congr {φ ψ : Nat → Int} {q : Nat} (h : ∀ i,i < 64 → φ (64 * q + i) = ψ (64 * q + i)) : bfun φ q = bfun ψ q := by
 unfold bfun
 exact List.map_congr_left fun i hi => h i (List.mem_range.1 hi)
def bG (φ : Nat → Int) (w : Int) : Option ByteArray := if cut0 (bfun φ w.toNat) = [] then none else some (str (cut0 (bfun φ w.toNat)))
theorem bG_congr {φ ψ : Nat → Int} {w : Int} (h : ∀ i,i < 64 → φ (64 * w.toNat + i) = ψ (64 * w.toNat + i)) : bG φ w = bG ψ w := by unfold bG; rw [bfun_congr h]
theorem blkL_fun (d : ByteArray) (w : Nat) : blkL d w = cut0 (bfun (pf (txt d)) w) := by
 unfold blkL
 refine cut0_ext fun i => ?_
 rw [take_get,drop_get,bfun_get]
 rfl
theorem blkG_fun (d : ByteArray) (w : Int) : blkG d w = bG (pf (txt d)) w := by
 unfold blkG bG
 rw [blkL_fun]
def Byt (φ : Nat → Int) : Prop := ∀ i,0 ≤ φ i ∧ φ i ≤ 255
theorem byt_pf {l : List Int} (h : ∀ x ∈ l,0 ≤ x ∧ x ≤ 255) : Byt (pf l) := fun i => by
 unfold pf
 rw [List.getD_eq_getElem?_getD]
 cases e : l[i]? with
 | none => exact ⟨by decide,by decide⟩
 | some x => exact h x (List.mem_of_getElem? e)
theorem bfun_bd {φ : Nat → Int} (h : Byt φ) (q : Nat) : ∀ x ∈ bfun φ q,0 ≤ x ∧ x ≤ 255 := fun x hx => by
 unfold bfun at hx
 obtain ⟨i,_,rfl⟩ := List.mem_map.1 hx
 exact h _
def Blks (g : Gf) (ino : Int) (φ : Nat → Int) : Prop := ∀ w,0 ≤ w ∧ w ≤ 65535 → g (kD ino w) = bG φ w
theorem val_fun {φ : Nat → Int} (h : Byt φ) (w : Int) : valL (bG φ w) = cut0 (bfun φ w.toNat) := by
 unfold bG
 split
 ·rename_i e; rw [e]; rfl
 ·exact txt_str _ (fun x hx => bfun_bd h _ x (cut0_mem hx))
theorem pad_self {n : Nat} {l : List Int} (h : l.length = n) : pad n l = l := by
 unfold pad
 rw [← h,List.take_left']
 rfl
section
variable {L : List Pr} {ino : Int} {φ : Nat → Int}
theorem getB_fun (h : Blks (DirsX.gk L) ino φ) (hb : Byt φ) {q : Int} (hq : 0 ≤ q ∧ q ≤ 65535) : getB L ino q = bfun φ q.toNat := by
 have h1 := h q hq
 unfold DirsX.gk at h1
 unfold getB
 rw [h1,val_fun hb,pad_cut0,pad_self (bfun_len _ _)]
theorem valB_fun (h : Blks (DirsX.gk L) ino φ) (hb : Byt φ) {q : Int} (hq : 0 ≤ q ∧ q ≤ 65535) : valB L ino q = cut0 (bfun φ q.toNat) := by
 have h1 := h q hq
 unfold DirsX.gk at h1
 unfold valB
 rw [h1,val_fun hb]
def putF (φ : Nat → Int) (a : Nat) (xs : List Int) : Nat → Int := fun i => if a ≤ i ∧ i < a + xs.length then xs.getD (i - a) 0 else φ i
theorem putF_nil (φ : Nat → Int) (a : Nat) : putF φ a [] = φ := by
 funext i
 exact if_neg (by rw [List.length_nil]; omega)
theorem putF_app (φ : Nat → Int) (a : Nat) (xs ys : List Int) : putF (putF φ a xs) (a + xs.length) ys = putF φ a (xs ++ ys) := by
 funext i
 unfold putF
 rw [List.length_append,app_get]
 by_cases h1 : a + xs.length ≤ i ∧ i < a + xs.length + ys.length
 ·rw [if_pos h1,if_pos (by omega),if_neg (by omega)]
  congr 1
  omega
 ·rw [if_neg h1]
  by_cases h2 : a ≤ i ∧ i < a + xs.length
  ·rw [if_pos h2,if_pos (by omega),if_pos (by omega)]
  ·rw [if_neg h2,if_neg (by omega)]
theorem byt_putF (h : Byt φ) {a : Nat} {xs : List Int} (hx : ∀ x ∈ xs,0 ≤ x ∧ x ≤ 255) : Byt (putF φ a xs) := fun i => by
 unfold putF
 split
 ·exact byt_pf hx _
 ·exact h i
theorem setB_get (l xs : List Int) (f i : Nat) (h : f ≤ l.length) : (setB l xs f).getD i 0 = putF (pf l) f xs i := by
 unfold setB putF pf
 rw [app_get,List.length_take,take_get,app_get,drop_get]
 by_cases h1 : i < f
 ·rw [if_pos (by omega),if_pos h1,if_neg (by omega)]
 ·rw [if_neg (by omega)]
  by_cases h2 : i < f + xs.length
  ·rw [if_pos (by omega),if_pos (by omega)]
   congr 1
   omega
  ·rw [if_neg (by omega),if_neg (by omega)]
   congr 1
   omega
theorem setB_fun (φ : Nat → Int) (q f : Nat) (xs : List Int) (h : f + xs.length ≤ 64) : setB (bfun φ q) xs f = bfun (putF φ (64 * q + f) xs) q := by
 have e : (setB (bfun φ q) xs f).length = 64 := by rw [setB_len _ _ _ (by rw [bfun_len]; exact h),bfun_len]
 refine List.ext_getElem (by rw [e,bfun_len]) (fun i h1 h2 => ?_)
 have a1 : (setB (bfun φ q) xs f).getD i 0 = (setB (bfun φ q) xs f)[i] := by rw [List.getD_eq_getElem?_getD,List.getElem?_eq_getElem h1]; rfl
 have a2 : (bfun (putF φ (64 * q + f) xs) q).getD i 0 = (bfun (putF φ (64 * q + f) xs) q)[i] := by rw [List.getD_eq_getElem?_getD,List.getElem?_eq_getElem h2]; rfl
 have hi : i < 64 := by rw [bfun_len] at h2; exact h2
 rw [← a1,← a2,setB_get _ _ _ _ (by rw [bfun_len]; omega),bfun_get,if_pos hi]
 unfold putF pf
 rw [bfun_get,if_pos hi]
 by_cases h3 : f ≤ i ∧ i < f + xs.length
 ·rw [if_pos h3,if_pos (by omega)]
  congr 1
  omega
 ·rw [if_neg h3,if_neg (by omega)]
theorem wr_one (h : Blks (DirsX.gk L) ino φ) (hb : Byt φ) (hr : Rise L) (i0 : 0 ≤ ino) (i1 : ino ≤ 4294967295) {q f m : Int} (hq : 0 ≤ q ∧ q ≤ 65535) (f0 : 0 ≤ f) {ys : List Int} (hm : f.toNat + ys.length ≤ 64) : Blks (DirsX.gk (doneW L (wrP ino (q,f,m) ys L))) ino (putF φ (64 * q.toNat + f.toNat) ys) := fun w hw => by
 rw [gk_done hr]
 unfold wrP putP
 dsimp only
 rw [getB_fun h hb hq,setB_fun _ _ _ _ hm]
 by_cases e : w = q
 ·subst e
  rw [show kD ino w = (⟨kD ino w,str (cut0 (bfun (putF φ (64 * w.toNat + f.toNat) ys) w.toNat)),decide (cut0 (bfun (putF φ (64 * w.toNat + f.toNat) ys) w.toNat) = [])⟩ : Pr).key from rfl,setG_same]
  unfold bG
  dsimp only
  by_cases hz : cut0 (bfun (putF φ (64 * w.toNat + f.toNat) ys) w.toNat) = []
  ·rw [if_pos hz,if_pos (by rw [decide_eq_true hz])]
  ·rw [if_neg hz,if_neg (by rw [decide_eq_false hz]; decide)]
 ·rw [setG_ne _ (fun e2 => e (kD_inj i0 i1 i0 i1 hw hq e2).2),h w hw]
  refine bG_congr fun i hi => ?_
  unfold putF
  rw [if_neg (by omega)]
theorem wr_off (hr : Rise L) {q f m : Int} {ys : List Int} {k : ByteArray} (hk : k ≠ kD ino q) : DirsX.gk (doneW L (wrP ino (q,f,m) ys L)) k = DirsX.gk L k := by
 rw [gk_done hr]
 exact setG_ne _ hk
theorem wrs_blks (i0 : 0 ≤ ino) (i1 : ino ≤ 4294967295) : ∀ (fu : Nat) {a n : Int} {xs : List Int} {L : List Pr} {φ : Nat → Int},0 ≤ a → a + n ≤ 4096 → n ≤ fu → (xs.length : Int) = max n 0 → (∀ x ∈ xs,0 ≤ x ∧ x ≤ 255) → Byt φ → Rise L → Blks (DirsX.gk L) ino φ →
 Blks (DirsX.gk (outW L (wrPs ino xs (cuts fu a n)))) ino (putF φ a.toNat xs) ∧ ∀ k,(∀ w,0 ≤ w ∧ w ≤ 65535 → k ≠ kD ino w) → DirsX.gk (outW L (wrPs ino xs (cuts fu a n))) k = DirsX.gk L k := by
 intro fu
 induction fu with
 | zero =>
   intro a n xs L φ a0 h1 h2 hx hxb hb hr h
   have : xs = [] := List.eq_nil_of_length_eq_zero (by omega)
   subst this
   rw [putF_nil]
   exact ⟨h,fun _ _ => rfl⟩
 | succ fu ih =>
   intro a n xs L φ a0 h1 h2 hx hxb hb hr h
   unfold cuts
   by_cases hn : n ≤ 0
   ·have : xs = [] := List.eq_nil_of_length_eq_zero (by omega)
    subst this
    rw [if_pos hn,putF_nil]
    exact ⟨h,fun _ _ => rfl⟩
   ·rw [if_neg hn]
    obtain ⟨m,hm⟩ : ∃ m : Nat,min n (64 - a % 64) = m := ⟨(min n (64 - a % 64)).toNat,by omega⟩
    rw [hm]
    have e1 : (xs.take m).length = m := by rw [List.length_take]; omega
    have hq : 0 ≤ a / 64 ∧ a / 64 ≤ 65535 := by omega
    have A := wr_one (m := (m : Int)) (f := a % 64) (ys := xs.take m) h hb hr i0 i1 hq (by omega) (by omega)
    have e2 : 64 * (a / 64).toNat + (a % 64).toNat = a.toNat := by omega
    rw [e2] at A
    have B := ih (a := a + m) (n := n - m) (xs := xs.drop m) (by omega) (by omega) (by omega) (by rw [List.length_drop]; omega) (fun x hx => hxb x (List.mem_of_mem_drop hx)) (byt_putF hb (a := a.toNat) (fun x hx => hxb x (List.mem_of_mem_take hx))) (rise_done hr _) A
    have e3 : (a + m).toNat = a.toNat + (xs.take m).length := by omega
    rw [e3,putF_app,List.take_append_drop] at B
    have e4 : wrPs ino xs ((a / 64,a % 64,(m : Int)) :: cuts fu (a + m) (n - m)) = wrP ino (a / 64,a % 64,(m : Int)) (xs.take m) :: wrPs ino (xs.drop m) (cuts fu (a + m) (n - m)) := by
     show wrP ino (a / 64,a % 64,(m : Int)) (xs.take (m : Int).toNat) :: wrPs ino (xs.drop (m : Int).toNat) _ = _
     rw [Int.toNat_natCast]
    rw [e4]
    refine ⟨B.1,fun k hk => ?_⟩
    rw [show outW L (wrP ino (a / 64,a % 64,(m : Int)) (xs.take m) :: wrPs ino (xs.drop m) (cuts fu (a + m) (n - m))) = outW (doneW L (wrP ino (a / 64,a % 64,(m : Int)) (xs.take m) L)) (wrPs ino (xs.drop m) (cuts fu (a + m) (n - m))) from rfl,B.2 k hk]
    exact wr_off hr (hk _ hq)
theorem gk_dels : ∀ (ks : List ByteArray) {L : List Pr},Rise L → ∀ k,(k ∈ ks → DirsX.gk (outW L (ks.map delP)) k = none) ∧ (¬ k ∈ ks → DirsX.gk (outW L (ks.map delP)) k = DirsX.gk L k)
 | [],L,hr,k => ⟨fun h => (by cases h),fun _ => rfl⟩
 | x :: ks,L,hr,k => by
   have ih := gk_dels ks (rise_done hr (delP x L)) k
   rw [List.map_cons,show outW L (delP x :: ks.map delP) = outW (doneW L (delP x L)) (ks.map delP) from rfl]
   rw [gk_done hr] at ih
   constructor
   ·intro h
    by_cases h1 : k ∈ ks
    ·exact ih.1 h1
    ·rcases List.mem_cons.1 h with h2 | h2
     ·subst h2
      rw [ih.2 h1]
      exact (setG_same (DirsX.gk L) (delP k L)).trans rfl
     ·exact absurd h2 h1
   ·intro h
    rw [ih.2 (fun h1 => h (List.mem_cons_of_mem _ h1))]
    exact setG_ne _ (fun e => h (by rw [show k = x from e]; exact List.mem_cons_self ..))
theorem drp_map (L : List Pr) (ino from_ : Int) : drpPs L ino from_ = ((L.filter (blkF ino from_)).map (·.key)).map delP := by
 unfold drpPs
 rw [List.map_map]
 rfl
theorem drp_mem (hr : Rise L) (i0 : 0 ≤ ino) (i1 : ino ≤ 4294967295) {from_ w : Int} (hw : 0 ≤ w ∧ w ≤ 65535) : kD ino w ∈ (L.filter (blkF ino from_)).map (·.key) ↔ DirsX.gk L (kD ino w) ≠ none ∧ from_ ≤ w := by
 have es := sp_D ino w i0 i1 hw.1 hw.2
 constructor
 ·intro h
  obtain ⟨p,h1,h2⟩ := List.mem_map.1 h
  obtain ⟨h3,h4⟩ := List.mem_filter.1 h1
  unfold blkF at h4
  rw [h2,es] at h4
  simp at h4
  refine ⟨?_,h4⟩
  unfold DirsX.gk
  rw [(get_iff hr).2 ⟨h3,h2⟩]
  simp
 ·rintro ⟨h1,h2⟩
  cases hg : getL (kD ino w) L with
  | none => unfold DirsX.gk at h1; rw [hg] at h1; exact absurd rfl h1
  | some p =>
    have h3 := (get_iff hr).1 hg
    refine List.mem_map.2 ⟨p,List.mem_filter.2 ⟨h3.1,?_⟩,h3.2⟩
    unfold blkF
    rw [h3.2,es]
    simp
    exact h2
theorem bG_zero {φ : Nat → Int} {w : Int} (h : ∀ i,i < 64 → φ (64 * w.toNat + i) = 0) : bG φ w = none := by
 unfold bG
 refine if_pos (cut0_nil_iff.2 fun x hx => ?_)
 unfold bfun at hx
 obtain ⟨i,hi,rfl⟩ := List.mem_map.1 hx
 exact h i (List.mem_range.1 hi)
theorem drop_blks (h : Blks (DirsX.gk L) ino φ) (hr : Rise L) (i0 : 0 ≤ ino) (i1 : ino ≤ 4294967295) {z : Int} (z0 : 0 ≤ z) :
 Blks (DirsX.gk (outW L (drpPs L ino z))) ino (fun i => if i < 64 * z.toNat then φ i else 0) := fun w hw => by
 rw [drp_map]
 have q := gk_dels ((L.filter (blkF ino z)).map (·.key)) hr (kD ino w)
 by_cases hz : z ≤ w
 ·rw [bG_zero (fun i _ => if_neg (by omega))]
  by_cases hg : DirsX.gk L (kD ino w) = none
  ·rw [q.2 (fun e => ((drp_mem hr i0 i1 hw).1 e).1 hg),hg]
  ·exact q.1 ((drp_mem hr i0 i1 hw).2 ⟨hg,hz⟩)
 ·rw [q.2 (fun e => hz ((drp_mem hr i0 i1 hw).1 e).2),h w hw]
  exact bG_congr fun i hi => (if_pos (by omega)).symm
theorem drop_off (hr : Rise L) {z : Int} {k : ByteArray} (hk : ∀ p ∈ L,p.key = k → blkF ino z p = false) : DirsX.gk (outW L (drpPs L ino z)) k = DirsX.gk L k := by
 rw [drp_map]
 refine (gk_dels ((L.filter (blkF ino z)).map (·.key)) hr k).2 (fun h => ?_)
 obtain ⟨p,h1,h2⟩ := List.mem_map.1 h
 obtain ⟨h3,h4⟩ := List.mem_filter.1 h1
 rw [hk p h3 h2] at h4
 cases h4
theorem sho_blks (h : Blks (DirsX.gk L) ino φ) (hb : Byt φ) (hr : Rise L) (i0 : 0 ≤ ino) (i1 : ino ≤ 4294967295) {z : Int} (z0 : 0 ≤ z) (z1 : z ≤ 4096) :
 Blks (DirsX.gk (outW L (shoPs L ino z))) ino (fun i => if z.toNat ≤ i ∧ i < 64 * (z / 64).toNat + 64 then 0 else φ i) := fun w hw => by
 have hq : 0 ≤ z / 64 ∧ z / 64 ≤ 65535 := by omega
 unfold shoPs
 rw [valB_fun h hb hq]
 by_cases hs : (cut0 (bfun φ (z / 64).toNat)).length ≤ (z % 64).toNat
 ·rw [if_pos hs]
  show DirsX.gk L _ = _
  rw [h w hw]
  refine bG_congr fun i hi => ?_
  split
  ·rename_i hc
   have e : w.toNat = (z / 64).toNat := by omega
   rw [e] at hc ⊢
   have h1 := cut0_get (bfun φ (z / 64).toNat) i
   rw [pf_far (by omega),bfun_get,if_pos hi] at h1
   exact h1.symm
  ·rfl
 ·rw [if_neg hs]
  show DirsX.gk (doneW L (putP ino (z / 64) ((cut0 (bfun φ (z / 64).toNat)).take (z % 64).toNat) L)) _ = _
  rw [gk_done hr]
  unfold putP
  have e9 : cut0 ((cut0 (bfun φ (z / 64).toNat)).take (z % 64).toNat) = cut0 (bfun (fun i => if z.toNat ≤ i ∧ i < 64 * (z / 64).toNat + 64 then 0 else φ i) (z / 64).toNat) := cut0_ext fun i => by
   rw [take_get,cut0_get,bfun_get,bfun_get]
   by_cases h1 : i < 64
   ·rw [if_pos h1,if_pos h1]
    by_cases h2 : i < (z % 64).toNat
    ·rw [if_pos h2,if_neg (by omega)]
    ·rw [if_neg h2,if_pos (by omega)]
   ·rw [if_neg h1,if_neg h1]
    split <;> rfl
  by_cases e : w = z / 64
  ·subst e
   rw [show kD ino (z / 64) = (⟨kD ino (z / 64),str (cut0 ((cut0 (bfun φ (z / 64).toNat)).take (z % 64).toNat)),decide (cut0 ((cut0 (bfun φ (z / 64).toNat)).take (z % 64).toNat) = [])⟩ : Pr).key from rfl,setG_same,e9]
   unfold bG
   dsimp only
   by_cases hz : cut0 (bfun (fun i => if z.toNat ≤ i ∧ i < 64 * (z / 64).toNat + 64 then 0 else φ i) (z / 64).toNat) = []
   ·rw [if_pos hz,if_pos (by rw [decide_eq_true hz])]
   ·rw [if_neg hz,if_neg (by rw [decide_eq_false hz]; decide)]
  ·rw [setG_ne _ (fun e2 => e (kD_inj i0 i1 i0 i1 hw hq e2).2),h w hw]
   exact bG_congr fun i hi => (if_neg (by omega)).symm
theorem sho_off (hr : Rise L) {z : Int} (hq : 0 ≤ z / 64 ∧ z / 64 ≤ 65535) {k : ByteArray} (hk : ∀ w,0 ≤ w ∧ w ≤ 65535 → k ≠ kD ino w) : DirsX.gk (outW L (shoPs L ino z)) k = DirsX.gk L k := by
 unfold shoPs
 split
 ·rfl
 ·show DirsX.gk (doneW L _) _ = _
  rw [gk_done hr]
  exact setG_ne _ (hk _ hq)
end
end Go.Proofs.YtogdjbhjgbnicaaGreatDoor.FileN
namespace Go.Proofs.YtogdjbhjgbnicaaGreatDoor.FileKe
open Go.RowKit
open Byte PackM KeysM KeysL TreeR ViewM ViewKm NodeM NodeL NodeK WalkM WalkF WalkKm DirsV FileM FileV FileN Lst Chg TreeL ViewL WalkL WalkV Vat DirsK DirsKa Cpy FileKa FileKb FileKd
open TreeM hiding cutL
open Own hiding keeps
variable {Rep : RepT}
def V64 (L : List Pr) (ino : Int) : Prop := ∀ q,0 ≤ q → q ≤ 65535 → (valL ((getL (kD ino q) L).map (·.value))).length ≤ 64
theorem v64_done {L : List Pr} (hr : Rise L) {ino : Int} (h : V64 L ino) {p : Pr} (hp : p.value.size ≤ 64) : V64 (doneW L p) ino := fun q q0 q1 => by
 have e : (getL (kD ino q) (doneW L p)).map (·.value) = DirsX.setG (DirsX.gk L) p (kD ino q) := congrFun (DirsX.gk_done hr p) _
 rw [e]
 unfold DirsX.setG
 split
 ·split
  ·exact Nat.zero_le _
  ·show (txt p.value).length ≤ 64
   rw [txt_len]; exact hp
 ·exact h q q0 q1
theorem v64_write {s : Vs} (ho : s.Ok) {ino : Int} (h : V64 s.shown ino) {p : Pr} (hp : p.value.size ≤ 64) : V64 (s.write p).shown ino := by
 unfold Vs.write
 split
 ·exact h
 ·show V64 (shownL s.base (writeW s.base s.wr p)) ino
  rw [shown_write ho.base ho.wr]
  exact v64_done (rise_shown ho.base _) h hp
theorem go_one (s : Vs) (p : Wrt) : (goW s [p]).1 = s.write (p s.shown) := by
 cases hf : fullW s.wr (p s.shown) with
 | true => rw [goW_full hf,write_room hf]
 | false => rw [goW_room hf]; rfl
theorem aft_one {s s' : Vs} {p q : Wrt} {k m : Nat} (e : p s.shown = q s.shown) (h : Aft s s' [p] k m) : Aft s s' [q] k m := by
 have : goW s [p] = goW s [q] := by unfold goW; rw [e]
 exact ⟨by rw [← this]; exact h.sm,h.rd,h.rg⟩
theorem one_same {s : Vs} {p q : Wrt} (e : p s.shown = q s.shown) : (goW s [p]).2 = (goW s [q]).2 := by rw [one_ok,one_ok,e]
theorem bs_stp {w w' : World} {S : Nat → Prop} {A : Option Addr} {n : Nat} {xs : List Int} (h : Bs w A n xs) (k : Chg S w w') (hA : ∀ b o,A = some ⟨b,o,none⟩ → ¬ S b) : Bs w' A n xs := by
 refine ⟨h.1,h.2.1,fun i hi => ?_⟩
 obtain ⟨b,o,e,hlt,hc⟩ := h.2.2 i hi
 exact ⟨b,o,e,Nat.lt_of_lt_of_le hlt k.size,k.cell (p := ⟨b,o + i,none⟩) hc (hA b o e)⟩
theorem bs_back {w : World} {b o n : Nat} {xs : List Int} (h : Bs w (some ⟨b,o,none⟩) n xs) (k : Nat) (hk : k ≤ n) : Bs w (some ⟨b,o + k,none⟩) (n - k) (xs.drop k) := by
 refine ⟨by rw [List.length_drop,h.1],fun x hx => h.2.1 x (List.mem_of_mem_drop hx),fun i hi => ?_⟩
 obtain ⟨b',o',e,hlt,hc⟩ := h.2.2 (k + i) (by omega)
 injection e with e
 injection e with e1 e2
 subst e1 e2
 exact ⟨b,o + k,rfl,hlt,by rw [Nat.add_assoc,hc,drop_get]⟩
def sumP (P : List (Int × Int × Int)) : Nat := (P.map fun p => p.2.2.toNat).sum
theorem sum_cuts : ∀ (f : Nat) {a n : Int},0 ≤ a → n ≤ f → sumP (cuts f a n) = n.toNat
 | 0,a,n,_,h => by rw [show n.toNat = 0 by omega]; rfl
 | f + 1,a,n,ha,h => by
   unfold cuts
   split
   ·rw [show n.toNat = 0 by omega]; rfl
   ·have := sum_cuts f (a := a + min n (64 - a % 64)) (n := n - min n (64 - a % 64)) (by omega) (by omega)
    unfold sumP at this ⊢
    rw [List.map_cons,List.sum_cons,this]
    dsimp only
    omega
theorem sum_cut {a n : Int} (a0 : 0 ≤ a) (h : a + n ≤ 4096) : sumP (cutL a n) = n.toNat := by
 unfold cutL
 split
 ·rw [show n.toNat = 0 by omega]; rfl
 ·exact sum_cuts _ a0 (by omega)
theorem sum_drop {P : List (Int × Int × Int)} {k : Nat} {p : Int × Int × Int} (h : P[k]? = some p) : sumP (P.drop k) = p.2.2.toNat + sumP (P.drop (k + 1)) := by
 obtain ⟨hk,he⟩ := List.getElem?_eq_some_iff.1 h
 rw [List.drop_eq_getElem_cons hk,he]
 unfold sumP
 rw [List.map_cons,List.sum_cons]
theorem wrPs_next {ino : Int} {xs : List Int} {P : List (Int × Int × Int)} {k : Nat} {p : Int × Int × Int} (h : P[k]? = some p) : wrPs ino xs (P.drop k) = wrP ino p (xs.take p.2.2.toNat) :: wrPs ino (xs.drop p.2.2.toNat) (P.drop (k + 1)) := by
 obtain ⟨hk,he⟩ := List.getElem?_eq_some_iff.1 h
 rw [List.drop_eq_getElem_cons hk,he]
 rfl
structure WrI (s s' : Vs) (ino : Int) (ys xs : List Int) (P Q : List (Int × Int × Int)) (don : List Wrt) : Prop where
 aft : Aft s s' don 0 0
 ok : (goW s don).2 = true
 all : don ++ wrPs ino ys Q = wrPs ino xs P
 v64 : V64 s'.shown ino
 len : ys.length = sumP Q
theorem WrI.lim {s s' : Vs} {ino : Int} {ys xs : List Int} {P Q : List (Int × Int × Int)} {don : List Wrt} (h : WrI s s' ino ys xs P Q don) (hl : Lim s) : Lim s' := lim_aft h.aft hl (by have := hl.rd; omega) (by have := hl.rg; omega)
theorem put_small (ino which : Int) (b : List Int) (L : List Pr) (h : b.length ≤ 64) : (putP ino which b L).value.size ≤ 64 := by
 show (str (cut0 b)).size ≤ 64
 rw [str_size]
 have := cut0_len b
 omega
theorem WrI.next {s s1 s2 : Vs} {ino : Int} {ys xs : List Int} {P : List (Int × Int × Int)} {k : Nat} {don : List Wrt} {p : Int × Int × Int} {b : List Int} (h : WrI s s1 ino ys xs P (P.drop k) don) (ho : s1.Ok) (hp : P[k]? = some p) (hb : setB (getB s1.shown ino p.1) (ys.take p.2.2.toNat) p.2.1.toNat = b) (hlen : b.length ≤ 64) (ha : Aft s1 s2 [putP ino p.1 b] 0 0) (hg : (goW s1 [putP ino p.1 b]).2 = true) :
 ∃ don',WrI s s2 ino (ys.drop p.2.2.toNat) xs P (P.drop (k + 1)) don' := by
 have e : putP ino p.1 b s1.shown = wrP ino p (ys.take p.2.2.toNat) s1.shown := by unfold wrP; rw [hb]
 have h1 := h.aft.app h.ok (aft_one e ha)
 refine ⟨don ++ [wrP ino p (ys.take p.2.2.toNat)],h1.1,by rw [h1.2,← one_same e]; exact hg,?_,?_,?_⟩
 ·rw [List.append_assoc,← h.all,wrPs_next hp]; rfl
 ·rw [ha.sm.shown,go_one]
  exact v64_write ho h.v64 (put_small _ _ _ _ hlen)
 ·rw [List.length_drop,h.len,sum_drop hp]; omega
theorem WrI.stop {s s1 s2 : Vs} {ino : Int} {ys xs : List Int} {P : List (Int × Int × Int)} {k : Nat} {don : List Wrt} {p : Int × Int × Int} {b : List Int} (h : WrI s s1 ino ys xs P (P.drop k) don) (hp : P[k]? = some p) (hb : setB (getB s1.shown ino p.1) (ys.take p.2.2.toNat) p.2.1.toNat = b) (ha : Aft s1 s2 [putP ino p.1 b] 0 0) (hg : (goW s1 [putP ino p.1 b]).2 = false) :
 Aft s s2 (wrPs ino xs P) 0 0 ∧ (goW s (wrPs ino xs P)).2 = false := by
 have e : putP ino p.1 b s1.shown = wrP ino p (ys.take p.2.2.toNat) s1.shown := by unfold wrP; rw [hb]
 have h1 := h.aft.app h.ok (aft_one e ha)
 have h2 : (goW s (don ++ [wrP ino p (ys.take p.2.2.toNat)])).2 = false := by rw [h1.2,← one_same e]; exact hg
 have h3 := h1.1.stop (qs := wrPs ino (ys.drop p.2.2.toNat) (P.drop (k + 1))) h2
 have e4 : don ++ [wrP ino p (ys.take p.2.2.toNat)] ++ wrPs ino (ys.drop p.2.2.toNat) (P.drop (k + 1)) = wrPs ino xs P := by
  rw [← h.all,wrPs_next hp,List.append_assoc]; rfl
 rw [e4] at h3
 exact h3
theorem WrI.done {s s1 : Vs} {ino : Int} {ys xs : List Int} {P : List (Int × Int × Int)} {k : Nat} {don : List Wrt} (h : WrI s s1 ino ys xs P (P.drop k) don) (hk : P.length ≤ k) : Aft s s1 (wrPs ino xs P) 0 0 ∧ (goW s (wrPs ino xs P)).2 = true := by
 have e : don = wrPs ino xs P := by
  have := h.all
  rw [List.drop_eq_nil_of_le hk] at this
  simpa [wrPs] using this
 rw [← e]
 exact ⟨h.aft,h.ok⟩
theorem slice64l (w : World) (g f : Nat) (h : f ≤ 63) : (Instr.sliceAt 184 (.pointer (some ⟨g,0,none⟩)) (some (.int .i64 (f : Int))) none none).run Tryz.prog w = .ok (.slice (some ⟨g,f,none⟩) (64 - f) (64 - f)) w := by
 have ht : Tryz.prog.underlying 184 = some (.array (Tryz.prog.arrayLen 184) (Tryz.prog.elem 184)) := by kernel_rfl
 have e64 : Tryz.prog.arrayLen 184 = 64 := by kernel_rfl
 have ee : Tryz.prog.elem 184 = 5 := by kernel_rfl
 rw [run_sliceAt_array_l w 184 ⟨g,0,none⟩ ht .i64 (f : Int) (by omega) (by rw [e64]; omega),ee,Tryz.sizeOf5,e64]
 rw [Int.toNat_natCast]
 unfold slicedAt
 show Result.ok (Value.slice (some (if 64 = f then (⟨g,0,none⟩ : Addr) else (⟨g,0,none⟩ : Addr).add (f * 1))) (64 - f) (64 - f)) w = _
 rw [if_neg (by omega),Nat.mul_one]
 simp [Addr.add]
 exact fun h => h.symm
theorem slice64a (w : World) (g : Nat) : (Instr.sliceAt 184 (.pointer (some ⟨g,0,none⟩)) none none none).run Tryz.prog w = .ok (.slice (some ⟨g,0,none⟩) 64 64) w := by
 have ht : Tryz.prog.underlying 184 = some (.array (Tryz.prog.arrayLen 184) (Tryz.prog.elem 184)) := by kernel_rfl
 have e64 : Tryz.prog.arrayLen 184 = 64 := by kernel_rfl
 have ee : Tryz.prog.elem 184 = 5 := by kernel_rfl
 rw [run_sliceAt_array_all w 184 ⟨g,0,none⟩ ht,ee,Tryz.sizeOf5,e64]
 rfl
theorem slice_bh (w : World) (A : Option Addr) (m d q : Nat) (h : q ≤ d) : (Instr.sliceAt 39 (.slice A m d) none (some (.int .i64 (q : Int))) none).run Tryz.prog w = .ok (.slice A q d) w := by
 have ht : Tryz.prog.underlying 39 = some (.slice (Tryz.prog.elem 39)) := by kernel_rfl
 have ee : Tryz.prog.elem 39 = 5 := by kernel_rfl
 rw [run_sliceAt_slice w 39 _ _ _ _ ht,run_slice_h w 39 A m d ht .i64 (q : Int) (by omega) (by omega),ee,Tryz.sizeOf5,Int.toNat_natCast]
 cases A <;> simp [sliced,Addr.add]
theorem slice_bl (w : World) (b o m d q : Nat) (h : q ≤ m) (h2 : m ≤ d) : ∃ A,(Instr.sliceAt 39 (.slice (some ⟨b,o,none⟩) m d) (some (.int .i64 (q : Int))) none none).run Tryz.prog w = .ok (.slice A (m - q) (d - q)) w ∧ (A = some ⟨b,o + q,none⟩ ∨ (m = q ∧ A = some ⟨b,o,none⟩)) := by
 have ht : Tryz.prog.underlying 39 = some (.slice (Tryz.prog.elem 39)) := by kernel_rfl
 have ee : Tryz.prog.elem 39 = 5 := by kernel_rfl
 rw [run_sliceAt_slice w 39 _ _ _ _ ht,run_slice_l w 39 _ m d ht .i64 (q : Int) (by omega) (by omega),ee,Tryz.sizeOf5,Int.toNat_natCast]
 by_cases hd : d = q
 ·exact ⟨some ⟨b,o,none⟩,by simp [sliced,hd],.inr ⟨by omega,rfl⟩⟩
 ·refine ⟨some ⟨b,o + q,none⟩,?_,.inl rfl⟩
  simp [sliced,Addr.add,hd]
  try omega
theorem blk_bs {w : World} {g : Nat} {l : List Int} {T : TypeId} (h : Blk w g (u8A l) T) (hb : ∀ x ∈ l,0 ≤ x ∧ x ≤ 255) : Bs w (some ⟨g,0,none⟩) l.length l := by
 refine ⟨rfl,hb,fun k hk => ⟨g,0,rfl,h.lt,?_⟩⟩
 rw [Nat.zero_add,h.cell k]
 unfold u8A
 rw [List.getElem?_toArray,List.getElem?_map,List.getElem?_eq_getElem hk,List.getD_eq_getElem?_getD,List.getElem?_eq_getElem hk]
 rfl
theorem getB_bd (L : List Pr) (ino q : Int) : ∀ x ∈ getB L ino q,0 ≤ x ∧ x ≤ 255 := fun x hx => by
 have h1 : ∀ x ∈ valL ((getL (kD ino q) L).map (·.value)),0 ≤ x ∧ x ≤ 255 := by
  cases (getL (kD ino q) L).map (·.value) with
  | none => intro x hx; cases hx
  | some t => exact txt_bd t
 unfold getB pad at hx
 rcases List.mem_append.1 (List.mem_of_mem_take hx) with h | h
 ·exact h1 x h
 ·rw [List.eq_of_mem_replicate h]; exact ⟨by decide,by decide⟩
theorem setb_bd {l xs : List Int} {f : Nat} (h : ∀ x ∈ l,0 ≤ x ∧ x ≤ 255) (h2 : ∀ x ∈ xs,0 ≤ x ∧ x ≤ 255) : ∀ x ∈ setB l xs f,0 ≤ x ∧ x ≤ 255 := fun x hx => by
 unfold setB at hx
 rcases List.mem_append.1 hx with h3 | h3
 ·exact h x (List.mem_of_mem_take h3)
 ·rcases List.mem_append.1 h3 with h4 | h4
  ·exact h2 x h4
  ·exact h x (List.mem_of_mem_drop h4)
theorem off_of {w w1 : World} {S D M S' D' : Nat → Prop} {v : Value} {s1 : Vs} {A B : Option Addr} (p : At Rep w S D M w1 v s1 S' D') (hA : ∀ b o,A = some ⟨b,o,none⟩ → ¬ S b ∧ b < w.heap.size) (hB : ∀ b o,B = some ⟨b,o,none⟩ → ∃ o',A = some ⟨b,o',none⟩) : ∀ b o,B = some ⟨b,o,none⟩ → ¬ S' b ∧ b < w.heap.size := fun b o e => by
 obtain ⟨o',e'⟩ := hB b o e
 have h := hA b o' e'
 refine ⟨fun hs => ?_,h.2⟩
 rcases p.st.own b hs with q | q
 ·exact h.1 q
 ·omega
theorem so_off {α : Type} {e : Enc α} {T : TypeId} {w : World} {base n g : Nat} {u : Value} {L : List α} (h : So e T w base u n L) (hg : w.heap.size ≤ g) : u.ownBlock = none ∨ u.ownBlock ≠ some g := by
 cases hv : u.ownBlock with
 | none => exact .inl rfl
 | some k => exact .inr (fun e => by injection e with e; have := (h.lt hv).2; omega)
theorem bs_grown {w w' : World} {A : Option Addr} {n g : Nat} {xs : List Int} (h : Bs w A n xs) (k : w.grownBy w' (some g)) (hA : ∀ b o,A = some ⟨b,o,none⟩ → b ≠ g) : Bs w' A n xs :=
 bs_stp (S := fun b => b = g) h (Chg.of_grown k (fun i e => .inl (by injection e with e; exact e.symm))) hA
theorem write_calls (hW : Wk Rep) (hK : LookOk Rep) (hT : SetOk Rep) {w : World} {v : Value} {s : Vs} {S D : Nat → Prop} (ino a : Int) {A : Option Addr} {n c : Nat} {xs : List Int} (hr : Rep w v s S D) (hl : Lim s) (h0 : 0 ≤ ino) (h1 : ino ≤ 4294967295) (a0 : 0 ≤ a) (an : a + n ≤ 4096) (hx : Bs w A n xs) (hc : n ≤ c) (hbig : c ≤ 9223372036854775807) (hA : ∀ b o,A = some ⟨b,o,none⟩ → ¬ S b ∧ b < w.heap.size) (hv : V64 s.shown ino) :
 Calls Tryz.prog 108 #[v,.int .u32 ino,.int .i64 a,.slice A n c] w (Wrote Rep v s (wrPs ino xs (cutL a n)) 0 0 S D w) := by
 have HG := hQ_ (fun (q : Int) (w1 : World) (s1 : Vs) (S1 D1 : Nat → Prop) (hr1 : Rep w1 v s1 S1 D1) (hl1 : Lim s1) (hv1 : V64 s1.shown ino) (b0 : 0 ≤ q) (b1 : q ≤ 63) => get_calls hW hK ino q hr1 hl1 h0 h1 b0 (by omega) (hv1 q b0 (by omega)))
 have HPT := hQ_ (fun (q : Int) (w1 : World) (s1 : Vs) (S1 D1 : Nat → Prop) (g : Nat) (ys : List Int) (hr1 : Rep w1 v s1 S1 D1) (hl1 : Lim s1) (b0 : 0 ≤ q) (b1 : q ≤ 63) (hx : Bs w1 (some ⟨g,0,none⟩) 64 ys) => put_calls (c := 64) hW hT ino q hr1 hl1 h0 h1 b0 (by omega) hx (Nat.le_refl _) (by omega) (by omega))
 have HC := hQ_ (cut_ok a n w (by omega) (by omega) (by omega) (by omega))
 unfold CutE at HC
 have HS := hQ_ hW.stays
 have A0 := hQ_ (At.start hr)
 have HPO : Hid (∀ p ∈ cutL a n,PcOk p) := hQ_ cutL_ok
 have HI0 : Hid (WrI s s ino xs xs (cutL a n) ((cutL a n).drop 0) []) := hQ_ ⟨Aft.nil (Sm.refl s) (Nat.le_refl _) (Nat.le_refl _),rfl,rfl,hv,by rw [List.drop_zero,sum_cut a0 an,hx.1]; omega⟩
 have HLI := hQ_ hl
 have HX := hQ_ hx
 have HA := hQ_ hA
 have HPL := hQ_ (cutL_len a n)
 generalize cutL a n = P at *
 clear hr hl hW hK hT hv h0 h1 a0 an hx hA
 go_enter Tryz.func108,Tryz.ntmps108
 go_wp2_with fail
 refine HC.out.mono ?_
 rintro e w1 ⟨PA,pn,pc,rfl,hso,hb1⟩
 have HP := hQ_ hso
 clear hso
 have HPA : Hid (∀ b o,PA = some ⟨b,o,none⟩ → w.heap.size ≤ b ∧ b < w1.heap.size) := hQ_ (fun b o e => HP.out.lt (by rw [e]; rfl))
 have A2 := hQ_ (A0.out.owns HS.out hb1 (Q := fun b => ∃ o,PA = some ⟨b,o,none⟩) (fun b ⟨o,e⟩ => HPA.out b o e))
 have HX1 := hQ_ (HX.out.below hb1)
 clear hb1
 go_wp2_with fail
 go_loopw [3,20] (fun u i wr => ∃ (k m d : Nat) (B : Option Addr) (ys : List Int) (s1 : Vs) (S' D' : Nat → Prop) (don : List Wrt),i = .int .i64 k ∧ k ≤ pn ∧ u = .slice B m d ∧ m ≤ d ∧ d ≤ 9223372036854775807 ∧ Hid (Bs wr B m ys) ∧ Hid (∀ b o,B = some ⟨b,o,none⟩ → ∃ o',A = some ⟨b,o',none⟩) ∧ Hid (At Rep w S D (fun b => ∃ o,PA = some ⟨b,o,none⟩) wr v s1 S' D') ∧ Hid (So trE 183 wr w.heap.size (.slice PA pn pc) pn P) ∧ Hid (WrI s s1 ino ys xs P (P.drop k) don)) (fun _ i _ => pn - (intOf i).toNat)
 case atStart => exact ⟨0,n,c,A,xs,s,S,D,[],rfl,Nat.zero_le _,rfl,hc,hbig,HX1,hQ_ (fun b o e => ⟨o,e⟩),hQ_ (A2.out.less (fun b h => .inr h)),HP,HI0⟩
 case round =>
  obtain ⟨k,m,d,B,ys,s1,S',D',don,rfl,hk,rfl,hmd,hdb,HY,HBA,HAT,HL,HI⟩ := hrel
  by_cases hlt : k < pn
  ·obtain ⟨p,g,o,hp,rfl,hg,hcl⟩ := HL.out.sl.get k hlt
   have hok := HPO.out p (List.mem_of_getElem? hp)
   have HPK := hQ_ hp
   have hsd := sum_drop hp
   have hln := HI.out.len
   have hym := HY.out.1
   obtain ⟨p1,p2,p3⟩ := p
   obtain ⟨o1,o2,o3,o4,o5⟩ := hok
   dsimp only at o1 o2 o3 o4 o5 hsd
   obtain ⟨f,rfl⟩ : ∃ f : Nat,p2 = (f : Int) := ⟨p2.toNat,by omega⟩
   obtain ⟨q,rfl⟩ : ∃ q : Nat,p3 = (q : Int) := ⟨p3.toNat,by omega⟩
   have hqm : q ≤ m := by rw [← hym,hln,hsd]; omega
   obtain ⟨c1,c2,c3⟩ := tr_cells hcl
   dsimp only at c1 c2 c3
   go_wp2_with ((with_reducible refine pick (some 23) ?_); refine wpList_load_mid rfl 183 _ rfl g (o + k * 3) rfl [.int .i64 p1,.int .i64 (f : Int),.int .i64 (q : Int)] _ hcl Tryz.underlying183 rfl info3 ?_)
   have Z := Blk.new_ wr #[.int .i64 p1,.int .i64 (f : Int),.int .i64 (q : Int)] 183
   have z1 : _ = some (Value.int .i64 p1) := Z.cell 0
   have z2 : _ = some (Value.int .i64 (f : Int)) := Z.cell 1
   have z3 : _ = some (Value.int .i64 (q : Int)) := Z.cell 2
   have hb2 : Below wr.heap.size wr (wr.alloc (.cells #[.int .i64 p1,.int .i64 (f : Int),.int .i64 (q : Int)] 183)).drew := (bW_).drew
   have A3 := hQ_ (HAT.out.below HS.out hb2)
   have Y3 := hQ_ (HY.out.below hb2)
   have L3 := hQ_ (HL.out.below hb2)
   have G3 := hQ_ (HG.out p1 _ _ _ _ A3.out.rep (HI.out.lim HLI.out) HI.out.v64 o1 o2)
   clear hcl c1 c2 c3 hb2 hp hsd hln hym
   go_region
   clear z1 z2 z3 Z
   go_wp2_with fail
   refine G3.out.mono ?_
   rintro e w4 ⟨S4,D4,rfl,hr4,st4⟩
   obtain ⟨bb,bo,rfl,hbb,_⟩ := Y3.out.2.2 0 (by omega)
   have OF := hQ_ (off_of HAT.out HA.out HBA.out)
   have A4 := hQ_ (A3.out.step HS.out hr4 st4)
   have Y4 := hQ_ (bs_stp Y3.out st4.chg (fun b o e => (OF.out b o e).1))
   have L4 := hQ_ (so_chg L3.out st4.chg (fun b hb => by cases hb; exact A3.out.apart HS.out ⟨o,rfl⟩))
   clear hr4 st4 hbb
   unfold BlkV
   have hgl := getB_len s1.shown ino p1
   have hgb := getB_bd s1.shown ino p1
   have HPC : Hid (setB (getB s1.shown ino p1) (ys.take q) f = sp_ (getB s1.shown ino p1) (ys.take q) f) := hQ_ rfl
   have HSL : Hid ((sp_ (getB s1.shown ino p1) (ys.take q) f).length = 64) := hQ_ (by
    rw [← HPC.out,setB_len _ _ _ (by rw [List.length_take,hgl]; omega),hgl])
   have HSB : Hid (∀ x ∈ sp_ (getB s1.shown ino p1) (ys.take q) f,0 ≤ x ∧ x ≤ 255) := hQ_ (by rw [← HPC.out]; exact setb_bd hgb (fun x hx => Y4.out.2.1 x (List.mem_of_mem_take hx)))
   have HNX := hQ_ (fun (s2 : Vs) (b : List Int) (hb : setB (getB s1.shown ino p1) (ys.take q) f = b) (hlen : b.length ≤ 64) (ha : Aft s1 s2 [putP ino p1 b] 0 0) (hg : (goW s1 [putP ino p1 b]).2 = true) => HI.out.next (HS.out.ok A4.out.rep) HPK.out hb hlen ha hg)
   have HST := hQ_ (fun (s2 : Vs) (b : List Int) (hb : setB (getB s1.shown ino p1) (ys.take q) f = b) (ha : Aft s1 s2 [putP ino p1 b] 0 0) (hg : (goW s1 [putP ino p1 b]).2 = false) => HI.out.stop HPK.out hb ha hg)
   generalize getB s1.shown ino p1 = l at *
   have hbz := bN_ w4 (.cells Z64 184)
   have R5 : Hid (Blk (w4.alloc (.cells Z64 184)) w4.heap.size (u8A (List.replicate 64 0)) 184) := hQ_ (Blk.new_ w4 Z64 _)
   go_wp2_with ((with_reducible refine pick none ?_); refine store_blk rfl 184 _ _ rfl w4.heap.size (u8A l) rfl rfl 184 _ R5.out (by rw [u8A_size,hgl]; exact info64) (by rw [u8A_size,u8A_size,hgl,List.length_replicate]) (u8A_all _) ?_; intro w5 hk5 hg5)
   have HB5 : Below w4.heap.size w4 w5 := hbz.grown hg5 hbz.size (fun k hk => by injection hk with hk; omega)
   have hz5 : w4.heap.size < w5.heap.size := hk5.lt
   have A5 := hQ_ (A4.out.own HS.out HB5 (Nat.le_refl w4.heap.size) hz5)
   have Y5 := hQ_ (Y4.out.below HB5)
   have L5 := hQ_ (L4.out.below HB5)
   have K5 := hQ_ hk5
   have hz4 := A4.out.size
   clear hgb
   have K5d := hQ_ K5.out.drew
   have Y5d := hQ_ (Y5.out.below ((Below.refl _ _).drew))
   have A5d := hQ_ (A5.out.below HS.out ((Below.refl _ _).drew))
   have L5d := hQ_ (L5.out.below ((Below.refl _ _).drew))
   refine wp_region_still_tail 5 (by kernel_rfl) (by kernel_rfl) ?_
   change wpStill _ _ w5.drew (fun a' => wpList _ _ _ _ a' w5.drew) _ _
   obtain ⟨wd,hwd⟩ : ∃ wd,w5.drew = wd := ⟨_,rfl⟩
   rw [hwd] at K5d Y5d A5d L5d ⊢
   simp only [List.take_succ_cons,List.take_zero,List.drop_succ_cons,List.drop_zero]
   refine sr_move _ rfl (by kernel_rfl) (.int .i64 (f : Int)) rfl ?_; simp only [pZ_]
   refine sr_slice _ _ _ _ _ rfl (by kernel_rfl) _ (slice64l wd w4.heap.size f (by omega)) ?_; simp only [pZ_]
   refine sr_move _ rfl (by kernel_rfl) (.slice (some ⟨bb,bo,none⟩) m d) rfl ?_; simp only [pZ_]
   refine sr_move _ rfl (by kernel_rfl) (.int .i64 (q : Int)) rfl ?_; simp only [pZ_]
   refine sr_slice _ _ _ _ _ rfl (by kernel_rfl) _ (slice_bh wd _ m d q (by omega)) ?_; simp only [pZ_]
   refine wpStill_nil ?_
   have hzd : w4.heap.size < wd.heap.size := K5d.out.lt
   have HSRC : ∀ (j : Nat) (x : Int),(ys.take q)[j]? = some x → wd.cell? ((⟨bb,bo,none⟩ : Addr).add j) = some (.int .u8 x) := fun j x hx => by
    have hj : j < q := by
     have := (List.getElem?_eq_some_iff.1 hx).1
     rw [List.length_take] at this
     omega
    have h1 := Y5d.out.at_ j (by omega)
    rw [List.getElem?_take,if_pos hj] at hx
    rw [List.getD_eq_getElem?_getD,hx] at h1
    unfold Addr.add
    by_cases h0 : j = 0
    ·subst h0; simpa using h1
    ·simpa [h0] using h1
   have hyl := Y5d.out.1
   refine wpList_copy_row rfl _ _ 39 39 rfl 5 Tryz.underlying39 (by kernel_rfl) w4.heap.size f (64 - f) (64 - f) ⟨bb,bo,none⟩ q d rfl rfl l 184 K5d.out (ys.take q) (by rw [List.length_take]; show _ = min q (64 - f); omega) HSRC (by rw [List.length_take]; omega) ?_
   intro w6 hk6 hg6
   simp only [pZ_]
   clear HSRC
   have A6 := hQ_ (A5d.out.stored HS.out K5d.out (.inr rfl) (by decide) hg6)
   have Y6 := hQ_ (bs_grown Y5d.out hg6 (fun b o e => by have := (OF.out b o e).2; omega))
   have L6 := hQ_ (L5d.out.grown hg6 (so_off L4.out (Nat.le_refl _)))
   have X6 : Hid (Bs w6 (some ⟨w4.heap.size,0,none⟩) 64 (sp_ l (ys.take q) f)) := hQ_ (by
    have := blk_bs hk6 HSB.out
    rw [HSL.out] at this
    exact this)
   clear hk6 hg6 hyl
   go_wp2_with ((with_reducible refine pick (some 43) ?_); refine wpList_slice rfl _ _ _ _ _ rfl _ (slice64a w6 w4.heap.size) ?_)
   refine (HPT.out p1 _ s1 _ _ _ _ A6.out.rep (HI.out.lim HLI.out) o1 o2 X6.out).mono ?_
   intro e w7 h7
   rcases Wrote.split h7 with ⟨s7,S7,D7,rfl,hg7,hr7,st7,af7⟩ | ⟨s7,S7,D7,rfl,hg7,hr7,st7,af7⟩
   ·have A7 := hQ_ ((A6.out.step HS.out hr7 st7).less (M' := fun b => ∃ o',(some ⟨g,o,none⟩ : Option Addr) = some ⟨b,o',none⟩) (fun b hb => .inl hb))
    have OF4 := off_of A6.out HA.out HBA.out
    have y7 := bs_stp Y6.out st7.chg (fun b o e => (OF4 b o e).1)
    have L7 := hQ_ (so_chg L6.out st7.chg (fun b hb => by cases hb; exact A6.out.apart HS.out (.inl ⟨o,rfl⟩)))
    obtain ⟨don2,i7⟩ := HNX.out s7 _ HPC.out (by rw [HSL.out]; exact Nat.le_refl _) af7 hg7
    have I7 := hQ_ i7
    obtain ⟨B2,hs48,hB2⟩ := slice_bl w7 bb bo m d q (by omega) (by omega)
    have Y8 : Hid (Bs w7 B2 (m - q) (ys.drop q)) := hQ_ (by
     rcases hB2 with rfl | ⟨hmq,rfl⟩
     ·exact bs_back y7 q hqm
     ·have e1 : ys.drop q = [] := List.drop_eq_nil_of_le (by rw [y7.1]; omega)
      rw [e1,show m - q = 0 by omega]
      exact Bs.nil_ _ _)
    have BA2 : Hid (∀ b o,B2 = some ⟨b,o,none⟩ → ∃ o',A = some ⟨b,o',none⟩) := hQ_ (fun b o e => by
     rcases hB2 with rfl | ⟨_,rfl⟩
     ·injection e with e
      injection e with e _
      subst e
      exact HBA.out _ _ rfl
     ·exact HBA.out _ _ e)
    clear h7 hr7 st7 af7 hg7 OF4 y7 i7 hB2
    have hpn : pn ≤ 4096 := by rw [← HP.out.1]; exact HPL.out
    go_wp2_with ((with_reducible refine pick (some 48) ?_); refine wpList_slice rfl _ _ _ _ _ rfl _ hs48 ?_)
    go_roundw
    case rel => exact ⟨k + 1,m - q,d - q,B2,ys.drop q,s7,S7,D7,don2,by go_num,by omega,rfl,by omega,by omega,Y8,BA2,A7,L7,I7⟩
    case measure => simp [intOf]; omega
   ·have A7 := hQ_ (A6.out.step HS.out hr7 st7)
    have C7 := hQ_ (HST.out s7 _ HPC.out af7 hg7)
    clear h7 hr7 st7 af7 hg7
    go_wp2_with fail
    go_ret
    exact ⟨s7,S7,D7,by rw [C7.out.2]; rfl,A7.out.rep,A7.out.st,C7.out.1⟩
  ·obtain rfl : k = pn := by omega
   have C9 := hQ_ (HI.out.done (by rw [HP.out.1]; exact Nat.le_refl _))
   go_wp2_with fail
   go_ret
   exact ⟨s1,S',D',by rw [C9.out.2]; rfl,HAT.out.rep,HAT.out.st,C9.out.1⟩
end Go.Proofs.YtogdjbhjgbnicaaGreatDoor.FileKe
namespace Go.Proofs.YtogdjbhjgbnicaaGreatDoor.FileKf
open Go.RowKit
open Byte PackM KeysM KeysS KeysV KeysB KeysD TreeR ViewM ViewR NodeM WalkM WalkF WalkKm DirsV FileM FileV Lst Chg TreeL ViewL WalkL WalkV Vat WalkKb DirsK DirsKa
open TreeM hiding cutL
open Own hiding keeps
variable {Rep : RepT}
def CpN (Rep : RepT) : Prop := ∀ ⦃w v s S D⦄,Rep w v s S D → Lim s → Calls Tryz.prog 21 #[v] w fun e w' => ∃ v' S' D',e = .returned v' ∧ Rep w' v' s S' D' ∧ (∀ b,D' b → w.heap.size ≤ b) ∧ Below w.heap.size w w'
theorem del_next {M : List Pr} {k : Nat} {x : Pr} (h : M[k]? = some x) : (M.take (k + 1)).map (fun p => delP p.key) = (M.take k).map (fun p => delP p.key) ++ [delP x.key] := by
 rw [List.take_add_one,h,Option.toList_some,List.map_append]; rfl
theorem drop_calls (hW : Wk Rep) (hCp : CpN Rep) {w : World} {v : Value} {s : Vs} {S D : Nat → Prop} (ino z : Int) (hr : Rep w v s S D) (hl : Lim s) (h0 : 0 ≤ ino) (h1 : ino ≤ 4294967295) (z0 : 0 ≤ z) (z1 : z ≤ 65535) (hk : ∀ p ∈ s.shown,(sp p.key).letter ≠ 0) :
 Calls Tryz.prog 109 #[v,.int .u32 ino,.int .i64 z] w (Wrote Rep v s (drpPs s.shown ino z) 0 0 S D w) := by
 have A0 := hQ_ (At.start hr)
 have HE := hQ_ (fun w => blocks_small ino z w h0 h1 (by omega) (by omega))
 have HK := hQ_ hk
 have HS := hQ_ hW.stays
 have HL := hQ_ hl
 have HX := hQ_ hW.range
 have HWK := hQ_ hW
 have HCP := hQ_ (hCp hr hl)
 have hn := hW.shown hr hl
 obtain ⟨M,hM⟩ : ∃ M,s.shown.filter (blkF ino z) = M := ⟨_,rfl⟩
 have HMF := hQ_ hM
 have HM2 : Hid (∀ p ∈ M,p.key.size ≤ 100000 ∧ (sp p.key).letter = 68) := hQ_ (fun p hp => by
  rw [← hM] at hp
  have h3 := List.mem_filter.1 hp
  have h4 := sp_key (HK.out p h3.1)
  have h5 := h3.2
  unfold blkF at h5
  simp only [Bool.and_eq_true,decide_eq_true_eq] at h5
  exact ⟨by omega,h5.1.1⟩)
 have HDR : Hid (drpPs s.shown ino z = M.map fun p => delP p.key) := hQ_ (by unfold drpPs; rw [hM])
 rw [HDR.out]
 clear hr hl hk hM hW hCp HDR
 go_enter Tryz.func109,Tryz.ntmps109
 go_wp2_with fail
 refine HCP.out.mono ?_
 rintro e w1 ⟨v',Sc,Dc,rfl,hrc,hnew,hb1⟩
 have A1 := hQ_ ((A0.out.owns HS.out hb1 (Q := Dc) (fun b hb => ⟨hnew b hb,HS.out.lt hrc b hb⟩)).less (M' := Dc) (fun b hb => .inr hb))
 have RC := hQ_ hrc
 clear hrc hnew hb1
 go_wp2_with fail
 refine (HE.out _).mono ?_
 rintro e w2 ⟨a,b,rfl,hrg,ha,hb,hb2⟩
 have A2 := hQ_ (A1.out.below HS.out hb2)
 have RC2 := hQ_ (HS.out.below RC.out hb2)
 have HRG : Hid (rangeL a b s.shown = s.shown.filter (blkF ino z)) := hQ_ (range_ent hrg.out HK.out)
 clear hb2 hrg
 go_wp2_with fail
 refine (HX.out a b RC2.out HL.out (by omega) (by omega)).mono ?_
 rintro e w3 ⟨⟨ra,rn,rc⟩,S3,D3,rfl,hsl,hnew,hr3,st3⟩
 rw [rangeOf_is,HRG.out,HMF.out] at hsl
 dsimp only at hsl hnew
 have A3 : Hid (At Rep w S D (fun b => 0 < rn ∧ ∃ o,ra = some ⟨b,o,none⟩) w3 v s S D) := hQ_ (by
  have q := A2.out.chg HS.out st3.chg st3.kept (fun b hb _ => HS.out.sub RC2.out b hb)
  refine ⟨q.rep,q.st,fun b ⟨hpos,o,e⟩ => ?_⟩
  have h5 := hnew hpos b o e
  obtain ⟨x,b',o',hx,he,hlt,_⟩ := hsl.get 0 hpos
  rw [e] at he
  injection he with he
  injection he with he _
  subst he
  exact ⟨Nat.le_trans A2.out.size h5,hlt,fun hd => by have := HS.out.lt A2.out.rep b hd; omega⟩)
 have HLR := hQ_ hsl
 have hrn : rn ≤ 100000 := by
  rw [← hsl.1,← HMF.out]
  exact Nat.le_trans (List.length_filter_le _ _) hn
 clear hsl hnew hr3 st3 ha hb
 go_wp2_with fail
 go_loopw [22] (fun i wr => ∃ (k : Nat) (s1 : Vs) (S' D' : Nat → Prop),i = .int .i64 k ∧ k ≤ rn ∧ Hid (At Rep w S D (fun b => 0 < rn ∧ ∃ o,ra = some ⟨b,o,none⟩) wr v s1 S' D') ∧ Hid (Sl prE wr ra rn M) ∧ Hid (Aft s s1 ((M.take k).map fun p => delP p.key) 0 0 ∧ (goW s ((M.take k).map fun p => delP p.key)).2 = true)) (fun i _ => rn - (intOf i).toNat)
 case atStart => exact ⟨0,s,S,D,rfl,Nat.zero_le _,A3,HLR,hQ_ ⟨Aft.nil (Sm.refl s) (Nat.le_refl _) (Nat.le_refl _),rfl⟩⟩
 case round =>
  obtain ⟨k,s1,S',D',rfl,hk,HA,HL1,HC⟩ := hrel
  by_cases hlt : k < rn
  ·obtain ⟨x,g,o,hx,rfl,hg,hcl⟩ := HL1.out.get k hlt
   obtain ⟨c1,c2,c3,hcc⟩ := pair_cells hcl
   have hmx := HM2.out x (List.mem_of_getElem? hx)
   have HNX := hQ_ (del_next hx)
   have HSP := hQ_ (fun w => split_calls x.key w hmx.1)
   unfold SpE at HSP
   have HCT := hQ_ (fun (w1 : World) (S1 D1 : Nat → Prop) (hr1 : Rep w1 v s1 S1 D1) => cut_w HWK.out x.key hr1 (lim_aft HC.out.1 HL.out (by have := HL.out.rd; omega) (by have := HL.out.rg; omega)) hmx.1)
   have HRS : Hid ((M.take (k + 1)).map (fun p => delP p.key) ++ (M.drop (k + 1)).map (fun p => delP p.key) = M.map fun p => delP p.key) := hQ_ (by rw [← List.map_append,List.take_append_drop])
   have hlet := hmx.2
   obtain ⟨xk,xv,xg⟩ := x
   dsimp only at *
   rw [hlet] at HSP
   clear hcl hx hmx hlet
   generalize (sp xk).ino = X2 at *
   generalize (sp xk).name = X3 at *
   generalize (sp xk).n = X4 at *
   have R4 := hQ_ (Blk.new_ wr #[.string xk,.string xv,.bool xg] 64)
   have hbp := bX_ R4.out
   have A4 := hQ_ ((HA.out.own HS.out hbp (Nat.le_refl wr.heap.size) (by simp)))
   have L4 := hQ_ (HL1.out.below hbp)
   clear hbp
   go_wp2_with ((with_reducible refine pick (some 25) ?_); refine wpList_load_mid rfl 64 _ rfl g (o + k * 3) rfl _ _ hcc Tryz.underlying64 rfl info_pair3 ?_)
   refine (HSP.out _).mono ?_
   rintro e w5 ⟨rfl,hb5⟩
   have A5 := hQ_ (A4.out.below HS.out hb5)
   have L5 := hQ_ (L4.out.below hb5)
   have R5 := hQ_ (R4.out.below hb5)
   have p0 := cZ0 R5.out
   clear hb5 c1 c2 c3 hcc
   go_wp2_with fail
   refine (HCT.out _ _ _ A5.out.rep).mono ?_
   intro e w6 h6
   rcases Wrote.split h6 with ⟨s6,S6,D6,rfl,hg6,hr6,st6,af6⟩ | ⟨s6,S6,D6,rfl,hg6,hr6,st6,af6⟩
   ·have A6 := hQ_ ((A5.out.step HS.out hr6 st6).less (M' := fun b' => 0 < rn ∧ ∃ o',(some ⟨g,o,none⟩ : Option Addr) = some ⟨b',o',none⟩) (fun b hb => .inl hb))
    have L6 := hQ_ (A5.out.sl HS.out L5.out (fun b' o' e => .inl ⟨by omega,o',e⟩) st6)
    have C6 : Hid (Aft s s6 ((M.take (k + 1)).map fun p => delP p.key) 0 0 ∧ (goW s ((M.take (k + 1)).map fun p => delP p.key)).2 = true) := hQ_ (by
     have q := HC.out.1.app HC.out.2 af6
     rw [HNX.out]
     exact ⟨q.1,q.2.trans hg6⟩)
    clear h6 hr6 st6 af6 hg6
    go_wp2_with fail
    go_roundw
    case rel => exact ⟨k + 1,s6,S6,D6,by go_num,by omega,A6,L6,C6⟩
    case measure => simp [intOf]; omega
   ·have A6 := hQ_ (A5.out.step HS.out hr6 st6)
    have C6 : Hid (Aft s s6 (M.map fun p => delP p.key) 0 0 ∧ (goW s (M.map fun p => delP p.key)).2 = false) := hQ_ (by
     have q := HC.out.1.app HC.out.2 af6
     rw [← HRS.out,HNX.out]
     exact q.1.stop (q.2.trans hg6))
    clear h6 hr6 st6 af6 hg6
    go_wp2_with fail
    go_ret
    exact ⟨s6,S6,D6,by rw [C6.out.2]; rfl,A6.out.rep,A6.out.st,C6.out.1⟩
  ·obtain rfl : k = rn := by omega
   have hM : M.take k = M := List.take_of_length_le (by rw [HLR.out.1]; exact Nat.le_refl _)
   have hC := HC.out
   rw [hM] at hC
   have C9 := hQ_ hC
   clear hC
   go_wp2_with fail
   go_ret
   exact ⟨s1,S',D',by rw [C9.out.2]; rfl,HA.out.rep,HA.out.st,C9.out.1⟩
end Go.Proofs.YtogdjbhjgbnicaaGreatDoor.FileKf
namespace Go.Proofs.YtogdjbhjgbnicaaGreatDoor.FileKg
open Go.RowKit
open Byte PackM KeysM TreeR ViewM NodeM WalkM WalkF WalkKm DirsV FileM FileV Lst Chg TreeL ViewL WalkL WalkV Vat DirsK DirsKa FileK FileKd FileKe
open TreeM hiding cutL
open Own hiding keeps
variable {Rep : RepT}
theorem fil_bd (L : List Pr) (ino : Int) : InoB (filV L ino).1.k (filV L ino).1.l (filV L ino).1.s (filV L ino).1.p := by
 unfold filV
 split
 ·have h := load_k L ino
  exact ⟨h.1,h.2.1,h.2.2.1,h.2.2.2.1,h.2.2.2.2.1,h.2.2.2.2.2.1,h.2.2.2.2.2.2.1,h.2.2.2.2.2.2.2⟩
 ·exact ⟨by decide,by decide,by decide,by decide,by decide,by decide,by decide,by decide⟩
def ReadE (Rep : RepT) (v : Value) (s' : Vs) (r : List Int × Int) (S D : Nat → Prop) (w : World) (e : Ending) (w' : World) : Prop := ∃ u m S' D',e = .returned (.tuple #[u,.int .i64 r.2]) ∧ So u8E 5 w' w.heap.size u m r.1 ∧ Rep w' v s' S' D' ∧ Stp S D S' D' w w' ∧ ∀ b,u.ownBlock = some b → ¬ D' b
theorem Read_calls (hW : Wk Rep) (hK : LookOk Rep) {w : World} {v : Value} {s : Vs} {S D : Nat → Prop} (ino a n : Int) (hr : Rep w v s S D) (hl : Lim s) (h2 : s.rd.length ≤ 19990) (h0 : 0 ≤ ino) (h1 : ino ≤ 4294967295) (a0 : -9223372036854775808 ≤ a) (a1 : a ≤ 9223372036854775807) (n0 : -9223372036854775808 ≤ n) (n1 : n ≤ 9223372036854775807) (hv : V64 s.shown ino) :
 Calls Tryz.prog 82 #[v,.int .u32 ino,.int .i64 a,.int .i64 n] w (ReadE Rep v (s.read (kI ino)) (reaV s.shown ino a n) S D w) := by
 have A0 := hQ_ (At.start hr)
 have HLD := hQ_ (FileK.load_calls hW ino hr hl h0 h1)
 unfold FilV at HLD
 have HS := hQ_ hW.stays
 have hl2 : Lim (s.read (kI ino)) := ⟨hl.base,by have := read_len s (kI ino); omega,hl.rg⟩
 have hsh : (s.read (kI ino)).shown = s.shown := ((Sm.refl s).read _).shown
 have HRD := hQ_ (fun (m : Int) (w1 : World) (S1 D1 : Nat → Prop) (hr1 : Rep w1 v (s.read (kI ino)) S1 D1) (b0 : 0 ≤ a) (m0 : -9223372036854775808 ≤ m) (m1 : m ≤ 9223372036854775807) => read_calls hW hK ino a m hr1 hl2 h0 h1 b0 a1 m0 m1 (by rw [hsh]; exact fun q q0 q1 => hv q q0 (by omega)))
 rw [hsh] at HRD
 have hbd := fil_bd s.shown ino
 unfold reaV
 obtain ⟨q,hfx⟩ : ∃ q,filV s.shown ino = q := ⟨_,rfl⟩
 rw [hfx] at hbd HLD ⊢
 obtain ⟨⟨xk,xl,xz,xp⟩,xe⟩ := q
 dsimp only at hbd HLD ⊢
 obtain ⟨b0,b1,b2,b3,b4,b5,b6,b7⟩ := hbd
 generalize s.read (kI ino) = s1 at *
 clear hr hl hv hW hK hl2 hsh hfx
 by_cases he : xe = 0
 ·subst he
  rw [if_neg (by decide)]
  by_cases hc : a < 0 ∨ n < 0 ∨ 1024 < n
  ·rw [if_pos hc]
   by_cases c1 : a < 0
   ·have d1 : decide (a < 0) = true := by simpa using c1
    clear hc
    go_enter Tryz.func82,Tryz.ntmps82
    go_wp2_with fail
    refine HLD.out.mono ?_
    rintro e w1 ⟨S1,D1,rfl,hr1,st1⟩
    have hbn := bN_ w1 (.cells #[.int .u8 xk,.int .u32 xl,.int .u32 xz,.int .u32 xp] 46)
    have A1 := hQ_ ((A0.out.step HS.out hr1 st1).below HS.out hbn)
    clear hr1 st1 hbn
    go_wp2_with fail
    go_ret2
    exact ⟨_,0,S1,D1,rfl,So.nil_ _ _ _ _,A1.out.rep,A1.out.st,fun _ h => by cases h⟩
   ·have d1 : decide (a < 0) = false := by simpa using c1
    by_cases c2 : n < 0
    ·have d2 : decide (n < 0) = true := by simpa using c2
     clear hc
     go_enter Tryz.func82,Tryz.ntmps82
     go_wp2_with fail
     refine HLD.out.mono ?_
     rintro e w1 ⟨S1,D1,rfl,hr1,st1⟩
     have hbn := bN_ w1 (.cells #[.int .u8 xk,.int .u32 xl,.int .u32 xz,.int .u32 xp] 46)
     have A1 := hQ_ ((A0.out.step HS.out hr1 st1).below HS.out hbn)
     clear hr1 st1 hbn
     go_wp2_with fail
     go_ret2
     exact ⟨_,0,S1,D1,rfl,So.nil_ _ _ _ _,A1.out.rep,A1.out.st,fun _ h => by cases h⟩
    ·have d2 : decide (n < 0) = false := by simpa using c2
     have c3 : 1024 < n := by omega
     have d3 : decide (n > 1024) = true := by simpa using c3
     clear hc
     go_enter Tryz.func82,Tryz.ntmps82
     go_wp2_with fail
     refine HLD.out.mono ?_
     rintro e w1 ⟨S1,D1,rfl,hr1,st1⟩
     have hbn := bN_ w1 (.cells #[.int .u8 xk,.int .u32 xl,.int .u32 xz,.int .u32 xp] 46)
     have A1 := hQ_ ((A0.out.step HS.out hr1 st1).below HS.out hbn)
     clear hr1 st1 hbn
     go_wp2_with fail
     go_ret2
     exact ⟨_,0,S1,D1,rfl,So.nil_ _ _ _ _,A1.out.rep,A1.out.st,fun _ h => by cases h⟩
  ·rw [if_neg hc]
   have d1 : decide (a < 0) = false := by simp; omega
   have d2 : decide (n < 0) = false := by simp; omega
   have d3 : decide (n > 1024) = false := by simp; omega
   have e1 : wrap64 (xz - a) = xz - a := by unfold wrap64; omega
   have e2 : wrap64 xz = xz := by unfold wrap64; omega
   have HRM := hQ_ (fun (w1 : World) (S1 D1 : Nat → Prop) (hr1 : Rep w1 v s1 S1 D1) => HRD.out (min n (xz - a)) w1 S1 D1 hr1 (by omega) (by omega) (by omega))
   have a2 : 0 ≤ a := by omega
   clear hc HRD
   go_enter Tryz.func82,Tryz.ntmps82
   go_wp2_with fail
   refine HLD.out.mono ?_
   rintro e w1 ⟨S1,D1,rfl,hr1,st1⟩
   have hbn := bN_ w1 (.cells #[.int .u8 xk,.int .u32 xl,.int .u32 xz,.int .u32 xp] 46)
   have A1 := hQ_ ((A0.out.step HS.out hr1 st1).below HS.out hbn)
   have f2 : (w1.alloc (.cells #[.int .u8 xk,.int .u32 xl,.int .u32 xz,.int .u32 xp] 46)).cell? ⟨w1.heap.size,2,none⟩ = some (.int .u32 xz) := (Blk.new_ w1 #[.int .u8 xk,.int .u32 xl,.int .u32 xz,.int .u32 xp] 46).cell 2
   clear hr1 st1 hbn
   go_wp2_with fail
   refine (HRM.out _ _ _ A1.out.rep).mono ?_
   rintro e w2 ⟨u,m,S2,D2,rfl,hso,hr2,st2,hn2⟩
   have A2 := hQ_ (A1.out.step HS.out hr2 st2)
   have O2 := hQ_ (hso.lower A1.out.size)
   have N2 := hQ_ hn2
   clear hso hr2 st2 f2 hn2
   go_wp2_with fail
   go_ret2
   exact ⟨u,m,S2,D2,rfl,O2.out,A2.out.rep,A2.out.st,N2.out⟩
 ·rw [if_pos he]
  have d1 : (xe != 0) = true := by simpa using he
  clear he
  go_enter Tryz.func82,Tryz.ntmps82
  go_wp2_with fail
  refine HLD.out.mono ?_
  rintro e w1 ⟨S1,D1,rfl,hr1,st1⟩
  have hbn := bN_ w1 (.cells #[.int .u8 xk,.int .u32 xl,.int .u32 xz,.int .u32 xp] 46)
  have A1 := hQ_ ((A0.out.step HS.out hr1 st1).below HS.out hbn)
  clear hr1 st1 hbn
  go_wp2_with fail
  go_ret2
  exact ⟨_,0,S1,D1,rfl,So.nil_ _ _ _ _,A1.out.rep,A1.out.st,fun _ h => by cases h⟩
end Go.Proofs.YtogdjbhjgbnicaaGreatDoor.FileKg
namespace Go.Proofs.YtogdjbhjgbnicaaGreatDoor.FileKh
open Go.RowKit
open Byte PackM KeysM TreeR ViewM NodeM NodeG WalkM WalkF WalkKm DirsV FileM FileV Lst Chg TreeL ViewL WalkL WalkV Vat WalkKa DirsK DirsKa FileK FileKd FileKe FileKg
open TreeM hiding cutL
open Own hiding keeps
variable {Rep : RepT}
theorem aft_load (s : Vs) (k : ByteArray) : Aft s (s.read k) [] 1 0 ∧ (goW s []).2 = true := ⟨Aft.nil ((Sm.refl s).read k) (read_len s k) (Nat.le_refl _),rfl⟩
theorem ans_err {v : Value} {s : Vs} {k : ByteArray} {er : Int} {S D M S' D' : Nat → Prop} {w w' : World} (A : At Rep w S D M w' v (s.read k) S' D') : Ans Rep v s er [] 1 0 S D w (.returned (.int .i64 er)) w' := Ans.ok A (aft_load s k)
theorem Write_calls (hW : Wk Rep) (hK : LookOk Rep) (hT : SetOk Rep) {w : World} {v : Value} {s : Vs} {S D : Nat → Prop} (ino a : Int) {A : Option Addr} {n c : Nat} {xs : List Int} (hr : Rep w v s S D) (hl : Lim s) (h2 : s.rd.length ≤ 19990) (h0 : 0 ≤ ino) (h1 : ino ≤ 4294967295) (a0 : -9223372036854775808 ≤ a) (a1 : a ≤ 9223372036854775807) (hx : Bs w A n xs) (hc : n ≤ c) (hbig : c ≤ 9223372036854775807) (hA : 0 < n → ∀ b o,A = some ⟨b,o,none⟩ → ¬ S b ∧ b < w.heap.size) (hv : V64 s.shown ino) :
 Calls Tryz.prog 83 #[v,.int .u32 ino,.int .i64 a,.slice A n c] w (Ans Rep v s (wriV s.shown ino a xs).1 (wriV s.shown ino a xs).2 1 0 S D w) := by
 have A0 := hQ_ (At.start hr)
 have HLD := hQ_ (FileK.load_calls hW ino hr hl h0 h1)
 unfold FilV at HLD
 have HS := hQ_ hW.stays
 have hl2 : Lim (s.read (kI ino)) := ⟨hl.base,by have := read_len s (kI ino); omega,hl.rg⟩
 have hsh : (s.read (kI ino)).shown = s.shown := ((Sm.refl s).read _).shown
 have HWR := hQ_ (fun (w1 : World) (S1 D1 : Nat → Prop) (hr1 : Rep w1 v (s.read (kI ino)) S1 D1) (b0 : 0 ≤ a) (bn : a + n ≤ 4096) (hx1 : Bs w1 A n xs) (hA1 : ∀ b o,A = some ⟨b,o,none⟩ → ¬ S1 b ∧ b < w1.heap.size) => write_calls hW hK hT ino a hr1 hl2 h0 h1 b0 bn hx1 hc hbig hA1 (by rw [hsh]; exact hv))
 have HSV := hQ_ (fun (k l z p : Int) (w1 : World) (s5 : Vs) (S1 D1 : Nat → Prop) (hr1 : Rep w1 v s5 S1 D1) (hl5 : Lim s5) (hb : InoB k l z p) => save_w hW ino k l z p hr1 hl5 h0 h1 hb)
 have HRO := hQ_ FileK.room_calls
 have HL2 := hQ_ hl2
 have C1 := hQ_ (aft_load s (kI ino))
 have hbd := fil_bd s.shown ino
 unfold wriV
 rw [hx.1]
 obtain ⟨q,hfx⟩ : ∃ q,filV s.shown ino = q := ⟨_,rfl⟩
 rw [hfx] at hbd HLD ⊢
 obtain ⟨⟨xk,xl,xz,xp⟩,xe⟩ := q
 dsimp only at hbd HLD ⊢
 obtain ⟨b0,b1,b2,b3,b4,b5,b6,b7⟩ := hbd
 have HX := hQ_ hx
 have HA := hQ_ hA
 have HER : ∀ (er : Int) (M S' D' : Nat → Prop) (w' : World),At Rep w S D M w' v (s.read (kI ino)) S' D' → Ans Rep v s er [] 1 0 S D w (.returned (.int .i64 er)) w' := fun er M S' D' w' h => ans_err h
 have HERR := hQ_ HER
 clear HER
 generalize hs1 : s.read (kI ino) = s1 at *
 clear hr hl hv hW hK hT hl2 hsh hfx hx hA hs1
 by_cases he : xe = 0
 ·subst he
  rw [if_neg (by decide)]
  by_cases hc1 : a < 0 ∨ 1024 < n
  ·rw [if_pos hc1]
   by_cases c1 : a < 0
   ·have d1 : decide (a < 0) = true := by simpa using c1
    clear hc1
    go_enter Tryz.func83,Tryz.ntmps83
    go_wp2_with fail
    refine HLD.out.mono ?_
    rintro e w1 ⟨S1,D1,rfl,hr1,st1⟩
    have hbn := bN_ w1 (.cells #[.int .u8 xk,.int .u32 xl,.int .u32 xz,.int .u32 xp] 46)
    have A1 := hQ_ ((A0.out.step HS.out hr1 st1).below HS.out hbn)
    clear hr1 st1 hbn
    go_wp2_with fail
    go_ret
    exact HERR.out _ _ _ _ _ A1.out
   ·have d1 : decide (a < 0) = false := by simpa using c1
    have c3 : 1024 < (n : Int) := by omega
    have d3 : decide ((n : Int) > 1024) = true := by simpa using c3
    clear hc1
    go_enter Tryz.func83,Tryz.ntmps83
    go_wp2_with fail
    refine HLD.out.mono ?_
    rintro e w1 ⟨S1,D1,rfl,hr1,st1⟩
    have hbn := bN_ w1 (.cells #[.int .u8 xk,.int .u32 xl,.int .u32 xz,.int .u32 xp] 46)
    have A1 := hQ_ ((A0.out.step HS.out hr1 st1).below HS.out hbn)
    clear hr1 st1 hbn
    go_wp2_with fail
    go_ret
    exact HERR.out _ _ _ _ _ A1.out
  ·rw [if_neg hc1]
   have d1 : decide (a < 0) = false := by simp; omega
   have d3 : decide ((n : Int) > 1024) = false := by simp; omega
   have e1 : wrap64 (4096 - (n : Int)) = 4096 - (n : Int) := by unfold wrap64; omega
   by_cases c4 : 4096 - (n : Int) < a
   ·rw [if_pos c4]
    have d4 : decide (a > 4096 - (n : Int)) = true := by simpa using c4
    clear hc1
    go_enter Tryz.func83,Tryz.ntmps83
    go_wp2_with fail
    refine HLD.out.mono ?_
    rintro e w1 ⟨S1,D1,rfl,hr1,st1⟩
    have hbn := bN_ w1 (.cells #[.int .u8 xk,.int .u32 xl,.int .u32 xz,.int .u32 xp] 46)
    have A1 := hQ_ ((A0.out.step HS.out hr1 st1).below HS.out hbn)
    clear hr1 st1 hbn
    go_wp2_with fail
    go_ret
    exact HERR.out _ _ _ _ _ A1.out
   ·rw [if_neg c4]
    have d4 : decide (a > 4096 - (n : Int)) = false := by simp; omega
    by_cases c5 : n = 0
    ·rw [if_pos c5]
     have d5 : ((n : Int) == 0) = true := by rw [beq_iff_eq]; omega
     clear hc1
     go_enter Tryz.func83,Tryz.ntmps83
     go_wp2_with fail
     refine HLD.out.mono ?_
     rintro e w1 ⟨S1,D1,rfl,hr1,st1⟩
     have hbn := bN_ w1 (.cells #[.int .u8 xk,.int .u32 xl,.int .u32 xz,.int .u32 xp] 46)
     have A1 := hQ_ ((A0.out.step HS.out hr1 st1).below HS.out hbn)
     clear hr1 st1 hbn
     go_wp2_with fail
     go_ret
     exact HERR.out _ _ _ _ _ A1.out
    ·rw [if_neg c5]
     have d5 : ((n : Int) == 0) = false := by rw [beq_eq_false_iff_ne]; omega
     have e2 : wrap64 (a + (n : Int)) = a + (n : Int) := by unfold wrap64; omega
     have e3 : (a + (n : Int)) % 4294967296 = a + (n : Int) := by omega
     have hbm : InoB xk xl (max xz (a + (n : Int))) xp := ⟨b0,b1,b2,b3,by omega,by omega,b6,b7⟩
     have HBM := hQ_ hbm
     have e4 : NodeL.cutL a n = cutV a n := rfl
     rw [e4] at HWR
     have g0 : 0 ≤ a := by omega
     have g1 : a + (n : Int) ≤ 4096 := by omega
     have HA2 := hQ_ (HA.out (by omega))
     clear hc1 c4 c5 hbm e4
     go_enter Tryz.func83,Tryz.ntmps83
     go_wp2_with fail
     refine HLD.out.mono ?_
     rintro e w1 ⟨S1,D1,rfl,hr1,st1⟩
     have I2 := hQ_ (Blk.new_ w1 #[.int .u8 xk,.int .u32 xl,.int .u32 (max xz (a + (n : Int))),.int .u32 xp] 46)
     have hbn := bX_ I2.out
     have AQ := A0.out.step HS.out hr1 st1
     have A2 := hQ_ (AQ.own HS.out hbn (Nat.le_refl w1.heap.size) (by simp))
     have f2 : (w1.alloc (.cells #[.int .u8 xk,.int .u32 xl,.int .u32 xz,.int .u32 xp] 46)).cell? ⟨w1.heap.size,2,none⟩ = some (.int .u32 xz) := (Blk.new_ w1 #[.int .u8 xk,.int .u32 xl,.int .u32 xz,.int .u32 xp] 46).cell 2
     have X2 := hQ_ ((bs_stp HX.out st1.chg (fun b o e => (HA2.out b o e).1)).below hbn)
     have F2 : Hid (∀ b o,A = some ⟨b,o,none⟩ → ¬ S1 b ∧ b < (w1.alloc (.cells #[.int .u8 xk,.int .u32 xl,.int .u32 (max xz (a + (n : Int))),.int .u32 xp] 46)).heap.size) := hQ_ (fun b o e => by
      have h5 := HA2.out b o e
      refine ⟨fun hs => ?_,?_⟩
      ·rcases st1.own b hs with q | q
       ·exact h5.1 q
       ·omega
      ·have := A2.out.size
       omega)
     clear hr1 st1 hbn AQ
     go_wp2_with fail
     refine (HWR.out _ _ _ A2.out.rep g0 g1 X2.out F2.out).mono ?_
     intro e w3 h3
     rcases Wrote.split h3 with ⟨s3,S3,D3,rfl,hg3,hr3,st3,af3⟩ | ⟨s3,S3,D3,rfl,hg3,hr3,st3,af3⟩
     ·have A3 := hQ_ (A2.out.step HS.out hr3 st3)
      have I3 := hQ_ (A2.out.blk HS.out I2.out (.inr rfl) st3)
      have q3 := C1.out.1.app C1.out.2 af3
      have C3 : Hid (Aft s s3 (wrPs ino xs (cutV a n)) 1 0 ∧ (goW s (wrPs ino xs (cutV a n))).2 = true) := hQ_ ⟨q3.1,q3.2.trans hg3⟩
      have L3 : Hid (Lim s3) := hQ_ (lim_aft af3 HL2.out (by have := HL2.out.rd; omega) (by have := HL2.out.rg; omega))
      clear h3 hr3 st3 af3 hg3 q3 f2
      have i0 := cC4 I3.out
      go_wp2_with fail
      refine (HSV.out xk xl (max xz (a + (n : Int))) xp _ _ _ _ A3.out.rep L3.out HBM.out).mono ?_
      intro e w4 h4
      rcases Wrote.split h4 with ⟨s4,S4,D4,rfl,hg4,hr4,st4,af4⟩ | ⟨s4,S4,D4,rfl,hg4,hr4,st4,af4⟩
      ·have A4 := hQ_ (A3.out.step HS.out hr4 st4)
       have q4 := C3.out.1.app C3.out.2 af4
       have C4 := hQ_ (And.intro q4.1 (q4.2.trans hg4))
       clear h4 hr4 st4 af4 hg4 q4
       go_wp2_with fail
       refine (HRO.out _ _).mono ?_
       rintro e w5 ⟨rfl,rfl⟩
       go_wp2_with fail
       go_ret
       exact Ans.ok A4.out C4.out
      ·have A4 := hQ_ (A3.out.step HS.out hr4 st4)
       have q4 := C3.out.1.app C3.out.2 af4
       have C4 := hQ_ (And.intro q4.1 (q4.2.trans hg4))
       clear h4 hr4 st4 af4 hg4 q4
       go_wp2_with fail
       refine (HRO.out _ _).mono ?_
       rintro e w5 ⟨rfl,rfl⟩
       go_wp2_with fail
       go_ret
       exact Ans.full A4.out C4.out
     ·have A3 := hQ_ (A2.out.step HS.out hr3 st3)
      have q3 := C1.out.1.app C1.out.2 af3
      have C3 : Hid (Aft s s3 (wrPs ino xs (cutV a n) ++ [saveP ino xk xl (max xz (a + (n : Int))) xp]) 1 0 ∧ (goW s (wrPs ino xs (cutV a n) ++ [saveP ino xk xl (max xz (a + (n : Int))) xp])).2 = false) := hQ_ (q3.1.stop (q3.2.trans hg3))
      clear h3 hr3 st3 af3 hg3 q3 f2
      go_wp2_with fail
      refine (HRO.out _ _).mono ?_
      rintro e w5 ⟨rfl,rfl⟩
      go_wp2_with fail
      go_ret
      exact Ans.full A3.out C3.out
 ·rw [if_pos he]
  have d1 : (xe != 0) = true := by simpa using he
  clear he
  go_enter Tryz.func83,Tryz.ntmps83
  go_wp2_with fail
  refine HLD.out.mono ?_
  rintro e w1 ⟨S1,D1,rfl,hr1,st1⟩
  have hbn := bN_ w1 (.cells #[.int .u8 xk,.int .u32 xl,.int .u32 xz,.int .u32 xp] 46)
  have A1 := hQ_ ((A0.out.step HS.out hr1 st1).below HS.out hbn)
  clear hr1 st1 hbn
  go_wp2_with fail
  go_ret
  exact HERR.out _ _ _ _ _ A1.out
end Go.Proofs.YtogdjbhjgbnicaaGreatDoor.FileKh
namespace Go.Proofs.YtogdjbhjgbnicaaGreatDoor.OpsW
open Go.RowKit
open Byte KeysM ViewM NodeM WalkM WalkF DirsV FileM FileV Lst Chg TreeL ViewL WalkL Vat Ho DirsK DirsKa FileK FileKd Cpy FileKe FileKg FileKh OpsR OpsD OpsE OpsI OpsJ OpsK OpsS
open TreeM hiding cutL
open Own hiding lower
variable {Rep : RepT}
def AnsN (Rep : RepT) (g : Nat) (v : Value) (hs : List Int) (s : Vs) (er N : Int) (ps : List Wrt) (k m : Nat) (S D : Nat → Prop) (w : World) (e : Ending) (w' : World) : Prop := ∃ J s' S' D',J = (if (goW s ps).2 = true then er else 21) ∧ e = .returned (resV J (if J = 0 then N else 0) (.slice none 0 0) (.slice none 0 0) 0 0 0 0) ∧ Dst Rep w' g v hs s' S' D' ∧ Dstp S D S' D' g w w' ∧ Aft s s' ps k m
def wrtD (L : List Pr) (hs : List Int) (hn frm : Int) (xs : List Int) : Int × List Wrt := if (inoD hs hn).2 = 0 then wriV L (inoD hs hn).1 frm xs else (16,[])
def ReadD (Rep : RepT) (g : Nat) (v : Value) (hs : List Int) (s' : Vs) (r : List Int × Int) (S D : Nat → Prop) (w : World) (e : Ending) (w' : World) : Prop := ∃ (a : Option Addr) (m c : Nat) (S' D' : Nat → Prop),e = .returned (resV r.2 (m : Int) (.slice a m c) (.slice none 0 0) 0 0 0 0) ∧ So u8E 5 w' w.heap.size (.slice a m c) m r.1 ∧ Dst Rep w' g v hs s' S' D' ∧ Dstp S D S' D' g w w' ∧ (∀ q o,a = some ⟨q,o,none⟩ → ¬ D' q)
theorem inoD_er (hs : List Int) (hn : Int) : (inoD hs hn).2 = 0 ∨ (inoD hs hn).2 = 16 := by
 unfold inoD
 repeat' split
 all_goals first | exact .inl rfl | exact .inr rfl
theorem write_deed (hW0 : Wk Rep) (hLk : LookOk Rep) (hSt : SetOk Rep) {w : World} {g : Nat} {v : Value} {hs : List Int} {s : Vs} {S D : Nat → Prop} (o : Op20) (ino : Int) (hdd : Dst Rep w g v hs s S D) (hl : Lim s) (h2 : s.rd.length ≤ 18000) (a0 : -9223372036854775808 ≤ o.frm) (a1 : o.frm ≤ 9223372036854775807) {xs : List Int} (hxs : Bs w o.da o.dn xs) (hc : o.dn ≤ o.dc) (hbig : o.dc ≤ 9223372036854775807) (hA : 0 < o.dn → ∀ b of,o.da = some ⟨b,of,none⟩ → ¬ S b ∧ b < w.heap.size) (hv : V64 s.shown (inoD hs o.hn).1) :
 Calls Tryz.prog 50 #[.pointer (some ⟨g,0,none⟩),o.val,.int .u32 ino] w (AnsN Rep g v hs s (wrtD s.shown hs o.hn o.frm xs).1 o.dn (wrtD s.shown hs o.hn o.frm xs).2 1 0 S D w) := by
 obtain ⟨kind,path,other,hn,frm,n,da,dn,dc⟩ := o
 dsimp only [Op20.val,Op20.cells] at *
 obtain ⟨hr,hd,hng⟩ := hdd
 have hlt := hW0.stays.lt hr
 have hsub := hW0.stays.sub hr
 obtain ⟨W,hW⟩ : ∃ W,(w.alloc (.cells #[.int .u8 kind,.string path,.string other,.int .i64 hn,.int .i64 frm,.int .i64 n,.slice da dn dc] 41)).alloc (.cells zres 48) = W := ⟨_,rfl⟩
 have hs1 : (w.alloc (.cells #[.int .u8 kind,.string path,.string other,.int .i64 hn,.int .i64 frm,.int .i64 n,.slice da dn dc] 41)).heap.size = w.heap.size + 1 := by simp
 have hB : Blk W (w.heap.size + 1) zres 48 := by rw [← hW,← hs1]; exact Blk.new_ _ zres _
 have hO : Blk W w.heap.size #[.int .u8 kind,.string path,.string other,.int .i64 hn,.int .i64 frm,.int .i64 n,.slice da dn dc] 41 := by rw [← hW]; exact (Blk.new_ _ _ _).alloc _
 have hbW : Below w.heap.size w W := by rw [← hW]; exact (bW_).alloc (by rw [hs1]; omega) _
 have hsW : W.heap.size = w.heap.size + 2 := by rw [← hW]; simp
 have hbd : Below w.heap.size w W.drew := hbW.drew
 have HB0 : Hid (Blk W (w.heap.size + 1) zres 48) := hQ_ hB
 have HBD0 : Hid (Blk W.drew (w.heap.size + 1) zres 48) := hQ_ hB
 have HAW := hQ_ ((At.start hr).owns hW0.stays hbW (Q := fun b => b = w.heap.size ∨ b = w.heap.size + 1) (fun b h => by rw [hsW]; omega))
 have HA0 := hQ_ ((At.start hr).owns hW0.stays hbd (Q := fun b => b = w.heap.size ∨ b = w.heap.size + 1) (fun b h => by
  have e : W.drew.heap.size = W.heap.size := rfl
  rw [e,hsW]
  omega))
 have HIN := hQ_ (inode_calls (hd.below hbW) hn)
 have hib := inoD_bd hd.bd hn
 have h3 := cZ3 hO
 have RD : Hid (∀ q0,Chg (fun k => S k ∨ k = w.heap.size + 1) W q0 → Chg (fun k => S k ∨ k = w.heap.size + 1) W q0 ∧ q0.cell? ⟨g,0,none⟩ = some v ∧ q0.cell? ⟨w.heap.size,4,none⟩ = some (.int .i64 frm) ∧ q0.cell? ⟨w.heap.size,5,none⟩ = some (.int .i64 n) ∧ q0.cell? ⟨w.heap.size,6,none⟩ = some (.slice da dn dc)) := hQ_ (fun q0 hq => by
  obtain ⟨c1,c2⟩ := find_cells hd hng hlt hsub hbW hO hq
  exact ⟨hq,c1,c2 4,c2 5,c2 6⟩)
 have HW := hQ_ hW
 have HVS := hQ_ hW0.stays
 have HRW := hQ_ hr
 have HDS := hQ_ hd
 have HNG := hQ_ hng
 have hcc := Write_calls hW0 hLk hSt (inoD hs hn).1 frm (hW0.stays.below hr hbd) hl (by omega) hib.1 hib.2 a0 a1 (hxs.below hbd) hc hbig (fun h b of e => ⟨(hA h b of e).1,Nat.lt_of_lt_of_le (hA h b of e).2 hbd.size⟩) hv
 unfold wrtD
 obtain ⟨⟨io,ie⟩,hI⟩ : ∃ I,inoD hs hn = I := ⟨_,rfl⟩
 have hie := inoD_er hs hn
 rw [hI] at HIN hcc hie ⊢
 dsimp only at HIN hcc hie ⊢
 rcases hie with rfl | rfl
 ·rw [if_pos rfl]
  obtain ⟨er,her⟩ : ∃ er,(wriV s.shown io frm xs).1 = er := ⟨_,rfl⟩
  obtain ⟨ps,hps⟩ : ∃ ps,(wriV s.shown io frm xs).2 = ps := ⟨_,rfl⟩
  rw [her,hps] at hcc ⊢
  obtain ⟨J,hJ⟩ : ∃ J : Int,(if (goW s ps).2 = true then er else 21) = J := ⟨_,rfl⟩
  unfold Ans at hcc
  simp only [hJ] at hcc
  have HC := hQ_ hcc
  have HJ := hQ_ hJ
  have hsz : dn ≤ 9223372036854775807 := Nat.le_trans hc hbig
  clear hW hs1 hO hB hbW hsW hbd hlt hsub hd hr hng hl h2 hW0 hI hcc her hps hJ hib hxs hc hbig hA hv a0 a1 hLk hSt
  go_enter Tryz.func50,Tryz.ntmps50
  go_wp2_with fail
  rw [HW.out]
  go_wp2_with fail
  refine HIN.out.mono ?_
  rintro e w2 ⟨rfl,rfl⟩
  go_wp2_with fail
  refine wp_region_held_drew (S := fun q0 => Chg (fun k => S k ∨ k = w.heap.size + 1) W q0 ∧ q0.cell? ⟨g,0,none⟩ = some v ∧ q0.cell? ⟨w.heap.size,4,none⟩ = some (.int .i64 frm) ∧ q0.cell? ⟨w.heap.size,5,none⟩ = some (.int .i64 n) ∧ q0.cell? ⟨w.heap.size,6,none⟩ = some (.slice da dn dc)) (by kernel_rfl) (RD.out _ (Chg.refl (fun k => S k ∨ k = w.heap.size + 1) W).drew) (fun hHeld => ?_)
  refine hw_ 0 (some 21) ?_
  refine hw_ 1 (some 22) ?_
  refine hw_ 2 (some 23) ?_
  refine hw_ 3 (some 24) ?_
  refine hw_ 4 (some 25) ?_
  refine hw_ 5 (some 26) ?_
  refine hw_ 6 (some 27) ?_
  refine hw_ 7 (some 28) ?_
  refine hw_ 8 (some 29) ?_
  refine ho_step 9 (some 30) rfl rfl (by kernel_rfl) (by kernel_rfl) (fun K hK => ?_)
  go_simp
  go_at_call 83
  refine HC.out.mono ?_
  rintro e w3 ⟨s',S',D',rfl,hr3,st3,aft3⟩
  have hq3 : Chg (fun k => S k ∨ k = w.heap.size + 1) W w3 := (Chg.refl (fun k => S k ∨ k = w.heap.size + 1) W).drew.trans (st3.chg.mono (fun _ _ h => .inl h))
  try go_wp2_with fail
  refine hK.out _ _ (RD.out _ hq3) (fun hHeld2 => ?_)
  clear hHeld
  have hHeld := hHeld2
  clear hHeld2
  clear hK K
  try simp only [pZ_]
  refine hw_ 10 (some 9) ?_
  refine wpAnyH_done (by kernel_rfl) ?_ _
  have HA5 := hQ_ (At.step HVS.out HA0.out hr3 st3)
  have HR5 := hQ_ (At.blk HVS.out HA0.out HBD0.out (.inr (.inr rfl)) st3)
  have HF5 := hQ_ aft3
  have HO5 := hQ_ (RD.out _ hq3)
  have k6 : w3.cell? ⟨w.heap.size,6,none⟩ = some (.slice da dn dc) := HO5.out.2.2.2.2
  clear hHeld hq3 hr3 st3 aft3
  by_cases e1 : J = 0
  ·have HJ0 := hQ_ e1
   subst e1
   go_wp2_with ((with_reducible refine pick none ?_); refine store_blk rfl 48 _ _ rfl (w.heap.size + 1) #[.int .i64 0,.int .i64 (dn : Int),.slice none 0 0,.slice none 0 0,.int .u8 0,.int .u32 0,.int .u32 0,.int .u32 0] rfl rfl 48 _ HR5.out info_res rfl (by simp [Value.oneCell']) ?_; intro w8 hk8 hg8)
   have A8 := At.stored HVS.out HA5.out HR5.out (.inr (.inr rfl)) (by decide) hg8
   exact bodyPost_ret (v := resV 0 (dn : Int) (.slice none 0 0) (.slice none 0 0) 0 0 0 0) (results_cell_row rfl _ _ (w.heap.size + 1) 48 _ (0,0) _ rfl hk8 Tryz.underlying48 rfl info_res) rfl ⟨0,s',S',D',HJ.out.symm,rfl,(Dst.step HVS.out ⟨HRW.out,HDS.out,HNG.out⟩ A8.rep A8.st).1,(Dst.step HVS.out ⟨HRW.out,HDS.out,HNG.out⟩ A8.rep A8.st).2,HF5.out⟩
  ·have d1 : (J == 0) = false := by simpa using e1
   have HNZ := hQ_ e1
   clear e1
   go_wp2_with fail
   refine (only_calls J _).mono ?_
   rintro e w7 ⟨rfl,hb7⟩
   have HR7 := hQ_ (HR5.out.below hb7)
   have HA7 := hQ_ (At.below HVS.out HA5.out hb7)
   clear hb7
   go_wp2_with ((with_reducible refine pick none ?_); refine store_blk rfl 48 _ _ rfl (w.heap.size + 1) #[.int .i64 J,.int .i64 0,.slice none 0 0,.slice none 0 0,.int .u8 0,.int .u32 0,.int .u32 0,.int .u32 0] rfl rfl 48 _ HR7.out info_res rfl (by simp [Value.oneCell']) ?_; intro w8 hk8 hg8)
   have A8 := At.stored HVS.out HA7.out HR7.out (.inr (.inr rfl)) (by decide) hg8
   exact bodyPost_ret (v := onlyV J) (results_cell_row rfl _ _ (w.heap.size + 1) 48 _ (0,0) _ rfl hk8 Tryz.underlying48 rfl info_res) rfl ⟨J,s',S',D',HJ.out.symm,by rw [if_neg HNZ.out],(Dst.step HVS.out ⟨HRW.out,HDS.out,HNG.out⟩ A8.rep A8.st).1,(Dst.step HVS.out ⟨HRW.out,HDS.out,HNG.out⟩ A8.rep A8.st).2,HF5.out⟩
 ·rw [if_neg (by decide)]
  clear hW hs1 hO hB hbW hsW hbd hlt hsub hd hr hng hl h2 hW0 hI hcc hib hxs hc hbig hA hv a0 a1 hLk hSt RD
  go_enter Tryz.func50,Tryz.ntmps50
  go_wp2_with fail
  rw [HW.out]
  go_wp2_with fail
  refine HIN.out.mono ?_
  rintro e w2 ⟨rfl,rfl⟩
  have HA5 := hQ_ HAW.out
  have HR5 := hQ_ HB0.out
  go_wp2_with fail
  refine (only_calls 16 _).mono ?_
  rintro e w7 ⟨rfl,hb7⟩
  have HR7 := hQ_ (HR5.out.below hb7)
  have HA7 := hQ_ (At.below HVS.out HA5.out hb7)
  clear hb7
  go_wp2_with ((with_reducible refine pick none ?_); refine store_blk rfl 48 _ _ rfl (w.heap.size + 1) #[.int .i64 16,.int .i64 0,.slice none 0 0,.slice none 0 0,.int .u8 0,.int .u32 0,.int .u32 0,.int .u32 0] rfl rfl 48 _ HR7.out info_res rfl (by simp [Value.oneCell']) ?_; intro w8 hk8 hg8)
  have A8 := At.stored HVS.out HA7.out HR7.out (.inr (.inr rfl)) (by decide) hg8
  exact bodyPost_ret (v := onlyV 16) (results_cell_row rfl _ _ (w.heap.size + 1) 48 _ (0,0) _ rfl hk8 Tryz.underlying48 rfl info_res) rfl ⟨16,s,S,D,by rw [goW_nil]; rfl,rfl,(Dst.step HVS.out ⟨HRW.out,HDS.out,HNG.out⟩ A8.rep A8.st).1,(Dst.step HVS.out ⟨HRW.out,HDS.out,HNG.out⟩ A8.rep A8.st).2,⟨by rw [goW_nil]; exact Sm.refl _,by omega,by omega⟩⟩
theorem read_deed (hW0 : Wk Rep) (hLk : LookOk Rep) {w : World} {g : Nat} {v : Value} {hs : List Int} {s : Vs} {S D : Nat → Prop} (o : Op20) (ino : Int) (hdd : Dst Rep w g v hs s S D) (hl : Lim s) (h2 : s.rd.length ≤ 18000) (a0 : -9223372036854775808 ≤ o.frm) (a1 : o.frm ≤ 9223372036854775807) (n0 : -9223372036854775808 ≤ o.n) (n1 : o.n ≤ 9223372036854775807) (hv : V64 s.shown (inoD hs o.hn).1) :
 Calls Tryz.prog 49 #[.pointer (some ⟨g,0,none⟩),o.val,.int .u32 ino] w (if (inoD hs o.hn).2 = 0 then ReadD Rep g v hs (s.read (kI (inoD hs o.hn).1)) (reaV s.shown (inoD hs o.hn).1 o.frm o.n) S D w else AnsN Rep g v hs s 16 0 [] 1 0 S D w) := by
 obtain ⟨kind,path,other,hn,frm,n,da,dn,dc⟩ := o
 dsimp only [Op20.val,Op20.cells] at *
 obtain ⟨hr,hd,hng⟩ := hdd
 have hlt := hW0.stays.lt hr
 have hsub := hW0.stays.sub hr
 obtain ⟨W,hW⟩ : ∃ W,(w.alloc (.cells #[.int .u8 kind,.string path,.string other,.int .i64 hn,.int .i64 frm,.int .i64 n,.slice da dn dc] 41)).alloc (.cells zres 48) = W := ⟨_,rfl⟩
 have hs1 : (w.alloc (.cells #[.int .u8 kind,.string path,.string other,.int .i64 hn,.int .i64 frm,.int .i64 n,.slice da dn dc] 41)).heap.size = w.heap.size + 1 := by simp
 have hB : Blk W (w.heap.size + 1) zres 48 := by rw [← hW,← hs1]; exact Blk.new_ _ zres _
 have hO : Blk W w.heap.size #[.int .u8 kind,.string path,.string other,.int .i64 hn,.int .i64 frm,.int .i64 n,.slice da dn dc] 41 := by rw [← hW]; exact (Blk.new_ _ _ _).alloc _
 have hbW : Below w.heap.size w W := by rw [← hW]; exact (bW_).alloc (by rw [hs1]; omega) _
 have hsW : W.heap.size = w.heap.size + 2 := by rw [← hW]; simp
 have hbd : Below w.heap.size w W.drew := hbW.drew
 have HB0 : Hid (Blk W (w.heap.size + 1) zres 48) := hQ_ hB
 have HBD0 : Hid (Blk W.drew (w.heap.size + 1) zres 48) := hQ_ hB
 have HAW := hQ_ ((At.start hr).owns hW0.stays hbW (Q := fun b => b = w.heap.size ∨ b = w.heap.size + 1) (fun b h => by rw [hsW]; omega))
 have HA0 := hQ_ ((At.start hr).owns hW0.stays hbd (Q := fun b => b = w.heap.size ∨ b = w.heap.size + 1) (fun b h => by
  have e : W.drew.heap.size = W.heap.size := rfl
  rw [e,hsW]
  omega))
 have HIN := hQ_ (inode_calls (hd.below hbW) hn)
 have hib := inoD_bd hd.bd hn
 have h3 := cZ3 hO
 have RD : Hid (∀ q0,Chg (fun k => S k ∨ k = w.heap.size + 1) W q0 → Chg (fun k => S k ∨ k = w.heap.size + 1) W q0 ∧ q0.cell? ⟨g,0,none⟩ = some v ∧ q0.cell? ⟨w.heap.size,4,none⟩ = some (.int .i64 frm) ∧ q0.cell? ⟨w.heap.size,5,none⟩ = some (.int .i64 n) ∧ q0.cell? ⟨w.heap.size,6,none⟩ = some (.slice da dn dc)) := hQ_ (fun q0 hq => by
  obtain ⟨c1,c2⟩ := find_cells hd hng hlt hsub hbW hO hq
  exact ⟨hq,c1,c2 4,c2 5,c2 6⟩)
 have HW := hQ_ hW
 have HVS := hQ_ hW0.stays
 have HRW := hQ_ hr
 have HDS := hQ_ hd
 have HNG := hQ_ hng
 have hcc := Read_calls hW0 hLk (inoD hs hn).1 frm n (hW0.stays.below hr hbd) hl (by omega) hib.1 hib.2 a0 a1 n0 n1 hv
 obtain ⟨⟨io,ie⟩,hI⟩ : ∃ I,inoD hs hn = I := ⟨_,rfl⟩
 have hie := inoD_er hs hn
 rw [hI] at HIN hcc hie ⊢
 dsimp only at HIN hcc hie ⊢
 rcases hie with rfl | rfl
 ·rw [if_pos rfl]
  obtain ⟨⟨ys,er⟩,hR⟩ : ∃ R,reaV s.shown io frm n = R := ⟨_,rfl⟩
  rw [hR] at hcc ⊢
  unfold ReadE at hcc
  have HC := hQ_ hcc
  clear hW hs1 hO hB hbW hsW hbd hlt hsub hd hr hng hl h2 hW0 hI hcc hR hib hv a0 a1 n0 n1 hLk
  go_enter Tryz.func49,Tryz.ntmps49
  go_wp2_with fail
  rw [HW.out]
  go_wp2_with fail
  refine HIN.out.mono ?_
  rintro e w2 ⟨rfl,rfl⟩
  go_wp2_with fail
  refine wp_region_held_drew (S := fun q0 => Chg (fun k => S k ∨ k = w.heap.size + 1) W q0 ∧ q0.cell? ⟨g,0,none⟩ = some v ∧ q0.cell? ⟨w.heap.size,4,none⟩ = some (.int .i64 frm) ∧ q0.cell? ⟨w.heap.size,5,none⟩ = some (.int .i64 n) ∧ q0.cell? ⟨w.heap.size,6,none⟩ = some (.slice da dn dc)) (by kernel_rfl) (RD.out _ (Chg.refl (fun k => S k ∨ k = w.heap.size + 1) W).drew) (fun hHeld => ?_)
  refine hw_ 0 (some 22) ?_
  refine hw_ 1 (some 23) ?_
  refine hw_ 2 (some 24) ?_
  refine hw_ 3 (some 25) ?_
  refine hw_ 4 (some 26) ?_
  refine hw_ 5 (some 27) ?_
  refine hw_ 6 (some 28) ?_
  refine hw_ 7 (some 29) ?_
  refine hw_ 8 (some 30) ?_
  refine ho_step 9 (some 31) rfl rfl (by kernel_rfl) (by kernel_rfl) (fun K hK => ?_)
  go_simp
  go_at_call 82
  refine HC.out.mono ?_
  rintro e w3 ⟨u3,m3,S',D',rfl,ho3,hr3,st3,hn3⟩
  obtain ⟨ua,uc,rfl,_,_,_⟩ := Tx.So.head ho3
  have hq3 : Chg (fun k => S k ∨ k = w.heap.size + 1) W w3 := (Chg.refl (fun k => S k ∨ k = w.heap.size + 1) W).drew.trans (st3.chg.mono (fun _ _ h => .inl h))
  try go_wp2_with fail
  refine hK.out _ _ (RD.out _ hq3) (fun hHeld2 => ?_)
  clear hHeld
  have hHeld := hHeld2
  clear hHeld2
  clear hK K
  try simp only [pZ_]
  refine hw_ 10 (some 21) ?_
  refine hw_ 11 (some 32) ?_
  refine hw_ 12 (some 33) ?_
  refine hw_ 13 (some 9) ?_
  refine hw_ 14 (some 8) ?_
  refine wpAnyH_done (by kernel_rfl) ?_ _
  have HA5 := hQ_ (At.step HVS.out HA0.out hr3 st3)
  have HR5 := hQ_ (At.blk HVS.out HA0.out HBD0.out (.inr (.inr rfl)) st3)
  have HO3 := hQ_ ho3
  have HWS := hQ_ (show w.heap.size + 1 < W.drew.heap.size from HBD0.out.lt)
  have HN3 := hQ_ hn3
  clear hHeld hq3 hr3 st3 ho3 hn3
  go_wp2_with ((with_reducible refine pick none ?_); refine store_blk rfl 48 _ _ rfl (w.heap.size + 1) #[.int .i64 er,.int .i64 (m3 : Int),.slice ua m3 uc,.slice none 0 0,.int .u8 0,.int .u32 0,.int .u32 0,.int .u32 0] rfl rfl 48 _ HR5.out info_res rfl (by simp [Value.oneCell']) ?_; intro w8 hk8 hg8)
  have A8 := At.stored HVS.out HA5.out HR5.out (.inr (.inr rfl)) (by decide) hg8
  have ho8 := So.grown HO3.out hg8 (by
   cases hb : (Value.slice ua m3 uc).ownBlock with
   | none => exact .inl rfl
   | some q =>
     refine .inr (fun e => ?_)
     have := (HO3.out.lt hb).1
     have := HWS.out
     injection e with e
     omega)
  exact bodyPost_ret (v := resV er (m3 : Int) (.slice ua m3 uc) (.slice none 0 0) 0 0 0 0) (results_cell_row rfl _ _ (w.heap.size + 1) 48 _ (0,0) _ rfl hk8 Tryz.underlying48 rfl info_res) rfl ⟨ua,m3,uc,S',D',rfl,So.lower ho8 (Nat.le_trans (Nat.le_succ _) (Nat.le_of_lt HWS.out)),(Dst.step HVS.out ⟨HRW.out,HDS.out,HNG.out⟩ A8.rep A8.st).1,(Dst.step HVS.out ⟨HRW.out,HDS.out,HNG.out⟩ A8.rep A8.st).2,fun q o e => HN3.out q (by rw [e]; rfl)⟩
 ·rw [if_neg (by decide)]
  clear hW hs1 hO hB hbW hsW hbd hlt hsub hd hr hng hl h2 hW0 hI hcc hib hv a0 a1 n0 n1 hLk RD
  go_enter Tryz.func49,Tryz.ntmps49
  go_wp2_with fail
  rw [HW.out]
  go_wp2_with fail
  refine HIN.out.mono ?_
  rintro e w2 ⟨rfl,rfl⟩
  have HA5 := hQ_ HAW.out
  have HR5 := hQ_ HB0.out
  go_wp2_with fail
  refine (only_calls 16 _).mono ?_
  rintro e w7 ⟨rfl,hb7⟩
  have HR7 := hQ_ (HR5.out.below hb7)
  have HA7 := hQ_ (At.below HVS.out HA5.out hb7)
  clear hb7
  go_wp2_with ((with_reducible refine pick none ?_); refine store_blk rfl 48 _ _ rfl (w.heap.size + 1) #[.int .i64 16,.int .i64 0,.slice none 0 0,.slice none 0 0,.int .u8 0,.int .u32 0,.int .u32 0,.int .u32 0] rfl rfl 48 _ HR7.out info_res rfl (by simp [Value.oneCell']) ?_; intro w8 hk8 hg8)
  have A8 := At.stored HVS.out HA7.out HR7.out (.inr (.inr rfl)) (by decide) hg8
  exact bodyPost_ret (v := onlyV 16) (results_cell_row rfl _ _ (w.heap.size + 1) 48 _ (0,0) _ rfl hk8 Tryz.underlying48 rfl info_res) rfl ⟨16,s,S,D,by rw [goW_nil]; rfl,rfl,(Dst.step HVS.out ⟨HRW.out,HDS.out,HNG.out⟩ A8.rep A8.st).1,(Dst.step HVS.out ⟨HRW.out,HDS.out,HNG.out⟩ A8.rep A8.st).2,⟨by rw [goW_nil]; exact Sm.refl _,by omega,by omega⟩⟩
end Go.Proofs.YtogdjbhjgbnicaaGreatDoor.OpsW
namespace Go.Proofs.YtogdjbhjgbnicaaGreatDoor.OpsT
open Go.RowKit
open Byte KeysM TreeM ViewM NodeM WalkM WalkF DirsV Lst Chg TreeL ViewL WalkL Vat DirsK DirsKa DirsKc FileV FileKd FileKe OpsR OpsD OpsE OpsI OpsJ OpsK OpsS OpsO OpsW
open Own hiding lower
variable {Rep : RepT}
def Off (r : Res20) (D' : Nat → Prop) : Prop := (∀ q o,r.da = some ⟨q,o,none⟩ → ¬ D' q) ∧ (∀ q o,r.na = some ⟨q,o,none⟩ → ¬ D' q)
def DoE (Rep : RepT) (Q : Res20 → Nat → World → List Int → Vs → Prop) (g : Nat) (v : Value) (S D : Nat → Prop) (w : World) (e : Ending) (w' : World) : Prop := ∃ (r : Res20) (hs' : List Int) (s' : Vs) (S' D' : Nat → Prop),e = .returned r.val ∧ Dst Rep w' g v hs' s' S' D' ∧ Dstp S D S' D' g w w' ∧ Off r D' ∧ Q r w.heap.size w' hs' s'
structure Qk (Q : Res20 → Nat → World → List Int → Vs → Prop) : Prop where
 keep : ∀ {r b u u' hs s c},Q r b u hs s → u.grownBy u' (some c) → c < b → Q r b u' hs s
 low : ∀ {r b b' u hs s},Q r b u hs s → b' ≤ b → Q r b' u hs s
theorem do_at (hV : Stays Rep) {Q : Res20 → Nat → World → List Int → Vs → Prop} (hQ : Qk Q) {w : World} {g : Nat} {v : Value} {hs : List Int} {s : Vs} {S D : Nat → Prop} (o : Op20) (ino : Int) (hdd : Dst Rep w g v hs s S D)
 (hE : ∀ (args : Array Value) (w : World),(callFunc (deedF o.kind) args).run Tryz.prog w = .ok (.enter (deedF o.kind) args) w)
 (hC : ∀ u,Below w.heap.size w u → Dst Rep u g v hs s S D → Calls Tryz.prog (deedF o.kind) #[.pointer (some ⟨g,0,none⟩),o.val,.int .u32 ino] u (DoE Rep Q g v S D u)) :
 Calls Tryz.prog 15 #[.pointer (some ⟨g,0,none⟩),o.val,.int .u32 ino] w (DoE Rep Q g v S D w) := by
 have hlt := hV.lt hdd.rep
 have hsub := hV.sub hdd.rep
 have hg := hdd.dsk.blk.lt
 refine (do_calls ⟨g,0,none⟩ o ino w (fun r u' => ∃ (hs' : List Int) (s' : Vs) (S' D' : Nat → Prop),Dst Rep u' g v hs' s' S' D' ∧ Dstp S D S' D' g w u' ∧ Off r D' ∧ Q r (w.heap.size + 2) u' hs' s' ∧ ¬ D' (w.heap.size + 1)) hE ?_ ?_).mono ?_
 ·intro u hb hsz
  refine (hC u hb (hdd.below hV hb)).mono ?_
  rintro e u' ⟨r,hs',s',S',D',rfl,h1,h2,ho,h3⟩
  refine ⟨r,rfl,fun k hk1 hk2 => h2.chg.block k hk2 (fun h => ?_),hs',s',S',D',h1,?_,ho,hQ.low h3 hsz,fun hd => ?_⟩
  ·rcases h with h | h
   ·have := hlt k (hsub k h)
    omega
   ·omega
  ·exact Dstp.trans ⟨Chg.of_below hb,Kept.of_below hb,Grow.refl _ _,Grow.refl _ _⟩ h2
  ·rcases h2.dep _ hd with h | h
   ·have := hlt _ h
    omega
   ·omega
 ·rintro r u u' ⟨hs',s',S',D',h1,h2,ho,h3,h4⟩ hB hg5
  obtain ⟨z1,z2⟩ := Dst.stored (w0 := w) hV h1 hB hg5 h4 (by omega) (Nat.le_succ _) h2
  exact ⟨hs',s',S',D',z1,z2,ho,hQ.keep h3 hg5 (by omega),h4⟩
 ·rintro e w' ⟨r,he,hs',s',S',D',h1,h2,ho,h3,_⟩
  exact ⟨r,hs',s',S',D',he,h1,h2,ho,hQ.low h3 (by omega)⟩
abbrev resN (er n : Int) : Res20 := ⟨er,n,none,0,0,none,0,0,0,0,0,0⟩
theorem off_n {D' : Nat → Prop} {er n : Int} : Off (resN er n) D' := ⟨fun _ _ h => by (have h' : (none : Option Addr) = some _ := h; cases h'),fun _ _ h => by (have h' : (none : Option Addr) = some _ := h; cases h')⟩
def QN (hs : List Int) (s : Vs) (er N : Int) (ps : List Wrt) (k m : Nat) (r : Res20) (b : Nat) (u : World) (hs' : List Int) (s' : Vs) : Prop := hs' = hs ∧ ∃ J,J = (if (goW s ps).2 = true then er else 21) ∧ r = resN J (if J = 0 then N else 0) ∧ Aft s s' ps k m
theorem qN {hs : List Int} {s : Vs} {er N : Int} {ps : List Wrt} {k m : Nat} : Qk (QN hs s er N ps k m) := ⟨fun h _ _ => h,fun h _ => h⟩
theorem of_ansO (hV : Stays Rep) {w : World} {g : Nat} {v : Value} {hs : List Int} {s : Vs} {S D : Nat → Prop} {er : Int} {ps : List Wrt} {k m : Nat} (hdd : Dst Rep w g v hs s S D) {e : Ending} {w' : World} (h : AnsO Rep v s er ps k m S D w e w') : DoE Rep (QN hs s er 0 ps k m) g v S D w e w' := by
 obtain ⟨s',S',D',he,hr,st,ha⟩ := h
 refine ⟨resN (if (goW s ps).2 = true then er else 21) 0,hs,s',S',D',he,(hdd.step hV hr st).1,(hdd.step hV hr st).2,off_n,rfl,_,rfl,by rw [ite_self],ha⟩
theorem of_ansN {w : World} {g : Nat} {v : Value} {hs : List Int} {s : Vs} {S D : Nat → Prop} {er N : Int} {ps : List Wrt} {k m : Nat} {e : Ending} {w' : World} (h : AnsN Rep g v hs s er N ps k m S D w e w') : DoE Rep (QN hs s er N ps k m) g v S D w e w' := by
 obtain ⟨J,s',S',D',hJ,he,hd,st,ha⟩ := h
 exact ⟨resN J (if J = 0 then N else 0),hs,s',S',D',he,hd,st,off_n,rfl,J,hJ,rfl,ha⟩
section
variable {w : World} {g : Nat} {v : Value} {hs : List Int} {s : Vs} {S D : Nat → Prop}
theorem do_create (hW0 : Wk Rep) (o : Op20) (ino : Int) (ho : o.kind = 4) (hdd : Dst Rep w g v hs s S D) (hl : Lim s) (h2 : s.rd.length ≤ 18000) (h3 : s.rg.length ≤ 900) (hx : Mxs w S) (hp : o.path.size ≤ 100000) (i0 : 0 ≤ ino) (i1 : ino ≤ 4294967295) :
 Calls Tryz.prog 15 #[.pointer (some ⟨g,0,none⟩),o.val,.int .u32 ino] w (DoE Rep (QN hs s (makV s.shown o.path 1 ino).1 0 (makV s.shown o.path 1 ino).2 41 0) g v S D w) := by
 refine do_at hW0.stays qN o ino hdd (by rw [ho]; exact fun args w => by kernel_rfl) (fun u hb hu => ?_)
 rw [ho]
 exact (create_deed hW0 o ino hu.dsk hu.rep hu.ng hl h2 h3 (hx.below hb) hp i0 i1).mono (fun _ _ h => of_ansO hW0.stays hu h)
def QO (s : Vs) (path : ByteArray) (x : Int × Int × List Int) (r : Res20) (b : Nat) (u : World) (hs' : List Int) (s' : Vs) : Prop := hs' = x.2.2 ∧ r = resN x.1 x.2.1 ∧ FindR s path s'
theorem do_open (hW0 : Wk Rep) (o : Op20) (ino : Int) (ho : o.kind = 6) (hdd : Dst Rep w g v hs s S D) (hl : Lim s) (h2 : s.rd.length ≤ 18000) (h3 : s.rg.length ≤ 900) (hx : Mxs w S) (hp : o.path.size ≤ 100000) :
 Calls Tryz.prog 15 #[.pointer (some ⟨g,0,none⟩),o.val,.int .u32 ino] w (DoE Rep (QO s o.path (opnV s.shown hs o.path)) g v S D w) := by
 refine do_at hW0.stays ⟨fun h _ _ => h,fun h _ => h⟩ o ino hdd (by rw [ho]; exact fun args w => by kernel_rfl) (fun u hb hu => ?_)
 rw [ho]
 refine (open_deed hW0 o ino hu hl h2 h3 (hx.below hb) hp).mono ?_
 rintro e u' ⟨s',S',D',he,hd,st,hf⟩
 exact ⟨resN _ _,_,s',S',D',he,hd,st,off_n,rfl,rfl,hf⟩
theorem do_write (hW0 : Wk Rep) (hLk : LookOk Rep) (hSt : SetOk Rep) (o : Op20) (ino : Int) (ho : o.kind = 9) (hdd : Dst Rep w g v hs s S D) (hl : Lim s) (h2 : s.rd.length ≤ 18000) (a0 : -9223372036854775808 ≤ o.frm) (a1 : o.frm ≤ 9223372036854775807) {xs : List Int} (hxs : Bs w o.da o.dn xs) (hc : o.dn ≤ o.dc) (hbig : o.dc ≤ 9223372036854775807) (hA : 0 < o.dn → ∀ b of,o.da = some ⟨b,of,none⟩ → ¬ S b ∧ b < w.heap.size) (hv : V64 s.shown (inoD hs o.hn).1) :
 Calls Tryz.prog 15 #[.pointer (some ⟨g,0,none⟩),o.val,.int .u32 ino] w (DoE Rep (QN hs s (wrtD s.shown hs o.hn o.frm xs).1 o.dn (wrtD s.shown hs o.hn o.frm xs).2 1 0) g v S D w) := by
 refine do_at hW0.stays qN o ino hdd (by rw [ho]; exact fun args w => by kernel_rfl) (fun u hb hu => ?_)
 rw [ho]
 exact (write_deed hW0 hLk hSt o ino hu hl h2 a0 a1 (hxs.below hb) hc hbig (fun h b of e => ⟨(hA h b of e).1,Nat.lt_of_lt_of_le (hA h b of e).2 hb.size⟩) hv).mono (fun _ _ h => of_ansN h)
def QR (L : List Pr) (hs : List Int) (hn frm n : Int) (s : Vs) (r : Res20) (b : Nat) (u : World) (hs' : List Int) (s' : Vs) : Prop := hs' = hs ∧ (((inoD hs hn).2 = 0 ∧ s' = s.read (kI (inoD hs hn).1) ∧ (∃ (a : Option Addr) (m c : Nat),r = ⟨(reaV L (inoD hs hn).1 frm n).2,(m : Int),a,m,c,none,0,0,0,0,0,0⟩ ∧ So u8E 5 u b (.slice a m c) m (reaV L (inoD hs hn).1 frm n).1)) ∨ ((inoD hs hn).2 ≠ 0 ∧ r = resN 16 0 ∧ Aft s s' [] 1 0))
theorem qR {L : List Pr} {hs : List Int} {hn frm n : Int} {s : Vs} : Qk (QR L hs hn frm n s) := by
 refine ⟨?_,?_⟩
 ·rintro r b u u' hs' s' c ⟨h1,⟨h2,h3,a,m,cc,h4,h5⟩ | h2⟩ hg hlt
  ·refine ⟨h1,.inl ⟨h2,h3,a,m,cc,h4,So.grown h5 hg ?_⟩⟩
   cases hb : (Value.slice a m cc).ownBlock with
   | none => exact .inl rfl
   | some q =>
     refine .inr (fun e => ?_)
     have := (h5.lt hb).1
     injection e with e
     omega
  ·exact ⟨h1,.inr h2⟩
 ·rintro r b b' u hs' s' ⟨h1,⟨h2,h3,a,m,cc,h4,h5⟩ | h2⟩ hlt
  ·exact ⟨h1,.inl ⟨h2,h3,a,m,cc,h4,So.lower h5 hlt⟩⟩
  ·exact ⟨h1,.inr h2⟩
theorem do_read (hW0 : Wk Rep) (hLk : LookOk Rep) (o : Op20) (ino : Int) (ho : o.kind = 8) (hdd : Dst Rep w g v hs s S D) (hl : Lim s) (h2 : s.rd.length ≤ 18000) (a0 : -9223372036854775808 ≤ o.frm) (a1 : o.frm ≤ 9223372036854775807) (n0 : -9223372036854775808 ≤ o.n) (n1 : o.n ≤ 9223372036854775807) (hv : V64 s.shown (inoD hs o.hn).1) :
 Calls Tryz.prog 15 #[.pointer (some ⟨g,0,none⟩),o.val,.int .u32 ino] w (DoE Rep (QR s.shown hs o.hn o.frm o.n s) g v S D w) := by
 refine do_at hW0.stays qR o ino hdd (by rw [ho]; exact fun args w => by kernel_rfl) (fun u hb hu => ?_)
 rw [ho]
 refine (read_deed hW0 hLk o ino hu hl h2 a0 a1 n0 n1 hv).mono ?_
 intro e u' h
 by_cases h0 : (inoD hs o.hn).2 = 0
 ·rw [if_pos h0] at h
  obtain ⟨a,m,c,S',D',he,ho,hd,st,hno⟩ := h
  exact ⟨⟨_,(m : Int),a,m,c,none,0,0,0,0,0,0⟩,hs,_,S',D',he,hd,st,⟨hno,fun _ _ h => by (have h' : (none : Option Addr) = some _ := h; cases h')⟩,rfl,.inl ⟨h0,rfl,a,m,c,rfl,ho⟩⟩
 ·rw [if_neg h0] at h
  obtain ⟨J,s',S',D',hJ,he,hd,st,ha⟩ := h
  rw [goW_nil] at hJ
  have hJ2 : J = 16 := hJ
  subst hJ2
  exact ⟨resN 16 0,hs,s',S',D',he,hd,st,off_n,rfl,.inr ⟨h0,rfl,ha⟩⟩
end
end Go.Proofs.YtogdjbhjgbnicaaGreatDoor.OpsT
namespace Go.Proofs.YtogdjbhjgbnicaaGreatDoor.DirsBm
open Byte PackM KeysM ViewM ViewKm NodeM NamesM WalkM WalkF WalkKm DirsV FileV
open TreeM hiding cutL
open TreeM (cutL)
def unlB (L : List Pr) (x : Spot) : Int × List Wrt := if x.node.k ≠ 1 then (13,[]) else if 1 < x.node.l then (0,[unhangP x.dir x.name,saveP x.ino x.node.k (x.node.l - 1) x.node.s x.node.p]) else (0,[unhangP x.dir x.name] ++ drpPs L x.ino 0 ++ [dropP x.ino])
def clrB (L : List Pr) (x : Spot) (dir : Bool) : Int × List Wrt := if x.ino = 0 then (0,[]) else if dir = true then remV L x else unlB L x
def ulkB (L : List Pr) (path : ByteArray) : Int × List Wrt :=
 if (findM L path).2 ≠ 0 then ((findM L path).2,[]) else if (findM L path).1.ino = 0 then (10,[]) else unlB L (findM L path).1
def renB (L : List Pr) (old path : ByteArray) : Int × List Wrt :=
 if (findM L old).2 ≠ 0 then ((findM L old).2,[]) else if (findM L old).1.ino = 1 then (29,[]) else if (findM L old).1.ino = 0 then (10,[])
 else if (findM L path).2 ≠ 0 then ((findM L path).2,[]) else if (findM L path).1.ino = 1 then (29,[]) else if (findM L old).1.ino = (findM L path).1.ino then (0,[])
 else if (findM L old).1.node.k = 2 ∧ under (spl old).1 (spl path).1 = true then (15,[])
 else if (clrB L (findM L path).1 (decide ((findM L old).1.node.k = 2))).1 ≠ 0 then ((clrB L (findM L path).1 (decide ((findM L old).1.node.k = 2))).1,[])
 else (0,(clrB L (findM L path).1 (decide ((findM L old).1.node.k = 2))).2 ++ movPs (findM L old).1 (findM L path).1)
theorem kE_letter (d : Int) (n : ByteArray) (h0 : 0 ≤ d) (h1 : d ≤ 4294967295) : (sp (kE d n)).letter ≠ 68 := by
 by_cases h2 : n.size ≤ 32
 ·by_cases h3 : 0 < n.size
  ·rw [sp_E d n h0 h1 h3 h2]
   exact (by decide : (69 : Int) ≠ 68)
  ·have hs : (kE d n).size = 5 := by
    unfold kE
    rw [if_neg (by omega),ByteArray.size_append,ks_size]
    omega
   rcases sp_ways (kE d n) with h | ⟨h,_⟩ | ⟨_,h,_⟩ | ⟨_,h⟩
   ·rw [h]
    decide
   ·rw [sp_73 h hs]
    exact (by decide : (73 : Int) ≠ 68)
   ·omega
   ·omega
 ·have e : kE d n = KeysM.E0 := if_pos (by omega)
  rw [e,sp_short (by decide)]
  decide
theorem filter_cut (L : List Pr) (k : ByteArray) (ino : Int) (hk : (sp k).letter ≠ 68) : (cutL k L).filter (blkF ino 0) = L.filter (blkF ino 0) := by
 unfold cutL
 rw [List.filter_filter]
 apply List.filter_congr
 intro p _
 cases hb : blkF ino 0 p with
 | false => rfl
 | true =>
   unfold blkF at hb
   simp only [Bool.and_eq_true,decide_eq_true_eq] at hb
   have : p.key ≠ k := fun e => hk (by rw [← e]; exact hb.1.1)
   simp [this]
theorem drp_unhang {s : Vs} (ho : s.Ok) (d : Int) (n : ByteArray) (h0 : 0 ≤ d) (h1 : d ≤ 4294967295) (ino : Int) : drpPs (s.write ⟨kE d n,⟨#[]⟩,true⟩).shown ino 0 = drpPs s.shown ino 0 := by
 unfold Vs.write
 split
 ·rfl
 ·show drpPs (shownL s.base (writeW s.base s.wr ⟨kE d n,⟨#[]⟩,true⟩)) ino 0 = drpPs (shownL s.base s.wr) ino 0
  rw [shown_write ho.base ho.wr]
  show drpPs (cutL (kE d n) (shownL s.base s.wr)) ino 0 = _
  unfold drpPs
  rw [filter_cut _ _ _ (kE_letter d n h0 h1)]
theorem clrB_err {L : List Pr} {x : Spot} {d : Bool} (h : (clrB L x d).1 ≠ 0) : (clrB L x d).2 = [] := by
 unfold clrB at h ⊢
 split
 ·rfl
 ·rename_i h0
  rw [if_neg h0] at h
  split
  ·rename_i hd
   rw [if_pos hd] at h
   unfold remV at h ⊢
   split
   ·rfl
   ·rename_i h1
    rw [if_neg h1] at h
    split
    ·rfl
    ·rename_i h2
     rw [if_neg h2] at h
     exact absurd rfl h
  ·rename_i hd
   rw [if_neg hd] at h
   unfold unlB at h ⊢
   split
   ·rfl
   ·rename_i h1
    rw [if_neg h1] at h
    split
    ·rename_i h2
     rw [if_pos h2] at h
     exact absurd rfl h
    ·rename_i h2
     rw [if_neg h2] at h
     exact absurd rfl h
end Go.Proofs.YtogdjbhjgbnicaaGreatDoor.DirsBm
namespace Go.Proofs.YtogdjbhjgbnicaaGreatDoor.RgN
open Go.RowKit
open Lst KeysM TreeM ViewM ViewKm ViewL WalkL WalkV ViewKs ViewKw
open TreeR (prE)
open ViewR (Sh)
def RangeN (Rep : RepT) : Prop := ∀ ⦃w v s S D⦄ (x y : ByteArray),Rep w v s S D → Lim s → x.size ≤ 200000000000000 → y.size ≤ 200000000000000 → Calls Tryz.prog 25 #[v,.string x,.string y] w fun e w' => ∃ (r : Sh) (S' D' : Nat → Prop),e = .returned (.slice r.a r.n r.c) ∧ Sl prE w' r.a r.n (s.rangeOf x y) ∧ (∀ b o,r.a = some ⟨b,o,none⟩ → w.heap.size ≤ b ∧ ¬ D' b) ∧ Rep w' v (s.ranged x y) S' D' ∧ Stp S D S' D' w w'
theorem ranged_same (s : Vs) (a b : ByteArray) : (s.ranged a b).shown = s.shown ∧ (s.ranged a b).base = s.base ∧ (s.ranged a b).wr = s.wr ∧ (s.ranged a b).rd = s.rd ∧ (s.ranged a b).rg.length ≤ s.rg.length + 1 := by
 unfold Vs.ranged
 split
 ·exact ⟨rfl,rfl,rfl,rfl,ViewP.add_len _ _ _⟩
 ·exact ⟨rfl,rfl,rfl,rfl,Nat.le_succ _⟩
theorem range_v : RangeN ViewK.VRep := by
 rintro w v s S D x y ⟨g,b,sh,wt,rd,rg,rfl,hv,h1,h2,rfl,rfl⟩ hl hx hy
 obtain ⟨l1,l2,l3,l4,l5,l6⟩ := ViewK.lens hl h1
 have key : ∀ (G : List (ByteArray × ByteArray)) (L : List Pr),(s.ranged x y).rg = G → s.rangeOf x y = L → Calls Tryz.prog 25 #[.pointer (some ⟨g,0,none⟩),.string x,.string y] w (RangeR g b sh wt rd rg s.base s.shown (kys s.wr) s.rd G L w) → Calls Tryz.prog 25 #[.pointer (some ⟨g,0,none⟩),.string x,.string y] w fun e w' => ∃ (r : Sh) (S' D' : Nat → Prop),e = .returned (.slice r.a r.n r.c) ∧ Sl prE w' r.a r.n (s.rangeOf x y) ∧ (∀ b o,r.a = some ⟨b,o,none⟩ → w.heap.size ≤ b ∧ ¬ D' b) ∧ ViewK.VRep w' (.pointer (some ⟨g,0,none⟩)) (s.ranged x y) S' D' ∧ Stp (fun q => q = g ∨ rg.ownBlock = some q) (fun q => q = g ∨ rg.ownBlock = some q) S' D' w w' := by
  intro G L hG hL hc
  refine hc.mono ?_
  rintro e w' ⟨u,rg',rfl,ho,hv',hd,hto⟩
  have hne := So.ne ho hv'.rgs (by decide)
  obtain ⟨r,rfl,hsl,hnew⟩ := ViewK.sh_of ho
  refine ⟨r,_,_,rfl,by rw [hL]; exact hsl,fun q o e => ⟨hnew q o e,fun hq => ?_⟩,⟨g,b,sh,wt,rd,rg',rfl,?_,ok_ranged h1 x y,?_,rfl,rfl⟩,hd.chg,hd.kept,ViewK.own_new hto,ViewK.own_new hto⟩
  ·have hob : (Value.slice r.a r.n r.c).ownBlock = some q := by rw [e]; rfl
   rcases hq with rfl | hq
   ·have := hnew q o e
    have := hv.lt
    omega
   ·rcases hne with z | z
    ·rw [hob] at z; cases z
    ·exact z (by rw [hob,hq])
  ·rw [hG]
   have e1 : (s.ranged x y).base = s.base ∧ (s.ranged x y).shown = s.shown ∧ (s.ranged x y).wr = s.wr ∧ (s.ranged x y).rd = s.rd := by
    unfold Vs.ranged
    split <;> exact ⟨rfl,rfl,rfl,rfl⟩
   rw [e1.1,e1.2.1,e1.2.2.1,e1.2.2.2]
   exact hv'
  ·have e1 : (s.ranged x y).wr = s.wr := by
    unfold Vs.ranged
    split <;> rfl
   rw [e1]
   exact h2
 cases hk : kl x y with
 | false =>
   refine key s.rg [] ?_ ?_ (range_none x y hv hk)
   ·unfold Vs.ranged
    rw [hk]
    rfl
   ·unfold Vs.rangeOf
    rw [hk]
    rfl
 | true =>
   cases hh : hasR x y s.rg with
   | true =>
     refine key s.rg (rangeL x y s.shown) ?_ ?_ (range_old x y hv l2 (by omega) hk hh)
     ·unfold Vs.ranged addR
      rw [hk,hh]
      rfl
     ·unfold Vs.rangeOf
      rw [hk]
      rfl
   | false =>
     refine key (s.rg ++ [(x,y)]) (rangeL x y s.shown) ?_ ?_ (range_new x y hv l2 (by omega) hk hh)
     ·unfold Vs.ranged addR
      rw [hk,hh]
      rfl
     ·unfold Vs.rangeOf
      rw [hk]
      rfl
theorem range_n : RangeN WalkK.VRep := fun _ _ _ _ _ x y r hl hx hy => (range_v x y r.1 hl hx hy).mono fun _ _ ⟨q,S',D',e,h1,h2,hr,st⟩ => ⟨q,S',D',e,h1,h2,⟨hr,r.2.ranged x y⟩,st⟩
end Go.Proofs.YtogdjbhjgbnicaaGreatDoor.RgN
namespace Go.Proofs.YtogdjbhjgbnicaaGreatDoor.OpsEm
open Go.RowKit
open Byte PackM KeysM KeysS KeysV KeysB KeysD TreeR ViewM ViewR NodeM WalkM WalkF WalkKm DirsV FileM FileV Lst Chg TreeL ViewL WalkL WalkV Vat WalkKb DirsK DirsKa
open TreeM hiding cutL
open Own hiding keeps
open FileKf (del_next)
open RgN
variable {Rep : RepT}
theorem empty_calls (hW : Wk Rep) (hRn : RangeN Rep) {w : World} {v : Value} {s : Vs} {S D : Nat → Prop} (ino : Int) (hr : Rep w v s S D) (hl : Lim s) (h3 : s.rg.length ≤ 990) (h0 : 0 ≤ ino) (h1 : ino ≤ 4294967295) (hk : ∀ p ∈ s.shown,(sp p.key).letter ≠ 0) :
 Calls Tryz.prog 139 #[v,.int .u32 ino] w (Wrote Rep v s (drpPs s.shown ino 0) 0 1 S D w) := by
 have A0 := hQ_ (At.start hr)
 have HE := hQ_ (fun w => blocks_small ino 0 w h0 h1 (by omega) (by omega))
 have HK := hQ_ hk
 have HS := hQ_ hW.stays
 have HL := hQ_ hl
 have HX := hQ_ hRn
 have HWK := hQ_ hW
 have hn := hW.shown hr hl
 obtain ⟨M,hM⟩ : ∃ M,s.shown.filter (blkF ino 0) = M := ⟨_,rfl⟩
 have HMF := hQ_ hM
 have HM2 : Hid (∀ p ∈ M,p.key.size ≤ 100000 ∧ (sp p.key).letter = 68) := hQ_ (fun p hp => by
  rw [← hM] at hp
  have h3 := List.mem_filter.1 hp
  have h4 := sp_key (HK.out p h3.1)
  have h5 := h3.2
  unfold blkF at h5
  simp only [Bool.and_eq_true,decide_eq_true_eq] at h5
  exact ⟨by omega,h5.1.1⟩)
 have HDR : Hid (drpPs s.shown ino 0 = M.map fun p => delP p.key) := hQ_ (by unfold drpPs; rw [hM])
 rw [HDR.out]
 clear hr hl hk hM hW hRn HDR
 go_enter Tryz.func139,Tryz.ntmps139
 go_wp2_with fail
 refine (HE.out _).mono ?_
 rintro e w2 ⟨a,b,rfl,hrg,ha,hb,hb2⟩
 have A2 := hQ_ (A0.out.below HS.out hb2)
 have HRG : Hid (rangeL a b s.shown = s.shown.filter (blkF ino 0)) := hQ_ (range_ent hrg.out HK.out)
 clear hb2 hrg
 go_wp2_with fail
 refine (HX.out a b A2.out.rep HL.out (by omega) (by omega)).mono ?_
 rintro e w3 ⟨⟨ra,rn,rc⟩,S3,D3,rfl,hsl,hnew,hr3,st3⟩
 rw [rangeOf_is,HRG.out,HMF.out] at hsl
 dsimp only at hsl hnew
 have A3 : Hid (At Rep w S D (fun b => 0 < rn ∧ ∃ o,ra = some ⟨b,o,none⟩) w3 v (s.ranged a b) S3 D3) := hQ_ (by
  have q := A2.out.step HS.out hr3 st3
  refine ⟨q.rep,q.st,fun b ⟨hpos,o,e⟩ => ?_⟩
  have h5 := hnew b o e
  obtain ⟨x,b',o',hx,he,hlt,_⟩ := hsl.get 0 hpos
  rw [e] at he
  injection he with he
  injection he with he _
  subst he
  exact ⟨Nat.le_trans A2.out.size h5.1,hlt,h5.2⟩)
 obtain ⟨q1,q2,q3,q4,q5⟩ := ranged_same s a b
 have HSM : Hid (Aft s (s.ranged a b) [] 0 1) := hQ_ (Aft.nil ⟨q2,q3⟩ (by rw [q4]; exact Nat.le_refl _) q5)
 obtain ⟨s0,hs0⟩ : ∃ s0,s.ranged a b = s0 := ⟨_,rfl⟩
 rw [hs0] at A3 HSM
 clear q1 q2 q3 q4 q5 hs0
 have HLR := hQ_ hsl
 have hrn : rn ≤ 100000 := by
  rw [← hsl.1,← HMF.out]
  exact Nat.le_trans (List.length_filter_le _ _) hn
 clear hsl hnew hr3 st3 ha hb
 go_wp2_with fail
 go_loopw [18] (fun i wr => ∃ (k : Nat) (s1 : Vs) (S' D' : Nat → Prop),i = .int .i64 k ∧ k ≤ rn ∧ Hid (At Rep w S D (fun b => 0 < rn ∧ ∃ o,ra = some ⟨b,o,none⟩) wr v s1 S' D') ∧ Hid (Sl prE wr ra rn M) ∧ Hid (Aft s s1 ((M.take k).map fun p => delP p.key) 0 1 ∧ (goW s ((M.take k).map fun p => delP p.key)).2 = true)) (fun i _ => rn - (intOf i).toNat)
 case atStart => exact ⟨0,s0,S3,D3,rfl,Nat.zero_le _,A3,HLR,hQ_ ⟨HSM.out,rfl⟩⟩
 case round =>
  obtain ⟨k,s1,S',D',rfl,hk,HA,HL1,HC⟩ := hrel
  by_cases hlt : k < rn
  ·obtain ⟨x,g,o,hx,rfl,hg,hcl⟩ := HL1.out.get k hlt
   obtain ⟨c1,c2,c3,hcc⟩ := pair_cells hcl
   have hmx := HM2.out x (List.mem_of_getElem? hx)
   have HNX := hQ_ (del_next hx)
   have HSP := hQ_ (fun w => split_calls x.key w hmx.1)
   unfold SpE at HSP
   have HCT := hQ_ (fun (w1 : World) (S1 D1 : Nat → Prop) (hr1 : Rep w1 v s1 S1 D1) => cut_w HWK.out x.key hr1 (lim_aft HC.out.1 HL.out (by have := HL.out.rd; omega) (by have := HL.out.rg; omega)) hmx.1)
   have HRS : Hid ((M.take (k + 1)).map (fun p => delP p.key) ++ (M.drop (k + 1)).map (fun p => delP p.key) = M.map fun p => delP p.key) := hQ_ (by rw [← List.map_append,List.take_append_drop])
   have hlet := hmx.2
   obtain ⟨xk,xv,xg⟩ := x
   dsimp only at *
   rw [hlet] at HSP
   clear hcl hx hmx hlet
   generalize (sp xk).ino = X2 at *
   generalize (sp xk).name = X3 at *
   generalize (sp xk).n = X4 at *
   have R4 := hQ_ (Blk.new_ wr #[.string xk,.string xv,.bool xg] 64)
   have hbp := bX_ R4.out
   have A4 := hQ_ ((HA.out.own HS.out hbp (Nat.le_refl wr.heap.size) (by simp)))
   have L4 := hQ_ (HL1.out.below hbp)
   clear hbp
   go_wp2_with ((with_reducible refine pick (some 21) ?_); refine wpList_load_mid rfl 64 _ rfl g (o + k * 3) rfl _ _ hcc Tryz.underlying64 rfl info_pair3 ?_)
   refine (HSP.out _).mono ?_
   rintro e w5 ⟨rfl,hb5⟩
   have A5 := hQ_ (A4.out.below HS.out hb5)
   have L5 := hQ_ (L4.out.below hb5)
   have R5 := hQ_ (R4.out.below hb5)
   have p0 := cZ0 R5.out
   clear hb5 c1 c2 c3 hcc
   go_wp2_with fail
   refine (HCT.out _ _ _ A5.out.rep).mono ?_
   intro e w6 h6
   rcases Wrote.split h6 with ⟨s6,S6,D6,rfl,hg6,hr6,st6,af6⟩ | ⟨s6,S6,D6,rfl,hg6,hr6,st6,af6⟩
   ·have A6 := hQ_ ((A5.out.step HS.out hr6 st6).less (M' := fun b' => 0 < rn ∧ ∃ o',(some ⟨g,o,none⟩ : Option Addr) = some ⟨b',o',none⟩) (fun b hb => .inl hb))
    have L6 := hQ_ (A5.out.sl HS.out L5.out (fun b' o' e => .inl ⟨by omega,o',e⟩) st6)
    have C6 : Hid (Aft s s6 ((M.take (k + 1)).map fun p => delP p.key) 0 1 ∧ (goW s ((M.take (k + 1)).map fun p => delP p.key)).2 = true) := hQ_ (by
     have q := HC.out.1.app HC.out.2 af6
     rw [HNX.out]
     exact ⟨q.1,q.2.trans hg6⟩)
    clear h6 hr6 st6 af6 hg6
    go_wp2_with fail
    go_roundw
    case rel => exact ⟨k + 1,s6,S6,D6,by go_num,by omega,A6,L6,C6⟩
    case measure => simp [intOf]; omega
   ·have A6 := hQ_ (A5.out.step HS.out hr6 st6)
    have C6 : Hid (Aft s s6 (M.map fun p => delP p.key) 0 1 ∧ (goW s (M.map fun p => delP p.key)).2 = false) := hQ_ (by
     have q := HC.out.1.app HC.out.2 af6
     rw [← HRS.out,HNX.out]
     exact q.1.stop (q.2.trans hg6))
    clear h6 hr6 st6 af6 hg6
    go_wp2_with fail
    go_ret
    exact ⟨s6,S6,D6,by rw [C6.out.2]; rfl,A6.out.rep,A6.out.st,C6.out.1⟩
  ·obtain rfl : k = rn := by omega
   have hM : M.take k = M := List.take_of_length_le (by rw [HLR.out.1]; exact Nat.le_refl _)
   have hC := HC.out
   rw [hM] at hC
   have C9 := hQ_ hC
   clear hC
   go_wp2_with fail
   go_ret
   exact ⟨s1,S',D',by rw [C9.out.2]; rfl,HA.out.rep,HA.out.st,C9.out.1⟩
end Go.Proofs.YtogdjbhjgbnicaaGreatDoor.OpsEm
namespace Go.Proofs.YtogdjbhjgbnicaaGreatDoor.DirsBk
open Go.RowKit
open Byte KeysM TreeM ViewM ViewKm NodeM NamesM NamesL WalkM WalkF WalkKm DirsV Lst Chg TreeL ViewL WalkL WalkV Vat WalkKa WalkKb DirsK DirsKa
open Own hiding keeps
open DirsKb DirsBm RgN
open FileV (drpPs)
variable {Rep : RepT}
theorem unlink_no (hW0 : Wk Rep) {w : World} {v : Value} {s : Vs} {S D : Nat → Prop} (xd xi xk xl xz xp : Int) (xn : ByteArray) (hr : Rep w v s S D) (hl : Lim s) (h2 : s.rd.length ≤ 19900) (h3 : s.rg.length ≤ 990) (hd0 : 0 ≤ xd) (hd1 : xd ≤ 4294967295) (hi0 : 0 ≤ xi) (hi1 : xi ≤ 4294967295) (hn0 : xn.size ≤ 100000) (hb : InoB xk xl xz xp) (hk : ∀ p ∈ s.shown,(sp p.key).letter ≠ 0) (h1 : xk ≠ 1) :
 Calls Tryz.prog 115 #[v,.agg #[.int .u32 xd,.string xn,.int .u32 xi,.int .u8 xk,.int .u32 xl,.int .u32 xz,.int .u32 xp]] w (Ans Rep v s 13 [] 1 1 S D w) := by
 obtain ⟨W,hW⟩ : ∃ W,w.alloc (.cells #[.int .u32 xd,.string xn,.int .u32 xi,.int .u8 xk,.int .u32 xl,.int .u32 xz,.int .u32 xp] 150) = W := ⟨_,rfl⟩
 have hb1 : Below w.heap.size w W := by rw [← hW]; exact bW_
 have hX0 : Blk W w.heap.size #[.int .u32 xd,.string xn,.int .u32 xi,.int .u8 xk,.int .u32 xl,.int .u32 xz,.int .u32 xp] 150 := hW ▸ Blk.new_ w _ _
 obtain ⟨x0,x1,x2,x3,x4,x5,x6⟩ : W.cell? ⟨w.heap.size,0,none⟩ = some (.int .u32 xd) ∧ W.cell? ⟨w.heap.size,1,none⟩ = some (.string xn) ∧ W.cell? ⟨w.heap.size,2,none⟩ = some (.int .u32 xi) ∧ W.cell? ⟨w.heap.size,3,none⟩ = some (.int .u8 xk) ∧ W.cell? ⟨w.heap.size,4,none⟩ = some (.int .u32 xl) ∧ W.cell? ⟨w.heap.size,5,none⟩ = some (.int .u32 xz) ∧ W.cell? ⟨w.heap.size,6,none⟩ = some (.int .u32 xp) := ⟨hX0.cell 0,hX0.cell 1,hX0.cell 2,hX0.cell 3,hX0.cell 4,hX0.cell 5,hX0.cell 6⟩
 obtain ⟨U,hU⟩ : ∃ U,W.alloc (.cells #[.int .u8 xk,.int .u32 xl,.int .u32 xz,.int .u32 xp] 46) = U := ⟨_,rfl⟩
 have hWs : W.heap.size = w.heap.size + 1 := by rw [← hW]; simp
 have hbU : Below W.heap.size W U := by rw [← hU]; exact bW_
 have A0 : Hid (At Rep w S D (fun b => (False ∨ b = w.heap.size) ∨ b = w.heap.size + 1) U v s S D) := hQ_ (by
  rw [← hWs]
  exact ((At.start hr).own hW0.stays hb1 (Nat.le_refl w.heap.size) (by omega)).own hW0.stays hbU (Nat.le_refl _) (by rw [← hU]; simp))
 have X0 := hQ_ (hX0.below hbU)
 have Y0 := hQ_ (show Blk U (w.heap.size + 1) #[.int .u8 xk,.int .u32 xl,.int .u32 xz,.int .u32 xp] 46 by rw [← hWs,← hU]; exact Blk.new_ W _ _)
 have HW := hQ_ hW
 have HU := hQ_ hU
 have C0 := hQ_ (aft0 s)
 have d1 : (xk != 1) = true := by simpa using h1
 clear h1 hk hb
 have f0_X0 := cC7 X0.out
 have f0_Y0 := cC4 Y0.out
 clear hr hl hW hU hb1 hbU hX0
 go_enter Tryz.func115,Tryz.ntmps115
 go_wp2_with fail
 rw [HW.out]
 go_wp2_with fail
 rw [HU.out]
 go_wp2_with fail
 go_ret
 exact Ans.ok A0.out ⟨C0.out.1.more (by omega) (by omega),C0.out.2⟩
theorem unlink_more (hW0 : Wk Rep) {w : World} {v : Value} {s : Vs} {S D : Nat → Prop} (xd xi xk xl xz xp : Int) (xn : ByteArray) (hr : Rep w v s S D) (hl : Lim s) (h2 : s.rd.length ≤ 19900) (h3 : s.rg.length ≤ 990) (hd0 : 0 ≤ xd) (hd1 : xd ≤ 4294967295) (hi0 : 0 ≤ xi) (hi1 : xi ≤ 4294967295) (hn0 : xn.size ≤ 100000) (hb : InoB xk xl xz xp) (hk : ∀ p ∈ s.shown,(sp p.key).letter ≠ 0) (h1 : xk = 1) (hl1 : 1 < xl) :
 Calls Tryz.prog 115 #[v,.agg #[.int .u32 xd,.string xn,.int .u32 xi,.int .u8 xk,.int .u32 xl,.int .u32 xz,.int .u32 xp]] w (Ans Rep v s 0 [unhangP xd xn,saveP xi xk (xl - 1) xz xp] 1 1 S D w) := by
 obtain ⟨W,hW⟩ : ∃ W,w.alloc (.cells #[.int .u32 xd,.string xn,.int .u32 xi,.int .u8 xk,.int .u32 xl,.int .u32 xz,.int .u32 xp] 150) = W := ⟨_,rfl⟩
 have hb1 : Below w.heap.size w W := by rw [← hW]; exact bW_
 have hX0 : Blk W w.heap.size #[.int .u32 xd,.string xn,.int .u32 xi,.int .u8 xk,.int .u32 xl,.int .u32 xz,.int .u32 xp] 150 := hW ▸ Blk.new_ w _ _
 obtain ⟨x0,x1,x2,x3,x4,x5,x6⟩ : W.cell? ⟨w.heap.size,0,none⟩ = some (.int .u32 xd) ∧ W.cell? ⟨w.heap.size,1,none⟩ = some (.string xn) ∧ W.cell? ⟨w.heap.size,2,none⟩ = some (.int .u32 xi) ∧ W.cell? ⟨w.heap.size,3,none⟩ = some (.int .u8 xk) ∧ W.cell? ⟨w.heap.size,4,none⟩ = some (.int .u32 xl) ∧ W.cell? ⟨w.heap.size,5,none⟩ = some (.int .u32 xz) ∧ W.cell? ⟨w.heap.size,6,none⟩ = some (.int .u32 xp) := ⟨hX0.cell 0,hX0.cell 1,hX0.cell 2,hX0.cell 3,hX0.cell 4,hX0.cell 5,hX0.cell 6⟩
 obtain ⟨U,hU⟩ : ∃ U,W.alloc (.cells #[.int .u8 xk,.int .u32 xl,.int .u32 xz,.int .u32 xp] 46) = U := ⟨_,rfl⟩
 have hWs : W.heap.size = w.heap.size + 1 := by rw [← hW]; simp
 have hbU : Below W.heap.size W U := by rw [← hU]; exact bW_
 have A0 : Hid (At Rep w S D (fun b => (False ∨ b = w.heap.size) ∨ b = w.heap.size + 1) U v s S D) := hQ_ (by
  rw [← hWs]
  exact ((At.start hr).own hW0.stays hb1 (Nat.le_refl w.heap.size) (by omega)).own hW0.stays hbU (Nat.le_refl _) (by rw [← hU]; simp))
 have X0 := hQ_ (hX0.below hbU)
 have Y0 := hQ_ (show Blk U (w.heap.size + 1) #[.int .u8 xk,.int .u32 xl,.int .u32 xz,.int .u32 xp] 46 by rw [← hWs,← hU]; exact Blk.new_ W _ _)
 have HW := hQ_ hW
 have HU := hQ_ hU
 have HS := hQ_ hW0.stays
 have HWK := hQ_ hW0
 have HL := hQ_ hl
 have HRO := hQ_ room_calls
 have C0 := hQ_ (aft0 s)
 have d1 : (xk != 1) = false := by simpa using h1
 have d2 : decide ((1 : Int) < xl) = true := by simpa using hl1
 obtain ⟨b0,b1,b2,b3,b4,b5,b6,b7⟩ := hb
 clear hk h1
 have f0_X0 := cC7 X0.out
 have f0_Y0 := cC4 Y0.out
 clear hr hl hW hU hb1 hbU hX0
 go_enter Tryz.func115,Tryz.ntmps115
 go_wp2_with fail
 rw [HW.out]
 go_wp2_with fail
 rw [HU.out]
 go_wp2_with fail
 refine (unhang_w HWK.out xd xn A0.out.rep (lim_aft C0.out.1 HL.out (by omega) (by omega)) (by omega) (by omega) (by omega)).mono ?_
 intro e w1 hh
 rcases Wrote.split hh with ⟨s1,S1,D1,rfl,ho,hr,st,ha⟩ | ⟨s1,S1,D1,rfl,ho,hr,st,ha⟩
 ·obtain ⟨x1,x2⟩ := C0.out.1.app C0.out.2 ha
  have C1 := hQ_ (And.intro x1 (x2.trans ho))
  clear x1 x2 ho ha
  have A1 := hQ_ (A0.out.step HS.out hr st)
  have X1 := hQ_ (A0.out.blk HS.out X0.out (.inl (.inr rfl)) st)
  have Y1 := hQ_ (A0.out.blk HS.out Y0.out (.inr rfl) st)
  obtain ⟨f1_X0,f1_X1,f1_X2,f1_X3,f1_X4,f1_X5,f1_X6⟩ := cC7 X1.out
  obtain ⟨f1_Y0,f1_Y1,f1_Y2,f1_Y3⟩ := cC4 Y1.out
  clear st hr f0_X0 f0_Y0
  have y1 : w1.frozen? ⟨w.heap.size + 1,1,none⟩ = false := Y1.out.frozen 1
  have AZ := hQ_ (A1.out.set HS.out Y1.out (.inr rfl) (by decide) 1 (.int .u32 (xl - 1)))
  have hYZ := Y1.out.set_ 1 (.int .u32 (xl - 1))
  have YZ := hQ_ (show Blk (w1.setCell ⟨w.heap.size + 1,1,none⟩ (.int .u32 (xl - 1))) (w.heap.size + 1) #[.int .u8 xk,.int .u32 (xl - 1),.int .u32 xz,.int .u32 xp] 46 from hYZ)
  have XZ := hQ_ (X1.out.far (p := ⟨w.heap.size + 1,1,none⟩) (show w.heap.size ≠ w.heap.size + 1 by omega) (.int .u32 (xl - 1)))
  clear hYZ
  have f99_X0 := cC7 XZ.out
  have f99_Y0 := cC4 YZ.out
  go_wp2_with fail
  refine (save_w HWK.out xi xk (xl - 1) xz xp AZ.out.rep (lim_aft C1.out.1 HL.out (by omega) (by omega)) (by omega) (by omega) ⟨by omega,by omega,by omega,by omega,by omega,by omega,by omega,by omega⟩).mono ?_
  intro e w2 hh
  rcases Wrote.split hh with ⟨s2,S2,D2,rfl,ho,hr,st,ha⟩ | ⟨s2,S2,D2,rfl,ho,hr,st,ha⟩
  ·obtain ⟨x1,x2⟩ := C1.out.1.app C1.out.2 ha
   have C2 := hQ_ (And.intro x1 (x2.trans ho))
   clear x1 x2 ho ha
   have A2 := hQ_ (AZ.out.step HS.out hr st)
   have X2 := hQ_ (AZ.out.blk HS.out XZ.out (.inl (.inr rfl)) st)
   have Y2 := hQ_ (AZ.out.blk HS.out YZ.out (.inr rfl) st)
   obtain ⟨f2_X0,f2_X1,f2_X2,f2_X3,f2_X4,f2_X5,f2_X6⟩ := cC7 X2.out
   obtain ⟨f2_Y0,f2_Y1,f2_Y2,f2_Y3⟩ := cC4 Y2.out
   clear st hr y1 f1_X0 f1_X1 f1_X2 f1_X3 f1_X4 f1_X5 f1_X6 f1_Y0 f1_Y1 f1_Y2 f1_Y3 f99_X0 f99_Y0
   go_wp2_with (go_at_call 104; refine (HRO.out _ _).mono ?_; rintro e w9 ⟨rfl,rfl⟩)
   go_ret
   exact Ans.ok A2.out ⟨C2.out.1.more (by omega) (by omega),C2.out.2⟩
  ·obtain ⟨x1,x2⟩ := C1.out.1.app C1.out.2 ha
   have C2 := hQ_ (And.intro x1 (x2.trans ho))
   clear x1 x2 ho ha
   have A2 := hQ_ (AZ.out.step HS.out hr st)
   have X2 := hQ_ (AZ.out.blk HS.out XZ.out (.inl (.inr rfl)) st)
   have Y2 := hQ_ (AZ.out.blk HS.out YZ.out (.inr rfl) st)
   obtain ⟨f2_X0,f2_X1,f2_X2,f2_X3,f2_X4,f2_X5,f2_X6⟩ := cC7 X2.out
   obtain ⟨f2_Y0,f2_Y1,f2_Y2,f2_Y3⟩ := cC4 Y2.out
   clear st hr y1 f1_X0 f1_X1 f1_X2 f1_X3 f1_X4 f1_X5 f1_X6 f1_Y0 f1_Y1 f1_Y2 f1_Y3 f99_X0 f99_Y0
   go_wp2_with (go_at_call 104; refine (HRO.out _ _).mono ?_; rintro e w9 ⟨rfl,rfl⟩)
   go_ret
   exact Ans.full A2.out ⟨(Aft.stop (qs := []) C2.out.1 C2.out.2).1.more (by omega) (by omega),(Aft.stop (qs := []) C2.out.1 C2.out.2).2⟩
 ·obtain ⟨x1,x2⟩ := C0.out.1.app C0.out.2 ha
  have C1 := hQ_ (And.intro x1 (x2.trans ho))
  clear x1 x2 ho ha
  have A1 := hQ_ (A0.out.step HS.out hr st)
  have X1 := hQ_ (A0.out.blk HS.out X0.out (.inl (.inr rfl)) st)
  have Y1 := hQ_ (A0.out.blk HS.out Y0.out (.inr rfl) st)
  obtain ⟨f1_X0,f1_X1,f1_X2,f1_X3,f1_X4,f1_X5,f1_X6⟩ := cC7 X1.out
  obtain ⟨f1_Y0,f1_Y1,f1_Y2,f1_Y3⟩ := cC4 Y1.out
  clear st hr f0_X0 f0_Y0
  go_wp2_with fail
  go_ret
  exact Ans.full A1.out ⟨(Aft.stop (qs := [saveP xi xk (xl - 1) xz xp]) C1.out.1 C1.out.2).1.more (by omega) (by omega),(Aft.stop (qs := [saveP xi xk (xl - 1) xz xp]) C1.out.1 C1.out.2).2⟩
theorem unlink_last (hW0 : Wk Rep) (hRn : RangeN Rep) {w : World} {v : Value} {s : Vs} {S D : Nat → Prop} (xd xi xk xl xz xp : Int) (xn : ByteArray) (hr : Rep w v s S D) (hl : Lim s) (h2 : s.rd.length ≤ 19900) (h3 : s.rg.length ≤ 985) (hd0 : 0 ≤ xd) (hd1 : xd ≤ 4294967295) (hi0 : 0 ≤ xi) (hi1 : xi ≤ 4294967295) (hn0 : xn.size ≤ 100000) (hb : InoB xk xl xz xp) (hk : ∀ p ∈ s.shown,(sp p.key).letter ≠ 0) (h1 : xk = 1) (hl1 : xl ≤ 1) (hnm : xn.size ≤ 32) :
 Calls Tryz.prog 115 #[v,.agg #[.int .u32 xd,.string xn,.int .u32 xi,.int .u8 xk,.int .u32 xl,.int .u32 xz,.int .u32 xp]] w (Ans Rep v s 0 ([unhangP xd xn] ++ drpPs s.shown xi 0 ++ [dropP xi]) 1 1 S D w) := by
 obtain ⟨W,hW⟩ : ∃ W,w.alloc (.cells #[.int .u32 xd,.string xn,.int .u32 xi,.int .u8 xk,.int .u32 xl,.int .u32 xz,.int .u32 xp] 150) = W := ⟨_,rfl⟩
 have hb1 : Below w.heap.size w W := by rw [← hW]; exact bW_
 have hX0 : Blk W w.heap.size #[.int .u32 xd,.string xn,.int .u32 xi,.int .u8 xk,.int .u32 xl,.int .u32 xz,.int .u32 xp] 150 := hW ▸ Blk.new_ w _ _
 obtain ⟨x0,x1,x2,x3,x4,x5,x6⟩ : W.cell? ⟨w.heap.size,0,none⟩ = some (.int .u32 xd) ∧ W.cell? ⟨w.heap.size,1,none⟩ = some (.string xn) ∧ W.cell? ⟨w.heap.size,2,none⟩ = some (.int .u32 xi) ∧ W.cell? ⟨w.heap.size,3,none⟩ = some (.int .u8 xk) ∧ W.cell? ⟨w.heap.size,4,none⟩ = some (.int .u32 xl) ∧ W.cell? ⟨w.heap.size,5,none⟩ = some (.int .u32 xz) ∧ W.cell? ⟨w.heap.size,6,none⟩ = some (.int .u32 xp) := ⟨hX0.cell 0,hX0.cell 1,hX0.cell 2,hX0.cell 3,hX0.cell 4,hX0.cell 5,hX0.cell 6⟩
 obtain ⟨U,hU⟩ : ∃ U,W.alloc (.cells #[.int .u8 xk,.int .u32 xl,.int .u32 xz,.int .u32 xp] 46) = U := ⟨_,rfl⟩
 have hWs : W.heap.size = w.heap.size + 1 := by rw [← hW]; simp
 have hbU : Below W.heap.size W U := by rw [← hU]; exact bW_
 have A0 : Hid (At Rep w S D (fun b => (False ∨ b = w.heap.size) ∨ b = w.heap.size + 1) U v s S D) := hQ_ (by
  rw [← hWs]
  exact ((At.start hr).own hW0.stays hb1 (Nat.le_refl w.heap.size) (by omega)).own hW0.stays hbU (Nat.le_refl _) (by rw [← hU]; simp))
 have X0 := hQ_ (hX0.below hbU)
 have Y0 := hQ_ (show Blk U (w.heap.size + 1) #[.int .u8 xk,.int .u32 xl,.int .u32 xz,.int .u32 xp] 46 by rw [← hWs,← hU]; exact Blk.new_ W _ _)
 have HW := hQ_ hW
 have HU := hQ_ hU
 have HS := hQ_ hW0.stays
 have HWK := hQ_ hW0
 have HL := hQ_ hl
 have HRO := hQ_ room_calls
 have C0 := hQ_ (aft0 s)
 have HEM := hQ_ (fun w (S D : Nat → Prop) (t : Vs) (hr : Rep w v t S D) (hl : Lim t) (hg : t.rg.length ≤ 990) h1 => OpsEm.empty_calls hW0 hRn xi hr hl hg hi0 hi1 h1)
 have HDR := hQ_ (drp_unhang (hW0.stays.ok hr) xd xn hd0 hd1 xi)
 obtain ⟨EP,hEP⟩ : ∃ EP,drpPs s.shown xi 0 = EP := ⟨_,rfl⟩
 rw [hEP] at HDR ⊢
 clear hEP
 have d1 : (xk != 1) = false := by simpa using h1
 have d2 : decide ((1 : Int) < xl) = false := by simpa using hl1
 obtain ⟨b0,b1,b2,b3,b4,b5,b6,b7⟩ := hb
 have HSUB := hQ_ (cut_sub (hW0.stays.ok hr) (kE xd xn))
 have HKK := hQ_ hk
 clear hk h1
 have f0_X0 := cC7 X0.out
 have f0_Y0 := cC4 Y0.out
 clear hr hl hW hU hb1 hbU hX0
 go_enter Tryz.func115,Tryz.ntmps115
 go_wp2_with fail
 rw [HW.out]
 go_wp2_with fail
 rw [HU.out]
 go_wp2_with fail
 refine (unhang_w HWK.out xd xn A0.out.rep (lim_aft C0.out.1 HL.out (by omega) (by omega)) (by omega) (by omega) (by omega)).mono ?_
 intro e w1 hh
 rcases Wrote.split hh with ⟨s1,S1,D1,rfl,ho,hr,st,ha⟩ | ⟨s1,S1,D1,rfl,ho,hr,st,ha⟩
 ·obtain ⟨x1,x2⟩ := C0.out.1.app C0.out.2 ha
  have C1 := hQ_ (And.intro x1 (x2.trans ho))
  clear x1 x2 ho ha
  have A1 := hQ_ (A0.out.step HS.out hr st)
  have X1 := hQ_ (A0.out.blk HS.out X0.out (.inl (.inr rfl)) st)
  have Y1 := hQ_ (A0.out.blk HS.out Y0.out (.inr rfl) st)
  obtain ⟨f1_X0,f1_X1,f1_X2,f1_X3,f1_X4,f1_X5,f1_X6⟩ := cC7 X1.out
  obtain ⟨f1_Y0,f1_Y1,f1_Y2,f1_Y3⟩ := cC4 Y1.out
  clear st hr f0_X0 f0_Y0
  go_wp2_with fail
  have hem := HEM.out _ _ _ _ A1.out.rep (lim_aft C1.out.1 HL.out (by omega) (by omega)) (by have := C1.out.1.rg; omega) (fun p hp => HKK.out p (HSUB.out p (by rw [← unh_sm C1.out.1]; exact hp)))
  rw [unh_sm C1.out.1,HDR.out] at hem
  have HE1 := hQ_ hem
  clear hem
  refine HE1.out.mono ?_
  intro e w2 hh
  rcases Wrote.split hh with ⟨s2,S2,D2,rfl,ho,hr,st,ha⟩ | ⟨s2,S2,D2,rfl,ho,hr,st,ha⟩
  ·obtain ⟨x1,x2⟩ := C1.out.1.app C1.out.2 ha
   have C2 := hQ_ (And.intro x1 (x2.trans ho))
   clear x1 x2 ho ha
   have A2 := hQ_ (A1.out.step HS.out hr st)
   have X2 := hQ_ (A1.out.blk HS.out X1.out (.inl (.inr rfl)) st)
   have Y2 := hQ_ (A1.out.blk HS.out Y1.out (.inr rfl) st)
   obtain ⟨f2_X0,f2_X1,f2_X2,f2_X3,f2_X4,f2_X5,f2_X6⟩ := cC7 X2.out
   obtain ⟨f2_Y0,f2_Y1,f2_Y2,f2_Y3⟩ := cC4 Y2.out
   clear st hr f1_X0 f1_X1 f1_X2 f1_X3 f1_X4 f1_X5 f1_X6 f1_Y0 f1_Y1 f1_Y2 f1_Y3
   go_wp2_with fail
   refine (drop_w HWK.out xi A2.out.rep (lim_aft C2.out.1 HL.out (by omega) (by omega)) (by omega) (by omega)).mono ?_
   intro e w3 hh
   rcases Wrote.split hh with ⟨s3,S3,D3,rfl,ho,hr,st,ha⟩ | ⟨s3,S3,D3,rfl,ho,hr,st,ha⟩
   ·obtain ⟨x1,x2⟩ := C2.out.1.app C2.out.2 ha
    have C3 := hQ_ (And.intro x1 (x2.trans ho))
    clear x1 x2 ho ha
    have A3 := hQ_ (A2.out.step HS.out hr st)
    have X3 := hQ_ (A2.out.blk HS.out X2.out (.inl (.inr rfl)) st)
    have Y3 := hQ_ (A2.out.blk HS.out Y2.out (.inr rfl) st)
    obtain ⟨f3_X0,f3_X1,f3_X2,f3_X3,f3_X4,f3_X5,f3_X6⟩ := cC7 X3.out
    obtain ⟨f3_Y0,f3_Y1,f3_Y2,f3_Y3⟩ := cC4 Y3.out
    clear st hr f2_X0 f2_X1 f2_X2 f2_X3 f2_X4 f2_X5 f2_X6 f2_Y0 f2_Y1 f2_Y2 f2_Y3
    go_wp2_with (go_at_call 104; refine (HRO.out _ _).mono ?_; rintro e w9 ⟨rfl,rfl⟩)
    go_ret
    exact Ans.ok A3.out ⟨C3.out.1.more (by omega) (by omega),C3.out.2⟩
   ·obtain ⟨x1,x2⟩ := C2.out.1.app C2.out.2 ha
    have C3 := hQ_ (And.intro x1 (x2.trans ho))
    clear x1 x2 ho ha
    have A3 := hQ_ (A2.out.step HS.out hr st)
    have X3 := hQ_ (A2.out.blk HS.out X2.out (.inl (.inr rfl)) st)
    have Y3 := hQ_ (A2.out.blk HS.out Y2.out (.inr rfl) st)
    obtain ⟨f3_X0,f3_X1,f3_X2,f3_X3,f3_X4,f3_X5,f3_X6⟩ := cC7 X3.out
    obtain ⟨f3_Y0,f3_Y1,f3_Y2,f3_Y3⟩ := cC4 Y3.out
    clear st hr f2_X0 f2_X1 f2_X2 f2_X3 f2_X4 f2_X5 f2_X6 f2_Y0 f2_Y1 f2_Y2 f2_Y3
    go_wp2_with (go_at_call 104; refine (HRO.out _ _).mono ?_; rintro e w9 ⟨rfl,rfl⟩)
    go_ret
    exact Ans.full A3.out ⟨C3.out.1.more (by omega) (by omega),C3.out.2⟩
  ·obtain ⟨x1,x2⟩ := C1.out.1.app C1.out.2 ha
   have C2 := hQ_ (And.intro x1 (x2.trans ho))
   clear x1 x2 ho ha
   have A2 := hQ_ (A1.out.step HS.out hr st)
   have X2 := hQ_ (A1.out.blk HS.out X1.out (.inl (.inr rfl)) st)
   have Y2 := hQ_ (A1.out.blk HS.out Y1.out (.inr rfl) st)
   obtain ⟨f2_X0,f2_X1,f2_X2,f2_X3,f2_X4,f2_X5,f2_X6⟩ := cC7 X2.out
   obtain ⟨f2_Y0,f2_Y1,f2_Y2,f2_Y3⟩ := cC4 Y2.out
   clear st hr f1_X0 f1_X1 f1_X2 f1_X3 f1_X4 f1_X5 f1_X6 f1_Y0 f1_Y1 f1_Y2 f1_Y3
   go_wp2_with (go_at_call 104; refine (HRO.out _ _).mono ?_; rintro e w9 ⟨rfl,rfl⟩)
   go_ret
   exact Ans.full A2.out ⟨(Aft.stop (qs := [dropP xi]) C2.out.1 C2.out.2).1.more (by omega) (by omega),(Aft.stop (qs := [dropP xi]) C2.out.1 C2.out.2).2⟩
 ·obtain ⟨x1,x2⟩ := C0.out.1.app C0.out.2 ha
  have C1 := hQ_ (And.intro x1 (x2.trans ho))
  clear x1 x2 ho ha
  have A1 := hQ_ (A0.out.step HS.out hr st)
  have X1 := hQ_ (A0.out.blk HS.out X0.out (.inl (.inr rfl)) st)
  have Y1 := hQ_ (A0.out.blk HS.out Y0.out (.inr rfl) st)
  obtain ⟨f1_X0,f1_X1,f1_X2,f1_X3,f1_X4,f1_X5,f1_X6⟩ := cC7 X1.out
  obtain ⟨f1_Y0,f1_Y1,f1_Y2,f1_Y3⟩ := cC4 Y1.out
  clear st hr f0_X0 f0_Y0
  go_wp2_with fail
  go_ret
  exact Ans.full A1.out ⟨(Aft.stop (qs := EP ++ [dropP xi]) C1.out.1 C1.out.2).1.more (by omega) (by omega),(Aft.stop (qs := EP ++ [dropP xi]) C1.out.1 C1.out.2).2⟩
end Go.Proofs.YtogdjbhjgbnicaaGreatDoor.DirsBk
namespace Go.Proofs.YtogdjbhjgbnicaaGreatDoor.DirsBd
open Go.RowKit
open Byte KeysM TreeM ViewM ViewKm NodeM NodeG NamesM NamesL WalkM WalkF WalkKm DirsV Lst Chg TreeL ViewL WalkL WalkV Vat WalkKa WalkKb DirsK DirsKa DirsKb DirsKc
open Own hiding keeps
open DirsKd
open DirsBm RgN
open FileV (drpPs)
variable {Rep : RepT}
theorem unlink_calls (hW0 : Wk Rep) (hRn : RangeN Rep) {w : World} {v : Value} {s : Vs} {S D : Nat → Prop} (xd xi xk xl xz xp : Int) (xn : ByteArray) (hr : Rep w v s S D) (hl : Lim s) (h2 : s.rd.length ≤ 19900) (h3 : s.rg.length ≤ 985) (hd0 : 0 ≤ xd) (hd1 : xd ≤ 4294967295) (hi0 : 0 ≤ xi) (hi1 : xi ≤ 4294967295) (hn0 : xn.size ≤ 32) (hb : InoB xk xl xz xp) (hk : ∀ p ∈ s.shown,(sp p.key).letter ≠ 0) :
 Calls Tryz.prog 115 #[v,.agg #[.int .u32 xd,.string xn,.int .u32 xi,.int .u8 xk,.int .u32 xl,.int .u32 xz,.int .u32 xp]] w (Ans Rep v s (unlB s.shown ⟨xd,xn,xi,⟨xk,xl,xz,xp⟩⟩).1 (unlB s.shown ⟨xd,xn,xi,⟨xk,xl,xz,xp⟩⟩).2 1 1 S D w) := by
 unfold unlB
 dsimp only
 by_cases h1 : xk = 1
 ·rw [if_neg (fun h => h h1)]
  by_cases hl1 : 1 < xl
  ·rw [if_pos hl1]
   exact DirsBk.unlink_more hW0 xd xi xk xl xz xp xn hr hl h2 (by omega) hd0 hd1 hi0 hi1 (by omega) hb hk h1 hl1
  ·rw [if_neg hl1]
   exact DirsBk.unlink_last hW0 hRn xd xi xk xl xz xp xn hr hl h2 h3 hd0 hd1 hi0 hi1 (by omega) hb hk h1 (by omega) hn0
 ·rw [if_pos h1]
  exact DirsBk.unlink_no hW0 xd xi xk xl xz xp xn hr hl h2 (by omega) hd0 hd1 hi0 hi1 (by omega) hb hk h1
theorem replace_none (hW0 : Wk Rep) {w : World} {v : Value} {s : Vs} {S D : Nat → Prop} (xd xi xk xl xz xp kind : Int) (xn : ByteArray) (hr : Rep w v s S D) (hl : Lim s) (h2 : s.rd.length ≤ 19900) (h3 : s.rg.length ≤ 985) (hd0 : 0 ≤ xd) (hd1 : xd ≤ 4294967295) (hi0 : 0 ≤ xi) (hi1 : xi ≤ 4294967295) (hn0 : xn.size ≤ 32) (hb : InoB xk xl xz xp) (d : Bool) (hi : xi = 0) :
 Calls Tryz.prog 113 #[v,.agg #[.int .u32 xd,.string xn,.int .u32 xi,.int .u8 xk,.int .u32 xl,.int .u32 xz,.int .u32 xp],.int .u8 kind] w (Ans Rep v s (clrB s.shown ⟨xd,xn,xi,⟨xk,xl,xz,xp⟩⟩ d).1 (clrB s.shown ⟨xd,xn,xi,⟨xk,xl,xz,xp⟩⟩ d).2 1 1 S D w) := by
 obtain ⟨W,hW⟩ : ∃ W,w.alloc (.cells #[.int .u32 xd,.string xn,.int .u32 xi,.int .u8 xk,.int .u32 xl,.int .u32 xz,.int .u32 xp] 150) = W := ⟨_,rfl⟩
 have hbW : Below w.heap.size w W := by rw [← hW]; exact bW_
 have A0 := hQ_ ((At.start hr).own hW0.stays hbW (Nat.le_refl w.heap.size) (by rw [← hW]; simp))
 have X0 := hQ_ (show Blk W w.heap.size #[.int .u32 xd,.string xn,.int .u32 xi,.int .u8 xk,.int .u32 xl,.int .u32 xz,.int .u32 xp] 150 from hW ▸ Blk.new_ w _ _)
 have HW := hQ_ hW
 have C0 := hQ_ (aft0 s)
 have f0_X0 := cC7 X0.out
 have HV : clrB s.shown ⟨xd,xn,xi,⟨xk,xl,xz,xp⟩⟩ d = (0,[]) := if_pos hi
 rw [HV]
 dsimp only
 have d1 : (xi == 0) = true := by simpa using hi
 clear hr hl hW hbW HV hi hb
 go_enter Tryz.func113,Tryz.ntmps113
 go_wp2_with fail
 rw [HW.out]
 go_wp2_with fail
 go_ret
 exact Ans.ok A0.out ⟨C0.out.1.more (by omega) (by omega),C0.out.2⟩
theorem replace_dir (hW0 : Wk Rep) {w : World} {v : Value} {s : Vs} {S D : Nat → Prop} (xd xi xk xl xz xp kind : Int) (xn : ByteArray) (hr : Rep w v s S D) (hl : Lim s) (h2 : s.rd.length ≤ 19900) (h3 : s.rg.length ≤ 985) (hd0 : 0 ≤ xd) (hd1 : xd ≤ 4294967295) (hi0 : 0 ≤ xi) (hi1 : xi ≤ 4294967295) (hn0 : xn.size ≤ 32) (hb : InoB xk xl xz xp) (hi : xi ≠ 0) (hkd : kind = 2) (hk : ∀ p ∈ s.shown,(sp p.key).letter ≠ 0) :
 Calls Tryz.prog 113 #[v,.agg #[.int .u32 xd,.string xn,.int .u32 xi,.int .u8 xk,.int .u32 xl,.int .u32 xz,.int .u32 xp],.int .u8 kind] w (Ans Rep v s (clrB s.shown ⟨xd,xn,xi,⟨xk,xl,xz,xp⟩⟩ true).1 (clrB s.shown ⟨xd,xn,xi,⟨xk,xl,xz,xp⟩⟩ true).2 1 1 S D w) := by
 obtain ⟨W,hW⟩ : ∃ W,w.alloc (.cells #[.int .u32 xd,.string xn,.int .u32 xi,.int .u8 xk,.int .u32 xl,.int .u32 xz,.int .u32 xp] 150) = W := ⟨_,rfl⟩
 have hbW : Below w.heap.size w W := by rw [← hW]; exact bW_
 have A0 := hQ_ ((At.start hr).own hW0.stays hbW (Nat.le_refl w.heap.size) (by rw [← hW]; simp))
 have X0 := hQ_ (show Blk W w.heap.size #[.int .u32 xd,.string xn,.int .u32 xi,.int .u8 xk,.int .u32 xl,.int .u32 xz,.int .u32 xp] 150 from hW ▸ Blk.new_ w _ _)
 have HW := hQ_ hW
 have HS := hQ_ hW0.stays
 have f0_X0 := cC7 X0.out
 have HV : clrB s.shown ⟨xd,xn,xi,⟨xk,xl,xz,xp⟩⟩ true = remV s.shown ⟨xd,xn,xi,⟨xk,xl,xz,xp⟩⟩ := by unfold clrB; rw [if_neg hi,if_pos rfl]
 rw [HV]
 have d1 : (xi == 0) = false := by simpa using hi
 have d2 : (kind == 2) = true := by simpa using hkd
 have HC := hQ_ (fun w (S D : Nat → Prop) (hr : Rep w v s S D) => remove_calls hW0 xd xi xk xl xz xp xn hr hl h2 (by omega) hd0 hd1 hi0 hi1 (by omega) hk)
 obtain ⟨⟨rx,ps⟩,hrx⟩ : ∃ r,remV s.shown ⟨xd,xn,xi,⟨xk,xl,xz,xp⟩⟩ = r := ⟨_,rfl⟩
 rw [hrx] at HC ⊢
 dsimp only at HC ⊢
 clear hr hl hW hbW HV hi hb hkd hrx hk
 go_enter Tryz.func113,Tryz.ntmps113
 go_wp2_with fail
 rw [HW.out]
 go_wp2_with fail
 refine (HC.out _ _ _ A0.out.rep).mono ?_
 intro e w1 hh
 rcases Ans.split hh with ⟨s1,S1,D1,rfl,ho,hr,st,ha⟩ | ⟨s1,S1,D1,rfl,ho,hr,st,ha⟩
 ·have A1 := hQ_ (A0.out.step HS.out hr st)
  have HA := hQ_ (And.intro ha ho)
  clear hr st ha ho
  go_wp2_with fail
  go_ret
  exact Ans.ok A1.out HA.out
 ·have A1 := hQ_ (A0.out.step HS.out hr st)
  have HA := hQ_ (And.intro ha ho)
  clear hr st ha ho
  go_wp2_with fail
  go_ret
  exact Ans.full A1.out HA.out
theorem replace_file (hW0 : Wk Rep) (hRn : RangeN Rep) {w : World} {v : Value} {s : Vs} {S D : Nat → Prop} (xd xi xk xl xz xp kind : Int) (xn : ByteArray) (hr : Rep w v s S D) (hl : Lim s) (h2 : s.rd.length ≤ 19900) (h3 : s.rg.length ≤ 985) (hd0 : 0 ≤ xd) (hd1 : xd ≤ 4294967295) (hi0 : 0 ≤ xi) (hi1 : xi ≤ 4294967295) (hn0 : xn.size ≤ 32) (hb : InoB xk xl xz xp) (hi : xi ≠ 0) (hkd : kind ≠ 2) (hk : ∀ p ∈ s.shown,(sp p.key).letter ≠ 0) :
 Calls Tryz.prog 113 #[v,.agg #[.int .u32 xd,.string xn,.int .u32 xi,.int .u8 xk,.int .u32 xl,.int .u32 xz,.int .u32 xp],.int .u8 kind] w (Ans Rep v s (clrB s.shown ⟨xd,xn,xi,⟨xk,xl,xz,xp⟩⟩ false).1 (clrB s.shown ⟨xd,xn,xi,⟨xk,xl,xz,xp⟩⟩ false).2 1 1 S D w) := by
 obtain ⟨W,hW⟩ : ∃ W,w.alloc (.cells #[.int .u32 xd,.string xn,.int .u32 xi,.int .u8 xk,.int .u32 xl,.int .u32 xz,.int .u32 xp] 150) = W := ⟨_,rfl⟩
 have hbW : Below w.heap.size w W := by rw [← hW]; exact bW_
 have A0 := hQ_ ((At.start hr).own hW0.stays hbW (Nat.le_refl w.heap.size) (by rw [← hW]; simp))
 have X0 := hQ_ (show Blk W w.heap.size #[.int .u32 xd,.string xn,.int .u32 xi,.int .u8 xk,.int .u32 xl,.int .u32 xz,.int .u32 xp] 150 from hW ▸ Blk.new_ w _ _)
 have HW := hQ_ hW
 have HS := hQ_ hW0.stays
 have f0_X0 := cC7 X0.out
 have HV : clrB s.shown ⟨xd,xn,xi,⟨xk,xl,xz,xp⟩⟩ false = unlB s.shown ⟨xd,xn,xi,⟨xk,xl,xz,xp⟩⟩ := by unfold clrB; rw [if_neg hi,if_neg (by decide)]
 rw [HV]
 have d1 : (xi == 0) = false := by simpa using hi
 have d2 : (kind == 2) = false := by simpa using hkd
 have HC := hQ_ (fun w (S D : Nat → Prop) (hr : Rep w v s S D) => unlink_calls hW0 hRn xd xi xk xl xz xp xn hr hl h2 h3 hd0 hd1 hi0 hi1 hn0 hb hk)
 obtain ⟨⟨rx,ps⟩,hrx⟩ : ∃ r,unlB s.shown ⟨xd,xn,xi,⟨xk,xl,xz,xp⟩⟩ = r := ⟨_,rfl⟩
 rw [hrx] at HC ⊢
 dsimp only at HC ⊢
 clear hr hl hW hbW HV hi hb hkd hrx hk
 go_enter Tryz.func113,Tryz.ntmps113
 go_wp2_with fail
 rw [HW.out]
 go_wp2_with fail
 refine (HC.out _ _ _ A0.out.rep).mono ?_
 intro e w1 hh
 rcases Ans.split hh with ⟨s1,S1,D1,rfl,ho,hr,st,ha⟩ | ⟨s1,S1,D1,rfl,ho,hr,st,ha⟩
 ·have A1 := hQ_ (A0.out.step HS.out hr st)
  have HA := hQ_ (And.intro ha ho)
  clear hr st ha ho
  go_wp2_with fail
  go_ret
  exact Ans.ok A1.out HA.out
 ·have A1 := hQ_ (A0.out.step HS.out hr st)
  have HA := hQ_ (And.intro ha ho)
  clear hr st ha ho
  go_wp2_with fail
  go_ret
  exact Ans.full A1.out HA.out
theorem replace_calls (hW0 : Wk Rep) (hRn : RangeN Rep) {w : World} {v : Value} {s : Vs} {S D : Nat → Prop} (xd xi xk xl xz xp kind : Int) (xn : ByteArray) (hr : Rep w v s S D) (hl : Lim s) (h2 : s.rd.length ≤ 19900) (h3 : s.rg.length ≤ 985) (hd0 : 0 ≤ xd) (hd1 : xd ≤ 4294967295) (hi0 : 0 ≤ xi) (hi1 : xi ≤ 4294967295) (hn0 : xn.size ≤ 32) (hb : InoB xk xl xz xp) (hk : ∀ p ∈ s.shown,(sp p.key).letter ≠ 0) :
 Calls Tryz.prog 113 #[v,.agg #[.int .u32 xd,.string xn,.int .u32 xi,.int .u8 xk,.int .u32 xl,.int .u32 xz,.int .u32 xp],.int .u8 kind] w (Ans Rep v s (clrB s.shown ⟨xd,xn,xi,⟨xk,xl,xz,xp⟩⟩ (decide (kind = 2))).1 (clrB s.shown ⟨xd,xn,xi,⟨xk,xl,xz,xp⟩⟩ (decide (kind = 2))).2 1 1 S D w) := by
 by_cases hi : xi = 0
 ·exact replace_none hW0 xd xi xk xl xz xp kind xn hr hl h2 h3 hd0 hd1 hi0 hi1 hn0 hb _ hi
 ·by_cases hkd : kind = 2
  ·rw [decide_eq_true hkd]
   exact replace_dir hW0 xd xi xk xl xz xp kind xn hr hl h2 h3 hd0 hd1 hi0 hi1 hn0 hb hi hkd hk
  ·rw [decide_eq_false hkd]
   exact replace_file hW0 hRn xd xi xk xl xz xp kind xn hr hl h2 h3 hd0 hd1 hi0 hi1 hn0 hb hi hkd hk
end Go.Proofs.YtogdjbhjgbnicaaGreatDoor.DirsBd
namespace Go.Proofs.YtogdjbhjgbnicaaGreatDoor.DirsBf
open Go.RowKit
open Byte KeysM TreeM ViewM ViewKm NodeM NodeG NamesM NamesL WalkM WalkF WalkKm DirsV Lst Chg TreeL ViewL WalkL WalkV Vat WalkKa WalkKb DirsK DirsKa DirsKb DirsKc DirsKd
open Own hiding keeps
open DirsKf
open DirsBm RgN
open FileV (drpPs)
variable {Rep : RepT}
theorem ulk_err (hW0 : Wk Rep) {w : World} {v : Value} {s : Vs} {S D : Nat → Prop} (path : ByteArray) {xd xi xk xl xz xp er : Int} {xn : ByteArray} (hr : Rep w v s S D) (hl : Lim s) (h2 : s.rd.length ≤ 18000) (h3 : s.rg.length ≤ 900) (hx : Mxs w S) (hp : path.size ≤ 100000) (hR : findM s.shown path = (⟨xd,xn,xi,⟨xk,xl,xz,xp⟩⟩,er)) (hk : ∀ p ∈ s.shown,(sp p.key).letter ≠ 0) (he : er ≠ 0) :
 Calls Tryz.prog 87 #[v,.string path] w (Ans Rep v s er [] 41 1 S D w) := by
 have A0 := hQ_ (At.start hr)
 have HX := hQ_ hx
 have HS := hQ_ hW0.stays
 have HL := hQ_ hl
 have C0 := hQ_ (aft0 s)
 have HWT := hQ_ when_t
 have HWF := hQ_ when_f
 have HFI := hQ_ (fun w (S D : Nat → Prop) (t : Vs) (hr : Rep w v t S D) (hsm : Sm t s) hl h2 hx => find_c hW0 path hR hr hsm hl h2 hp hx)
 unfold FndC at HFI
 have hsbx := find_bd s.shown path
 have hibx := find_ib s.shown path
 rw [hR] at hsbx hibx
 obtain ⟨x0,x1,x2,x3,x4⟩ := hsbx
 dsimp only at x0 x1 x2 x3 x4 HFI hibx
 have d0 : (er != 0) = true := by simpa using he
 clear hr hl hp hR hx hW0 hk
 rcases (show xi ≠ 0 ∨ xi = 0 by omega) with h0 | h0
 ·have d2 : (xi == 0) = false := by simp; omega
  clear h0
  go_enter Tryz.func87,Tryz.ntmps87
  go_wp2_with fail
  refine (HFI.out _ _ _ _ A0.out.rep (Aft.sm0 C0.out.1) (lim_aft C0.out.1 HL.out (by omega) (by omega)) (by have := C0.out.1.rd; omega) (HX.out.at_ A0.out).1).mono ?_
  rintro e w1 ⟨s1,S1,D1,rfl,hr,st,hsm,hrd,hrg⟩
  have C1 := hQ_ (aftF C0.out hsm hrd hrg)
  have X1 := hQ_ (Blk.new_ w1 #[.int .u32 xd,.string xn,.int .u32 xi,.int .u8 xk,.int .u32 xl,.int .u32 xz,.int .u32 xp] 150)
  have hbn := bX_ X1.out
  have AQ := A0.out.step HS.out hr st
  have A1 := hQ_ (AQ.own HS.out hbn (Nat.le_refl w1.heap.size) (by simp))
  have f1_X0 := cC7 X1.out
  clear hr st hsm hrd hrg hbn AQ
  have FE2 : fst_ [er,0] = er := by unfold fst_; rw [if_neg he]
  have HF2 := hQ_ (And.intro (first_2g (er) (0) (w1.alloc (.cells #[.int .u32 xd,.string xn,.int .u32 xi,.int .u8 xk,.int .u32 xl,.int .u32 xz,.int .u32 xp] 150)) (w1.heap.size + 1) (by simp)) (first_2d (er) (0) (w1.alloc (.cells #[.int .u32 xd,.string xn,.int .u32 xi,.int .u8 xk,.int .u32 xl,.int .u32 xz,.int .u32 xp] 150)) (w1.heap.size + 1) (by simp)))
  rw [FE2] at HF2
  clear FE2
  go_upto_region 2 with (fail)
  go_cut [7] (fun p wx => p = .int .i64 (er) ∧ BL_ (w1.alloc (.cells #[.int .u32 xd,.string xn,.int .u32 xi,.int .u8 xk,.int .u32 xl,.int .u32 xz,.int .u32 xp] 150)) wx)
  case first =>
   go_wp2_with (first | (go_at_call 99; (with_reducible refine (HWT.out _ _).mono ?_); rintro e w9 ⟨rfl,rfl⟩) | (go_at_call 99; (with_reducible refine (HWF.out _ _).mono ?_); rintro e w9 ⟨rfl,rfl⟩) | (go_at_call 98; (with_reducible refine HF2.out.1.mono ?_); rintro e w9 ⟨rfl,rfl⟩))
   all_goals
    go_meet
    exact fB_
  case rest =>
   obtain ⟨rfl,hbc⟩ := hcut
   have A2 := hQ_ (A1.out.below HS.out hbc)
   have X2 := hQ_ (X1.out.below hbc)
   skip
   have f2_X0 := cC7 X2.out
   clear hbc f1_X0
   clear he
   go_wp2_with fail
   go_ret
   exact Ans.ok A2.out ⟨C1.out.1.more (by omega) (by omega),C1.out.2⟩
 ·have d2 : (xi == 0) = true := by simp; omega
  clear h0
  go_enter Tryz.func87,Tryz.ntmps87
  go_wp2_with fail
  refine (HFI.out _ _ _ _ A0.out.rep (Aft.sm0 C0.out.1) (lim_aft C0.out.1 HL.out (by omega) (by omega)) (by have := C0.out.1.rd; omega) (HX.out.at_ A0.out).1).mono ?_
  rintro e w3 ⟨s3,S3,D3,rfl,hr,st,hsm,hrd,hrg⟩
  have C3 := hQ_ (aftF C0.out hsm hrd hrg)
  have X3 := hQ_ (Blk.new_ w3 #[.int .u32 xd,.string xn,.int .u32 xi,.int .u8 xk,.int .u32 xl,.int .u32 xz,.int .u32 xp] 150)
  have hbn := bX_ X3.out
  have AQ := A0.out.step HS.out hr st
  have A3 := hQ_ (AQ.own HS.out hbn (Nat.le_refl w3.heap.size) (by simp))
  have f3_X0 := cC7 X3.out
  clear hr st hsm hrd hrg hbn AQ
  have FE4 : fst_ [er,10] = er := by unfold fst_; rw [if_neg he]
  have HF4 := hQ_ (And.intro (first_2g (er) (10) (w3.alloc (.cells #[.int .u32 xd,.string xn,.int .u32 xi,.int .u8 xk,.int .u32 xl,.int .u32 xz,.int .u32 xp] 150)) (w3.heap.size + 1) (by simp)) (first_2d (er) (10) (w3.alloc (.cells #[.int .u32 xd,.string xn,.int .u32 xi,.int .u8 xk,.int .u32 xl,.int .u32 xz,.int .u32 xp] 150)) (w3.heap.size + 1) (by simp)))
  rw [FE4] at HF4
  clear FE4
  go_upto_region 2 with (fail)
  go_cut [7] (fun p wx => p = .int .i64 (er) ∧ BL_ (w3.alloc (.cells #[.int .u32 xd,.string xn,.int .u32 xi,.int .u8 xk,.int .u32 xl,.int .u32 xz,.int .u32 xp] 150)) wx)
  case first =>
   go_wp2_with (first | (go_at_call 99; (with_reducible refine (HWT.out _ _).mono ?_); rintro e w9 ⟨rfl,rfl⟩) | (go_at_call 99; (with_reducible refine (HWF.out _ _).mono ?_); rintro e w9 ⟨rfl,rfl⟩) | (go_at_call 98; (with_reducible refine HF4.out.1.mono ?_); rintro e w9 ⟨rfl,rfl⟩))
   all_goals
    go_meet
    exact fB_
  case rest =>
   obtain ⟨rfl,hbc⟩ := hcut
   have A4 := hQ_ (A3.out.below HS.out hbc)
   have X4 := hQ_ (X3.out.below hbc)
   skip
   have f4_X0 := cC7 X4.out
   clear hbc f3_X0
   clear he
   go_wp2_with fail
   go_ret
   exact Ans.ok A4.out ⟨C3.out.1.more (by omega) (by omega),C3.out.2⟩
theorem ulk_none (hW0 : Wk Rep) {w : World} {v : Value} {s : Vs} {S D : Nat → Prop} (path : ByteArray) {xd xi xk xl xz xp er : Int} {xn : ByteArray} (hr : Rep w v s S D) (hl : Lim s) (h2 : s.rd.length ≤ 18000) (h3 : s.rg.length ≤ 900) (hx : Mxs w S) (hp : path.size ≤ 100000) (hR : findM s.shown path = (⟨xd,xn,xi,⟨xk,xl,xz,xp⟩⟩,er)) (hk : ∀ p ∈ s.shown,(sp p.key).letter ≠ 0) (he : er = 0) (h0 : xi = 0) :
 Calls Tryz.prog 87 #[v,.string path] w (Ans Rep v s 10 [] 41 1 S D w) := by
 have A0 := hQ_ (At.start hr)
 have HX := hQ_ hx
 have HS := hQ_ hW0.stays
 have HL := hQ_ hl
 have C0 := hQ_ (aft0 s)
 have HWT := hQ_ when_t
 have HWF := hQ_ when_f
 have HFI := hQ_ (fun w (S D : Nat → Prop) (t : Vs) (hr : Rep w v t S D) (hsm : Sm t s) hl h2 hx => find_c hW0 path hR hr hsm hl h2 hp hx)
 unfold FndC at HFI
 have hsbx := find_bd s.shown path
 have hibx := find_ib s.shown path
 rw [hR] at hsbx hibx
 obtain ⟨x0,x1,x2,x3,x4⟩ := hsbx
 dsimp only at x0 x1 x2 x3 x4 HFI hibx
 subst he
 have d2 : (xi == 0) = true := by simpa using h0
 clear hr hl hp hR hx hW0 hk h0
 go_enter Tryz.func87,Tryz.ntmps87
 go_wp2_with fail
 refine (HFI.out _ _ _ _ A0.out.rep (Aft.sm0 C0.out.1) (lim_aft C0.out.1 HL.out (by omega) (by omega)) (by have := C0.out.1.rd; omega) (HX.out.at_ A0.out).1).mono ?_
 rintro e w1 ⟨s1,S1,D1,rfl,hr,st,hsm,hrd,hrg⟩
 have C1 := hQ_ (aftF C0.out hsm hrd hrg)
 have X1 := hQ_ (Blk.new_ w1 #[.int .u32 xd,.string xn,.int .u32 xi,.int .u8 xk,.int .u32 xl,.int .u32 xz,.int .u32 xp] 150)
 have hbn := bX_ X1.out
 have AQ := A0.out.step HS.out hr st
 have A1 := hQ_ (AQ.own HS.out hbn (Nat.le_refl w1.heap.size) (by simp))
 have f1_X0 := cC7 X1.out
 clear hr st hsm hrd hrg hbn AQ
 have FE2 : fst_ [0,10] = 10 := rfl
 have HF2 := hQ_ (And.intro (first_2g (0) (10) (w1.alloc (.cells #[.int .u32 xd,.string xn,.int .u32 xi,.int .u8 xk,.int .u32 xl,.int .u32 xz,.int .u32 xp] 150)) (w1.heap.size + 1) (by simp)) (first_2d (0) (10) (w1.alloc (.cells #[.int .u32 xd,.string xn,.int .u32 xi,.int .u8 xk,.int .u32 xl,.int .u32 xz,.int .u32 xp] 150)) (w1.heap.size + 1) (by simp)))
 rw [FE2] at HF2
 clear FE2
 go_upto_region 2 with (fail)
 go_cut [7] (fun p wx => p = .int .i64 (10) ∧ BL_ (w1.alloc (.cells #[.int .u32 xd,.string xn,.int .u32 xi,.int .u8 xk,.int .u32 xl,.int .u32 xz,.int .u32 xp] 150)) wx)
 case first =>
  go_wp2_with (first | (go_at_call 99; (with_reducible refine (HWT.out _ _).mono ?_); rintro e w9 ⟨rfl,rfl⟩) | (go_at_call 99; (with_reducible refine (HWF.out _ _).mono ?_); rintro e w9 ⟨rfl,rfl⟩) | (go_at_call 98; (with_reducible refine HF2.out.1.mono ?_); rintro e w9 ⟨rfl,rfl⟩))
  all_goals
   go_meet
   exact fB_
 case rest =>
  obtain ⟨rfl,hbc⟩ := hcut
  have A2 := hQ_ (A1.out.below HS.out hbc)
  have X2 := hQ_ (X1.out.below hbc)
  skip
  have f2_X0 := cC7 X2.out
  clear hbc f1_X0
  go_wp2_with fail
  go_ret
  exact Ans.ok A2.out ⟨C1.out.1.more (by omega) (by omega),C1.out.2⟩
theorem ulk_there (hW0 : Wk Rep) (hRn : RangeN Rep) {w : World} {v : Value} {s : Vs} {S D : Nat → Prop} (path : ByteArray) {xd xi xk xl xz xp er : Int} {xn : ByteArray} (hr : Rep w v s S D) (hl : Lim s) (h2 : s.rd.length ≤ 18000) (h3 : s.rg.length ≤ 900) (hx : Mxs w S) (hp : path.size ≤ 100000) (hR : findM s.shown path = (⟨xd,xn,xi,⟨xk,xl,xz,xp⟩⟩,er)) (hk : ∀ p ∈ s.shown,(sp p.key).letter ≠ 0) (he : er = 0) (h0 : xi ≠ 0) :
 Calls Tryz.prog 87 #[v,.string path] w (Ans Rep v s (unlB s.shown ⟨xd,xn,xi,⟨xk,xl,xz,xp⟩⟩).1 (unlB s.shown ⟨xd,xn,xi,⟨xk,xl,xz,xp⟩⟩).2 41 1 S D w) := by
 have A0 := hQ_ (At.start hr)
 have HX := hQ_ hx
 have HS := hQ_ hW0.stays
 have HL := hQ_ hl
 have C0 := hQ_ (aft0 s)
 have HWT := hQ_ when_t
 have HWF := hQ_ when_f
 have HFI := hQ_ (fun w (S D : Nat → Prop) (t : Vs) (hr : Rep w v t S D) (hsm : Sm t s) hl h2 hx => find_c hW0 path hR hr hsm hl h2 hp hx)
 unfold FndC at HFI
 have hsbx := find_bd s.shown path
 have hibx := find_ib s.shown path
 rw [hR] at hsbx hibx
 obtain ⟨x0,x1,x2,x3,x4⟩ := hsbx
 dsimp only at x0 x1 x2 x3 x4 HFI hibx
 subst he
 have d2 : (xi == 0) = false := by simpa using h0
 have HC := hQ_ (fun w (S D : Nat → Prop) (t : Vs) (hr : Rep w v t S D) (hsm : Sm t s) (hl : Lim t) (h2 : t.rd.length ≤ 19900) (h3 : t.rg.length ≤ 985) => by have h := DirsBd.unlink_calls hW0 hRn xd xi xk xl xz xp xn hr hl h2 h3 x0 x1 x2 x3 x4 hibx (by rw [hsm.shown]; exact hk); rw [hsm.shown] at h; exact h)
 obtain ⟨⟨rx,ps⟩,hrx⟩ : ∃ r,unlB s.shown ⟨xd,xn,xi,⟨xk,xl,xz,xp⟩⟩ = r := ⟨_,rfl⟩
 rw [hrx] at HC ⊢
 dsimp only at HC ⊢
 clear hrx h0
 clear hr hl hp hR hx hW0 hk
 go_enter Tryz.func87,Tryz.ntmps87
 go_wp2_with fail
 refine (HFI.out _ _ _ _ A0.out.rep (Aft.sm0 C0.out.1) (lim_aft C0.out.1 HL.out (by omega) (by omega)) (by have := C0.out.1.rd; omega) (HX.out.at_ A0.out).1).mono ?_
 rintro e w1 ⟨s1,S1,D1,rfl,hr,st,hsm,hrd,hrg⟩
 have C1 := hQ_ (aftF C0.out hsm hrd hrg)
 have X1 := hQ_ (Blk.new_ w1 #[.int .u32 xd,.string xn,.int .u32 xi,.int .u8 xk,.int .u32 xl,.int .u32 xz,.int .u32 xp] 150)
 have hbn := bX_ X1.out
 have AQ := A0.out.step HS.out hr st
 have A1 := hQ_ (AQ.own HS.out hbn (Nat.le_refl w1.heap.size) (by simp))
 have f1_X0 := cC7 X1.out
 clear hr st hsm hrd hrg hbn AQ
 have FE2 : fst_ [0,0] = 0 := rfl
 have HF2 := hQ_ (And.intro (first_2g (0) (0) (w1.alloc (.cells #[.int .u32 xd,.string xn,.int .u32 xi,.int .u8 xk,.int .u32 xl,.int .u32 xz,.int .u32 xp] 150)) (w1.heap.size + 1) (by simp)) (first_2d (0) (0) (w1.alloc (.cells #[.int .u32 xd,.string xn,.int .u32 xi,.int .u8 xk,.int .u32 xl,.int .u32 xz,.int .u32 xp] 150)) (w1.heap.size + 1) (by simp)))
 rw [FE2] at HF2
 clear FE2
 go_upto_region 2 with (fail)
 go_cut [7] (fun p wx => p = .int .i64 (0) ∧ BL_ (w1.alloc (.cells #[.int .u32 xd,.string xn,.int .u32 xi,.int .u8 xk,.int .u32 xl,.int .u32 xz,.int .u32 xp] 150)) wx)
 case first =>
  go_wp2_with (first | (go_at_call 99; (with_reducible refine (HWT.out _ _).mono ?_); rintro e w9 ⟨rfl,rfl⟩) | (go_at_call 99; (with_reducible refine (HWF.out _ _).mono ?_); rintro e w9 ⟨rfl,rfl⟩) | (go_at_call 98; (with_reducible refine HF2.out.1.mono ?_); rintro e w9 ⟨rfl,rfl⟩))
  all_goals
   go_meet
   exact fB_
 case rest =>
  obtain ⟨rfl,hbc⟩ := hcut
  have A2 := hQ_ (A1.out.below HS.out hbc)
  have X2 := hQ_ (X1.out.below hbc)
  skip
  have f2_X0 := cC7 X2.out
  clear hbc f1_X0
  go_wp2_with fail
  refine (HC.out _ _ _ _ A2.out.rep (Aft.sm0 C1.out.1) (lim_aft C1.out.1 HL.out (by omega) (by omega)) (by have := C1.out.1.rd; omega) (by have := C1.out.1.rg; omega)).mono ?_
  intro e w3 hh
  rcases Ans.split hh with ⟨s3,S3,D3,rfl,ho,hr,st,ha⟩ | ⟨s3,S3,D3,rfl,ho,hr,st,ha⟩
  ·have A3 := hQ_ (A2.out.step HS.out hr st)
   have C3 := hQ_ (Aft.thru C1.out (And.intro ha ho))
   clear hr st ha ho
   go_wp2_with fail
   go_ret
   exact Ans.ok A3.out ⟨C3.out.1.more (by omega) (by omega),C3.out.2⟩
  ·have A3 := hQ_ (A2.out.step HS.out hr st)
   have C3 := hQ_ (Aft.thru C1.out (And.intro ha ho))
   clear hr st ha ho
   go_wp2_with fail
   go_ret
   exact Ans.full A3.out ⟨C3.out.1.more (by omega) (by omega),C3.out.2⟩
theorem ulk_calls (hW0 : Wk Rep) (hRn : RangeN Rep) {w : World} {v : Value} {s : Vs} {S D : Nat → Prop} (path : ByteArray) (hr : Rep w v s S D) (hl : Lim s) (h2 : s.rd.length ≤ 18000) (h3 : s.rg.length ≤ 900) (hx : Mxs w S) (hp : path.size ≤ 100000) (hk : ∀ p ∈ s.shown,(sp p.key).letter ≠ 0) :
 Calls Tryz.prog 87 #[v,.string path] w (Ans Rep v s (ulkB s.shown path).1 (ulkB s.shown path).2 41 1 S D w) := by
 unfold ulkB
 obtain ⟨⟨⟨xd,xn,xi,⟨xk,xl,xz,xp⟩⟩,er⟩,hR⟩ : ∃ R,findM s.shown path = R := ⟨_,rfl⟩
 have h := hR
 rw [hR]
 dsimp only
 by_cases he : er = 0
 ·rw [if_neg (fun h => h he)]
  by_cases h0 : xi = 0
  ·rw [if_pos h0]
   exact ulk_none hW0 path hr hl h2 h3 hx hp h hk he h0
  ·rw [if_neg h0]
   exact ulk_there hW0 hRn path hr hl h2 h3 hx hp h hk he h0
 ·rw [if_pos he]
  exact ulk_err hW0 path hr hl h2 h3 hx hp h hk he
end Go.Proofs.YtogdjbhjgbnicaaGreatDoor.DirsBf