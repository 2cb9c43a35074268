import Derived.Test.YtogdjbhjgbnicaaGreatDoorNodeM
import Derived.Test.YtogdjbhjgbnicaaGreatDoorOpsPartsMAQ
import Derived.Test.YtogdjbhjgbnicaaGreatDoorSq
import Derived.Test.YtogdjbhjgbnicaaGreatDoorOpsPartsMBV
import Derived.Lib.BufferWrite
import Derived.Laws.CopyOwn
import Derived.StillTailTactics
import Derived.Test.YtogdjbhjgbnicaaGreatDoorOwn
import Derived.Test.YtogdjbhjgbnicaaGreatDoorPackM
import Derived.Test.YtogdjbhjgbnicaaGreatDoorProg
import Derived.Shelf.SlLaysV
import Derived.Shelf.Bytes.SlTrim
import Derived.KernelRfl
import Derived.Test.YtogdjbhjgbnicaaGreatDoorKeysB
import Derived.Test.YtogdjbhjgbnicaaGreatDoorConvS
set_option linter.unusedVariables false
set_option linter.unusedSimpArgs false
namespace Go.Proofs.YtogdjbhjgbnicaaGreatDoor.FileM
open Byte PackM KeysM
def cut0 : List Int → List Int
 | [] => []
 | x :: r => match cut0 r with
   | [] => if x = 0 then [] else [x]
   | y :: q => x :: y :: q
theorem cut0_spec : ∀ (l : List Int),∃ k,l = cut0 l ++ List.replicate k 0
 | [] => ⟨0,rfl⟩
 | x :: r => by
   obtain ⟨k,hk⟩ := cut0_spec r
   cases h : cut0 r with
   | nil =>
     rw [h] at hk
     by_cases hx : x = 0
     ·refine ⟨k + 1,?_⟩
      unfold cut0
      rw [h,hx]
      dsimp only
      rw [if_pos rfl,List.replicate_succ]
      exact congrArg (List.cons 0) hk
     ·refine ⟨k,?_⟩
      unfold cut0
      rw [h]
      dsimp only
      rw [if_neg hx]
      exact congrArg (List.cons x) hk
   | cons y q =>
     refine ⟨k,?_⟩
     rw [h] at hk
     unfold cut0
     rw [h]
     exact congrArg (List.cons x) hk
theorem cut0_len (l : List Int) : (cut0 l).length ≤ l.length := by
 obtain ⟨k,hk⟩ := cut0_spec l
 have := congrArg List.length hk
 rw [List.length_append] at this
 omega
theorem cut0_mem {l : List Int} {x : Int} (h : x ∈ cut0 l) : x ∈ l := by
 obtain ⟨k,hk⟩ := cut0_spec l
 rw [hk]
 exact List.mem_append_left _ h
def pad (n : Nat) (l : List Int) : List Int := (l ++ List.replicate n 0).take n
theorem pad_len (n : Nat) (l : List Int) : (pad n l).length = n := by
 unfold pad
 rw [List.length_take,List.length_append,List.length_replicate]
 omega
theorem pad_cut0 (n : Nat) (l : List Int) : pad n (cut0 l) = pad n l := by
 obtain ⟨k,hk⟩ := cut0_spec l
 have h : ∀ (m : List Int),pad n (m ++ List.replicate k 0) = pad n m := fun m => by
  apply List.ext_getElem?
  intro i
  unfold pad
  rw [List.getElem?_take,List.getElem?_take]
  by_cases hi : i < n
  ·rw [if_pos hi,if_pos hi,List.append_assoc,List.replicate_append_replicate]
   by_cases hm : i < m.length
   ·rw [List.getElem?_append_left hm,List.getElem?_append_left hm]
   ·rw [List.getElem?_append_right (by omega),List.getElem?_append_right (by omega),List.getElem?_replicate,List.getElem?_replicate,if_pos (by omega),if_pos (by omega)]
  ·rw [if_neg hi,if_neg hi]
 conv => rhs; rw [hk]
 exact (h _).symm
def valL (v : Option ByteArray) : List Int := match v with
 | some b => txt b
 | none => []
end Go.Proofs.YtogdjbhjgbnicaaGreatDoor.FileM
namespace Go.Proofs.YtogdjbhjgbnicaaGreatDoor.FileV
open Byte PackM KeysM TreeM ViewM ViewKm NodeM WalkM WalkF WalkKm DirsV FileM
def filV (L : List Pr) (ino : Int) : Ino × Int := if (loadM L ino).2 = true ∧ (loadM L ino).1.k = 1 then ((loadM L ino).1,0) else (ino0,16)
def putP (ino which : Int) (b : List Int) : Wrt := fun _ => ⟨kD ino which,str (cut0 b),decide (cut0 b = [])⟩
def getB (L : List Pr) (ino which : Int) : List Int := pad 64 (valL ((getL (kD ino which) L).map (·.value)))
theorem getB_len (L : List Pr) (ino which : Int) : (getB L ino which).length = 64 := pad_len _ _
def valB (L : List Pr) (ino which : Int) : List Int := valL ((getL (kD ino which) L).map (·.value))
def shoPs (L : List Pr) (ino size : Int) : List Wrt := if (valB L ino (size / 64)).length ≤ (size % 64).toNat then [] else [putP ino (size / 64) ((valB L ino (size / 64)).take (size % 64).toNat)]
def setB (l xs : List Int) (f : Nat) : List Int := l.take f ++ (xs ++ l.drop (f + xs.length))
theorem setB_len (l xs : List Int) (f : Nat) (h : f + xs.length ≤ l.length) : (setB l xs f).length = l.length := by
 unfold setB
 rw [List.length_append,List.length_append,List.length_take,List.length_drop]
 omega
def wrP (ino : Int) (p : Int × Int × Int) (xs : List Int) : Wrt := fun L => putP ino p.1 (setB (getB L ino p.1) xs p.2.1.toNat) L
def wrPs (ino : Int) : List Int → List (Int × Int × Int) → List Wrt
 | _,[] => []
 | xs,p :: P => wrP ino p (xs.take p.2.2.toNat) :: wrPs ino (xs.drop p.2.2.toNat) P
def blkF (ino from_ : Int) (p : Pr) : Bool := decide ((sp p.key).letter = 68) && decide ((sp p.key).ino = ino) && decide (from_ ≤ (sp p.key).n)
def delP (k : ByteArray) : Wrt := fun _ => ⟨k,⟨#[]⟩,true⟩
def drpPs (L : List Pr) (ino from_ : Int) : List Wrt := (L.filter (blkF ino from_)).map fun p => delP p.key
def pcB (L : List Pr) (ino : Int) (p : Int × Int × Int) : List Int := ((getB L ino p.1).drop p.2.1.toNat).take p.2.2.toNat
def rdL (L : List Pr) (ino : Int) (P : List (Int × Int × Int)) : List Int := P.flatMap (pcB L ino)
def cutV (a n : Int) : List (Int × Int × Int) := if a < 0 ∨ n ≤ 0 ∨ 4096 < a ∨ 4096 - a < n then [] else cuts n.toNat a n
def blkN (size : Int) : Int := if size ≤ 0 then 0 else (size - 1) / 64 + 1
def reaV (L : List Pr) (ino a n : Int) : List Int × Int := if (filV L ino).2 ≠ 0 then ([],(filV L ino).2) else if a < 0 ∨ n < 0 ∨ 1024 < n then ([],15) else (rdL L ino (cutV a (min n ((filV L ino).1.s - a))),0)
def wriV (L : List Pr) (ino a : Int) (b : List Int) : Int × List Wrt := if (filV L ino).2 ≠ 0 then ((filV L ino).2,[]) else if a < 0 ∨ 1024 < b.length then (15,[]) else if 4096 - (b.length : Int) < a then (19,[]) else if b.length = 0 then (0,[]) else (0,wrPs ino b (cutV a b.length) ++ [saveP ino (filV L ino).1.k (filV L ino).1.l (max (filV L ino).1.s (a + b.length)) (filV L ino).1.p])
def truV (L : List Pr) (ino z : Int) : Int × List Wrt := if (filV L ino).2 ≠ 0 then ((filV L ino).2,[]) else if z < 0 then (15,[]) else if 4096 < z then (19,[]) else (0,drpPs L ino (blkN z) ++ (shoPs (outV L (drpPs L ino (blkN z))) ino z ++ [saveP ino (filV L ino).1.k (filV L ino).1.l z (filV L ino).1.p]))
where
 outV (L : List Pr) : List Wrt → List Pr
 | [] => L
 | p :: ps => outV (doneW L (p L)) ps
end Go.Proofs.YtogdjbhjgbnicaaGreatDoor.FileV
set_option maxHeartbeats 16000000
set_option maxRecDepth 100000
namespace Go.Proofs.YtogdjbhjgbnicaaGreatDoor.FileK
open Go.RowKit
open Byte KeysM TreeM ViewM NodeM NodeG NodeK WalkM WalkF WalkKm DirsV FileM FileV Lst Chg TreeL ViewL WalkL WalkV Vat WalkKa WalkKb DirsK
open Own hiding keeps
variable {Rep : RepT}
theorem room_calls (b : Bool) (w : World) : Calls Tryz.prog 107 #[.bool b] w fun e w' => e = .returned (.int .i64 (if b then 0 else 21)) ∧ w = w' := by
 cases b
 all_goals
  go_enter Tryz.func107,Tryz.ntmps107
  go_wp2_with fail
  go_ret
  exact ⟨rfl,rfl⟩
def FilV (L : List Pr) (ino : Int) : Value := .tuple #[.agg #[.int .u8 (filV L ino).1.k,.int .u32 (filV L ino).1.l,.int .u32 (filV L ino).1.s,.int .u32 (filV L ino).1.p],.int .i64 (filV L ino).2]
theorem load_calls (hW : Wk Rep) {w : World} {v : Value} {s : Vs} {S D : Nat → Prop} (ino : Int) (hr : Rep w v s S D) (hl : Lim s) (h0 : 0 ≤ ino) (h1 : ino ≤ 4294967295) :
 Calls Tryz.prog 105 #[v,.int .u32 ino] w (WalkL.Stepped Rep v (s.read (kI ino)) (FilV s.shown ino) S D w) := by
 have R0 := hQ_ (Blk.new_ w #[.int .u8 0,.int .u32 0,.int .u32 0,.int .u32 0] 46)
 have hb0 := bX_ R0.out
 have A0 := hQ_ ((At.start hr).own hW.stays hb0 (Nat.le_refl _) (by simp))
 have HS := hQ_ hW.stays
 have HLD := hQ_ (fun (w1 : World) (S1 D1 : Nat → Prop) (hr1 : Rep w1 v s S1 D1) => WalkKa.load_calls hW.stays hW.get hW.small ino hr1 hl h0 h1)
 unfold LoadV at HLD
 unfold FilV filV
 clear hb0 hr
 generalize (loadM s.shown ino).2 = bb at *
 generalize (loadM s.shown ino).1 = xx at *
 obtain ⟨xk,xl,xz,xp⟩ := xx
 dsimp only at HLD ⊢
 clear hl
 cases bb with
 | false =>
   rw [if_neg (by rintro ⟨h,_⟩; cases h)]
   dsimp only [ino0]
   go_enter Tryz.func105,Tryz.ntmps105
   go_wp2_with fail
   refine (HLD.out _ _ _ A0.out.rep).mono ?_
   rintro e w1 ⟨S1,D1,rfl,hr1,st1⟩
   have hbn := bN_ w1 (.cells #[.int .u8 xk,.int .u32 xl,.int .u32 xz,.int .u32 xp] 46)
   have A1 := hQ_ ((A0.out.step HS.out hr1 st1).below HS.out hbn)
   have R1 := hQ_ ((A0.out.blk HS.out R0.out (.inr rfl) st1).below hbn)
   clear hr1 st1 hbn
   go_wp2_with ((with_reducible refine pick none ?_); refine store_blk rfl 46 _ _ rfl w.heap.size #[.int .u8 0,.int .u32 0,.int .u32 0,.int .u32 0] rfl rfl 46 _ R1.out info_ino rfl (by simp [Value.oneCell']) ?_; intro w5 hk5 hg5)
   have A5 := A1.out.stored HS.out R1.out (.inr rfl) (by decide) hg5
   exact bodyPost_ret (v := .tuple #[.agg #[.int .u8 0,.int .u32 0,.int .u32 0,.int .u32 0],.int .i64 16]) (results_row_tmp rfl _ _ w.heap.size 46 _ (0,0) _ rfl _ rfl hk5 Tryz.underlying46 rfl info_ino) rfl ⟨S1,D1,rfl,A5.rep,A5.st⟩
 | true =>
   by_cases hk : xk = 1
   ·subst hk
    rw [if_pos ⟨rfl,rfl⟩]
    dsimp only
    go_enter Tryz.func105,Tryz.ntmps105
    go_wp2_with fail
    refine (HLD.out _ _ _ A0.out.rep).mono ?_
    rintro e w1 ⟨S1,D1,rfl,hr1,st1⟩
    have hbn := bN_ w1 (.cells #[.int .u8 1,.int .u32 xl,.int .u32 xz,.int .u32 xp] 46)
    have A1 := hQ_ ((A0.out.step HS.out hr1 st1).below HS.out hbn)
    have R1 := hQ_ ((A0.out.blk HS.out R0.out (.inr rfl) st1).below hbn)
    clear hr1 st1 hbn
    go_wp2_with ((with_reducible refine pick none ?_); refine store_blk rfl 46 _ _ rfl w.heap.size #[.int .u8 1,.int .u32 xl,.int .u32 xz,.int .u32 xp] rfl rfl 46 _ R1.out info_ino rfl (by simp [Value.oneCell']) ?_; intro w5 hk5 hg5)
    have A5 := A1.out.stored HS.out R1.out (.inr rfl) (by decide) hg5
    exact bodyPost_ret (v := .tuple #[.agg #[.int .u8 1,.int .u32 xl,.int .u32 xz,.int .u32 xp],.int .i64 0]) (results_row_tmp rfl _ _ w.heap.size 46 _ (0,0) _ rfl _ rfl hk5 Tryz.underlying46 rfl info_ino) rfl ⟨S1,D1,rfl,A5.rep,A5.st⟩
   ·rw [if_neg (fun h => hk h.2)]
    dsimp only [ino0]
    have d1 : (xk != 1) = true := by simpa using hk
    go_enter Tryz.func105,Tryz.ntmps105
    go_wp2_with fail
    refine (HLD.out _ _ _ A0.out.rep).mono ?_
    rintro e w1 ⟨S1,D1,rfl,hr1,st1⟩
    have hbn := bN_ w1 (.cells #[.int .u8 xk,.int .u32 xl,.int .u32 xz,.int .u32 xp] 46)
    have A1 := hQ_ ((A0.out.step HS.out hr1 st1).below HS.out hbn)
    have R1 := hQ_ ((A0.out.blk HS.out R0.out (.inr rfl) st1).below hbn)
    clear hr1 st1 hbn hk
    go_wp2_with ((with_reducible refine pick none ?_); refine store_blk rfl 46 _ _ rfl w.heap.size #[.int .u8 0,.int .u32 0,.int .u32 0,.int .u32 0] rfl rfl 46 _ R1.out info_ino rfl (by simp [Value.oneCell']) ?_; intro w5 hk5 hg5)
    have A5 := A1.out.stored HS.out R1.out (.inr rfl) (by decide) hg5
    exact bodyPost_ret (v := .tuple #[.agg #[.int .u8 0,.int .u32 0,.int .u32 0,.int .u32 0],.int .i64 16]) (results_row_tmp rfl _ _ w.heap.size 46 _ (0,0) _ rfl _ rfl hk5 Tryz.underlying46 rfl info_ino) rfl ⟨S1,D1,rfl,A5.rep,A5.st⟩
end Go.Proofs.YtogdjbhjgbnicaaGreatDoor.FileK
namespace Go.Proofs.YtogdjbhjgbnicaaGreatDoor.Cpy
open Go.RowKit Go.Lib
open Byte PackM Own
def u8A (l : List Int) : Array Value := (l.map (Value.int .u8)).toArray
theorem u8A_size (l : List Int) : (u8A l).size = l.length := by simp [u8A]
theorem u8A_all (l : List Int) : (u8A l).all (·.oneCell') = true := by
 simp [u8A,Value.oneCell']
abbrev Z64 : Array Value := #[.int .u8 0,.int .u8 0,.int .u8 0,.int .u8 0,.int .u8 0,.int .u8 0,.int .u8 0,.int .u8 0,.int .u8 0,.int .u8 0,.int .u8 0,.int .u8 0,.int .u8 0,.int .u8 0,.int .u8 0,.int .u8 0,.int .u8 0,.int .u8 0,.int .u8 0,.int .u8 0,.int .u8 0,.int .u8 0,.int .u8 0,.int .u8 0,.int .u8 0,.int .u8 0,.int .u8 0,.int .u8 0,.int .u8 0,.int .u8 0,.int .u8 0,.int .u8 0,.int .u8 0,.int .u8 0,.int .u8 0,.int .u8 0,.int .u8 0,.int .u8 0,.int .u8 0,.int .u8 0,.int .u8 0,.int .u8 0,.int .u8 0,.int .u8 0,.int .u8 0,.int .u8 0,.int .u8 0,.int .u8 0,.int .u8 0,.int .u8 0,.int .u8 0,.int .u8 0,.int .u8 0,.int .u8 0,.int .u8 0,.int .u8 0,.int .u8 0,.int .u8 0,.int .u8 0,.int .u8 0,.int .u8 0,.int .u8 0,.int .u8 0,.int .u8 0]
theorem cells_txt (t : ByteArray) : byteCells t.data.toList = (txt t).map (Value.int .u8) := by
 unfold byteCells txt
 rw [List.map_map]
 rfl
theorem wpList_copy_str {P : Program} {w : World} {ops : Array Oper} {rest : List Oper} {o : Oper} {a : Act} {Q : Exit → Act → World → Prop} (hgd : o.guard = none) (d s : Operand) (dT sT : TypeId)
 (ho : o.op = .call { callee := .builtin .copy,args := #[d,s],argTypes := #[dT,sT] }) (elem : TypeId) (hu : P.underlying dT = some (.slice elem)) (hsz : (P.info? elem).map (·.size) = some 1)
 (g n c : Nat) (t : ByteArray) (hd : a.eval d = .slice (some ⟨g,0,none⟩) n c) (hs : a.eval s = .string t) (cur : List Int) (T : TypeId) (hg : Blk w g (u8A cur) T) (hle : t.size ≤ n) (hfit : t.size ≤ cur.length)
 (h : ∀ w',Blk w' g (u8A (txt t ++ cur.drop t.size)) T → w.grownBy w' (some g) → wpList P ops Q rest (a.put o.dst (goInt t.size)) w') : wpList P ops Q (o :: rest) a w := by
 refine wpList_plain hgd fun K hK => ?_
 have hrun := run_copy_row_string (P := P) w dT sT o.type elem g 0 n c t (u8A cur) T hu hsz hg hle (by rw [u8A_size]; omega)
 have e : ((u8A cur).toList.take 0 ++ byteCells t.data.toList ++ (u8A cur).toList.drop (0 + t.size)).toArray = u8A (txt t ++ cur.drop t.size) := by
  unfold u8A
  rw [cells_txt,List.take_zero,List.nil_append,Nat.zero_add,List.map_append,List.map_drop]
 rw [e] at hrun
 unfold Oper.wp
 simp [execOp,ho,resolve,invoke,builtin,hd,hs,hrun,Result.andThen]
 exact hK _ _ (h _ (setRow_heap w g (u8A cur) _ T (0,0) hg) (grown_setRow w g _))
def sp_ (l xs : List Int) (f : Nat) : List Int := l.take f ++ (xs ++ l.drop (f + xs.length))
theorem wpList_copy_row {P : Program} {w : World} {ops : Array Oper} {rest : List Oper} {o : Oper} {a : Act} {Q : Exit → Act → World → Prop} (hgd : o.guard = none) (d s : Operand) (dT sT : TypeId)
 (ho : o.op = .call { callee := .builtin .copy,args := #[d,s],argTypes := #[dT,sT] }) (elem : TypeId) (hu : P.underlying dT = some (.slice elem)) (hsz : (P.info? elem).map (·.size) = some 1)
 (g f dLen dCap : Nat) (ad : Addr) (sLen sCap : Nat) (hd : a.eval d = .slice (some ⟨g,f,none⟩) dLen dCap) (hs : a.eval s = .slice (some ad) sLen sCap) (cur : List Int) (T : TypeId) (hg : Blk w g (u8A cur) T) (xs : List Int) (hn : xs.length = Nat.min sLen dLen)
 (hsrc : ∀ j x,xs[j]? = some x → w.cell? (ad.add j) = some (.int .u8 x)) (hfit : f + xs.length ≤ cur.length)
 (h : ∀ w',Blk w' g (u8A (sp_ cur xs f)) T → w.grownBy w' (some g) → wpList P ops Q rest (a.put o.dst (goInt xs.length)) w') : wpList P ops Q (o :: rest) a w := by
 refine wpList_plain hgd fun K hK => ?_
 have hrun := run_copy_row (P := P) w dT sT o.type elem g f dLen dCap ad sLen sCap (u8A cur) T (xs.map (Value.int .u8)) hu hsz hg (by rw [List.length_map]; exact hn) (fun j v hv => by
  rw [List.getElem?_map] at hv
  obtain ⟨x,hx,rfl⟩ := Option.map_eq_some_iff.1 hv
  exact hsrc j x hx) (by rw [List.length_map,u8A_size]; exact hfit) (fun v hv => by
  obtain ⟨x,_,rfl⟩ := List.mem_map.1 hv
  rfl)
 have e : ((u8A cur).toList.take f ++ xs.map (Value.int .u8) ++ (u8A cur).toList.drop (f + (xs.map (Value.int .u8)).length)).toArray = u8A (sp_ cur xs f) := by
  unfold u8A sp_
  rw [List.length_map,List.map_append,List.map_append,List.map_take,List.map_drop,List.append_assoc]
 rw [e,List.length_map] at hrun
 unfold Oper.wp
 simp [execOp,ho,resolve,invoke,builtin,hd,hs,hrun,Result.andThen]
 exact hK _ _ (h _ (setRow_heap w g (u8A cur) _ T (0,0) hg) (grown_setRow w g _))
section
variable {P : Program} {ops : Array Oper} {w : World} {Q : Act → Prop} {a : Act} {o : Oper} {rest : List Oper}
theorem sr_val (v : Value) (hw : Region.wanted o (yielded ops a.tmps) = true) (hr : (execOp a.eval o).run P w = .ok (.value v) w) (h : wpStill P ops w Q rest (a.put o.dst v)) : wpStill P ops w Q (o :: rest) a :=
 wpStill_step fun K hK => by
  rw [if_pos hw]
  unfold Oper.still
  rw [hr,Oper.stillUpon_value]
  exact hK _ h
theorem sr_move (x : Operand) (ho : o.op = .move x) (hw : Region.wanted o (yielded ops a.tmps) = true) (v : Value) (hx : a.eval x = v) (h : wpStill P ops w Q rest (a.put o.dst v)) : wpStill P ops w Q (o :: rest) a :=
 sr_val v hw (by unfold execOp; rw [ho]; simp only [hx,Sem.run_pure]) h
theorem sr_slice (t : TypeId) (x : Operand) (lo hi mx : Option Operand) (ho : o.op = .slice t x lo hi mx) (hw : Region.wanted o (yielded ops a.tmps) = true) (r : Value) (hr : (Instr.sliceAt t (a.eval x) (lo.map a.eval) (hi.map a.eval) (mx.map a.eval)).run P w = .ok r w) (h : wpStill P ops w Q rest (a.put o.dst r)) : wpStill P ops w Q (o :: rest) a :=
 sr_val r hw (by unfold execOp; rw [ho]; simp only [Sem.run_bind,hr,Result.andThen_ok,Sem.run_pure]) h
end
end Go.Proofs.YtogdjbhjgbnicaaGreatDoor.Cpy
namespace Go.Proofs.YtogdjbhjgbnicaaGreatDoor.FileKa
open Go.RowKit
open Byte PackM KeysM KeysL KeysC TreeM TreeR ViewM NodeM WalkM WalkF WalkKm DirsV FileM FileV Lst Chg TreeL ViewL WalkL WalkV Vat DirsK Cpy
open Own hiding keeps
variable {Rep : RepT}
theorem info64 : (Tryz.prog.info? 184).map (·.size) = some 64 := by kernel_rfl
theorem kd_size (ino n : Int) : (kD ino n).size ≤ 100 := by
 unfold kD
 split
 ·decide
 ·rw [ByteArray.size_append,ks_size,str_size]
  simp
theorem got_val (q : Option Pr) : ∃ t b,GotV q = .tuple #[.string t,.bool b] ∧ valL (q.map (·.value)) = txt t := by
 cases q with
 | none => exact ⟨⟨#[]⟩,false,rfl,rfl⟩
 | some p => exact ⟨p.value,true,rfl,rfl⟩
theorem pad_app {l : List Int} (h : l.length ≤ 64) : l ++ (List.replicate 64 (0 : Int)).drop l.length = pad 64 l := by
 unfold pad
 rw [List.drop_replicate,List.take_append,List.take_of_length_le h,List.take_replicate]
 congr 2
 omega
def BlkV (l : List Int) : Value := .agg (u8A l)
theorem get_calls (hW : Wk Rep) (hK : LookOk Rep) {w : World} {v : Value} {s : Vs} {S D : Nat → Prop} (ino which : Int) (hr : Rep w v s S D) (hl : Lim s) (h0 : 0 ≤ ino) (h1 : ino ≤ 4294967295) (w0 : 0 ≤ which) (w1 : which ≤ 65535) (hv : (valL ((getL (kD ino which) s.shown).map (·.value))).length ≤ 64) :
 Calls Tryz.prog 129 #[v,.int .u32 ino,.int .i64 which] w (WalkL.Stepped Rep v s (BlkV (getB s.shown ino which)) S D w) := by
 unfold getB BlkV
 obtain ⟨t,b,e1,e2⟩ := got_val (getL (kD ino which) s.shown)
 rw [e2] at hv ⊢
 rw [txt_len] at hv
 have HP : Hid (txt t ++ (List.replicate 64 (0 : Int)).drop t.size = pad 64 (txt t)) := hQ_ (by rw [← txt_len]; exact pad_app (by rw [txt_len]; exact hv))
 have HLK := hQ_ (fun (w1 : World) (S1 D1 : Nat → Prop) (hr1 : Rep w1 v s S1 D1) => hK (kD ino which) hr1 hl (by have := kd_size ino which; omega))
 rw [e1] at HLK
 have HB := hQ_ (fun w => block_calls ino which w h0 h1 (by omega) (by omega))
 have HS := hQ_ hW.stays
 have hb0 : Below w.heap.size w ((w.alloc (.cells Z64 184)).alloc (.cells Z64 184)) := (bW_).alloc (by simp) _
 have A0 := hQ_ ((At.start hr).owns hW.stays hb0 (Q := fun b => b = w.heap.size ∨ b = w.heap.size + 1) (by rintro b (rfl | rfl) <;> simp <;> omega))
 have R0 : Hid (Blk ((w.alloc (.cells Z64 184)).alloc (.cells Z64 184)) w.heap.size (u8A (List.replicate 64 0)) 184) := hQ_ ((Blk.new_ w Z64 _).alloc _)
 have R1 : Hid (Blk ((w.alloc (.cells Z64 184)).alloc (.cells Z64 184)) (w.heap.size + 1) (u8A (List.replicate 64 0)) 184) := hQ_ (by
  have := Blk.new_ (w.alloc (.cells Z64 184)) Z64 184
  rw [show (w.alloc (.cells Z64 184)).heap.size = w.heap.size + 1 by simp] at this
  exact this)
 have HTS := hQ_ hv
 have HI : Hid (∀ l : List Int,l.length = 64 → (Tryz.prog.info? 184).map (·.size) = some (u8A l).size) := hQ_ (fun l hl => by rw [u8A_size,hl]; exact info64)
 clear hr hl hW hK hb0 e1 e2 hv h0 h1 w0 w1
 go_enter Tryz.func129,Tryz.ntmps129
 go_wp2_with fail
 refine (HB.out _).mono ?_
 rintro e w2 ⟨rfl,hb2⟩
 have A2 := hQ_ (A0.out.below HS.out hb2)
 have R02 := hQ_ (R0.out.below hb2)
 have R12 := hQ_ (R1.out.below hb2)
 clear hb2
 go_wp2_with fail
 refine (HLK.out _ _ _ A2.out.rep).mono ?_
 rintro e w3 ⟨S3,D3,rfl,hr3,st3⟩
 have A3 := hQ_ (A2.out.step HS.out hr3 st3)
 have R03 := hQ_ (A2.out.blk HS.out R02.out (.inr (.inl rfl)) st3)
 have R13 := hQ_ (A2.out.blk HS.out R12.out (.inr (.inr rfl)) st3)
 clear hr3 st3
 go_wp2_with (first
  | ((with_reducible refine pick (some 20) ?_); refine wpList_copy_str rfl _ _ 39 9 rfl 5 Tryz.underlying39 (by kernel_rfl) (w.heap.size + 1) 64 64 t rfl rfl (List.replicate 64 0) 184 R13.out HTS.out HTS.out ?_; rw [HP.out]; intro w4 hk4 hg4)
  | ((with_reducible refine pick (some 21) ?_); refine load_blk rfl 184 _ rfl (w.heap.size + 1) rfl 184 _ _ hk4 Tryz.underlying184 rfl (HI.out _ (pad_len _ _)) ?_)
  | ((with_reducible refine pick none ?_); refine store_blk rfl 184 _ _ rfl w.heap.size (u8A (pad 64 (txt t))) rfl rfl 184 _ (R03.out.grown hg4 (by omega)) (HI.out _ (pad_len _ _)) (by rw [u8A_size,u8A_size,pad_len,List.length_replicate]) (u8A_all _) ?_; intro w5 hk5 hg5))
 have A4 := A3.out.stored HS.out R13.out (.inr (.inr rfl)) (by decide) hg4
 have A5 := A4.stored HS.out (R03.out.grown hg4 (by omega)) (.inr (.inl rfl)) (by decide) hg5
 exact bodyPost_ret (v := .agg (u8A (pad 64 (txt t)))) (results_cell_row rfl _ _ w.heap.size 184 _ (0,0) _ rfl hk5 Tryz.underlying184 rfl (HI.out _ (pad_len _ _))) rfl ⟨S3,D3,rfl,A5.rep,A5.st⟩
end Go.Proofs.YtogdjbhjgbnicaaGreatDoor.FileKa
namespace Go.Proofs.YtogdjbhjgbnicaaGreatDoor.FileY
open Go.Proofs
def trimLay_ren : Go.Shelf.Ren := ⟨fun | 7 => 155 | 10 => 167 | 11 => 168 | 13 => 169 | 15 => 170 | 16 => 177 | 19 => 178 | 18 => 179 | 21 => 188 | 17 => 189 | 20 => 195 | n => n,fun | 22 => 39 | 9 => 9 | 3 => 3 | 4 => 4 | 5 => 5 | 28 => 217 | 27 => 216 | 0 => 0 | 31 => 220 | 21 => 21 | 33 => 226 | 36 => 233 | 37 => 221 | 40 => 236 | 39 => 235 | n => n,fun | 0 => 1 | 1 => 2 | n => n⟩
theorem trimLay : Go.Proofs.SlLaysV.n7 Tryz.prog trimLay_ren := {
 mixed := by kernel_rfl,
 f7 := Tryz.func155.trans (congrArg some (by kernel_rfl)),
 f10 := Tryz.func167.trans (congrArg some (by kernel_rfl)),
 f11 := Tryz.func168.trans (congrArg some (by kernel_rfl)),
 f13 := Tryz.func169.trans (congrArg some (by kernel_rfl)),
 f15 := Tryz.func170.trans (congrArg some (by kernel_rfl)),
 f16 := Tryz.func177.trans (congrArg some (by kernel_rfl)),
 f17 := Tryz.func189.trans (congrArg some (by kernel_rfl)),
 f18 := Tryz.func179.trans (congrArg some (by kernel_rfl)),
 f19 := Tryz.func178.trans (congrArg some (by kernel_rfl)),
 f20 := Tryz.func195.trans (congrArg some (by kernel_rfl)),
 f21 := Tryz.func188.trans (congrArg some (by kernel_rfl)),
 t0 := Tryz.underlying0,
 a0 := Tryz.isAgg0,
 z0 := Tryz.sizeOf0,
 v0 := Tryz.zeroValue0,
 t3 := Tryz.underlying3,
 a3 := Tryz.isAgg3,
 z3 := Tryz.sizeOf3,
 v3 := Tryz.zeroValue3,
 t4 := Tryz.underlying4,
 a4 := Tryz.isAgg4,
 z4 := Tryz.sizeOf4,
 v4 := Tryz.zeroValue4,
 t5 := Tryz.underlying5,
 a5 := Tryz.isAgg5,
 z5 := Tryz.sizeOf5,
 v5 := Tryz.zeroValue5,
 t9 := Tryz.underlying9,
 a9 := Tryz.isAgg9,
 z9 := Tryz.sizeOf9,
 v9 := Tryz.zeroValue9,
 t21 := Tryz.underlying21,
 a21 := Tryz.isAgg21,
 z21 := Tryz.sizeOf21,
 v21 := Tryz.zeroValue21,
 t22 := Tryz.underlying39,
 a22 := Tryz.isAgg39,
 z22 := Tryz.sizeOf39,
 v22 := Tryz.zeroValue39,
 t27 := Tryz.underlying216,
 a27 := Tryz.isAgg216,
 z27 := Tryz.sizeOf216,
 t28 := Tryz.underlying217,
 a28 := Tryz.isAgg217,
 z28 := Tryz.sizeOf217,
 v28 := Tryz.zeroValue217,
 t31 := Tryz.underlying220,
 a31 := Tryz.isAgg220,
 z31 := Tryz.sizeOf220,
 v31 := Tryz.zeroValue220,
 t33 := Tryz.underlying226,
 a33 := Tryz.isAgg226,
 z33 := Tryz.sizeOf226,
 v33 := Tryz.zeroValue226,
 t36 := Tryz.underlying233,
 a36 := Tryz.isAgg233,
 z36 := Tryz.sizeOf233,
 t37 := Tryz.underlying221,
 a37 := Tryz.isAgg221,
 z37 := Tryz.sizeOf221,
 v37 := Tryz.zeroValue221,
 t39 := Tryz.underlying235,
 a39 := Tryz.isAgg235,
 z39 := Tryz.sizeOf235,
 v39 := Tryz.zeroValue235,
 t40 := Tryz.underlying236,
 a40 := Tryz.isAgg236,
 z40 := Tryz.sizeOf236,
 v40 := Tryz.zeroValue236 }
open Go.RowKit
open Byte PackM FileM
theorem cut0_rev : ∀ (l : List Int),cut0 l = (l.reverse.dropWhile (fun x => decide (x = 0))).reverse
 | [] => rfl
 | x :: r => by
   have ih := cut0_rev r
   rw [List.reverse_cons,List.dropWhile_append,cut0]
   cases h : cut0 r with
   | nil =>
     rw [h] at ih
     have e : r.reverse.dropWhile (fun x => decide (x = 0)) = [] := by
      have := congrArg List.reverse ih
      rw [List.reverse_reverse] at this
      exact this.symm
     rw [e]
     by_cases hx : x = 0
     ·simp [hx]
     ·simp [hx]
   | cons y q =>
     rw [h] at ih
     have e : r.reverse.dropWhile (fun x => decide (x = 0)) = (y :: q).reverse := by
      have := congrArg List.reverse ih
      rw [List.reverse_reverse] at this
      exact this.symm
     rw [e]
     simp
theorem drop_len : ∀ (l : List Int),(∀ x ∈ l,0 ≤ x ∧ x ≤ 255) → ((l.map fun n => UInt8.ofNat n.toNat).dropWhile (([0] : List UInt8).contains ·)).length = (l.dropWhile (fun x => decide (x = 0))).length
 | [],_ => rfl
 | x :: r,h => by
   have hx := h x (by simp)
   have e : ([0] : List UInt8).contains (UInt8.ofNat x.toNat) = decide (x = 0) := by
    by_cases h0 : x = 0
    ·subst h0; rfl
    ·rw [decide_eq_false h0]
     simp only [List.contains_cons,List.contains_nil,Bool.or_false,beq_eq_false_iff_ne]
     intro hc
     have := congrArg UInt8.toNat hc
     rw [UInt8.toNat_ofNat'] at this
     have h2 : x.toNat % 256 = 0 := this
     omega
   rw [List.map_cons,List.dropWhile_cons,List.dropWhile_cons,e]
   by_cases h0 : x = 0
   ·rw [decide_eq_true h0,if_pos rfl,if_pos rfl]
    exact drop_len r fun y hy => h y (by simp [hy])
   ·rw [decide_eq_false h0]
    simp
theorem trim_len {l : List Int} (h : ∀ x ∈ l,0 ≤ x ∧ x ≤ 255) : (Lib.trimRightS (Lib.bytesOf l) [0]).length = (cut0 l).length := by
 unfold Lib.trimRightS Lib.bytesOf
 rw [cut0_rev,List.length_reverse,List.length_reverse,← List.map_reverse]
 exact drop_len _ fun x hx => h x (by simpa using hx)
theorem cut0_take (l : List Int) : l.take (cut0 l).length = cut0 l := by
 obtain ⟨k,hk⟩ := cut0_spec l
 conv => lhs; arg 2; rw [hk]
 rw [List.take_left' rfl]
theorem trim_pos {w : World} {g n c : Nat} {xs : List Int} (h : Bs w (some ⟨g,0,none⟩) n xs) (hn : 0 < n) (hc : n ≤ c) (hbig : c ≤ 9223372036854775807) :
 Calls Tryz.prog 155 #[.slice (some ⟨g,0,none⟩) n c,.string ⟨#[0]⟩] w fun e w' => e = .returned (.slice (some ⟨g,0,none⟩) (cut0 xs).length c) ∧ w' = w := by
 have := Any.bytes_TrimRight_one trimLay (some ⟨g,0,none⟩) n c (Lib.bytesOf xs) 0 w (by unfold Lib.bytesOf; rw [List.length_map,h.1]) hc hbig (fun _ => ⟨g,0,rfl,fun i hi => by
  rw [h.at_ i hi]
  have hb := h.bd i
  unfold Lib.bytesOf
  have hl : i < xs.length := by rw [h.1]; exact hi
  rw [List.getD_eq_getElem?_getD,List.getD_eq_getElem?_getD,List.getElem?_map,List.getElem?_eq_getElem hl]
  rw [List.getD_eq_getElem?_getD,List.getElem?_eq_getElem hl] at hb
  dsimp only [Option.map_some,Option.getD_some] at hb ⊢
  rw [UInt8.toNat_ofNat']
  have : xs[i].toNat % 256 = xs[i].toNat := Nat.mod_eq_of_lt (by omega)
  rw [this,Int.toNat_of_nonneg hb.1]⟩) hn (by decide)
 rw [trim_len h.2.1] at this
 exact this
theorem trim_calls {w : World} {g n c : Nat} {xs : List Int} (h : Bs w (some ⟨g,0,none⟩) n xs) (hc : n ≤ c) (hbig : c ≤ 9223372036854775807) :
 Calls Tryz.prog 155 #[.slice (some ⟨g,0,none⟩) n c,.string ⟨#[0]⟩] w fun e w' => e = .returned (.slice (some ⟨g,0,none⟩) (cut0 xs).length c) ∧ w' = w := by
 by_cases hn : 0 < n
 ·exact trim_pos h hn hc hbig
 ·have h0 : n = 0 := by omega
  subst h0
  have hx : xs = [] := List.eq_nil_of_length_eq_zero h.1
  subst hx
  exact Any.bytes_TrimRight_empty trimLay (some ⟨g,0,none⟩) 0 c ⟨#[0]⟩ w (.inl rfl)
end Go.Proofs.YtogdjbhjgbnicaaGreatDoor.FileY
namespace Go.Proofs.YtogdjbhjgbnicaaGreatDoor.FileKb
open Go.RowKit
open Byte PackM KeysM KeysL KeysC KeysB TreeM TreeR ViewM NodeM WalkM WalkF WalkKm DirsV FileM FileV Lst Chg TreeL ViewL WalkL WalkV Vat DirsK FileKa FileY
open Own hiding keeps
variable {Rep : RepT}
theorem put_calls (hW : Wk Rep) (hT : SetOk Rep) {w : World} {v : Value} {s : Vs} {S D : Nat → Prop} (ino which : Int) {g n c : Nat} {xs : List Int} (hr : Rep w v s S D) (hl : Lim s) (h0 : 0 ≤ ino) (h1 : ino ≤ 4294967295) (w0 : 0 ≤ which) (w1 : which ≤ 65535) (hx : Bs w (some ⟨g,0,none⟩) n xs) (hc : n ≤ c) (hbig : c ≤ 9223372036854775807) (hn : n ≤ 100000) :
 Calls Tryz.prog 130 #[v,.int .u32 ino,.int .i64 which,.slice (some ⟨g,0,none⟩) n c] w (Wrote Rep v s [putP ino which xs] 0 0 S D w) := by
 have HB := hQ_ (fun w => block_calls ino which w h0 h1 (by omega) (by omega))
 have HTR := hQ_ (fun (w1 : World) (h : Bs w1 (some ⟨g,0,none⟩) n xs) => trim_calls h hc hbig)
 have HCV := hQ_ (fun (w1 : World) (h : Bs w1 (some ⟨g,0,none⟩) n xs) => conv_front (cap := c) h (cut0 xs).length (by have := cut0_len xs; have := h.1; omega) (s := str (cut0 xs)) (by rw [cut0_take]))
 have HS := hQ_ hW.stays
 have A0 := hQ_ (At.start hr)
 have HX := hQ_ hx
 have hks := kd_size ino which
 have HP : Hid (putP ino which xs s.shown = ⟨kD ino which,str (cut0 xs),decide (cut0 xs = [])⟩) := hQ_ rfl
 by_cases he : cut0 xs = []
 ·have HCT := hQ_ (fun (w1 : World) (S1 D1 : Nat → Prop) (hr1 : Rep w1 v s S1 D1) => hW.cut (kD ino which) hr1 hl (by omega))
  have HQ : Hid (putP ino which xs s.shown = ⟨kD ino which,⟨#[]⟩,true⟩) := hQ_ (by rw [HP.out,he]; rfl)
  rw [he] at HTR HCV
  have e0 : str ([] : List Int) = ⟨#[]⟩ := rfl
  rw [e0] at HCV
  dsimp only [List.length_nil] at HTR HCV
  clear hr hl hW hx he HP hks e0
  go_enter Tryz.func130,Tryz.ntmps130
  go_wp2_with fail
  refine (HB.out _).mono ?_
  rintro e w2 ⟨rfl,hb2⟩
  have A2 := hQ_ (A0.out.below HS.out hb2)
  have X2 := hQ_ (HX.out.below hb2)
  clear hb2
  have ct := HCV.out _ X2.out
  go_wp2_with fail
  refine (HTR.out _ X2.out).mono ?_
  rintro e w3 ⟨rfl,rfl⟩
  go_wp2_with fail
  refine (HCT.out _ _ _ A2.out.rep).mono ?_
  rintro e w4 ⟨S4,D4,rfl,hr4,st4⟩
  have A4 := hQ_ (A2.out.step HS.out hr4 st4)
  clear st4 hr4
  go_wp2_with fail
  go_ret
  exact wrote_one HQ.out (Sm.refl s) (Nat.le_refl _) (Nat.le_refl _) A4.out.rep A4.out.st
 ·have HST := hQ_ (fun (w1 : World) (S1 D1 : Nat → Prop) (hr1 : Rep w1 v s S1 D1) => hT (kD ino which) (str (cut0 xs)) hr1 hl (by omega) (by rw [str_size]; have := cut0_len xs; have := hx.1; omega))
  have HQ : Hid (putP ino which xs s.shown = ⟨kD ino which,str (cut0 xs),false⟩) := hQ_ (by rw [HP.out,decide_eq_false he])
  have d1 : (str (cut0 xs)).toList.isEmpty = false := by
   rw [List.isEmpty_eq_false_iff]
   intro h
   have h2 := congrArg List.length h
   rw [ByteArray.toList_eq] at h2
   have hz : (str (cut0 xs)).data.toList.length = (str (cut0 xs)).size := by rw [Array.length_toList]; rfl
   rw [hz] at h2
   have h3 : (str (cut0 xs)).size = 0 := h2
   rw [str_size] at h3
   exact he (List.eq_nil_of_length_eq_zero h3)
  generalize str (cut0 xs) = z at *
  clear hr hl hW hx he HP hks
  go_enter Tryz.func130,Tryz.ntmps130
  go_wp2_with fail
  refine (HB.out _).mono ?_
  rintro e w2 ⟨rfl,hb2⟩
  have A2 := hQ_ (A0.out.below HS.out hb2)
  have X2 := hQ_ (HX.out.below hb2)
  clear hb2
  have ct := HCV.out _ X2.out
  go_wp2_with fail
  refine (HTR.out _ X2.out).mono ?_
  rintro e w3 ⟨rfl,rfl⟩
  go_wp2_with fail
  refine (HST.out _ _ _ A2.out.rep).mono ?_
  rintro e w4 ⟨S4,D4,rfl,hr4,st4⟩
  have A4 := hQ_ (A2.out.step HS.out hr4 st4)
  clear st4 hr4
  go_wp2_with fail
  go_ret
  exact wrote_one HQ.out (Sm.refl s) (Nat.le_refl _) (Nat.le_refl _) A4.out.rep A4.out.st
end Go.Proofs.YtogdjbhjgbnicaaGreatDoor.FileKb
namespace Go.Proofs.YtogdjbhjgbnicaaGreatDoor.FileKc
open Go.RowKit
open Byte PackM KeysM KeysL KeysC KeysB TreeM TreeR ViewM NodeM WalkM WalkF WalkKm DirsV FileM FileV Lst Chg TreeL ViewL WalkL WalkV Vat DirsK FileKa FileKb ConvS
open Own hiding keeps
variable {Rep : RepT}
theorem str_txt (t : ByteArray) : str (txt t) = t := by
 have h : (str (txt t)).data = t.data := by
  unfold str txt
  apply Array.toList_inj.1
  rw [List.map_map]
  show (List.map _ t.data.toList).toArray.toList = _
  rw [List.toList_toArray]
  conv => rhs; rw [← List.map_id t.data.toList]
  refine List.map_congr_left fun b _ => ?_
  show UInt8.ofNat ((b.toNat : Int).toNat) = b
  rw [Int.toNat_natCast]
  exact UInt8.ofNat_toNat
 cases t
 exact congrArg ByteArray.mk h
theorem conv_bs (w : World) (t : ByteArray) (hn : t.size ≤ 100000) : ∃ cap w',(convert 9 39 (.string t)).run Tryz.prog w = .ok (.slice (some ⟨w.heap.size,0,none⟩) t.size cap) w' ∧ Bs w' (some ⟨w.heap.size,0,none⟩) t.size (txt t) ∧ t.size ≤ cap ∧ cap ≤ 9223372036854775807 ∧ Below w.heap.size w w' := by
 obtain ⟨cap,w',h1,h2,h3⟩ := conv_fresh (P := Tryz.prog) w 9 39 5 (txt t) t.size (txt_len t) (txt_bd t) Tryz.underlying9 Tryz.underlying39 Tryz.underlying5
 rw [str_txt] at h1
 have h4 := run_bytes_of_string (P := Tryz.prog) w 9 39 5 t Tryz.underlying9 Tryz.underlying39 Tryz.underlying5
 rw [h1] at h4
 have hc : cap = grownCap w t.size 0 5 := by
  simp only [Result.ok.injEq,Value.slice.injEq] at h4
  exact h4.1.2.2
 refine ⟨cap,w',h1,h2.bs,h2.fit,?_,h3⟩
 rw [hc]
 have e : maxLen = 9223372036854775807 := by decide
 have := grownCap_le_maxLen w t.size 0 5 (by rw [e]; omega)
 rw [e] at this
 exact this
theorem shorten_calls (hW : Wk Rep) (hK : LookOk Rep) (hT : SetOk Rep) {w : World} {v : Value} {s : Vs} {S D : Nat → Prop} (ino size : Int) (hr : Rep w v s S D) (hl : Lim s) (h0 : 0 ≤ ino) (h1 : ino ≤ 4294967295) (z0 : 0 ≤ size) (z1 : size ≤ 4096) (hv : (valB s.shown ino (size / 64)).length ≤ 64) :
 Calls Tryz.prog 111 #[v,.int .u32 ino,.int .i64 size] w (Wrote Rep v s (shoPs s.shown ino size) 0 0 S D w) := by
 obtain ⟨q,hq⟩ : ∃ q : Nat,size / 64 = (q : Int) := ⟨(size / 64).toNat,by omega⟩
 obtain ⟨m,hm⟩ : ∃ m : Nat,size % 64 = (m : Int) := ⟨(size % 64).toNat,by omega⟩
 have hqt : size.tdiv 64 = (q : Int) := by rw [Int.tdiv_eq_ediv_of_nonneg z0,hq]
 have hmt : size.tmod 64 = (m : Int) := by rw [Int.tmod_eq_emod_of_nonneg z0,hm]
 have hwq : wrap64 (q : Int) = (q : Int) := by unfold wrap64; omega
 unfold shoPs
 rw [hq] at hv ⊢
 rw [hm]
 rw [Int.toNat_natCast]
 unfold valB at hv ⊢
 obtain ⟨t,b,e1,e2⟩ := got_val (getL (kD ino q) s.shown)
 rw [e2] at hv ⊢
 rw [txt_len] at hv ⊢
 have HLK := hQ_ (fun (w1 : World) (S1 D1 : Nat → Prop) (hr1 : Rep w1 v s S1 D1) => hK (kD ino q) hr1 hl (by have := kd_size ino q; omega))
 rw [e1] at HLK
 have HB := hQ_ (fun w => block_calls ino q w h0 h1 (by omega) (by omega))
 have HS := hQ_ hW.stays
 have A0 := hQ_ (At.start hr)
 by_cases hlt : t.size ≤ m
 ·rw [if_pos hlt]
  have d1 : ((t.size : Int) ≤ (m : Int)) = True := by simpa using hlt
  have d2 : (t.size ≤ m) = True := by simpa using hlt
  clear hr hl hW hK hT e1 e2 hv h0 h1 z0 z1 hq hm
  go_enter Tryz.func111,Tryz.ntmps111
  go_wp2_with fail
  refine (HB.out _).mono ?_
  rintro e w2 ⟨rfl,hb2⟩
  have A2 := hQ_ (A0.out.below HS.out hb2)
  clear hb2
  go_wp2_with fail
  refine (HLK.out _ _ _ A2.out.rep).mono ?_
  rintro e w3 ⟨S3,D3,rfl,hr3,st3⟩
  have A3 := hQ_ (A2.out.step HS.out hr3 st3)
  clear hr3 st3
  go_wp2_with fail
  go_ret
  exact ⟨s,S3,D3,rfl,A3.out.rep,A3.out.st,Aft.nil (Sm.refl s) (Nat.le_refl _) (Nat.le_refl _)⟩
 ·rw [if_neg hlt]
  have d1 : ((t.size : Int) ≤ (m : Int)) = False := by simpa using hlt
  have d2 : (t.size ≤ m) = False := by simpa using hlt
  have f1 : ¬ ((t.size : Int) < (m : Int)) := by omega
  have hsz : (t.extract 0 m).size = m := by rw [ByteArray.size_extract]; omega
  have HCV := hQ_ (fun w => conv_bs w (t.extract 0 m) (by omega))
  have HPT := hQ_ (fun (w1 : World) (S1 D1 : Nat → Prop) (g c : Nat) (hr1 : Rep w1 v s S1 D1) (hx : Bs w1 (some ⟨g,0,none⟩) m ((txt t).take m)) (hc : m ≤ c) (hbig : c ≤ 9223372036854775807) => put_calls hW hT ino q hr1 hl h0 h1 (by omega) (by omega) hx hc hbig (by omega))
  rw [txt_take,hsz] at HCV
  clear hr hl hW hK hT e1 e2 hv h0 h1 z0 z1 hq hm
  go_enter Tryz.func111,Tryz.ntmps111
  go_wp2_with fail
  refine (HB.out _).mono ?_
  rintro e w2 ⟨rfl,hb2⟩
  have A2 := hQ_ (A0.out.below HS.out hb2)
  clear hb2
  go_wp2_with fail
  refine (HLK.out _ _ _ A2.out.rep).mono ?_
  rintro e w3 ⟨S3,D3,rfl,hr3,st3⟩
  have A3 := hQ_ (A2.out.step HS.out hr3 st3)
  clear hr3 st3
  obtain ⟨cap,w4,hrun,hx4,hc4,hb4,hbl⟩ := HCV.out w3
  have A4 := hQ_ (A3.out.below HS.out hbl)
  have X4 := hQ_ hx4
  clear hx4 hbl
  go_wp2_with fail
  refine (HPT.out _ _ _ _ _ A4.out.rep X4.out hc4 hb4).mono ?_
  rintro e w5 ⟨s5,S5,D5,rfl,hr5,st5,af5⟩
  have A5 := hQ_ (A4.out.step HS.out hr5 st5)
  clear hr5 st5
  go_wp2_with fail
  go_ret
  exact ⟨s5,S5,D5,rfl,A5.out.rep,A5.out.st,af5⟩
end Go.Proofs.YtogdjbhjgbnicaaGreatDoor.FileKc
namespace Go.Proofs.YtogdjbhjgbnicaaGreatDoor.FileKd
open Go.RowKit
open Byte PackM KeysM KeysL TreeR ViewM NodeM NodeL NodeK WalkM WalkF WalkKm DirsV FileM FileV Lst Chg TreeL ViewL WalkL WalkV Vat DirsK Cpy FileKa FileKb
open TreeM hiding cutL
open Own hiding keeps
variable {Rep : RepT}
def u8E : Enc Int := ⟨fun x => [.int .u8 x],1,fun _ => rfl,fun x u hu => by
 rw [List.mem_singleton.1 hu]; rfl,by decide⟩
theorem info_u8 : (Tryz.prog.info? 5).map (fun i => (i.zero,i.size,i.bytes)) = some (some (.int .u8 0),u8E.size,1) := by kernel_rfl
structure PcOk (p : Int × Int × Int) : Prop where
 b0 : 0 ≤ p.1
 b1 : p.1 ≤ 63
 f0 : 0 ≤ p.2.1
 m0 : 1 ≤ p.2.2
 m1 : p.2.1 + p.2.2 ≤ 64
theorem cuts_ok : ∀ (f : Nat) {a n : Int},0 ≤ a → a + n ≤ 4096 → ∀ p ∈ cuts f a n,PcOk p
 | 0,a,n,_,_,p,hp => by cases hp
 | f + 1,a,n,ha,hn,p,hp => by
   unfold cuts at hp
   split at hp
   ·cases hp
   ·rcases List.mem_cons.1 hp with rfl | hp
    ·exact ⟨by show 0 ≤ a / 64; omega,by show a / 64 ≤ 63; omega,by show 0 ≤ a % 64; omega,by show 1 ≤ min n (64 - a % 64); omega,by show a % 64 + min n (64 - a % 64) ≤ 64; omega⟩
    ·exact cuts_ok f (by omega) (by omega) p hp
theorem cutL_ok {a n : Int} : ∀ p ∈ cutL a n,PcOk p := fun p hp => by
 unfold cutL at hp
 split at hp
 ·cases hp
 ·exact cuts_ok _ (by omega) (by omega) p hp
theorem cutL_len (a n : Int) : (cutL a n).length ≤ 4096 := by
 unfold cutL
 split
 ·exact Nat.zero_le _
 ·exact Nat.le_trans (cuts_len _ _ _) (by omega)
theorem rdL_next (L : List Pr) (ino : Int) {P : List (Int × Int × Int)} {k : Nat} {p : Int × Int × Int} (h : P[k]? = some p) : rdL L ino (P.take k) ++ pcB L ino p = rdL L ino (P.take (k + 1)) := by
 unfold rdL
 rw [List.take_add_one,h,Option.toList_some,List.flatMap_append,List.flatMap_singleton]
theorem tr_cells {w : World} {b o : Nat} {x : Int × Int × Int} (h : w.rangeAt b o (trE.cells x)) : w.cell? ⟨b,o,none⟩ = some (.int .i64 x.1) ∧ w.cell? ⟨b,o + 1,none⟩ = some (.int .i64 x.2.1) ∧ w.cell? ⟨b,o + 2,none⟩ = some (.int .i64 x.2.2) := by
 have h0 := h 0 _ rfl
 have h1 := h 1 _ rfl
 have h2 := h 2 _ rfl
 exact ⟨h0,h1,h2⟩
theorem sl_blk {w : World} {g : Nat} {l : List Int} {T : TypeId} (h : Blk w g (u8A l) T) (f q : Nat) (hl : f + q ≤ l.length) : Sl u8E w (some ⟨g,f,none⟩) q ((l.drop f).take q) := by
 have h0 : Sl u8E w (some ⟨g,0,none⟩) l.length l := ⟨rfl,fun j x hj => ⟨g,0,rfl,h.lt,fun i u hu => by
  cases i with
  | zero =>
    have e : u = .int .u8 x := by
     have : some (Value.int .u8 x) = some u := hu
     injection this with this
     exact this.symm
    rw [e]
    show w.cell? ⟨g,0 + j * 1 + 0,none⟩ = _
    rw [Nat.zero_add,Nat.mul_one,Nat.add_zero,h.cell j]
    unfold u8A
    rw [List.getElem?_toArray,List.getElem?_map,hj]
    rfl
  | succ i =>
    have : (none : Option Value) = some u := hu
    cases this⟩⟩
 have h1 := (h0.drop f).take q (by omega)
 have e : 0 + f * u8E.size = f := by show 0 + f * 1 = f; omega
 rw [e] at h1
 exact h1
theorem slice64 (w : World) (g f q : Nat) (h : f + q ≤ 64) (hq : 1 ≤ q) : (Instr.sliceAt 184 (.pointer (some ⟨g,0,none⟩)) (some (.int .i64 (f : Int))) (some (.int .i64 ((f : Int) + (q : Int)))) none).run Tryz.prog w = .ok (.slice (some ⟨g,f,none⟩) q (64 - f)) w := by
 have ht : Tryz.prog.underlying 184 = some (.array (Tryz.prog.arrayLen 184) (Tryz.prog.elem 184)) := by kernel_rfl
 have e64 : Tryz.prog.arrayLen 184 = 64 := by kernel_rfl
 have ee : Tryz.prog.elem 184 = 5 := by kernel_rfl
 rw [run_sliceAt_array_lh w 184 ⟨g,0,none⟩ ht .i64 .i64 (f : Int) ((f : Int) + (q : Int)) (by omega) (by omega) (by rw [e64]; omega),ee,Tryz.sizeOf5,e64]
 have h1 : ((f : Int) + (q : Int)).toNat = f + q := by omega
 rw [h1,Int.toNat_natCast]
 unfold slicedAt
 show Result.ok (Value.slice (some (if 64 = f then (⟨g,0,none⟩ : Addr) else (⟨g,0,none⟩ : Addr).add (f * 1))) (f + q - f) (64 - f)) w = _
 rw [if_neg (by omega),Nat.add_sub_cancel_left,Nat.mul_one]
 simp [Addr.add]
 exact fun h => h.symm
theorem wpList_slice {P : Program} {w : World} {ops : Array Oper} {rest : List Oper} {o : Oper} {a : Act} {Q : Exit → Act → World → Prop} (hgd : o.guard = none) (t : TypeId) (x : Operand) (lo hi mx : Option Operand) (ho : o.op = .slice t x lo hi mx) (r : Value) (hr : (Instr.sliceAt t (a.eval x) (lo.map a.eval) (hi.map a.eval) (mx.map a.eval)).run P w = .ok r w) (h : wpList P ops Q rest (a.put o.dst r) w) : wpList P ops Q (o :: rest) a w := by
 refine wpList_plain hgd fun K hK => ?_
 unfold Oper.wp execOp
 simp only [ho,Sem.run_bind,hr,Result.andThen_ok,Sem.run_pure]
 exact hK _ _ h
theorem so_chg {α : Type} {e : Enc α} {T : TypeId} {S : Nat → Prop} {w w' : World} {base n : Nat} {u : Value} {L : List α} (h : So e T w base u n L) (k : Chg S w w') (hA : ∀ b,u.ownBlock = some b → ¬ S b) : So e T w' base u n L := by
 obtain ⟨h1,h2,h4⟩ := h
 refine ⟨h1,h2,?_⟩
 rcases h4 with h4 | ⟨g,cap,cur,e1,e2,e3,rest⟩
 ·exact .inl h4
 ·have hlt : g < w.heap.size := by
   rcases Nat.lt_or_ge g w.heap.size with h | h
   ·exact h
   ·rw [Array.getElem?_eq_none h] at e3; cases e3
  exact .inr ⟨g,cap,cur,e1,e2,(k.block g hlt (hA g (by rw [e1]; rfl))).trans e3,rest⟩
theorem at_grown {α : Type} {e : Enc α} {T : TypeId} {M M' S0 D0 S D : Nat → Prop} {w0 w w' : World} {v u u' : Value} {s : Vs} {base n : Nat} {L : List α} (hS : Stays Rep) (p : At Rep w0 S0 D0 M w v s S D) (h : So e T w base u n L) (hr : ∀ r,u.ownBlock = some r → M r) (hne : 76 ≠ T ∧ 125 ≠ T) (hg : w.grownBy w' u.ownBlock) (ho : u'.ownBlock = u.ownBlock ∨ u'.ownBlock = some w.heap.size) {n' : Nat} {L' : List α} (h' : So e T w' base u' n' L') (hM : ∀ b,M' b → M b ∨ u'.ownBlock = some b) : At Rep w0 S0 D0 M' w' v s S D := by
 have q := p.grown hS h hr hne hg
 refine ⟨q.rep,q.st,fun b hb => ?_⟩
 rcases hM b hb with h1 | h1
 ·exact q.mine b h1
 ·rcases ho with h2 | h2
  ·exact q.mine b (hr b (by rw [← h2]; exact h1))
  ·rw [h2] at h1
   injection h1 with h1
   subst h1
   have h3 := p.st.chg.size
   exact ⟨h3,(h'.lt h2).2,fun hd => by have := hS.lt p.rep _ hd; omega⟩
theorem read_calls (hW : Wk Rep) (hK : LookOk Rep) {w : World} {v : Value} {s : Vs} {S D : Nat → Prop} (ino a n : Int) (hr : Rep w v s S D) (hl : Lim s) (h0 : 0 ≤ ino) (h1 : ino ≤ 4294967295) (a0 : 0 ≤ a) (a1 : a ≤ 9223372036854775807) (n0 : -9223372036854775808 ≤ n) (n1 : n ≤ 9223372036854775807) (hv : ∀ q,0 ≤ q → q ≤ 63 → (valL ((getL (kD ino q) s.shown).map (·.value))).length ≤ 64) :
 Calls Tryz.prog 106 #[v,.int .u32 ino,.int .i64 a,.int .i64 n] w (fun e w' => ∃ u m S' D',e = .returned u ∧ So u8E 5 w' w.heap.size u m (rdL s.shown ino (cutL a n)) ∧ Rep w' v s S' D' ∧ Stp S D S' D' w w' ∧ ∀ b,u.ownBlock = some b → ¬ D' b) := by
 have HG := hQ_ (fun (q : Int) (w1 : World) (S1 D1 : Nat → Prop) (hr1 : Rep w1 v s S1 D1) (b0 : 0 ≤ q) (b1 : q ≤ 63) => get_calls hW hK ino q hr1 hl h0 h1 b0 (by omega) (hv q b0 b1))
 have HC := hQ_ (cut_ok a n w (by omega) a1 n0 n1)
 unfold CutE at HC
 have HS := hQ_ hW.stays
 have A0 := hQ_ (At.start hr)
 have HPO : Hid (∀ p ∈ cutL a n,PcOk p) := hQ_ cutL_ok
 have HPL := hQ_ (cutL_len a n)
 generalize cutL a n = P at *
 clear hr hl hW hK hv h0 h1 a0 a1 n0 n1
 go_enter Tryz.func106,Tryz.ntmps106
 go_wp2_with fail
 refine HC.out.mono ?_
 rintro e w1 ⟨PA,pn,pc,rfl,hso,hb1⟩
 have HP := hQ_ hso
 clear hso
 have HPA : Hid (∀ b o,PA = some ⟨b,o,none⟩ → w.heap.size ≤ b ∧ b < w1.heap.size) := hQ_ (fun b o e => HP.out.lt (by rw [e]; rfl))
 have A2 := hQ_ (A0.out.owns HS.out hb1 (Q := fun b => ∃ o,PA = some ⟨b,o,none⟩) (fun b ⟨o,e⟩ => HPA.out b o e))
 clear hb1
 go_wp2_with fail
 go_loopw [9,20] (fun u i wr => ∃ (k m : Nat) (S' D' : Nat → Prop),i = .int .i64 k ∧ k ≤ pn ∧ Hid (So u8E 5 wr w.heap.size u m (rdL s.shown ino (P.take k))) ∧ Hid (At Rep w S D (fun b => u.ownBlock = some b ∨ ∃ o,PA = some ⟨b,o,none⟩) wr v s S' D') ∧ Hid (So trE 183 wr w.heap.size (.slice PA pn pc) pn P) ∧ Hid (m ≤ 64 * k)) (fun _ i _ => pn - (intOf i).toNat)
 case atStart => exact ⟨0,0,S,D,rfl,Nat.zero_le _,hQ_ (So.nil_ _ _ _ _),hQ_ (A2.out.less (fun b h => by rcases h with h | h; cases h; exact .inr h)),HP,hQ_ (Nat.zero_le _)⟩
 case round =>
  obtain ⟨k,m,S',D',rfl,hk,HO,HA,HL,HM⟩ := hrel
  by_cases hlt : k < pn
  ·obtain ⟨p,g,o,hp,rfl,hg,hcl⟩ := HL.out.sl.get k hlt
   have hok := HPO.out p (List.mem_of_getElem? hp)
   have HNX := hQ_ (rdL_next s.shown ino hp)
   obtain ⟨p1,p2,p3⟩ := p
   obtain ⟨o1,o2,o3,o4,o5⟩ := hok
   dsimp only at o1 o2 o3 o4 o5
   obtain ⟨f,rfl⟩ : ∃ f : Nat,p2 = (f : Int) := ⟨p2.toNat,by omega⟩
   obtain ⟨q,rfl⟩ : ∃ q : Nat,p3 = (q : Int) := ⟨p3.toNat,by omega⟩
   obtain ⟨c1,c2,c3⟩ := tr_cells hcl
   dsimp only at c1 c2 c3
   go_wp2_with ((with_reducible refine pick (some 23) ?_); refine wpList_load_mid rfl 183 _ rfl g (o + k * 3) rfl [.int .i64 p1,.int .i64 (f : Int),.int .i64 (q : Int)] _ hcl Tryz.underlying183 rfl info3 ?_)
   have Z := Blk.new_ wr #[.int .i64 p1,.int .i64 (f : Int),.int .i64 (q : Int)] 183
   have z1 : _ = some (Value.int .i64 p1) := Z.cell 0
   have z2 : _ = some (Value.int .i64 (f : Int)) := Z.cell 1
   have z3 : _ = some (Value.int .i64 (q : Int)) := Z.cell 2
   have hb2 : Below wr.heap.size wr (wr.alloc (.cells #[.int .i64 p1,.int .i64 (f : Int),.int .i64 (q : Int)] 183)).drew := (bW_).drew
   have A3 := hQ_ (HA.out.below HS.out hb2)
   have O3 := hQ_ (HO.out.below hb2)
   have L3 := hQ_ (HL.out.below hb2)
   have G3 := hQ_ (HG.out p1 _ _ _ A3.out.rep o1 o2)
   clear hcl c1 c2 c3 hb2
   go_region
   clear z1 z2 z3 Z
   go_wp2_with fail
   refine G3.out.mono ?_
   rintro e w4 ⟨S4,D4,rfl,hr4,st4⟩
   have A4 := hQ_ (A3.out.step HS.out hr4 st4)
   have O4 := hQ_ (so_chg O3.out st4.chg (fun b hb => A3.out.apart HS.out (.inl hb)))
   have L4 := hQ_ (so_chg L3.out st4.chg (fun b hb => by cases hb; exact A3.out.apart HS.out (.inr ⟨o,rfl⟩)))
   clear hr4 st4
   unfold BlkV
   have hgl := getB_len s.shown ino p1
   have HPC : Hid (pcB s.shown ino (p1,(f : Int),(q : Int)) = ((getB s.shown ino p1).drop f).take q) := hQ_ (by unfold pcB; rw [Int.toNat_natCast,Int.toNat_natCast])
   generalize getB s.shown ino p1 = l at *
   have hbz := bN_ w4 (.cells Z64 184)
   have R5 : Hid (Blk (w4.alloc (.cells Z64 184)) w4.heap.size (u8A (List.replicate 64 0)) 184) := hQ_ (Blk.new_ w4 Z64 _)
   go_wp2_with ((with_reducible refine pick none ?_); refine store_blk rfl 184 _ _ rfl w4.heap.size (u8A l) rfl rfl 184 _ R5.out (by rw [u8A_size,hgl]; exact info64) (by rw [u8A_size,u8A_size,hgl,List.length_replicate]) (u8A_all _) ?_; intro w5 hk5 hg5)
   have HB5 : Below w4.heap.size w4 w5 := hbz.grown hg5 hbz.size (fun k hk => by injection hk with hk; omega)
   have A5 := hQ_ (A4.out.below HS.out HB5)
   have O5 := hQ_ (O4.out.below HB5)
   have L5 := hQ_ (L4.out.below HB5)
   have K5 := hQ_ (sl_blk hk5 f q (by omega))
   rw [← HPC.out] at K5
   have hz5 := A5.out.size
   have hm := HM.out
   have hln := HP.out.1
   have hpl := HPL.out
   go_wp2_with fail
   rw [slice64 w5 w4.heap.size f q (by omega) (by omega)]
   rw [Result.andThen_ok]
   unfold Oper.upon
   dsimp only
   refine (‹∀ (a : Act) (w : World),wpList Tryz.prog _ _ _ a w → _›) _ _ ?_
   refine wpList_append_lst u8E 5 rfl _ _ _ rfl Tryz.underlying39 info_u8 rfl w.heap.size u9 m (rdL s.shown ino (P.take k)) rfl O5.out w4.heap.size f q (64 - f) (pcB s.shown ino (p1,(f : Int),(q : Int))) rfl K5.out (m + q) rfl (rdL s.shown ino (P.take (k + 1))) HNX.out (by unfold maxLen; omega) (by omega) hz5 ?_
   intro v6 w6 ho6 hg6 hat6 _
   go_wp2_with fail
   have A6 := hQ_ (at_grown (M' := fun b => v6.ownBlock = some b ∨ ∃ o',(some ⟨g,o,none⟩ : Option Addr) = some ⟨b,o',none⟩) HS.out A5.out O5.out (fun r e => .inl e) (by decide) hg6 hat6 ho6 (fun b hb => by
    rcases hb with hb | hb
    ·exact .inr hb
    ·exact .inl (.inr hb)))
   have L6 := hQ_ (L5.out.grown hg6 (L5.out.ne O5.out (by decide)))
   go_roundw
   case rel => exact ⟨k + 1,m + q,S4,D4,by go_num,by omega,hQ_ ho6,A6,L6,hQ_ (by omega)⟩
   case measure => simp [intOf]; omega
  ·obtain rfl : k = pn := by omega
   have hPk : P.take k = P := List.take_of_length_le (by rw [HP.out.1]; exact Nat.le_refl _)
   have hO := HO.out
   rw [hPk] at hO
   have A9 := HA
   go_wp2_with fail
   go_ret
   exact ⟨_,_,S',D',rfl,hO,A9.out.rep,A9.out.st,fun b hb => (A9.out.mine b (.inl hb)).2.2⟩
end Go.Proofs.YtogdjbhjgbnicaaGreatDoor.FileKd
namespace Go.Proofs.YtogdjbhjgbnicaaGreatDoor.DirsX
open FileM Byte PackM KeysM TreeM ViewM ViewKm NodeM NamesM WalkM WalkF WalkKm DirsM DirsV
def gk (L : List Pr) (k : ByteArray) : Option ByteArray := (getL k L).map (·.value)
abbrev Gf := ByteArray → Option ByteArray
def setG (g : Gf) (p : Pr) : Gf := fun k => if k = p.key then (if p.gone = true then none else some p.value) else g k
theorem get_iff {L : List Pr} (hr : Rise L) {k : ByteArray} {p : Pr} : getL k L = some p ↔ p ∈ L ∧ p.key = k :=
 ⟨fun h => ⟨List.mem_of_find?_eq_some h,by simpa using List.find?_some h⟩,fun ⟨h1,h2⟩ => by rw [← h2]; exact get_mem hr h1⟩
theorem gk_done {L : List Pr} (hr : Rise L) (p : Pr) : gk (doneW L p) = setG (gk L) p := by
 funext k
 unfold gk setG
 have hr2 := rise_done hr p
 by_cases hk : k = p.key
 ·rw [if_pos hk]
  by_cases hg : p.gone = true
  ·rw [if_pos hg,get_none' (fun q hq e => by
    rcases mem_done.1 hq with ⟨h1,_⟩ | ⟨_,h2⟩
    ·rw [hg] at h1; cases h1
    ·exact h2 (by rw [e,hk]))]
   rfl
  ·rw [if_neg hg,(get_iff hr2 (p := ⟨p.key,p.value,false⟩)).2 ⟨mem_done.2 (.inl ⟨by simpa using hg,rfl⟩),hk.symm⟩]
   rfl
 ·rw [if_neg hk]
  cases hq : getL k L with
  | none =>
    rw [get_none' (fun q hq2 e => by
     rcases mem_done.1 hq2 with ⟨_,h1⟩ | ⟨h1,_⟩
     ·rw [h1] at e; exact hk e.symm
     ·exact get_none hq q h1 e)]
    show _ = Option.map _ (getL k L); rw [hq]
  | some q =>
    have h1 := (get_iff hr).1 hq
    rw [(get_iff hr2 (p := q)).2 ⟨mem_done.2 (.inr ⟨h1.1,fun e => hk (by rw [← h1.2,e])⟩),h1.2⟩]
    show _ = Option.map _ (getL k L); rw [hq]
theorem gone_done {L : List Pr} (h : ∀ p ∈ L,p.gone = false) (q : Pr) : ∀ p ∈ doneW L q,p.gone = false := fun p hp => by
 rcases mem_done.1 hp with ⟨_,h1⟩ | ⟨h1,_⟩
 ·rw [h1]
 ·exact h p h1
def outW (L : List Pr) : List Wrt → List Pr
 | [] => L
 | p :: ps => outW (doneW L (p L)) ps
theorem go_out : ∀ (ps : List Wrt) {s : Vs},s.Ok → (goW s ps).2 = true → (goW s ps).1.shown = outW s.shown ps ∧ (goW s ps).1.Ok
 | [],s,ho,_ => ⟨rfl,ho⟩
 | p :: ps,s,ho,h => by
   cases hf : fullW s.wr (p s.shown) with
   | true => rw [goW_full hf] at h; cases h
   | false =>
     rw [goW_room hf] at h ⊢
     have h1 : (s.write (p s.shown)).shown = doneW s.shown (p s.shown) := by
      unfold Vs.write
      rw [if_neg (by rw [hf]; decide)]
      exact shown_write ho.base ho.wr _
     have h2 := go_out ps (ok_write ho _) h
     rw [h1] at h2
     exact h2
def loadG (g : Gf) (i : Int) : Ino × Bool := match g (kI i) with
 | none => if i = 1 then (⟨2,2,0,1⟩,true) else (ino0,false)
 | some v => if gok v then (⟨gk v,gl v,gs v,gp v⟩,true) else (ino0,false)
where gk := NodeM.gk
theorem load_g (L : List Pr) (i : Int) : loadM L i = loadG (gk L) i := by
 unfold loadM loadG gk
 cases getL (kI i) L <;> rfl
theorem kD_inj {i j v w : Int} (h0 : 0 ≤ i) (h1 : i ≤ 4294967295) (j0 : 0 ≤ j) (j1 : j ≤ 4294967295) (hv : 0 ≤ v ∧ v ≤ 65535) (hw : 0 ≤ w ∧ w ≤ 65535) (h : kD i v = kD j w) : i = j ∧ v = w := by
 have x := sp_D i v h0 h1 hv.1 hv.2
 rw [h,sp_D j w j0 j1 hw.1 hw.2] at x
 injection x with _ x _ y
 exact ⟨x.symm,y.symm⟩
section
variable {F : Fs} {π : Int → Int} {g : Gf}
theorem setG_same (g : Gf) (p : Pr) : setG g p p.key = if p.gone = true then none else some p.value := if_pos rfl
theorem setG_ne (g : Gf) {p : Pr} {k : ByteArray} (h : k ≠ p.key) : setG g p k = g k := if_neg h
end
end Go.Proofs.YtogdjbhjgbnicaaGreatDoor.DirsX
namespace Go.Proofs.YtogdjbhjgbnicaaGreatDoor.FileN
open Byte PackM KeysM TreeM ViewKm WalkM WalkF WalkKm DirsV DirsX FileM FileV
open NodeM hiding gk
open ViewM hiding putP
def pf (l : List Int) : Nat → Int := fun i => l.getD i 0
theorem pf_far {l : List Int} {i : Nat} (h : l.length ≤ i) : l.getD i 0 = 0 := by
 rw [List.getD_eq_getElem?_getD,List.getElem?_eq_none h]; rfl
theorem take_get (l : List Int) (n i : Nat) : (l.take n).getD i 0 = if i < n then l.getD i 0 else 0 := by
 rw [List.getD_eq_getElem?_getD,List.getElem?_take]
 split
 ·rw [List.getD_eq_getElem?_getD]
 ·rfl
theorem drop_get (l : List Int) (n i : Nat) : (l.drop n).getD i 0 = l.getD (n + i) 0 := by
 rw [List.getD_eq_getElem?_getD,List.getElem?_drop,List.getD_eq_getElem?_getD]
theorem app_get (l m : List Int) (i : Nat) : (l ++ m).getD i 0 = if i < l.length then l.getD i 0 else m.getD (i - l.length) 0 := by
 rw [List.getD_eq_getElem?_getD]
 split
 ·rename_i h
  rw [List.getElem?_append_left h,List.getD_eq_getElem?_getD]
 ·rename_i h
  rw [List.getElem?_append_right (by omega),List.getD_eq_getElem?_getD]
def bfun (φ : Nat → Int) (q : Nat) : List Int := (List.range 64).map fun i => φ (64 * q + i)
theorem bfun_len (φ : Nat → Int) (q : Nat) : (bfun φ q).length = 64 := by unfold bfun; simp
theorem bfun_get (φ : Nat → Int) (q i : Nat) : (bfun φ q).getD i 0 = if i < 64 then φ (64 * q + i) else 0 := by
 split
 ·rename_i h
  unfold bfun
  rw [List.getD_eq_getElem?_getD,List.getElem?_map,List.getElem?_range h]; rfl
 ·rename_i h
  exact pf_far (by rw [bfun_len]; omega)
theorem bfun_congr {φ ψ : Nat → Int} {q : Nat} (h : ∀ i,i < 64 → φ (64 * q + i) = ψ (64 * q + i)) : bfun φ q = bfun ψ q := by
 unfold bfun
 exact List.map_congr_left fun i hi => h i (List.mem_range.1 hi)
def bG (φ : Nat → Int) (w : Int) : Option ByteArray := if cut0 (bfun φ w.toNat) = [] then none else some (str (cut0 (bfun φ w.toNat)))
theorem bG_congr {φ ψ : Nat → Int} {w : Int} (h : ∀ i,i < 64 → φ (64 * w.toNat + i) = ψ (64 * w.toNat + i)) : bG φ w = bG ψ w := by unfold bG; rw [bfun_congr h]
def Byt (φ : Nat → Int) : Prop := ∀ i,0 ≤ φ i ∧ φ i ≤ 255
theorem byt_pf {l : List Int} (h : ∀ x ∈ l,0 ≤ x ∧ x ≤ 255) : Byt (pf l) := fun i => by
 unfold pf
 rw [List.getD_eq_getElem?_getD]
 cases e : l[i]? with
 | none => exact ⟨by decide,by decide⟩
 | some x => exact h x (List.mem_of_getElem? e)
theorem bfun_bd {φ : Nat → Int} (h : Byt φ) (q : Nat) : ∀ x ∈ bfun φ q,0 ≤ x ∧ x ≤ 255 := fun x hx => by
 unfold bfun at hx
 obtain ⟨i,_,rfl⟩ := List.mem_map.1 hx
 exact h _
theorem val_fun {φ : Nat → Int} (h : Byt φ) (w : Int) : valL (bG φ w) = cut0 (bfun φ w.toNat) := by
 unfold bG
 split
 ·rename_i e; rw [e]; rfl
 ·exact txt_str _ (fun x hx => bfun_bd h _ x (cut0_mem hx))
theorem pad_self {n : Nat} {l : List Int} (h : l.length = n) : pad n l = l := by
 unfold pad
 rw [← h,List.take_left']
 rfl
section
variable {L : List Pr} {ino : Int} {φ : Nat → Int}
def putF (φ : Nat → Int) (a : Nat) (xs : List Int) : Nat → Int := fun i => if a ≤ i ∧ i < a + xs.length then xs.getD (i - a) 0 else φ i
theorem putF_nil (φ : Nat → Int) (a : Nat) : putF φ a [] = φ := by
 funext i
 exact if_neg (by rw [List.length_nil]; omega)
theorem putF_app (φ : Nat → Int) (a : Nat) (xs ys : List Int) : putF (putF φ a xs) (a + xs.length) ys = putF φ a (xs ++ ys) := by
 funext i
 unfold putF
 rw [List.length_append,app_get]
 by_cases h1 : a + xs.length ≤ i ∧ i < a + xs.length + ys.length
 ·rw [if_pos h1,if_pos (by omega),if_neg (by omega)]
  congr 1
  omega
 ·rw [if_neg h1]
  by_cases h2 : a ≤ i ∧ i < a + xs.length
  ·rw [if_pos h2,if_pos (by omega),if_pos (by omega)]
  ·rw [if_neg h2,if_neg (by omega)]
theorem byt_putF (h : Byt φ) {a : Nat} {xs : List Int} (hx : ∀ x ∈ xs,0 ≤ x ∧ x ≤ 255) : Byt (putF φ a xs) := fun i => by
 unfold putF
 split
 ·exact byt_pf hx _
 ·exact h i
theorem setB_get (l xs : List Int) (f i : Nat) (h : f ≤ l.length) : (setB l xs f).getD i 0 = putF (pf l) f xs i := by
 unfold setB putF pf
 rw [app_get,List.length_take,take_get,app_get,drop_get]
 by_cases h1 : i < f
 ·rw [if_pos (by omega),if_pos h1,if_neg (by omega)]
 ·rw [if_neg (by omega)]
  by_cases h2 : i < f + xs.length
  ·rw [if_pos (by omega),if_pos (by omega)]
   congr 1
   omega
  ·rw [if_neg (by omega),if_neg (by omega)]
   congr 1
   omega
theorem setB_fun (φ : Nat → Int) (q f : Nat) (xs : List Int) (h : f + xs.length ≤ 64) : setB (bfun φ q) xs f = bfun (putF φ (64 * q + f) xs) q := by
 have e : (setB (bfun φ q) xs f).length = 64 := by rw [setB_len _ _ _ (by rw [bfun_len]; exact h),bfun_len]
 refine List.ext_getElem (by rw [e,bfun_len]) (fun i h1 h2 => ?_)
 have a1 : (setB (bfun φ q) xs f).getD i 0 = (setB (bfun φ q) xs f)[i] := by rw [List.getD_eq_getElem?_getD,List.getElem?_eq_getElem h1]; rfl
 have a2 : (bfun (putF φ (64 * q + f) xs) q).getD i 0 = (bfun (putF φ (64 * q + f) xs) q)[i] := by rw [List.getD_eq_getElem?_getD,List.getElem?_eq_getElem h2]; rfl
 have hi : i < 64 := by rw [bfun_len] at h2; exact h2
 rw [← a1,← a2,setB_get _ _ _ _ (by rw [bfun_len]; omega),bfun_get,if_pos hi]
 unfold putF pf
 rw [bfun_get,if_pos hi]
 by_cases h3 : f ≤ i ∧ i < f + xs.length
 ·rw [if_pos h3,if_pos (by omega)]
  congr 1
  omega
 ·rw [if_neg h3,if_neg (by omega)]
theorem drp_map (L : List Pr) (ino from_ : Int) : drpPs L ino from_ = ((L.filter (blkF ino from_)).map (·.key)).map delP := by
 unfold drpPs
 rw [List.map_map]
 rfl
end
end Go.Proofs.YtogdjbhjgbnicaaGreatDoor.FileN